import PyProof.Rows.All
import Wide.All
import OpenK.AllK
import Wide.FinOn
import PySem.Challenge.RW_nestboards_k23_whole_others
import HandS.Ends
import HandS.Evl
import HandS.Wide
import HandS.WideBits
import HandS.ForMost
import HandS.ForExc
import HandS.Style
import HandS.IsInst
import HandS.SortInts
import HandS.Conv
import HandS.CallLocal
import KE.IntBitsLaws

set_option Elab.async false
set_option linter.all false
set_option maxRecDepth 100000
/-! VmA: a layer of my own over HandS: expressions and statements as plain functions on environments of deep values. -/
namespace Vm
open PySem PySem.Spec PyProof.Rows L2 Evl

/-! ### deep values -/
inductive D where
  | non | bl (b : Bool) | int (i : Int) | str (s : Str) | ref (a : Addr) | ty (n : String)
  | lst (xs : List D) | tup (xs : List D) | dct (ks : List Key) (xs : List D) | scr (ns : List Int)

mutual
inductive Rep (K : PySem.W.Frag) (B : Hp) : V → D → Prop
  | non : Rep K B .non .non
  | bl (b : Bool) : Rep K B (.bl b) (.bl b)
  | int (i : Int) : Rep K B (.int i) (.int i)
  | str (x : Str) : Rep K B (.str x) (.str x)
  | ref (a : Addr) : Rep K B (.ref a) (.ref a)
  | ty (n : String) : Rep K B (.ty n) (.ty n)
  | lst {a : Addr} {vs : List V} {xs : List D} : B a = some (.lst vs) → RepAll K B vs xs → Rep K B (.ref a) (.lst xs)
  | scr {a : Addr} {ns : List Int} : SqL K B a (ns.map V.int) → Rep K B (.ref a) (.scr ns)
  | tup {a : Addr} {vs : List V} {xs : List D} : SqT K B a vs → RepAll K B vs xs → Rep K B (.ref a) (.tup xs)
  | dct {a : Addr} {kvs : List (Key × V)} {xs : List D} : B a = some (.dK kvs) → RepAll K B (kvs.map (·.2)) xs → Rep K B (.ref a) (.dct (kvs.map (·.1)) xs)
inductive RepAll (K : PySem.W.Frag) (B : Hp) : List V → List D → Prop
  | nil : RepAll K B [] []
  | cons {v : V} {vs : List V} {d : D} {xs : List D} : Rep K B v d → RepAll K B vs xs → RepAll K B (v :: vs) (d :: xs)
end

section
variable {K : PySem.W.Frag} {B B' H H' : Hp}
mutual
theorem Rep.mono (e : Ex B B') {v : V} {d : D} (h : Rep K B v d) : Rep K B' v d := by
  cases h with
  | non => exact .non
  | bl b => exact .bl b
  | int i => exact .int i
  | str x => exact .str x
  | ref a => exact .ref a
  | ty n => exact .ty n
  | lst h1 h2 => exact .lst (e _ _ h1) (RepAll.mono e h2)
  | scr h1 => exact .scr (ex_l e h1)
  | tup h1 h2 => exact .tup (ex_t e h1) (RepAll.mono e h2)
  | dct h1 h2 => exact .dct (e _ _ h1) (RepAll.mono e h2)
theorem RepAll.mono (e : Ex B B') {vs : List V} {xs : List D} (h : RepAll K B vs xs) : RepAll K B' vs xs := by
  cases h with
  | nil => exact .nil
  | cons h1 h2 => exact .cons (Rep.mono e h1) (RepAll.mono e h2)
end
theorem RepAll.length : ∀ {vs : List V} {xs : List D}, RepAll K B vs xs → vs.length = xs.length
  | _, _, .nil => rfl
  | _, _, .cons _ t => congrArg (· + 1) (RepAll.length t)
theorem RepAll.get : ∀ {vs : List V} {xs : List D} {i : Nat} {d : D}, RepAll K B vs xs → xs[i]? = some d → ∃ v, vs[i]? = some v ∧ Rep K B v d
  | _, _, _, _, .nil, h => by simp at h
  | _, _, 0, d, .cons (v := v) h t, e => by
    simp at e
    subst e
    exact ⟨v, rfl, h⟩
  | _, _, i + 1, d, .cons h t, e => by
    obtain ⟨v, e1, r⟩ := RepAll.get (i := i) t (by simpa using e)
    exact ⟨v, by simpa using e1, r⟩
theorem RepAll.getV : ∀ {vs : List V} {xs : List D} {i : Nat} {v : V}, RepAll K B vs xs → vs[i]? = some v → ∃ d, xs[i]? = some d ∧ Rep K B v d
  | _, _, _, _, .nil, h => by simp at h
  | _, _, 0, v, .cons (d := d) h t, e => by
    simp at e
    subst e
    exact ⟨d, rfl, h⟩
  | _, _, i + 1, v, .cons h t, e => by
    obtain ⟨d, e1, r⟩ := RepAll.getV (i := i) t (by simpa using e)
    exact ⟨d, by simpa using e1, r⟩
theorem RepAll.append : ∀ {vs ws : List V} {xs ys : List D}, RepAll K B vs xs → RepAll K B ws ys → RepAll K B (vs ++ ws) (xs ++ ys)
  | _, _, _, _, .nil, h => h
  | _, _, _, _, .cons a t, h => .cons a (RepAll.append t h)
theorem RepAll.one {v : V} {d : D} (h : Rep K B v d) : RepAll K B [v] [d] := .cons h .nil
theorem RepAll.set {v : V} {d : D} (h : Rep K B v d) : ∀ {vs : List V} {xs : List D} (i : Nat), RepAll K B vs xs → RepAll K B (vs.set i v) (xs.set i d)
  | _, _, _, .nil => .nil
  | _, _, 0, .cons a t => .cons h t
  | _, _, i + 1, .cons a t => .cons a (RepAll.set h i t)
theorem RepAll.take : ∀ {vs : List V} {xs : List D} (i : Nat), RepAll K B vs xs → RepAll K B (vs.take i) (xs.take i)
  | _, _, 0, _ => .nil
  | _, _, _ + 1, .nil => .nil
  | _, _, i + 1, .cons a t => .cons a (RepAll.take i t)
theorem RepAll.drop : ∀ {vs : List V} {xs : List D} (i : Nat), RepAll K B vs xs → RepAll K B (vs.drop i) (xs.drop i)
  | _, _, 0, h => h
  | _, _, _ + 1, .nil => .nil
  | _, _, i + 1, .cons a t => RepAll.drop i t
theorem RepAll.eraseIdx : ∀ {vs : List V} {xs : List D} (i : Nat), RepAll K B vs xs → RepAll K B (vs.eraseIdx i) (xs.eraseIdx i)
  | _, _, _, .nil => .nil
  | _, _, 0, .cons a t => t
  | _, _, i + 1, .cons a t => .cons a (RepAll.eraseIdx i t)
theorem RepAll.reverse : ∀ {vs : List V} {xs : List D}, RepAll K B vs xs → RepAll K B vs.reverse xs.reverse
  | _, _, .nil => .nil
  | _, _, .cons a t => by
    rw [List.reverse_cons, List.reverse_cons]
    exact RepAll.append (RepAll.reverse t) (.one a)
theorem RepAll.ints : ∀ {vs : List V} {ns : List Int}, RepAll K B vs (ns.map D.int) → vs = ns.map V.int
  | _, [], h => by cases h; rfl
  | _, n :: ns, h => by
    cases h with
    | cons a t =>
      cases a
      rw [RepAll.ints t]
      rfl
theorem RepAll.of_ints : ∀ (ns : List Int), RepAll K B (ns.map V.int) (ns.map D.int)
  | [] => .nil
  | n :: ns => .cons (.int n) (RepAll.of_ints ns)
theorem RepAll.bls : ∀ {vs : List V} {ns : List Bool}, RepAll K B vs (ns.map D.bl) → vs = ns.map V.bl
  | _, [], h => by cases h; rfl
  | _, n :: ns, h => by
    cases h with
    | cons a t =>
      cases a
      rw [RepAll.bls t]
      rfl
theorem RepAll.strs : ∀ {vs : List V} {ns : List Str}, RepAll K B vs (ns.map D.str) → vs = ns.map V.str
  | _, [], h => by cases h; rfl
  | _, n :: ns, h => by
    cases h with
    | cons a t =>
      cases a
      rw [RepAll.strs t]
      rfl
theorem Rep.list {v : V} {xs : List D} (h : Rep K B v (.lst xs)) : ∃ a vs, v = .ref a ∧ B a = some (.lst vs) ∧ RepAll K B vs xs := by
  cases h with
  | lst h1 h2 => exact ⟨_, _, rfl, h1, h2⟩
theorem Rep.tuple {v : V} {xs : List D} (h : Rep K B v (.tup xs)) : ∃ a vs, v = .ref a ∧ SqT K B a vs ∧ RepAll K B vs xs := by
  cases h with
  | tup h1 h2 => exact ⟨_, _, rfl, h1, h2⟩
end

/-! ### environments -/
/-- a slot: nothing known; a value that is never changed; a list of the function's own -/
inductive Sl where
  | un | sh (d : D) | ow (xs : List D)
abbrev En := List Sl

structure Ctx where
  K : PySem.W.Frag
  G : Hp
  B0 : Hp
  fix : List Nat
  σ0 : L2.St

def SlOk (K : PySem.W.Frag) (G B H : Hp) : Sl → Option (Option V) → Prop
  | .un, _ => True
  | .sh d, o => ∃ v, o = some (some v) ∧ Rep K B v d
  | .ow xs, o => ∃ p vs, o = some (some (.ref p)) ∧ B p = none ∧ G p = none ∧ H p = some (.lst vs) ∧ RepAll K B vs xs

/-- no own slot stands at q -/
def Off (env : En) (σ : L2.St) (q : Addr) : Prop := ∀ (i : Nat) (ys : List D), env[i]? = some (.ow ys) → σ[i]? ≠ some (some (.ref q))

structure SR (C : Ctx) (B : Hp) (env : En) (σ : L2.St) (H : Hp) : Prop where
  exG : Ex C.G H
  exB : Ex B H
  ex0 : Ex C.B0 B
  new : ∀ q, B q ≠ none → C.B0 q ≠ none ∨ C.G q = none
  len : σ.length = env.length
  sl : ∀ (i : Nat) (s : Sl), env[i]? = some s → SlOk C.K C.G B H s σ[i]?
  dis : ∀ (i j : Nat) (p : Addr) (xs ys : List D), env[i]? = some (.ow xs) → env[j]? = some (.ow ys) → σ[i]? = some (some (.ref p)) → σ[j]? = some (some (.ref p)) → i = j
  fx : ∀ j ∈ C.fix, σ[j]? = C.σ0[j]?

/-- results: a value; the own list of a slot; a new list -/
inductive R where
  | val (d : D) | al (i : Nat) | fr (xs : List D)

def RepR (C : Ctx) (B : Hp) (env : En) (σ : L2.St) (H : Hp) (v : V) : R → Prop
  | .val d => Rep C.K B v d
  | .al i => σ[i]? = some (some v)
  | .fr xs => ∃ p vs, v = .ref p ∧ B p = none ∧ C.G p = none ∧ H p = some (.lst vs) ∧ RepAll C.K B vs xs ∧ Off env σ p

/-- an expression: its reading t goes as f says -/
def SE (K : PySem.W.Frag) (t : TE) (f : En → Option (R × En)) : Prop :=
  ∀ C : Ctx, C.K = K → ∀ (B : Hp) (env : En) (σ : L2.St) (H : Hp) (r : R) (env' : En), SR C B env σ H → f env = some (r, env') →
    ∀ Q : VK, (∀ v B' H', SR C B' env' σ H' → Ex B B' → RepR C B' env' σ H' v r → Q v H') → t σ H Q

/-- a test -/
def ST (K : PySem.W.Frag) (t : TT) (f : En → Option (Bool × En)) : Prop :=
  ∀ C : Ctx, C.K = K → ∀ (B : Hp) (env : En) (σ : L2.St) (H : Hp) (r : Bool) (env' : En), SR C B env σ H → f env = some (r, env') →
    ∀ Q : Bool → Hp → Prop, (∀ B' H', SR C B' env' σ H' → Ex B B' → Q r H') → t σ H Q

/-- what a result holds, read now -/
def look (env : En) : R → Option D
  | .val d => some d
  | .fr xs => some (.lst xs)
  | .al i => match env[i]? with
    | some (.ow xs) => some (.lst xs)
    | some (.sh d) => some d
    | _ => none
/-- a result as a value that is never changed -/
def frz (env : En) : R → Option (D × En)
  | .val d => some (d, env)
  | .fr xs => some (.lst xs, env)
  | .al i => match env[i]? with
    | some (.ow xs) => some (.lst xs, env.set i (.sh (.lst xs)))
    | some (.sh d) => some (d, env)
    | _ => none

/-- to be read now -/
def RepK (K : PySem.W.Frag) (B H : Hp) (v : V) (d : D) : Prop := Rep K B v d ∨ ∃ p vs xs, v = .ref p ∧ d = .lst xs ∧ H p = some (.lst vs) ∧ RepAll K B vs xs

section
variable {K : PySem.W.Frag} {C : Ctx} {B B' G H H' : Hp} {env env' : En} {σ : L2.St} {v : V} {r : R} {d : D}

theorem RepK.list {xs : List D} (e : Ex B H) (h : RepK K B H v (.lst xs)) : ∃ a vs, v = .ref a ∧ H a = some (.lst vs) ∧ RepAll K B vs xs := by
  rcases h with h | ⟨p, vs, ys, rfl, e1, hp, ra⟩
  · obtain ⟨a, vs, rfl, h1, h2⟩ := h.list
    exact ⟨a, vs, rfl, e _ _ h1, h2⟩
  · cases e1
    exact ⟨p, vs, rfl, hp, ra⟩
theorem RepK.scal (h : RepK K B H v d) (hd : ∀ xs, d ≠ .lst xs) : Rep K B v d := by
  rcases h with h | ⟨p, vs, ys, rfl, e1, hp, ra⟩
  · exact h
  · exact absurd e1 (hd _)
theorem RepK.rep (e : Ex B H) (h : RepK K B H v d) : Rep K H v d := by
  rcases h with h | ⟨p, vs, ys, rfl, rfl, hp, ra⟩
  · exact h.mono e
  · exact .lst hp (ra.mono e)
theorem RepK.int {i : Int} (h : RepK K B H v (.int i)) : v = .int i := by
  rcases h with h | ⟨p, vs, ys, rfl, e1, _⟩
  · cases h; rfl
  · cases e1
theorem RepK.bl {i : Bool} (h : RepK K B H v (.bl i)) : v = .bl i := by
  rcases h with h | ⟨p, vs, ys, rfl, e1, _⟩
  · cases h; rfl
  · cases e1
theorem RepK.str {i : Str} (h : RepK K B H v (.str i)) : v = .str i := by
  rcases h with h | ⟨p, vs, ys, rfl, e1, _⟩
  · cases h; rfl
  · cases e1
theorem RepK.non (h : RepK K B H v .non) : v = .non := by
  rcases h with h | ⟨p, vs, ys, rfl, e1, _⟩
  · cases h; rfl
  · cases e1

theorem look_rep (s : SR C B env σ H) (h : RepR C B env σ H v r) (e : look env r = some d) : RepK C.K B H v d := by
  cases r with
  | val x =>
    cases e
    exact .inl h
  | fr xs =>
    cases e
    obtain ⟨p, vs, rfl, _, _, hp, ra, _⟩ := h
    exact .inr ⟨p, vs, xs, rfl, rfl, hp, ra⟩
  | al i =>
    have h : σ[i]? = some (some v) := h
    unfold look at e
    cases q : env[i]? with
    | none => simp only [q] at e; cases e
    | some t =>
      have w := s.sl i t q
      simp only [q] at e
      cases t with
      | un => cases e
      | sh x =>
        cases e
        obtain ⟨u, e1, ru⟩ := w
        rw [h] at e1
        cases e1
        exact .inl ru
      | ow xs =>
        cases e
        obtain ⟨p, vs, e1, _, _, hp, ra⟩ := w
        rw [h] at e1
        cases e1
        exact .inr ⟨p, vs, xs, rfl, rfl, hp, ra⟩

theorem SlOk.mono {s : Sl} {o : Option (Option V)} (e : Ex B B') (k : ∀ p, o = some (some (.ref p)) → (∃ xs, s = .ow xs) → B' p = none ∧ H' p = H p) (h : SlOk K G B H s o) : SlOk K G B' H' s o := by
  cases s with
  | un => trivial
  | sh d =>
    obtain ⟨v, e1, r⟩ := h
    exact ⟨v, e1, r.mono e⟩
  | ow xs =>
    obtain ⟨p, vs, e1, hb, hg, hp, ra⟩ := h
    obtain ⟨k1, k2⟩ := k p e1 ⟨xs, rfl⟩
    exact ⟨p, vs, e1, k1, hg, by rw [k2]; exact hp, ra.mono e⟩

/-- a new object of any kind is tracked, and is data from now on -/
theorem SR.alloc (s : SR C B env σ H) {p : Addr} {o : HO} (hp : H p = none) : SR C (upd B p o) env σ (upd H p o) := by
  have bp : B p = none := fresh_back s.exB hp
  have gp : C.G p = none := fresh_back s.exG hp
  refine ⟨s.exG.trans (Ex.new hp), fun a u e => ?_, s.ex0.trans (Ex.new bp), fun q hq => ?_, s.len, fun i t h => ?_, s.dis, s.fx⟩
  · by_cases h : a = p
    · subst h
      rw [upd_same] at e ⊢
      exact e
    · rw [upd_ne h] at e ⊢
      exact s.exB a u e
  · by_cases h : q = p
    · subst h
      exact .inr gp
    · rw [upd_ne h] at hq
      exact s.new q hq
  · refine (s.sl i t h).mono (Ex.new bp) fun q e ⟨xs, ex⟩ => ?_
    subst ex
    obtain ⟨p', vs, e1, hb, _, hh, _⟩ := s.sl i _ h
    rw [e] at e1
    cases e1
    have ne : q ≠ p := ne_of_none hh hp
    exact ⟨by rw [upd_ne ne]; exact hb, upd_ne ne⟩
/-- a new object is made that is nobody's data -/
theorem SR.temp (s : SR C B env σ H) {p : Addr} {o : HO} (hp : H p = none) : SR C B env σ (upd H p o) := by
  refine ⟨s.exG.trans (Ex.new hp), s.exB.trans (Ex.new hp), s.ex0, s.new, s.len, fun i t h => ?_, s.dis, s.fx⟩
  refine (s.sl i t h).mono (Ex.refl _) fun q e ⟨xs, ex⟩ => ?_
  subst ex
  obtain ⟨p', vs, e1, hb, _, hh, _⟩ := s.sl i _ h
  rw [e] at e1
  cases e1
  exact ⟨hb, upd_ne (ne_of_none hh hp)⟩
theorem SR.off (s : SR C B env σ H) {p : Addr} (hp : H p = none) : Off env σ p := fun i ys h e => by
  obtain ⟨p', vs, e1, hb, _, hh, _⟩ := s.sl i _ h
  rw [e] at e1
  cases e1
  rw [hp] at hh
  cases hh
/-- a new list as a result -/
theorem SR.newL (s : SR C B env σ H) {p : Addr} {vs : List V} {xs : List D} (hp : H p = none) (ra : RepAll C.K B vs xs) : RepR C B env σ (upd H p (.lst vs)) (.ref p) (.fr xs) :=
  ⟨p, vs, rfl, fresh_back s.exB hp, fresh_back s.exG hp, upd_same, ra, s.off hp⟩
/-- a list that is nobody's becomes data -/
theorem SR.take (s : SR C B env σ H) {p : Addr} {vs : List V} (bp : B p = none) (gp : C.G p = none) (hp : H p = some (.lst vs)) (off : Off env σ p) : SR C (upd B p (.lst vs)) env σ H := by
  refine ⟨s.exG, fun a u e => ?_, s.ex0.trans (Ex.new bp), fun q hq => ?_, s.len, fun i t h => ?_, s.dis, s.fx⟩
  · by_cases h : a = p
    · subst h
      rw [upd_same] at e
      cases e
      exact hp
    · rw [upd_ne h] at e
      exact s.exB a u e
  · by_cases h : q = p
    · subst h
      exact .inr gp
    · rw [upd_ne h] at hq
      exact s.new q hq
  · refine (s.sl i t h).mono (Ex.new bp) fun q e ⟨xs, ex⟩ => ?_
    subst ex
    obtain ⟨p', vs', e1, hb, _, hh, _⟩ := s.sl i _ h
    rw [e] at e1
    cases e1
    have ne : q ≠ p := fun z => off i _ h (by rw [e, z])
    exact ⟨by rw [upd_ne ne]; exact hb, rfl⟩
/-- the slot i is told otherwise -/
theorem SR.reslot (s : SR C B env σ H) {i : Nat} {t : Sl} (ht : ∀ xs, t ≠ .ow xs) (h : SlOk C.K C.G B H t σ[i]?) : SR C B (env.set i t) σ H := by
  refine ⟨s.exG, s.exB, s.ex0, s.new, by rw [List.length_set]; exact s.len, fun j u e => ?_, fun j k p xs ys e1 e2 => ?_, s.fx⟩
  · by_cases hj : i = j
    · subst hj
      by_cases hl : i < env.length
      · rw [List.getElem?_set_self hl] at e
        cases e
        exact h
      · rw [List.getElem?_eq_none (by rw [List.length_set]; omega)] at e
        cases e
    · rw [List.getElem?_set_ne hj] at e
      exact s.sl j u e
  · have k1 : env[j]? = some (.ow xs) := by
      by_cases hj : i = j
      · subst hj
        by_cases hl : i < env.length
        · rw [List.getElem?_set_self hl] at e1
          exact absurd (Option.some.inj e1) (ht _)
        · rw [List.getElem?_eq_none (by rw [List.length_set]; omega)] at e1
          cases e1
      · rw [List.getElem?_set_ne hj] at e1
        exact e1
    have k2 : env[k]? = some (.ow ys) := by
      by_cases hj : i = k
      · subst hj
        by_cases hl : i < env.length
        · rw [List.getElem?_set_self hl] at e2
          exact absurd (Option.some.inj e2) (ht _)
        · rw [List.getElem?_eq_none (by rw [List.length_set]; omega)] at e2
          cases e2
      · rw [List.getElem?_set_ne hj] at e2
        exact e2
    exact s.dis j k p xs ys k1 k2
theorem frz_rep (s : SR C B env σ H) (h : RepR C B env σ H v r) (e : frz env r = some (d, env')) : ∃ B', SR C B' env' σ H ∧ Ex B B' ∧ Rep C.K B' v d := by
  cases r with
  | val x =>
    cases e
    exact ⟨B, s, Ex.refl _, h⟩
  | fr xs =>
    cases e
    obtain ⟨p, vs, rfl, bp, gp, hp, ra, off⟩ := h
    exact ⟨_, s.take bp gp hp off, Ex.new bp, .lst upd_same (ra.mono (Ex.new bp))⟩
  | al i =>
    have h : σ[i]? = some (some v) := h
    unfold frz at e
    cases q : env[i]? with
    | none => simp only [q] at e; cases e
    | some t =>
      have w := s.sl i t q
      simp only [q] at e
      cases t with
      | un => cases e
      | sh x =>
        cases e
        obtain ⟨u, e1, ru⟩ := w
        rw [h] at e1
        cases e1
        exact ⟨B, s, Ex.refl _, ru⟩
      | ow xs =>
        cases e
        obtain ⟨p, vs, e1, bp, gp, hp, ra⟩ := w
        rw [h] at e1
        cases e1
        have s1 : SR C B (env.set i .un) σ H := s.reslot (fun xs z => by cases z) trivial
        have off : Off (env.set i .un) σ p := fun j ys e2 e3 => by
          by_cases hj : i = j
          · subst hj
            by_cases hl : i < env.length
            · rw [List.getElem?_set_self hl] at e2
              cases e2
            · rw [List.getElem?_eq_none (by rw [List.length_set]; omega)] at e2
              cases e2
          · rw [List.getElem?_set_ne hj] at e2
            exact hj (s.dis i j p xs ys q e2 h e3)
        have s2 := s1.take bp gp hp off
        have rr : Rep C.K (upd B p (.lst vs)) (.ref p) (.lst xs) := .lst upd_same (ra.mono (Ex.new bp))
        have s3 := s2.reslot (i := i) (t := .sh (.lst xs)) (fun xs z => by cases z) ⟨_, h, rr⟩
        rw [List.set_set] at s3
        exact ⟨_, s3, Ex.new bp, rr⟩
end
end Vm

set_option Elab.async false
set_option linter.all false
set_option maxRecDepth 100000
namespace Vm
open PySem PySem.Spec PyProof.Rows L2 Evl
section
variable {K : PySem.W.Frag} {C : Ctx} {B B' G H H' : Hp} {env env' : En} {σ : L2.St} {v : V} {r : R} {d : D} {ta tb te : TE} {fa fb fe : En → Option (R × En)} {f : En → Option (R × En)}

/-! ### what else stands is kept: the frame -/
def join (G T : Hp) : Hp := fun q => match G q with
  | some o => some o
  | none => T q
theorem join_none {G T : Hp} {q : Addr} (h : join G T q = none) : G q = none ∧ T q = none := by
  unfold join at h
  cases e : G q with
  | none => simp only [e] at h; exact ⟨rfl, h⟩
  | some o => simp only [e] at h; cases h
theorem join_of {G T : Hp} {q : Addr} (h : G q = none) (h2 : T q = none) : join G T q = none := by
  unfold join
  simp only [h]
  exact h2
theorem ex_join {G T H : Hp} (a : Ex G H) (b : Ex T H) : Ex (join G T) H := fun q o e => by
  unfold join at e
  cases z : G q with
  | none => simp only [z] at e; exact b q o e
  | some u => simp only [z] at e; cases e; exact a q _ z
theorem join_ex1 {G T H : Hp} (a : Ex (join G T) H) : Ex G H := fun q o e => a q o (by unfold join; simp only [e])
theorem join_ex2 {G T H : Hp} (g : Ex G H') (t : Ex T H') (a : Ex (join G T) H) : Ex T H := fun q o e => by
  cases z : G q with
  | none => exact a q o (by unfold join; simp only [z]; exact e)
  | some u =>
    have h1 := g q u z
    have h2 := t q o e
    rw [h1] at h2
    cases h2
    exact a q _ (by unfold join; simp only [z])
/-- T: temporary lists, nobody's data -/
structure Tmp (B : Hp) (env : En) (σ : L2.St) (H T : Hp) : Prop where
  ex : Ex T H
  nb : ∀ q, T q ≠ none → B q = none
  off : ∀ q, T q ≠ none → Off env σ q
def Ctx.plus (C : Ctx) (T : Hp) : Ctx := { C with G := join C.G T }
theorem SR.plus (s : SR C B env σ H) {T : Hp} (t : Tmp B env σ H T) : SR (C.plus T) B env σ H := by
  refine ⟨ex_join s.exG t.ex, s.exB, s.ex0, fun q hq => ?_, s.len, fun i u h => ?_, s.dis, s.fx⟩
  · rcases s.new q hq with z | z
    · exact .inl z
    · refine .inr (join_of z ?_)
      cases e : T q with
      | none => rfl
      | some o => exact absurd (t.nb q (by rw [e]; exact fun z => nomatch z)) hq
  · have w := s.sl i u h
    cases u with
    | un => trivial
    | sh d => exact w
    | ow xs =>
      obtain ⟨p, vs, e1, hb, hg, hp, ra⟩ := w
      refine ⟨p, vs, e1, hb, join_of hg ?_, hp, ra⟩
      cases e : T p with
      | none => rfl
      | some o => exact absurd e1 (t.off p (by rw [e]; exact fun z => nomatch z) i xs h)
theorem SR.minus {T H0 : Hp} (g : Ex C.G H0) (e : Ex T H0) (nb : ∀ q, T q ≠ none → B q = none) (ex : Ex B B') (s : SR (C.plus T) B' env σ H) (hb0 : Ex C.B0 B) : SR C B' env σ H ∧ Tmp B' env σ H T := by
  refine ⟨⟨join_ex1 s.exG, s.exB, s.ex0, fun q hq => ?_, s.len, fun i u h => ?_, s.dis, s.fx⟩, join_ex2 g e s.exG, fun q hq => ?_, fun q hq i ys h1 h2 => ?_⟩
  · rcases s.new q hq with z | z
    · exact .inl z
    · exact .inr (join_none z).1
  · have w := s.sl i u h
    cases u with
    | un => trivial
    | sh d => exact w
    | ow xs =>
      obtain ⟨p, vs, e1, hb, hg, hp, ra⟩ := w
      exact ⟨p, vs, e1, hb, (join_none hg).1, hp, ra⟩
  · cases z : B' q with
    | none => rfl
    | some o =>
      rcases s.new q (by rw [z]; exact fun q => nomatch q) with y | y
      · have b := nb q hq
        cases w : C.B0 q with
        | none => exact absurd w y
        | some u => rw [hb0 q u w] at b; cases b
      · exact absurd (join_none y).2 hq
  · obtain ⟨p, vs, e1, hb, hg, hp, ra⟩ := s.sl i _ h1
    rw [h2] at e1
    cases e1
    exact hq (join_none hg).2
theorem SE.temp (h : SE K te f) (hC : C.K = K) (s : SR C B env σ H) (e : f env = some (r, env')) {T : Hp} (t : Tmp B env σ H T) {Q : VK}
    (hq : ∀ v B' H', SR C B' env' σ H' → Ex B B' → RepR C B' env' σ H' v r → Tmp B' env' σ H' T → (∀ p, r = .fr [] ∨ True → v = .ref p → (∃ xs, r = .fr xs) → T p = none) → Q v H') : te σ H Q := by
  refine h (C.plus T) hC B env σ H r env' (s.plus t) e Q fun v B' H' s' x rr => ?_
  obtain ⟨s1, t1⟩ := SR.minus s.exG t.ex t.nb x s' s.ex0
  refine hq v B' H' s1 x ?_ t1 fun p _ ev ⟨xs, er⟩ => ?_
  · cases r with
    | val d => exact rr
    | al i => exact rr
    | fr xs =>
      obtain ⟨p, vs, rfl, bp, gp, hp, ra, off⟩ := rr
      exact ⟨p, vs, rfl, bp, (join_none gp).1, hp, ra, off⟩
  · subst er
    obtain ⟨p', vs, e2, bp, gp, _⟩ := rr
    rw [ev] at e2
    cases e2
    exact (join_none gp).2
theorem ST.temp {t : TT} {g : En → Option (Bool × En)} {b : Bool} (h : ST K t g) (hC : C.K = K) (s : SR C B env σ H) (e : g env = some (b, env')) {T : Hp} (tm : Tmp B env σ H T) {Q : Bool → Hp → Prop}
    (hq : ∀ B' H', SR C B' env' σ H' → Ex B B' → Tmp B' env' σ H' T → Q b H') : t σ H Q := by
  refine h (C.plus T) hC B env σ H b env' (s.plus tm) e Q fun B' H' s' x => ?_
  obtain ⟨s1, t1⟩ := SR.minus s.exG tm.ex tm.nb x s' s.ex0
  exact hq B' H' s1 x t1
/-- a result as a temporary -/
def tmpOf (v : V) (H : Hp) : R → Hp
  | .fr _ => fun q => if v = .ref q then H q else none
  | _ => fun _ => none
theorem RepR.tmp (rr : RepR C B env σ H v r) : Tmp B env σ H (tmpOf v H r) := by
  cases r with
  | val d => exact ⟨fun _ _ h => (nomatch h), fun _ h => absurd rfl h, fun _ h => absurd rfl h⟩
  | al i => exact ⟨fun _ _ h => (nomatch h), fun _ h => absurd rfl h, fun _ h => absurd rfl h⟩
  | fr xs =>
    obtain ⟨p, vs, rfl, bp, gp, hp, ra, off⟩ := rr
    refine ⟨fun q o h => ?_, fun q h => ?_, fun q h => ?_⟩
    · unfold tmpOf at h
      by_cases z : V.ref p = .ref q
      · simp only [z, if_true] at h; exact h
      · simp only [z, if_false] at h; cases h
    · unfold tmpOf at h
      by_cases z : V.ref p = .ref q
      · cases z; exact bp
      · simp only [z, if_false] at h; exact absurd rfl h
    · unfold tmpOf at h
      by_cases z : V.ref p = .ref q
      · cases z; exact off
      · simp only [z, if_false] at h; exact absurd rfl h
theorem RepR.keep {H1 : Hp} (rr : RepR C B env σ H v r) (x : Ex B B') (t : Tmp B' env' σ H1 (tmpOf v H r)) : RepR C B' env' σ H1 v r := by
  cases r with
  | val d => exact Rep.mono x rr
  | al i => exact rr
  | fr xs =>
    obtain ⟨p, vs, rfl, bp, gp, hp, ra, off⟩ := rr
    have hT : tmpOf (.ref p) H (.fr xs) p = some (.lst vs) := by unfold tmpOf; simp only [if_true]; exact hp
    have hn : tmpOf (.ref p) H (.fr xs) p ≠ none := by rw [hT]; exact fun z => nomatch z
    exact ⟨p, vs, rfl, t.nb p hn, gp, t.ex p _ hT, ra.mono x, t.off p hn⟩

/-! ### expressions -/
def eVar (i : Nat) : En → Option (R × En) := fun env => match env[i]? with
  | some (.sh d) => some (.val d, env)
  | some (.ow _) => some (.al i, env)
  | _ => none
theorem se_var {i : Nat} : SE K (tVar i) (eVar i) := by
  intro C hC B env σ H r env' s e Q hq
  unfold eVar at e
  cases q : env[i]? with
  | none => simp only [q] at e; cases e
  | some t =>
    have w := s.sl i t q
    simp only [q] at e
    cases t with
    | un => cases e
    | sh d =>
      cases e
      obtain ⟨v, e1, rv⟩ := w
      exact ⟨v, e1, hq v B H s (Ex.refl _) rv⟩
    | ow xs =>
      cases e
      obtain ⟨p, vs, e1, _⟩ := w
      exact ⟨.ref p, e1, hq _ B H s (Ex.refl _) e1⟩
def eC (d : D) : En → Option (R × En) := fun env => some (.val d, env)
theorem se_c {v : V} {d : D} (h : ∀ B, Rep K B v d) : SE K (tC v) (eC d) := by
  intro C hC B env σ H r env' s e Q hq
  cases e
  exact hq v B H s (Ex.refl _) (by rw [show RepR C B env σ H v (.val d) = Rep C.K B v d from rfl, hC]; exact h B)
theorem se_int {i : Int} : SE K (tC (.int i)) (eC (.int i)) := se_c fun _ => .int i
theorem se_str {i : Str} : SE K (tC (.str i)) (eC (.str i)) := se_c fun _ => .str i
theorem se_bl {b : Bool} : SE K (tC (.bl b)) (eC (.bl b)) := se_c fun _ => .bl b
theorem se_non : SE K (tC .non) (eC .non) := se_c fun _ => .non
theorem se_ref {a : Addr} : SE K (tC (.ref a)) (eC (.ref a)) := se_c fun _ => .ref a
theorem se_ty {a : String} : SE K (tC (.ty a)) (eC (.ty a)) := se_c fun _ => .ty a

/-- an operator on two values that are read: the answer a value of its own -/
def RO (K : PySem.W.Frag) (r2 : R2) (g : D → D → Option D) : Prop := ∀ (C : Ctx), C.K = K → ∀ (B : Hp) (env : En) (σ : L2.St) (H : Hp) (x y : V) (dx dy z : D), SR C B env σ H → RepK K B H x dx → RepK K B H y dy → g dx dy = some z → ∀ Q : VK, (∀ v B' H', SR C B' env σ H' → Ex B B' → Rep K B' v z → Q v H') → r2 x y H Q
/-- .. the answer a new list -/
def ROL (K : PySem.W.Frag) (r2 : R2) (g : D → D → Option (List D)) : Prop := ∀ (B H : Hp) (x y : V) (dx dy : D) (zs : List D), Ex B H → RepK K B H x dx → RepK K B H y dy → g dx dy = some zs → ∀ Q : VK, (∀ p vs, H p = none → RepAll K B vs zs → Q (.ref p) (upd H p (.lst vs))) → r2 x y H Q
/-- .. the answer a scalar, nothing made -/
def sc : D → Option V
  | .non => some .non
  | .bl b => some (.bl b)
  | .int i => some (.int i)
  | .str s => some (.str s)
  | .ref a => some (.ref a)
  | .ty n => some (.ty n)
  | _ => none
theorem sc_rep {v : V} {d : D} (h : sc d = some v) : Rep K B v d := by
  cases d <;> cases h <;> constructor
theorem rep_sc {v w : V} {d : D} (h : sc d = some v) (r : Rep K B w d) : w = v := by
  cases r <;> cases h <;> rfl
theorem repK_sc {v w : V} {d : D} (h : sc d = some v) (r : RepK K B H w d) : w = v := by
  rcases r with r | ⟨p, vs, xs, _, e, _⟩
  · exact rep_sc h r
  · subst e; cases h
def ROS (K : PySem.W.Frag) (r2 : R2) (g : D → D → Option D) : Prop := ∀ (B H : Hp) (x y : V) (dx dy z : D), Ex B H → RepK K B H x dx → RepK K B H y dy → g dx dy = some z → ∃ v, sc z = some v ∧ ∀ Q : VK, Q v H → r2 x y H Q
theorem ROS.ro {r2 : R2} {g : D → D → Option D} (h : ROS K r2 g) : RO K r2 g := by
  intro C hC B env σ H x y dx dy z s rx ry e Q hq
  obtain ⟨v, hz, k⟩ := h B H x y dx dy z s.exB rx ry e
  exact k Q (hq v B H s (Ex.refl _) (sc_rep hz))

/-- two operands, read at the end -/
theorem se_two (ha : SE K ta fa) (hb : SE K tb fb) (hC : C.K = K) (s : SR C B env σ H) {ra rb : R} {e1 e2 : En} (h1 : fa env = some (ra, e1)) (h2 : fb e1 = some (rb, e2)) {W : V → V → Hp → Prop}
    (hq : ∀ x y B' H', SR C B' e2 σ H' → Ex B B' → RepR C B' e2 σ H' x ra → RepR C B' e2 σ H' y rb → W x y H') : ta σ H fun x H1 => tb σ H1 fun y H2 => W x y H2 := by
  refine ha C hC B env σ H ra e1 s h1 _ fun x B1 H1 s1 x1 r1 => ?_
  refine hb.temp hC s1 h2 r1.tmp fun y B2 H2 s2 x2 r2 t2 _ => ?_
  exact hq x y B2 H2 s2 (x1.trans x2) (r1.keep x2 t2) r2

def eOp (g : D → D → Option D) (fa fb : En → Option (R × En)) : En → Option (R × En) := fun env =>
  (fa env).bind fun a => (fb a.2).bind fun b => (look b.2 a.1).bind fun x => (look b.2 b.1).bind fun y => (g x y).map fun z => (R.val z, b.2)
theorem se_op {r2 : R2} {g : D → D → Option D} (hr : RO K r2 g) (ha : SE K ta fa) (hb : SE K tb fb) : SE K (tOp r2 ta tb) (eOp g fa fb) := by
  intro C hC B env σ H r env' s e Q hq
  unfold eOp at e
  obtain ⟨⟨ra, e1⟩, h1, e⟩ := Option.bind_eq_some_iff.mp e
  obtain ⟨⟨rb, e2⟩, h2, e⟩ := Option.bind_eq_some_iff.mp e
  obtain ⟨dx, hx, e⟩ := Option.bind_eq_some_iff.mp e
  obtain ⟨dy, hy, e⟩ := Option.bind_eq_some_iff.mp e
  obtain ⟨z, hz, e⟩ := Option.map_eq_some_iff.mp e
  cases e
  refine se_two ha hb hC s h1 h2 fun x y B' H' s' x' r1 r2' => ?_
  have k1 := look_rep s' r1 hx
  have k2 := look_rep s' r2' hy
  rw [hC] at k1 k2
  refine hr C hC B' _ σ H' x y dx dy z s' k1 k2 hz Q fun v B2 H2 s2 x2 rv => hq v B2 H2 s2 (x'.trans x2) ?_
  rw [show RepR C B2 e2 σ H2 v (.val z) = Rep C.K B2 v z from rfl, hC]
  exact rv
def eOpL (g : D → D → Option (List D)) (fa fb : En → Option (R × En)) : En → Option (R × En) := fun env =>
  (fa env).bind fun a => (fb a.2).bind fun b => (look b.2 a.1).bind fun x => (look b.2 b.1).bind fun y => (g x y).map fun z => (R.fr z, b.2)
theorem se_opL {r2 : R2} {g : D → D → Option (List D)} (hr : ROL K r2 g) (ha : SE K ta fa) (hb : SE K tb fb) : SE K (tOp r2 ta tb) (eOpL g fa fb) := by
  intro C hC B env σ H r env' s e Q hq
  unfold eOpL at e
  obtain ⟨⟨ra, e1⟩, h1, e⟩ := Option.bind_eq_some_iff.mp e
  obtain ⟨⟨rb, e2⟩, h2, e⟩ := Option.bind_eq_some_iff.mp e
  obtain ⟨dx, hx, e⟩ := Option.bind_eq_some_iff.mp e
  obtain ⟨dy, hy, e⟩ := Option.bind_eq_some_iff.mp e
  obtain ⟨z, hz, e⟩ := Option.map_eq_some_iff.mp e
  cases e
  refine se_two ha hb hC s h1 h2 fun x y B' H' s' x' r1 r2' => ?_
  have k1 := look_rep s' r1 hx
  have k2 := look_rep s' r2' hy
  rw [hC] at k1 k2
  refine hr B' H' x y dx dy z s'.exB k1 k2 hz Q fun p vs hp ra => ?_
  refine hq (.ref p) B' _ (s'.temp hp) x' (s'.newL hp (by rw [hC]; exact ra))
/-- one operand -/
def eUn (g : D → Option D) (fa : En → Option (R × En)) : En → Option (R × En) := fun env =>
  (fa env).bind fun a => (look a.2 a.1).bind fun x => (g x).map fun z => (R.val z, a.2)
def RUS (K : PySem.W.Frag) (r1 : V → Hp → VK → Prop) (g : D → Option D) : Prop := ∀ (B H : Hp) (x : V) (dx z : D), Ex B H → RepK K B H x dx → g dx = some z → ∃ v, sc z = some v ∧ ∀ Q : VK, Q v H → r1 x H Q
theorem se_un {r1 : V → Hp → VK → Prop} {g : D → Option D} (hr : RUS K r1 g) (ha : SE K ta fa) : SE K (tUn r1 ta) (eUn g fa) := by
  intro C hC B env σ H r env' s e Q hq
  unfold eUn at e
  obtain ⟨⟨ra, e1⟩, h1, e⟩ := Option.bind_eq_some_iff.mp e
  obtain ⟨dx, hx, e⟩ := Option.bind_eq_some_iff.mp e
  obtain ⟨z, hz, e⟩ := Option.map_eq_some_iff.mp e
  cases e
  refine ha C hC B env σ H ra e1 s h1 _ fun x B1 H1 s1 x1 rr => ?_
  have k1 := look_rep s1 rr hx
  rw [hC] at k1
  obtain ⟨v, hv, k⟩ := hr B1 H1 x dx z s1.exB k1 hz
  exact k Q (hq v B1 H1 s1 x1 (sc_rep hv))
end
end Vm

set_option Elab.async false
set_option linter.all false
set_option maxRecDepth 100000
namespace Vm
open PySem PySem.Spec PyProof.Rows L2 Evl
section
variable {K : PySem.W.Frag} {C : Ctx} {B B' G H H' : Hp} {env env' : En} {σ : L2.St} {v : V} {r : R} {d : D} {ta tb te : TE} {fa fb fe : En → Option (R × En)} {f : En → Option (R × En)} {X : Cx}

/-! ### operators on ints -/
def dI (c : Int → Int → Bool) (g : Int → Int → D) : D → D → Option D
  | .int i, .int j => if c i j then some (g i j) else none
  | _, _ => none
theorem dI_some {c : Int → Int → Bool} {g : Int → Int → D} {x y z : D} (h : dI c g x y = some z) : ∃ i j, x = .int i ∧ y = .int j ∧ c i j = true ∧ z = g i j := by
  unfold dI at h
  split at h
  · split at h
    · cases h
      exact ⟨_, _, rfl, rfl, by assumption, rfl⟩
    · cases h
  · cases h
theorem ros_I {Cd : Int → Int → Prop} {gv : Int → Int → V} {c : Int → Int → Bool} {g : Int → Int → D} (hc : ∀ i j, c i j = true → Cd i j) (hs : ∀ i j, sc (g i j) = some (gv i j)) : ROS K (rI Cd gv) (dI c g) := by
  intro B H x y dx dy z e rx ry h
  obtain ⟨i, j, rfl, rfl, hcc, rfl⟩ := dI_some h
  exact ⟨_, hs i j, fun Q q => ⟨i, j, rx.int, ry.int, hc i j hcc, q⟩⟩
theorem ros_I0 {gv : Int → Int → V} {g : Int → Int → D} (hs : ∀ i j, sc (g i j) = some (gv i j)) : ROS K (rI0 gv) (dI (fun _ _ => true) g) := by
  intro B H x y dx dy z e rx ry h
  obtain ⟨i, j, rfl, rfl, hcc, rfl⟩ := dI_some h
  exact ⟨_, hs i j, fun Q q => ⟨i, j, rx.int, ry.int, q⟩⟩
def yes2 : Int → Int → Bool := fun _ _ => true
def dAdd : D → D → Option D := dI yes2 fun i j => .int (i + j)
def dSub : D → D → Option D := dI yes2 fun i j => .int (i - j)
instance (i j : Int) : Decidable (CMul i j) := by unfold CMul; infer_instance
instance (i j : Int) : Decidable (CMulX i j) := by unfold CMulX; infer_instance
def CMulA (i j : Int) : Prop := CMul i j ∨ CMulX i j
instance (i j : Int) : Decidable (CMulA i j) := by unfold CMulA; infer_instance
def dMul : D → D → Option D := dI (fun i j => decide (CMulA i j)) fun i j => .int (i * j)
instance (i j : Int) : Decidable (CDivN i j) := by unfold CDivN; infer_instance
def dFdiv : D → D → Option D := dI (fun i j => decide (CDivN i j)) fun i j => .int (i.fdiv j)
def dMod : D → D → Option D := dI (fun _ j => decide (j ≠ 0)) fun i j => .int (i.fmod j)
def CPowA (i j : Int) : Prop := 0 ≤ j ∧ (Builtin.Int.intBits i : Int) * j ≤ 2 ^ 27
instance (i j : Int) : Decidable (CPowA i j) := by unfold CPowA; infer_instance
def dPow : D → D → Option D := dI (fun i j => decide (CPowA i j)) fun i j => .int (i ^ j.toNat)
def dLt : D → D → Option D := dI yes2 fun i j => .bl (decide (i < j))
def dLe : D → D → Option D := dI yes2 fun i j => .bl (decide (i ≤ j))
def dGt : D → D → Option D := dI yes2 fun i j => .bl (decide (j < i))
def dGe : D → D → Option D := dI yes2 fun i j => .bl (decide (j ≤ i))
theorem op_mulA : OpR X (binaryOp .Mult) (rI CMulA fun i j => .int (i * j)) := opI fun _ _ _ _ _ _ _ hc q => mul_int q (by
  rcases hc with h | h
  · exact CMul.ok h
  · exact CMulX.ok h)
theorem op_powA : OpR X (binaryOp .Pow) (rI CPowA fun i j => .int (i ^ j.toNat)) := opI fun _ _ _ _ _ _ _ hc q => PyProof.Rows.pow_int hc.1 hc.2 q
theorem ro_add : RO K (rI0 fun i j => .int (i + j)) dAdd := (ros_I0 fun _ _ => rfl).ro
theorem ro_sub : RO K (rI0 fun i j => .int (i - j)) dSub := (ros_I0 fun _ _ => rfl).ro
theorem ro_mul : RO K (rI CMulA fun i j => .int (i * j)) dMul := (ros_I (fun _ _ h => of_decide_eq_true h) fun _ _ => rfl).ro
theorem ro_fdiv : RO K (rI CDivN fun i j => .int (i.fdiv j)) dFdiv := (ros_I (fun _ _ h => of_decide_eq_true h) fun _ _ => rfl).ro
theorem ro_mod : RO K (rI (fun _ j => j ≠ 0) fun i j => .int (i.fmod j)) dMod := (ros_I (fun _ _ h => of_decide_eq_true h) fun _ _ => rfl).ro
theorem ro_pow : RO K (rI CPowA fun i j => .int (i ^ j.toNat)) dPow := (ros_I (fun _ _ h => of_decide_eq_true h) fun _ _ => rfl).ro
theorem ro_lt : RO K (rI0 fun i j => .bl (decide (i < j))) dLt := (ros_I0 fun _ _ => rfl).ro
theorem ro_le : RO K (rI0 fun i j => .bl (decide (i ≤ j))) dLe := (ros_I0 fun _ _ => rfl).ro
theorem ro_gt : RO K (rI0 fun i j => .bl (decide (j < i))) dGt := (ros_I0 fun _ _ => rfl).ro
theorem ro_ge : RO K (rI0 fun i j => .bl (decide (j ≤ i))) dGe := (ros_I0 fun _ _ => rfl).ro

/-! ### lists and texts by + and * -/
def dCat : D → D → Option (List D)
  | .lst xs, .lst ys => if xs.length + ys.length ≤ sizeLine then some (xs ++ ys) else none
  | _, _ => none
theorem rol_cat : ROL K rCat dCat := by
  intro B H x y dx dy zs e rx ry h Q q
  unfold dCat at h
  split at h
  · split at h
    · cases h
      obtain ⟨a, vs, rfl, h1, h2⟩ := rx.list e
      obtain ⟨b, ws, rfl, h3, h4⟩ := ry.list e
      refine ⟨a, b, vs, ws, rfl, rfl, h1, h3, ?_, fun p hp => q p _ hp (h2.append h4)⟩
      rw [h2.length, h4.length]
      assumption
    · cases h
  · cases h
def dRep : D → D → Option (List D)
  | .lst xs, .int k => if k < 2 ^ 63 ∧ -(2 ^ 63) ≤ k ∧ xs.length * k.toNat ≤ sizeLine then some (List.replicate k.toNat xs).flatten else none
  | _, _ => none
theorem repAll_flat {vs : List V} {xs : List D} (h : RepAll K B vs xs) : ∀ n : Nat, RepAll K B (List.replicate n vs).flatten (List.replicate n xs).flatten
  | 0 => .nil
  | n + 1 => by
    rw [List.replicate_succ, List.replicate_succ, List.flatten_cons, List.flatten_cons]
    exact h.append (repAll_flat h n)
theorem rol_rep : ROL K rRep dRep := by
  intro B H x y dx dy zs e rx ry h Q q
  unfold dRep at h
  split at h
  · split at h
    · cases h
      obtain ⟨a, vs, rfl, h1, h2⟩ := rx.list e
      rename_i k hk
      obtain ⟨k1, k2, k3⟩ := hk
      exact ⟨a, k, vs, rfl, ry.int, h1, k2, k1, by rw [h2.length]; exact k3, fun p hp => q p _ hp (repAll_flat h2 _)⟩
    · cases h
  · cases h
def rAddS : R2 := fun x y H Q => ∃ i j, x = .str i ∧ y = .str j ∧ i.length + j.length ≤ sizeLine ∧ Q (.str (i ++ j)) H
def dAddS : D → D → Option D
  | .str i, .str j => if i.length + j.length ≤ sizeLine then some (.str (i ++ j)) else none
  | _, _ => none
theorem ro_addS : RO K rAddS dAddS := ROS.ro (by
  intro B H x y dx dy z e rx ry h
  unfold dAddS at h
  split at h
  · split at h
    · cases h
      exact ⟨_, rfl, fun Q q => ⟨_, _, rx.str, ry.str, by assumption, q⟩⟩
    · cases h
  · cases h)

/-! ### subscripts -/
def ixD {α : Type} (xs : List α) (i : Int) : Option α := atI xs i
theorem repAll_at {vs : List V} {xs : List D} {i : Int} {d : D} (h : RepAll K B vs xs) (e : atI xs i = some d) : ∃ v, atI vs i = some v ∧ Rep K B v d := by
  unfold atI at e ⊢
  rw [h.length]
  cases q : ixN xs.length i with
  | none => rw [q] at e; cases e
  | some j =>
    rw [q] at e
    exact h.get e
def dIx : D → D → Option D
  | .lst xs, .int i => atI xs i
  | .tup xs, .int i => atI xs i
  | .scr ns, .int i => (atI ns i).map D.int
  | .str z, .int i => if z.length ≤ sizeLine then (atI z.cps.toList i).map fun c => .str ⟨#[c]⟩ else none
  | _, _ => none
theorem atI_map {α β : Type} (g : α → β) (xs : List α) (i : Int) : atI (xs.map g) i = (atI xs i).map g := by
  unfold atI
  rw [List.length_map]
  cases ixN xs.length i with
  | none => rfl
  | some j =>
    show (xs.map g)[j]? = (xs[j]?).map g
    rw [List.getElem?_map]
theorem Rep.script {v : V} {ns : List Int} (h : Rep K B v (.scr ns)) : ∃ a, v = .ref a ∧ SqL K B a (ns.map V.int) := by
  cases h with
  | scr h => exact ⟨_, rfl, h⟩
theorem ro_ix : RO K (rIx K) dIx := by
  intro C hC B env σ H x y dx dy z s rx ry h Q hq
  subst hC
  unfold dIx at h
  split at h
  · obtain ⟨a, vs, rfl, h1, h2⟩ := rx.list s.exB
    obtain ⟨w, e1, r1⟩ := repAll_at h2 h
    exact .inl ⟨a, vs, _, w, rfl, ry.int, sq_of h1, e1, hq w B H s (Ex.refl _) r1⟩
  · obtain ⟨a, vs, rfl, h1, h2⟩ := (rx.scal fun _ z => by cases z).tuple
    obtain ⟨w, e1, r1⟩ := repAll_at h2 h
    exact .inr (.inl ⟨a, vs, _, w, rfl, ry.int, ex_t s.exB h1, e1, hq w B H s (Ex.refl _) r1⟩)
  · obtain ⟨a, rfl, h1⟩ := (rx.scal fun _ z => by cases z).script
    obtain ⟨n, e1, rfl⟩ := Option.map_eq_some_iff.mp h
    exact .inl ⟨a, _, _, .int n, rfl, ry.int, ex_l s.exB h1, by rw [atI_map, e1]; rfl, hq _ B H s (Ex.refl _) (.int n)⟩
  · split at h
    · obtain ⟨n, e1, rfl⟩ := Option.map_eq_some_iff.mp h
      exact .inr (.inr ⟨_, _, n, rx.str, ry.int, by assumption, e1, hq _ B H s (Ex.refl _) (.str _)⟩)
    · cases h
  · cases h

/-! ### is None, in, == -/
def dIsN : D → D → Option D
  | .non, .non => some (.bl true)
  | _, .non => some (.bl false)
  | _, _ => none
theorem rep_non {v : V} {d : D} (h : RepK K B H v d) : decide (v = .non) = match d with | .non => true | _ => false := by
  rcases h with h | ⟨p, vs, xs, rfl, rfl, _⟩
  · cases h <;> rfl
  · rfl
def rIsNone : R2 := fun x y H Q => y = .non ∧ Q (.bl (decide (x = .non))) H
def rNotNone : R2 := fun x y H Q => y = .non ∧ Q (.bl (!decide (x = .non))) H
theorem ros_isN : ROS K rIsNone dIsN := by
  intro B H x y dx dy z e rx ry h
  unfold dIsN at h
  have q := rep_non rx
  split at h
  · cases h
    exact ⟨_, rfl, fun Q k => ⟨ry.non, by rw [q]; exact k⟩⟩
  · cases h
    rename_i hne
    refine ⟨_, rfl, fun Q k => ⟨ry.non, ?_⟩⟩
    have : decide (x = V.non) = false := by
      rw [q]
      cases dx with
      | non => exact absurd rfl (fun z => hne z)
      | _ => rfl
    rw [this]
    exact k
  · cases h
def dNotN : D → D → Option D
  | .non, .non => some (.bl false)
  | _, .non => some (.bl true)
  | _, _ => none
theorem ros_notN : ROS K rNotNone dNotN := by
  intro B H x y dx dy z e rx ry h
  unfold dNotN at h
  have q := rep_non rx
  split at h
  · cases h
    exact ⟨_, rfl, fun Q k => ⟨ry.non, by rw [q]; exact k⟩⟩
  · cases h
    rename_i hne
    refine ⟨_, rfl, fun Q k => ⟨ry.non, ?_⟩⟩
    have : decide (x = V.non) = false := by
      rw [q]
      cases dx with
      | non => exact absurd rfl (fun z => hne z)
      | _ => rfl
    rw [this]
    exact k
  · cases h
theorem ro_isN : RO K rIsNone dIsN := ros_isN.ro
theorem ro_notN : RO K rNotNone dNotN := ros_notN.ro

def flatD : D → Bool
  | .non => true | .bl _ => true | .int _ => true | .str _ => true
  | _ => false
/-- == of flat values -/
def eqF : D → D → Bool
  | .non, .non => true
  | .bl a, .bl b => a == b
  | .bl a, .int b => (if a then 1 else 0) == b
  | .int a, .bl b => a == (if b then 1 else 0)
  | .int a, .int b => a == b
  | .str a, .str b => a == b
  | _, _ => false
theorem flat_rep {v : V} {d : D} (h : Rep K B v d) (f : flatD d = true) : flatV v = true := by
  cases h <;> first | rfl | cases f
theorem eqF_rep {v w : V} {d e : D} (h : Rep K B v d) (g : Rep K B' w e) (f : flatD d = true) (f' : flatD e = true) : eqV v w = eqF d e := by
  cases h <;> first | (cases f; done) | (cases g <;> first | rfl | (cases f'; done))
theorem flat_all : ∀ {vs : List V} {xs : List D}, RepAll K B vs xs → xs.all flatD = true → vs.all flatV = true
  | _, _, .nil, _ => rfl
  | _, _, .cons a t, h => by
    rw [List.all_cons, Bool.and_eq_true] at h ⊢
    exact ⟨flat_rep a h.1, flat_all t h.2⟩
theorem any_rep {v : V} {d : D} (r : Rep K B v d) (fd : flatD d = true) : ∀ {vs : List V} {xs : List D}, RepAll K B vs xs → xs.all flatD = true → inV v vs = xs.any fun y => eqF y d
  | _, _, .nil, _ => rfl
  | _, _, .cons a t, h => by
    rw [List.all_cons, Bool.and_eq_true] at h
    have e2 := any_rep r fd t h.2
    have e1 := eqF_rep a r h.1 fd
    unfold inV at e2 ⊢
    rw [List.any_cons, List.any_cons, e1, e2]
def dIn (neg : Bool) : D → D → Option D
  | d, .lst xs => if flatD d && xs.all flatD then some (.bl (if neg then !xs.any (fun y => eqF y d) else xs.any fun y => eqF y d)) else none
  | d, .tup xs => if flatD d && xs.all flatD then some (.bl (if neg then !xs.any (fun y => eqF y d) else xs.any fun y => eqF y d)) else none
  | _, _ => none
theorem flat_scal {d : D} (h : flatD d = true) : ∀ xs, d ≠ .lst xs := fun xs z => by subst z; cases h
theorem ros_in (neg : Bool) : ROS K (rIn K neg) (dIn neg) := by
  intro B H x y dx dy z e rx ry h
  unfold dIn at h
  split at h
  · split at h
    · cases h
      rename_i hf
      rw [Bool.and_eq_true] at hf
      obtain ⟨a, vs, rfl, h1, h2⟩ := ry.list e
      have r := rx.scal (flat_scal hf.1)
      refine ⟨_, rfl, fun Q k => ⟨a, vs, rfl, .inl (sq_of h1), flat_rep r hf.1, flat_all h2 hf.2, ?_⟩⟩
      rw [any_rep r hf.1 h2 hf.2]
      exact k
    · cases h
  · split at h
    · cases h
      rename_i hf
      rw [Bool.and_eq_true] at hf
      obtain ⟨a, vs, rfl, h1, h2⟩ := (ry.scal fun _ z => by cases z).tuple
      have r := rx.scal (flat_scal hf.1)
      refine ⟨_, rfl, fun Q k => ⟨a, vs, rfl, .inr (ex_t e h1), flat_rep r hf.1, flat_all h2 hf.2, ?_⟩⟩
      rw [any_rep r hf.1 h2 hf.2]
      exact k
    · cases h
  · cases h
theorem ro_in {neg : Bool} : RO K (rIn K neg) (dIn neg) := (ros_in neg).ro

/-! ### data -/
mutual
def toPy : D → Option PyData
  | .non => some .none
  | .bl b => some (.bool b)
  | .int i => some (.int i)
  | .str s => some (.str s)
  | .lst xs => (toPyAll xs).map .list
  | .tup xs => (toPyAll xs).map .tuple
  | .scr ns => some (.list (ns.map .int))
  | _ => none
def toPyAll : List D → Option (List PyData)
  | [] => some []
  | x :: xs => (toPy x).bind fun y => (toPyAll xs).map fun ys => y :: ys
end
theorem dpAll_ints : ∀ ns : List Int, DpAll K H (ns.map V.int) (ns.map PyData.int)
  | [] => .nil
  | n :: ns => .cons (.int n) (dpAll_ints ns)
mutual
theorem Rep.dp {v : V} {d : D} {p : PyData} (h : Rep K H v d) (e : toPy d = some p) : Dp K H v p := by
  cases h with
  | non => unfold toPy at e; cases e; exact .non
  | bl b => unfold toPy at e; cases e; exact .bl b
  | int i => unfold toPy at e; cases e; exact .int i
  | str x => unfold toPy at e; cases e; exact .str x
  | ref a => unfold toPy at e; cases e
  | ty n => unfold toPy at e; cases e
  | lst h1 h2 =>
    unfold toPy at e
    obtain ⟨ps, e1, rfl⟩ := Option.map_eq_some_iff.mp e
    exact .lst (sq_of h1) (RepAll.dp h2 e1)
  | tup h1 h2 =>
    unfold toPy at e
    obtain ⟨ps, e1, rfl⟩ := Option.map_eq_some_iff.mp e
    exact .tup h1 (RepAll.dp h2 e1)
  | dct h1 h2 => unfold toPy at e; cases e
  | scr h1 =>
    unfold toPy at e
    cases e
    exact .lst h1 (dpAll_ints _)
theorem RepAll.dp {vs : List V} {xs : List D} {ps : List PyData} (h : RepAll K H vs xs) (e : toPyAll xs = some ps) : DpAll K H vs ps := by
  cases h with
  | nil => unfold toPyAll at e; cases e; exact .nil
  | cons h1 h2 =>
    unfold toPyAll at e
    obtain ⟨p, e1, e⟩ := Option.bind_eq_some_iff.mp e
    obtain ⟨qs, e2, rfl⟩ := Option.map_eq_some_iff.mp e
    exact .cons (Rep.dp h1 e1) (RepAll.dp h2 e2)
end
def eqD (x y : D) : Option Bool := (toPy x).bind fun a => (toPy y).bind fun b => if SeqAt.shaped a && SeqAt.shaped b then some (PyData.eqv a b) else none
def dEq (x y : D) : Option D := (eqD x y).map fun b => .bl b
def dNe (x y : D) : Option D := (eqD x y).map fun b => .bl (!b)
theorem eqD_some {x y : D} {b : Bool} (h : eqD x y = some b) : ∃ p q, toPy x = some p ∧ toPy y = some q ∧ SeqAt.shaped p = true ∧ SeqAt.shaped q = true ∧ b = PyData.eqv p q := by
  unfold eqD at h
  obtain ⟨p, e1, h1⟩ := Option.bind_eq_some_iff.mp h
  obtain ⟨q, e2, h2⟩ := Option.bind_eq_some_iff.mp h1
  split at h2
  · rename_i hf
    cases h2
    rw [Bool.and_eq_true] at hf
    exact ⟨p, q, e1, e2, hf.1, hf.2, rfl⟩
  · cases h2
theorem ro_eq : RO K (rEqD K) dEq := ROS.ro (by
  intro B H x y dx dy z e rx ry h
  obtain ⟨b, h', rfl⟩ := Option.map_eq_some_iff.mp h
  obtain ⟨p, q, e1, e2, s1, s2, rfl⟩ := eqD_some h'
  exact ⟨_, rfl, fun Q k => ⟨p, q, (rx.rep e).dp e1, (ry.rep e).dp e2, s1, s2, k⟩⟩)
theorem ro_ne : RO K (rNeD K) dNe := ROS.ro (by
  intro B H x y dx dy z e rx ry h
  obtain ⟨b, h', rfl⟩ := Option.map_eq_some_iff.mp h
  obtain ⟨p, q, e1, e2, s1, s2, rfl⟩ := eqD_some h'
  exact ⟨_, rfl, fun Q k => ⟨p, q, (rx.rep e).dp e1, (ry.rep e).dp e2, s1, s2, k⟩⟩)

/-! ### tests -/
def bTest (f : En → Option (R × En)) : En → Option (Bool × En) := fun env => (f env).bind fun a => match a.1 with
  | .val (.bl b) => some (b, a.2)
  | _ => none
theorem bTest_some {e1 : En} {b : Bool} (h : bTest f env = some (b, e1)) : f env = some (.val (.bl b), e1) := by
  unfold bTest at h
  obtain ⟨⟨a, e2⟩, h1, h⟩ := Option.bind_eq_some_iff.mp h
  split at h
  · cases h
    rename_i q
    simp only at q
    rw [h1, q]
  · cases h
theorem rep_bl {v : V} {b : Bool} (h : Rep K B v (.bl b)) : v = .bl b := by
  cases h
  rfl
theorem st_test (h : SE K te f) : ST K (tTest te) (bTest f) := by
  intro C hC B env σ H b env' s e Q hq
  refine h C hC B env σ H _ env' s (bTest_some e) _ fun v B' H' s' x rr => ?_
  exact ⟨b, rep_bl rr, hq B' H' s' x⟩
theorem st_B (h : SE K te f) : ST K (tB te) (bTest f) := by
  intro C hC B env σ H b env' s e Q hq
  refine h C hC B env σ H _ env' s (bTest_some e) _ fun v B' H' s' x rr => ?_
  exact ⟨b, rep_bl rr, hq B' H' s' x⟩
variable {tt tu : TT} {g k : En → Option (Bool × En)}
def bAnd (g k : En → Option (Bool × En)) : En → Option (Bool × En) := fun env => (g env).bind fun a => if a.1 then k a.2 else some (false, a.2)
def bOr (g k : En → Option (Bool × En)) : En → Option (Bool × En) := fun env => (g env).bind fun a => if a.1 then some (true, a.2) else k a.2
def bNot (g : En → Option (Bool × En)) : En → Option (Bool × En) := fun env => (g env).map fun a => (!a.1, a.2)
theorem st_and (h1 : ST K tt g) (h2 : ST K tu k) : ST K (tAnd tt tu) (bAnd g k) := by
  intro C hC B env σ H b env' s e Q hq
  obtain ⟨⟨c, e1⟩, h, e⟩ := Option.bind_eq_some_iff.mp e
  refine h1 C hC B env σ H c e1 s h _ fun B' H' s' x => ?_
  cases c with
  | true =>
    show tu σ H' Q
    exact h2 C hC B' e1 σ H' b env' s' e Q fun B2 H2 s2 x2 => hq B2 H2 s2 (x.trans x2)
  | false =>
    cases e
    exact hq B' H' s' x
theorem st_or (h1 : ST K tt g) (h2 : ST K tu k) : ST K (tOr tt tu) (bOr g k) := by
  intro C hC B env σ H b env' s e Q hq
  obtain ⟨⟨c, e1⟩, h, e⟩ := Option.bind_eq_some_iff.mp e
  refine h1 C hC B env σ H c e1 s h _ fun B' H' s' x => ?_
  cases c with
  | false =>
    show tu σ H' Q
    exact h2 C hC B' e1 σ H' b env' s' e Q fun B2 H2 s2 x2 => hq B2 H2 s2 (x.trans x2)
  | true =>
    cases e
    exact hq B' H' s' x
theorem st_not (h1 : ST K tt g) : ST K (tNot tt) (bNot g) := by
  intro C hC B env σ H b env' s e Q hq
  obtain ⟨⟨c, e1⟩, h, e⟩ := Option.map_eq_some_iff.mp e
  cases e
  exact h1 C hC B env σ H c e1 s h _ fun B' H' s' x => hq B' H' s' x
/-- the same as values -/
def eAnd (fa fb : En → Option (R × En)) : En → Option (R × En) := fun env => (bTest fa env).bind fun a => if a.1 then fb a.2 else some (.val (.bl false), a.2)
def eOr (fa fb : En → Option (R × En)) : En → Option (R × En) := fun env => (bTest fa env).bind fun a => if a.1 then some (.val (.bl true), a.2) else fb a.2
def eNot (fa : En → Option (R × En)) : En → Option (R × En) := fun env => (bTest fa env).map fun a => (.val (.bl (!a.1)), a.2)
theorem se_and (h1 : SE K ta fa) (h2 : SE K tb fb) : SE K (tAndV ta tb) (eAnd fa fb) := by
  intro C hC B env σ H r env' s e Q hq
  obtain ⟨⟨c, e1⟩, h, e⟩ := Option.bind_eq_some_iff.mp e
  refine h1 C hC B env σ H _ e1 s (bTest_some h) _ fun v B' H' s' x rr => ⟨c, rep_bl rr, ?_⟩
  cases c with
  | true =>
    show tb σ H' Q
    exact h2 C hC B' e1 σ H' r env' s' e Q fun v2 B2 H2 s2 x2 r2 => hq v2 B2 H2 s2 (x.trans x2) r2
  | false =>
    cases e
    exact hq _ B' H' s' x (.bl false)
theorem se_or (h1 : SE K ta fa) (h2 : SE K tb fb) : SE K (tOrV ta tb) (eOr fa fb) := by
  intro C hC B env σ H r env' s e Q hq
  obtain ⟨⟨c, e1⟩, h, e⟩ := Option.bind_eq_some_iff.mp e
  refine h1 C hC B env σ H _ e1 s (bTest_some h) _ fun v B' H' s' x rr => ⟨c, rep_bl rr, ?_⟩
  cases c with
  | false =>
    show tb σ H' Q
    exact h2 C hC B' e1 σ H' r env' s' e Q fun v2 B2 H2 s2 x2 r2 => hq v2 B2 H2 s2 (x.trans x2) r2
  | true =>
    cases e
    exact hq _ B' H' s' x (.bl true)
theorem se_not (h1 : SE K ta fa) : SE K (tNotV ta) (eNot fa) := by
  intro C hC B env σ H r env' s e Q hq
  obtain ⟨⟨c, e1⟩, h, e⟩ := Option.map_eq_some_iff.mp e
  cases e
  exact h1 C hC B env σ H _ e1 s (bTest_some h) _ fun v B' H' s' x rr => ⟨c, rep_bl rr, hq _ B' H' s' x (.bl _)⟩
def eIf (g : En → Option (Bool × En)) (fa fb : En → Option (R × En)) : En → Option (R × En) := fun env => (g env).bind fun a => if a.1 then fa a.2 else fb a.2
theorem se_if (h : ST K tt g) (h1 : SE K ta fa) (h2 : SE K tb fb) : SE K (tIf tt ta tb) (eIf g fa fb) := by
  intro C hC B env σ H r env' s e Q hq
  obtain ⟨⟨c, e1⟩, hg, e⟩ := Option.bind_eq_some_iff.mp e
  refine h C hC B env σ H c e1 s hg _ fun B' H' s' x => ?_
  cases c with
  | true =>
    show ta σ H' Q
    exact h1 C hC B' e1 σ H' r env' s' e Q fun v2 B2 H2 s2 x2 r2 => hq v2 B2 H2 s2 (x.trans x2) r2
  | false =>
    show tb σ H' Q
    exact h2 C hC B' e1 σ H' r env' s' e Q fun v2 B2 H2 s2 x2 r2 => hq v2 B2 H2 s2 (x.trans x2) r2
end
end Vm

set_option Elab.async false
set_option linter.all false
set_option maxRecDepth 100000
namespace Vm
open PySem PySem.Spec PyProof.Rows L2 Evl
section
variable {K : PySem.W.Frag} {C : Ctx} {B B' G H H' : Hp} {env env' : En} {σ : L2.St} {v : V} {r : R} {d : D} {ta tb te : TE} {fa fb fe : En → Option (R × En)} {f : En → Option (R × En)} {X : Cx}

/-! ### argument lists -/
def RepRs (C : Ctx) (B : Hp) (env : En) (σ : L2.St) (H : Hp) : List V → List R → Prop
  | [], [] => True
  | v :: vs, r :: rs => RepR C B env σ H v r ∧ RepRs C B env σ H vs rs
  | _, _ => False
def SA (K : PySem.W.Frag) (t : TA) (f : En → Option (List R × En)) : Prop :=
  ∀ C : Ctx, C.K = K → ∀ (B : Hp) (env : En) (σ : L2.St) (H : Hp) (r : List R) (env' : En), SR C B env σ H → f env = some (r, env') →
    ∀ Q : List V → Hp → Prop, (∀ v B' H', SR C B' env' σ H' → Ex B B' → RepRs C B' env' σ H' v r → Q v H') → t σ H Q
theorem RepRs.minus {T : Hp} : ∀ {vs : List V} {rs : List R}, RepRs (C.plus T) B env σ H vs rs → RepRs C B env σ H vs rs
  | [], [], h => h
  | v :: vs, r :: rs, ⟨h1, h2⟩ => ⟨by
      cases r with
      | val d => exact h1
      | al i => exact h1
      | fr xs =>
        obtain ⟨p, vs, rfl, bp, gp, hp, ra, off⟩ := h1
        exact ⟨p, vs, rfl, bp, (join_none gp).1, hp, ra, off⟩, RepRs.minus h2⟩
  | [], _ :: _, h => h.elim
  | _ :: _, [], h => h.elim
theorem SA.temp {ta : TA} {f : En → Option (List R × En)} {rs : List R} (h : SA K ta f) (hC : C.K = K) (s : SR C B env σ H) (e : f env = some (rs, env')) {T : Hp} (t : Tmp B env σ H T) {Q : List V → Hp → Prop}
    (hq : ∀ v B' H', SR C B' env' σ H' → Ex B B' → RepRs C B' env' σ H' v rs → Tmp B' env' σ H' T → Q v H') : ta σ H Q := by
  refine h (C.plus T) hC B env σ H rs env' (s.plus t) e Q fun v B' H' s' x rr => ?_
  obtain ⟨s1, t1⟩ := SR.minus s.exG t.ex t.nb x s' s.ex0
  exact hq v B' H' s1 x rr.minus t1
def aNil : En → Option (List R × En) := fun env => some ([], env)
def aCons (fa : En → Option (R × En)) (fr : En → Option (List R × En)) : En → Option (List R × En) := fun env => (fa env).bind fun a => (fr a.2).map fun b => (a.1 :: b.1, b.2)
theorem sa_nil : SA K tNil aNil := by
  intro C hC B env σ H r env' s e Q hq
  cases e
  exact hq [] B H s (Ex.refl _) trivial
theorem sa_cons {tr : TA} {fr : En → Option (List R × En)} (ha : SE K ta fa) (hr : SA K tr fr) : SA K (tCons ta tr) (aCons fa fr) := by
  intro C hC B env σ H r env' s e Q hq
  obtain ⟨⟨ra, e1⟩, h1, e⟩ := Option.bind_eq_some_iff.mp e
  obtain ⟨⟨rs, e2⟩, h2, e⟩ := Option.map_eq_some_iff.mp e
  cases e
  refine ha C hC B env σ H ra e1 s h1 _ fun x B1 H1 s1 x1 r1 => ?_
  refine hr.temp hC s1 h2 r1.tmp fun ys B2 H2 s2 x2 r2 t2 => ?_
  exact hq (x :: ys) B2 H2 s2 (x1.trans x2) ⟨r1.keep x2 t2, r2⟩

/-- what may still be made data -/
def RepW (C : Ctx) (B : Hp) (env : En) (σ : L2.St) (H : Hp) (v : V) : R → Prop
  | .val d => Rep C.K B v d
  | .al i => σ[i]? = some (some v)
  | .fr xs => ∃ p vs, v = .ref p ∧ H p = some (.lst vs) ∧ RepAll C.K B vs xs ∧ (B p = some (.lst vs) ∨ (B p = none ∧ C.G p = none ∧ Off env σ p))
theorem RepR.w (h : RepR C B env σ H v r) : RepW C B env σ H v r := by
  cases r with
  | val d => exact h
  | al i => exact h
  | fr xs =>
    obtain ⟨p, vs, rfl, bp, gp, hp, ra, off⟩ := h
    exact ⟨p, vs, rfl, hp, ra, .inr ⟨bp, gp, off⟩⟩
theorem frz_off {q : Addr} (e : frz env r = some (d, env')) (o : Off env σ q) : Off env' σ q := by
  cases r with
  | val x => cases e; exact o
  | fr xs => cases e; exact o
  | al i =>
    unfold frz at e
    cases z : env[i]? with
    | none => simp only [z] at e; cases e
    | some t =>
      simp only [z] at e
      cases t with
      | un => cases e
      | sh x => cases e; exact o
      | ow xs =>
        cases e
        intro j ys h1 h2
        by_cases hj : i = j
        · subst hj
          by_cases hl : i < env.length
          · rw [List.getElem?_set_self hl] at h1
            cases h1
          · rw [List.getElem?_eq_none (by rw [List.length_set]; omega)] at h1
            cases h1
        · rw [List.getElem?_set_ne hj] at h1
          exact o j ys h1 h2
theorem frz_w (s : SR C B env σ H) (h : RepW C B env σ H v r) (e : frz env r = some (d, env')) : ∃ B', SR C B' env' σ H ∧ Ex B B' ∧ Rep C.K B' v d ∧ ∀ q, B' q = B q ∨ B' q = H q := by
  cases r with
  | val x =>
    cases e
    exact ⟨B, s, Ex.refl _, h, fun _ => .inl rfl⟩
  | fr xs =>
    cases e
    obtain ⟨p, vs, rfl, hp, ra, hb | ⟨bp, gp, off⟩⟩ := h
    · exact ⟨B, s, Ex.refl _, .lst hb ra, fun _ => .inl rfl⟩
    · refine ⟨_, s.take bp gp hp off, Ex.new bp, .lst upd_same (ra.mono (Ex.new bp)), fun q => ?_⟩
      by_cases z : q = p
      · subst z; rw [upd_same]; exact .inr hp.symm
      · rw [upd_ne z]; exact .inl rfl
  | al i =>
    have h : σ[i]? = some (some v) := h
    unfold frz at e
    cases q : env[i]? with
    | none => simp only [q] at e; cases e
    | some t =>
      have w := s.sl i t q
      simp only [q] at e
      cases t with
      | un => cases e
      | sh x =>
        cases e
        obtain ⟨u, e1, ru⟩ := w
        rw [h] at e1
        cases e1
        exact ⟨B, s, Ex.refl _, ru, fun _ => .inl rfl⟩
      | ow xs =>
        cases e
        obtain ⟨p, vs, e1, bp, gp, hp, ra⟩ := w
        rw [h] at e1
        cases e1
        have s1 : SR C B (env.set i .un) σ H := s.reslot (fun xs z => by cases z) trivial
        have off : Off (env.set i .un) σ p := fun j ys e2 e3 => by
          by_cases hj : i = j
          · subst hj
            by_cases hl : i < env.length
            · rw [List.getElem?_set_self hl] at e2
              cases e2
            · rw [List.getElem?_eq_none (by rw [List.length_set]; omega)] at e2
              cases e2
          · rw [List.getElem?_set_ne hj] at e2
            exact hj (s.dis i j p xs ys q e2 h e3)
        have s2 := s1.take bp gp hp off
        have rr : Rep C.K (upd B p (.lst vs)) (.ref p) (.lst xs) := .lst upd_same (ra.mono (Ex.new bp))
        have s3 := s2.reslot (i := i) (t := .sh (.lst xs)) (fun xs z => by cases z) ⟨_, h, rr⟩
        rw [List.set_set] at s3
        refine ⟨_, s3, Ex.new bp, rr, fun q => ?_⟩
        by_cases z : q = p
        · subst z; rw [upd_same]; exact .inr hp.symm
        · rw [upd_ne z]; exact .inl rfl
def RepWs (C : Ctx) (B : Hp) (env : En) (σ : L2.St) (H : Hp) : List V → List R → Prop
  | [], [] => True
  | v :: vs, r :: rs => RepW C B env σ H v r ∧ RepWs C B env σ H vs rs
  | _, _ => False
theorem RepRs.w : ∀ {vs : List V} {rs : List R}, RepRs C B env σ H vs rs → RepWs C B env σ H vs rs
  | [], [], _ => trivial
  | _ :: _, _ :: _, ⟨a, b⟩ => ⟨a.w, b.w⟩
  | [], _ :: _, h => h.elim
  | _ :: _, [], h => h.elim
theorem RepWs.keep (x : Ex B B') (hb : ∀ q, B' q = B q ∨ B' q = H q) (ho : ∀ q, Off env σ q → Off env' σ q) : ∀ {vs : List V} {rs : List R}, RepWs C B env σ H vs rs → RepWs C B' env' σ H vs rs
  | [], [], _ => trivial
  | v :: vs, r :: rs, ⟨a, b⟩ => ⟨by
      cases r with
      | val d => exact Rep.mono x a
      | al i => exact a
      | fr xs =>
        obtain ⟨p, ws, rfl, hp, ra, h1 | ⟨h1, h2, h3⟩⟩ := a
        · exact ⟨p, ws, rfl, hp, ra.mono x, .inl (x _ _ h1)⟩
        · rcases hb p with z | z
          · exact ⟨p, ws, rfl, hp, ra.mono x, .inr ⟨by rw [z]; exact h1, h2, ho _ h3⟩⟩
          · exact ⟨p, ws, rfl, hp, ra.mono x, .inl (by rw [z]; exact hp)⟩, RepWs.keep x hb ho b⟩
  | [], _ :: _, h => h.elim
  | _ :: _, [], h => h.elim
def frzs (env : En) : List R → Option (List D × En)
  | [] => some ([], env)
  | r :: rs => (frz env r).bind fun a => (frzs a.2 rs).map fun b => (a.1 :: b.1, b.2)
theorem frzs_w : ∀ {vs : List V} {rs : List R} {ds : List D} {env env' : En} {B : Hp}, SR C B env σ H → RepWs C B env σ H vs rs → frzs env rs = some (ds, env') → ∃ B', SR C B' env' σ H ∧ Ex B B' ∧ RepAll C.K B' vs ds
  | [], [], ds, env, env', B, s, _, e => by
    cases e
    exact ⟨B, s, Ex.refl _, .nil⟩
  | v :: vs, r :: rs, ds, env, env', B, s, ⟨a, b⟩, e => by
    obtain ⟨⟨d, e1⟩, h1, e⟩ := Option.bind_eq_some_iff.mp e
    obtain ⟨⟨ds', e2⟩, h2, e⟩ := Option.map_eq_some_iff.mp e
    cases e
    obtain ⟨B1, s1, x1, r1, hb⟩ := frz_w s a h1
    obtain ⟨B2, s2, x2, r2⟩ := frzs_w s1 (b.keep x1 hb fun q o => frz_off h1 o) h2
    exact ⟨B2, s2, x1.trans x2, .cons (r1.mono x2) r2⟩
  | [], _ :: _, _, _, _, _, _, h, _ => h.elim
  | _ :: _, [], _, _, _, _, _, h, _ => h.elim
/-- all arguments as data -/
def aD (f : En → Option (List R × En)) : En → Option (List D × En) := fun env => (f env).bind fun a => frzs a.2 a.1
def looks (env : En) : List R → Option (List D)
  | [] => some []
  | r :: rs => (look env r).bind fun a => (looks env rs).map fun b => a :: b
def RepKs (K : PySem.W.Frag) (B H : Hp) : List V → List D → Prop
  | [], [] => True
  | v :: vs, d :: ds => RepK K B H v d ∧ RepKs K B H vs ds
  | _, _ => False
theorem looks_rep (s : SR C B env σ H) : ∀ {vs : List V} {rs : List R} {ds : List D}, RepRs C B env σ H vs rs → looks env rs = some ds → RepKs C.K B H vs ds
  | [], [], ds, _, e => by cases e; trivial
  | v :: vs, r :: rs, ds, ⟨a, b⟩, e => by
    obtain ⟨d, h1, e⟩ := Option.bind_eq_some_iff.mp e
    obtain ⟨ds', h2, e⟩ := Option.map_eq_some_iff.mp e
    cases e
    exact ⟨look_rep s a h1, looks_rep s b h2⟩
  | [], _ :: _, _, h, _ => h.elim
  | _ :: _, [], _, h, _ => h.elim

/-! ### displays -/
def eTup (f : En → Option (List R × En)) : En → Option (R × En) := fun env => (aD f env).bind fun b => if b.1.length ≤ 1000 then some (.val (.tup b.1), b.2) else none
def eLst (f : En → Option (List R × En)) : En → Option (R × En) := fun env => (aD f env).bind fun b => if b.1.length ≤ 1000 then some (.fr b.1, b.2) else none
theorem le1000 {n : Nat} (h : n ≤ 1000) : n ≤ sizeLine := Nat.le_of_lt (small1000 h)
theorem aD_some {f : En → Option (List R × En)} {ds : List D} (e : aD f env = some (ds, env')) : ∃ rs e1, f env = some (rs, e1) ∧ frzs e1 rs = some (ds, env') := by
  obtain ⟨⟨rs, e1⟩, h1, e⟩ := Option.bind_eq_some_iff.mp e
  exact ⟨rs, e1, h1, e⟩
theorem se_tup {ta : TA} {f : En → Option (List R × En)} (h : SA K ta f) : SE K (tTup ta) (eTup f) := by
  intro C hC B env σ H r env' s e Q hq
  obtain ⟨⟨ds, e2⟩, h1, e⟩ := Option.bind_eq_some_iff.mp e
  split at e
  · cases e
    rename_i hl
    obtain ⟨rs, e1, h2, h3⟩ := aD_some h1
    refine h C hC B env σ H rs e1 s h2 _ fun vs B1 H1 s1 x1 r1 => ?_
    obtain ⟨B2, s2, x2, ra⟩ := frzs_w s1 r1.w h3
    have hl' : vs.length ≤ 1000 := by rw [ra.length]; exact hl
    refine ⟨le1000 hl', fun p hp => ?_⟩
    have bp := fresh_back s2.exB hp
    refine hq (.ref p) (upd B2 p (.tup vs)) _ (s2.alloc hp) ((x1.trans x2).trans (Ex.new bp)) ?_
    exact .tup (st_of upd_same) (ra.mono (Ex.new bp))
  · cases e
theorem se_lst {ta : TA} {f : En → Option (List R × En)} (h : SA K ta f) : SE K (tLst ta) (eLst f) := by
  intro C hC B env σ H r env' s e Q hq
  obtain ⟨⟨ds, e2⟩, h1, e⟩ := Option.bind_eq_some_iff.mp e
  split at e
  · cases e
    rename_i hl
    obtain ⟨rs, e1, h2, h3⟩ := aD_some h1
    refine h C hC B env σ H rs e1 s h2 _ fun vs B1 H1 s1 x1 r1 => ?_
    obtain ⟨B2, s2, x2, ra⟩ := frzs_w s1 r1.w h3
    have hl' : vs.length ≤ 1000 := by rw [ra.length]; exact hl
    refine ⟨le1000 hl', fun p hp => ?_⟩
    exact hq (.ref p) B2 _ (s2.temp hp) (x1.trans x2) (s2.newL hp ra)
  · cases e

/-! ### calls of built-ins on values that are read -/
def RC (K : PySem.W.Frag) (r : List V → Hp → VK → Prop) (g : List D → Option D) : Prop := ∀ (C : Ctx), C.K = K → ∀ (B : Hp) (env : En) (σ : L2.St) (H : Hp) (vs : List V) (ds : List D) (z : D), SR C B env σ H → RepKs K B H vs ds → g ds = some z → ∀ Q : VK, (∀ v B' H', SR C B' env σ H' → Ex B B' → Rep K B' v z → Q v H') → r vs H Q
def RCL (K : PySem.W.Frag) (r : List V → Hp → VK → Prop) (g : List D → Option (List D)) : Prop := ∀ (B H : Hp) (vs : List V) (ds zs : List D), Ex B H → RepKs K B H vs ds → g ds = some zs → ∀ Q : VK, (∀ p ws, H p = none → RepAll K B ws zs → Q (.ref p) (upd H p (.lst ws))) → r vs H Q
def RCS (K : PySem.W.Frag) (r : List V → Hp → VK → Prop) (g : List D → Option D) : Prop := ∀ (B H : Hp) (vs : List V) (ds : List D) (z : D), Ex B H → RepKs K B H vs ds → g ds = some z → ∃ v, sc z = some v ∧ ∀ Q : VK, Q v H → r vs H Q
theorem RCS.rc {r : List V → Hp → VK → Prop} {g : List D → Option D} (h : RCS K r g) : RC K r g := by
  intro C hC B env σ H vs ds z s rx e Q hq
  obtain ⟨v, hz, k⟩ := h B H vs ds z s.exB rx e
  exact k Q (hq v B H s (Ex.refl _) (sc_rep hz))
def eCB (g : List D → Option D) (f : En → Option (List R × En)) : En → Option (R × En) := fun env => (f env).bind fun a => (looks a.2 a.1).bind fun ds => (g ds).map fun z => (.val z, a.2)
def eCBL (g : List D → Option (List D)) (f : En → Option (List R × En)) : En → Option (R × En) := fun env => (f env).bind fun a => (looks a.2 a.1).bind fun ds => (g ds).map fun z => (.fr z, a.2)
theorem se_cb {r : List V → Hp → VK → Prop} {g : List D → Option D} {ta : TA} {f : En → Option (List R × En)} (hr : RC K r g) (h : SA K ta f) : SE K (tCB r ta) (eCB g f) := by
  intro C hC B env σ H ro env' s e Q hq
  obtain ⟨⟨rs, e1⟩, h1, e⟩ := Option.bind_eq_some_iff.mp e
  obtain ⟨ds, h2, e⟩ := Option.bind_eq_some_iff.mp e
  obtain ⟨z, h3, e⟩ := Option.map_eq_some_iff.mp e
  cases e
  refine h C hC B env σ H rs e1 s h1 _ fun vs B1 H1 s1 x1 r1 => ?_
  have k := looks_rep s1 r1 h2
  rw [hC] at k
  refine hr C hC B1 _ σ H1 vs ds z s1 k h3 Q fun v B2 H2 s2 x2 rv => hq v B2 H2 s2 (x1.trans x2) ?_
  rw [show RepR C B2 e1 σ H2 v (.val z) = Rep C.K B2 v z from rfl, hC]
  exact rv
theorem se_cbL {r : List V → Hp → VK → Prop} {g : List D → Option (List D)} {ta : TA} {f : En → Option (List R × En)} (hr : RCL K r g) (h : SA K ta f) : SE K (tCB r ta) (eCBL g f) := by
  intro C hC B env σ H ro env' s e Q hq
  obtain ⟨⟨rs, e1⟩, h1, e⟩ := Option.bind_eq_some_iff.mp e
  obtain ⟨ds, h2, e⟩ := Option.bind_eq_some_iff.mp e
  obtain ⟨z, h3, e⟩ := Option.map_eq_some_iff.mp e
  cases e
  refine h C hC B env σ H rs e1 s h1 _ fun vs B1 H1 s1 x1 r1 => ?_
  have k := looks_rep s1 r1 h2
  rw [hC] at k
  refine hr B1 H1 vs ds z s1.exB k h3 Q fun p ws hp ra => ?_
  exact hq (.ref p) B1 _ (s1.temp hp) x1 (s1.newL hp (by rw [hC]; exact ra))
/-- the lists of ints, of truth values in D -/
def unInts : List D → Option (List Int)
  | [] => some []
  | .int i :: xs => (unInts xs).map fun ns => i :: ns
  | _ => none
theorem unInts_some : ∀ {xs : List D} {ns : List Int}, unInts xs = some ns → xs = ns.map D.int
  | [], ns, h => by cases h; rfl
  | x :: xs, ns, h => by
    cases x with
    | int i =>
      obtain ⟨ms, h1, rfl⟩ := Option.map_eq_some_iff.mp h
      rw [unInts_some h1]
      rfl
    | _ => cases h
theorem unInts_map : ∀ ns : List Int, unInts (ns.map D.int) = some ns
  | [] => rfl
  | n :: ns => by
    show (unInts (ns.map D.int)).map _ = _
    rw [unInts_map ns]
    rfl
def unBls : List D → Option (List Bool)
  | [] => some []
  | .bl i :: xs => (unBls xs).map fun ns => i :: ns
  | _ => none
theorem unBls_some : ∀ {xs : List D} {ns : List Bool}, unBls xs = some ns → xs = ns.map D.bl
  | [], ns, h => by cases h; rfl
  | x :: xs, ns, h => by
    cases x with
    | bl i =>
      obtain ⟨ms, h1, rfl⟩ := Option.map_eq_some_iff.mp h
      rw [unBls_some h1]
      rfl
    | _ => cases h
theorem unBls_map : ∀ ns : List Bool, unBls (ns.map D.bl) = some ns
  | [] => rfl
  | n :: ns => by
    show (unBls (ns.map D.bl)).map _ = _
    rw [unBls_map ns]
    rfl
theorem RepKs.one {vs : List V} {d : D} (h : RepKs K B H vs [d]) : ∃ v, vs = [v] ∧ RepK K B H v d := by
  match vs, h with
  | [v], ⟨a, _⟩ => exact ⟨v, rfl, a⟩
theorem RepKs.two {vs : List V} {d e : D} (h : RepKs K B H vs [d, e]) : ∃ v w, vs = [v, w] ∧ RepK K B H v d ∧ RepK K B H w e := by
  match vs, h with
  | [v, w], ⟨a, b, _⟩ => exact ⟨v, w, rfl, a, b⟩
/-- a list of ints that is read -/
theorem RepK.ints {xs : List D} {ns : List Int} (e : Ex B H) (h : RepK K B H v (.lst xs)) (u : unInts xs = some ns) : ∃ a, v = .ref a ∧ H a = some (.lst (ns.map V.int)) := by
  obtain ⟨a, vs, rfl, h1, h2⟩ := h.list e
  rw [unInts_some u] at h2
  rw [h2.ints] at h1
  exact ⟨a, rfl, h1⟩
theorem RepK.bls {xs : List D} {ns : List Bool} (e : Ex B H) (h : RepK K B H v (.lst xs)) (u : unBls xs = some ns) : ∃ a, v = .ref a ∧ H a = some (.lst (ns.map V.bl)) := by
  obtain ⟨a, vs, rfl, h1, h2⟩ := h.list e
  rw [unBls_some u] at h2
  rw [h2.bls] at h1
  exact ⟨a, rfl, h1⟩

def bLen : List D → Option D
  | [.lst xs] => some (.int xs.length)
  | [.tup xs] => some (.int xs.length)
  | [.scr xs] => some (.int xs.length)
  | _ => none
def rLenSeq (K : PySem.W.Frag) : List V → Hp → VK → Prop := fun xs H Q => ∃ p ys, xs = [.ref p] ∧ (SqL K H p ys ∨ SqT K H p ys) ∧ Q (.int ys.length) H
theorem rc_len : RC K (rLenSeq K) bLen := RCS.rc (by
  intro B H vs ds z e rx h
  unfold bLen at h
  split at h
  · cases h
    obtain ⟨v, rfl, k⟩ := rx.one
    obtain ⟨a, ws, rfl, h1, h2⟩ := k.list e
    exact ⟨_, rfl, fun Q q => ⟨a, ws, rfl, .inl (sq_of h1), by rw [h2.length]; exact q⟩⟩
  · cases h
    obtain ⟨v, rfl, k⟩ := rx.one
    obtain ⟨a, ws, rfl, h1, h2⟩ := (k.scal fun _ z => by cases z).tuple
    exact ⟨_, rfl, fun Q q => ⟨a, ws, rfl, .inr (ex_t e h1), by rw [h2.length]; exact q⟩⟩
  · cases h
    obtain ⟨v, rfl, k⟩ := rx.one
    obtain ⟨a, rfl, h1⟩ := (k.scal fun _ z => by cases z).script
    exact ⟨_, rfl, fun Q q => ⟨a, _, rfl, .inl (ex_l e h1), by rw [List.length_map]; exact q⟩⟩
  · cases h)
def bInt : List D → Option D
  | [.int i] => some (.int i)
  | [.bl k] => some (.int (if k then 1 else 0))
  | _ => none
theorem rc_int : RC K (fun xs H Q => (∃ i, xs = [.int i] ∧ Q (.int i) H) ∨ ∃ k, xs = [.bl k] ∧ Q (.int (if k then 1 else 0)) H) bInt := RCS.rc (by
  intro B H vs ds z e rx h
  unfold bInt at h
  split at h
  · cases h
    obtain ⟨v, rfl, k⟩ := rx.one
    exact ⟨_, rfl, fun Q q => .inl ⟨_, by rw [k.int], q⟩⟩
  · cases h
    obtain ⟨v, rfl, k⟩ := rx.one
    exact ⟨_, rfl, fun Q q => .inr ⟨_, by rw [k.bl], q⟩⟩
  · cases h)
def bAbs : List D → Option D
  | [.int i] => some (.int (if i < 0 then -i else i))
  | _ => none
theorem rc_abs : RC K (fun xs H Q => ∃ i, xs = [.int i] ∧ Q (.int (if i < 0 then -i else i)) H) bAbs := RCS.rc (by
  intro B H vs ds z e rx h
  unfold bAbs at h
  split at h
  · cases h
    obtain ⟨v, rfl, k⟩ := rx.one
    exact ⟨_, rfl, fun Q q => ⟨_, by rw [k.int], q⟩⟩
  · cases h)
def bMax2 : List D → Option D
  | [.int i, .int j] => some (.int (if j > i then j else i))
  | _ => none
def bMin2 : List D → Option D
  | [.int i, .int j] => some (.int (if j < i then j else i))
  | _ => none
theorem rc_max2 : RC K (fun xs H Q => ∃ i j, xs = [.int i, .int j] ∧ Q (.int (if j > i then j else i)) H) bMax2 := RCS.rc (by
  intro B H vs ds z e rx h
  unfold bMax2 at h
  split at h
  · cases h
    obtain ⟨v, w, rfl, k1, k2⟩ := rx.two
    exact ⟨_, rfl, fun Q q => ⟨_, _, by rw [k1.int, k2.int], q⟩⟩
  · cases h)
theorem rc_min2 : RC K (fun xs H Q => ∃ i j, xs = [.int i, .int j] ∧ Q (.int (if j < i then j else i)) H) bMin2 := RCS.rc (by
  intro B H vs ds z e rx h
  unfold bMin2 at h
  split at h
  · cases h
    obtain ⟨v, w, rfl, k1, k2⟩ := rx.two
    exact ⟨_, rfl, fun Q q => ⟨_, _, by rw [k1.int, k2.int], q⟩⟩
  · cases h)
def bSum : List D → Option D
  | [.lst xs] => (unInts xs).map fun ns => .int ns.sum
  | _ => none
theorem rc_sum : RC K (rSum K) bSum := RCS.rc (by
  intro B H vs ds z e rx h
  unfold bSum at h
  split at h
  · obtain ⟨ns, h1, rfl⟩ := Option.map_eq_some_iff.mp h
    obtain ⟨v, rfl, k⟩ := rx.one
    obtain ⟨a, rfl, h2⟩ := k.ints e h1
    exact ⟨_, rfl, fun Q q => ⟨a, ns, rfl, sq_of h2, q⟩⟩
  · cases h)
def maxL : List Int → Int
  | [] => 0
  | x :: xs => xs.foldl max x
def minL : List Int → Int
  | [] => 0
  | x :: xs => xs.foldl min x
theorem foldl_max_ge : ∀ (xs : List Int) (x : Int), x ≤ xs.foldl max x ∧ ∀ y ∈ xs, y ≤ xs.foldl max x
  | [], x => ⟨Int.le_refl _, fun y h => by cases h⟩
  | z :: xs, x => by
    obtain ⟨h1, h2⟩ := foldl_max_ge xs (max x z)
    rw [List.foldl_cons]
    refine ⟨by omega, fun y hy => ?_⟩
    rcases List.mem_cons.mp hy with rfl | hy
    · omega
    · exact h2 y hy
theorem foldl_max_mem : ∀ (xs : List Int) (x : Int), xs.foldl max x = x ∨ xs.foldl max x ∈ xs
  | [], x => .inl rfl
  | z :: xs, x => by
    rw [List.foldl_cons]
    rcases foldl_max_mem xs (max x z) with h | h
    · rw [h]
      by_cases q : x ≤ z
      · exact .inr (by rw [show max x z = z by omega]; exact List.mem_cons_self)
      · exact .inl (by omega)
    · exact .inr (List.mem_cons_of_mem _ h)
theorem foldl_min_le : ∀ (xs : List Int) (x : Int), xs.foldl min x ≤ x ∧ ∀ y ∈ xs, xs.foldl min x ≤ y
  | [], x => ⟨Int.le_refl _, fun y h => by cases h⟩
  | z :: xs, x => by
    obtain ⟨h1, h2⟩ := foldl_min_le xs (min x z)
    rw [List.foldl_cons]
    refine ⟨by omega, fun y hy => ?_⟩
    rcases List.mem_cons.mp hy with rfl | hy
    · omega
    · exact h2 y hy
theorem foldl_min_mem : ∀ (xs : List Int) (x : Int), xs.foldl min x = x ∨ xs.foldl min x ∈ xs
  | [], x => .inl rfl
  | z :: xs, x => by
    rw [List.foldl_cons]
    rcases foldl_min_mem xs (min x z) with h | h
    · rw [h]
      by_cases q : z ≤ x
      · exact .inr (by rw [show min x z = z by omega]; exact List.mem_cons_self)
      · exact .inl (by omega)
    · exact .inr (List.mem_cons_of_mem _ h)
theorem maxL_ge {ns : List Int} {y : Int} (h : y ∈ ns) : y ≤ maxL ns := by
  cases ns with
  | nil => cases h
  | cons x xs =>
    rcases List.mem_cons.mp h with rfl | h
    · exact (foldl_max_ge xs _).1
    · exact (foldl_max_ge xs x).2 y h
theorem maxL_mem {ns : List Int} (h : ns ≠ []) : maxL ns ∈ ns := by
  cases ns with
  | nil => exact absurd rfl h
  | cons x xs =>
    rcases foldl_max_mem xs x with q | q
    · show xs.foldl max x ∈ _
      rw [q]
      exact List.mem_cons_self
    · exact List.mem_cons_of_mem _ q
theorem minL_le {ns : List Int} {y : Int} (h : y ∈ ns) : minL ns ≤ y := by
  cases ns with
  | nil => cases h
  | cons x xs =>
    rcases List.mem_cons.mp h with rfl | h
    · exact (foldl_min_le xs _).1
    · exact (foldl_min_le xs x).2 y h
theorem minL_mem {ns : List Int} (h : ns ≠ []) : minL ns ∈ ns := by
  cases ns with
  | nil => exact absurd rfl h
  | cons x xs =>
    rcases foldl_min_mem xs x with q | q
    · show xs.foldl min x ∈ _
      rw [q]
      exact List.mem_cons_self
    · exact List.mem_cons_of_mem _ q
def bMaxL : List D → Option D
  | [.lst xs] => (unInts xs).bind fun ns => if ns = [] then none else some (.int (maxL ns))
  | _ => none
def bMinL : List D → Option D
  | [.lst xs] => (unInts xs).bind fun ns => if ns = [] then none else some (.int (minL ns))
  | _ => none
theorem rc_maxL : RC K (rMax K) bMaxL := RCS.rc (by
  intro B H vs ds z e rx h
  unfold bMaxL at h
  split at h
  · obtain ⟨ns, h1, h⟩ := Option.bind_eq_some_iff.mp h
    split at h
    · cases h
    · rename_i hn
      cases h
      obtain ⟨v, rfl, k⟩ := rx.one
      obtain ⟨a, rfl, h2⟩ := k.ints e h1
      refine ⟨_, rfl, fun Q q => ⟨a, ns, rfl, sq_of h2, List.length_pos_iff.mpr hn, fun m hm hle => ?_⟩⟩
      have : m = maxL ns := by
        have := hle _ (maxL_mem hn)
        have := maxL_ge hm
        omega
      rw [this]
      exact q
  · cases h)
theorem rc_minL : RC K (rMin K) bMinL := RCS.rc (by
  intro B H vs ds z e rx h
  unfold bMinL at h
  split at h
  · obtain ⟨ns, h1, h⟩ := Option.bind_eq_some_iff.mp h
    split at h
    · cases h
    · rename_i hn
      cases h
      obtain ⟨v, rfl, k⟩ := rx.one
      obtain ⟨a, rfl, h2⟩ := k.ints e h1
      refine ⟨_, rfl, fun Q q => ⟨a, ns, rfl, sq_of h2, List.length_pos_iff.mpr hn, fun m hm hle => ?_⟩⟩
      have : m = minL ns := by
        have := hle _ (minL_mem hn)
        have := minL_le hm
        omega
      rw [this]
      exact q
  · cases h)
def bAll : List D → Option D
  | [.lst xs] => (unBls xs).map fun ns => .bl (ns.all id)
  | _ => none
theorem rc_all : RC K (rAll K) bAll := RCS.rc (by
  intro B H vs ds z e rx h
  unfold bAll at h
  split at h
  · obtain ⟨ns, h1, rfl⟩ := Option.map_eq_some_iff.mp h
    obtain ⟨v, rfl, k⟩ := rx.one
    obtain ⟨a, rfl, h2⟩ := k.bls e h1
    exact ⟨_, rfl, fun Q q => ⟨a, ns, rfl, sq_of h2, q⟩⟩
  · cases h)
end
end Vm

set_option Elab.async false
set_option linter.all false
set_option maxRecDepth 100000
namespace Vm
open PySem PySem.Spec PyProof.Rows L2 Evl
section
variable {K : PySem.W.Frag} {C : Ctx} {B B' G H H' : Hp} {env env' : En} {σ : L2.St} {v : V} {r : R} {d : D} {ta tb te : TE} {fa fb fe : En → Option (R × En)} {f : En → Option (R × En)} {X : Cx}

/-! ### slots stored -/
theorem get_set {α : Type} {l : List α} {i j : Nat} {x y : α} (h : (l.set i x)[j]? = some y) : (j = i ∧ y = x ∧ i < l.length) ∨ (j ≠ i ∧ l[j]? = some y) := by
  by_cases hj : i = j
  · subst hj
    by_cases hl : i < l.length
    · rw [List.getElem?_set_self hl] at h
      exact .inl ⟨rfl, (Option.some.inj h).symm, hl⟩
    · rw [List.getElem?_eq_none (by rw [List.length_set]; omega)] at h
      cases h
  · rw [List.getElem?_set_ne hj] at h
    exact .inr ⟨fun e => hj e.symm, h⟩
/-- the own list of slot i changes -/
theorem SR.put (s : SR C B env σ H) {i : Nat} {xs ys : List D} {p : Addr} {ws : List V} (he : env[i]? = some (.ow xs)) (hs : σ[i]? = some (some (.ref p))) (ra : RepAll C.K B ws ys) : SR C B (env.set i (.ow ys)) σ (upd H p (.lst ws)) := by
  obtain ⟨p', vs, e1, bp, gp, hp, _⟩ := s.sl i _ he
  rw [hs] at e1
  cases e1
  refine ⟨fun a u e => ?_, fun a u e => ?_, s.ex0, s.new, by rw [List.length_set]; exact s.len, fun j t h => ?_, fun j k q x1 x2 e1 e2 => ?_, s.fx⟩
  · rw [upd_ne (ne_of_none e gp)]
    exact s.exG a u e
  · rw [upd_ne (ne_of_none e bp)]
    exact s.exB a u e
  · rcases get_set h with ⟨rfl, rfl, _⟩ | ⟨hj, h⟩
    · exact ⟨p, ws, hs, bp, gp, upd_same, ra⟩
    · refine (s.sl j t h).mono (Ex.refl _) fun q e ⟨zs, ez⟩ => ?_
      subst ez
      have w := s.sl j _ h
      obtain ⟨p', vs', e3, b3, _, h3, _⟩ := w
      rw [e] at e3
      cases e3
      have ne : q ≠ p := fun z => hj (s.dis j i q zs xs h he e (by rw [z]; exact hs))
      exact ⟨b3, upd_ne ne⟩
  · have k1 : ∃ zs, env[j]? = some (.ow zs) := by
      rcases get_set e1 with ⟨rfl, _, _⟩ | ⟨_, h⟩
      · exact ⟨xs, he⟩
      · exact ⟨x1, h⟩
    have k2 : ∃ zs, env[k]? = some (.ow zs) := by
      rcases get_set e2 with ⟨rfl, _, _⟩ | ⟨_, h⟩
      · exact ⟨xs, he⟩
      · exact ⟨x2, h⟩
    obtain ⟨z1, k1⟩ := k1
    obtain ⟨z2, k2⟩ := k2
    exact s.dis j k q z1 z2 k1 k2
/-- slot i is given a value -/
theorem SR.setV (s : SR C B env σ H) {i : Nat} {v : V} {t : Sl} (hi : i ∉ C.fix) (ht : match t with
    | .un => True
    | .sh d => Rep C.K B v d
    | .ow xs => ∃ p vs, v = .ref p ∧ B p = none ∧ C.G p = none ∧ H p = some (.lst vs) ∧ RepAll C.K B vs xs ∧ Off (env.set i .un) σ p) : SR C B (env.set i t) (σ.set i (some v)) H := by
  refine ⟨s.exG, s.exB, s.ex0, s.new, by rw [List.length_set, List.length_set]; exact s.len, fun j u h => ?_, fun j k q x1 x2 e1 e2 h1 h2 => ?_, fun j hj => ?_⟩
  · rcases get_set h with ⟨rfl, rfl, hl⟩ | ⟨hj, h⟩
    · rw [List.getElem?_set_self (by rw [s.len]; exact hl)]
      cases u with
      | un => trivial
      | sh d => exact ⟨v, rfl, ht⟩
      | ow xs =>
        obtain ⟨p, vs, rfl, bp, gp, hp, ra, _⟩ := ht
        exact ⟨p, vs, rfl, bp, gp, hp, ra⟩
    · rw [List.getElem?_set_ne (fun e => hj e.symm)]
      exact s.sl j u h
  · rcases get_set e1 with ⟨rfl, et, hl⟩ | ⟨hj, g1⟩
    · rcases get_set e2 with ⟨rfl, _, _⟩ | ⟨hk, g2⟩
      · rfl
      · subst et
        obtain ⟨p, vs, rfl, _, _, _, _, off⟩ := ht
        rw [List.getElem?_set_self (by rw [s.len]; exact hl)] at h1
        cases h1
        rw [List.getElem?_set_ne (fun e => hk e.symm)] at h2
        exact absurd h2 (off k x2 (by rw [List.getElem?_set_ne (fun e => hk e.symm)]; exact g2))
    · rcases get_set e2 with ⟨rfl, et, hl⟩ | ⟨hk, g2⟩
      · subst et
        obtain ⟨p, vs, rfl, _, _, _, _, off⟩ := ht
        rw [List.getElem?_set_self (by rw [s.len]; exact hl)] at h2
        cases h2
        rw [List.getElem?_set_ne (fun e => hj e.symm)] at h1
        exact absurd h1 (off j x1 (by rw [List.getElem?_set_ne (fun e => hj e.symm)]; exact g1))
      · rw [List.getElem?_set_ne (fun e => hj e.symm)] at h1
        rw [List.getElem?_set_ne (fun e => hk e.symm)] at h2
        exact s.dis j k q x1 x2 g1 g2 h1 h2
  · have : j ≠ i := fun e => hi (by rw [← e]; exact hj)
    rw [List.getElem?_set_ne (fun e => this e.symm)]
    exact s.fx j hj
/-- what slot i holds from now on -/
def store (i : Nat) (r : R) (env : En) : Option En := match r with
  | .val d => some (env.set i (.sh d))
  | .fr xs => some (env.set i (.ow xs))
  | .al j => (frz env (.al j)).map fun b => b.2.set i (.sh b.1)
theorem off_un {q : Addr} (o : Off env σ q) (i : Nat) : Off (env.set i .un) σ q := fun j ys h => by
  rcases get_set h with ⟨_, e, _⟩ | ⟨_, h⟩
  · cases e
  · exact o j ys h
theorem store_ok (s : SR C B env σ H) {i : Nat} (hi : i ∉ C.fix) (h : RepR C B env σ H v r) (e : store i r env = some env') : ∃ B', SR C B' env' (σ.set i (some v)) H ∧ Ex B B' := by
  cases r with
  | val d =>
    cases e
    exact ⟨B, s.setV hi h, Ex.refl _⟩
  | fr xs =>
    cases e
    obtain ⟨p, vs, rfl, bp, gp, hp, ra, off⟩ := h
    exact ⟨B, s.setV hi ⟨p, vs, rfl, bp, gp, hp, ra, off_un off i⟩, Ex.refl _⟩
  | al j =>
    obtain ⟨⟨d, e1⟩, h1, rfl⟩ := Option.map_eq_some_iff.mp e
    obtain ⟨B1, s1, x1, r1⟩ := frz_rep s h h1
    exact ⟨B1, s1.setV hi r1, x1⟩

/-! ### methods of the function's own lists -/
def own (env : En) (i : Nat) : Option (List D) := match env[i]? with
  | some (.ow xs) => some xs
  | _ => none
theorem own_some {i : Nat} {xs : List D} (h : own env i = some xs) : env[i]? = some (.ow xs) := by
  unfold own at h
  split at h
  · cases h; assumption
  · cases h
def one : List D → Option D
  | [d] => some d
  | _ => none
def eAppend (i : Nat) (f : En → Option (List R × En)) : En → Option (R × En) := fun env => (own env i).bind fun _ => (aD f env).bind fun b => (one b.1).bind fun d => (own b.2 i).bind fun xs => if xs.length < 1000000 then some (.val .non, b.2.set i (.ow (xs ++ [d]))) else none
theorem mil {n : Nat} (h : n < 1000000) : n < sizeLine := Nat.lt_trans h (by decide)
theorem se_append {i : Nat} {ta : TA} {f : En → Option (List R × En)} (h : SA K ta f) : SE K (tBM K "list" rAppend (tVar i) ta) (eAppend i f) := by
  intro C hC B env σ H r env' s e Q hq
  obtain ⟨xs0, h0, e⟩ := Option.bind_eq_some_iff.mp e
  obtain ⟨⟨ds, e2⟩, h1, e⟩ := Option.bind_eq_some_iff.mp e
  obtain ⟨d, h2, e⟩ := Option.bind_eq_some_iff.mp e
  obtain ⟨xs, h3, e⟩ := Option.bind_eq_some_iff.mp e
  split at e
  · rename_i hl
    cases e
    obtain ⟨p, vs0, hs, bp, gp, hp, _⟩ := s.sl i _ (own_some h0)
    refine ⟨.ref p, hs, .inl ⟨rfl, _, sq_of hp⟩, ?_⟩
    obtain ⟨rs, e1, h4, h5⟩ := aD_some h1
    refine h C hC B env σ H rs e1 s h4 _ fun vs B1 H1 s1 x1 r1 => ?_
    obtain ⟨B2, s2, x2, ra⟩ := frzs_w s1 r1.w h5
    obtain ⟨p', ws, hs', bp', gp', hp', ra'⟩ := s2.sl i _ (own_some h3)
    rw [hs] at hs'
    cases hs'
    match ds, vs, h2, ra with
    | [_], [y], h2, .cons ry .nil =>
      cases h2
      refine ⟨p, ws, y, rfl, rfl, hp', by rw [ra'.length]; exact mil hl, ?_⟩
      exact hq .non B2 _ (s2.put (own_some h3) hs (ra'.append (.one ry))) (x1.trans x2) .non
  · cases e
/-- xs.pop(i), at a place that is there, counted from the front -/
def oneInt : List D → Option Int
  | [.int i] => some i
  | _ => none
def eaPop (i : Nat) (f : En → Option (List R × En)) : En → Option (R × En) := fun env => (own env i).bind fun _ => (aD f env).bind fun b => (oneInt b.1).bind fun k => (own b.2 i).bind fun xs =>
  if 0 ≤ k ∧ k < 2 ^ 63 then (xs[k.toNat]?).map fun d => (.val d, b.2.set i (.ow (xs.eraseIdx k.toNat))) else none
theorem se_popAt {i : Nat} {ta : TA} {f : En → Option (List R × En)} (h : SA K ta f) : SE K (tBM K "list" rPopAt (tVar i) ta) (eaPop i f) := by
  intro C hC B env σ H r env' s e Q hq
  obtain ⟨xs0, h0, e⟩ := Option.bind_eq_some_iff.mp e
  obtain ⟨⟨ds, e2⟩, h1, e⟩ := Option.bind_eq_some_iff.mp e
  obtain ⟨k, h2, e⟩ := Option.bind_eq_some_iff.mp e
  obtain ⟨xs, h3, e⟩ := Option.bind_eq_some_iff.mp e
  split at e
  · rename_i hk
    obtain ⟨d, hd, e⟩ := Option.map_eq_some_iff.mp e
    cases e
    obtain ⟨p, vs0, hs, bp, gp, hp, _⟩ := s.sl i _ (own_some h0)
    refine ⟨.ref p, hs, .inl ⟨rfl, _, sq_of hp⟩, ?_⟩
    obtain ⟨rs, e1, h4, h5⟩ := aD_some h1
    refine h C hC B env σ H rs e1 s h4 _ fun vs B1 H1 s1 x1 r1 => ?_
    obtain ⟨B2, s2, x2, ra⟩ := frzs_w s1 r1.w h5
    obtain ⟨p', ws, hs', bp', gp', hp', ra'⟩ := s2.sl i _ (own_some h3)
    rw [hs] at hs'
    cases hs'
    match ds, vs, h2, ra with
    | [.int _], [.int _], h2, .cons (.int _) .nil =>
      cases h2
      obtain ⟨y, hy, ry⟩ := ra'.get hd
      have hlt : k.toNat < ws.length := (List.getElem?_eq_some_iff.mp hy).1
      refine ⟨p, ws, k, k.toNat, y, rfl, rfl, hp', by omega, hk.2, ?_, hy, ?_⟩
      · exact seqIndex_of hk.1 (by omega)
      · exact hq y B2 _ (s2.put (own_some h3) hs (ra'.eraseIdx _)) (x1.trans x2) ry
  · cases e
def eaPop0 (i : Nat) : En → Option (R × En) := fun env => (own env i).bind fun xs => (xs[xs.length - 1]?).map fun d => (.val d, env.set i (.ow xs.dropLast))
theorem RepAll.dropLast {vs : List V} {xs : List D} (h : RepAll K B vs xs) : RepAll K B vs.dropLast xs.dropLast := by
  rw [List.dropLast_eq_take, List.dropLast_eq_take, h.length]
  exact h.take _
theorem se_pop {i : Nat} : SE K (tBM0 K "list" rPop (tVar i)) (eaPop0 i) := by
  intro C hC B env σ H r env' s e Q hq
  obtain ⟨xs, h0, e⟩ := Option.bind_eq_some_iff.mp e
  obtain ⟨d, hd, e⟩ := Option.map_eq_some_iff.mp e
  cases e
  obtain ⟨p, ws, hs, bp, gp, hp, ra⟩ := s.sl i _ (own_some h0)
  obtain ⟨y, hy, ry⟩ := ra.get hd
  refine ⟨.ref p, hs, .inl ⟨rfl, _, sq_of hp⟩, p, ws, y, rfl, rfl, hp, by rw [ra.length]; exact hy, ?_⟩
  exact hq y B _ (s.put (own_some h0) hs ra.dropLast) (Ex.refl _) ry
def eExtend (i : Nat) (f : En → Option (List R × En)) : En → Option (R × En) := fun env => (own env i).bind fun _ => (aD f env).bind fun b => (one b.1).bind fun d => (own b.2 i).bind fun xs => match d with
  | .lst ys => if xs.length + ys.length ≤ 1000000 then some (.val .non, b.2.set i (.ow (xs ++ ys))) else none
  | _ => none
theorem se_extend {i : Nat} {ta : TA} {f : En → Option (List R × En)} (h : SA K ta f) : SE K (tBM K "list" rExtend (tVar i) ta) (eExtend i f) := by
  intro C hC B env σ H r env' s e Q hq
  obtain ⟨xs0, h0, e⟩ := Option.bind_eq_some_iff.mp e
  obtain ⟨⟨ds, e2⟩, h1, e⟩ := Option.bind_eq_some_iff.mp e
  obtain ⟨d, h2, e⟩ := Option.bind_eq_some_iff.mp e
  obtain ⟨xs, h3, e⟩ := Option.bind_eq_some_iff.mp e
  split at e
  · split at e
    · rename_i hl
      cases e
      obtain ⟨p, vs0, hs, bp, gp, hp, _⟩ := s.sl i _ (own_some h0)
      refine ⟨.ref p, hs, .inl ⟨rfl, _, sq_of hp⟩, ?_⟩
      obtain ⟨rs, e1, h4, h5⟩ := aD_some h1
      refine h C hC B env σ H rs e1 s h4 _ fun vs B1 H1 s1 x1 r1 => ?_
      obtain ⟨B2, s2, x2, ra⟩ := frzs_w s1 r1.w h5
      obtain ⟨p', ws, hs', bp', gp', hp', ra'⟩ := s2.sl i _ (own_some h3)
      rw [hs] at hs'
      cases hs'
      match ds, vs, h2, ra with
      | [_], [y], h2, .cons ry .nil =>
        cases h2
        obtain ⟨b, zs, rfl, hb, rz⟩ := ry.list
        refine ⟨p, b, ws, zs, rfl, rfl, hp', s2.exB _ _ hb, by rw [ra'.length, rz.length]; exact (Nat.le_trans hl (by decide : 1000000 ≤ sizeLine)), ?_⟩
        exact hq .non B2 _ (s2.put (own_some h3) hs (ra'.append rz)) (x1.trans x2) .non
    · cases e
  · cases e

/-! ### slices -/
def SO (K : PySem.W.Frag) (t : TO) (f : En → Option (Option Int × En)) : Prop :=
  ∀ C : Ctx, C.K = K → ∀ (B : Hp) (env : En) (σ : L2.St) (H : Hp) (r : Option Int) (env' : En), SR C B env σ H → f env = some (r, env') →
    ∀ Q : Option Int → Hp → Prop, (∀ B' H', SR C B' env' σ H' → Ex B B' → Q r H') → t σ H Q
def oNone : En → Option (Option Int × En) := fun env => some (none, env)
def oSome (f : En → Option (R × En)) : En → Option (Option Int × En) := fun env => (f env).bind fun a => match a.1 with
  | .val (.int i) => some (some i, a.2)
  | _ => none
theorem so_none : SO K tNoPart oNone := by
  intro C hC B env σ H r env' s e Q hq
  cases e
  exact hq B H s (Ex.refl _)
theorem so_some (h : SE K te f) : SO K (tPart te) (oSome f) := by
  intro C hC B env σ H r env' s e Q hq
  obtain ⟨⟨a, e1⟩, h1, e⟩ := Option.bind_eq_some_iff.mp e
  split at e
  · rename_i q
    cases e
    simp only at q
    subst q
    refine h C hC B env σ H _ _ s h1 _ fun v B' H' s' x rr => ?_
    have rr : Rep C.K B' v (.int _) := rr
    cases rr
    exact ⟨_, rfl, hq B' H' s' x⟩
  · cases e
theorem SO.temp {t : TO} {g : En → Option (Option Int × En)} {b : Option Int} (h : SO K t g) (hC : C.K = K) (s : SR C B env σ H) (e : g env = some (b, env')) {T : Hp} (tm : Tmp B env σ H T) {Q : Option Int → Hp → Prop}
    (hq : ∀ B' H', SR C B' env' σ H' → Ex B B' → Tmp B' env' σ H' T → Q b H') : t σ H Q := by
  refine h (C.plus T) hC B env σ H b env' (s.plus tm) e Q fun B' H' s' x => ?_
  obtain ⟨s1, t1⟩ := SR.minus s.exG tm.ex tm.nb x s' s.ex0
  exact hq B' H' s1 x t1
def cutD (xs : List D) (lo hi : Option Int) : List D := (xs.drop (HT.sIx xs.length 0 lo)).take (HT.sIx xs.length xs.length hi - HT.sIx xs.length 0 lo)
theorem RepAll.cut {vs : List V} {xs : List D} (h : RepAll K B vs xs) (lo hi : Option Int) : RepAll K B (cutV vs lo hi) (cutD xs lo hi) := by
  unfold cutV cutD
  rw [h.length]
  exact (h.drop _).take _
def seqOf : D → Option (List D)
  | .lst xs => some xs
  | .scr ns => some (ns.map D.int)
  | _ => none
theorem seqOf_rep {xs : List D} (e : Ex B H) (h : RepK K B H v d) (q : seqOf d = some xs) : ∃ a vs, v = .ref a ∧ SqL K H a vs ∧ RepAll K B vs xs := by
  cases d with
  | lst ys =>
    cases q
    obtain ⟨a, vs, rfl, h1, h2⟩ := h.list e
    exact ⟨a, vs, rfl, sq_of h1, h2⟩
  | scr ns =>
    cases q
    obtain ⟨a, rfl, h1⟩ := (h.scal fun _ z => by cases z).script
    exact ⟨a, _, rfl, ex_l e h1, .of_ints ns⟩
  | _ => cases q
def eSl (fe : En → Option (R × En)) (fl fh : En → Option (Option Int × En)) : En → Option (R × En) := fun env => (fe env).bind fun a => (fl a.2).bind fun l => (fh l.2).bind fun h => (look h.2 a.1).bind fun d => (seqOf d).map fun xs => (.fr (cutD xs l.1 h.1), h.2)
theorem se_sl {tl th : TO} {fl fh : En → Option (Option Int × En)} (h1 : SE K te fe) (h2 : SO K tl fl) (h3 : SO K th fh) : SE K (tSl (rSlL K) te tl th) (eSl fe fl fh) := by
  intro C hC B env σ H r env' s e Q hq
  obtain ⟨⟨ra, e1⟩, g1, e⟩ := Option.bind_eq_some_iff.mp e
  obtain ⟨⟨l, e2⟩, g2, e⟩ := Option.bind_eq_some_iff.mp e
  obtain ⟨⟨h, e3⟩, g3, e⟩ := Option.bind_eq_some_iff.mp e
  obtain ⟨d, g4, e⟩ := Option.bind_eq_some_iff.mp e
  obtain ⟨xs, g5, e⟩ := Option.map_eq_some_iff.mp e
  cases e
  refine h1 C hC B env σ H ra e1 s g1 _ fun v B1 H1 s1 x1 r1 => ?_
  refine h2.temp hC s1 g2 r1.tmp fun B2 H2 s2 x2 t2 => ?_
  have r2 := r1.keep x2 t2
  refine h3.temp hC s2 g3 r2.tmp fun B3 H3 s3 x3 t3 => ?_
  have r3 := r2.keep x3 t3
  have k := look_rep s3 r3 g4
  rw [hC] at k
  obtain ⟨a, vs, rfl, q1, q2⟩ := seqOf_rep s3.exB k g5
  refine ⟨a, vs, rfl, q1, fun p hp => ?_⟩
  exact hq (.ref p) B3 _ (s3.temp hp) ((x1.trans x2).trans x3) (s3.newL hp (by rw [hC]; exact q2.cut _ _))
end
end Vm

set_option Elab.async false
set_option linter.all false
set_option maxRecDepth 100000
namespace Vm
open PySem PySem.Spec PyProof.Rows L2 Evl
section
variable {K : PySem.W.Frag} {C : Ctx} {B B' G H H' : Hp} {env env' : En} {σ : L2.St} {v : V} {r : R} {d : D} {ta tb te : TE} {fa fb fe : En → Option (R × En)} {f : En → Option (R × En)} {X : Cx} {fix : List Nat} {W : WX}

/-! ### targets -/
def Only (tv : List Nat) (σ σ' : L2.St) : Prop := σ'.length = σ.length ∧ ∀ i, i ∉ tv → σ'[i]? = σ[i]?
def SG (K : PySem.W.Frag) (fix : List Nat) (tv : List Nat) (g : TG) (f : D → En → Option En) : Prop :=
  ∀ C : Ctx, C.K = K → C.fix = fix → ∀ (B : Hp) (env : En) (σ : L2.St) (H : Hp) (v : V) (d : D) (env' : En), SR C B env σ H → Rep K B v d → f d env = some env' →
    ∀ Q : L2.St → Hp → Prop, (∀ σ', SR C B env' σ' H → Only tv σ σ' → Q σ' H) → g v σ H Q
def SGs (K : PySem.W.Frag) (fix : List Nat) (tv : List Nat) (g : TGs) (f : List D → En → Option En) : Prop :=
  ∀ C : Ctx, C.K = K → C.fix = fix → ∀ (B : Hp) (env : En) (σ : L2.St) (H : Hp) (vs : List V) (ds : List D) (env' : En), SR C B env σ H → RepAll K B vs ds → f ds env = some env' →
    ∀ Q : L2.St → Hp → Prop, (∀ σ', SR C B env' σ' H → Only tv σ σ' → Q σ' H) → g vs σ H Q
def tgName (i : Nat) : D → En → Option En := fun d env => some (env.set i (.sh d))
theorem sg_name {i : Nat} (hi : i ∉ fix) : SG K fix [i] (gName i) (tgName i) := by
  intro C hC hF B env σ H v d env' s rv e Q hq
  cases e
  subst hC hF
  exact hq _ (s.setV hi rv) ⟨by rw [List.length_set], fun j hj => List.getElem?_set_ne fun e => hj (by rw [e]; exact List.mem_cons_self)⟩
def tgNil : List D → En → Option En := fun ds env => match ds with
  | [] => some env
  | _ => none
def tgCons (f : D → En → Option En) (g : List D → En → Option En) : List D → En → Option En := fun ds env => match ds with
  | d :: ds => (f d env).bind fun e => g ds e
  | [] => none
theorem sgs_nil : SGs K fix [] gNil tgNil := by
  intro C hC hF B env σ H vs ds env' s ra e Q hq
  cases ra with
  | nil =>
    cases e
    exact ⟨rfl, hq σ s ⟨rfl, fun _ _ => rfl⟩⟩
  | cons _ _ => cases e
theorem sgs_cons {tv tw : List Nat} {t : TG} {u : TGs} {f : D → En → Option En} {g : List D → En → Option En} (h1 : SG K fix tv t f) (h2 : SGs K fix tw u g) : SGs K fix (tv ++ tw) (gCons t u) (tgCons f g) := by
  intro C hC hF B env σ H vs ds env' s ra e Q hq
  cases ra with
  | nil => cases e
  | cons rv ra =>
    obtain ⟨e1, g1, e⟩ := Option.bind_eq_some_iff.mp e
    exact ⟨_, _, rfl, h1 C hC hF B env σ H _ _ e1 s rv g1 _ fun σ' s' k1 => h2 C hC hF B e1 σ' H _ _ env' s' ra e Q fun σ2 s2 k2 => hq σ2 s2 ⟨k2.1.trans k1.1, fun i hi => (k2.2 i fun z => hi (List.mem_append_right _ z)).trans (k1.2 i fun z => hi (List.mem_append_left _ z))⟩⟩
def tgTup (n : Nat) (g : List D → En → Option En) : D → En → Option En := fun d env => match d with
  | .tup xs => if xs.length = n then g xs env else none
  | _ => none
theorem sg_tup {n : Nat} {tv : List Nat} {u : TGs} {g : List D → En → Option En} (h : SGs K fix tv u g) : SG K fix tv (gTup K n u) (tgTup n g) := by
  intro C hC hF B env σ H v d env' s rv e Q hq
  unfold tgTup at e
  split at e
  · split at e
    · rename_i hl
      obtain ⟨a, vs, rfl, h1, h2⟩ := rv.tuple
      exact ⟨a, vs, rfl, ex_t s.exB h1, by rw [h2.length]; exact hl, h C hC hF B env σ H _ _ env' s h2 e Q hq⟩
    · cases e
  · cases e

/-! ### statements -/
inductive Out where
  | nx (env : En) | rt (r : R) (env : En) | bk (env : En) | ct (env : En) | er (c : Addr) (env : En)
def Post (C : Ctx) (B : Hp) (W : WX) (D : Ends) : Out → Prop
  | .nx env' => ∀ B' σ' H', SR C B' env' σ' H' → Ex B B' → D.nx σ' H'
  | .rt r env' => ∀ v B' σ' H', SR C B' env' σ' H' → Ex B B' → RepR C B' env' σ' H' v r → D.rt v H'
  | .bk env' => ∀ B' σ' H', SR C B' env' σ' H' → Ex B B' → D.bk σ' H'
  | .ct env' => ∀ B' σ' H', SR C B' env' σ' H' → Ex B B' → D.ct σ' H'
  | .er c env' => ∀ B' σ' H', SR C B' env' σ' H' → Ex B B' → W (.ref c) none σ' H'
theorem Post.mono {D : Ends} {o : Out} (x : Ex B B') (h : Post C B W D o) : Post C B' W D o := by
  cases o with
  | nx e => exact fun B2 σ' H' s x2 => h B2 σ' H' s (x.trans x2)
  | rt r e => exact fun v B2 σ' H' s x2 => h v B2 σ' H' s (x.trans x2)
  | bk e => exact fun B2 σ' H' s x2 => h B2 σ' H' s (x.trans x2)
  | ct e => exact fun B2 σ' H' s x2 => h B2 σ' H' s (x.trans x2)
  | er c e => exact fun B2 σ' H' s x2 => h B2 σ' H' s (x.trans x2)
def SS (K : PySem.W.Frag) (fix : List Nat) (W : WX) (t : TS) (F : En → Option Out) : Prop :=
  ∀ C : Ctx, C.K = K → C.fix = fix → ∀ (B : Hp) (env : En) (σ : L2.St) (H : Hp) (o : Out), SR C B env σ H → F env = some o → ∀ D : Ends, Post C B W D o → t D σ H
def sNext : En → Option Out := fun env => some (.nx env)
theorem ss_next : SS K fix W tNext sNext := by
  intro C hC hF B env σ H o s e D p
  cases e
  exact p B σ H s (Ex.refl _)
def sSeq (F G : En → Option Out) : En → Option Out := fun env => (F env).bind fun o => match o with
  | .nx e1 => G e1
  | o => some o
theorem ss_seq {t u : TS} {F G : En → Option Out} (h1 : SS K fix W t F) (h2 : SS K fix W u G) : SS K fix W (tSeq t u) (sSeq F G) := by
  intro C hC hF B env σ H o s e D p
  obtain ⟨o1, g1, e⟩ := Option.bind_eq_some_iff.mp e
  refine h1 C hC hF B env σ H o1 s g1 _ ?_
  cases o1 with
  | nx e1 => exact fun B' σ' H' s' x => h2 C hC hF B' e1 σ' H' o s' e D (p.mono x)
  | rt r e1 => cases e; exact p
  | bk e1 => cases e; exact p
  | ct e1 => cases e; exact p
  | er c e1 => cases e; exact p
def sBreak : En → Option Out := fun env => some (.bk env)
theorem ss_break : SS K fix W tBreak sBreak := by
  intro C hC hF B env σ H o s e D p
  cases e
  exact p B σ H s (Ex.refl _)
def sCont : En → Option Out := fun env => some (.ct env)
theorem ss_cont : SS K fix W tCont sCont := by
  intro C hC hF B env σ H o s e D p
  cases e
  exact p B σ H s (Ex.refl _)
def sExpr (f : En → Option (R × En)) : En → Option Out := fun env => (f env).map fun a => .nx a.2
theorem ss_expr (h : SE K te f) : SS K fix W (tDrop te) (sExpr f) := by
  intro C hC hF B env σ H o s e D p
  obtain ⟨⟨a, e1⟩, g1, rfl⟩ := Option.map_eq_some_iff.mp e
  exact h C hC B env σ H a e1 s g1 _ fun v B' H' s' x _ => p B' σ H' s' x
def sRet (f : En → Option (R × En)) : En → Option Out := fun env => (f env).map fun a => .rt a.1 a.2
theorem ss_ret (h : SE K te f) : SS K fix W (tRet te) (sRet f) := by
  intro C hC hF B env σ H o s e D p
  obtain ⟨⟨a, e1⟩, g1, rfl⟩ := Option.map_eq_some_iff.mp e
  exact h C hC B env σ H a e1 s g1 _ fun v B' H' s' x rr => p v B' σ H' s' x rr
def sRetN : En → Option Out := fun env => some (.rt (.val .non) env)
theorem ss_retN : SS K fix W tRetN sRetN := by
  intro C hC hF B env σ H o s e D p
  cases e
  exact p .non B σ H s (Ex.refl _) .non
def sIf (g : En → Option (Bool × En)) (F G : En → Option Out) : En → Option Out := fun env => (g env).bind fun a => if a.1 then F a.2 else G a.2
theorem ss_if {c : TT} {t u : TS} {g : En → Option (Bool × En)} {F G : En → Option Out} (hc : ST K c g) (h1 : SS K fix W t F) (h2 : SS K fix W u G) : SS K fix W (tIfS c t u) (sIf g F G) := by
  intro C hC hF B env σ H o s e D p
  obtain ⟨⟨b, e1⟩, g1, e⟩ := Option.bind_eq_some_iff.mp e
  refine hc C hC B env σ H b e1 s g1 _ fun B' H' s' x => ?_
  cases b with
  | true =>
    show t D σ H'
    exact h1 C hC hF B' e1 σ H' o s' e D (p.mono x)
  | false =>
    show u D σ H'
    exact h2 C hC hF B' e1 σ H' o s' e D (p.mono x)
def sSet (i : Nat) (f : En → Option (R × En)) : En → Option Out := fun env => (f env).bind fun a => (store i a.1 a.2).map Out.nx
theorem ss_set {i : Nat} (h : SE K te f) (hi : i ∉ fix) : SS K fix W (tAsg te (gName i)) (sSet i f) := by
  intro C hC hF B env σ H o s e D p
  obtain ⟨⟨a, e1⟩, g1, e⟩ := Option.bind_eq_some_iff.mp e
  obtain ⟨e2, g2, rfl⟩ := Option.map_eq_some_iff.mp e
  refine h C hC B env σ H a e1 s g1 _ fun v B' H' s' x rr => ?_
  obtain ⟨B2, s2, x2⟩ := store_ok s' (by rw [hF]; exact hi) rr g2
  exact p B2 _ H' s2 (x.trans x2)
/-- any other target: the value is data -/
def sAsg (f : En → Option (R × En)) (g : D → En → Option En) : En → Option Out := fun env => (f env).bind fun a => (frz a.2 a.1).bind fun b => (g b.1 b.2).map Out.nx
theorem ss_asg {g : TG} {tv : List Nat} {gf : D → En → Option En} (h : SE K te f) (hg : SG K fix tv g gf) : SS K fix W (tAsg te g) (sAsg f gf) := by
  intro C hC hF B env σ H o s e D p
  obtain ⟨⟨a, e1⟩, g1, e⟩ := Option.bind_eq_some_iff.mp e
  obtain ⟨⟨d, e2⟩, g2, e⟩ := Option.bind_eq_some_iff.mp e
  obtain ⟨e3, g3, rfl⟩ := Option.map_eq_some_iff.mp e
  refine h C hC B env σ H a e1 s g1 _ fun v B' H' s' x rr => ?_
  obtain ⟨B2, s2, x2, r2⟩ := frz_rep s' rr g2
  rw [hC] at r2
  exact hg C hC hF B2 e2 σ H' v d e3 s2 r2 g3 _ fun σ' s3 _ => p B2 σ' H' s3 (x.trans x2)
/-- xs[k] = e, xs a list of the function's own -/
def sPut (i : Nat) (fe fk : En → Option (R × En)) : En → Option Out := fun env => (fe env).bind fun a => (frz a.2 a.1).bind fun b => (own b.2 i).bind fun _ => (fk b.2).bind fun k => match k.1 with
  | .val (.int z) => (own k.2 i).bind fun xs => (ixN xs.length z).map fun j => .nx (k.2.set i (.ow (xs.set j b.1)))
  | _ => none
theorem ss_put {i : Nat} {tk : TE} {fk : En → Option (R × En)} (h : SE K te fe) (hk : SE K tk fk) : SS K fix W (tAsg te (gSub (tVar i) tk rSetL)) (sPut i fe fk) := by
  intro C hC hF B env σ H o s e D p
  obtain ⟨⟨a, e1⟩, g1, e⟩ := Option.bind_eq_some_iff.mp e
  obtain ⟨⟨d, e2⟩, g2, e⟩ := Option.bind_eq_some_iff.mp e
  obtain ⟨xs0, g0, e⟩ := Option.bind_eq_some_iff.mp e
  obtain ⟨⟨k, e3⟩, g3, e⟩ := Option.bind_eq_some_iff.mp e
  split at e
  · rename_i z hz
    simp only at hz
    subst hz
    obtain ⟨xs, g4, e⟩ := Option.bind_eq_some_iff.mp e
    obtain ⟨j, g5, rfl⟩ := Option.map_eq_some_iff.mp e
    refine h C hC B env σ H a e1 s g1 _ fun v B1 H1 s1 x1 rr => ?_
    obtain ⟨B2, s2, x2, r2⟩ := frz_rep s1 rr g2
    obtain ⟨q, vs0, hs, _⟩ := s2.sl i _ (own_some g0)
    refine ⟨.ref q, hs, ?_⟩
    refine hk C hC B2 e2 σ H1 _ e3 s2 g3 _ fun w B3 H3 s3 x3 rk => ?_
    have rk : Rep C.K B3 w (.int z) := rk
    cases rk
    obtain ⟨q', vs, hs', bq, gq, hq, ra⟩ := s3.sl i _ (own_some g4)
    rw [hs] at hs'
    cases hs'
    refine ⟨q, vs, z, j, rfl, rfl, hq, by rw [ra.length]; exact g5, ?_⟩
    exact p B3 σ _ (s3.put (own_some g4) hs (RepAll.set (r2.mono x3) j ra)) ((x1.trans x2).trans x3)
  · cases e
/-- x += e, a number or a text -/
def sAug (i : Nat) (g : D → D → Option D) (f : En → Option (R × En)) : En → Option Out := fun env => match env[i]? with
  | some (.sh x) => (f env).bind fun a => (look a.2 a.1).bind fun y => (g x y).map fun z => .nx (a.2.set i (.sh z))
  | _ => none
def RIp (K : PySem.W.Frag) (ti : TIp) (g : D → D → Option D) : Prop := ∀ (B H : Hp) (x y : V) (dx dy z : D), Ex B H → RepK K B H x dx → RepK K B H y dy → g dx dy = some z → ∃ v, sc z = some v ∧ ∀ Q : VK, Q v H → ti x y H Q
theorem ss_aug {i : Nat} {ti : TIp} {g : D → D → Option D} (h : SE K te f) (hg : RIp K ti g) (hi : i ∉ fix) : SS K fix W (tAug i te ti) (sAug i g f) := by
  intro C hC hF B env σ H o s e D p
  unfold sAug at e
  split at e
  · rename_i x hx
    obtain ⟨⟨a, e1⟩, g1, e⟩ := Option.bind_eq_some_iff.mp e
    obtain ⟨y, g2, e⟩ := Option.bind_eq_some_iff.mp e
    obtain ⟨z, g3, rfl⟩ := Option.map_eq_some_iff.mp e
    obtain ⟨v, hv, rv⟩ := s.sl i _ hx
    refine ⟨v, hv, ?_⟩
    refine h C hC B env σ H a e1 s g1 _ fun w B1 H1 s1 x1 rr => ?_
    have k := look_rep s1 rr g2
    rw [hC] at k
    have r1 := rv.mono x1
    rw [hC] at r1
    obtain ⟨u, hu, go⟩ := hg B1 H1 v w x y z s1.exB (.inl r1) k g3
    refine go _ ?_
    exact p B1 _ H1 (s1.setV (by rw [hF]; exact hi) (sc_rep hu)) x1
  · cases e
theorem rip_I {g : Int → Int → Int} : RIp K (ipI g) (dI yes2 fun i j => .int (g i j)) := by
  intro B H x y dx dy z e rx ry h
  obtain ⟨i, j, rfl, rfl, _, rfl⟩ := dI_some h
  exact ⟨_, rfl, fun Q q => ⟨i, j, rx.int, ry.int, q⟩⟩
/-- xs[k] += e, xs a list of the function's own -/
def sPutAug (i : Nat) (g : D → D → Option D) (fk fe : En → Option (R × En)) : En → Option Out := fun env => (own env i).bind fun _ => (fk env).bind fun k => match k.1 with
  | .val (.int z) => (own k.2 i).bind fun xs => (atI xs z).bind fun x => (fe k.2).bind fun a => (look a.2 a.1).bind fun y => (g x y).bind fun w => (own a.2 i).bind fun ys => (ixN ys.length z).map fun j => .nx (a.2.set i (.ow (ys.set j w)))
  | _ => none
theorem ss_putAug {i : Nat} {tk : TE} {ti : TIp} {g : D → D → Option D} {fk : En → Option (R × En)} (hk : SE K tk fk) (h : SE K te fe) (hg : RIp K ti g) : SS K fix W (tAugS (tVar i) tk te (rIxL K) ti rSetL) (sPutAug i g fk fe) := by
  intro C hC hF B env σ H o s e D p
  obtain ⟨xs0, g0, e⟩ := Option.bind_eq_some_iff.mp e
  obtain ⟨⟨k, e1⟩, g1, e⟩ := Option.bind_eq_some_iff.mp e
  split at e
  · rename_i z hz
    simp only at hz
    subst hz
    obtain ⟨xs, g2, e⟩ := Option.bind_eq_some_iff.mp e
    obtain ⟨x, g3, e⟩ := Option.bind_eq_some_iff.mp e
    obtain ⟨⟨a, e2⟩, g4, e⟩ := Option.bind_eq_some_iff.mp e
    obtain ⟨y, g5, e⟩ := Option.bind_eq_some_iff.mp e
    obtain ⟨w, g6, e⟩ := Option.bind_eq_some_iff.mp e
    obtain ⟨ys, g7, e⟩ := Option.bind_eq_some_iff.mp e
    obtain ⟨j, g8, rfl⟩ := Option.map_eq_some_iff.mp e
    obtain ⟨q, vs0, hs, _⟩ := s.sl i _ (own_some g0)
    refine ⟨.ref q, hs, ?_⟩
    refine hk C hC B env σ H _ e1 s g1 _ fun u B1 H1 s1 x1 rk => ?_
    have rk : Rep C.K B1 u (.int z) := rk
    cases rk
    obtain ⟨q', vs, hs', bq, gq, hq, ra⟩ := s1.sl i _ (own_some g2)
    rw [hs] at hs'
    cases hs'
    obtain ⟨xv, hx, rx⟩ := repAll_at ra g3
    refine ⟨q, vs, z, xv, rfl, rfl, sq_of hq, hx, ?_⟩
    refine h C hC B1 e1 σ H1 a e2 s1 g4 _ fun yv B2 H2 s2 x2 ry => ?_
    have ky := look_rep s2 ry g5
    rw [hC] at ky
    have r1 := rx.mono x2
    rw [hC] at r1
    obtain ⟨wv, hw, go⟩ := hg B2 H2 xv yv x y w s2.exB (.inl r1) ky g6
    refine go _ ?_
    obtain ⟨q', vs', hs', bq', gq', hq', ra'⟩ := s2.sl i _ (own_some g7)
    rw [hs] at hs'
    cases hs'
    refine ⟨q, vs', z, j, rfl, rfl, hq', by rw [ra'.length]; exact g8, ?_⟩
    exact p B2 σ _ (s2.put (own_some g7) hs (RepAll.set (sc_rep hw) j ra')) (x1.trans x2)
  · cases e
/-- a result that is no alias -/
def fz (env : En) : R → Option (R × En)
  | .fr xs => some (.fr xs, env)
  | r => (frz env r).map fun a => (.val a.1, a.2)
def isFr : R → Bool
  | .fr _ => true
  | _ => false
/-- a, b = x, y: one of them may be a new list; two new ones are data -/
def sPar (i j : Nat) (f : En → Option (List R × En)) : En → Option Out := fun env => (f env).bind fun a => match a.1 with
  | [.val d1, .val d2] => some (.nx ((a.2.set i (.sh d1)).set j (.sh d2)))
  | [.val d1, .fr xs] => some (.nx ((a.2.set i (.sh d1)).set j (.ow xs)))
  | [.fr xs, .val d2] => some (.nx ((a.2.set i (.ow xs)).set j (.sh d2)))
  | [r1, r2] => (frzs a.2 [r1, r2]).bind fun b => match b.1 with
    | [d1, d2] => some (.nx ((b.2.set i (.sh d1)).set j (.sh d2)))
    | _ => none
  | _ => none
theorem off_set {q : Addr} {i : Nat} {d : D} {v : V} (o : Off env σ q) : Off (env.set i (.sh d)) (σ.set i (some v)) q := fun k ys h h2 => by
  by_cases hk : i = k
  · subst hk
    by_cases hl : i < env.length
    · rw [List.getElem?_set_self hl] at h
      cases h
    · rw [List.getElem?_eq_none (by rw [List.length_set]; omega)] at h
      cases h
  · rw [List.getElem?_set_ne hk] at h h2
    exact o k ys h h2
theorem ss_par {i j : Nat} {ta : TA} {f : En → Option (List R × En)} (h : SA K ta f) (hi : i ∉ fix) (hj : j ∉ fix) : SS K fix W (tPar i j ta) (sPar i j f) := by
  intro C hC hF B env σ H o s e D p
  obtain ⟨⟨rs, e1⟩, g1, e⟩ := Option.bind_eq_some_iff.mp e
  refine h C hC B env σ H rs e1 s g1 _ fun vs B1 H1 s1 x1 rr => ?_
  split at e
  · rename_i d1 d2 hr
    simp only at hr
    subst hr
    cases e
    match vs, rr with
    | [v, w], ⟨rv, rw', _⟩ =>
      refine ⟨v, w, rfl, ?_⟩
      have s3 := s1.setV (i := i) (v := v) (t := .sh d1) (by rw [hF]; exact hi) rv
      have s4 := s3.setV (i := j) (v := w) (t := .sh d2) (by rw [hF]; exact hj) rw'
      exact p B1 _ H1 s4 x1
  · rename_i d1 xs hr
    simp only at hr
    subst hr
    cases e
    match vs, rr with
    | [v, w], ⟨rv, rw', _⟩ =>
      refine ⟨v, w, rfl, ?_⟩
      have s3 := s1.setV (i := i) (v := v) (t := .sh d1) (by rw [hF]; exact hi) rv
      obtain ⟨q, ws, rfl, bq, gq, hq, ra, off⟩ := rw'
      have s4 := s3.setV (i := j) (v := .ref q) (t := .ow xs) (by rw [hF]; exact hj) ⟨q, ws, rfl, bq, gq, hq, ra, off_un (off_set off) j⟩
      exact p B1 _ H1 s4 x1
  · rename_i xs d2 hr
    simp only at hr
    subst hr
    cases e
    match vs, rr with
    | [v, w], ⟨rv, rw', _⟩ =>
      refine ⟨v, w, rfl, ?_⟩
      obtain ⟨q, ws, rfl, bq, gq, hq, ra, off⟩ := rv
      have s3 := s1.setV (i := i) (v := .ref q) (t := .ow xs) (by rw [hF]; exact hi) ⟨q, ws, rfl, bq, gq, hq, ra, off_un off i⟩
      have s4 := s3.setV (i := j) (v := w) (t := .sh d2) (by rw [hF]; exact hj) rw'
      exact p B1 _ H1 s4 x1
  · rename_i r1 r2 _ _ _ hr
    simp only at hr
    subst hr
    obtain ⟨⟨ds, e2⟩, g2, e⟩ := Option.bind_eq_some_iff.mp e
    split at e
    · rename_i d1 d2 hd
      simp only at hd
      subst hd
      cases e
      obtain ⟨B2, s2, x2, ra⟩ := frzs_w s1 rr.w g2
      match vs, ra with
      | [v, w], .cons rv (.cons rw' .nil) =>
        refine ⟨v, w, rfl, ?_⟩
        have s3 := s2.setV (i := i) (v := v) (t := .sh d1) (by rw [hF]; exact hi) rv
        have s4 := s3.setV (i := j) (v := w) (t := .sh d2) (by rw [hF]; exact hj) rw'
        exact p B2 _ H1 s4 (x1.trans x2)
    · cases e
  · cases e

/-! ### loops -/
/-- what an iterator of these items does -/
def ItRep (K : PySem.W.Frag) (B : Hp) (J : It) (ds : List D) : Prop := ∀ H : Hp, Ex B H → ∀ i : Nat,
  (ds.length ≤ i → J.stop i H) ∧ ∀ d, ds[i]? = some d → J.go i H ∧ ∀ x H', J.yld i H x H' → (H' = H ∧ Rep K B x d) ∨ ∃ T vs xs, H T = none ∧ H' = upd H T (.tup vs) ∧ x = .ref T ∧ d = .tup xs ∧ RepAll K B vs xs
def SI (K : PySem.W.Frag) (w : TI) (f : En → Option (List D × En)) : Prop :=
  ∀ C : Ctx, C.K = K → ∀ (B : Hp) (env : En) (σ : L2.St) (H : Hp) (ds : List D) (env' : En), SR C B env σ H → f env = some (ds, env') →
    ∀ Q : It → Hp → Prop, (∀ J B' H', SR C B' env' σ H' → Ex B B' → ItRep K B' J ds → Q J H') → w σ H Q
def iSeq (f : En → Option (R × En)) : En → Option (List D × En) := fun env => (f env).bind fun a => (frz a.2 a.1).bind fun b => match b.1 with
  | .lst xs => some (xs, b.2)
  | .scr ns => some (ns.map D.int, b.2)
  | _ => none
theorem itRep_list {a : Addr} {vs : List V} {ds : List D} (h : SqL K B a vs) (ra : RepAll K B vs ds) : ItRep K B (Itl K a) ds := by
  intro H x i
  have h' := ex_l x h
  refine ⟨fun hi => ⟨vs, h', by rw [ra.length]; exact hi⟩, fun d hd => ?_⟩
  obtain ⟨v, hv, rv⟩ := ra.get hd
  refine ⟨⟨vs, v, h', hv⟩, fun y H' hy => .inl ⟨hy.1, ?_⟩⟩
  have := hy.2 vs h'
  rw [hv] at this
  cases this
  exact rv
theorem si_list (h : SE K te fe) : SI K (iList K te) (iSeq fe) := by
  intro C hC B env σ H ds env' s e Q hq
  obtain ⟨⟨a, e1⟩, g1, e⟩ := Option.bind_eq_some_iff.mp e
  obtain ⟨⟨d, e2⟩, g2, e⟩ := Option.bind_eq_some_iff.mp e
  refine h C hC B env σ H a e1 s g1 _ fun v B1 H1 s1 x1 rr => ?_
  obtain ⟨B2, s2, x2, r2⟩ := frz_rep s1 rr g2
  rw [hC] at r2
  split at e
  · rename_i xs hx
    simp only at hx
    subst hx
    cases e
    obtain ⟨p, vs, rfl, h1, h2⟩ := r2.list
    exact ⟨p, rfl, ⟨vs, sq_of (s2.exB _ _ h1)⟩, hq _ B2 H1 s2 (x1.trans x2) (itRep_list (sq_of h1) h2)⟩
  · rename_i ns hx
    simp only at hx
    subst hx
    cases e
    obtain ⟨p, rfl, h1⟩ := r2.script
    exact ⟨p, rfl, ⟨_, ex_l s2.exB h1⟩, hq _ B2 H1 s2 (x1.trans x2) (itRep_list h1 (.of_ints ns))⟩
  · cases e
def iTupF (f : En → Option (R × En)) : En → Option (List D × En) := fun env => (f env).bind fun a => match a.1 with
  | .val (.tup xs) => some (xs, a.2)
  | _ => none
theorem si_tup (h : SE K te fe) : SI K (iTup K te) (iTupF fe) := by
  intro C hC B env σ H ds env' s e Q hq
  obtain ⟨⟨a, e1⟩, g1, e⟩ := Option.bind_eq_some_iff.mp e
  split at e
  · rename_i xs hx
    simp only at hx
    subst hx
    cases e
    refine h C hC B env σ H _ e1 s g1 _ fun v B1 H1 s1 x1 rr => ?_
    have rr : Rep C.K B1 v (.tup ds) := rr
    rw [hC] at rr
    obtain ⟨p, vs, rfl, h1, h2⟩ := rr.tuple
    refine ⟨p, rfl, ⟨vs, ex_t s1.exB h1⟩, hq _ B1 H1 s1 x1 fun H x i => ?_⟩
    have h' := ex_t x h1
    refine ⟨fun hi => ⟨vs, h', by rw [h2.length]; exact hi⟩, fun d hd => ?_⟩
    obtain ⟨w, hv, rv⟩ := h2.get hd
    refine ⟨⟨vs, w, h', hv⟩, fun y H' hy => .inl ⟨hy.1, ?_⟩⟩
    have := hy.2 vs h'
    rw [hv] at this
    cases this
    exact rv
  · cases e
def upTo (lo : Int) (n : Nat) : List D := (List.range n).map fun i => .int (lo + (i : Nat))
theorem upTo_length (lo : Int) (n : Nat) : (upTo lo n).length = n := by simp [upTo]
theorem upTo_get {lo : Int} {n i : Nat} {d : D} (h : (upTo lo n)[i]? = some d) : i < n ∧ d = .int (lo + (i : Nat)) := by
  have hi : i < n := by
    have := (List.getElem?_eq_some_iff.mp h).1
    rw [upTo_length] at this
    exact this
  unfold upTo at h
  rw [List.getElem?_map, List.getElem?_range hi] at h
  exact ⟨hi, (Option.some.inj h).symm⟩
theorem itRep_range {lo : Int} {n : Nat} : ItRep K B (Itr lo n) (upTo lo n) := by
  intro H x i
  refine ⟨fun hi => by rw [upTo_length] at hi; exact hi, fun d hd => ?_⟩
  obtain ⟨h1, rfl⟩ := upTo_get hd
  refine ⟨h1, fun y H' hy => .inl ⟨hy.1, ?_⟩⟩
  rw [hy.2]
  exact .int _
def iR1 (f : En → Option (List R × En)) : En → Option (List D × En) := fun env => (aD f env).bind fun a => match a.1 with
  | [.int j] => if -(2 ^ 62) ≤ j ∧ j < 2 ^ 62 then some (upTo 0 j.toNat, a.2) else none
  | _ => none
def iR2 (f : En → Option (List R × En)) : En → Option (List D × En) := fun env => (aD f env).bind fun a => match a.1 with
  | [.int i, .int j] => if -(2 ^ 62) ≤ i ∧ i < 2 ^ 62 ∧ -(2 ^ 62) ≤ j ∧ j < 2 ^ 62 then some (upTo i (j - i).toNat, a.2) else none
  | _ => none
theorem si_r1 {ta : TA} {f : En → Option (List R × En)} (h : SA K ta f) : SI K (iRng1 ta) (iR1 f) := by
  intro C hC B env σ H ds env' s e Q hq
  obtain ⟨⟨as, e1⟩, g1, e⟩ := Option.bind_eq_some_iff.mp e
  obtain ⟨rs, e0, g2, g3⟩ := aD_some g1
  split at e
  · rename_i j hj
    simp only at hj
    subst hj
    split at e
    · rename_i hb
      cases e
      refine h C hC B env σ H rs e0 s g2 _ fun vs B1 H1 s1 x1 rr => ?_
      obtain ⟨B2, s2, x2, ra⟩ := frzs_w s1 rr.w g3
      match vs, ra with
      | [.int _], .cons (.int _) .nil => exact ⟨j, rfl, hb.1, hb.2, hq _ B2 H1 s2 (x1.trans x2) itRep_range⟩
    · cases e
  · cases e
theorem si_r2 {ta : TA} {f : En → Option (List R × En)} (h : SA K ta f) : SI K (iRng2 ta) (iR2 f) := by
  intro C hC B env σ H ds env' s e Q hq
  obtain ⟨⟨as, e1⟩, g1, e⟩ := Option.bind_eq_some_iff.mp e
  obtain ⟨rs, e0, g2, g3⟩ := aD_some g1
  split at e
  · rename_i i j hj
    simp only at hj
    subst hj
    split at e
    · rename_i hb
      cases e
      refine h C hC B env σ H rs e0 s g2 _ fun vs B1 H1 s1 x1 rr => ?_
      obtain ⟨B2, s2, x2, ra⟩ := frzs_w s1 rr.w g3
      match vs, ra with
      | [.int _, .int _], .cons (.int _) (.cons (.int _) .nil) => exact ⟨i, j, rfl, hb, hq _ B2 H1 s2 (x1.trans x2) itRep_range⟩
    · cases e
  · cases e
/-- the items with their places -/
def enumD : Nat → List D → List D
  | _, [] => []
  | k, d :: ds => .tup [.int k, d] :: enumD (k + 1) ds
theorem enumD_length : ∀ (k : Nat) (ds : List D), (enumD k ds).length = ds.length
  | _, [] => rfl
  | k, d :: ds => congrArg (· + 1) (enumD_length (k + 1) ds)
theorem enumD_get : ∀ (k : Nat) (ds : List D) (i : Nat) (d : D), (enumD k ds)[i]? = some d → ∃ x, ds[i]? = some x ∧ d = .tup [.int ((k + i : Nat) : Int), x]
  | _, [], i, d, h => by
    unfold enumD at h
    simp at h
  | k, x :: ds, 0, d, h => by
    unfold enumD at h
    simp at h
    exact ⟨x, rfl, h.symm⟩
  | k, x :: ds, i + 1, d, h => by
    unfold enumD at h
    obtain ⟨y, h1, h2⟩ := enumD_get (k + 1) ds i d (by simpa using h)
    exact ⟨y, by simpa using h1, by rw [h2, show k + 1 + i = k + (i + 1) by omega]⟩
def zipD : List D → List D → List D
  | x :: xs, y :: ys => .tup [x, y] :: zipD xs ys
  | _, _ => []
theorem zipD_length : ∀ xs ys : List D, (zipD xs ys).length = min xs.length ys.length
  | [], ys => by simp [zipD]
  | x :: xs, [] => by simp [zipD]
  | x :: xs, y :: ys => by
    simp only [zipD, List.length_cons, zipD_length xs ys]
    omega
theorem zipD_get : ∀ (xs ys : List D) (i : Nat) (d : D), (zipD xs ys)[i]? = some d → ∃ x y, xs[i]? = some x ∧ ys[i]? = some y ∧ d = .tup [x, y]
  | [], ys, i, d, h => by simp [zipD] at h
  | x :: xs, [], i, d, h => by simp [zipD] at h
  | x :: xs, y :: ys, 0, d, h => by
    simp [zipD] at h
    exact ⟨x, y, rfl, rfl, h.symm⟩
  | x :: xs, y :: ys, i + 1, d, h => by
    obtain ⟨a, b, h1, h2, h3⟩ := zipD_get xs ys i d (by simpa [zipD] using h)
    exact ⟨a, b, by simpa using h1, by simpa using h2, h3⟩
end
end Vm

set_option Elab.async false
set_option linter.all false
set_option maxRecDepth 100000
namespace Vm
open PySem PySem.Spec PyProof.Rows L2 Evl
section
variable {K : PySem.W.Frag} {C : Ctx} {B B' G H H' : Hp} {env env' : En} {σ : L2.St} {v : V} {r : R} {d : D} {ta tb te : TE} {fa fb fe : En → Option (R × En)} {f : En → Option (R × En)} {X : Cx} {fix : List Nat} {W : WX}

def iEnumF (f : En → Option (List R × En)) : En → Option (List D × En) := fun env => (aD f env).bind fun a => match a.1 with
  | [d] => (seqOf d).map fun xs => (enumD 0 xs, a.2)
  | _ => none
theorem seqOf_data {xs : List D} (h : Rep K B v d) (q : seqOf d = some xs) : ∃ a vs, v = .ref a ∧ SqL K B a vs ∧ RepAll K B vs xs := seqOf_rep (Ex.refl B) (.inl h) q
theorem si_enum {ta : TA} {f : En → Option (List R × En)} (h : SA K ta f) : SI K (iEnum K ta) (iEnumF f) := by
  intro C hC B env σ H ds env' s e Q hq
  obtain ⟨⟨as, e1⟩, g1, e⟩ := Option.bind_eq_some_iff.mp e
  obtain ⟨rs, e0, g2, g3⟩ := aD_some g1
  split at e
  · rename_i d hd
    simp only at hd
    subst hd
    obtain ⟨xs, g4, e⟩ := Option.map_eq_some_iff.mp e
    cases e
    refine h C hC B env σ H rs e0 s g2 _ fun vs B1 H1 s1 x1 rr => ?_
    obtain ⟨B2, s2, x2, ra⟩ := frzs_w s1 rr.w g3
    match vs, ra with
    | [v], .cons rv .nil =>
      rw [hC] at rv
      obtain ⟨a, ws, rfl, h1, h2⟩ := seqOf_data rv g4
      refine ⟨a, ws, rfl, ex_l s2.exB h1, hq _ B2 H1 s2 (x1.trans x2) fun H x i => ?_⟩
      have h' := ex_l x h1
      refine ⟨fun hi => ⟨ws, h', by rw [h2.length]; rw [enumD_length] at hi; exact hi⟩, fun d hd => ?_⟩
      obtain ⟨y, hy, rfl⟩ := enumD_get 0 xs i d hd
      obtain ⟨w, hw, rw'⟩ := h2.get hy
      refine ⟨⟨ws, w, h', hw⟩, fun z H' hz => .inr ?_⟩
      obtain ⟨T, x', rfl, nT, rfl, k⟩ := hz
      have := k ws h'
      rw [hw] at this
      cases this
      exact ⟨T, _, _, nT, rfl, rfl, rfl, .cons (by rw [Nat.zero_add]; exact .int _) (.one rw')⟩
  · cases e
def iZipF (f : En → Option (List R × En)) : En → Option (List D × En) := fun env => (aD f env).bind fun a => match a.1 with
  | [c, d] => (seqOf c).bind fun xs => (seqOf d).map fun ys => (zipD xs ys, a.2)
  | _ => none
theorem si_zip {ta : TA} {f : En → Option (List R × En)} (h : SA K ta f) : SI K (iZip K ta) (iZipF f) := by
  intro C hC B env σ H ds env' s e Q hq
  obtain ⟨⟨as, e1⟩, g1, e⟩ := Option.bind_eq_some_iff.mp e
  obtain ⟨rs, e0, g2, g3⟩ := aD_some g1
  split at e
  · rename_i c d hd
    simp only at hd
    subst hd
    obtain ⟨xs, g4, e⟩ := Option.bind_eq_some_iff.mp e
    obtain ⟨ys, g5, e⟩ := Option.map_eq_some_iff.mp e
    cases e
    refine h C hC B env σ H rs e0 s g2 _ fun vs B1 H1 s1 x1 rr => ?_
    obtain ⟨B2, s2, x2, ra⟩ := frzs_w s1 rr.w g3
    match vs, ra with
    | [v, u], .cons rv (.cons ru .nil) =>
      rw [hC] at rv ru
      obtain ⟨a, ws, rfl, h1, h2⟩ := seqOf_data rv g4
      obtain ⟨b, us, rfl, h3, h4⟩ := seqOf_data ru g5
      refine ⟨a, b, ws, us, rfl, ex_l s2.exB h1, ex_l s2.exB h3, hq _ B2 H1 s2 (x1.trans x2) fun H x i => ?_⟩
      have h' := ex_l x h1
      have h3' := ex_l x h3
      refine ⟨fun hi => ⟨ws, us, h', h3', by rw [h2.length, h4.length]; rw [zipD_length] at hi; omega⟩, fun d hd => ?_⟩
      obtain ⟨y, z, hy, hz, rfl⟩ := zipD_get xs ys i d hd
      obtain ⟨w, hw, rw'⟩ := h2.get hy
      obtain ⟨u, hu, ru'⟩ := h4.get hz
      refine ⟨⟨ws, us, w, u, h', h3', hw, hu⟩, fun q H' hq' => .inr ?_⟩
      obtain ⟨T, x', y', rfl, nT, rfl, k1, k2⟩ := hq'
      have q1 := k1 ws h'
      have q2 := k2 us h3'
      rw [hw] at q1
      rw [hu] at q2
      cases q1
      cases q2
      exact ⟨T, _, _, nT, rfl, rfl, rfl, .cons rw' (.one ru')⟩
  · cases e

def loopS (tgt : D → En → Option En) (body : En → Option Out) : List D → En → Option Out
  | [], env => some (.nx env)
  | d :: ds, env => (tgt d env).bind fun e1 => (body e1).bind fun o => match o with
    | .nx e2 => loopS tgt body ds e2
    | .ct e2 => loopS tgt body ds e2
    | .bk e2 => some (.nx e2)
    | o => some o
def sFor (fi : En → Option (List D × En)) (tgt : D → En → Option En) (body : En → Option Out) : En → Option Out := fun env => (fi env).bind fun a => loopS tgt body a.1 a.2
theorem ss_for {wi : TI} {g : TG} {tv : List Nat} {tb : TS} {fi : En → Option (List D × En)} {tgt : D → En → Option En} {body : En → Option Out} (hi : SI K wi fi) (hg : SG K fix tv g tgt) (hb : SS K fix W tb body) : SS K fix W (tFor wi g tb) (sFor fi tgt body) := by
  intro C hC hF B env σ H o s e Dn p
  obtain ⟨⟨ds, e0⟩, g0, e⟩ := Option.bind_eq_some_iff.mp e
  refine hi C hC B env σ H ds e0 s g0 _ fun J B0 H0 s0 x0 hJ => ?_
  refine ⟨fun i m σ' H' => m + i = ds.length ∧ ∃ B1 e1, SR C B1 e1 σ' H' ∧ Ex B0 B1 ∧ loopS tgt body (ds.drop i) e1 = some o, ⟨ds.length, by omega, B0, e0, s0, Ex.refl _, by simpa using e⟩, ?_⟩
  rintro i m σ1 H1 ⟨hm, B1, e1, s1, x1, hl⟩
  obtain ⟨hs, hgo⟩ := hJ H1 (fun a u q => s1.exB a u (x1 a u q)) i
  cases hd : ds[i]? with
  | none =>
    have hle : ds.length ≤ i := List.getElem?_eq_none_iff.mp hd
    refine .inl ⟨hs hle, ?_⟩
    rw [List.drop_eq_nil_of_le hle] at hl
    cases hl
    exact p B1 σ1 H1 s1 (x0.trans x1)
  | some d =>
    have hlt : i < ds.length := (List.getElem?_eq_some_iff.mp hd).1
    have hdrop : ds.drop i = d :: ds.drop (i + 1) := by
      rw [List.drop_eq_getElem_cons hlt]
      have : ds[i] = d := by
        rw [List.getElem?_eq_getElem hlt] at hd
        exact Option.some.inj hd
      rw [this]
    rw [hdrop] at hl
    obtain ⟨e2, g2, hl⟩ := Option.bind_eq_some_iff.mp hl
    obtain ⟨o2, g3, hl⟩ := Option.bind_eq_some_iff.mp hl
    obtain ⟨go, hy⟩ := hgo d hd
    refine .inr ⟨go, fun σ' H' => ∃ B2 e3, SR C B2 e3 σ' H' ∧ Ex B0 B2 ∧ loopS tgt body (ds.drop (i + 1)) e3 = some o, fun σ' H' ⟨B2, e3, q1, q2, q3⟩ => ⟨m - 1, by omega, by omega, B2, e3, q1, q2, q3⟩, fun x H' hx => ?_⟩
    -- the turn's item as data
    have item : ∃ B2, SR C B2 e1 σ1 H' ∧ Ex B1 B2 ∧ Rep K B2 x d := by
      rcases hy x H' hx with ⟨rfl, rx⟩ | ⟨T, vs, xs, nT, rfl, rfl, rfl, ra⟩
      · exact ⟨B1, s1, Ex.refl _, rx.mono x1⟩
      · have bT := fresh_back s1.exB nT
        exact ⟨_, s1.alloc nT, Ex.new bT, .tup (st_of upd_same) (ra.mono (x1.trans (Ex.new bT)))⟩
    obtain ⟨B2, s2, x2, rx⟩ := item
    refine hg C hC hF B2 e1 σ1 H' x d e2 s2 rx g2 _ fun σ2 s3 _ => ?_
    refine hb C hC hF B2 e2 σ2 H' o2 s3 g3 _ ?_
    have x12 := x1.trans x2
    cases o2 with
    | nx e3 => exact fun B3 σ3 H3 s4 x4 => ⟨B3, e3, s4, x12.trans x4, hl⟩
    | ct e3 => exact fun B3 σ3 H3 s4 x4 => ⟨B3, e3, s4, x12.trans x4, hl⟩
    | bk e3 =>
      cases hl
      exact fun B3 σ3 H3 s4 x4 => p B3 σ3 H3 s4 (x0.trans (x12.trans x4))
    | rt r e3 =>
      cases hl
      exact fun v B3 σ3 H3 s4 x4 rr => p v B3 σ3 H3 s4 (x0.trans (x12.trans x4)) rr
    | er c e3 =>
      cases hl
      exact fun B3 σ3 H3 s4 x4 => p B3 σ3 H3 s4 (x0.trans (x12.trans x4))

def loopW (test : En → Option (Bool × En)) (body : En → Option Out) : Nat → En → Option Out
  | 0, _ => none
  | n + 1, env => (test env).bind fun b => if b.1 then (body b.2).bind fun o => match o with
      | .nx e2 => loopW test body n e2
      | .ct e2 => loopW test body n e2
      | .bk e2 => some (.nx e2)
      | o => some o
    else some (.nx b.2)
def sWhile (fuel : Nat) (test : En → Option (Bool × En)) (body : En → Option Out) : En → Option Out := loopW test body fuel
theorem ss_while {c : TT} {tb : TS} {test : En → Option (Bool × En)} {body : En → Option Out} (fuel : Nat) (hc : ST K c test) (hb : SS K fix W tb body) : SS K fix W (tWhile c tb) (sWhile fuel test body) := by
  intro C hC hF B env σ H o s e Dn p
  refine ⟨fun n σ' H' => ∃ B1 e1, SR C B1 e1 σ' H' ∧ Ex B B1 ∧ loopW test body n e1 = some o, ⟨fuel, B, env, s, Ex.refl _, e⟩, ?_⟩
  rintro n σ1 H1 ⟨B1, e1, s1, x1, hl⟩
  cases n with
  | zero => cases hl
  | succ n =>
    obtain ⟨⟨b, e2⟩, g1, hl⟩ := Option.bind_eq_some_iff.mp hl
    refine hc C hC B1 e1 σ1 H1 b e2 s1 g1 _ fun B2 H2 s2 x2 => ?_
    cases b with
    | false =>
      cases hl
      exact p B2 σ1 H2 s2 (x1.trans x2)
    | true =>
      obtain ⟨o2, g3, hl⟩ := Option.bind_eq_some_iff.mp hl
      show ∃ N : L2.St → Hp → Prop, _
      refine ⟨fun σ' H' => ∃ B2 e3, SR C B2 e3 σ' H' ∧ Ex B B2 ∧ loopW test body n e3 = some o, fun σ' H' ⟨B3, e3, q1, q2, q3⟩ => ⟨n, Nat.lt_succ_self n, B3, e3, q1, q2, q3⟩, ?_⟩
      refine hb C hC hF B2 e2 σ1 H2 o2 s2 g3 _ ?_
      have x12 := x1.trans x2
      cases o2 with
      | nx e3 => exact fun B3 σ3 H3 s4 x4 => ⟨B3, e3, s4, x12.trans x4, hl⟩
      | ct e3 => exact fun B3 σ3 H3 s4 x4 => ⟨B3, e3, s4, x12.trans x4, hl⟩
      | bk e3 =>
        cases hl
        exact fun B3 σ3 H3 s4 x4 => p B3 σ3 H3 s4 (x12.trans x4)
      | rt r e3 =>
        cases hl
        exact fun v B3 σ3 H3 s4 x4 rr => p v B3 σ3 H3 s4 (x12.trans x4) rr
      | er c e3 =>
        cases hl
        exact fun B3 σ3 H3 s4 x4 => p B3 σ3 H3 s4 (x12.trans x4)

/-! ### comprehensions -/
def wipeE (env : En) : List Nat → En
  | [] => env
  | v :: vs => (wipeE env vs).set v .un
theorem wipeE_length (env : En) : ∀ vs : List Nat, (wipeE env vs).length = env.length
  | [] => rfl
  | v :: vs => by unfold wipeE; rw [List.length_set, wipeE_length env vs]
theorem wipeE_out {i : Nat} : ∀ {vs : List Nat}, i ∉ vs → (wipeE env vs)[i]? = env[i]?
  | [], _ => rfl
  | v :: vs, h => by
    unfold wipeE
    rw [List.getElem?_set_ne (fun e => h (by rw [e]; exact List.mem_cons_self)), wipeE_out fun z => h (List.mem_cons_of_mem _ z)]
theorem wipe_out {i : Nat} : ∀ {vs : List Nat}, i ∉ vs → (wipe σ vs)[i]? = σ[i]?
  | [], _ => rfl
  | v :: vs, h => by
    unfold wipe
    rw [List.getElem?_set_ne (fun e => h (by rw [e]; exact List.mem_cons_self)), wipe_out fun z => h (List.mem_cons_of_mem _ z)]
theorem wipeE_in {i : Nat} : ∀ {vs : List Nat}, i ∈ vs → i < env.length → (wipeE env vs)[i]? = some .un
  | v :: vs, h, hl => by
    unfold wipeE
    by_cases e : v = i
    · subst e
      rw [List.getElem?_set_self (by rw [wipeE_length]; exact hl)]
    · rw [List.getElem?_set_ne e]
      exact wipeE_in ((List.mem_cons.mp h).resolve_left fun z => e z.symm) hl
/-- no own list stands in these slots -/
def plainAt (env : En) (vs : List Nat) : Bool := vs.all fun i => match env[i]? with
  | some (.ow _) => false
  | _ => true
theorem plainAt_no {vs : List Nat} {i : Nat} {xs : List D} (h : plainAt env vs = true) (hi : i ∈ vs) : env[i]? ≠ some (.ow xs) := fun e => by
  have := List.all_eq_true.mp h i hi
  rw [e] at this
  cases this
/-- the block's own slots as they were ahead of it -/
def back (env e2 : En) : List Nat → En
  | [] => e2
  | v :: vs => (back env e2 vs).set v (env[v]?.getD .un)
theorem back_length (env e2 : En) : ∀ vs : List Nat, (back env e2 vs).length = e2.length
  | [] => rfl
  | v :: vs => by unfold back; rw [List.length_set, back_length env e2 vs]
theorem back_out {e2 : En} {i : Nat} : ∀ {vs : List Nat}, i ∉ vs → (back env e2 vs)[i]? = e2[i]?
  | [], _ => rfl
  | v :: vs, h => by
    unfold back
    rw [List.getElem?_set_ne (fun e => h (by rw [e]; exact List.mem_cons_self)), back_out fun z => h (List.mem_cons_of_mem _ z)]
theorem back_in {e2 : En} {i : Nat} : ∀ {vs : List Nat}, i ∈ vs → i < e2.length → (back env e2 vs)[i]? = some (env[i]?.getD .un)
  | v :: vs, h, hl => by
    unfold back
    by_cases e : v = i
    · subst e
      rw [List.getElem?_set_self (by rw [back_length]; exact hl)]
    · rw [List.getElem?_set_ne e]
      exact back_in ((List.mem_cons.mp h).resolve_left fun z => e z.symm) hl
/-- an object that is nobody's data changes -/
theorem SR.poke (s : SR C B env σ H) {p : Addr} {o : HO} (bp : B p = none) (gp : C.G p = none) (off : Off env σ p) : SR C B env σ (upd H p o) := by
  refine ⟨fun a u e => by rw [upd_ne (ne_of_none e gp)]; exact s.exG a u e, fun a u e => by rw [upd_ne (ne_of_none e bp)]; exact s.exB a u e, s.ex0, s.new, s.len, fun i t h => ?_, s.dis, s.fx⟩
  refine (s.sl i t h).mono (Ex.refl _) fun q e ⟨xs, ex⟩ => ?_
  subst ex
  obtain ⟨p', vs, e1, hb, _, hh, _⟩ := s.sl i _ h
  rw [e] at e1
  cases e1
  exact ⟨hb, upd_ne fun z => off i _ h (by rw [e, z])⟩
/-- the slots of fix as they are told, but for those of the block -/
def Ctx.blk (C : Ctx) (vs : List Nat) : Ctx := { C with fix := [], σ0 := [] }
theorem SR.wiped (s : SR C B env σ H) (vs : List Nat) : SR (C.blk vs) B (wipeE env vs) (wipe σ vs) H := by
  refine ⟨s.exG, s.exB, s.ex0, s.new, by rw [wipeE_length, wipe_length]; exact s.len, fun i t h => ?_, fun i j p xs ys e1 e2 h1 h2 => ?_, fun j hj => by cases hj⟩
  · by_cases hi : i ∈ vs
    · have hl : i < env.length := by
        have := (List.getElem?_eq_some_iff.mp h).1
        rw [wipeE_length] at this
        exact this
      rw [wipeE_in hi hl] at h
      cases h
      trivial
    · rw [wipeE_out hi] at h
      rw [wipe_out hi]
      exact s.sl i t h
  · have hi : i ∉ vs := fun hi => by
      have hl : i < env.length := by
        have := (List.getElem?_eq_some_iff.mp e1).1
        rw [wipeE_length] at this
        exact this
      rw [wipeE_in hi hl] at e1
      cases e1
    have hj : j ∉ vs := fun hi => by
      have hl : j < env.length := by
        have := (List.getElem?_eq_some_iff.mp e2).1
        rw [wipeE_length] at this
        exact this
      rw [wipeE_in hi hl] at e2
      cases e2
    rw [wipeE_out hi] at e1
    rw [wipeE_out hj] at e2
    rw [wipe_out hi] at h1
    rw [wipe_out hj] at h2
    exact s.dis i j p xs ys e1 e2 h1 h2
theorem SR.restored {e2 : En} {B2 H2 : Hp} {vs : List Nat} {σ2 : L2.St} (s : SR C B env σ H) (hp : plainAt env vs = true) (x : Ex B B2) (s2 : SR (C.blk vs) B2 e2 σ2 H2) (hl : e2.length = env.length) (hσ : ∀ i, i ∉ vs → σ2[i]? = σ[i]?) : SR C B2 (back env e2 vs) σ H2 := by
  refine ⟨s2.exG, s2.exB, s2.ex0, s2.new, by rw [back_length, hl]; exact s.len, fun i t h => ?_, fun i j p xs ys e1 e2' h1 h2 => ?_, s.fx⟩
  · by_cases hi : i ∈ vs
    · have hlt : i < e2.length := by
        have := (List.getElem?_eq_some_iff.mp h).1
        rw [back_length] at this
        exact this
      rw [back_in hi hlt] at h
      cases h
      cases q : env[i]? with
      | none =>
        rw [hl] at hlt
        exact absurd hlt (Nat.not_lt.mpr (List.getElem?_eq_none_iff.mp q))
      | some t =>
        have w := s.sl i t q
        cases t with
        | un => trivial
        | sh d =>
          obtain ⟨v, e1, r⟩ := w
          exact ⟨v, e1, r.mono x⟩
        | ow xs => exact absurd q (plainAt_no hp hi)
    · rw [back_out hi] at h
      rw [← hσ i hi]
      exact s2.sl i t h
  · have out : ∀ k zs, (back env e2 vs)[k]? = some (.ow zs) → k ∉ vs := fun k zs e hk => by
      have hlt : k < e2.length := by
        have := (List.getElem?_eq_some_iff.mp e).1
        rw [back_length] at this
        exact this
      rw [back_in hk hlt] at e
      cases q : env[k]? with
      | none => rw [q] at e; cases e
      | some t =>
        rw [q] at e
        have : t = .ow zs := Option.some.inj e
        rw [this] at q
        exact plainAt_no hp hk q
    have hi := out i xs e1
    have hj := out j ys e2'
    rw [back_out hi] at e1
    rw [back_out hj] at e2'
    exact s2.dis i j p xs ys e1 e2' (by rw [hσ i hi]; exact h1) (by rw [hσ j hj]; exact h2)
def lcF (vs : List Nat) (tgt : D → En → Option En) (test : En → Option (Bool × En)) (elt : En → Option (R × En)) : List D → En → List D → Option (List D × En)
  | [], env, acc => some (acc, env)
  | d :: ds, env, acc => (tgt d env).bind fun e1 => (test e1).bind fun b => if b.1 then (elt b.2).bind fun r => (frz r.2 r.1).bind fun a => lcF vs tgt test elt ds (wipeE a.2 vs) (acc ++ [a.1]) else lcF vs tgt test elt ds (wipeE b.2 vs) acc
def eLc (vs : List Nat) (fi : En → Option (List D × En)) (tgt : D → En → Option En) (test : En → Option (Bool × En)) (elt : En → Option (R × En)) : En → Option (R × En) := fun env => (fi env).bind fun a =>
  if a.1.length < 1000000 ∧ plainAt a.2 vs = true then (lcF vs tgt test elt a.1 (wipeE a.2 vs) []).map fun b => (.fr b.1, back a.2 b.2 vs) else none
def bYes : En → Option (Bool × En) := fun env => some (true, env)
theorem st_yes : ST K tYes bYes := by
  intro C hC B env σ H b env' s e Q hq
  cases e
  exact hq B H s (Ex.refl _)
theorem wipe_get {i : Nat} : ∀ {vs : List Nat}, i ∈ vs → i < σ.length → (wipe σ vs)[i]? = some none
  | v :: vs, h, hl => by
    unfold wipe
    by_cases e : v = i
    · subst e
      rw [List.getElem?_set_self (by rw [wipe_length]; exact hl)]
    · rw [List.getElem?_set_ne e]
      exact wipe_get ((List.mem_cons.mp h).resolve_left fun z => e z.symm) hl
theorem wipe_ext {σ2 : L2.St} {vs : List Nat} (hl : σ2.length = σ.length) (h : ∀ i, i ∉ vs → σ2[i]? = σ[i]?) : wipe σ2 vs = wipe σ vs := by
  refine List.ext_getElem? fun i => ?_
  by_cases hi : i ∈ vs
  · by_cases hlt : i < σ.length
    · rw [wipe_get hi (by rw [hl]; exact hlt), wipe_get hi hlt]
    · rw [List.getElem?_eq_none (by rw [wipe_length]; omega), List.getElem?_eq_none (by rw [wipe_length]; omega)]
  · rw [wipe_out hi, wipe_out hi]
    exact h i hi
theorem se_lc {vs tv : List Nat} {wi : TI} {g : TG} {tt : TT} {fi : En → Option (List D × En)} {tgt : D → En → Option En} {test : En → Option (Bool × En)} (hi : SI K wi fi) (hg : SG K [] tv g tgt) (htv : ∀ i ∈ tv, i ∈ vs) (ht : ST K tt test) (he : SE K te fe) :
    SE K (tLc wi g tt te vs) (eLc vs fi tgt test fe) := by
  intro C hC B env σ H r env' s e Q hq
  obtain ⟨⟨ds, e0⟩, g0, e⟩ := Option.bind_eq_some_iff.mp e
  split at e
  · rename_i hh
    obtain ⟨hlen, hpl⟩ := hh
    obtain ⟨⟨ys, eE⟩, g1, e⟩ := Option.map_eq_some_iff.mp e
    cases e
    simp only at hlen hpl g1
    refine hi C hC B env σ H ds e0 s g0 _ fun J B0 H0 s0 x0 hJ => ?_
    intro Da nD
    have w0 := (s0.temp (o := HO.lst []) nD).wiped vs
    have b0 := fresh_back s0.exB nD
    have gD := fresh_back s0.exG nD
    refine ⟨fun i m H' => m + i = ds.length ∧ ∃ B1 e1 acc ws, SR (C.blk vs) B1 e1 (wipe σ vs) H' ∧ Ex B0 B1 ∧ B1 Da = none ∧ H' Da = some (.lst ws) ∧ RepAll C.K B1 ws acc ∧ Off e1 (wipe σ vs) Da ∧ acc.length ≤ i ∧ lcF vs tgt test fe (ds.drop i) e1 acc = some (ys, eE),
      ⟨ds.length, by omega, B0, _, [], [], w0, Ex.refl _, b0, upd_same, .nil, ?_, Nat.le_refl _, by simpa using g1⟩, ?_⟩
    · intro j zs h1 h2
      have := ((s0.wiped vs)).off nD
      exact this j zs h1 h2
    rintro i m H1 ⟨hm, B1, e1, acc, ws, s1, x1, b1, hD, ra, off1, hacc, hl⟩
    obtain ⟨hs, hgo⟩ := hJ H1 (fun a u q => s1.exB a u (x1 a u q)) i
    cases hd : ds[i]? with
    | none =>
      have hle : ds.length ≤ i := List.getElem?_eq_none_iff.mp hd
      rw [List.drop_eq_nil_of_le hle] at hl
      cases hl
      refine .inl ⟨hs hle, ?_⟩
      have hel : eE.length = e0.length := by
        have h1 := s1.len
        have h2 := s0.len
        rw [wipe_length] at h1
        omega
      have s2 : SR C B1 (back e0 eE vs) σ H1 := s0.restored hpl x1 s1 hel fun i hi => wipe_out hi
      refine hq (.ref Da) B1 H1 s2 (x0.trans x1) ⟨Da, ws, rfl, b1, gD, hD, ra, ?_⟩
      intro j zs h1 h2
      by_cases hj : j ∈ vs
      · by_cases hjl : j < eE.length
        · rw [back_in hj hjl] at h1
          cases q : e0[j]? with
          | none => rw [q] at h1; cases h1
          | some t =>
            rw [q] at h1
            have : t = .ow zs := Option.some.inj h1
            rw [this] at q
            exact plainAt_no hpl hj q
        · rw [List.getElem?_eq_none (by rw [back_length]; exact Nat.le_of_not_lt hjl)] at h1
          cases h1
      · rw [back_out hj] at h1
        exact off1 j zs h1 (by rw [wipe_out hj]; exact h2)
    | some d =>
      have hlt : i < ds.length := (List.getElem?_eq_some_iff.mp hd).1
      have hdrop : ds.drop i = d :: ds.drop (i + 1) := by
        rw [List.drop_eq_getElem_cons hlt]
        have : ds[i] = d := by
          rw [List.getElem?_eq_getElem hlt] at hd
          exact Option.some.inj hd
        rw [this]
      rw [hdrop] at hl
      obtain ⟨e2, g2, hl⟩ := Option.bind_eq_some_iff.mp hl
      obtain ⟨⟨b, e3⟩, g3, hl⟩ := Option.bind_eq_some_iff.mp hl
      obtain ⟨go, hy⟩ := hgo d hd
      -- what the next turn is to find
      let Nx : Hp → Prop := fun H' => ∃ B1 e1 acc ws, SR (C.blk vs) B1 e1 (wipe σ vs) H' ∧ Ex B0 B1 ∧ B1 Da = none ∧ H' Da = some (.lst ws) ∧ RepAll C.K B1 ws acc ∧ Off e1 (wipe σ vs) Da ∧ acc.length ≤ i + 1 ∧ lcF vs tgt test fe (ds.drop (i + 1)) e1 acc = some (ys, eE)
      refine .inr ⟨go, Nx, fun H' ⟨B2, e4, a2, w2, q⟩ => ⟨m - 1, by omega, by omega, B2, e4, a2, w2, q⟩, fun x H' hx => ?_⟩
      have item : ∃ B2, SR (C.blk vs) B2 e1 (wipe σ vs) H' ∧ Ex B1 B2 ∧ Rep K B2 x d ∧ B2 Da = none ∧ H' Da = some (.lst ws) := by
        rcases hy x H' hx with ⟨rfl, rx⟩ | ⟨T, vs', xs, nT, rfl, rfl, rfl, ra'⟩
        · exact ⟨B1, s1, Ex.refl _, rx.mono x1, b1, hD⟩
        · have bT := fresh_back s1.exB nT
          have ne : Da ≠ T := ne_of_none hD nT
          exact ⟨_, s1.alloc nT, Ex.new bT, .tup (st_of upd_same) (ra'.mono (x1.trans (Ex.new bT))), by rw [upd_ne ne]; exact b1, by rw [upd_ne ne]; exact hD⟩
      obtain ⟨B2, s2, x2, rx, b2, hD2⟩ := item
      have x12 := x1.trans x2
      let T : Hp := fun q => if q = Da then H' q else none
      have hT : T Da = some (.lst ws) := by
        show (if Da = Da then H' Da else none) = _
        rw [if_pos rfl]
        exact hD2
      have hTn : T Da ≠ none := by rw [hT]; exact fun z => nomatch z
      have only : ∀ q, T q ≠ none → q = Da := fun q h => Classical.byContradiction fun z => h (show (if q = Da then H' q else none) = none by rw [if_neg z])
      have exT : Ex T H' := fun q o h => by
        have e := only q (by rw [h]; exact fun z => nomatch z)
        subst e
        rw [hT] at h
        cases h
        exact hD2
      have nbT : ∀ q, T q ≠ none → B2 q = none := fun q h => by rw [only q h]; exact b2
      have tT : Tmp B2 e1 (wipe σ vs) H' T := ⟨exT, nbT, fun q h => by rw [only q h]; exact off1⟩
      have leave : ∀ {B5 H5 : Hp} {e5 : En} {σ5 : L2.St}, Ex B2 B5 → SR ((C.blk vs).plus T) B5 e5 σ5 H5 → SR (C.blk vs) B5 e5 σ5 H5 ∧ B5 Da = none ∧ H5 Da = some (.lst ws) ∧ Off e5 σ5 Da := fun x5 s5 => by
        obtain ⟨q1, q2⟩ := SR.minus s2.exG exT nbT x5 s5 s2.ex0
        exact ⟨q1, q2.nb Da hTn, q2.ex Da _ hT, q2.off Da hTn⟩
      refine hg ((C.blk vs).plus T) hC rfl B2 e1 (wipe σ vs) H' x d e2 (s2.plus tT) rx g2 _ fun σ2 s3 kσ => ?_
      have hw : wipe σ2 vs = wipe σ vs := by
        have := wipe_ext (σ := wipe σ vs) (σ2 := σ2) (vs := vs) kσ.1 fun i hi => kσ.2 i fun z => hi (htv i z)
        rw [this]
        exact wipe_ext (wipe_length σ vs) fun i hi => wipe_out hi
      refine ⟨hw, ?_⟩
      have rest : ∀ (B5 H5 : Hp) (e5 : En) (w5 : List V) (a5 : List D), SR (C.blk vs) B5 e5 σ2 H5 → Ex B0 B5 → B5 Da = none → H5 Da = some (.lst w5) → RepAll C.K B5 w5 a5 → Off e5 σ2 Da → a5.length ≤ i + 1 → lcF vs tgt test fe (ds.drop (i + 1)) (wipeE e5 vs) a5 = some (ys, eE) → Nx H5 := by
        intro B5 H5 e5 w5 a5 s5 x5 b5 h5 r5 o5 l5 c5
        have s6 : SR (C.blk vs) B5 (wipeE e5 vs) (wipe σ2 vs) H5 := s5.wiped vs
        rw [hw] at s6
        refine ⟨B5, _, a5, w5, s6, x5, b5, h5, r5, fun j zs h1 h2 => ?_, l5, c5⟩
        have hj : j ∉ vs := fun hj => by
          have hl : j < e5.length := by
            have := (List.getElem?_eq_some_iff.mp h1).1
            rw [wipeE_length] at this
            exact this
          rw [wipeE_in hj hl] at h1
          cases h1
        rw [wipeE_out hj] at h1
        rw [← hw, wipe_out hj] at h2
        exact o5 j zs h1 h2
      refine ht ((C.blk vs).plus T) hC B2 e2 σ2 H' b e3 s3 g3 _ fun B3 H3 s4 x4 => ?_
      cases b with
      | false =>
        show Nx H3
        obtain ⟨q1, q2, q3, q4⟩ := leave x4 s4
        exact rest B3 H3 e3 ws acc q1 (x12.trans x4) q2 q3 (ra.mono (x2.trans x4)) q4 (Nat.le_succ_of_le hacc) hl
      | true =>
        obtain ⟨⟨r5, e5⟩, g5, hl⟩ := Option.bind_eq_some_iff.mp hl
        obtain ⟨⟨d6, e6⟩, g6, hl⟩ := Option.bind_eq_some_iff.mp hl
        show te σ2 H3 _
        refine he ((C.blk vs).plus T) hC B3 e3 σ2 H3 r5 e5 s4 g5 _ fun y B5 H5 s5 x5 r5' => ?_
        obtain ⟨B6, s6, x6, rd⟩ := frz_rep s5 r5' g6
        have x46 := (x4.trans x5).trans x6
        obtain ⟨q1, q2, q3, q4⟩ := leave x46 s6
        refine ⟨ws, q3, ?_, ?_⟩
        · have := (ra.length : ws.length = acc.length)
          rw [this]
          exact mil (by omega)
        · exact rest B6 _ e6 (ws ++ [y]) (acc ++ [d6]) (q1.poke q2 gD q4) (x12.trans x46) q2 upd_same ((ra.mono (x2.trans x46)).append (.one rd)) q4 (by rw [List.length_append]; exact Nat.succ_le_succ hacc) hl
  · cases e
end
end Vm

set_option Elab.async false
set_option linter.all false
set_option maxRecDepth 100000
namespace Vm
open PySem PySem.Spec PyProof.Rows L2 Evl

/-! ### a def as a function -/
/-- what a call gives: a value, or a new list; with what the parameters' own lists hold then -/
inductive Res where
  | val (d : D) (env : En) | fr (xs : List D) (env : En) | er (c : Addr) (env : En)

/-- the heap but for the own lists -/
noncomputable def Rest (env : En) (σ : L2.St) (H : Hp) : Hp := fun q =>
  haveI := Classical.propDecidable (Off env σ q)
  if Off env σ q then H q else none
def Cx0 (K : PySem.W.Frag) (G B : Hp) : Ctx := ⟨K, G, B, [], []⟩
def PostM (K : PySem.W.Frag) (B : Hp) (env : En) (σ : L2.St) (H : Hp) (Q : VK) (E : XK) : Res → Prop
  | .val d env' => ∀ v B' H', SR (Cx0 K (Rest env σ H) B) B' env' σ H' → Ex B B' → Rep K B' v d → Q v H'
  | .fr xs env' => ∀ v B' H', SR (Cx0 K (Rest env σ H) B) B' env' σ H' → Ex B B' → RepR (Cx0 K (Rest env σ H) B) B' env' σ H' v (.fr xs) → Q v H'
  | .er c env' => ∀ B' H', SR (Cx0 K (Rest env σ H) B) B' env' σ H' → Ex B B' → E (.ref c) none H'
def none0 : Hp := fun _ => none
def SpM (K : PySem.W.Frag) (n : Nat) (m : En → Option Res) : Sp := fun vs H Q E => vs.length = n ∧ ∃ B env res, SR (Cx0 K none0 B) B env (vs.map some) H ∧ m env = some res ∧ PostM K B env (vs.map some) H Q E res

section
variable {K : PySem.W.Frag} {C : Ctx} {B B' G H H' : Hp} {env env' : En} {σ : L2.St} {v : V} {r : R} {d : D} {ta tb te : TE} {fa fb fe : En → Option (R × En)} {f : En → Option (R × En)} {X : Cx} {fix : List Nat} {W : WX}

theorem rest_of {q : Addr} (h : Off env σ q) : Rest env σ H q = H q := by
  unfold Rest
  exact if_pos h
theorem rest_no {q : Addr} (h : ¬ Off env σ q) : Rest env σ H q = none := by
  unfold Rest
  exact if_neg h
theorem rest_ex : Ex (Rest env σ H) H := fun q o e => by
  by_cases h : Off env σ q
  · rw [rest_of h] at e; exact e
  · rw [rest_no h] at e; cases e
theorem rest_none {q : Addr} (e : Rest env σ H q = none) : H q = none ∨ ¬ Off env σ q := by
  by_cases h : Off env σ q
  · rw [rest_of h] at e; exact .inl e
  · exact .inr h

/-- the parameters' slots behind the body: those of fix as they are, nothing known of the others -/
def params (fix : List Nat) (n : Nat) (env : En) : En := (List.range n).map fun j => if j ∈ fix then env[j]?.getD .un else .un
theorem params_length {fix : List Nat} {n : Nat} : (params fix n env).length = n := by simp [params]
theorem params_get {fix : List Nat} {n i : Nat} {t : Sl} (h : (params fix n env)[i]? = some t) : i < n ∧ ((i ∈ fix ∧ (env[i]? = some t ∨ t = .un)) ∨ t = .un) := by
  have hi : i < n := by
    have := (List.getElem?_eq_some_iff.mp h).1
    rw [params_length] at this
    exact this
  refine ⟨hi, ?_⟩
  unfold params at h
  rw [List.getElem?_map, List.getElem?_range hi] at h
  have h : (if i ∈ fix then env[i]?.getD .un else .un) = t := Option.some.inj h
  by_cases hf : i ∈ fix
  · rw [if_pos hf] at h
    refine .inl ⟨hf, ?_⟩
    cases q : env[i]? with
    | none => rw [q] at h; exact .inr h.symm
    | some u =>
      rw [q] at h
      exact .inl (by rw [← h]; rfl)
  · rw [if_neg hf] at h
    exact .inr h.symm
/-- the body as a function of the parameters: n of them, k further names -/
def bodyM (fix : List Nat) (n k : Nat) (F : En → Option Out) : En → Option Res := fun env => if env.length = n then (F (env ++ List.replicate k .un)).bind fun o => match o with
  | .nx e => some (.val .non (params fix n e))
  | .rt (.val d) e => some (.val d (params fix n e))
  | .rt (.fr xs) e => some (.fr xs (params fix n e))
  | .rt (.al i) e => match e[i]? with
    | some (.ow xs) => if n ≤ i then some (.fr xs (params fix n e)) else none
    | some (.sh d) => some (.val d (params fix n e))
    | _ => none
  | .er c e => some (.er c (params fix n e))
  | _ => none else none
theorem start_get {N : List Str} {vs : List V} {i : Nat} (h : i < vs.length) : (L2.start N vs)[i]? = (vs.map some)[i]? := by
  unfold L2.start
  rw [List.getElem?_append_left (by simpa using h)]
theorem start_length {N : List Str} {vs : List V} (h : vs.length ≤ N.length) : (L2.start N vs).length = N.length := by
  unfold L2.start
  rw [List.length_append, List.length_map, List.length_replicate]
  omega
/-- at the entry of a body -/
theorem SR.enter {N : List Str} {vs : List V} {fix : List Nat} (s : SR (Cx0 K none0 B) B env (vs.map some) H) (hN : vs.length ≤ N.length) :
    SR ⟨K, Rest env (vs.map some) H, B, fix, L2.start N vs⟩ B (env ++ List.replicate (N.length - vs.length) .un) (L2.start N vs) H := by
  have hl : env.length = vs.length := by rw [← s.len, List.length_map]
  refine ⟨rest_ex, s.exB, Ex.refl _, fun q hq => .inl hq, ?_, fun i t h => ?_, fun i j p xs ys e1 e2 h1 h2 => ?_, fun _ _ => rfl⟩
  · rw [start_length hN, List.length_append, List.length_replicate]
    omega
  · by_cases hi : i < env.length
    · rw [List.getElem?_append_left hi] at h
      have w := s.sl i t h
      rw [start_get (by omega)]
      cases t with
      | un => trivial
      | sh d => exact w
      | ow xs =>
        obtain ⟨p, ws, e1, bp, _, hp, ra⟩ := w
        exact ⟨p, ws, e1, bp, rest_no fun o => o i xs h e1, hp, ra⟩
    · rw [List.getElem?_append_right (by omega)] at h
      rw [List.getElem?_replicate] at h
      split at h
      · cases h; trivial
      · cases h
  · have lt : ∀ k zs, (env ++ List.replicate (N.length - vs.length) .un)[k]? = some (.ow zs) → k < env.length ∧ env[k]? = some (.ow zs) := fun k zs h => by
      by_cases hi : k < env.length
      · rw [List.getElem?_append_left hi] at h
        exact ⟨hi, h⟩
      · rw [List.getElem?_append_right (by omega), List.getElem?_replicate] at h
        split at h <;> cases h
    obtain ⟨l1, g1⟩ := lt i xs e1
    obtain ⟨l2, g2⟩ := lt j ys e2
    rw [start_get (by omega)] at h1 h2
    exact s.dis i j p xs ys g1 g2 h1 h2
/-- .. and at its end -/
theorem SR.exit {N : List Str} {vs : List V} {fix : List Nat} {n : Nat} {e : En} {σ' : L2.St} {G B0 : Hp} (s : SR ⟨K, G, B0, fix, L2.start N vs⟩ B e σ' H) (hn : vs.length = n) (hN : vs.length ≤ N.length) (hf : ∀ i ∈ fix, i < n) :
    SR (Cx0 K G B0) B (params fix n e) (vs.map some) H := by
  have same : ∀ i ∈ fix, σ'[i]? = (vs.map some)[i]? := fun i hi => by
    have : σ'[i]? = (L2.start N vs)[i]? := s.fx i hi
    rw [this, start_get (by rw [hn]; exact hf i hi)]
  refine ⟨s.exG, s.exB, s.ex0, s.new, by rw [List.length_map, params_length]; exact hn, fun i t h => ?_, fun i j p xs ys e1 e2 h1 h2 => ?_, fun j hj => by cases hj⟩
  · obtain ⟨hi, ⟨hf, h | h⟩ | h⟩ := params_get h
    · have w := s.sl i t h
      rw [← same i hf]
      exact w
    · subst h; trivial
    · subst h; trivial
  · have own : ∀ k zs, (params fix n e)[k]? = some (.ow zs) → k ∈ fix ∧ e[k]? = some (.ow zs) := fun k zs h => by
      obtain ⟨_, ⟨hf, h | h⟩ | h⟩ := params_get h
      · exact ⟨hf, h⟩
      · cases h
      · cases h
    obtain ⟨f1, g1⟩ := own i xs e1
    obtain ⟨f2, g2⟩ := own j ys e2
    exact s.dis i j p xs ys g1 g2 (by rw [same i f1]; exact h1) (by rw [same j f2]; exact h2)
theorem off_exit {N : List Str} {vs : List V} {fix : List Nat} {n : Nat} {e : En} {σ' : L2.St} {G B0 : Hp} {q : Addr} (s : SR ⟨K, G, B0, fix, L2.start N vs⟩ B e σ' H) (hn : vs.length = n) (hf : ∀ i ∈ fix, i < n) (o : ∀ i ys, i ∈ fix → e[i]? = some (.ow ys) → σ'[i]? ≠ some (some (.ref q))) :
    Off (params fix n e) (vs.map some) q := fun k zs h h2 => by
  obtain ⟨_, ⟨hk, h | h⟩ | h⟩ := params_get h
  · refine o k zs hk h ?_
    have : σ'[k]? = (L2.start N vs)[k]? := s.fx k hk
    rw [this, start_get (by rw [hn]; exact hf k hk)]
    exact h2
  · cases h
  · cases h

/-- THE RULE for a def: its body's reading goes as F says, so the def keeps the promise of bodyM -/
theorem body_ok {N : List Str} {n k : Nat} {fix : List Nat} {F : En → Option Out} {t : TS} {vs : List V} {Q : VK} {E : XK} (hN : N.length = n + k) (hf : ∀ i ∈ fix, i < n) (h : SS K fix (fun c d _ H' => E c d H') t F) (hs : SpM K n (bodyM fix n k F) vs H Q E) :
    t { nx := fun _ H' => Q .non H', rt := Q } (L2.start N vs) H := by
  obtain ⟨hn, B, env, res, s, hm, p⟩ := hs
  have hl : env.length = vs.length := by rw [← s.len, List.length_map]
  have hle : vs.length ≤ N.length := by omega
  unfold bodyM at hm
  rw [if_pos (by omega)] at hm
  obtain ⟨o, g1, hm⟩ := Option.bind_eq_some_iff.mp hm
  have s0 := s.enter (N := N) (fix := fix) hle
  rw [show N.length - vs.length = k by omega] at s0
  refine h _ rfl rfl B _ (L2.start N vs) H o s0 g1 _ ?_
  cases o with
  | nx e =>
    cases hm
    exact fun B' σ' H' s' x => p .non B' H' (s'.exit hn hle hf) x .non
  | rt r e =>
    cases r with
    | val d =>
      cases hm
      exact fun v B' σ' H' s' x rr => p v B' H' (s'.exit hn hle hf) x rr
    | fr xs =>
      cases hm
      intro v B' σ' H' s' x rr
      obtain ⟨q, ws, rfl, bq, gq, hq, ra, off⟩ := rr
      exact p _ B' H' (s'.exit hn hle hf) x ⟨q, ws, rfl, bq, gq, hq, ra, off_exit s' hn hf fun i ys _ h => off i ys h⟩
    | al i =>
      simp only at hm
      split at hm
      · rename_i xs he
        split at hm
        · rename_i hi
          cases hm
          intro v B' σ' H' s' x rr
          have rr : σ'[i]? = some (some v) := rr
          obtain ⟨q, ws, e1, bq, gq, hq, ra⟩ := s'.sl i _ he
          rw [rr] at e1
          cases e1
          exact p _ B' H' (s'.exit hn hle hf) x ⟨q, ws, rfl, bq, gq, hq, ra, off_exit s' hn hf fun j ys hj h h2 => by
            have := s'.dis i j q xs ys he h rr h2
            have := hf j hj
            omega⟩
        · cases hm
      · rename_i d he
        cases hm
        intro v B' σ' H' s' x rr
        have rr : σ'[i]? = some (some v) := rr
        obtain ⟨u, e1, ru⟩ := s'.sl i _ he
        rw [rr] at e1
        cases e1
        exact p v B' H' (s'.exit hn hle hf) x ru
      · cases hm
  | bk e => cases hm
  | ct e => cases hm
  | er c e =>
    cases hm
    exact fun B' σ' H' s' x => p B' H' (s'.exit hn hle hf) x

/-! ### calls -/
/-- all arguments are data -/
def eCall (n : Nat) (m : En → Option Res) (f : En → Option (List R × En)) : En → Option (R × En) := fun env => (aD f env).bind fun a => if a.1.length = n then (m (a.1.map .sh)).bind fun r => match r with
  | .val d _ => some (.val d, a.2)
  | .fr xs _ => some (.fr xs, a.2)
  | .er _ _ => none
  else none
theorem sr_args {vs : List V} {ds : List D} (ra : RepAll K B vs ds) (e : Ex B H) : SR (Cx0 K none0 B) B (ds.map .sh) (vs.map some) H := by
  refine ⟨fun q o h => (nomatch (show none = some o from h)), e, Ex.refl _, fun q h => .inl h, by rw [List.length_map, List.length_map]; exact ra.length, fun i t h => ?_, fun i j p xs ys e1 => ?_, fun j h => by cases h⟩
  · rw [List.getElem?_map] at h
    obtain ⟨d, hd, rfl⟩ := Option.map_eq_some_iff.mp h
    obtain ⟨v, hv, rv⟩ := ra.get hd
    exact ⟨v, by rw [List.getElem?_map, hv]; rfl, rv⟩
  · rw [List.getElem?_map] at e1
    obtain ⟨d, hd, h⟩ := Option.map_eq_some_iff.mp e1
    cases h
theorem off_args {vs : List V} {ds : List D} {q : Addr} : Off (ds.map Sl.sh) (vs.map some) q := fun i ys h => by
  rw [List.getElem?_map] at h
  obtain ⟨d, hd, h⟩ := Option.map_eq_some_iff.mp h
  cases h
/-- the caller's side behind a call that took data alone -/
theorem SR.called {B2 : Hp} {e : En} {τ : L2.St} {env0 : En} (s : SR C B env σ H) (hoff : ∀ q, Off env0 τ q) (s' : SR (Cx0 K (Rest env0 τ H) B) B2 e τ H') (x : Ex B B2) : SR C B2 env σ H' := by
  have kept : Ex H H' := fun q o h => s'.exG q o (by rw [show (Cx0 K (Rest env0 τ H) B).G = Rest env0 τ H from rfl, rest_of (hoff q)]; exact h)
  have new : ∀ q, B2 q ≠ none → B q ≠ none ∨ H q = none := fun q hq => by
    rcases s'.new q hq with z | z
    · exact .inl z
    · refine .inr ?_
      have z : Rest env0 τ H q = none := z
      rw [rest_of (hoff q)] at z
      exact z
  refine ⟨s.exG.trans kept, s'.exB, s.ex0.trans x, fun q hq => ?_, s.len, fun i t h => ?_, s.dis, s.fx⟩
  · rcases new q hq with z | z
    · exact s.new q z
    · exact .inr (fresh_back s.exG z)
  · refine (s.sl i t h).mono x fun p e1 ⟨xs, ex⟩ => ?_
    subst ex
    obtain ⟨p', vs, e2, bp, gp, hp, ra⟩ := s.sl i _ h
    rw [e1] at e2
    cases e2
    refine ⟨?_, by rw [kept p _ hp, hp]⟩
    cases q : B2 p with
    | none => rfl
    | some o =>
      rcases new p (by rw [q]; exact fun z => nomatch z) with z | z
      · exact absurd bp z
      · rw [hp] at z; cases z
theorem RepR.called {B2 : Hp} {e : En} {τ : L2.St} {env0 : En} {xs : List D} (s : SR C B env σ H) (hoff : ∀ q, Off env0 τ q) (h : RepR (Cx0 K (Rest env0 τ H) B) B2 e τ H' v (.fr xs)) (hC : C.K = K) : RepR C B2 env σ H' v (.fr xs) := by
  obtain ⟨p, vs, rfl, bp, gp, hp, ra, off⟩ := h
  have gp : Rest env0 τ H p = none := gp
  rw [rest_of (hoff p)] at gp
  exact ⟨p, vs, rfl, bp, fresh_back s.exG gp, hp, by rw [hC]; exact ra, s.off gp⟩
theorem se_callG {n : Nat} {m : En → Option Res} {dv : L2.St → XK} {ta : TA} {f : En → Option (List R × En)} (h : SA K ta f) : SE K (fun σ H Q => ta σ H fun vs H1 => SpM K n m vs H1 Q (dv σ)) (eCall n m f) := by
  intro C hC B env σ H r env' s e Q hq
  obtain ⟨⟨ds, e1⟩, g1, e⟩ := Option.bind_eq_some_iff.mp e
  split at e
  · rename_i hn
    obtain ⟨res, g2, e⟩ := Option.bind_eq_some_iff.mp e
    obtain ⟨rs, e0, g3, g4⟩ := aD_some g1
    refine h C hC B env σ H rs e0 s g3 _ fun vs B1 H1 s1 x1 rr => ?_
    obtain ⟨B2, s2, x2, ra⟩ := frzs_w s1 rr.w g4
    rw [hC] at ra
    refine ⟨by rw [ra.length]; exact hn, B2, _, res, sr_args ra s2.exB, g2, ?_⟩
    cases res with
    | val d ae =>
      cases e
      exact fun v B' H' s' x rv => hq v B' H' (s2.called (fun _ => off_args) s' x) ((x1.trans x2).trans x) (by rw [show RepR C B' e1 σ H' v (.val d) = Rep C.K B' v d from rfl, hC]; exact rv)
    | fr xs ae =>
      cases e
      exact fun v B' H' s' x rv => hq v B' H' (s2.called (fun _ => off_args) s' x) ((x1.trans x2).trans x) (rv.called s2 (fun _ => off_args) hC)
    | er c ae => cases e
  · cases e
theorem se_call {n : Nat} {m : En → Option Res} {E : XK} {ta : TA} {f : En → Option (List R × En)} (h : SA K ta f) : SE K (tCall (SpM K n m) [] E ta) (eCall n m f) := by
  intro C hC B env σ H r env' s e Q hq
  have q := se_callG (n := n) (m := m) (dv := fun _ => E) h C hC B env σ H r env' s e Q hq
  show ta σ H fun vs H1 => SpM K n m (vs ++ []) H1 Q E
  have w : (fun (vs : List V) (H1 : Hp) => SpM K n m (vs ++ []) H1 Q E) = fun vs H1 => SpM K n m vs H1 Q E := by
    funext vs H1
    rw [List.append_nil]
  rw [w]
  exact q
theorem se_callS {n : Nat} {m : En → Option Res} {E : L2.St → XK} {ta : TA} {f : En → Option (List R × En)} (h : SA K ta f) : SE K (tCallS (SpM K n m) E ta) (eCall n m f) := se_callG h

/-! a call whose first argument is an own list of the caller's, which the callee may change -/
def eCall1 (n : Nat) (m : En → Option Res) (f : En → Option (List R × En)) : En → Option (R × En) := fun env => (f env).bind fun a => match a.1 with
  | .al i :: rs => (frzs a.2 rs).bind fun b => (own b.2 i).bind fun xs => if b.1.length + 1 = n then (m (.ow xs :: b.1.map .sh)).bind fun r => match r with
    | .val d (.ow ys :: _) => some (.val d, b.2.set i (.ow ys))
    | .fr zs (.ow ys :: _) => some (.fr zs, b.2.set i (.ow ys))
    | _ => none
    else none
  | _ => none
theorem se_call1G {n : Nat} {m : En → Option Res} {dv : L2.St → XK} {ta : TA} {f : En → Option (List R × En)} (h : SA K ta f) : SE K (fun σ H Q => ta σ H fun vs H1 => SpM K n m vs H1 Q (dv σ)) (eCall1 n m f) := by
  intro C hC B env σ H r env' s e Q hq
  obtain ⟨⟨rs, e0⟩, g1, e⟩ := Option.bind_eq_some_iff.mp e
  split at e
  · rename_i i rs' hr
    simp only at hr
    subst hr
    obtain ⟨⟨ds, e1⟩, g2, e⟩ := Option.bind_eq_some_iff.mp e
    obtain ⟨xs, g3, e⟩ := Option.bind_eq_some_iff.mp e
    split at e
    · rename_i hn
      obtain ⟨res, g4, e⟩ := Option.bind_eq_some_iff.mp e
      refine h C hC B env σ H _ e0 s g1 _ fun vs B1 H1 s1 x1 rr => ?_
      match vs, rr with
      | v0 :: vs, ⟨r0, rr⟩ =>
        have r0 : σ[i]? = some (some v0) := r0
        obtain ⟨B2, s2, x2, ra⟩ := frzs_w s1 rr.w g2
        have ho := own_some g3
        obtain ⟨p, ws, e2, bp, gp, hp, rw0⟩ := s2.sl i _ ho
        rw [r0] at e2
        cases e2
        rw [hC] at ra rw0
        -- the arguments
        have sA : SR (Cx0 K none0 B2) B2 (.ow xs :: ds.map .sh) ((V.ref p :: vs).map some) H1 := by
          refine ⟨fun q o h => (nomatch (show none = some o from h)), s2.exB, Ex.refl _, fun q h => .inl h, ?_, fun j t hj => ?_, fun j k q ys zs f1 f2 _ _ => ?_, fun j h => by cases h⟩
          · rw [List.map_cons, List.length_cons, List.length_cons, List.length_map, List.length_map, ra.length]
          · cases j with
            | zero =>
              cases hj
              exact ⟨p, ws, rfl, bp, rfl, hp, rw0⟩
            | succ j =>
              have hj : (ds.map Sl.sh)[j]? = some t := by simpa using hj
              rw [List.getElem?_map] at hj
              obtain ⟨d, hd, rfl⟩ := Option.map_eq_some_iff.mp hj
              obtain ⟨v, hv, rv⟩ := ra.get hd
              refine ⟨v, ?_, rv⟩
              show (vs.map some)[j]? = _
              rw [List.getElem?_map, hv]
              rfl
          · have z : ∀ k zs, (Sl.ow xs :: ds.map Sl.sh)[k]? = some (.ow zs) → k = 0 := fun k zs h => by
              cases k with
              | zero => rfl
              | succ k =>
                have h : (ds.map Sl.sh)[k]? = some (.ow zs) := by simpa using h
                rw [List.getElem?_map] at h
                obtain ⟨d, hd, h⟩ := Option.map_eq_some_iff.mp h
                cases h
            rw [z j ys f1, z k zs f2]
        refine ⟨by rw [List.length_cons, ra.length]; exact hn, B2, _, res, sA, g4, ?_⟩
        -- what is off
        have offA : ∀ q, q ≠ p → Off (.ow xs :: ds.map .sh) ((V.ref p :: vs).map some) q := fun q hq k zs h h2 => by
          cases k with
          | zero =>
            have : some (V.ref p) = some (.ref q) := Option.some.inj h2
            cases this
            exact hq rfl
          | succ k =>
            have h : (ds.map Sl.sh)[k]? = some (.ow zs) := by simpa using h
            rw [List.getElem?_map] at h
            obtain ⟨d, hd, h⟩ := Option.map_eq_some_iff.mp h
            cases h
        have noA : ¬ Off (.ow xs :: ds.map .sh) ((V.ref p :: vs).map some) p := fun o => o 0 xs rfl rfl
        -- behind the call
        have behind : ∀ {B' H' : Hp} {ys : List D} {ae : En}, SR (Cx0 K (Rest (.ow xs :: ds.map .sh) ((V.ref p :: vs).map some) H1) B2) B' (.ow ys :: ae) ((V.ref p :: vs).map some) H' → Ex B2 B' → SR C B' (e1.set i (.ow ys)) σ H' ∧ (∀ q, B' q = none → Rest (.ow xs :: ds.map .sh) ((V.ref p :: vs).map some) H1 q = none → q ≠ p → H1 q = none) := by
          intro B' H' ys ae s' x
          have kept : ∀ q o, q ≠ p → H1 q = some o → H' q = some o := fun q o hq h => s'.exG q o (by
            show Rest _ _ _ q = some o
            rw [rest_of (offA q hq)]
            exact h)
          have new : ∀ q, B' q ≠ none → B2 q ≠ none ∨ H1 q = none ∨ q = p := fun q hq => by
            rcases s'.new q hq with z | z
            · exact .inl z
            · by_cases hqp : q = p
              · exact .inr (.inr hqp)
              · have z : Rest (.ow xs :: ds.map .sh) ((V.ref p :: vs).map some) H1 q = none := z
                rw [rest_of (offA q hqp)] at z
                exact .inr (.inl z)
          obtain ⟨p', ws', f1, bp', _, hp', ra'⟩ := s'.sl 0 _ rfl
          have f1 : some (some (V.ref p)) = some (some (V.ref p')) := f1
          cases f1
          refine ⟨⟨fun q o h => ?_, s'.exB, s2.ex0.trans x, fun q hq => ?_, by rw [List.length_set]; exact s2.len, fun j t h => ?_, fun j k q zs us f2 f3 => ?_, s2.fx⟩, fun q _ h hq => ?_⟩
          · exact kept q o (ne_of_none h gp) (s2.exG q o h)
          · rcases new q hq with z | z | z
            · exact s2.new q z
            · exact .inr (fresh_back s2.exG z)
            · rw [z] at hq; exact absurd bp' hq
          · rcases get_set h with ⟨rfl, rfl, _⟩ | ⟨hj, h⟩
            · exact ⟨p, ws', r0, bp', gp, hp', by rw [hC]; exact ra'⟩
            · refine (s2.sl j t h).mono x fun q f2 ⟨zs, ez⟩ => ?_
              subst ez
              obtain ⟨q', us, f3, b3, g3', h3, _⟩ := s2.sl j _ h
              rw [f2] at f3
              cases f3
              have hqp : q ≠ p := fun z => hj (s2.dis j i q zs xs h ho f2 (by rw [z]; exact r0))
              refine ⟨?_, by rw [kept q _ hqp h3, h3]⟩
              cases w : B' q with
              | none => rfl
              | some o =>
                rcases new q (by rw [w]; exact fun z => nomatch z) with z | z | z
                · exact absurd b3 z
                · rw [h3] at z; cases z
                · exact absurd z hqp
          · have k1 : ∃ zs, e1[j]? = some (.ow zs) := by
              rcases get_set f2 with ⟨rfl, _, _⟩ | ⟨_, h⟩
              · exact ⟨xs, ho⟩
              · exact ⟨_, h⟩
            have k2 : ∃ zs, e1[k]? = some (.ow zs) := by
              rcases get_set f3 with ⟨rfl, _, _⟩ | ⟨_, h⟩
              · exact ⟨xs, ho⟩
              · exact ⟨_, h⟩
            obtain ⟨z1, k1⟩ := k1
            obtain ⟨z2, k2⟩ := k2
            exact s2.dis j k q z1 z2 k1 k2
          · rw [rest_of (offA q hq)] at h
            exact h
        split at e
        · cases e
          exact fun v B' H' s' x rv => hq v B' H' (behind s' x).1 ((x1.trans x2).trans x) (by rw [show RepR C B' (e1.set i (.ow _)) σ H' v (.val _) = Rep C.K B' v _ from rfl, hC]; exact rv)
        · cases e
          intro v B' H' s' x rv
          obtain ⟨sB, free⟩ := behind s' x
          obtain ⟨q, us, rfl, bq, gq, hq', ra', off⟩ := rv
          have hqp : q ≠ p := fun z => off 0 _ rfl (by rw [z]; rfl)
          have h1 := free q bq gq hqp
          refine hq _ B' H' sB ((x1.trans x2).trans x) ⟨q, us, rfl, bq, fresh_back s2.exG h1, hq', by rw [hC]; exact ra', fun j zs f1 f2 => ?_⟩
          rcases get_set f1 with ⟨rfl, _, _⟩ | ⟨hj, f1⟩
          · rw [r0] at f2
            cases f2
            exact hqp rfl
          · exact s2.off h1 j zs f1 f2
        · cases e
    · cases e
  · cases e
theorem se_call1 {n : Nat} {m : En → Option Res} {E : XK} {ta : TA} {f : En → Option (List R × En)} (h : SA K ta f) : SE K (tCall (SpM K n m) [] E ta) (eCall1 n m f) := by
  intro C hC B env σ H r env' s e Q hq
  have q := se_call1G (n := n) (m := m) (dv := fun _ => E) h C hC B env σ H r env' s e Q hq
  show ta σ H fun vs H1 => SpM K n m (vs ++ []) H1 Q E
  have w : (fun (vs : List V) (H1 : Hp) => SpM K n m (vs ++ []) H1 Q E) = fun vs H1 => SpM K n m vs H1 Q E := by
    funext vs H1
    rw [List.append_nil]
  rw [w]
  exact q
end
end Vm

set_option Elab.async false
set_option linter.all false
set_option maxRecDepth 100000
namespace Vm
open PySem PySem.Spec PyProof.Rows L2 Evl
section
variable {K : PySem.W.Frag} {C : Ctx} {B B' G H H' : Hp} {env env' : En} {σ : L2.St} {v : V} {r : R} {d : D} {ta tb tc te : TE} {fa fb fc fe : En → Option (R × En)} {f : En → Option (R × En)} {X : Cx} {fix : List Nat} {W : WX}

/-! ### a op b op' c -/
def eChain (g g' : D → D → Option D) (fa fb fc : En → Option (R × En)) : En → Option (R × En) := fun env =>
  (fa env).bind fun a => (fb a.2).bind fun b => (look b.2 a.1).bind fun x => (look b.2 b.1).bind fun y => (g x y).bind fun z => match z, b.1 with
    | .bl true, .val yd => (fc b.2).bind fun c => (look c.2 c.1).bind fun w => (g' yd w).map fun z' => (.val z', c.2)
    | .bl false, .val _ => some (.val (.bl false), b.2)
    | _, _ => none
theorem se_chain {r1 r2 : R2} {g g' : D → D → Option D} (h1 : ROS K r1 g) (h2 : ROS K r2 g') (ha : SE K ta fa) (hb : SE K tb fb) (hc : SE K tc fc) : SE K (tChain r1 r2 ta tb tc) (eChain g g' fa fb fc) := by
  intro C hC B env σ H r env' s e Q hq
  obtain ⟨⟨ra, e1⟩, g1, e⟩ := Option.bind_eq_some_iff.mp e
  obtain ⟨⟨rb, e2⟩, g2, e⟩ := Option.bind_eq_some_iff.mp e
  obtain ⟨dx, g3, e⟩ := Option.bind_eq_some_iff.mp e
  obtain ⟨dy, g4, e⟩ := Option.bind_eq_some_iff.mp e
  obtain ⟨z, g5, e⟩ := Option.bind_eq_some_iff.mp e
  refine se_two ha hb hC s g1 g2 (W := fun x y H2 => r1 x y H2 fun z H3 => ∃ k, z = .bl k ∧ (if k = true then tc σ H3 fun w' H4 => r2 y w' H4 Q else Q (.bl false) H3)) fun x y B' H' s' x' rx ry => ?_
  have k1 := look_rep s' rx g3
  have k2 := look_rep s' ry g4
  rw [hC] at k1 k2
  obtain ⟨u, hu, go⟩ := h1 B' H' x y dx dy z s'.exB k1 k2 g5
  refine go _ ?_
  split at e
  · rename_i yd hy
    simp only at hy
    subst hy
    cases hu
    cases g4
    obtain ⟨⟨rc, e3⟩, g6, e⟩ := Option.bind_eq_some_iff.mp e
    obtain ⟨w, g7, e⟩ := Option.bind_eq_some_iff.mp e
    obtain ⟨z', g8, e⟩ := Option.map_eq_some_iff.mp e
    cases e
    refine ⟨true, rfl, ?_⟩
    show tc σ H' _
    refine hc C hC B' e2 σ H' rc e3 s' g6 _ fun w' B3 H3 s3 x3 rw' => ?_
    have k3 := look_rep s3 rw' g7
    rw [hC] at k3
    have ry' : Rep C.K B3 y dy := Rep.mono x3 ry
    rw [hC] at ry'
    obtain ⟨u2, hu2, go2⟩ := h2 B3 H3 y w' dy w z' s3.exB (.inl ry') k3 g8
    exact go2 _ (hq u2 B3 H3 s3 (x'.trans x3) (sc_rep hu2))
  · cases hu
    cases e
    refine ⟨false, rfl, ?_⟩
    show Q (.bl false) H'
    exact hq _ B' H' s' x' (.bl false)
  · cases e
theorem ros_lt : ROS K (rI0 fun i j => .bl (decide (i < j))) dLt := ros_I0 fun _ _ => rfl
theorem ros_le : ROS K (rI0 fun i j => .bl (decide (i ≤ j))) dLe := ros_I0 fun _ _ => rfl
theorem ros_gt : ROS K (rI0 fun i j => .bl (decide (j < i))) dGt := ros_I0 fun _ _ => rfl
theorem ros_ge : ROS K (rI0 fun i j => .bl (decide (j ≤ i))) dGe := ros_I0 fun _ _ => rfl
def dNeg : D → Option D
  | .int i => some (.int (-i))
  | _ => none
theorem se_neg (h : SE K ta fa) : SE K (tUn (rU fun i => .int (-i)) ta) (eUn dNeg fa) := se_un (g := dNeg) (by
  intro B H x dx z e rx hz
  cases dx with
  | int i =>
    cases hz
    exact ⟨_, rfl, fun Q q => ⟨i, rx.int, q⟩⟩
  | _ => cases hz) h

/-! ### isinstance of a built-in class -/
def tyD : D → Option String
  | .non => some "NoneType" | .bl _ => some "bool" | .int _ => some "int" | .str _ => some "str"
  | .lst _ => some "list" | .scr _ => some "list" | .tup _ => some "tuple" | .dct _ _ => some "dict"
  | _ => none
def kitD (a b : String) : Option Bool := kitB a b
def bIsi : List D → Option D
  | [d, .ty n] => (tyD d).bind fun t => (kitB t n).map D.bl
  | _ => none
theorem tyX_of {n : String} (e : Ex B H) (h : RepK K B H v d) (t : tyD d = some n) : TyX K H v (.type n) := by
  cases d with
  | non => cases t; rw [h.non]; exact .base .non
  | bl b => cases t; rw [h.bl]; exact .base (.bl b)
  | int i => cases t; rw [h.int]; exact .base (.int i)
  | str s => cases t; rw [h.str]; exact .base (.str s)
  | ref a => cases t
  | ty n => cases t
  | lst xs =>
    cases t
    obtain ⟨a, vs, rfl, h1, _⟩ := h.list e
    exact .base (.lst h1)
  | tup xs =>
    cases t
    obtain ⟨a, vs, rfl, h1, _⟩ := (h.scal fun _ z => by cases z).tuple
    rcases ex_t e h1 with (h1 | ⟨o, h1⟩) | ⟨o, its, m, h1, h2, _⟩
    · exact .base (.tup h1)
    · exact .fTuple h1
    · exact .kTuple h1 h2
  | dct ks xs =>
    cases t
    rcases h with h | ⟨_, _, _, _, z, _⟩
    · cases h with
      | dct h1 h2 => exact .base (.dK (e _ _ h1))
    · cases z
  | scr ns =>
    cases t
    obtain ⟨a, rfl, h1⟩ := (h.scal fun _ z => by cases z).script
    rcases ex_l e h1 with (h1 | ⟨o, h1⟩) | ⟨o, its, m, h1, h2, _⟩
    · exact .base (.lst h1)
    · exact .base (.frz h1)
    · exact .kList h1 h2
theorem rc_isi : RC K (rIsi K) bIsi := RCS.rc (by
  intro B H vs ds z e rx h
  unfold bIsi at h
  split at h
  · obtain ⟨t, h1, h⟩ := Option.bind_eq_some_iff.mp h
    obtain ⟨b, h2, rfl⟩ := Option.map_eq_some_iff.mp h
    obtain ⟨v, w, rfl, k1, k2⟩ := rx.two
    have hw : w = V.ty _ := repK_sc (d := .ty _) rfl k2
    subst hw
    exact ⟨_, rfl, fun Q q => ⟨v, _, _, _, b, rfl, .ty _, tyX_of e k1 h1, kit_ty h2, q⟩⟩
  · cases h)

/-! ### sorted of ints, list(..), reversed slices -/
def srt (ns : List Int) : List Int := ns.mergeSort fun a b => decide (a ≤ b)
theorem srt_perm (ns : List Int) : (srt ns).Perm ns := List.mergeSort_perm _ _
theorem srt_pw (ns : List Int) : (srt ns).Pairwise (· ≤ ·) := by
  have := List.pairwise_mergeSort (le := fun a b : Int => decide (a ≤ b)) (fun a b c h1 h2 => by
    have h1 := of_decide_eq_true h1
    have h2 := of_decide_eq_true h2
    exact decide_eq_true (Int.le_trans h1 h2)) (fun a b => by
    rcases Int.le_total a b with h | h
    · simp [h]
    · simp [h]) ns
  exact this.imp fun h => of_decide_eq_true h
theorem srt_unique {ns ms : List Int} (p : ms.Perm ns) (w : ms.Pairwise (· ≤ ·)) : ms = srt ns := PySem.W.ksm_same (p.trans (srt_perm ns).symm) w (srt_pw ns)
def bSorted : List D → Option (List D)
  | [.lst xs] => (unInts xs).map fun ns => (srt ns).map D.int
  | _ => none
theorem rcl_sorted : RCL K (rSortedI K) bSorted := by
  intro B H vs ds zs e rx h Q q
  unfold bSorted at h
  split at h
  · obtain ⟨ns, h1, rfl⟩ := Option.map_eq_some_iff.mp h
    obtain ⟨v, rfl, k⟩ := rx.one
    obtain ⟨a, rfl, h2⟩ := k.ints e h1
    refine ⟨a, ns, rfl, sq_of h2, fun ns' p pm pw hp => ?_⟩
    rw [srt_unique pm pw]
    exact q p _ hp (.of_ints _)
  · cases h
def bList : List D → Option (List D)
  | [.lst xs] => some xs
  | [.tup xs] => some xs
  | [.scr ns] => some (ns.map D.int)
  | _ => none
def rListOf (K : PySem.W.Frag) : List V → Hp → VK → Prop := fun xs H Q => ∃ p ys, xs = [.ref p] ∧ (SqL K H p ys ∨ SqT K H p ys) ∧ ∀ l, H l = none → Q (.ref l) (upd H l (.lst ys))
theorem rcl_list : RCL K (rListOf K) bList := by
  intro B H vs ds zs e rx h Q q
  unfold bList at h
  split at h
  · cases h
    obtain ⟨v, rfl, k⟩ := rx.one
    obtain ⟨a, ws, rfl, h1, h2⟩ := k.list e
    exact ⟨a, ws, rfl, .inl (sq_of h1), fun l hl => q l ws hl h2⟩
  · cases h
    obtain ⟨v, rfl, k⟩ := rx.one
    obtain ⟨a, ws, rfl, h1, h2⟩ := (k.scal fun _ z => by cases z).tuple
    exact ⟨a, ws, rfl, .inr (ex_t e h1), fun l hl => q l ws hl h2⟩
  · cases h
    obtain ⟨v, rfl, k⟩ := rx.one
    obtain ⟨a, rfl, h1⟩ := (k.scal fun _ z => by cases z).script
    exact ⟨a, _, rfl, .inl (ex_l e h1), fun l hl => q l _ hl (.of_ints _)⟩
  · cases h
def eRev (f : En → Option (R × En)) : En → Option (R × En) := fun env => (f env).bind fun a => (look a.2 a.1).bind fun d => (seqOf d).map fun xs => (.fr xs.reverse, a.2)
theorem se_rev (h : SE K te f) : SE K (tRevL K te) (eRev f) := by
  intro C hC B env σ H r env' s e Q hq
  obtain ⟨⟨a, e1⟩, g1, e⟩ := Option.bind_eq_some_iff.mp e
  obtain ⟨d, g2, e⟩ := Option.bind_eq_some_iff.mp e
  obtain ⟨xs, g3, e⟩ := Option.map_eq_some_iff.mp e
  cases e
  refine h C hC B env σ H a e1 s g1 _ fun v B1 H1 s1 x1 rr => ?_
  have k := look_rep s1 rr g2
  rw [hC] at k
  obtain ⟨p, vs, rfl, q1, q2⟩ := seqOf_rep s1.exB k g3
  exact ⟨p, vs, rfl, q1, fun q hq' => hq (.ref q) B1 _ (s1.temp hq') x1 (s1.newL hq' (by rw [hC]; exact q2.reverse))⟩
def intOf : R → Option Int
  | .val (.int i) => some i
  | _ => none
theorem intOf_some {i : Int} (h : intOf r = some i) : r = .val (.int i) := by
  unfold intOf at h
  split at h
  · cases h; rfl
  · cases h
instance (a b : Int) : Decidable (RgOk a b) := by unfold RgOk; infer_instance
theorem rg_rep (a b : Int) : RepAll K B (rgV a b) (upTo a (b - a).toNat) := by
  have : rgV a b = ((List.range (b - a).toNat).map fun i => a + ((i : Nat) : Int)).map V.int := by
    unfold rgV
    rw [List.map_map]
    rfl
  rw [this]
  have : upTo a (b - a).toNat = ((List.range (b - a).toNat).map fun i => a + ((i : Nat) : Int)).map D.int := by
    unfold upTo
    rw [List.map_map]
    rfl
  rw [this]
  exact .of_ints _
def eLr1 (f : En → Option (R × En)) : En → Option (R × En) := fun env => (f env).bind fun a => (intOf a.1).bind fun n => if RgOk 0 n then some (.fr (upTo 0 n.toNat), a.2) else none
theorem se_lr1 (h : SE K te f) : SE K (tLstRg (tRg1 te)) (eLr1 f) := by
  intro C hC B env σ H r env' s e Q hq
  obtain ⟨⟨a, e1⟩, g1, e⟩ := Option.bind_eq_some_iff.mp e
  obtain ⟨n, g2, e⟩ := Option.bind_eq_some_iff.mp e
  split at e
  · rename_i ho
    cases e
    have := intOf_some g2
    simp only at this
    subst this
    refine h C hC B env σ H _ e1 s g1 _ fun v B1 H1 s1 x1 rr => ?_
    have rr : Rep C.K B1 v (.int n) := rr
    cases rr
    refine ⟨n, rfl, ho, fun q hq' => hq (.ref q) B1 _ (s1.temp hq') x1 (s1.newL hq' ?_)⟩
    have := rg_rep (K := C.K) (B := B1) 0 n
    rw [Int.sub_zero] at this
    exact this
  · cases e
def eLr2 (fa fb : En → Option (R × En)) : En → Option (R × En) := fun env => (fa env).bind fun a => (fb a.2).bind fun b => (intOf a.1).bind fun i => (intOf b.1).bind fun j => if RgOk i j then some (.fr (upTo i (j - i).toNat), b.2) else none
theorem se_lr2 (h1 : SE K ta fa) (h2 : SE K tb fb) : SE K (tLstRg (tRg2 ta tb)) (eLr2 fa fb) := by
  intro C hC B env σ H r env' s e Q hq
  obtain ⟨⟨a, e1⟩, g1, e⟩ := Option.bind_eq_some_iff.mp e
  obtain ⟨⟨b, e2⟩, g2, e⟩ := Option.bind_eq_some_iff.mp e
  obtain ⟨i, g3, e⟩ := Option.bind_eq_some_iff.mp e
  obtain ⟨j, g4, e⟩ := Option.bind_eq_some_iff.mp e
  split at e
  · rename_i ho
    cases e
    have q1 := intOf_some g3
    have q2 := intOf_some g4
    simp only at q1 q2
    subst q1 q2
    refine h1 C hC B env σ H _ e1 s g1 _ fun v B1 H1 s1 x1 rr => ?_
    have rr : Rep C.K B1 v (.int i) := rr
    cases rr
    refine h2 C hC B1 e1 σ H1 _ e2 s1 g2 _ fun w B2 H2 s2 x2 rr2 => ?_
    have rr2 : Rep C.K B2 w (.int j) := rr2
    cases rr2
    exact ⟨i, j, rfl, rfl, ho, fun q hq' => hq (.ref q) B2 _ (s2.temp hq') (x1.trans x2) (s2.newL hq' (rg_rep i j))⟩
  · cases e

/-! ### never reached; subscripts that are read for an op= -/
def sNever : En → Option Out := fun _ => none
/-- a, b, c = x, y, z -/
def sPar3 (i j l : Nat) (f : En → Option (List R × En)) : En → Option Out := fun env => (f env).bind fun a => (frzs a.2 a.1).bind fun b => match b.1 with
  | [d1, d2, d3] => some (.nx (((b.2.set i (.sh d1)).set j (.sh d2)).set l (.sh d3)))
  | _ => none
theorem ss_par3 {i j l : Nat} {ta : TA} {f : En → Option (List R × En)} (h : SA K ta f) (hi : i ∉ fix) (hj : j ∉ fix) (hl : l ∉ fix) : SS K fix W (tPar3 i j l ta) (sPar3 i j l f) := by
  intro C hC hF B env σ H o s e D p
  obtain ⟨⟨rs, e1⟩, g1, e⟩ := Option.bind_eq_some_iff.mp e
  obtain ⟨⟨ds, e2⟩, g2, e⟩ := Option.bind_eq_some_iff.mp e
  split at e
  · rename_i d1 d2 d3 hd
    simp only at hd
    subst hd
    cases e
    refine h C hC B env σ H _ e1 s g1 _ fun vs B1 H1 s1 x1 rr => ?_
    obtain ⟨B2, s2, x2, ra⟩ := frzs_w s1 rr.w g2
    match vs, ra with
    | [u, v, w], .cons ru (.cons rv (.cons rw' .nil)) =>
      refine ⟨u, v, w, rfl, ?_⟩
      have s3 := s2.setV (i := i) (v := u) (t := .sh d1) (by rw [hF]; exact hi) ru
      have s4 := s3.setV (i := j) (v := v) (t := .sh d2) (by rw [hF]; exact hj) rv
      have s5 := s4.setV (i := l) (v := w) (t := .sh d3) (by rw [hF]; exact hl) rw'
      exact p B2 _ H1 s5 (x1.trans x2)
  · cases e
theorem ss_never : SS K fix W tNever sNever := by
  intro C hC hF B env σ H o s e
  cases e
theorem get_list : PGet X (rIxL X.K) := by
  intro pins s σ H x y v u Q I rx ry h
  obtain ⟨p, xs, i, z, rfl, rfl, hq, he, q⟩ := h
  cases rx
  obtain ⟨t, rfl⟩ := ry
  obtain ⟨its, r, pl, hz⟩ := I.list hq
  obtain ⟨j, h1, h2, h3, h4, h5⟩ := atI_get he
  obtain ⟨w, ew, rw'⟩ := r.get h2
  have hl := r.length
  have hn := line63
  have fin : EP X pins σ Q w s := ⟨z, H, I, rw', q⟩
  by_cases h0 : 0 ≤ i
  · have hj : i.toNat = j := by
      rw [seqIndex_of h0 h5] at h1
      exact Option.some.inj h1
    exact wpAny_getItem_list pl.isList h0 (by omega) (by rw [hj]; simpa using ew) fin
  · have hj : (i + (its.toArray.size : Int)).toNat = j := by
      rw [seqIndex_neg (by omega) h4] at h1
      rw [List.size_toArray, ← hl]
      exact Option.some.inj h1
    exact wpAny_getItem_list_neg pl.isList (by omega) (by rw [List.size_toArray] <;> omega) (by omega) (by rw [hj]; simpa using ew) fin

/-- a def of the module that may be called -/
structure DefOk (P : Program) (w : World) (K : PySem.W.Frag) (mg : Str → Option Value) (base : Heap) (x : Str) (ps : List Str) (k : Nat) (m : En → Option Res) : Prop where
  ex : ∃ f fd, mg x = some (.ref f) ∧ FnOk P w K mg base CX0 k f fd ps (SpM K ps.length m) ∧ PySem.W.keepIn K (.ref f) = true ∧ Binds K fd ps []
theorem pe_def {x : Str} {ps : List Str} {n k j : Nat} {m : En → Option Res} {p pos : Pos} {e : Expr} {es : List Expr} {t : TA} (h : DefOk X.prog X.w X.K X.mg X.base x ps k m) (hn : ps.length = n) (hr : Room j X.A) (hj : k ≤ j) (hg : Gl X x) (ha : PA X (e :: es) t)
    (hdb : (x == ("__debug__" : Str)) = false := by decide)
    (he : starEach (e :: es) X.env = (false, eval e X.env) :: starEach es X.env := by rfl) (hpl : (backTo pos (starEach es X.env)).any (·.1) = false := by rfl) : PE X (.Call (.Name x p) (e :: es) [] pos) (tCall (SpM X.K n m) [] E0 t) := by
  subst hn
  obtain ⟨f, fd, hm, F, hk, hb⟩ := h.ex
  exact pe_call F (hr.mono hj) hg hm hk hb .nil pass0 ha hdb he hpl
end
end Vm
namespace Vm
open PySem PySem.Spec PyProof.Rows L2 Evl
abbrev rAddI : R2 := rI0 fun i j => .int (i + j)
abbrev rSubI : R2 := rI0 fun i j => .int (i - j)
abbrev rMulA : R2 := rI CMulA fun i j => .int (i * j)
abbrev rFdivN : R2 := rI CDivN fun i j => .int (i.fdiv j)
abbrev rModN : R2 := rI (fun _ j => j ≠ 0) fun i j => .int (i.fmod j)
abbrev rPowA : R2 := rI CPowA fun i j => .int (i ^ j.toNat)
abbrev rLtI : R2 := rI0 fun i j => .bl (decide (i < j))
abbrev rLeI : R2 := rI0 fun i j => .bl (decide (i ≤ j))
abbrev rGtI : R2 := rI0 fun i j => .bl (decide (j < i))
abbrev rGeI : R2 := rI0 fun i j => .bl (decide (j ≤ i))
abbrev uNeg : V → Hp → VK → Prop := rU fun i => .int (-i)
abbrev rAbsI : List V → Hp → VK → Prop := fun xs H Q => ∃ i, xs = [.int i] ∧ Q (.int (if i < 0 then -i else i)) H
abbrev rInt1 : List V → Hp → VK → Prop := fun xs H Q => (∃ i, xs = [.int i] ∧ Q (.int i) H) ∨ ∃ k, xs = [.bl k] ∧ Q (.int (if k then 1 else 0)) H
abbrev rMx2 : List V → Hp → VK → Prop := fun xs H Q => ∃ i j, xs = [.int i, .int j] ∧ Q (.int (if j > i then j else i)) H
abbrev rMn2 : List V → Hp → VK → Prop := fun xs H Q => ∃ i j, xs = [.int i, .int j] ∧ Q (.int (if j < i then j else i)) H
end Vm

set_option Elab.async false
set_option linter.all false
set_option maxRecDepth 100000
/-! VmS: how the functions of the layer are reckoned (simp), and loops and comprehensions by invariants. -/
namespace Vm
/-- a step that is shown, not left to be found again -/
theorem nr {α : Sort _} {a b : α} (h : a = b) : a = b := h
open PySem PySem.Spec PyProof.Rows L2 Evl
section
variable {env : En} {fa fb fc : En → Option (R × En)} {f : En → Option (List R × En)} {F G : En → Option Out} {g : D → D → Option D} {t u : En → Option (Bool × En)}
@[simp] theorem x_sSeq : sSeq F G env = (F env).bind fun o => match o with
  | .nx e1 => G e1
  | o => some o := nr rfl
@[simp] theorem x_sIf : sIf t F G env = (t env).bind fun a => if a.1 then F a.2 else G a.2 := nr rfl
@[simp] theorem x_sRet : sRet fa env = (fa env).map fun a => .rt a.1 a.2 := nr rfl
@[simp] theorem x_sRetN : sRetN env = some (.rt (.val .non) env) := nr rfl
@[simp] theorem x_sNext : sNext env = some (.nx env) := nr rfl
@[simp] theorem x_sExpr : sExpr fa env = (fa env).map fun a => .nx a.2 := nr rfl
@[simp] theorem x_sSet {i : Nat} : sSet i fa env = (fa env).bind fun a => (store i a.1 a.2).map Out.nx := nr rfl
@[simp] theorem x_sAsg {h : D → En → Option En} : sAsg fa h env = (fa env).bind fun a => (frz a.2 a.1).bind fun b => (h b.1 b.2).map Out.nx := nr rfl
@[simp] theorem x_sPut {i : Nat} : sPut i fa fb env = (fa env).bind fun a => (frz a.2 a.1).bind fun b => (own b.2 i).bind fun _ => (fb b.2).bind fun k => match k.1 with
  | .val (.int z) => (own k.2 i).bind fun xs => (ixN xs.length z).map fun j => .nx (k.2.set i (.ow (xs.set j b.1)))
  | _ => none := nr rfl
@[simp] theorem x_sAug {i : Nat} : sAug i g fa env = match env[i]? with
  | some (.sh x) => (fa env).bind fun a => (look a.2 a.1).bind fun y => (g x y).map fun z => .nx (a.2.set i (.sh z))
  | _ => none := nr rfl
@[simp] theorem x_sPutAug {i : Nat} : sPutAug i g fa fb env = (own env i).bind fun _ => (fa env).bind fun k => match k.1 with
  | .val (.int z) => (own k.2 i).bind fun xs => (atI xs z).bind fun x => (fb k.2).bind fun a => (look a.2 a.1).bind fun y => (g x y).bind fun w => (own a.2 i).bind fun ys => (ixN ys.length z).map fun j => .nx (a.2.set i (.ow (ys.set j w)))
  | _ => none := nr rfl
@[simp] theorem x_sPar {i j : Nat} : sPar i j f env = (f env).bind fun a => match a.1 with
  | [.val d1, .val d2] => some (.nx ((a.2.set i (.sh d1)).set j (.sh d2)))
  | [.val d1, .fr xs] => some (.nx ((a.2.set i (.sh d1)).set j (.ow xs)))
  | [.fr xs, .val d2] => some (.nx ((a.2.set i (.ow xs)).set j (.sh d2)))
  | [r1, r2] => (frzs a.2 [r1, r2]).bind fun b => match b.1 with
    | [d1, d2] => some (.nx ((b.2.set i (.sh d1)).set j (.sh d2)))
    | _ => none
  | _ => none := nr rfl
@[simp] theorem x_sPar3 {i j l : Nat} : sPar3 i j l f env = (f env).bind fun a => (frzs a.2 a.1).bind fun b => match b.1 with
  | [d1, d2, d3] => some (.nx (((b.2.set i (.sh d1)).set j (.sh d2)).set l (.sh d3)))
  | _ => none := nr rfl
@[simp] theorem x_sFor {fi : En → Option (List D × En)} {tgt : D → En → Option En} : sFor fi tgt F env = (fi env).bind fun a => loopS tgt F a.1 a.2 := nr rfl
@[simp] theorem x_eVar {i : Nat} : eVar i env = match env[i]? with
  | some (.sh d) => some (.val d, env)
  | some (.ow _) => some (.al i, env)
  | _ => none := nr rfl
@[simp] theorem x_eC {d : D} : eC d env = some (.val d, env) := nr rfl
@[simp] theorem x_eOp : eOp g fa fb env = (fa env).bind fun a => (fb a.2).bind fun b => (look b.2 a.1).bind fun x => (look b.2 b.1).bind fun y => (g x y).map fun z => (R.val z, b.2) := nr rfl
@[simp] theorem x_eOpL {g : D → D → Option (List D)} : eOpL g fa fb env = (fa env).bind fun a => (fb a.2).bind fun b => (look b.2 a.1).bind fun x => (look b.2 b.1).bind fun y => (g x y).map fun z => (R.fr z, b.2) := nr rfl
@[simp] theorem x_eUn {g : D → Option D} : eUn g fa env = (fa env).bind fun a => (look a.2 a.1).bind fun x => (g x).map fun z => (R.val z, a.2) := nr rfl
@[simp] theorem x_eChain {g' : D → D → Option D} : eChain g g' fa fb fc env = (fa env).bind fun a => (fb a.2).bind fun b => (look b.2 a.1).bind fun x => (look b.2 b.1).bind fun y => (g x y).bind fun z => match z, b.1 with
    | .bl true, .val yd => (fc b.2).bind fun c => (look c.2 c.1).bind fun w => (g' yd w).map fun z' => (.val z', c.2)
    | .bl false, .val _ => some (.val (.bl false), b.2)
    | _, _ => none := nr rfl
@[simp] theorem x_eAnd : eAnd fa fb env = (bTest fa env).bind fun a => if a.1 then fb a.2 else some (.val (.bl false), a.2) := nr rfl
@[simp] theorem x_eOr : eOr fa fb env = (bTest fa env).bind fun a => if a.1 then some (.val (.bl true), a.2) else fb a.2 := nr rfl
@[simp] theorem x_eNot : eNot fa env = (bTest fa env).map fun a => (.val (.bl (!a.1)), a.2) := nr rfl
@[simp] theorem x_eIf : eIf t fa fb env = (t env).bind fun a => if a.1 then fa a.2 else fb a.2 := nr rfl
@[simp] theorem x_bTest : bTest fa env = (fa env).bind fun a => match a.1 with
  | .val (.bl b) => some (b, a.2)
  | _ => none := nr rfl
@[simp] theorem x_bAnd : bAnd t u env = (t env).bind fun a => if a.1 then u a.2 else some (false, a.2) := nr rfl
@[simp] theorem x_bOr : bOr t u env = (t env).bind fun a => if a.1 then some (true, a.2) else u a.2 := nr rfl
@[simp] theorem x_bNot : bNot t env = (t env).map fun a => (!a.1, a.2) := nr rfl
@[simp] theorem x_bYes : bYes env = some (true, env) := nr rfl
@[simp] theorem x_aNil : aNil env = some ([], env) := nr rfl
@[simp] theorem x_aCons : aCons fa f env = (fa env).bind fun a => (f a.2).map fun b => (a.1 :: b.1, b.2) := nr rfl
@[simp] theorem x_aD : aD f env = (f env).bind fun a => frzs a.2 a.1 := nr rfl
@[simp] theorem x_eTup : eTup f env = (aD f env).bind fun b => if b.1.length ≤ 1000 then some (.val (.tup b.1), b.2) else none := nr rfl
@[simp] theorem x_eLst : eLst f env = (aD f env).bind fun b => if b.1.length ≤ 1000 then some (.fr b.1, b.2) else none := nr rfl
@[simp] theorem x_eCB {g : List D → Option D} : eCB g f env = (f env).bind fun a => (looks a.2 a.1).bind fun ds => (g ds).map fun z => (.val z, a.2) := nr rfl
@[simp] theorem x_eCBL {g : List D → Option (List D)} : eCBL g f env = (f env).bind fun a => (looks a.2 a.1).bind fun ds => (g ds).map fun z => (.fr z, a.2) := nr rfl
@[simp] theorem x_eRev : eRev fa env = (fa env).bind fun a => (look a.2 a.1).bind fun d => (seqOf d).map fun xs => (.fr xs.reverse, a.2) := nr rfl
@[simp] theorem x_eSl {fl fh : En → Option (Option Int × En)} : eSl fa fl fh env = (fa env).bind fun a => (fl a.2).bind fun l => (fh l.2).bind fun h => (look h.2 a.1).bind fun d => (seqOf d).map fun xs => (.fr (cutD xs l.1 h.1), h.2) := nr rfl
@[simp] theorem x_oNone : oNone env = some (none, env) := nr rfl
@[simp] theorem x_oSome : oSome fa env = (fa env).bind fun a => match a.1 with
  | .val (.int i) => some (some i, a.2)
  | _ => none := nr rfl
@[simp] theorem x_eCall {n : Nat} {m : En → Option Res} : eCall n m f env = (aD f env).bind fun a => if a.1.length = n then (m (a.1.map .sh)).bind fun r => match r with
  | .val d _ => some (.val d, a.2)
  | .fr xs _ => some (.fr xs, a.2)
  | .er _ _ => none
  else none := nr rfl
@[simp] theorem x_eCall1 {n : Nat} {m : En → Option Res} : eCall1 n m f env = (f env).bind fun a => match a.1 with
  | .al i :: rs => (frzs a.2 rs).bind fun b => (own b.2 i).bind fun xs => if b.1.length + 1 = n then (m (.ow xs :: b.1.map .sh)).bind fun r => match r with
    | .val d (.ow ys :: _) => some (.val d, b.2.set i (.ow ys))
    | .fr zs (.ow ys :: _) => some (.fr zs, b.2.set i (.ow ys))
    | _ => none
    else none
  | _ => none := nr rfl
@[simp] theorem x_append {i : Nat} : eAppend i f env = (own env i).bind fun _ => (aD f env).bind fun b => (one b.1).bind fun d => (own b.2 i).bind fun xs => if xs.length < 1000000 then some (.val .non, b.2.set i (.ow (xs ++ [d]))) else none := nr rfl
@[simp] theorem x_pop {i : Nat} : eaPop i f env = (own env i).bind fun _ => (aD f env).bind fun b => (oneInt b.1).bind fun k => (own b.2 i).bind fun xs =>
  if 0 ≤ k ∧ k < 2 ^ 63 then (xs[k.toNat]?).map fun d => (.val d, b.2.set i (.ow (xs.eraseIdx k.toNat))) else none := nr rfl
@[simp] theorem x_iSeq : iSeq fa env = (fa env).bind fun a => (frz a.2 a.1).bind fun b => match b.1 with
  | .lst xs => some (xs, b.2)
  | .scr ns => some (ns.map D.int, b.2)
  | _ => none := nr rfl
@[simp] theorem x_iTupF : iTupF fa env = (fa env).bind fun a => match a.1 with
  | .val (.tup xs) => some (xs, a.2)
  | _ => none := nr rfl
@[simp] theorem x_iR1 : iR1 f env = (aD f env).bind fun a => match a.1 with
  | [.int j] => if -(2 ^ 62) ≤ j ∧ j < 2 ^ 62 then some (upTo 0 j.toNat, a.2) else none
  | _ => none := nr rfl
@[simp] theorem x_iR2 : iR2 f env = (aD f env).bind fun a => match a.1 with
  | [.int i, .int j] => if -(2 ^ 62) ≤ i ∧ i < 2 ^ 62 ∧ -(2 ^ 62) ≤ j ∧ j < 2 ^ 62 then some (upTo i (j - i).toNat, a.2) else none
  | _ => none := nr rfl
@[simp] theorem x_iEnumF : iEnumF f env = (aD f env).bind fun a => match a.1 with
  | [d] => (seqOf d).map fun xs => (enumD 0 xs, a.2)
  | _ => none := nr rfl
@[simp] theorem x_iZipF : iZipF f env = (aD f env).bind fun a => match a.1 with
  | [c, d] => (seqOf c).bind fun xs => (seqOf d).map fun ys => (zipD xs ys, a.2)
  | _ => none := nr rfl
@[simp] theorem x_tgName {i : Nat} {d : D} : tgName i d env = some (env.set i (.sh d)) := nr rfl
@[simp] theorem x_tgTup {n : Nat} {h : List D → En → Option En} {xs : List D} : tgTup n h (.tup xs) env = if xs.length = n then h xs env else none := nr rfl
@[simp] theorem x_tgCons {h : D → En → Option En} {k : List D → En → Option En} {d : D} {ds : List D} : tgCons h k (d :: ds) env = (h d env).bind fun e => k ds e := nr rfl
@[simp] theorem x_tgNil : tgNil [] env = some env := nr rfl
@[simp] theorem x_store1 {i : Nat} {d : D} : store i (.val d) env = some (env.set i (.sh d)) := nr rfl
@[simp] theorem x_store2 {i : Nat} {xs : List D} : store i (.fr xs) env = some (env.set i (.ow xs)) := nr rfl
@[simp] theorem x_store3 {i j : Nat} : store i (.al j) env = (frz env (.al j)).map fun b => b.2.set i (.sh b.1) := nr rfl
@[simp] theorem x_frz1 {d : D} : frz env (.val d) = some (d, env) := nr rfl
@[simp] theorem x_frz2 {xs : List D} : frz env (.fr xs) = some (.lst xs, env) := nr rfl
@[simp] theorem x_frz3 {i : Nat} : frz env (.al i) = match env[i]? with
    | some (.ow xs) => some (.lst xs, env.set i (.sh (.lst xs)))
    | some (.sh d) => some (d, env)
    | _ => none := nr rfl
@[simp] theorem x_frzs1 : frzs env [] = some ([], env) := nr rfl
@[simp] theorem x_frzs2 {r : R} {rs : List R} : frzs env (r :: rs) = (frz env r).bind fun a => (frzs a.2 rs).map fun b => (a.1 :: b.1, b.2) := nr rfl
@[simp] theorem x_look1 {d : D} : look env (.val d) = some d := nr rfl
@[simp] theorem x_look2 {xs : List D} : look env (.fr xs) = some (.lst xs) := nr rfl
@[simp] theorem x_look3 {i : Nat} : look env (.al i) = match env[i]? with
    | some (.ow xs) => some (.lst xs)
    | some (.sh d) => some d
    | _ => none := nr rfl
@[simp] theorem x_looks1 : looks env [] = some [] := nr rfl
@[simp] theorem x_looks2 {r : R} {rs : List R} : looks env (r :: rs) = (look env r).bind fun a => (looks env rs).map fun b => a :: b := nr rfl
@[simp] theorem x_own {i : Nat} : own env i = match env[i]? with
  | some (.ow xs) => some xs
  | _ => none := nr rfl
@[simp] theorem x_one {d : D} : one [d] = some d := nr rfl
@[simp] theorem x_oneInt {i : Int} : oneInt [.int i] = some i := nr rfl
@[simp] theorem x_seq1 {xs : List D} : seqOf (.lst xs) = some xs := nr rfl
@[simp] theorem x_seq2 {ns : List Int} : seqOf (.scr ns) = some (ns.map D.int) := nr rfl
@[simp] theorem x_add {i j : Int} : dAdd (.int i) (.int j) = some (.int (i + j)) := nr rfl
@[simp] theorem x_sub {i j : Int} : dSub (.int i) (.int j) = some (.int (i - j)) := nr rfl
@[simp] theorem x_lt {i j : Int} : dLt (.int i) (.int j) = some (.bl (decide (i < j))) := nr rfl
@[simp] theorem x_le {i j : Int} : dLe (.int i) (.int j) = some (.bl (decide (i ≤ j))) := nr rfl
@[simp] theorem x_gt {i j : Int} : dGt (.int i) (.int j) = some (.bl (decide (j < i))) := nr rfl
@[simp] theorem x_ge {i j : Int} : dGe (.int i) (.int j) = some (.bl (decide (j ≤ i))) := nr rfl
@[simp] theorem x_neg {i : Int} : dNeg (.int i) = some (.int (-i)) := nr rfl
theorem x_mul {i j : Int} (h : CMulA i j) : dMul (.int i) (.int j) = some (.int (i * j)) := by
  show (if decide (CMulA i j) = true then _ else _) = _
  rw [decide_eq_true h]
  rfl
theorem x_fdiv {i j : Int} (h0 : 0 < j) (h1 : j < 1073741824) : dFdiv (.int i) (.int j) = some (.int (i / j)) := by
  show (if decide (CDivN i j) = true then some (D.int (i.fdiv j)) else none) = _
  rw [decide_eq_true (show CDivN i j from ⟨by omega, by omega⟩), Int.fdiv_eq_ediv_of_nonneg i (by omega)]
  rfl
theorem x_mod {i j : Int} (h0 : 0 < j) : dMod (.int i) (.int j) = some (.int (i % j)) := by
  show (if decide (j ≠ 0) = true then some (D.int (i.fmod j)) else none) = _
  rw [decide_eq_true (show j ≠ 0 by omega), Int.fmod_eq_emod_of_nonneg i (by omega)]
  rfl
theorem x_pow {i j : Int} (h : CPowA i j) : dPow (.int i) (.int j) = some (.int (i ^ j.toNat)) := by
  show (if decide (CPowA i j) = true then _ else _) = _
  rw [decide_eq_true h]
  rfl
@[simp] theorem x_cat {xs ys : List D} : dCat (.lst xs) (.lst ys) = if xs.length + ys.length ≤ sizeLine then some (xs ++ ys) else none := nr rfl
@[simp] theorem x_ix1 {xs : List D} {i : Int} : dIx (.lst xs) (.int i) = atI xs i := nr rfl
@[simp] theorem x_ix2 {xs : List D} {i : Int} : dIx (.tup xs) (.int i) = atI xs i := nr rfl
@[simp] theorem x_ix3 {ns : List Int} {i : Int} : dIx (.scr ns) (.int i) = (atI ns i).map D.int := nr rfl
@[simp] theorem x_len1 {xs : List D} : bLen [.lst xs] = some (.int xs.length) := nr rfl
@[simp] theorem x_len2 {xs : List D} : bLen [.tup xs] = some (.int xs.length) := nr rfl
@[simp] theorem x_len3 {xs : List Int} : bLen [.scr xs] = some (.int xs.length) := nr rfl
@[simp] theorem x_int {i : Int} : bInt [.int i] = some (.int i) := nr rfl
@[simp] theorem x_abs {i : Int} : bAbs [.int i] = some (.int (if i < 0 then -i else i)) := nr rfl
@[simp] theorem x_max2 {i j : Int} : bMax2 [.int i, .int j] = some (.int (if j > i then j else i)) := nr rfl
@[simp] theorem x_min2 {i j : Int} : bMin2 [.int i, .int j] = some (.int (if j < i then j else i)) := nr rfl
@[simp] theorem x_sum {ns : List Int} : bSum [.lst (ns.map D.int)] = some (.int ns.sum) := by
  show (unInts (ns.map D.int)).map _ = _
  rw [unInts_map]
  rfl
@[simp] theorem x_all {ns : List Bool} : bAll [.lst (ns.map D.bl)] = some (.bl (ns.all id)) := by
  show (unBls (ns.map D.bl)).map _ = _
  rw [unBls_map]
  rfl
@[simp] theorem x_maxL {ns : List Int} : bMaxL [.lst (ns.map D.int)] = if ns = [] then none else some (.int (maxL ns)) := by
  show (unInts (ns.map D.int)).bind _ = _
  rw [unInts_map]
  rfl
@[simp] theorem x_minL {ns : List Int} : bMinL [.lst (ns.map D.int)] = if ns = [] then none else some (.int (minL ns)) := by
  show (unInts (ns.map D.int)).bind _ = _
  rw [unInts_map]
  rfl
@[simp] theorem x_sorted {ns : List Int} : bSorted [.lst (ns.map D.int)] = some ((srt ns).map D.int) := by
  show (unInts (ns.map D.int)).map _ = _
  rw [unInts_map]
  rfl
@[simp] theorem x_list {xs : List D} : bList [.lst xs] = some xs := nr rfl
@[simp] theorem params_nil {n : Nat} {e : En} : params [] n e = List.replicate n Sl.un := by
  unfold params
  refine List.ext_getElem (by simp) fun i h1 h2 => ?_
  simp
@[simp] theorem params_zero {n : Nat} {e : En} : params [0] (n + 1) e = e[0]?.getD .un :: List.replicate n Sl.un := by
  unfold params
  rw [List.range_succ_eq_map, List.map_cons, List.map_map]
  congr 1
  refine List.ext_getElem (by simp) fun i h1 h2 => ?_
  simp
theorem k_int_int : kitB "int" "int" = some true := by decide +kernel
theorem k_int_bool : kitB "int" "bool" = some false := by decide +kernel
theorem k_list_list : kitB "list" "list" = some true := by decide +kernel
@[simp] theorem x_isi_int {i : Int} : bIsi [.int i, .ty "int"] = some (.bl true) := by
  show (kitB "int" "int").map _ = _
  rw [k_int_int]
  rfl
@[simp] theorem x_isi_bool {i : Int} : bIsi [.int i, .ty "bool"] = some (.bl false) := by
  show (kitB "int" "bool").map _ = _
  rw [k_int_bool]
  rfl
@[simp] theorem x_isi_list {xs : List D} : bIsi [.lst xs, .ty "list"] = some (.bl true) := by
  show (kitB "list" "list").map _ = _
  rw [k_list_list]
  rfl
end

/-! ### == of ints, of lists of ints -/
theorem eqv_ints : ∀ xs ys : List Int, PyData.eqvAll (xs.map PyData.int) (ys.map PyData.int) = decide (xs = ys)
  | [], [] => by simp [PyData.eqvAll]
  | [], _ :: _ => by simp [PyData.eqvAll]
  | _ :: _, [] => by simp [PyData.eqvAll]
  | x :: xs, y :: ys => by
    have ih := eqv_ints xs ys
    simp only [List.map_cons, PyData.eqvAll, PyData.eqv, ih]
    by_cases h : x = y <;> by_cases h2 : xs = ys <;> simp [h, h2]
theorem canLay_ints : ∀ xs : List Int, PyData.canLayAll0 (xs.map PyData.int) = true
  | [] => by simp [PyData.canLayAll0]
  | x :: xs => by simp [PyData.canLayAll0, PyData.canLay0, canLay_ints xs]
theorem depth_ints : ∀ xs : List Int, PyData.depthAll (xs.map PyData.int) = 0
  | [] => by simp [PyData.depthAll]
  | x :: xs => by simp [PyData.depthAll, PyData.depth, depth_ints xs]
theorem shaped_ints (xs : List Int) : SeqAt.shaped (.list (xs.map PyData.int)) = true := by
  unfold SeqAt.shaped
  simp [PyData.canLay0, canLay_ints, PyData.depth, depth_ints]
theorem shaped_int (i : Int) : SeqAt.shaped (.int i) = true := by
  unfold SeqAt.shaped
  simp [PyData.canLay0, PyData.depth]
theorem shaped_bool (i : Bool) : SeqAt.shaped (.bool i) = true := by
  unfold SeqAt.shaped
  simp [PyData.canLay0, PyData.depth]
theorem toPyAll_ints : ∀ xs : List Int, toPyAll (xs.map D.int) = some (xs.map PyData.int)
  | [] => rfl
  | x :: xs => by
    show (toPy (.int x)).bind _ = _
    rw [toPyAll_ints xs]
    rfl
@[simp] theorem x_eqI {i j : Int} : dEq (.int i) (.int j) = some (.bl (decide (i = j))) := by
  unfold dEq eqD
  simp only [toPy, Option.bind_some, shaped_int, Bool.and_self, if_true, Option.map_some, PyData.eqv]
  by_cases h : i = j <;> simp [h]
@[simp] theorem x_neI {i j : Int} : dNe (.int i) (.int j) = some (.bl (!decide (i = j))) := by
  unfold dNe eqD
  simp only [toPy, Option.bind_some, shaped_int, Bool.and_self, if_true, Option.map_some, PyData.eqv]
  by_cases h : i = j <;> simp [h]
@[simp] theorem x_eqB {i j : Bool} : dEq (.bl i) (.bl j) = some (.bl (decide (i = j))) := by
  unfold dEq eqD
  simp only [toPy, Option.bind_some, shaped_bool, Bool.and_self, if_true, Option.map_some, PyData.eqv]
  cases i <;> cases j <;> rfl
theorem eqD_ints {xs ys : List Int} : eqD (.lst (xs.map D.int)) (.lst (ys.map D.int)) = some (decide (xs = ys)) := by
  unfold eqD
  simp only [toPy, toPyAll_ints, Option.map_some, Option.bind_some, shaped_ints, Bool.and_self, if_true, PyData.eqv, eqv_ints]
@[simp] theorem x_eqL {xs ys : List Int} : dEq (.lst (xs.map D.int)) (.lst (ys.map D.int)) = some (.bl (decide (xs = ys))) := by
  unfold dEq
  rw [eqD_ints]
  rfl
@[simp] theorem x_neL {xs ys : List Int} : dNe (.lst (xs.map D.int)) (.lst (ys.map D.int)) = some (.bl (!decide (xs = ys))) := by
  unfold dNe
  rw [eqD_ints]
  rfl

/-! ### loops and comprehensions -/
/-- a loop all of whose turns go on: R tells the environment behind the items taken -/
theorem loop_all {α : Type} {tgt : D → En → Option En} {body : En → Option Out} (enc : α → D) (Rl : List α → En → Prop) (xs : List α) (env : En) (h0 : Rl [] env)
    (hs : ∀ (pre : List α) (x : α) (post : List α) (env : En), xs = pre ++ x :: post → Rl pre env → ∃ e1 env', tgt (enc x) env = some e1 ∧ body e1 = some (.nx env') ∧ Rl (pre ++ [x]) env') :
    ∃ env', loopS tgt body (xs.map enc) env = some (.nx env') ∧ Rl xs env' := by
  have go : ∀ (post pre : List α) (env : En), xs = pre ++ post → Rl pre env → ∃ env', loopS tgt body (post.map enc) env = some (.nx env') ∧ Rl xs env' := by
    intro post
    induction post with
    | nil =>
      intro pre env e r
      rw [List.append_nil] at e
      subst e
      exact ⟨env, rfl, r⟩
    | cons x post ih =>
      intro pre env e r
      obtain ⟨e1, env', h1, h2, r'⟩ := hs pre x post env e r
      obtain ⟨env2, h3, r2⟩ := ih (pre ++ [x]) env' (by rw [e]; simp) r'
      refine ⟨env2, ?_, r2⟩
      show (tgt (enc x) env).bind _ = _
      rw [h1]
      show (body e1).bind _ = _
      rw [h2]
      exact h3
  exact go xs [] env rfl h0
/-- over a range: by the number of turns -/
theorem loop_range {tgt : D → En → Option En} {body : En → Option Out} (Rl : Nat → En → Prop) (lo : Int) (n : Nat) (env : En) (h0 : Rl 0 env)
    (hs : ∀ (i : Nat) (env : En), i < n → Rl i env → ∃ e1 env', tgt (.int (lo + (i : Nat))) env = some e1 ∧ body e1 = some (.nx env') ∧ Rl (i + 1) env') :
    ∃ env', loopS tgt body (upTo lo n) env = some (.nx env') ∧ Rl n env' := by
  have q := loop_all (α := Nat) (tgt := tgt) (body := body) (fun i => .int (lo + (i : Nat))) (fun pre env => Rl pre.length env) (List.range n) env h0 (fun pre x post env e r => by
    have hx : x = pre.length ∧ pre.length < n := by
      have h1 : (List.range n)[pre.length]? = some x := by rw [e]; simp
      have h2 : pre.length < n := by
        have := (List.getElem?_eq_some_iff.mp h1).1
        simpa using this
      rw [List.getElem?_range h2] at h1
      exact ⟨(Option.some.inj h1).symm, h2⟩
    obtain ⟨rfl, hlt⟩ := hx
    obtain ⟨e1, env', h1, h2, h3⟩ := hs pre.length env hlt r
    exact ⟨e1, env', h1, h2, by simpa using h3⟩)
  rw [List.length_range] at q
  exact q
/-- a comprehension: the environment is told behind each item; what is made so far in acc -/
theorem lc_all {α : Type} {vs : List Nat} {tgt : D → En → Option En} {test : En → Option (Bool × En)} {elt : En → Option (R × En)} (enc : α → D) (p : α → Bool) (Rl : List α → En → List D → Prop) (xs : List α) (env : En) (h0 : Rl [] env [])
    (hs : ∀ (pre : List α) (x : α) (post : List α) (env : En) (acc : List D), xs = pre ++ x :: post → Rl pre env acc → ∃ e1 e2, tgt (enc x) env = some e1 ∧ test e1 = some (p x, e2) ∧
      (p x = false → Rl (pre ++ [x]) (wipeE e2 vs) acc) ∧ (p x = true → ∃ r e3 d e4, elt e2 = some (r, e3) ∧ frz e3 r = some (d, e4) ∧ Rl (pre ++ [x]) (wipeE e4 vs) (acc ++ [d]))) :
    ∃ env' acc, lcF vs tgt test elt (xs.map enc) env [] = some (acc, env') ∧ Rl xs env' acc := by
  have go : ∀ (post pre : List α) (env : En) (acc : List D), xs = pre ++ post → Rl pre env acc → ∃ env' acc', lcF vs tgt test elt (post.map enc) env acc = some (acc', env') ∧ Rl xs env' acc' := by
    intro post
    induction post with
    | nil =>
      intro pre env acc e r
      rw [List.append_nil] at e
      subst e
      exact ⟨env, acc, rfl, r⟩
    | cons x post ih =>
      intro pre env acc e r
      obtain ⟨e1, e2, h1, h2, hf, ht⟩ := hs pre x post env acc e r
      have ex : xs = (pre ++ [x]) ++ post := by rw [e]; simp
      cases hp : p x with
      | false =>
        obtain ⟨env2, acc2, h3, r2⟩ := ih (pre ++ [x]) _ acc ex (hf hp)
        refine ⟨env2, acc2, ?_, r2⟩
        show (tgt (enc x) env).bind _ = _
        rw [h1]
        show (test e1).bind _ = _
        rw [h2, hp]
        exact h3
      | true =>
        obtain ⟨r0, e3, d, e4, g1, g2, r1⟩ := ht hp
        obtain ⟨env2, acc2, h3, r2⟩ := ih (pre ++ [x]) _ (acc ++ [d]) ex r1
        refine ⟨env2, acc2, ?_, r2⟩
        show (tgt (enc x) env).bind _ = _
        rw [h1]
        show (test e1).bind _ = _
        rw [h2, hp]
        show (elt e2).bind _ = _
        rw [g1]
        show (frz e3 r0).bind _ = _
        rw [g2]
        exact h3
  exact go xs [] env [] rfl h0
/-- one turn of a comprehension -/
def turn (vs : List Nat) (tgt : D → En → Option En) (test : En → Option (Bool × En)) (elt : En → Option (R × En)) (d : D) (env : En) : Option (Option D × En) :=
  (tgt d env).bind fun e1 => (test e1).bind fun b => if b.1 then (elt b.2).bind fun r => (frz r.2 r.1).map fun a => (some a.1, wipeE a.2 vs) else some (none, wipeE b.2 vs)
theorem lc_turns {α : Type} {vs : List Nat} {tgt : D → En → Option En} {test : En → Option (Bool × En)} {elt : En → Option (R × En)} (enc : α → D) (Rl : List α → En → List D → Prop) (xs : List α) (env : En) (h0 : Rl [] env [])
    (hs : ∀ (pre : List α) (x : α) (post : List α) (env : En) (acc : List D), xs = pre ++ x :: post → Rl pre env acc → ∃ o env', turn vs tgt test elt (enc x) env = some (o, env') ∧ Rl (pre ++ [x]) env' (acc ++ o.toList)) :
    ∃ env' acc, lcF vs tgt test elt (xs.map enc) env [] = some (acc, env') ∧ Rl xs env' acc := by
  have go : ∀ (post pre : List α) (env : En) (acc : List D), xs = pre ++ post → Rl pre env acc → ∃ env' acc', lcF vs tgt test elt (post.map enc) env acc = some (acc', env') ∧ Rl xs env' acc' := by
    intro post
    induction post with
    | nil =>
      intro pre env acc e r
      rw [List.append_nil] at e
      subst e
      exact ⟨env, acc, rfl, r⟩
    | cons x post ih =>
      intro pre env acc e r
      obtain ⟨o, env1, h1, r1⟩ := hs pre x post env acc e r
      obtain ⟨env2, acc2, h3, r2⟩ := ih (pre ++ [x]) env1 _ (by rw [e]; simp) r1
      refine ⟨env2, acc2, ?_, r2⟩
      unfold turn at h1
      obtain ⟨e1, g1, h1⟩ := Option.bind_eq_some_iff.mp h1
      obtain ⟨⟨b, e2⟩, g2, h1⟩ := Option.bind_eq_some_iff.mp h1
      show (tgt (enc x) env).bind _ = _
      rw [g1]
      show (test e1).bind _ = _
      rw [g2]
      cases b with
      | false =>
        cases h1
        rw [show acc ++ (none : Option D).toList = acc by simp] at h3
        exact h3
      | true =>
        obtain ⟨⟨r0, e3⟩, g3, h1⟩ := Option.bind_eq_some_iff.mp h1
        obtain ⟨⟨d, e4⟩, g4, h1⟩ := Option.map_eq_some_iff.mp h1
        cases h1
        show (elt e2).bind _ = _
        rw [g3]
        show (frz e3 r0).bind _ = _
        rw [g4]
        exact h3
  exact go xs [] env [] rfl h0
theorem lc_pure {α : Type} {vs : List Nat} {tgt : D → En → Option En} {test : En → Option (Bool × En)} {elt : En → Option (R × En)} (enc : α → D) (o : α → Option D) (xs : List α) (env : En)
    (hs : ∀ x ∈ xs, turn vs tgt test elt (enc x) env = some (o x, env)) : lcF vs tgt test elt (xs.map enc) env [] = some (xs.filterMap o, env) := by
  obtain ⟨env', acc, h1, rfl, rfl⟩ := lc_turns (vs := vs) (tgt := tgt) (test := test) (elt := elt) enc (fun pre e acc => e = env ∧ acc = pre.filterMap o) xs env ⟨rfl, rfl⟩ (fun pre x post e acc ex ⟨he, ha⟩ => by
    subst he ha
    refine ⟨o x, _, hs x (by rw [ex]; simp), rfl, ?_⟩
    rw [List.filterMap_append]
    cases q : o x <;> simp [q])
  exact h1
theorem lc_map {α : Type} {vs : List Nat} {tgt : D → En → Option En} {test : En → Option (Bool × En)} {elt : En → Option (R × En)} (enc : α → D) (g : α → D) (xs : List α) (env : En)
    (hs : ∀ x ∈ xs, turn vs tgt test elt (enc x) env = some (some (g x), env)) : lcF vs tgt test elt (xs.map enc) env [] = some (xs.map g, env) := by
  have := lc_pure (vs := vs) (tgt := tgt) (test := test) (elt := elt) enc (fun x => some (g x)) xs env hs
  rw [this]
  simp
/-- a loop's turn as one step -/
theorem loop_turns {α : Type} {tgt : D → En → Option En} {body : En → Option Out} (enc : α → D) (Rl : List α → En → Prop) (xs : List α) (env : En) (h0 : Rl [] env)
    (hs : ∀ (pre : List α) (x : α) (post : List α) (env : En), xs = pre ++ x :: post → Rl pre env → ∃ env', (tgt (enc x) env).bind body = some (.nx env') ∧ Rl (pre ++ [x]) env') :
    ∃ env', loopS tgt body (xs.map enc) env = some (.nx env') ∧ Rl xs env' :=
  loop_all enc Rl xs env h0 fun pre x post env e r => by
    obtain ⟨env', h1, h2⟩ := hs pre x post env e r
    obtain ⟨e1, g1, h1⟩ := Option.bind_eq_some_iff.mp h1
    exact ⟨e1, env', g1, h1, h2⟩
theorem loop_rangeT {tgt : D → En → Option En} {body : En → Option Out} (Rl : Nat → En → Prop) (lo : Int) (n : Nat) (env : En) (h0 : Rl 0 env)
    (hs : ∀ (i : Nat) (env : En), i < n → Rl i env → ∃ env', (tgt (.int (lo + (i : Nat))) env).bind body = some (.nx env') ∧ Rl (i + 1) env') :
    ∃ env', loopS tgt body (upTo lo n) env = some (.nx env') ∧ Rl n env' :=
  loop_range Rl lo n env h0 fun i env hi r => by
    obtain ⟨env', h1, h2⟩ := hs i env hi r
    obtain ⟨e1, g1, h1⟩ := Option.bind_eq_some_iff.mp h1
    exact ⟨e1, env', g1, h1, h2⟩
end Vm

set_option Elab.async false
set_option linter.all false
/-! Numbers of ways by falling products: plain Lean. -/
namespace Ar
def ff (x : Int) : Nat → Int
  | 0 => 1
  | k + 1 => ff x k * (x - k)
def ev (x : Int) : List Int → Int
  | [] => 0
  | c :: cs => c * ff x cs.length + ev x cs
def wn (b : Int) : Int → Nat → List Int → List Int
  | prev, _, [] => [prev]
  | prev, k, c :: cs => (c + prev) :: wn b (c * (b - k)) (k + 1) cs
theorem wn_length (b : Int) : ∀ (prev : Int) (k : Nat) (cs : List Int), (wn b prev k cs).length = cs.length + 1
  | _, _, [] => rfl
  | prev, k, c :: cs => by
    show (wn b (c * (b - k)) (k + 1) cs).length + 1 = _
    rw [wn_length b _ _ cs]
    rfl
theorem ev_wn (b x : Int) : ∀ (cs : List Int) (prev : Int) (k : Nat), ev x (wn b prev k cs) = prev * ff x cs.length + (x + b - k - ((cs.length : Int) - 1)) * ev x cs
  | [], prev, k => by simp [wn, ev, ff]
  | c :: cs, prev, k => by
    show (c + prev) * ff x (wn b (c * (b - k)) (k + 1) cs).length + ev x (wn b (c * (b - k)) (k + 1) cs) = _
    rw [wn_length, ev_wn b x cs _ (k + 1)]
    simp only [List.length_cons, ev, ff]
    have : ((k + 1 : Nat) : Int) = k + 1 := by omega
    have : ((cs.length + 1 : Nat) : Int) = cs.length + 1 := by omega
    grind
def nx (b : Int) (cs : List Int) : List Int := wn b 0 0 cs
theorem nx_length (b : Int) (cs : List Int) : (nx b cs).length = cs.length + 1 := wn_length b 0 0 cs
theorem ev_nx (b x : Int) (cs : List Int) : ev x (nx b cs) = (x + b - ((cs.length : Int) - 1)) * ev x cs := by
  unfold nx
  rw [ev_wn]
  grind
theorem ff_zero : ∀ (n k : Nat), k < n → ff (k : Int) n = 0
  | 0, k, h => absurd h (Nat.not_lt_zero k)
  | n + 1, k, h => by
    show ff k n * (k - n) = 0
    by_cases e : k = n
    · subst e; simp
    · rw [ff_zero n k (by omega)]; simp
theorem ff_pos : ∀ (n k : Nat), n ≤ k → 0 < ff (k : Int) n
  | 0, k, _ => Int.zero_lt_one
  | n + 1, k, h => by
    show 0 < ff k n * (k - n)
    exact Int.mul_pos (ff_pos n k (by omega)) (by omega)
/-- equal values, equal lists -/
theorem ev_unique : ∀ (cs ds : List Int), cs.length = ds.length → (∀ k : Nat, k < cs.length → ev (k : Int) cs = ev k ds) → cs = ds
  | [], [], _, _ => rfl
  | [], _ :: _, h, _ => by cases h
  | _ :: _, [], h, _ => by cases h
  | c :: cs, d :: ds, hl, h => by
    have hl' : cs.length = ds.length := by simpa using hl
    have e : cs = ds := ev_unique cs ds hl' fun k hk => by
      have := h k (by simp; omega)
      simp only [ev] at this
      rw [ff_zero _ _ hk, ← hl', ff_zero _ _ hk] at this
      simpa using this
    subst e
    have := h cs.length (by simp)
    simp only [ev] at this
    have p := ff_pos cs.length cs.length (Nat.le_refl _)
    have e2 : c * ff (cs.length : Int) cs.length = d * ff (cs.length : Int) cs.length := by omega
    rw [Int.eq_of_mul_eq_mul_right (by omega) e2]

/-- the counts along ascending levels -/
def along (ns : List Int) : List Int := ns.foldl (fun cs b => nx b cs) [1]
def prodS (x : Int) : Nat → List Int → Int
  | _, [] => 1
  | k, b :: bs => (x + b - k) * prodS x (k + 1) bs
theorem foldl_length : ∀ (ns cs : List Int), (ns.foldl (fun cs b => nx b cs) cs).length = cs.length + ns.length
  | [], _ => rfl
  | b :: ns, cs => by
    rw [List.foldl_cons, foldl_length ns, nx_length, List.length_cons]
    omega
theorem along_length (ns : List Int) : (along ns).length = ns.length + 1 := by
  unfold along
  rw [foldl_length]
  simp
  omega
theorem ev_foldl (x : Int) : ∀ (ns cs : List Int), 1 ≤ cs.length → ev x (ns.foldl (fun cs b => nx b cs) cs) = prodS x (cs.length - 1) ns * ev x cs
  | [], cs, _ => by simp [prodS]
  | b :: ns, cs, h => by
    rw [List.foldl_cons, ev_foldl x ns (nx b cs) (by rw [nx_length]; omega), ev_nx, nx_length]
    simp only [prodS]
    have e : cs.length + 1 - 1 = cs.length - 1 + 1 := by omega
    have e2 : ((cs.length - 1 : Nat) : Int) = (cs.length : Int) - 1 := by omega
    rw [e, e2]
    grind
/-- R1 -/
theorem ev_along (x : Int) (ns : List Int) : ev x (along ns) = prodS x 0 ns := by
  unfold along
  rw [ev_foldl x ns [1] (by simp)]
  simp [ev, ff]

/-! ### the team that is left of m -/
def sgn : Nat → Int
  | 0 => 1
  | n + 1 => - sgn n
theorem ff_neg : ∀ (n : Nat) (y : Int), ff y n = sgn n * ff ((n : Int) - 1 - y) n := by
  -- the product from the other end
  have rev : ∀ (n : Nat) (z : Int), ff z (n + 1) = z * ff (z - 1) n := by
    intro n
    induction n with
    | zero => intro z; simp [ff]
    | succ n ih =>
      intro z
      show ff z (n + 1) * (z - (n + 1 : Nat)) = z * (ff (z - 1) n * (z - 1 - n))
      rw [ih]
      have : ((n + 1 : Nat) : Int) = n + 1 := by omega
      rw [this]
      grind
  intro n
  induction n with
  | zero => intro y; simp [ff, sgn]
  | succ n ih =>
    intro y
    rw [rev n (((n + 1 : Nat) : Int) - 1 - y)]
    show ff y n * (y - n) = - sgn n * _
    rw [ih y]
    have e : ((n + 1 : Nat) : Int) - 1 - y - 1 = (n : Int) - 1 - y := by omega
    have e2 : ((n + 1 : Nat) : Int) - 1 - y = n - y := by omega
    rw [e, e2]
    grind
/-- equal levels -/
def Vq (m : Int) : Nat → List Int
  | 0 => [1]
  | n + 1 => nx m (Vq m n)
theorem Vq_length (m : Int) : ∀ n, (Vq m n).length = n + 1
  | 0 => rfl
  | n + 1 => by
    show (nx m (Vq m n)).length = _
    rw [nx_length, Vq_length m n]
theorem ev_Vq (m x : Int) : ∀ n : Nat, ev x (Vq m n) = ff (x + m) n
  | 0 => by simp [Vq, ev, ff]
  | n + 1 => by
    show ev x (nx m (Vq m n)) = ff (x + m) n * (x + m - n)
    rw [ev_nx, ev_Vq m x n, Vq_length]
    have : ((n + 1 : Nat) : Int) - 1 = n := by omega
    rw [this]
    grind
def zadd : List Int → List Int → List Int
  | a :: as, b :: bs => (a + b) :: zadd as bs
  | _, _ => []
theorem zadd_length : ∀ (as bs : List Int), as.length = bs.length → (zadd as bs).length = as.length
  | [], [], _ => rfl
  | [], _ :: _, h => by cases h
  | _ :: _, [], h => by cases h
  | a :: as, b :: bs, h => by
    show (zadd as bs).length + 1 = _
    rw [zadd_length as bs (by simpa using h)]
    rfl
theorem ev_zadd (x : Int) : ∀ (as bs : List Int), as.length = bs.length → ev x (zadd as bs) = ev x as + ev x bs
  | [], [], _ => rfl
  | [], _ :: _, h => by cases h
  | _ :: _, [], h => by cases h
  | a :: as, b :: bs, h => by
    have h' : as.length = bs.length := by simpa using h
    show (a + b) * ff x (zadd as bs).length + ev x (zadd as bs) = (a * ff x as.length + ev x as) + (b * ff x bs.length + ev x bs)
    rw [zadd_length as bs h', ev_zadd x as bs h', h']
    grind
def scl (c : Int) (as : List Int) : List Int := as.map fun a => c * a
theorem ev_scl (c x : Int) : ∀ as : List Int, ev x (scl c as) = c * ev x as
  | [] => by simp [scl, ev]
  | a :: as => by
    have ih := ev_scl c x as
    unfold scl at ih ⊢
    simp only [List.map_cons, ev, List.length_map, ih]
    grind
def due (m : Int) : List Int → List Int
  | [] => []
  | c :: cs => zadd (scl c (Vq m cs.length)) (0 :: scl (-1) (due (m - 1) cs))
theorem due_length : ∀ (cs : List Int) (m : Int), (due m cs).length = cs.length
  | [], _ => rfl
  | c :: cs, m => by
    show (zadd _ _).length = _
    have h1 : (scl c (Vq m cs.length)).length = cs.length + 1 := by unfold scl; rw [List.length_map, Vq_length]
    have h2 : (0 :: scl (-1) (due (m - 1) cs)).length = cs.length + 1 := by
      unfold scl
      rw [List.length_cons, List.length_map, due_length cs]
    rw [zadd_length _ _ (by rw [h1, h2]), h1]
    rfl
theorem ev_due : ∀ (cs : List Int) (m x : Int), cs ≠ [] → ev x (due m cs) = sgn (cs.length - 1) * ev ((cs.length : Int) - 2 - m - x) cs
  | [], _, _, h => absurd rfl h
  | c :: cs, m, x, _ => by
    have h1 : (scl c (Vq m cs.length)).length = cs.length + 1 := by unfold scl; rw [List.length_map, Vq_length]
    have h2 : (0 :: scl (-1) (due (m - 1) cs)).length = cs.length + 1 := by
      unfold scl
      rw [List.length_cons, List.length_map, due_length cs]
    show ev x (zadd (scl c (Vq m cs.length)) (0 :: scl (-1) (due (m - 1) cs))) = _
    rw [ev_zadd x _ _ (by rw [h1, h2]), ev_scl, ev_Vq]
    simp only [ev, ev_scl, List.length_cons, Nat.add_sub_cancel]
    have e : ((cs.length + 1 : Nat) : Int) - 2 - m - x = (cs.length : Int) - 1 - (m + x) := by omega
    rw [e, ff_neg cs.length ((cs.length : Int) - 1 - (m + x))]
    have e3 : (cs.length : Int) - 1 - ((cs.length : Int) - 1 - (m + x)) = x + m := by omega
    rw [e3]
    have sq : ∀ n, sgn n * sgn n = 1 := by
      intro n
      induction n with
      | zero => rfl
      | succ n ih =>
        show (- sgn n) * (- sgn n) = 1
        grind
    have s1 := sq cs.length
    cases cs with
    | nil => simp [ev, due, sgn, ff]
    | cons d ds =>
      rw [ev_due (d :: ds) (m - 1) x (by simp)]
      have e4 : (((d :: ds).length : Nat) : Int) - 2 - (m - 1) - x = (((d :: ds).length : Nat) : Int) - 1 - (m + x) := by omega
      rw [e4]
      show _ + (0 * _ + -1 * (sgn ds.length * _)) = (sgn ds.length.succ) * _
      have : sgn ds.length.succ = - sgn ds.length := rfl
      simp only [List.length_cons] at s1 ⊢
      have s2 : sgn (ds.length + 1) = - sgn ds.length := rfl
      grind
/-- the spare numbers of the team that is left -/
theorem prodS_app (x : Int) : ∀ (as bs : List Int) (k : Nat), prodS x k (as ++ bs) = prodS x k as * prodS x (k + as.length) bs
  | [], bs, k => by simp [prodS]
  | a :: as, bs, k => by
    simp only [List.cons_append, prodS, prodS_app x as bs, List.length_cons]
    rw [show k + 1 + as.length = k + (as.length + 1) by omega]
    grind
theorem prodS_left (m x : Int) : ∀ (bs : List Int) (k j : Nat), prodS x j (bs.map fun b => m - b).reverse = sgn bs.length * prodS ((k : Int) + j + (bs.length : Int) - 1 - m - x) k bs
  | [], k, j => by simp [prodS, sgn]
  | b :: bs, k, j => by
    rw [List.map_cons, List.reverse_cons, prodS_app, prodS_left m x bs (k + 1) j]
    simp only [prodS, List.length_reverse, List.length_map, List.length_cons]
    have e1 : ((k + 1 : Nat) : Int) + j + (bs.length : Int) - 1 - m - x = (k : Int) + j + ((bs.length + 1 : Nat) : Int) - 1 - m - x := by omega
    rw [e1]
    have e2 : ((j + bs.length : Nat) : Int) = j + bs.length := by omega
    have e3 : ((bs.length + 1 : Nat) : Int) = bs.length + 1 := by omega
    rw [e2, e3]
    show _ = - sgn bs.length * _
    grind
theorem due_along (m : Int) (bs : List Int) : due m (along bs) = along (bs.map fun b => m - b).reverse := by
  have ne : along bs ≠ [] := fun e => by
    have := along_length bs
    rw [e] at this
    simp at this
  have hl : (due m (along bs)).length = (along (bs.map fun b => m - b).reverse).length := by
    rw [due_length, along_length, along_length]
    simp
  refine ev_unique _ _ hl fun k _ => ?_
  rw [ev_due _ _ _ ne, ev_along, ev_along, prodS_left m k bs 0 0, along_length]
  have e : ((bs.length + 1 : Nat) : Int) - 2 - m - k = ((0 : Nat) : Int) + ((0 : Nat) : Int) + (bs.length : Int) - 1 - m - k := by omega
  rw [e]
  rfl
end Ar

set_option Elab.async false
set_option linter.all false
namespace Ar
/-- numbers of choices -/
def ch : Nat → Nat → Int
  | _, 0 => 1
  | 0, _ + 1 => 0
  | n + 1, k + 1 => ch n k + ch n (k + 1)
theorem ch_step : ∀ (n k : Nat), ch n (k + 1) * ((k : Int) + 1) = ch n k * ((n : Int) - k)
  | 0, 0 => by simp [ch]
  | 0, k + 1 => by simp [ch]
  | n + 1, 0 => by
    have := ch_step n 0
    show (ch n 0 + ch n 1) * _ = _
    simp [ch] at this ⊢
    omega
  | n + 1, k + 1 => by
    have h1 := ch_step n k
    have h2 := ch_step n (k + 1)
    show (ch n (k + 1) + ch n (k + 1 + 1)) * _ = (ch n k + ch n (k + 1)) * _
    have e1 : ((k + 1 : Nat) : Int) = k + 1 := by omega
    have e2 : ((n + 1 : Nat) : Int) = n + 1 := by omega
    rw [e1, e2] at *
    grind
theorem ch_nonneg : ∀ (n k : Nat), 0 ≤ ch n k
  | _, 0 => by simp [ch]
  | 0, k + 1 => by simp [ch]
  | n + 1, k + 1 => by
    have := ch_nonneg n k
    have := ch_nonneg n (k + 1)
    show 0 ≤ ch n k + ch n (k + 1)
    omega
theorem ch_le : ∀ (n k : Nat), ch n k ≤ 2 ^ n
  | n, 0 => by
    have : (0 : Int) < 2 ^ n := Int.pow_pos (by decide)
    simp only [ch]
    omega
  | 0, k + 1 => by simp [ch]
  | n + 1, k + 1 => by
    have := ch_le n k
    have := ch_le n (k + 1)
    show ch n k + ch n (k + 1) ≤ 2 ^ (n + 1)
    rw [Int.pow_succ]
    omega
theorem ch_zero : ∀ (n k : Nat), n < k → ch n k = 0
  | 0, k + 1, _ => rfl
  | n + 1, k + 1, h => by
    show ch n k + ch n (k + 1) = 0
    rw [ch_zero n k (by omega), ch_zero n (k + 1) (by omega)]
    rfl
/-- what stands at each place behind one more level -/
theorem wn_get (b : Int) : ∀ (cs : List Int) (prev : Int) (k i : Nat), i ≤ cs.length → (wn b prev k cs)[i]? = some ((if i < cs.length then cs.getD i 0 else 0) + (match i with | 0 => prev | j + 1 => cs.getD j 0 * (b - ((k + j : Nat) : Int))))
  | [], prev, k, i, h => by
    have : i = 0 := by simpa using h
    subst this
    simp [wn]
  | c :: cs, prev, k, 0, h => by simp [wn]
  | c :: cs, prev, k, i + 1, h => by
    have ih := wn_get b cs (c * (b - k)) (k + 1) i (by simpa using h)
    show (wn b (c * (b - k)) (k + 1) cs)[i]? = _
    rw [ih]
    congr 1
    cases i with
    | zero => simp
    | succ j =>
      simp only [List.length_cons, List.getD_cons_succ, Nat.add_lt_add_iff_right]
      have : ((k + 1 + j : Nat) : Int) = ((k + (j + 1) : Nat) : Int) := by omega
      rw [this]
theorem Vq_get (m : Int) : ∀ (n i : Nat), i ≤ n → (Vq m n)[i]? = some (ch n i * ff m i)
  | 0, i, h => by
    have : i = 0 := by omega
    subst this
    simp [Vq, ch, ff]
  | n + 1, i, h => by
    show (nx m (Vq m n))[i]? = _
    unfold nx
    rw [wn_get m (Vq m n) 0 0 i (by rw [Vq_length]; exact h), Vq_length]
    have gd : ∀ j, j ≤ n → (Vq m n).getD j 0 = ch n j * ff m j := fun j hj => by
      rw [List.getD_eq_getElem?_getD, Vq_get m n j hj]
      rfl
    congr 1
    cases i with
    | zero =>
      have := gd 0 (by omega)
      show (if 0 < n + 1 then (Vq m n).getD 0 0 else 0) + 0 = ch (n + 1) 0 * ff m 0
      rw [if_pos (by omega), this]
      simp [ch, ff]
    | succ j =>
      simp only [gd j (by omega), Nat.zero_add]
      show _ = (ch n j + ch n (j + 1)) * (ff m j * (m - j))
      by_cases hj : j + 1 < n + 1
      · rw [if_pos hj, gd (j + 1) (by omega)]
        show ch n (j + 1) * (ff m j * (m - j)) + _ = _
        grind
      · rw [if_neg hj, ch_zero n (j + 1) (by omega)]
        grind
def dsum : List Int → Int → Nat → Int
  | [], _, _ => 0
  | c :: cs, m, 0 => c * (ch cs.length 0 * ff m 0)
  | c :: cs, m, k + 1 => c * (ch cs.length (k + 1) * ff m (k + 1)) - dsum cs (m - 1) k
theorem zadd_get : ∀ (as bs : List Int) (i : Nat) (x y : Int), as[i]? = some x → bs[i]? = some y → (zadd as bs)[i]? = some (x + y)
  | [], _, i, x, y, h, _ => by simp at h
  | _ :: _, [], i, x, y, _, h => by simp at h
  | a :: as, b :: bs, 0, x, y, h1, h2 => by
    simp at h1 h2
    subst h1 h2
    rfl
  | a :: as, b :: bs, i + 1, x, y, h1, h2 => zadd_get as bs i x y (by simpa using h1) (by simpa using h2)
theorem due_get : ∀ (cs : List Int) (m : Int) (k : Nat), k < cs.length → (due m cs)[k]? = some (dsum cs m k)
  | [], _, _, h => by simp at h
  | c :: cs, m, k, h => by
    have h1 : (scl c (Vq m cs.length))[k]? = some (c * (ch cs.length k * ff m k)) := by
      unfold scl
      rw [List.getElem?_map, Vq_get m cs.length k (by simpa using Nat.le_of_lt_succ h)]
      rfl
    cases k with
    | zero =>
      have := zadd_get (scl c (Vq m cs.length)) (0 :: scl (-1) (due (m - 1) cs)) 0 _ 0 h1 rfl
      show (zadd _ _)[0]? = _
      rw [this]
      simp [dsum]
    | succ k =>
      have h2 : (0 :: scl (-1) (due (m - 1) cs))[k + 1]? = some (-1 * dsum cs (m - 1) k) := by
        unfold scl
        rw [List.getElem?_cons_succ, List.getElem?_map, due_get cs (m - 1) k (by simpa using h)]
        rfl
      have := zadd_get _ _ (k + 1) _ _ h1 h2
      show (zadd _ _)[k + 1]? = _
      rw [this]
      simp only [dsum]
      congr 1
      omega
def tsum (f : Nat → Int) : Nat → Int
  | 0 => 0
  | n + 1 => tsum f n + f n
theorem tsum_first (f : Nat → Int) : ∀ n : Nat, tsum f (n + 1) = f 0 + tsum (fun j => f (j + 1)) n
  | 0 => by simp [tsum]
  | n + 1 => by
    show tsum f (n + 1) + f (n + 1) = f 0 + (tsum (fun j => f (j + 1)) n + f (n + 1))
    rw [tsum_first f n]
    omega
theorem tsum_congr {f g : Nat → Int} : ∀ n : Nat, (∀ j, j < n → f j = g j) → tsum f n = tsum g n
  | 0, _ => rfl
  | n + 1, h => by
    show tsum f n + f n = tsum g n + g n
    rw [tsum_congr n fun j hj => h j (by omega), h n (by omega)]
theorem tsum_neg (f : Nat → Int) : ∀ n : Nat, tsum (fun j => - f j) n = - tsum f n
  | 0 => rfl
  | n + 1 => by
    show tsum (fun j => - f j) n + - f n = -(tsum f n + f n)
    rw [tsum_neg f n]
    omega
def sg (j : Nat) : Int := if j % 2 = 0 then 1 else -1
theorem sg_succ (j : Nat) : sg (j + 1) = - sg j := by
  unfold sg
  by_cases h : j % 2 = 0
  · rw [if_pos h, if_neg (by omega)]
  · rw [if_neg h, if_pos (by omega)]
    rfl
def term (cs : List Int) (m : Int) (k j : Nat) : Int := cs.getD j 0 * ch (cs.length - 1 - j) (k - j) * ff (m - j) (k - j) * sg j
theorem term_sum : ∀ (cs : List Int) (m : Int) (k : Nat), k < cs.length → tsum (term cs m k) (k + 1) = dsum cs m k
  | [], _, _, h => by simp at h
  | c :: cs, m, k, h => by
    rw [tsum_first]
    have h0 : term (c :: cs) m k 0 = c * (ch cs.length k * ff m k) := by
      unfold term sg
      simp
      grind
    rw [h0]
    cases k with
    | zero => simp [tsum, dsum]
    | succ k =>
      have e : tsum (fun j => term (c :: cs) m (k + 1) (j + 1)) (k + 1) = tsum (fun j => - term cs (m - 1) k j) (k + 1) := tsum_congr _ fun j hj => by
        unfold term
        rw [sg_succ]
        simp only [List.getD_cons_succ, List.length_cons]
        have e1 : cs.length + 1 - 1 - (j + 1) = cs.length - 1 - j := by omega
        have e2 : k + 1 - (j + 1) = k - j := by omega
        have e3 : m - ((j + 1 : Nat) : Int) = m - 1 - j := by omega
        rw [e1, e2, e3]
        grind
      rw [e, tsum_neg, term_sum cs (m - 1) k (by simpa using h)]
      simp only [dsum]
      omega
/-! ### sizes -/
def Bd (M : Nat) (cs : List Int) : Prop := ∀ c ∈ cs, c.natAbs ≤ M
theorem mul_natAbs_le {a b : Int} {p q : Nat} (h1 : a.natAbs ≤ p) (h2 : b.natAbs ≤ q) : (a * b).natAbs ≤ p * q := by
  rw [Int.natAbs_mul]
  exact Nat.mul_le_mul h1 h2
theorem wn_bd {b : Int} {M q : Nat} : ∀ (cs : List Int) (prev : Int) (k : Nat), Bd M cs → prev.natAbs ≤ M * q → (∀ j : Nat, k ≤ j → j < k + cs.length → (b - j).natAbs ≤ q) → Bd (M * (q + 1)) (wn b prev k cs)
  | [], prev, k, _, hp, _ => by
    intro c hc
    have : c = prev := by simpa [wn] using hc
    subst this
    exact Nat.le_trans hp (Nat.mul_le_mul_left _ (by omega))
  | c :: cs, prev, k, hc, hp, hb => by
    intro d hd
    have h0 := hc c (by simp)
    rcases List.mem_cons.mp hd with rfl | hd
    · have := Int.natAbs_add_le c prev
      rw [Nat.mul_add, Nat.mul_one]
      omega
    · refine wn_bd cs (c * (b - k)) (k + 1) (fun e he => hc e (by simp [he])) ?_ (fun j h1 h2 => hb j (by omega) (by simp; omega)) d hd
      exact mul_natAbs_le h0 (hb k (by omega) (by simp))
theorem foldl_bd {q : Nat} : ∀ (ns cs : List Int) (M : Nat), Bd M cs → (∀ b ∈ ns, ∀ j : Nat, j < cs.length + ns.length → (b - j).natAbs ≤ q) → Bd (M * (q + 1) ^ ns.length) (ns.foldl (fun cs b => nx b cs) cs)
  | [], cs, M, h, _ => by simpa using h
  | b :: ns, cs, M, h, hb => by
    rw [List.foldl_cons, List.length_cons, Nat.pow_succ]
    have h1 : Bd (M * (q + 1)) (nx b cs) := wn_bd cs 0 0 h (by simp) fun j _ h2 => hb b (by simp) j (by simp; omega)
    have := foldl_bd ns (nx b cs) (M * (q + 1)) h1 fun d hd j hj => hb d (by simp [hd]) j (by rw [nx_length] at hj; simp; omega)
    rw [show M * ((q + 1) ^ ns.length * (q + 1)) = M * (q + 1) * (q + 1) ^ ns.length by rw [Nat.mul_comm ((q + 1) ^ ns.length), Nat.mul_assoc]]
    exact this
theorem along_bd {q : Nat} {ns : List Int} (hb : ∀ b ∈ ns, ∀ j : Nat, j < 1 + ns.length → (b - j).natAbs ≤ q) : Bd ((q + 1) ^ ns.length) (along ns) := by
  have := foldl_bd ns [1] 1 (by intro c hc; have : c = 1 := by simpa using hc
                                subst this; decide) (by simpa using hb)
  unfold along
  simpa using this
theorem ff_bd {q : Nat} {x : Int} : ∀ n : Nat, (∀ j : Nat, j < n → (x - j).natAbs ≤ q) → (ff x n).natAbs ≤ q ^ n
  | 0, _ => by simp [ff]
  | n + 1, h => by
    rw [Nat.pow_succ]
    exact mul_natAbs_le (ff_bd n fun j hj => h j (by omega)) (h n (by omega))
end Ar

set_option Elab.async false
set_option linter.all false
set_option maxRecDepth 100000
namespace Tk23
open PySem PySem.Spec PyProof.Rows L2 Evl Vm
def topS (i : Nat) : Stmt := PySem.Challenge.pw_nestboards_k23_whole_others.main.body.getD i (.Pass ⟨0, 0, 0, 0⟩)
section
variable {P : Program} {w : World} {K : PySem.W.Frag} {mg : Str → Option Value} {base : Heap}
abbrev s_is_whole : Stmt := topS 8
abbrev N_is_whole : List Str := ["thing"]
theorem sc_is_whole : FnScope N_is_whole ["thing"] (defScope s_is_whole) := ⟨rfl, rfl, rfl, by decide +kernel, rfl, by decide +kernel, by decide +kernel⟩
def F_is_whole : En → Option Out := (sRet (eAnd (eCB bIsi (aCons (eVar 0) (aCons (eC (.ty "int")) aNil))) (eNot (eCB bIsi (aCons (eVar 0) (aCons (eC (.ty "bool")) aNil))))))
def m_is_whole : En → Option Res := bodyM [] 1 0 F_is_whole
theorem ok_is_whole {f : Addr} {fd : FuncData} (F : Fun K "is_whole" "is_whole" s_is_whole f fd) (m_int : mg "int" = none) (m_isinstance : mg "isinstance" = none) (m_bool : mg "bool" = none) : FnOk P w K mg base CX0 1 f fd ["thing"] (SpM K 1 m_is_whole) := by
  have sc := sc_is_whole
  refine F.ok sc_is_whole (fun vs H Q E h => h.1) (fun cdv A outer s H vs Q E hr h => ⟨_, (pss_one (ps_ret (pe_and (pe_callB call_isi (by rfl) m_isinstance (by decide +kernel) (pa_cons (pv 0) (pa_cons (pe_bltn (v := .ty "int") (by rfl) m_int (by decide +kernel) rfl) pa_nil))) (pe_one (pe_not (pe_callB call_isi (by rfl) m_isinstance (by decide +kernel) (pa_cons (pv 0) (pa_cons (pe_bltn (v := .ty "bool") (by rfl) m_bool (by decide +kernel) rfl) pa_nil)))))))), ?_⟩)
  exact body_ok (N := N_is_whole) (n := 1) (k := 0) (fix := []) (F := F_is_whole) rfl (by decide) (ss_ret (se_and (se_cb rc_isi (sa_cons se_var (sa_cons se_ty sa_nil))) (se_not (se_cb rc_isi (sa_cons se_var (sa_cons se_ty sa_nil)))))) h

abbrev s_is_within : Stmt := topS 9
abbrev N_is_within : List Str := ["thing", "least", "greatest"]
theorem sc_is_within : FnScope N_is_within ["thing", "least", "greatest"] (defScope s_is_within) := ⟨rfl, rfl, rfl, by decide +kernel, rfl, by decide +kernel, by decide +kernel⟩
def F_is_within : En → Option Out := (sRet (eAnd (eCall 1 m_is_whole (aCons (eVar 0) aNil)) (eChain dLe dLe (eVar 1) (eVar 0) (eVar 2))))
def m_is_within : En → Option Res := bodyM [] 3 0 F_is_within
theorem ok_is_within {f : Addr} {fd : FuncData} (F : Fun K "is_within" "is_within" s_is_within f fd) (d_is_whole : DefOk P w K mg base "is_whole" ["thing"] 1 m_is_whole) : FnOk P w K mg base CX0 2 f fd ["thing", "least", "greatest"] (SpM K 3 m_is_within) := by
  have sc := sc_is_within
  refine F.ok sc_is_within (fun vs H Q E h => h.1) (fun cdv A outer s H vs Q E hr h => ⟨_, (pss_one (ps_ret (pe_and (pe_def (by exact d_is_whole) (by rfl) (by exact hr) (by decide) (by rfl) (pa_cons (pv 0) pa_nil) (by decide) (by rfl) (by rfl)) (pe_one (pe_chain op_le op_le (pv 1) (pv 0) (pv 2)))))), ?_⟩)
  exact body_ok (N := N_is_within) (n := 3) (k := 0) (fix := []) (F := F_is_within) rfl (by decide) (ss_ret (se_and (se_call (n := 1) (m := m_is_whole) (sa_cons se_var sa_nil)) (se_chain ros_le ros_le se_var se_var se_var))) h

abbrev s_check_worker : Stmt := topS 10
abbrev N_check_worker : List Str := ["team", "worker"]
theorem sc_check_worker : FnScope N_check_worker ["team", "worker"] (defScope s_check_worker) := ⟨rfl, rfl, rfl, by decide +kernel, rfl, by decide +kernel, by decide +kernel⟩
def F_check_worker : En → Option Out := (sIf (bNot (bTest (eCall 3 m_is_within (aCons (eVar 1) (aCons (eC (.int 0)) (aCons (eOp dSub (eCB bLen (aCons (eVar 0) aNil)) (eC (.int 1))) aNil))))))
    sNever
    sNext)
def m_check_worker : En → Option Res := bodyM [] 2 0 F_check_worker
theorem ok_check_worker {f : Addr} {fd : FuncData} (F : Fun K "check_worker" "check_worker" s_check_worker f fd) (m_len : mg "len" = none) (d_is_within : DefOk P w K mg base "is_within" ["thing", "least", "greatest"] 2 m_is_within) : FnOk P w K mg base CX0 3 f fd ["team", "worker"] (SpM K 2 m_check_worker) := by
  have sc := sc_check_worker
  refine F.ok sc_check_worker (fun vs H Q E h => h.1) (fun cdv A outer s H vs Q E hr h => ⟨_, (pss_one (ps_if (pt_not (pt_val (pe_def (by exact d_is_within) (by rfl) (by exact hr) (by decide) (by rfl) (pa_cons (pv 1) (pa_cons pe_int (pa_cons (pe_op op_sub (pe_callB call_len_seq (by rfl) m_len PySem.boot_len (pa_cons (pv 0) pa_nil)) pe_int) pa_nil))) (by decide) (by rfl) (by rfl)))) (pss_one ps_never) pss_nil)), ?_⟩)
  exact body_ok (N := N_check_worker) (n := 2) (k := 0) (fix := []) (F := F_check_worker) rfl (by decide) (ss_if (st_not (st_B (se_call (n := 3) (m := m_is_within) (sa_cons se_var (sa_cons se_int (sa_cons (se_op ro_sub (se_cb rc_len (sa_cons se_var sa_nil)) se_int) sa_nil)))))) ss_never ss_next) h

abbrev s_check_job : Stmt := topS 11
abbrev N_check_job : List Str := ["job"]
theorem sc_check_job : FnScope N_check_job ["job"] (defScope s_check_job) := ⟨rfl, rfl, rfl, by decide +kernel, rfl, by decide +kernel, by decide +kernel⟩
def F_check_job : En → Option Out := (sIf (bNot (bTest (eCall 3 m_is_within (aCons (eVar 0) (aCons (eC (.int 0)) (aCons (eC (.int 59)) aNil))))))
    sNever
    sNext)
def m_check_job : En → Option Res := bodyM [] 1 0 F_check_job
theorem ok_check_job {f : Addr} {fd : FuncData} {tk_GREATEST_JOB : Tok} (F : Fun K "check_job" "check_job" s_check_job f fd) (c_GREATEST_JOB : mg "GREATEST_JOB" = some (.int 59 tk_GREATEST_JOB)) (d_is_within : DefOk P w K mg base "is_within" ["thing", "least", "greatest"] 2 m_is_within) : FnOk P w K mg base CX0 3 f fd ["job"] (SpM K 1 m_check_job) := by
  have sc := sc_check_job
  refine F.ok sc_check_job (fun vs H Q E h => h.1) (fun cdv A outer s H vs Q E hr h => ⟨_, (pss_one (ps_if (pt_not (pt_val (pe_def (by exact d_is_within) (by rfl) (by exact hr) (by decide) (by rfl) (pa_cons (pv 0) (pa_cons pe_int (pa_cons (pe_glob (v := .int 59) (by rfl) c_GREATEST_JOB ⟨_, rfl⟩) pa_nil))) (by decide) (by rfl) (by rfl)))) (pss_one ps_never) pss_nil)), ?_⟩)
  exact body_ok (N := N_check_job) (n := 1) (k := 0) (fix := []) (F := F_check_job) rfl (by decide) (ss_if (st_not (st_B (se_call (n := 3) (m := m_is_within) (sa_cons se_var (sa_cons se_int (sa_cons se_int sa_nil)))))) ss_never ss_next) h

abbrev s_spares_of : Stmt := topS 19
abbrev N_spares_of : List Str := ["levels", "place", "level"]
theorem sc_spares_of : FnScope N_spares_of ["levels"] (defScope s_spares_of) := ⟨rfl, rfl, rfl, by decide +kernel, rfl, by decide +kernel, by decide +kernel⟩
def F_spares_of : En → Option Out := (sRet (eLc [1, 2] (iEnumF (aCons (eCBL bSorted (aCons (eVar 0) aNil)) aNil)) (tgTup 2 (tgCons (tgName 1) (tgCons (tgName 2) tgNil))) bYes (eOp dSub (eVar 2) (eVar 1))))
def m_spares_of : En → Option Res := bodyM [] 1 2 F_spares_of
theorem ok_spares_of {f : Addr} {fd : FuncData} (F : Fun K "spares_of" "spares_of" s_spares_of f fd) (m_sorted : mg "sorted" = none) (m_enumerate : mg "enumerate" = none) : FnOk P w K mg base CX0 1 f fd ["levels"] (SpM K 1 m_spares_of) := by
  have sc := sc_spares_of
  refine F.ok sc_spares_of (fun vs H Q E h => h.1) (fun cdv A outer s H vs Q E hr h => ⟨_, (pss_one (ps_ret (pe_lc (own := [("place", 1), ("level", 2)]) (g := (gTup K 2 (gCons (gName 1) (gCons (gName 2) gNil)))) (tt := tYes) (te := (tOp rSubI (tVar 2) (tVar 1))) rfl sc.nd (pi_enum (by rfl) m_enumerate (pa_cons (pe_callB cr_sortedI (by rfl) m_sorted (by decide +kernel) (pa_cons (pv 0) pa_nil)) pa_nil)) (blkOk_by (N := N_spares_of) (sc := defScope s_spares_of) (by decide +kernel)) (fun _ _ _ _ _ => by exact (pg_tup rfl (pgs_cons (pg_name (i := 1) sc.nd rfl (Or.inl rfl)) (pgs_cons (pg_name (i := 2) sc.nd rfl (Or.inl rfl)) pgs_nil)))) (fun _ _ _ _ _ => by exact pts_nil) (fun _ _ _ _ _ => by exact (pe_op op_sub (pv 2) (pv 1)))))), ?_⟩)
  exact body_ok (N := N_spares_of) (n := 1) (k := 2) (fix := []) (F := F_spares_of) rfl (by decide) (ss_ret (se_lc (si_enum (sa_cons (se_cbL rcl_sorted (sa_cons se_var sa_nil)) sa_nil)) (sg_tup (n := 2) (sgs_cons (sg_name (by decide)) (sgs_cons (sg_name (by decide)) sgs_nil))) (by decide) st_yes (se_op ro_sub se_var se_var))) h

abbrev s_is_team : Stmt := topS 16
abbrev N_is_team : List Str := ["thing", "level"]
theorem sc_is_team : FnScope N_is_team ["thing"] (defScope s_is_team) := ⟨rfl, rfl, rfl, by decide +kernel, rfl, by decide +kernel, by decide +kernel⟩
def F_is_team : En → Option Out := (sSeq (sIf (bOr (bNot (bTest (eCB bIsi (aCons (eVar 0) (aCons (eC (.ty "list")) aNil))))) (bNot (bTest (eChain dLe dLe (eC (.int 1)) (eCB bLen (aCons (eVar 0) aNil)) (eC (.int 20))))))
    (sRet (eC (.bl false)))
    sNext)
    (sSeq (sIf (bNot (bTest (eCB bAll (aCons (eLc [1] (iSeq (eVar 0)) (tgName 1) bYes (eAnd (eCall 1 m_is_whole (aCons (eVar 1) aNil)) (eOp dGe (eVar 1) (eC (.int 0))))) aNil))))
    (sRet (eC (.bl false)))
    sNext)
    (sRet (eOp dLe (eCB bMaxL (aCons (eCall 1 m_spares_of (aCons (eVar 0) aNil)) aNil)) (eC (.int 40))))))
def m_is_team : En → Option Res := bodyM [] 1 1 F_is_team
theorem ok_is_team {f : Addr} {fd : FuncData} {tk_MOST_WORKERS : Tok} {tk_GREATEST_SPARE : Tok} (F : Fun K "is_team" "is_team" s_is_team f fd) (m_list : mg "list" = none) (m_isinstance : mg "isinstance" = none) (m_len : mg "len" = none) (m_all : mg "all" = none) (m_max : mg "max" = none) (c_MOST_WORKERS : mg "MOST_WORKERS" = some (.int 20 tk_MOST_WORKERS)) (c_GREATEST_SPARE : mg "GREATEST_SPARE" = some (.int 40 tk_GREATEST_SPARE)) (d_is_whole : DefOk P w K mg base "is_whole" ["thing"] 1 m_is_whole) (d_spares_of : DefOk P w K mg base "spares_of" ["levels"] 1 m_spares_of) : FnOk P w K mg base CX0 2 f fd ["thing"] (SpM K 1 m_is_team) := by
  have sc := sc_is_team
  refine F.ok sc_is_team (fun vs H Q E h => h.1) (fun cdv A outer s H vs Q E hr h => ⟨_, (pss_cons (ps_if (PW.pt (pw_or (pt_not (pt_val (pe_callB call_isi (by rfl) m_isinstance (by decide +kernel) (pa_cons (pv 0) (pa_cons (pe_bltn (v := .ty "list") (by rfl) m_list (by decide +kernel) rfl) pa_nil))))) (pw_or1 (pt_not (pt_chain op_le op_le pe_int (pe_callB call_len_seq (by rfl) m_len PySem.boot_len (pa_cons (pv 0) pa_nil)) (pe_glob (v := .int 20) (by rfl) c_MOST_WORKERS ⟨_, rfl⟩)))))) (pss_one (ps_ret pe_bl)) pss_nil) (pss_cons (ps_if (pt_not (pt_val (pe_callB (cr_all rfl) (by rfl) m_all (by decide +kernel) (pa_cons (pe_lc (own := [("level", 1)]) (g := (gName 1)) (tt := tYes) (te := (tAndV (tCall (SpM K 1 m_is_whole) [] E0 (tCons (tVar 1) tNil)) (tOp rGeI (tVar 1) (tC (.int 0))))) rfl sc.nd (pi_list (pv 0)) (blkOk_by (N := N_is_team) (sc := defScope s_is_team) (by decide +kernel)) (fun _ _ _ _ _ => by exact (pg_name (i := 1) sc.nd rfl (Or.inl rfl))) (fun _ _ _ _ _ => by exact pts_nil) (fun _ _ _ _ _ => by exact (pe_and (pe_def (by exact d_is_whole) (by rfl) (by exact hr) (by decide) (by rfl) (pa_cons (pv 1) pa_nil) (by decide) (by rfl) (by rfl)) (pe_one (pe_cmpR op_ge (pv 1) pe_int (nomark _)))))) pa_nil)))) (pss_one (ps_ret pe_bl)) pss_nil) (pss_one (ps_ret (pe_cmpR op_le (pe_callB (cr_max rfl) (by rfl) m_max (by decide +kernel) (pa_cons (pe_def (by exact d_spares_of) (by rfl) (by exact hr) (by decide) (by rfl) (pa_cons (pv 0) pa_nil) (by decide) (by rfl) (by rfl)) pa_nil)) (pe_glob (v := .int 40) (by rfl) c_GREATEST_SPARE ⟨_, rfl⟩) (nomark _)))))), ?_⟩)
  exact body_ok (N := N_is_team) (n := 1) (k := 1) (fix := []) (F := F_is_team) rfl (by decide) (ss_seq (ss_if (st_or (st_not (st_B (se_cb rc_isi (sa_cons se_var (sa_cons se_ty sa_nil))))) (st_not (st_test (se_chain ros_le ros_le se_int (se_cb rc_len (sa_cons se_var sa_nil)) se_int)))) (ss_ret se_bl) ss_next) (ss_seq (ss_if (st_not (st_B (se_cb rc_all (sa_cons (se_lc (si_list se_var) (sg_name (by decide)) (by decide) st_yes (se_and (se_call (n := 1) (m := m_is_whole) (sa_cons se_var sa_nil)) (se_op ro_ge se_var se_int))) sa_nil)))) (ss_ret se_bl) ss_next) (ss_ret (se_op ro_le (se_cb rc_maxL (sa_cons (se_call (n := 1) (m := m_spares_of) (sa_cons se_var sa_nil)) sa_nil)) se_int)))) h

abbrev s_check_team : Stmt := topS 17
abbrev N_check_team : List Str := ["team"]
theorem sc_check_team : FnScope N_check_team ["team"] (defScope s_check_team) := ⟨rfl, rfl, rfl, by decide +kernel, rfl, by decide +kernel, by decide +kernel⟩
def F_check_team : En → Option Out := (sIf (bNot (bTest (eCall 1 m_is_team (aCons (eVar 0) aNil))))
    sNever
    sNext)
def m_check_team : En → Option Res := bodyM [] 1 0 F_check_team
theorem ok_check_team {f : Addr} {fd : FuncData} (F : Fun K "check_team" "check_team" s_check_team f fd) (d_is_team : DefOk P w K mg base "is_team" ["thing"] 2 m_is_team) : FnOk P w K mg base CX0 3 f fd ["team"] (SpM K 1 m_check_team) := by
  have sc := sc_check_team
  refine F.ok sc_check_team (fun vs H Q E h => h.1) (fun cdv A outer s H vs Q E hr h => ⟨_, (pss_one (ps_if (pt_not (pt_val (pe_def (by exact d_is_team) (by rfl) (by exact hr) (by decide) (by rfl) (pa_cons (pv 0) pa_nil) (by decide) (by rfl) (by rfl)))) (pss_one ps_never) pss_nil)), ?_⟩)
  exact body_ok (N := N_check_team) (n := 1) (k := 0) (fix := []) (F := F_check_team) rfl (by decide) (ss_if (st_not (st_B (se_call (n := 1) (m := m_is_team) (sa_cons se_var sa_nil)))) ss_never ss_next) h

abbrev s_spare_numbers : Stmt := topS 18
abbrev N_spare_numbers : List Str := ["team"]
theorem sc_spare_numbers : FnScope N_spare_numbers ["team"] (defScope s_spare_numbers) := ⟨rfl, rfl, rfl, by decide +kernel, rfl, by decide +kernel, by decide +kernel⟩
def F_spare_numbers : En → Option Out := (sSeq (sExpr (eCall 1 m_check_team (aCons (eVar 0) aNil)))
    (sRet (eCall 1 m_spares_of (aCons (eVar 0) aNil))))
def m_spare_numbers : En → Option Res := bodyM [] 1 0 F_spare_numbers
theorem ok_spare_numbers {f : Addr} {fd : FuncData} (F : Fun K "spare_numbers" "spare_numbers" s_spare_numbers f fd) (d_check_team : DefOk P w K mg base "check_team" ["team"] 3 m_check_team) (d_spares_of : DefOk P w K mg base "spares_of" ["levels"] 1 m_spares_of) : FnOk P w K mg base CX0 4 f fd ["team"] (SpM K 1 m_spare_numbers) := by
  have sc := sc_spare_numbers
  refine F.ok sc_spare_numbers (fun vs H Q E h => h.1) (fun cdv A outer s H vs Q E hr h => ⟨_, (pss_cons (ps_expr (pe_def (by exact d_check_team) (by rfl) (by exact hr) (by decide) (by rfl) (pa_cons (pv 0) pa_nil) (by decide) (by rfl) (by rfl))) (pss_one (ps_ret (pe_def (by exact d_spares_of) (by rfl) (by exact hr) (by decide) (by rfl) (pa_cons (pv 0) pa_nil) (by decide) (by rfl) (by rfl))))), ?_⟩)
  exact body_ok (N := N_spare_numbers) (n := 1) (k := 0) (fix := []) (F := F_spare_numbers) rfl (by decide) (ss_seq (ss_expr (se_call (n := 1) (m := m_check_team) (sa_cons se_var sa_nil))) (ss_ret (se_call (n := 1) (m := m_spares_of) (sa_cons se_var sa_nil)))) h

abbrev s_can_do : Stmt := topS 20
abbrev N_can_do : List Str := ["team", "worker", "job"]
theorem sc_can_do : FnScope N_can_do ["team", "worker", "job"] (defScope s_can_do) := ⟨rfl, rfl, rfl, by decide +kernel, rfl, by decide +kernel, by decide +kernel⟩
def F_can_do : En → Option Out := (sSeq (sExpr (eCall 1 m_check_team (aCons (eVar 0) aNil)))
    (sSeq (sExpr (eCall 2 m_check_worker (aCons (eVar 0) (aCons (eVar 1) aNil))))
    (sSeq (sExpr (eCall 1 m_check_job (aCons (eVar 2) aNil)))
    (sRet (eOp dLt (eVar 2) (eOp dIx (eVar 0) (eVar 1)))))))
def m_can_do : En → Option Res := bodyM [] 3 0 F_can_do
theorem ok_can_do {f : Addr} {fd : FuncData} (F : Fun K "can_do" "can_do" s_can_do f fd) (d_check_team : DefOk P w K mg base "check_team" ["team"] 3 m_check_team) (d_check_worker : DefOk P w K mg base "check_worker" ["team", "worker"] 3 m_check_worker) (d_check_job : DefOk P w K mg base "check_job" ["job"] 3 m_check_job) : FnOk P w K mg base CX0 4 f fd ["team", "worker", "job"] (SpM K 3 m_can_do) := by
  have sc := sc_can_do
  refine F.ok sc_can_do (fun vs H Q E h => h.1) (fun cdv A outer s H vs Q E hr h => ⟨_, (pss_cons (ps_expr (pe_def (by exact d_check_team) (by rfl) (by exact hr) (by decide) (by rfl) (pa_cons (pv 0) pa_nil) (by decide) (by rfl) (by rfl))) (pss_cons (ps_expr (pe_def (by exact d_check_worker) (by rfl) (by exact hr) (by decide) (by rfl) (pa_cons (pv 0) (pa_cons (pv 1) pa_nil)) (by decide) (by rfl) (by rfl))) (pss_cons (ps_expr (pe_def (by exact d_check_job) (by rfl) (by exact hr) (by decide) (by rfl) (pa_cons (pv 2) pa_nil) (by decide) (by rfl) (by rfl))) (pss_one (ps_ret (pe_cmpR op_lt (pv 2) (pe_ix ix_seq (pv 0) (pv 1) (fun _ _ => rfl)) (nomark _))))))), ?_⟩)
  exact body_ok (N := N_can_do) (n := 3) (k := 0) (fix := []) (F := F_can_do) rfl (by decide) (ss_seq (ss_expr (se_call (n := 1) (m := m_check_team) (sa_cons se_var sa_nil))) (ss_seq (ss_expr (se_call (n := 2) (m := m_check_worker) (sa_cons se_var (sa_cons se_var sa_nil)))) (ss_seq (ss_expr (se_call (n := 1) (m := m_check_job) (sa_cons se_var sa_nil))) (ss_ret (se_op ro_lt se_var (se_op ro_ix se_var se_var)))))) h

abbrev s_count_above : Stmt := topS 21
abbrev N_count_above : List Str := ["team", "bound", "level"]
theorem sc_count_above : FnScope N_count_above ["team", "bound"] (defScope s_count_above) := ⟨rfl, rfl, rfl, by decide +kernel, rfl, by decide +kernel, by decide +kernel⟩
def F_count_above : En → Option Out := (sRet (eCB bSum (aCons (eLc [2] (iSeq (eVar 0)) (tgName 2) (bTest (eOp dGt (eVar 2) (eVar 1))) (eC (.int 1))) aNil)))
def m_count_above : En → Option Res := bodyM [] 2 1 F_count_above
theorem ok_count_above {f : Addr} {fd : FuncData} (F : Fun K "count_above" "count_above" s_count_above f fd) (m_sum : mg "sum" = none) : FnOk P w K mg base CX0 1 f fd ["team", "bound"] (SpM K 2 m_count_above) := by
  have sc := sc_count_above
  refine F.ok sc_count_above (fun vs H Q E h => h.1) (fun cdv A outer s H vs Q E hr h => ⟨_, (pss_one (ps_ret (pe_callB (cr_sum rfl) (by rfl) m_sum (by decide +kernel) (pa_cons (pe_lc (own := [("level", 2)]) (g := (gName 2)) (tt := (tTest (tOp rGtI (tVar 2) (tVar 1)))) (te := (tC (.int 1))) rfl sc.nd (pi_list (pv 0)) (blkOk_by (N := N_count_above) (sc := defScope s_count_above) (by decide +kernel)) (fun _ _ _ _ _ => by exact (pg_name (i := 2) sc.nd rfl (Or.inl rfl))) (fun _ _ _ _ _ => by exact (pts_one (pt_cmpR op_gt (pv 2) (pv 1) (nomark _)))) (fun _ _ _ _ _ => by exact pe_int)) pa_nil)))), ?_⟩)
  exact body_ok (N := N_count_above) (n := 2) (k := 1) (fix := []) (F := F_count_above) rfl (by decide) (ss_ret (se_cb rc_sum (sa_cons (se_lc (si_list se_var) (sg_name (by decide)) (by decide) (st_test (se_op ro_gt se_var se_var)) se_int) sa_nil))) h

abbrev s_others : Stmt := topS 22
abbrev N_others : List Str := ["team", "level", "own"]
theorem sc_others : FnScope N_others ["team", "level"] (defScope s_others) := ⟨rfl, rfl, rfl, by decide +kernel, rfl, by decide +kernel, by decide +kernel⟩
def F_others : En → Option Out := (sSeq (sExpr (eCall 1 m_check_team (aCons (eVar 0) aNil)))
    (sSeq (sIf (bNot (bTest (eCall 3 m_is_within (aCons (eVar 1) (aCons (eCB bMaxL (aCons (eVar 0) aNil)) (aCons (eC (.int 40)) aNil))))))
    sNever
    sNext)
    (sRet (eLc [2] (iSeq (eVar 0)) (tgName 2) bYes (eOp dSub (eVar 1) (eVar 2))))))
def m_others : En → Option Res := bodyM [] 2 1 F_others
theorem ok_others {f : Addr} {fd : FuncData} {tk_GREATEST_OTHERS : Tok} (F : Fun K "others" "others" s_others f fd) (m_max : mg "max" = none) (c_GREATEST_OTHERS : mg "GREATEST_OTHERS" = some (.int 40 tk_GREATEST_OTHERS)) (d_check_team : DefOk P w K mg base "check_team" ["team"] 3 m_check_team) (d_is_within : DefOk P w K mg base "is_within" ["thing", "least", "greatest"] 2 m_is_within) : FnOk P w K mg base CX0 4 f fd ["team", "level"] (SpM K 2 m_others) := by
  have sc := sc_others
  refine F.ok sc_others (fun vs H Q E h => h.1) (fun cdv A outer s H vs Q E hr h => ⟨_, (pss_cons (ps_expr (pe_def (by exact d_check_team) (by rfl) (by exact hr) (by decide) (by rfl) (pa_cons (pv 0) pa_nil) (by decide) (by rfl) (by rfl))) (pss_cons (ps_if (pt_not (pt_val (pe_def (by exact d_is_within) (by rfl) (by exact hr) (by decide) (by rfl) (pa_cons (pv 1) (pa_cons (pe_callB (cr_max rfl) (by rfl) m_max (by decide +kernel) (pa_cons (pv 0) pa_nil)) (pa_cons (pe_glob (v := .int 40) (by rfl) c_GREATEST_OTHERS ⟨_, rfl⟩) pa_nil))) (by decide) (by rfl) (by rfl)))) (pss_one ps_never) pss_nil) (pss_one (ps_ret (pe_lc (own := [("own", 2)]) (g := (gName 2)) (tt := tYes) (te := (tOp rSubI (tVar 1) (tVar 2))) rfl sc.nd (pi_list (pv 0)) (blkOk_by (N := N_others) (sc := defScope s_others) (by decide +kernel)) (fun _ _ _ _ _ => by exact (pg_name (i := 2) sc.nd rfl (Or.inl rfl))) (fun _ _ _ _ _ => by exact pts_nil) (fun _ _ _ _ _ => by exact (pe_op op_sub (pv 1) (pv 2)))))))), ?_⟩)
  exact body_ok (N := N_others) (n := 2) (k := 1) (fix := []) (F := F_others) rfl (by decide) (ss_seq (ss_expr (se_call (n := 1) (m := m_check_team) (sa_cons se_var sa_nil))) (ss_seq (ss_if (st_not (st_B (se_call (n := 3) (m := m_is_within) (sa_cons se_var (sa_cons (se_cb rc_maxL (sa_cons se_var sa_nil)) (sa_cons se_int sa_nil)))))) ss_never ss_next) (ss_ret (se_lc (si_list se_var) (sg_name (by decide)) (by decide) st_yes (se_op ro_sub se_var se_var))))) h

abbrev s_counts_with_next : Stmt := topS 26
abbrev N_counts_with_next : List Str := ["found", "level", "longer", "size", "ways"]
theorem sc_counts_with_next : FnScope N_counts_with_next ["found", "level"] (defScope s_counts_with_next) := ⟨rfl, rfl, rfl, by decide +kernel, rfl, by decide +kernel, by decide +kernel⟩
def F_counts_with_next : En → Option Out := (sSeq (sSet 2 (eOpL dCat (eVar 0) (eLst (aCons (eC (.int 0)) aNil))))
    (sSeq (sFor (iEnumF (aCons (eVar 0) aNil)) (tgTup 2 (tgCons (tgName 3) (tgCons (tgName 4) tgNil)))
    (sPutAug 2 dAdd (eOp dAdd (eVar 3) (eC (.int 1))) (eOp dMul (eVar 4) (eOp dSub (eVar 1) (eVar 3)))))
    (sRet (eVar 2))))
def m_counts_with_next : En → Option Res := bodyM [] 2 3 F_counts_with_next
theorem ok_counts_with_next {f : Addr} {fd : FuncData} (F : Fun K "counts_with_next" "counts_with_next" s_counts_with_next f fd) (m_enumerate : mg "enumerate" = none) : FnOk P w K mg base CX0 1 f fd ["found", "level"] (SpM K 2 m_counts_with_next) := by
  have sc := sc_counts_with_next
  refine F.ok sc_counts_with_next (fun vs H Q E h => h.1) (fun cdv A outer s H vs Q E hr h => ⟨_, (pss_cons (ps_set (i := 2) sc.nd rfl (by first | exact .inl rfl | exact .inr rfl) (pe_op op_cat (pv 0) (pe_lst (pa_cons pe_int pa_nil)))) (pss_cons (ps_for PassesOwn.never rfl (pi_enum (by rfl) m_enumerate (pa_cons (pv 0) pa_nil)) (pg_tup rfl (pgs_cons (pg_name (i := 3) sc.nd rfl (by first | exact .inl rfl | exact .inr rfl)) (pgs_cons (pg_name (i := 4) sc.nd rfl (by first | exact .inl rfl | exact .inr rfl)) pgs_nil))) (pss_one (ps_augS (pv 2) (pe_op op_add (pv 3) pe_int) get_list (pe_op op_mulA (pv 4) (pe_op op_sub (pv 1) (pv 3))) ip_add set_list))) (pss_one (ps_ret (pv 2))))), ?_⟩)
  exact body_ok (N := N_counts_with_next) (n := 2) (k := 3) (fix := []) (F := F_counts_with_next) rfl (by decide) (ss_seq (ss_set (se_opL rol_cat se_var (se_lst (sa_cons se_int sa_nil))) (by decide)) (ss_seq (ss_for (si_enum (sa_cons se_var sa_nil)) (sg_tup (n := 2) (sgs_cons (sg_name (by decide)) (sgs_cons (sg_name (by decide)) sgs_nil))) (ss_putAug (se_op ro_add se_var se_int) (se_op ro_mul se_var (se_op ro_sub se_var se_var)) rip_I)) (ss_ret se_var))) h

abbrev s_counts_along : Stmt := topS 25
abbrev N_counts_along : List Str := ["levels", "found", "level"]
theorem sc_counts_along : FnScope N_counts_along ["levels"] (defScope s_counts_along) := ⟨rfl, rfl, rfl, by decide +kernel, rfl, by decide +kernel, by decide +kernel⟩
def F_counts_along : En → Option Out := (sSeq (sSet 1 (eLst (aCons (eC (.int 1)) aNil)))
    (sSeq (sFor (iSeq (eVar 0)) (tgName 2)
    (sSet 1 (eCall 2 m_counts_with_next (aCons (eVar 1) (aCons (eVar 2) aNil)))))
    (sRet (eVar 1))))
def m_counts_along : En → Option Res := bodyM [] 1 2 F_counts_along
theorem ok_counts_along {f : Addr} {fd : FuncData} (F : Fun K "counts_along" "counts_along" s_counts_along f fd) (d_counts_with_next : DefOk P w K mg base "counts_with_next" ["found", "level"] 1 m_counts_with_next) : FnOk P w K mg base CX0 2 f fd ["levels"] (SpM K 1 m_counts_along) := by
  have sc := sc_counts_along
  refine F.ok sc_counts_along (fun vs H Q E h => h.1) (fun cdv A outer s H vs Q E hr h => ⟨_, (pss_cons (ps_set (i := 1) sc.nd rfl (by first | exact .inl rfl | exact .inr rfl) (pe_lst (pa_cons pe_int pa_nil))) (pss_cons (ps_for PassesOwn.never rfl (pi_list (pv 0)) (pg_name (i := 2) sc.nd rfl (by first | exact .inl rfl | exact .inr rfl)) (pss_one (ps_set (i := 1) sc.nd rfl (by first | exact .inl rfl | exact .inr rfl) (pe_def (by exact d_counts_with_next) (by rfl) (by exact hr) (by decide) (by rfl) (pa_cons (pv 1) (pa_cons (pv 2) pa_nil)) (by decide) (by rfl) (by rfl))))) (pss_one (ps_ret (pv 1))))), ?_⟩)
  exact body_ok (N := N_counts_along) (n := 1) (k := 2) (fix := []) (F := F_counts_along) rfl (by decide) (ss_seq (ss_set (se_lst (sa_cons se_int sa_nil)) (by decide)) (ss_seq (ss_for (si_list se_var) (sg_name (by decide)) (ss_set (se_call (n := 2) (m := m_counts_with_next) (sa_cons se_var (sa_cons se_var sa_nil))) (by decide))) (ss_ret se_var))) h

abbrev s_counts : Stmt := topS 24
abbrev N_counts : List Str := ["team"]
theorem sc_counts : FnScope N_counts ["team"] (defScope s_counts) := ⟨rfl, rfl, rfl, by decide +kernel, rfl, by decide +kernel, by decide +kernel⟩
def F_counts : En → Option Out := (sSeq (sExpr (eCall 1 m_check_team (aCons (eVar 0) aNil)))
    (sRet (eCall 1 m_counts_along (aCons (eCBL bSorted (aCons (eVar 0) aNil)) aNil))))
def m_counts : En → Option Res := bodyM [] 1 0 F_counts
theorem ok_counts {f : Addr} {fd : FuncData} (F : Fun K "counts" "counts" s_counts f fd) (m_sorted : mg "sorted" = none) (d_check_team : DefOk P w K mg base "check_team" ["team"] 3 m_check_team) (d_counts_along : DefOk P w K mg base "counts_along" ["levels"] 2 m_counts_along) : FnOk P w K mg base CX0 4 f fd ["team"] (SpM K 1 m_counts) := by
  have sc := sc_counts
  refine F.ok sc_counts (fun vs H Q E h => h.1) (fun cdv A outer s H vs Q E hr h => ⟨_, (pss_cons (ps_expr (pe_def (by exact d_check_team) (by rfl) (by exact hr) (by decide) (by rfl) (pa_cons (pv 0) pa_nil) (by decide) (by rfl) (by rfl))) (pss_one (ps_ret (pe_def (by exact d_counts_along) (by rfl) (by exact hr) (by decide) (by rfl) (pa_cons (pe_callB cr_sortedI (by rfl) m_sorted (by decide +kernel) (pa_cons (pv 0) pa_nil)) pa_nil) (by decide) (by rfl) (by rfl))))), ?_⟩)
  exact body_ok (N := N_counts) (n := 1) (k := 0) (fix := []) (F := F_counts) rfl (by decide) (ss_seq (ss_expr (se_call (n := 1) (m := m_check_team) (sa_cons se_var sa_nil))) (ss_ret (se_call (n := 1) (m := m_counts_along) (sa_cons (se_cbL rcl_sorted (sa_cons se_var sa_nil)) sa_nil)))) h

abbrev s_bound_by : Stmt := topS 27
abbrev N_bound_by : List Str := ["team", "limit"]
theorem sc_bound_by : FnScope N_bound_by ["team", "limit"] (defScope s_bound_by) := ⟨rfl, rfl, rfl, by decide +kernel, rfl, by decide +kernel, by decide +kernel⟩
def F_bound_by : En → Option Out := (sRet (eOp dAdd (eVar 1) (eCall 2 m_count_above (aCons (eVar 0) (aCons (eVar 1) aNil)))))
def m_bound_by : En → Option Res := bodyM [] 2 0 F_bound_by
theorem ok_bound_by {f : Addr} {fd : FuncData} (F : Fun K "bound_by" "bound_by" s_bound_by f fd) (d_count_above : DefOk P w K mg base "count_above" ["team", "bound"] 1 m_count_above) : FnOk P w K mg base CX0 2 f fd ["team", "limit"] (SpM K 2 m_bound_by) := by
  have sc := sc_bound_by
  refine F.ok sc_bound_by (fun vs H Q E h => h.1) (fun cdv A outer s H vs Q E hr h => ⟨_, (pss_one (ps_ret (pe_op op_add (pv 1) (pe_def (by exact d_count_above) (by rfl) (by exact hr) (by decide) (by rfl) (pa_cons (pv 0) (pa_cons (pv 1) pa_nil)) (by decide) (by rfl) (by rfl))))), ?_⟩)
  exact body_ok (N := N_bound_by) (n := 2) (k := 0) (fix := []) (F := F_bound_by) rfl (by decide) (ss_ret (se_op ro_add se_var (se_call (n := 2) (m := m_count_above) (sa_cons se_var (sa_cons se_var sa_nil))))) h

abbrev s_greatest_size : Stmt := topS 28
abbrev N_greatest_size : List Str := ["team", "limit"]
theorem sc_greatest_size : FnScope N_greatest_size ["team"] (defScope s_greatest_size) := ⟨rfl, rfl, rfl, by decide +kernel, rfl, by decide +kernel, by decide +kernel⟩
def F_greatest_size : En → Option Out := (sSeq (sExpr (eCall 1 m_check_team (aCons (eVar 0) aNil)))
    (sRet (eCB bMinL (aCons (eLc [1] (iR1 (aCons (eCB bLen (aCons (eVar 0) aNil)) aNil)) (tgName 1) bYes (eCall 2 m_bound_by (aCons (eVar 0) (aCons (eVar 1) aNil)))) aNil))))
def m_greatest_size : En → Option Res := bodyM [] 1 1 F_greatest_size
theorem ok_greatest_size {f : Addr} {fd : FuncData} (F : Fun K "greatest_size" "greatest_size" s_greatest_size f fd) (m_len : mg "len" = none) (m_range : mg "range" = none) (m_min : mg "min" = none) (d_check_team : DefOk P w K mg base "check_team" ["team"] 3 m_check_team) (d_bound_by : DefOk P w K mg base "bound_by" ["team", "limit"] 2 m_bound_by) : FnOk P w K mg base CX0 4 f fd ["team"] (SpM K 1 m_greatest_size) := by
  have sc := sc_greatest_size
  refine F.ok sc_greatest_size (fun vs H Q E h => h.1) (fun cdv A outer s H vs Q E hr h => ⟨_, (pss_cons (ps_expr (pe_def (by exact d_check_team) (by rfl) (by exact hr) (by decide) (by rfl) (pa_cons (pv 0) pa_nil) (by decide) (by rfl) (by rfl))) (pss_one (ps_ret (pe_callB (cr_min rfl) (by rfl) m_min (by decide +kernel) (pa_cons (pe_lc (own := [("limit", 1)]) (g := (gName 1)) (tt := tYes) (te := (tCall (SpM K 2 m_bound_by) [] E0 (tCons (tVar 0) (tCons (tVar 1) tNil)))) rfl sc.nd (pi_range1 (by rfl) m_range (pa_cons (pe_callB call_len_seq (by rfl) m_len PySem.boot_len (pa_cons (pv 0) pa_nil)) pa_nil)) (blkOk_by (N := N_greatest_size) (sc := defScope s_greatest_size) (by decide +kernel)) (fun _ _ _ _ _ => by exact (pg_name (i := 1) sc.nd rfl (Or.inl rfl))) (fun _ _ _ _ _ => by exact pts_nil) (fun _ _ _ _ _ => by exact (pe_def (by exact d_bound_by) (by rfl) (by exact hr) (by decide) (by rfl) (pa_cons (pv 0) (pa_cons (pv 1) pa_nil)) (by decide) (by rfl) (by rfl)))) pa_nil))))), ?_⟩)
  exact body_ok (N := N_greatest_size) (n := 1) (k := 1) (fix := []) (F := F_greatest_size) rfl (by decide) (ss_seq (ss_expr (se_call (n := 1) (m := m_check_team) (sa_cons se_var sa_nil))) (ss_ret (se_cb rc_minL (sa_cons (se_lc (si_r1 (sa_cons (se_cb rc_len (sa_cons se_var sa_nil)) sa_nil)) (sg_name (by decide)) (by decide) st_yes (se_call (n := 2) (m := m_bound_by) (sa_cons se_var (sa_cons se_var sa_nil)))) sa_nil)))) h

abbrev s_law_purse : Stmt := topS 30
abbrev N_law_purse : List Str := ["script", "k", "cell_here"]
theorem sc_law_purse : FnScope N_law_purse ["script", "k"] (defScope s_law_purse) := ⟨rfl, rfl, rfl, by decide +kernel, rfl, by decide +kernel, by decide +kernel⟩
def F_law_purse : En → Option Out := (sSeq (sSet 2 (eIf (bTest (eOp dLt (eVar 1) (eCB bLen (aCons (eVar 0) aNil)))) (eOp dIx (eVar 0) (eVar 1)) (eC (.int 0))))
    (sRet (eLst (aCons (eCB bMax2 (aCons (eC (.int 0)) (aCons (eOp dSub (eCB bAbs (aCons (eVar 2) aNil)) (eOp dPow (eC (.int 10)) (eC (.int 18)))) aNil))) (aCons (eOp dAdd (eOp dMul (eOp dMod (eCB bInt (aCons (eVar 2) aNil)) (eOp dAdd (eOp dPow (eC (.int 10)) (eC (.int 41))) (eC (.int 37)))) (eC (.int 89))) (eOp dMul (eC (.int 60013)) (eVar 1))) (aCons (eC (.int 0)) aNil))))))
def m_law_purse : En → Option Res := bodyM [] 2 1 F_law_purse
theorem ok_law_purse {f : Addr} {fd : FuncData} (F : Fun K "_law_purse" "_law_purse" s_law_purse f fd) (m_len : mg "len" = none) (m_int : mg "int" = none) (m_abs : mg "abs" = none) (m_max : mg "max" = none) : FnOk P w K mg base CX0 1 f fd ["script", "k"] (SpM K 2 m_law_purse) := by
  have sc := sc_law_purse
  refine F.ok sc_law_purse (fun vs H Q E h => h.1) (fun cdv A outer s H vs Q E hr h => ⟨_, (pss_cons (ps_set (i := 2) sc.nd rfl (by first | exact .inl rfl | exact .inr rfl) (pe_ifExp (pt_cmpR op_lt (pv 1) (pe_callB call_len_seq (by rfl) m_len PySem.boot_len (pa_cons (pv 0) pa_nil)) (nomark _)) (pe_ix ix_seq (pv 0) (pv 1) (fun _ _ => rfl)) pe_int)) (pss_one (ps_ret (pe_lst (pa_cons (pe_callB (call_max2 rfl) (by rfl) m_max (by decide +kernel) (pa_cons pe_int (pa_cons (pe_op op_sub (pe_callB call_abs (by rfl) m_abs (by decide +kernel) (pa_cons (pv 2) pa_nil)) (pe_op op_powA pe_int pe_int)) pa_nil))) (pa_cons (pe_op op_add (pe_op op_mulA (pe_op op_modN (pe_callTy call_int1 (by rfl) m_int (by decide +kernel) (pa_cons (pv 2) pa_nil)) (pe_op op_add (pe_op op_powA pe_int pe_int) pe_int)) pe_int) (pe_op op_mulA pe_int (pv 1))) (pa_cons pe_int pa_nil))))))), ?_⟩)
  exact body_ok (N := N_law_purse) (n := 2) (k := 1) (fix := []) (F := F_law_purse) rfl (by decide) (ss_seq (ss_set (se_if (st_test (se_op ro_lt se_var (se_cb rc_len (sa_cons se_var sa_nil)))) (se_op ro_ix se_var se_var) se_int) (by decide)) (ss_ret (se_lst (sa_cons (se_cb rc_max2 (sa_cons se_int (sa_cons (se_op ro_sub (se_cb rc_abs (sa_cons se_var sa_nil)) (se_op ro_pow se_int se_int)) sa_nil))) (sa_cons (se_op ro_add (se_op ro_mul (se_op ro_mod (se_cb rc_int (sa_cons se_var sa_nil)) (se_op ro_add (se_op ro_pow se_int se_int) se_int)) se_int) (se_op ro_mul se_int se_var)) (sa_cons se_int sa_nil)))))) h

abbrev s_law_toss : Stmt := topS 31
abbrev N_law_toss : List Str := ["purse", "wide", "side", "mixed"]
theorem sc_law_toss : FnScope N_law_toss ["purse", "wide"] (defScope s_law_toss) := ⟨rfl, rfl, rfl, by decide +kernel, rfl, by decide +kernel, by decide +kernel⟩
def F_law_toss : En → Option Out := (sSeq (sIf (bTest (eOp dGt (eOp dIx (eVar 0) (eC (.int 0))) (eC (.int 0))))
    (sSeq (sSet 2 (eOp dMod (eCB bInt (aCons (eOp dIx (eVar 0) (eC (.int 0))) aNil)) (eVar 1)))
    (sSeq (sPut 0 (eOp dFdiv (eOp dIx (eVar 0) (eC (.int 0))) (eVar 1)) (eC (.int 0)))
    (sRet (eVar 2))))
    sNext)
    (sSeq (sPut 0 (eOp dAdd (eOp dIx (eVar 0) (eC (.int 2))) (eC (.int 1))) (eC (.int 2)))
    (sSeq (sSet 3 (eOp dMod (eCB bInt (aCons (eOp dPow (eOp dAdd (eOp dIx (eVar 0) (eC (.int 1))) (eOp dMul (eC (.int 50000017)) (eOp dIx (eVar 0) (eC (.int 2))))) (eC (.int 3))) aNil)) (eOp dAdd (eOp dPow (eC (.int 10)) (eC (.int 45))) (eC (.int 9)))))
    (sSeq (sSet 3 (eOp dMod (eCB bInt (aCons (eOp dPow (eOp dAdd (eVar 3) (eOp dMul (eC (.int 25000009)) (eOp dIx (eVar 0) (eC (.int 2))))) (eC (.int 3))) aNil)) (eOp dAdd (eOp dPow (eC (.int 10)) (eC (.int 46))) (eC (.int 121)))))
    (sRet (eOp dMod (eCB bInt (aCons (eOp dFdiv (eVar 3) (eC (.int 1073741789))) aNil)) (eVar 1)))))))
def m_law_toss : En → Option Res := bodyM [0] 2 2 F_law_toss
theorem ok_law_toss {f : Addr} {fd : FuncData} (F : Fun K "_law_toss" "_law_toss" s_law_toss f fd) (m_int : mg "int" = none) : FnOk P w K mg base CX0 1 f fd ["purse", "wide"] (SpM K 2 m_law_toss) := by
  have sc := sc_law_toss
  refine F.ok sc_law_toss (fun vs H Q E h => h.1) (fun cdv A outer s H vs Q E hr h => ⟨_, (pss_cons (ps_if (pt_cmpR op_gt (pe_ix ix_seq (pv 0) pe_int (fun _ _ => rfl)) pe_int (nomark _)) (pss_cons (ps_set (i := 2) sc.nd rfl (by first | exact .inl rfl | exact .inr rfl) (pe_op op_modN (pe_callTy call_int1 (by rfl) m_int (by decide +kernel) (pa_cons (pe_ix ix_seq (pv 0) pe_int (fun _ _ => rfl)) pa_nil)) (pv 1))) (pss_cons (ps_asg (pe_op op_fdivN (pe_ix ix_seq (pv 0) pe_int (fun _ _ => rfl)) (pv 1)) (pg_sub (pv 0) pe_int set_list)) (pss_one (ps_ret (pv 2))))) pss_nil) (pss_cons (ps_asg (pe_op op_add (pe_ix ix_seq (pv 0) pe_int (fun _ _ => rfl)) pe_int) (pg_sub (pv 0) pe_int set_list)) (pss_cons (ps_set (i := 3) sc.nd rfl (by first | exact .inl rfl | exact .inr rfl) (pe_op op_modN (pe_callTy call_int1 (by rfl) m_int (by decide +kernel) (pa_cons (pe_op op_powA (pe_op op_add (pe_ix ix_seq (pv 0) pe_int (fun _ _ => rfl)) (pe_op op_mulA pe_int (pe_ix ix_seq (pv 0) pe_int (fun _ _ => rfl)))) pe_int) pa_nil)) (pe_op op_add (pe_op op_powA pe_int pe_int) pe_int))) (pss_cons (ps_set (i := 3) sc.nd rfl (by first | exact .inl rfl | exact .inr rfl) (pe_op op_modN (pe_callTy call_int1 (by rfl) m_int (by decide +kernel) (pa_cons (pe_op op_powA (pe_op op_add (pv 3) (pe_op op_mulA pe_int (pe_ix ix_seq (pv 0) pe_int (fun _ _ => rfl)))) pe_int) pa_nil)) (pe_op op_add (pe_op op_powA pe_int pe_int) pe_int))) (pss_one (ps_ret (pe_op op_modN (pe_callTy call_int1 (by rfl) m_int (by decide +kernel) (pa_cons (pe_op op_fdivN (pv 3) pe_int) pa_nil)) (pv 1)))))))), ?_⟩)
  exact body_ok (N := N_law_toss) (n := 2) (k := 2) (fix := [0]) (F := F_law_toss) rfl (by decide) (ss_seq (ss_if (st_test (se_op ro_gt (se_op ro_ix se_var se_int) se_int)) (ss_seq (ss_set (se_op ro_mod (se_cb rc_int (sa_cons (se_op ro_ix se_var se_int) sa_nil)) se_var) (by decide)) (ss_seq (ss_put (se_op ro_fdiv (se_op ro_ix se_var se_int) se_var) se_int) (ss_ret se_var))) ss_next) (ss_seq (ss_put (se_op ro_add (se_op ro_ix se_var se_int) se_int) se_int) (ss_seq (ss_set (se_op ro_mod (se_cb rc_int (sa_cons (se_op ro_pow (se_op ro_add (se_op ro_ix se_var se_int) (se_op ro_mul se_int (se_op ro_ix se_var se_int))) se_int) sa_nil)) (se_op ro_add (se_op ro_pow se_int se_int) se_int)) (by decide)) (ss_seq (ss_set (se_op ro_mod (se_cb rc_int (sa_cons (se_op ro_pow (se_op ro_add se_var (se_op ro_mul se_int (se_op ro_ix se_var se_int))) se_int) sa_nil)) (se_op ro_add (se_op ro_pow se_int se_int) se_int)) (by decide)) (ss_ret (se_op ro_mod (se_cb rc_int (sa_cons (se_op ro_fdiv se_var se_int) sa_nil)) se_var)))))) h

abbrev s_law_team : Stmt := topS 32
abbrev N_law_team : List Str := ["purse", "most", "top", "size_here", "style", "high", "left", "k", "some"]
theorem sc_law_team : FnScope N_law_team ["purse", "most", "top"] (defScope s_law_team) := ⟨rfl, rfl, rfl, by decide +kernel, rfl, by decide +kernel, by decide +kernel⟩
def F_law_team : En → Option Out := (sSeq (sPar3 3 4 5 (aCons (eOp dAdd (eC (.int 1)) (eCall1 2 m_law_toss (aCons (eVar 0) (aCons (eVar 1) aNil)))) (aCons (eCall1 2 m_law_toss (aCons (eVar 0) (aCons (eC (.int 6)) aNil))) (aCons (eCall1 2 m_law_toss (aCons (eVar 0) (aCons (eOp dAdd (eVar 2) (eC (.int 1))) aNil))) aNil))))
    (sSeq (sSet 6 (eLst aNil))
    (sSeq (sFor (iR1 (aCons (eVar 3) aNil)) (tgName 7)
    (sSeq (sSet 8 (eLst (aCons (eCall1 2 m_law_toss (aCons (eVar 0) (aCons (eOp dAdd (eVar 2) (eC (.int 1))) aNil))) (aCons (eCall1 2 m_law_toss (aCons (eVar 0) (aCons (eCB bMin2 (aCons (eC (.int 4)) (aCons (eOp dAdd (eVar 2) (eC (.int 1))) aNil))) aNil))) (aCons (eCall1 2 m_law_toss (aCons (eVar 0) (aCons (eOp dAdd (eOp dAdd (eVar 2) (eVar 7)) (eC (.int 1))) aNil))) aNil)))))
    (sExpr (eAppend 6 (aCons (eOp dIx (eOpL dCat (eVar 8) (eLst (aCons (eCB bMax2 (aCons (eC (.int 0)) (aCons (eOp dSub (eOp dAdd (eVar 2) (eVar 7)) (eCall1 2 m_law_toss (aCons (eVar 0) (aCons (eC (.int 3)) aNil)))) aNil))) (aCons (eVar 5) (aCons (eOp dAdd (eCB bMin2 (aCons (eVar 2) (aCons (eCall1 2 m_law_toss (aCons (eVar 0) (aCons (eC (.int 3)) aNil))) aNil))) (eVar 7)) aNil))))) (eVar 4)) aNil)))))
    (sRet (eLc [7] (iR1 (aCons (eVar 3) aNil)) (tgName 7) bYes (eaPop 6 (aCons (eCall1 2 m_law_toss (aCons (eVar 0) (aCons (eCB bLen (aCons (eVar 6) aNil)) aNil))) aNil)))))))
def m_law_team : En → Option Res := bodyM [0] 3 6 F_law_team
theorem ok_law_team {f : Addr} {fd : FuncData} (F : Fun K "_law_team" "_law_team" s_law_team f fd) (m_range : mg "range" = none) (m_min : mg "min" = none) (m_max : mg "max" = none) (m_len : mg "len" = none) (d_law_toss : DefOk P w K mg base "_law_toss" ["purse", "wide"] 1 m_law_toss) : FnOk P w K mg base CX0 2 f fd ["purse", "most", "top"] (SpM K 3 m_law_team) := by
  have sc := sc_law_team
  refine F.ok sc_law_team (fun vs H Q E h => h.1) (fun cdv A outer s H vs Q E hr h => ⟨_, (pss_cons (ps_par3 (i := 3) (j := 4) (l := 5) rfl sc.nd rfl rfl rfl (by decide) (by decide) (by decide) rfl rfl rfl (pa_cons (pe_op op_add pe_int (pe_def (by exact d_law_toss) (by rfl) (by exact hr) (by decide) (by rfl) (pa_cons (pv 0) (pa_cons (pv 1) pa_nil)) (by decide) (by rfl) (by rfl))) (pa_cons (pe_def (by exact d_law_toss) (by rfl) (by exact hr) (by decide) (by rfl) (pa_cons (pv 0) (pa_cons pe_int pa_nil)) (by decide) (by rfl) (by rfl)) (pa_cons (pe_def (by exact d_law_toss) (by rfl) (by exact hr) (by decide) (by rfl) (pa_cons (pv 0) (pa_cons (pe_op op_add (pv 2) pe_int) pa_nil)) (by decide) (by rfl) (by rfl)) pa_nil))) (by rfl)) (pss_cons (ps_set (i := 6) sc.nd rfl (by first | exact .inl rfl | exact .inr rfl) (pe_lst pa_nil)) (pss_cons (ps_for PassesOwn.never rfl (pi_range1 (by rfl) m_range (pa_cons (pv 3) pa_nil)) (pg_name (i := 7) sc.nd rfl (by first | exact .inl rfl | exact .inr rfl)) (pss_cons (ps_set (i := 8) sc.nd rfl (by first | exact .inl rfl | exact .inr rfl) (pe_lst (pa_cons (pe_def (by exact d_law_toss) (by rfl) (by exact hr) (by decide) (by rfl) (pa_cons (pv 0) (pa_cons (pe_op op_add (pv 2) pe_int) pa_nil)) (by decide) (by rfl) (by rfl)) (pa_cons (pe_def (by exact d_law_toss) (by rfl) (by exact hr) (by decide) (by rfl) (pa_cons (pv 0) (pa_cons (pe_callB (call_min2 rfl) (by rfl) m_min (by decide +kernel) (pa_cons pe_int (pa_cons (pe_op op_add (pv 2) pe_int) pa_nil))) pa_nil)) (by decide) (by rfl) (by rfl)) (pa_cons (pe_def (by exact d_law_toss) (by rfl) (by exact hr) (by decide) (by rfl) (pa_cons (pv 0) (pa_cons (pe_op op_add (pe_op op_add (pv 2) (pv 7)) pe_int) pa_nil)) (by decide) (by rfl) (by rfl)) pa_nil))))) (pss_one (ps_expr (pe_bm PySem.F.plainAttrs_list PySem.F.slot_list_append PySem.F.type_list_append mt_append (pv 6) (pa_cons (pe_ix ix_seq (pe_op op_cat (pv 8) (pe_lst (pa_cons (pe_callB (call_max2 rfl) (by rfl) m_max (by decide +kernel) (pa_cons pe_int (pa_cons (pe_op op_sub (pe_op op_add (pv 2) (pv 7)) (pe_def (by exact d_law_toss) (by rfl) (by exact hr) (by decide) (by rfl) (pa_cons (pv 0) (pa_cons pe_int pa_nil)) (by decide) (by rfl) (by rfl))) pa_nil))) (pa_cons (pv 5) (pa_cons (pe_op op_add (pe_callB (call_min2 rfl) (by rfl) m_min (by decide +kernel) (pa_cons (pv 2) (pa_cons (pe_def (by exact d_law_toss) (by rfl) (by exact hr) (by decide) (by rfl) (pa_cons (pv 0) (pa_cons pe_int pa_nil)) (by decide) (by rfl) (by rfl)) pa_nil))) (pv 7)) pa_nil))))) (pv 4) (fun _ _ => rfl)) pa_nil)))))) (pss_one (ps_ret (pe_lc (own := [("k", 7)]) (g := (gName 7)) (tt := tYes) (te := (tBM K "list" rPopAt (tVar 6) (tCons (tCall (SpM K 2 m_law_toss) [] E0 (tCons (tVar 0) (tCons (tCB (rLenSeq K) (tCons (tVar 6) tNil)) tNil))) tNil))) rfl sc.nd (pi_range1 (by rfl) m_range (pa_cons (pv 3) pa_nil)) (blkOk_by (N := N_law_team) (sc := defScope s_law_team) (by decide +kernel)) (fun _ _ _ _ _ => by exact (pg_name (i := 7) sc.nd rfl (Or.inl rfl))) (fun _ _ _ _ _ => by exact pts_nil) (fun _ _ _ _ _ => by exact (pe_bm PySem.F.plainAttrs_list PySem.F.slot_list_pop PySem.F.type_list_pop mt_popAt (pv 6) (pa_cons (pe_def (by exact d_law_toss) (by rfl) (by exact hr) (by decide) (by rfl) (pa_cons (pv 0) (pa_cons (pe_callB call_len_seq (by rfl) m_len PySem.boot_len (pa_cons (pv 6) pa_nil)) pa_nil)) (by decide) (by rfl) (by rfl)) pa_nil))))))))), ?_⟩)
  exact body_ok (N := N_law_team) (n := 3) (k := 6) (fix := [0]) (F := F_law_team) rfl (by decide) (ss_seq (ss_par3 (sa_cons (se_op ro_add se_int (se_call1 (n := 2) (m := m_law_toss) (sa_cons se_var (sa_cons se_var sa_nil)))) (sa_cons (se_call1 (n := 2) (m := m_law_toss) (sa_cons se_var (sa_cons se_int sa_nil))) (sa_cons (se_call1 (n := 2) (m := m_law_toss) (sa_cons se_var (sa_cons (se_op ro_add se_var se_int) sa_nil))) sa_nil))) (by decide) (by decide) (by decide)) (ss_seq (ss_set (se_lst sa_nil) (by decide)) (ss_seq (ss_for (si_r1 (sa_cons se_var sa_nil)) (sg_name (by decide)) (ss_seq (ss_set (se_lst (sa_cons (se_call1 (n := 2) (m := m_law_toss) (sa_cons se_var (sa_cons (se_op ro_add se_var se_int) sa_nil))) (sa_cons (se_call1 (n := 2) (m := m_law_toss) (sa_cons se_var (sa_cons (se_cb rc_min2 (sa_cons se_int (sa_cons (se_op ro_add se_var se_int) sa_nil))) sa_nil))) (sa_cons (se_call1 (n := 2) (m := m_law_toss) (sa_cons se_var (sa_cons (se_op ro_add (se_op ro_add se_var se_var) se_int) sa_nil))) sa_nil)))) (by decide)) (ss_expr (se_append (sa_cons (se_op ro_ix (se_opL rol_cat se_var (se_lst (sa_cons (se_cb rc_max2 (sa_cons se_int (sa_cons (se_op ro_sub (se_op ro_add se_var se_var) (se_call1 (n := 2) (m := m_law_toss) (sa_cons se_var (sa_cons se_int sa_nil)))) sa_nil))) (sa_cons se_var (sa_cons (se_op ro_add (se_cb rc_min2 (sa_cons se_var (sa_cons (se_call1 (n := 2) (m := m_law_toss) (sa_cons se_var (sa_cons se_int sa_nil))) sa_nil))) se_var) sa_nil))))) se_var) sa_nil))))) (ss_ret (se_lc (si_r1 (sa_cons se_var sa_nil)) (sg_name (by decide)) (by decide) st_yes (se_popAt (sa_cons (se_call1 (n := 2) (m := m_law_toss) (sa_cons se_var (sa_cons (se_cb rc_len (sa_cons se_var sa_nil)) sa_nil))) sa_nil))))))) h

abbrev s_law_choose : Stmt := topS 33
abbrev N_law_choose : List Str := ["wide", "some", "found", "k"]
theorem sc_law_choose : FnScope N_law_choose ["wide", "some"] (defScope s_law_choose) := ⟨rfl, rfl, rfl, by decide +kernel, rfl, by decide +kernel, by decide +kernel⟩
def F_law_choose : En → Option Out := (sSeq (sSet 2 (eC (.int 1)))
    (sSeq (sFor (iR1 (aCons (eVar 1) aNil)) (tgName 3)
    (sSet 2 (eOp dFdiv (eOp dMul (eVar 2) (eOp dSub (eVar 0) (eVar 3))) (eOp dAdd (eVar 3) (eC (.int 1))))))
    (sRet (eVar 2))))
def m_law_choose : En → Option Res := bodyM [] 2 2 F_law_choose
theorem ok_law_choose {f : Addr} {fd : FuncData} (F : Fun K "_law_choose" "_law_choose" s_law_choose f fd) (m_range : mg "range" = none) : FnOk P w K mg base CX0 1 f fd ["wide", "some"] (SpM K 2 m_law_choose) := by
  have sc := sc_law_choose
  refine F.ok sc_law_choose (fun vs H Q E h => h.1) (fun cdv A outer s H vs Q E hr h => ⟨_, (pss_cons (ps_set (i := 2) sc.nd rfl (by first | exact .inl rfl | exact .inr rfl) pe_int) (pss_cons (ps_for PassesOwn.never rfl (pi_range1 (by rfl) m_range (pa_cons (pv 1) pa_nil)) (pg_name (i := 3) sc.nd rfl (by first | exact .inl rfl | exact .inr rfl)) (pss_one (ps_set (i := 2) sc.nd rfl (by first | exact .inl rfl | exact .inr rfl) (pe_op op_fdivN (pe_op op_mulA (pv 2) (pe_op op_sub (pv 0) (pv 3))) (pe_op op_add (pv 3) pe_int))))) (pss_one (ps_ret (pv 2))))), ?_⟩)
  exact body_ok (N := N_law_choose) (n := 2) (k := 2) (fix := []) (F := F_law_choose) rfl (by decide) (ss_seq (ss_set se_int (by decide)) (ss_seq (ss_for (si_r1 (sa_cons se_var sa_nil)) (sg_name (by decide)) (ss_set (se_op ro_fdiv (se_op ro_mul se_var (se_op ro_sub se_var se_var)) (se_op ro_add se_var se_int)) (by decide))) (ss_ret se_var))) h

abbrev s_law_falling : Stmt := topS 34
abbrev N_law_falling : List Str := ["high", "steps", "found", "k"]
theorem sc_law_falling : FnScope N_law_falling ["high", "steps"] (defScope s_law_falling) := ⟨rfl, rfl, rfl, by decide +kernel, rfl, by decide +kernel, by decide +kernel⟩
def F_law_falling : En → Option Out := (sSeq (sSet 2 (eC (.int 1)))
    (sSeq (sFor (iR1 (aCons (eVar 1) aNil)) (tgName 3)
    (sSet 2 (eOp dMul (eVar 2) (eOp dSub (eVar 0) (eVar 3)))))
    (sRet (eVar 2))))
def m_law_falling : En → Option Res := bodyM [] 2 2 F_law_falling
theorem ok_law_falling {f : Addr} {fd : FuncData} (F : Fun K "_law_falling" "_law_falling" s_law_falling f fd) (m_range : mg "range" = none) : FnOk P w K mg base CX0 1 f fd ["high", "steps"] (SpM K 2 m_law_falling) := by
  have sc := sc_law_falling
  refine F.ok sc_law_falling (fun vs H Q E h => h.1) (fun cdv A outer s H vs Q E hr h => ⟨_, (pss_cons (ps_set (i := 2) sc.nd rfl (by first | exact .inl rfl | exact .inr rfl) pe_int) (pss_cons (ps_for PassesOwn.never rfl (pi_range1 (by rfl) m_range (pa_cons (pv 1) pa_nil)) (pg_name (i := 3) sc.nd rfl (by first | exact .inl rfl | exact .inr rfl)) (pss_one (ps_set (i := 2) sc.nd rfl (by first | exact .inl rfl | exact .inr rfl) (pe_op op_mulA (pv 2) (pe_op op_sub (pv 0) (pv 3)))))) (pss_one (ps_ret (pv 2))))), ?_⟩)
  exact body_ok (N := N_law_falling) (n := 2) (k := 2) (fix := []) (F := F_law_falling) rfl (by decide) (ss_seq (ss_set se_int (by decide)) (ss_seq (ss_for (si_r1 (sa_cons se_var sa_nil)) (sg_name (by decide)) (ss_set (se_op ro_mul se_var (se_op ro_sub se_var se_var)) (by decide))) (ss_ret se_var))) h

abbrev s_law_due : Stmt := topS 35
abbrev N_law_due : List Str := ["some", "high", "size_here", "found", "k", "total", "j", "part"]
theorem sc_law_due : FnScope N_law_due ["some", "high"] (defScope s_law_due) := ⟨rfl, rfl, rfl, by decide +kernel, rfl, by decide +kernel, by decide +kernel⟩
def F_law_due : En → Option Out := (sSeq (sPar 2 3 (aCons (eOp dSub (eCB bLen (aCons (eVar 0) aNil)) (eC (.int 1))) (aCons (eLst aNil) aNil)))
    (sSeq (sFor (iR1 (aCons (eOp dAdd (eVar 2) (eC (.int 1))) aNil)) (tgName 4)
    (sSeq (sSet 5 (eC (.int 0)))
    (sSeq (sFor (iR1 (aCons (eOp dAdd (eVar 4) (eC (.int 1))) aNil)) (tgName 6)
    (sSeq (sSet 7 (eOp dMul (eOp dMul (eOp dIx (eVar 0) (eVar 6)) (eCall 2 m_law_choose (aCons (eOp dSub (eVar 2) (eVar 6)) (aCons (eOp dSub (eVar 4) (eVar 6)) aNil)))) (eCall 2 m_law_falling (aCons (eOp dSub (eVar 1) (eVar 6)) (aCons (eOp dSub (eVar 4) (eVar 6)) aNil)))))
    (sSet 5 (eOp dAdd (eVar 5) (eOp dMul (eVar 7) (eOp dIx (eLst (aCons (eC (.int 1)) (aCons (eUn dNeg (eC (.int 1))) aNil))) (eOp dMod (eCB bInt (aCons (eVar 6) aNil)) (eC (.int 2)))))))))
    (sExpr (eAppend 3 (aCons (eVar 5) aNil))))))
    (sRet (eVar 3))))
def m_law_due : En → Option Res := bodyM [] 2 6 F_law_due
theorem ok_law_due {f : Addr} {fd : FuncData} (F : Fun K "_law_due" "_law_due" s_law_due f fd) (m_len : mg "len" = none) (m_range : mg "range" = none) (m_int : mg "int" = none) (d_law_choose : DefOk P w K mg base "_law_choose" ["wide", "some"] 1 m_law_choose) (d_law_falling : DefOk P w K mg base "_law_falling" ["high", "steps"] 1 m_law_falling) : FnOk P w K mg base CX0 2 f fd ["some", "high"] (SpM K 2 m_law_due) := by
  have sc := sc_law_due
  refine F.ok sc_law_due (fun vs H Q E h => h.1) (fun cdv A outer s H vs Q E hr h => ⟨_, (pss_cons (ps_par (i := 2) (j := 3) rfl sc.nd rfl rfl (by decide) rfl rfl (pa_cons (pe_op op_sub (pe_callB call_len_seq (by rfl) m_len PySem.boot_len (pa_cons (pv 0) pa_nil)) pe_int) (pa_cons (pe_lst pa_nil) pa_nil)) (by rfl)) (pss_cons (ps_for PassesOwn.never rfl (pi_range1 (by rfl) m_range (pa_cons (pe_op op_add (pv 2) pe_int) pa_nil)) (pg_name (i := 4) sc.nd rfl (by first | exact .inl rfl | exact .inr rfl)) (pss_cons (ps_set (i := 5) sc.nd rfl (by first | exact .inl rfl | exact .inr rfl) pe_int) (pss_cons (ps_for PassesOwn.never rfl (pi_range1 (by rfl) m_range (pa_cons (pe_op op_add (pv 4) pe_int) pa_nil)) (pg_name (i := 6) sc.nd rfl (by first | exact .inl rfl | exact .inr rfl)) (pss_cons (ps_set (i := 7) sc.nd rfl (by first | exact .inl rfl | exact .inr rfl) (pe_op op_mulA (pe_op op_mulA (pe_ix ix_seq (pv 0) (pv 6) (fun _ _ => rfl)) (pe_def (by exact d_law_choose) (by rfl) (by exact hr) (by decide) (by rfl) (pa_cons (pe_op op_sub (pv 2) (pv 6)) (pa_cons (pe_op op_sub (pv 4) (pv 6)) pa_nil)) (by decide) (by rfl) (by rfl))) (pe_def (by exact d_law_falling) (by rfl) (by exact hr) (by decide) (by rfl) (pa_cons (pe_op op_sub (pv 1) (pv 6)) (pa_cons (pe_op op_sub (pv 4) (pv 6)) pa_nil)) (by decide) (by rfl) (by rfl)))) (pss_one (ps_set (i := 5) sc.nd rfl (by first | exact .inl rfl | exact .inr rfl) (pe_op op_add (pv 5) (pe_op op_mulA (pv 7) (pe_ix ix_seq (pe_lst (pa_cons pe_int (pa_cons (pe_un un_neg pe_int) pa_nil))) (pe_op op_modN (pe_callTy call_int1 (by rfl) m_int (by decide +kernel) (pa_cons (pv 6) pa_nil)) pe_int) (fun _ _ => rfl)))))))) (pss_one (ps_expr (pe_bm PySem.F.plainAttrs_list PySem.F.slot_list_append PySem.F.type_list_append mt_append (pv 3) (pa_cons (pv 5) pa_nil))))))) (pss_one (ps_ret (pv 3))))), ?_⟩)
  exact body_ok (N := N_law_due) (n := 2) (k := 6) (fix := []) (F := F_law_due) rfl (by decide) (ss_seq (ss_par (sa_cons (se_op ro_sub (se_cb rc_len (sa_cons se_var sa_nil)) se_int) (sa_cons (se_lst sa_nil) sa_nil)) (by decide) (by decide)) (ss_seq (ss_for (si_r1 (sa_cons (se_op ro_add se_var se_int) sa_nil)) (sg_name (by decide)) (ss_seq (ss_set se_int (by decide)) (ss_seq (ss_for (si_r1 (sa_cons (se_op ro_add se_var se_int) sa_nil)) (sg_name (by decide)) (ss_seq (ss_set (se_op ro_mul (se_op ro_mul (se_op ro_ix se_var se_var) (se_call (n := 2) (m := m_law_choose) (sa_cons (se_op ro_sub se_var se_var) (sa_cons (se_op ro_sub se_var se_var) sa_nil)))) (se_call (n := 2) (m := m_law_falling) (sa_cons (se_op ro_sub se_var se_var) (sa_cons (se_op ro_sub se_var se_var) sa_nil)))) (by decide)) (ss_set (se_op ro_add se_var (se_op ro_mul se_var (se_op ro_ix (se_lst (sa_cons se_int (sa_cons (se_neg se_int) sa_nil))) (se_op ro_mod (se_cb rc_int (sa_cons se_var sa_nil)) se_int)))) (by decide)))) (ss_expr (se_append (sa_cons se_var sa_nil)))))) (ss_ret se_var))) h

abbrev s_law_right : Stmt := topS 36
abbrev N_law_right : List Str := ["purse", "crew", "high", "later", "turn", "spot", "task", "here", "there", "k"]
theorem sc_law_right : FnScope N_law_right ["purse", "crew"] (defScope s_law_right) := ⟨rfl, rfl, rfl, by decide +kernel, rfl, by decide +kernel, by decide +kernel⟩
def F_law_right : En → Option Out := (sSeq (sSet 2 (eOp dAdd (eCB bMaxL (aCons (eVar 1) aNil)) (eCall1 2 m_law_toss (aCons (eVar 0) (aCons (eOp dSub (eC (.int 41)) (eCB bMaxL (aCons (eVar 1) aNil))) aNil)))))
    (sSeq (sSet 3 (eCall 2 m_others (aCons (eVar 1) (aCons (eVar 2) aNil))))
    (sSeq (sIf (bOr (bNot (bTest (eCall 1 m_is_team (aCons (eVar 3) aNil)))) (bTest (eOp dNe (eCall 2 m_others (aCons (eVar 3) (aCons (eVar 2) aNil))) (eVar 1))))
    (sRet (eC (.bl false)))
    sNext)
    (sSeq (sIf (bOr (bTest (eOp dNe (eCall 1 m_counts (aCons (eVar 3) aNil)) (eCall 2 m_law_due (aCons (eCall 1 m_counts (aCons (eVar 1) aNil)) (aCons (eVar 2) aNil))))) (bTest (eOp dNe (eCall 1 m_counts (aCons (eVar 1) aNil)) (eCall 2 m_law_due (aCons (eCall 1 m_counts (aCons (eVar 3) aNil)) (aCons (eVar 2) aNil))))))
    (sRet (eC (.bl false)))
    sNext)
    (sSeq (sFor (iR1 (aCons (eIf (bTest (eOp dGt (eVar 2) (eC (.int 0)))) (eC (.int 4)) (eC (.int 0))) aNil)) (tgName 4)
    (sSeq (sPar 5 6 (aCons (eCall1 2 m_law_toss (aCons (eVar 0) (aCons (eCB bLen (aCons (eVar 1) aNil)) aNil))) (aCons (eCall1 2 m_law_toss (aCons (eVar 0) (aCons (eVar 2) aNil))) aNil)))
    (sIf (bTest (eOp dEq (eCall 3 m_can_do (aCons (eVar 1) (aCons (eVar 5) (aCons (eVar 6) aNil)))) (eCall 3 m_can_do (aCons (eVar 3) (aCons (eVar 5) (aCons (eOp dSub (eOp dSub (eVar 2) (eC (.int 1))) (eVar 6)) aNil))))))
    (sRet (eC (.bl false)))
    sNext)))
    (sSeq (sPar 7 8 (aCons (eCall 1 m_spare_numbers (aCons (eVar 1) aNil)) (aCons (eRev (eCall 1 m_spare_numbers (aCons (eVar 3) aNil))) aNil)))
    (sSeq (sFor (iR1 (aCons (eCB bLen (aCons (eVar 1) aNil)) aNil)) (tgName 9)
    (sIf (bTest (eOp dNe (eOp dAdd (eOp dIx (eVar 7) (eVar 9)) (eOp dIx (eVar 8) (eVar 9))) (eOp dAdd (eOp dSub (eVar 2) (eCB bLen (aCons (eVar 1) aNil))) (eC (.int 1)))))
    (sRet (eC (.bl false)))
    sNext))
    (sRet (eOp dGe (eOp dAdd (eCall 1 m_greatest_size (aCons (eVar 1) aNil)) (eCall 1 m_greatest_size (aCons (eVar 3) aNil))) (eCB bMin2 (aCons (eCB bLen (aCons (eVar 1) aNil)) (aCons (eVar 2) aNil))))))))))))
def m_law_right : En → Option Res := bodyM [0] 2 8 F_law_right
theorem ok_law_right {f : Addr} {fd : FuncData} (F : Fun K "_law_right" "_law_right" s_law_right f fd) (m_max : mg "max" = none) (m_range : mg "range" = none) (m_len : mg "len" = none) (m_min : mg "min" = none) (d_law_toss : DefOk P w K mg base "_law_toss" ["purse", "wide"] 1 m_law_toss) (d_others : DefOk P w K mg base "others" ["team", "level"] 4 m_others) (d_is_team : DefOk P w K mg base "is_team" ["thing"] 2 m_is_team) (d_counts : DefOk P w K mg base "counts" ["team"] 4 m_counts) (d_law_due : DefOk P w K mg base "_law_due" ["some", "high"] 2 m_law_due) (d_can_do : DefOk P w K mg base "can_do" ["team", "worker", "job"] 4 m_can_do) (d_spare_numbers : DefOk P w K mg base "spare_numbers" ["team"] 4 m_spare_numbers) (d_greatest_size : DefOk P w K mg base "greatest_size" ["team"] 4 m_greatest_size) : FnOk P w K mg base CX0 5 f fd ["purse", "crew"] (SpM K 2 m_law_right) := by
  have sc := sc_law_right
  refine F.ok sc_law_right (fun vs H Q E h => h.1) (fun cdv A outer s H vs Q E hr h => ⟨_, (pss_cons (ps_set (i := 2) sc.nd rfl (by first | exact .inl rfl | exact .inr rfl) (pe_op op_add (pe_callB (cr_max rfl) (by rfl) m_max (by decide +kernel) (pa_cons (pv 1) pa_nil)) (pe_def (by exact d_law_toss) (by rfl) (by exact hr) (by decide) (by rfl) (pa_cons (pv 0) (pa_cons (pe_op op_sub pe_int (pe_callB (cr_max rfl) (by rfl) m_max (by decide +kernel) (pa_cons (pv 1) pa_nil))) pa_nil)) (by decide) (by rfl) (by rfl)))) (pss_cons (ps_set (i := 3) sc.nd rfl (by first | exact .inl rfl | exact .inr rfl) (pe_def (by exact d_others) (by rfl) (by exact hr) (by decide) (by rfl) (pa_cons (pv 1) (pa_cons (pv 2) pa_nil)) (by decide) (by rfl) (by rfl))) (pss_cons (ps_if (PW.pt (pw_or (pt_not (pt_val (pe_def (by exact d_is_team) (by rfl) (by exact hr) (by decide) (by rfl) (pa_cons (pv 3) pa_nil) (by decide) (by rfl) (by rfl)))) (pw_or1 (pt_cmpR (op_neD hr.units) (pe_def (by exact d_others) (by rfl) (by exact hr) (by decide) (by rfl) (pa_cons (pv 3) (pa_cons (pv 2) pa_nil)) (by decide) (by rfl) (by rfl)) (pv 1) (nomark _))))) (pss_one (ps_ret pe_bl)) pss_nil) (pss_cons (ps_if (PW.pt (pw_or (pt_cmpR (op_neD hr.units) (pe_def (by exact d_counts) (by rfl) (by exact hr) (by decide) (by rfl) (pa_cons (pv 3) pa_nil) (by decide) (by rfl) (by rfl)) (pe_def (by exact d_law_due) (by rfl) (by exact hr) (by decide) (by rfl) (pa_cons (pe_def (by exact d_counts) (by rfl) (by exact hr) (by decide) (by rfl) (pa_cons (pv 1) pa_nil) (by decide) (by rfl) (by rfl)) (pa_cons (pv 2) pa_nil)) (by decide) (by rfl) (by rfl)) (nomark _)) (pw_or1 (pt_cmpR (op_neD hr.units) (pe_def (by exact d_counts) (by rfl) (by exact hr) (by decide) (by rfl) (pa_cons (pv 1) pa_nil) (by decide) (by rfl) (by rfl)) (pe_def (by exact d_law_due) (by rfl) (by exact hr) (by decide) (by rfl) (pa_cons (pe_def (by exact d_counts) (by rfl) (by exact hr) (by decide) (by rfl) (pa_cons (pv 3) pa_nil) (by decide) (by rfl) (by rfl)) (pa_cons (pv 2) pa_nil)) (by decide) (by rfl) (by rfl)) (nomark _))))) (pss_one (ps_ret pe_bl)) pss_nil) (pss_cons (ps_for PassesOwn.never rfl (pi_range1 (by rfl) m_range (pa_cons (pe_ifExp (pt_cmpR op_gt (pv 2) pe_int (nomark _)) pe_int pe_int) pa_nil)) (pg_name (i := 4) sc.nd rfl (by first | exact .inl rfl | exact .inr rfl)) (pss_cons (ps_par (i := 5) (j := 6) rfl sc.nd rfl rfl (by decide) rfl rfl (pa_cons (pe_def (by exact d_law_toss) (by rfl) (by exact hr) (by decide) (by rfl) (pa_cons (pv 0) (pa_cons (pe_callB call_len_seq (by rfl) m_len PySem.boot_len (pa_cons (pv 1) pa_nil)) pa_nil)) (by decide) (by rfl) (by rfl)) (pa_cons (pe_def (by exact d_law_toss) (by rfl) (by exact hr) (by decide) (by rfl) (pa_cons (pv 0) (pa_cons (pv 2) pa_nil)) (by decide) (by rfl) (by rfl)) pa_nil)) (by rfl)) (pss_one (ps_if (pt_cmpR (op_eqD hr.units) (pe_def (by exact d_can_do) (by rfl) (by exact hr) (by decide) (by rfl) (pa_cons (pv 1) (pa_cons (pv 5) (pa_cons (pv 6) pa_nil))) (by decide) (by rfl) (by rfl)) (pe_def (by exact d_can_do) (by rfl) (by exact hr) (by decide) (by rfl) (pa_cons (pv 3) (pa_cons (pv 5) (pa_cons (pe_op op_sub (pe_op op_sub (pv 2) pe_int) (pv 6)) pa_nil))) (by decide) (by rfl) (by rfl)) (nomark _)) (pss_one (ps_ret pe_bl)) pss_nil)))) (pss_cons (ps_par (i := 7) (j := 8) rfl sc.nd rfl rfl (by decide) rfl rfl (pa_cons (pe_def (by exact d_spare_numbers) (by rfl) (by exact hr) (by decide) (by rfl) (pa_cons (pv 1) pa_nil) (by decide) (by rfl) (by rfl)) (pa_cons (pe_revL (pe_def (by exact d_spare_numbers) (by rfl) (by exact hr) (by decide) (by rfl) (pa_cons (pv 3) pa_nil) (by decide) (by rfl) (by rfl))) pa_nil)) (by rfl)) (pss_cons (ps_for PassesOwn.never rfl (pi_range1 (by rfl) m_range (pa_cons (pe_callB call_len_seq (by rfl) m_len PySem.boot_len (pa_cons (pv 1) pa_nil)) pa_nil)) (pg_name (i := 9) sc.nd rfl (by first | exact .inl rfl | exact .inr rfl)) (pss_one (ps_if (pt_cmpR (op_neD hr.units) (pe_op op_add (pe_ix ix_seq (pv 7) (pv 9) (fun _ _ => rfl)) (pe_ix ix_seq (pv 8) (pv 9) (fun _ _ => rfl))) (pe_op op_add (pe_op op_sub (pv 2) (pe_callB call_len_seq (by rfl) m_len PySem.boot_len (pa_cons (pv 1) pa_nil))) pe_int) (nomark _)) (pss_one (ps_ret pe_bl)) pss_nil))) (pss_one (ps_ret (pe_cmpR op_ge (pe_op op_add (pe_def (by exact d_greatest_size) (by rfl) (by exact hr) (by decide) (by rfl) (pa_cons (pv 1) pa_nil) (by decide) (by rfl) (by rfl)) (pe_def (by exact d_greatest_size) (by rfl) (by exact hr) (by decide) (by rfl) (pa_cons (pv 3) pa_nil) (by decide) (by rfl) (by rfl))) (pe_callB (call_min2 rfl) (by rfl) m_min (by decide +kernel) (pa_cons (pe_callB call_len_seq (by rfl) m_len PySem.boot_len (pa_cons (pv 1) pa_nil)) (pa_cons (pv 2) pa_nil))) (nomark _))))))))))), ?_⟩)
  exact body_ok (N := N_law_right) (n := 2) (k := 8) (fix := [0]) (F := F_law_right) rfl (by decide) (ss_seq (ss_set (se_op ro_add (se_cb rc_maxL (sa_cons se_var sa_nil)) (se_call1 (n := 2) (m := m_law_toss) (sa_cons se_var (sa_cons (se_op ro_sub se_int (se_cb rc_maxL (sa_cons se_var sa_nil))) sa_nil)))) (by decide)) (ss_seq (ss_set (se_call (n := 2) (m := m_others) (sa_cons se_var (sa_cons se_var sa_nil))) (by decide)) (ss_seq (ss_if (st_or (st_not (st_B (se_call (n := 1) (m := m_is_team) (sa_cons se_var sa_nil)))) (st_test (se_op ro_ne (se_call (n := 2) (m := m_others) (sa_cons se_var (sa_cons se_var sa_nil))) se_var))) (ss_ret se_bl) ss_next) (ss_seq (ss_if (st_or (st_test (se_op ro_ne (se_call (n := 1) (m := m_counts) (sa_cons se_var sa_nil)) (se_call (n := 2) (m := m_law_due) (sa_cons (se_call (n := 1) (m := m_counts) (sa_cons se_var sa_nil)) (sa_cons se_var sa_nil))))) (st_test (se_op ro_ne (se_call (n := 1) (m := m_counts) (sa_cons se_var sa_nil)) (se_call (n := 2) (m := m_law_due) (sa_cons (se_call (n := 1) (m := m_counts) (sa_cons se_var sa_nil)) (sa_cons se_var sa_nil)))))) (ss_ret se_bl) ss_next) (ss_seq (ss_for (si_r1 (sa_cons (se_if (st_test (se_op ro_gt se_var se_int)) se_int se_int) sa_nil)) (sg_name (by decide)) (ss_seq (ss_par (sa_cons (se_call1 (n := 2) (m := m_law_toss) (sa_cons se_var (sa_cons (se_cb rc_len (sa_cons se_var sa_nil)) sa_nil))) (sa_cons (se_call1 (n := 2) (m := m_law_toss) (sa_cons se_var (sa_cons se_var sa_nil))) sa_nil)) (by decide) (by decide)) (ss_if (st_test (se_op ro_eq (se_call (n := 3) (m := m_can_do) (sa_cons se_var (sa_cons se_var (sa_cons se_var sa_nil)))) (se_call (n := 3) (m := m_can_do) (sa_cons se_var (sa_cons se_var (sa_cons (se_op ro_sub (se_op ro_sub se_var se_int) se_var) sa_nil)))))) (ss_ret se_bl) ss_next))) (ss_seq (ss_par (sa_cons (se_call (n := 1) (m := m_spare_numbers) (sa_cons se_var sa_nil)) (sa_cons (se_rev (se_call (n := 1) (m := m_spare_numbers) (sa_cons se_var sa_nil))) sa_nil)) (by decide) (by decide)) (ss_seq (ss_for (si_r1 (sa_cons (se_cb rc_len (sa_cons se_var sa_nil)) sa_nil)) (sg_name (by decide)) (ss_if (st_test (se_op ro_ne (se_op ro_add (se_op ro_ix se_var se_var) (se_op ro_ix se_var se_var)) (se_op ro_add (se_op ro_sub se_var (se_cb rc_len (sa_cons se_var sa_nil))) se_int))) (ss_ret se_bl) ss_next)) (ss_ret (se_op ro_ge (se_op ro_add (se_call (n := 1) (m := m_greatest_size) (sa_cons se_var sa_nil)) (se_call (n := 1) (m := m_greatest_size) (sa_cons se_var sa_nil))) (se_cb rc_min2 (sa_cons (se_cb rc_len (sa_cons se_var sa_nil)) (sa_cons se_var sa_nil)))))))))))) h

abbrev s_law : Stmt := topS 37
abbrev N_law : List Str := ["script", "k", "purse", "most", "top", "crew", "grade"]
theorem sc_law : FnScope N_law ["script"] (defScope s_law) := ⟨rfl, rfl, rfl, by decide +kernel, rfl, by decide +kernel, by decide +kernel⟩
def F_law : En → Option Out := (sSeq (sFor (iR1 (aCons (eCB bMax2 (aCons (eC (.int 1)) (aCons (eCB bMin2 (aCons (eC (.int 4)) (aCons (eCB bLen (aCons (eVar 0) aNil)) aNil))) aNil))) aNil)) (tgName 1)
    (sSeq (sSet 2 (eCall 2 m_law_purse (aCons (eVar 0) (aCons (eVar 1) aNil))))
    (sFor (iTupF (eTup (aCons (eTup (aCons (eC (.int 20)) (aCons (eC (.int 20)) aNil))) (aCons (eTup (aCons (eC (.int 20)) (aCons (eC (.int 3)) aNil))) (aCons (eTup (aCons (eC (.int 9)) (aCons (eC (.int 31)) aNil))) (aCons (eTup (aCons (eC (.int 1)) (aCons (eC (.int 40)) aNil))) aNil)))))) (tgTup 2 (tgCons (tgName 3) (tgCons (tgName 4) tgNil)))
    (sSeq (sSet 5 (eLc [6] (iSeq (eCall1 3 m_law_team (aCons (eVar 2) (aCons (eVar 3) (aCons (eVar 4) aNil))))) (tgName 6) bYes (eCB bMin2 (aCons (eC (.int 40)) (aCons (eVar 6) aNil)))))
    (sIf (bNot (bTest (eCall1 2 m_law_right (aCons (eVar 2) (aCons (eVar 5) aNil)))))
    (sRet (eC (.bl false)))
    sNext)))))
    (sRet (eAnd (eOp dEq (eCall 2 m_others (aCons (eLst (aCons (eC (.int 2)) (aCons (eC (.int 1)) (aCons (eC (.int 2)) aNil)))) (aCons (eC (.int 3)) aNil))) (eLst (aCons (eC (.int 1)) (aCons (eC (.int 2)) (aCons (eC (.int 1)) aNil))))) (eOp dEq (eCall 2 m_others (aCons (eLst (aCons (eC (.int 0)) aNil)) (aCons (eC (.int 0)) aNil))) (eLst (aCons (eC (.int 0)) aNil))))))
def m_law : En → Option Res := bodyM [] 1 6 F_law
theorem ok_law {f : Addr} {fd : FuncData} (F : Fun K "law" "law" s_law f fd) (m_len : mg "len" = none) (m_min : mg "min" = none) (m_max : mg "max" = none) (m_range : mg "range" = none) (d_law_purse : DefOk P w K mg base "_law_purse" ["script", "k"] 1 m_law_purse) (d_law_team : DefOk P w K mg base "_law_team" ["purse", "most", "top"] 2 m_law_team) (d_law_right : DefOk P w K mg base "_law_right" ["purse", "crew"] 5 m_law_right) (d_others : DefOk P w K mg base "others" ["team", "level"] 4 m_others) : FnOk P w K mg base CX0 6 f fd ["script"] (SpM K 1 m_law) := by
  have sc := sc_law
  refine F.ok sc_law (fun vs H Q E h => h.1) (fun cdv A outer s H vs Q E hr h => ⟨_, (pss_cons (ps_for PassesOwn.never rfl (pi_range1 (by rfl) m_range (pa_cons (pe_callB (call_max2 rfl) (by rfl) m_max (by decide +kernel) (pa_cons pe_int (pa_cons (pe_callB (call_min2 rfl) (by rfl) m_min (by decide +kernel) (pa_cons pe_int (pa_cons (pe_callB call_len_seq (by rfl) m_len PySem.boot_len (pa_cons (pv 0) pa_nil)) pa_nil))) pa_nil))) pa_nil)) (pg_name (i := 1) sc.nd rfl (by first | exact .inl rfl | exact .inr rfl)) (pss_cons (ps_set (i := 2) sc.nd rfl (by first | exact .inl rfl | exact .inr rfl) (pe_def (by exact d_law_purse) (by rfl) (by exact hr) (by decide) (by rfl) (pa_cons (pv 0) (pa_cons (pv 1) pa_nil)) (by decide) (by rfl) (by rfl))) (pss_one (ps_for PassesOwn.never rfl (pi_tup (pe_tup (pa_cons (pe_tup (pa_cons pe_int (pa_cons pe_int pa_nil))) (pa_cons (pe_tup (pa_cons pe_int (pa_cons pe_int pa_nil))) (pa_cons (pe_tup (pa_cons pe_int (pa_cons pe_int pa_nil))) (pa_cons (pe_tup (pa_cons pe_int (pa_cons pe_int pa_nil))) pa_nil)))))) (pg_tup rfl (pgs_cons (pg_name (i := 3) sc.nd rfl (by first | exact .inl rfl | exact .inr rfl)) (pgs_cons (pg_name (i := 4) sc.nd rfl (by first | exact .inl rfl | exact .inr rfl)) pgs_nil))) (pss_cons (by first | exact (ps_setLc (i := 5) (own := [("grade", 6)]) (g := (gName 6)) (tt := tYes) (te := (tCB rMn2 (tCons (tC (.int 40)) (tCons (tVar 6) tNil)))) rfl sc.nd rfl rfl (sw_true rfl rfl rfl (by decide +kernel)) (pi_list (pe_def (by exact d_law_team) (by rfl) (by exact hr) (by decide) (by rfl) (pa_cons (pv 2) (pa_cons (pv 3) (pa_cons (pv 4) pa_nil))) (by decide) (by rfl) (by rfl))) (blkOk_by (N := N_law) (sc := defScope s_law) (by decide +kernel)) (fun _ _ _ _ _ => by exact (pg_name (i := 6) sc.nd rfl (Or.inl rfl))) (fun _ _ _ _ _ => by exact pts_nil) (fun _ _ _ _ _ => by exact (pe_callB (call_min2 rfl) (by rfl) m_min (by decide +kernel) (pa_cons pe_int (pa_cons (pv 6) pa_nil))))) | exact (ps_set (i := 5) sc.nd rfl (by first | exact .inl rfl | exact .inr rfl) (pe_lc (own := [("grade", 6)]) (g := (gName 6)) (tt := tYes) (te := (tCB rMn2 (tCons (tC (.int 40)) (tCons (tVar 6) tNil)))) rfl sc.nd (pi_list (pe_def (by exact d_law_team) (by rfl) (by exact hr) (by decide) (by rfl) (pa_cons (pv 2) (pa_cons (pv 3) (pa_cons (pv 4) pa_nil))) (by decide) (by rfl) (by rfl))) (blkOk_by (N := N_law) (sc := defScope s_law) (by decide +kernel)) (fun _ _ _ _ _ => by exact (pg_name (i := 6) sc.nd rfl (Or.inl rfl))) (fun _ _ _ _ _ => by exact pts_nil) (fun _ _ _ _ _ => by exact (pe_callB (call_min2 rfl) (by rfl) m_min (by decide +kernel) (pa_cons pe_int (pa_cons (pv 6) pa_nil))))))) (pss_one (ps_if (pt_not (pt_val (pe_def (by exact d_law_right) (by rfl) (by exact hr) (by decide) (by rfl) (pa_cons (pv 2) (pa_cons (pv 5) pa_nil)) (by decide) (by rfl) (by rfl)))) (pss_one (ps_ret pe_bl)) pss_nil))))))) (pss_one (ps_ret (pe_and (pe_cmpR (op_eqD hr.units) (pe_def (by exact d_others) (by rfl) (by exact hr) (by decide) (by rfl) (pa_cons (pe_lst (pa_cons pe_int (pa_cons pe_int (pa_cons pe_int pa_nil)))) (pa_cons pe_int pa_nil)) (by decide) (by rfl) (by rfl)) (pe_lst (pa_cons pe_int (pa_cons pe_int (pa_cons pe_int pa_nil)))) (nomark _)) (pe_one (pe_cmpR (op_eqD hr.units) (pe_def (by exact d_others) (by rfl) (by exact hr) (by decide) (by rfl) (pa_cons (pe_lst (pa_cons pe_int pa_nil)) (pa_cons pe_int pa_nil)) (by decide) (by rfl) (by rfl)) (pe_lst (pa_cons pe_int pa_nil)) (nomark _))))))), ?_⟩)
  exact body_ok (N := N_law) (n := 1) (k := 6) (fix := []) (F := F_law) rfl (by decide) (ss_seq (ss_for (si_r1 (sa_cons (se_cb rc_max2 (sa_cons se_int (sa_cons (se_cb rc_min2 (sa_cons se_int (sa_cons (se_cb rc_len (sa_cons se_var sa_nil)) sa_nil))) sa_nil))) sa_nil)) (sg_name (by decide)) (ss_seq (ss_set (se_call (n := 2) (m := m_law_purse) (sa_cons se_var (sa_cons se_var sa_nil))) (by decide)) (ss_for (si_tup (se_tup (sa_cons (se_tup (sa_cons se_int (sa_cons se_int sa_nil))) (sa_cons (se_tup (sa_cons se_int (sa_cons se_int sa_nil))) (sa_cons (se_tup (sa_cons se_int (sa_cons se_int sa_nil))) (sa_cons (se_tup (sa_cons se_int (sa_cons se_int sa_nil))) sa_nil)))))) (sg_tup (n := 2) (sgs_cons (sg_name (by decide)) (sgs_cons (sg_name (by decide)) sgs_nil))) (ss_seq (ss_set (se_lc (si_list (se_call1 (n := 3) (m := m_law_team) (sa_cons se_var (sa_cons se_var (sa_cons se_var sa_nil))))) (sg_name (by decide)) (by decide) st_yes (se_cb rc_min2 (sa_cons se_int (sa_cons se_var sa_nil)))) (by decide)) (ss_if (st_not (st_B (se_call1 (n := 2) (m := m_law_right) (sa_cons se_var (sa_cons se_var sa_nil))))) (ss_ret se_bl) ss_next))))) (ss_ret (se_and (se_op ro_eq (se_call (n := 2) (m := m_others) (sa_cons (se_lst (sa_cons se_int (sa_cons se_int (sa_cons se_int sa_nil)))) (sa_cons se_int sa_nil))) (se_lst (sa_cons se_int (sa_cons se_int (sa_cons se_int sa_nil))))) (se_op ro_eq (se_call (n := 2) (m := m_others) (sa_cons (se_lst (sa_cons se_int sa_nil)) (sa_cons se_int sa_nil))) (se_lst (sa_cons se_int sa_nil)))))) h
end
end Tk23

set_option Elab.async false
set_option linter.all false
set_option maxRecDepth 100000
namespace Tk23
open PySem PySem.Spec PyProof.Rows L2 Evl Vm
open Ar (along nx wn)
abbrev di (ns : List Int) : D := .lst (ns.map .int)
theorem is_whole_int (i : Int) : m_is_whole [.sh (.int i)] = some (.val (.bl true) [.un]) := by
  simp [m_is_whole, bodyM, F_is_whole]
theorem is_within_int (i a b : Int) : m_is_within [.sh (.int i), .sh (.int a), .sh (.int b)] = some (.val (.bl (decide (a ≤ i) && decide (i ≤ b))) [.un, .un, .un]) := by
  by_cases h : a ≤ i <;> simp [m_is_within, bodyM, F_is_within, is_whole_int, h] <;> rfl
theorem check_worker_ok {n : List Int} {i : Int} (h : 0 ≤ i ∧ i < n.length) : m_check_worker [.sh (di n), .sh (.int i)] = some (.val .non [.un, .un]) := by
  have h1 : i ≤ (n.length : Int) - 1 := by omega
  simp [m_check_worker, bodyM, F_check_worker, is_within_int, h, h1] <;> rfl
theorem check_job_ok {i : Int} (h : 0 ≤ i ∧ i ≤ 59) : m_check_job [.sh (.int i)] = some (.val .non [.un]) := by
  simp [m_check_job, bodyM, F_check_job, is_within_int, h] <;> rfl
/-- the levels less their places -/
def sparesFrom : Nat → List Int → List Int
  | _, [] => []
  | k, x :: xs => (x - k) :: sparesFrom (k + 1) xs
def spares (ns : List Int) : List Int := sparesFrom 0 (srt ns)
theorem sparesFrom_len : ∀ (k : Nat) (ns : List Int), (sparesFrom k ns).length = ns.length
  | _, [] => rfl
  | k, n :: ns => congrArg (· + 1) (sparesFrom_len (k + 1) ns)
theorem sparesFrom_get : ∀ (k : Nat) (ns : List Int) (i : Nat), (sparesFrom k ns)[i]? = (ns[i]?).map fun x => x - ((k + i : Nat) : Int)
  | _, [], i => by simp [sparesFrom]
  | k, n :: ns, 0 => by simp [sparesFrom]
  | k, n :: ns, i + 1 => by
    show (sparesFrom (k + 1) ns)[i]? = (ns[i]?).map _
    rw [sparesFrom_get (k + 1) ns i, show k + 1 + i = k + (i + 1) by omega]
theorem enumD_ints : ∀ (k : Nat) (ns : List Int), enumD k (ns.map D.int) = (ns.zipIdx k).map fun p => .tup [.int (p.2 : Int), .int p.1]
  | _, [] => rfl
  | k, n :: ns => by
    show _ :: enumD (k + 1) (ns.map D.int) = _
    rw [enumD_ints (k + 1) ns]
    rfl
theorem spares_zip : ∀ (k : Nat) (ns : List Int), (ns.zipIdx k).map (fun p => p.1 - (p.2 : Int)) = sparesFrom k ns
  | _, [] => rfl
  | k, n :: ns => by
    show _ :: (ns.zipIdx (k + 1)).map _ = _
    rw [spares_zip (k + 1) ns]
    rfl
theorem srt_len (ns : List Int) : (srt ns).length = ns.length := (srt_perm ns).length_eq
theorem spares_len (ns : List Int) : (spares ns).length = ns.length := by
  unfold spares
  rw [sparesFrom_len, srt_len]
theorem spares_of_ok (ns : List Int) (h : ns.length < 1000000) : m_spares_of [.sh (di ns)] = some (.fr ((spares ns).map .int) [.un]) := by
  have q := lc_map (vs := [1, 2]) (tgt := tgTup 2 (tgCons (tgName 1) (tgCons (tgName 2) tgNil))) (test := bYes) (elt := eOp dSub (eVar 2) (eVar 1)) (fun p : Int × Nat => .tup [.int (p.2 : Int), .int p.1]) (fun p => .int (p.1 - (p.2 : Int))) ((srt ns).zipIdx 0) [.sh (.lst (ns.map .int)), .un, .un] (by
    intro p _
    simp [turn, wipeE])
  have e : (spares ns).map D.int = ((srt ns).zipIdx 0).map fun p => D.int (p.1 - (p.2 : Int)) := by
    unfold spares
    rw [← spares_zip, List.map_map]
    rfl
  simp [m_spares_of, bodyM, F_spares_of, eLc, enumD_ints, plainAt, wipeE, srt_len, h, e, q, back]
/-- what a team is -/
structure Team (ns : List Int) : Prop where
  pos : 1 ≤ ns.length
  few : ns.length ≤ 20
  nn : ∀ x ∈ ns, 0 ≤ x
  sp : ∀ s ∈ spares ns, s ≤ 40
theorem is_team_ok {ns : List Int} (T : Team ns) : m_is_team [.sh (di ns)] = some (.val (.bl true) [.un]) := by
  have q := lc_map (vs := [1]) (tgt := tgName 1) (test := bYes) (elt := eAnd (eCall 1 m_is_whole (aCons (eVar 1) aNil)) (eOp dGe (eVar 1) (eC (.int 0)))) (fun x : Int => .int x) (fun x => .bl true) ns [.sh (.lst (ns.map .int)), .un] (by
    intro p hp
    simp [turn, wipeE, is_whole_int, T.nn p hp])
  have e : (ns.map fun _ => D.bl true) = (ns.map fun _ => true).map D.bl := by rw [List.map_map]; rfl
  have ha : (ns.map fun _ => true).all id = true := by simp
  have hl : ns.length < 1000000 := by have := T.few; omega
  have hs : spares ns ≠ [] := fun z => by
    have := spares_len ns
    rw [z] at this
    have := T.pos
    simp at *
    omega
  have hm : maxL (spares ns) ≤ 40 := T.sp _ (maxL_mem hs)
  have h1 : (1 : Int) ≤ (ns.length : Int) := by have := T.pos; omega
  have h2 : (ns.length : Int) ≤ 20 := by have := T.few; omega
  rw [e] at q
  clear e
  generalize (ns.map fun _ => true) = bs at q ha
  simp [m_is_team, bodyM, F_is_team, h1, h2, eLc, plainAt, wipeE, back, q, ha, spares_of_ok ns hl, hs, hm, hl]
theorem check_team_ok {ns : List Int} (T : Team ns) : m_check_team [.sh (di ns)] = some (.val .non [.un]) := by
  simp [m_check_team, bodyM, F_check_team, is_team_ok T]
theorem spare_numbers_ok {ns : List Int} (T : Team ns) : m_spare_numbers [.sh (di ns)] = some (.fr ((spares ns).map .int) [.un]) := by
  have hl : ns.length < 1000000 := by have := T.few; omega
  simp [m_spare_numbers, bodyM, F_spare_numbers, check_team_ok T, spares_of_ok ns hl]
theorem atI_int {ns : List Int} {i : Int} (h0 : 0 ≤ i) (h1 : i < ns.length) : atI (ns.map D.int) i = some (.int (ns.getD i.toNat 0)) := by
  rw [atI_map]
  have : atI ns i = ns[i.toNat]? := by
    unfold atI ixN
    rw [if_pos h0, if_pos h1]
    rfl
  rw [this, List.getD_eq_getElem?_getD, List.getElem?_eq_getElem (by omega)]
  rfl
theorem can_do_ok {ns : List Int} (T : Team ns) {i j : Int} (h0 : 0 ≤ i) (h1 : i < ns.length) (h2 : 0 ≤ j ∧ j ≤ 59) : m_can_do [.sh (di ns), .sh (.int i), .sh (.int j)] = some (.val (.bl (decide (j < ns.getD i.toNat 0))) [.un, .un, .un]) := by
  simp [m_can_do, bodyM, F_can_do, check_team_ok T, check_worker_ok ⟨h0, h1⟩, check_job_ok h2, atI_int h0 h1] <;> rfl
/-- how many levels are above b -/
def above (ns : List Int) (b : Int) : Nat := (ns.filter fun x => decide (b < x)).length
theorem count_above_ok (ns : List Int) (b : Int) (h : ns.length < 1000000) : m_count_above [.sh (di ns), .sh (.int b)] = some (.val (.int (above ns b)) [.un, .un]) := by
  have q := lc_pure (vs := [2]) (tgt := tgName 2) (test := bTest (eOp dGt (eVar 2) (eVar 1))) (elt := eC (.int 1)) (fun x : Int => .int x) (fun x => if b < x then some (.int 1) else none) ns [.sh (.lst (ns.map .int)), .sh (.int b), .un] (by
    intro p hp
    by_cases hb : b < p <;> simp [turn, wipeE, hb])
  have e : ns.filterMap (fun x => if b < x then some (D.int 1) else none) = (List.replicate (above ns b) 1).map D.int := by
    unfold above
    clear q h
    induction ns with
    | nil => rfl
    | cons x xs ih =>
      by_cases hb : b < x
      · simp [hb, ih, List.replicate_succ]
      · simp [hb, ih]
  have hsum : ∀ n : Nat, (List.replicate n (1 : Int)).sum = n := by
    intro n
    induction n with
    | zero => rfl
    | succ n ih => rw [List.replicate_succ, List.sum_cons, ih]; omega
  rw [e] at q
  clear e
  have hs := hsum (above ns b)
  generalize List.replicate (above ns b) (1 : Int) = rs at q hs
  simp [m_count_above, bodyM, F_count_above, eLc, plainAt, wipeE, back, q, h, hs] <;> rfl
theorem srt_mem {ns : List Int} {x : Int} : x ∈ srt ns ↔ x ∈ ns := (srt_perm ns).mem_iff
theorem max_ok {ns : List Int} (T : Team ns) : ns ≠ [] := fun z => by
  have := T.pos
  rw [z] at this
  simp at this
theorem others_ok {ns : List Int} (T : Team ns) {h : Int} (h1 : maxL ns ≤ h) (h2 : h ≤ 40) : m_others [.sh (di ns), .sh (.int h)] = some (.fr ((ns.map fun x => h - x).map .int) [.un, .un]) := by
  have q := lc_map (vs := [2]) (tgt := tgName 2) (test := bYes) (elt := eOp dSub (eVar 1) (eVar 2)) (fun x : Int => .int x) (fun x => .int (h - x)) ns [.sh (.lst (ns.map .int)), .sh (.int h), .un] (by
    intro p hp
    simp [turn, wipeE])
  have hl : ns.length < 1000000 := by have := T.few; omega
  simp [m_others, bodyM, F_others, check_team_ok T, max_ok T, is_within_int, h1, h2, eLc, plainAt, wipeE, back, q, hl] <;> rfl

/-! ### counting -/
theorem wn_snoc (b : Int) : ∀ (pre : List Int) (x prev : Int) (k : Nat) (rest : List Int), True := fun _ _ _ _ _ => trivial
/-- behind the first items: what the longer list holds -/
def lg (b : Int) : Int → Nat → List Int → List Int → List Int
  | prev, _, [], r :: rs => (r + prev) :: rs
  | prev, _, [], [] => [prev]
  | prev, k, c :: cs, rs => (c + prev) :: lg b (c * (b - k)) (k + 1) cs rs
theorem lg_end (b : Int) : ∀ (cs : List Int) (prev : Int) (k : Nat), lg b prev k cs [0] = wn b prev k cs
  | [], prev, k => by simp [lg, wn]
  | c :: cs, prev, k => by
    show (c + prev) :: lg b (c * (b - k)) (k + 1) cs [0] = (c + prev) :: wn b (c * (b - k)) (k + 1) cs
    rw [lg_end b cs]
theorem lg_get (b : Int) : ∀ (pre : List Int) (x r prev : Int) (k : Nat) (rest : List Int), (lg b prev k pre (x :: r :: rest))[pre.length + 1]? = some r
  | [], x, r, prev, k, rest => by simp [lg]
  | c :: pre, x, r, prev, k, rest => by
    show (lg b (c * (b - k)) (k + 1) pre (x :: r :: rest))[pre.length + 1]? = some r
    exact lg_get b pre x r _ _ rest
theorem lg_step (b : Int) : ∀ (pre : List Int) (x r prev : Int) (k : Nat) (rest : List Int), (lg b prev k pre (x :: r :: rest)).set (pre.length + 1) (r + x * (b - ((k + pre.length : Nat) : Int))) = lg b prev k (pre ++ [x]) (r :: rest)
  | [], x, r, prev, k, rest => by simp [lg]
  | c :: pre, x, r, prev, k, rest => by
    show (c + prev) :: (lg b (c * (b - k)) (k + 1) pre (x :: r :: rest)).set (pre.length + 1) (r + x * (b - ((k + (pre.length + 1) : Nat) : Int))) = (c + prev) :: lg b (c * (b - k)) (k + 1) (pre ++ [x]) (r :: rest)
    rw [show k + (pre.length + 1) = k + 1 + pre.length by omega, lg_step b pre]
theorem lg_length (b : Int) : ∀ (pre rest : List Int) (prev : Int) (k : Nat), rest ≠ [] → (lg b prev k pre rest).length = pre.length + rest.length
  | [], r :: rest, prev, k, _ => by simp [lg]
  | [], [], prev, k, h => absurd rfl h
  | c :: pre, rest, prev, k, h => by
    show (lg b (c * (b - k)) (k + 1) pre rest).length + 1 = _
    rw [lg_length b pre rest _ _ h]
    simp
    omega
theorem small_mul {i j : Int} (h : -(2 ^ 64) < j ∧ j < 2 ^ 64) : CMulA i j := .inl (.inr h)
theorem with_next_ok (cs : List Int) (b : Int) (hl : cs.length ≤ 1000) (hb : 0 ≤ b ∧ b ≤ 1000) : m_counts_with_next [.sh (di cs), .sh (.int b)] = some (.fr ((nx b cs).map .int) [.un, .un]) := by
  obtain ⟨env, h1, u, v, he⟩ := loop_turns (tgt := tgTup 2 (tgCons (tgName 3) (tgCons (tgName 4) tgNil))) (body := sPutAug 2 dAdd (eOp dAdd (eVar 3) (eC (.int 1))) (eOp dMul (eVar 4) (eOp dSub (eVar 1) (eVar 3))))
    (fun p : Int × Nat => .tup [.int (p.2 : Int), .int p.1]) (fun pre env => ∃ u v, env = [.sh (di cs), .sh (.int b), .ow ((lg b 0 0 (pre.map (·.1)) (cs.drop pre.length ++ [0])).map .int), u, v]) (cs.zipIdx 0)
    [.sh (di cs), .sh (.int b), .ow ((cs ++ [0]).map .int), .un, .un] (by
      refine ⟨.un, .un, ?_⟩
      cases cs with
      | nil => simp [lg]
      | cons c cs => simp [lg]) (by
      rintro pre ⟨x, j⟩ post env ex ⟨u, v, rfl⟩
      have hz : (cs.zipIdx 0)[pre.length]? = some (x, j) := by rw [ex]; simp
      rw [List.getElem?_zipIdx] at hz
      have hlt : pre.length < cs.length := by
        have h2 : (cs.zipIdx 0).length = cs.length := List.length_zipIdx
        rw [ex] at h2
        simp at h2
        omega
      rw [List.getElem?_eq_getElem hlt] at hz
      have hxj : cs[pre.length] = x ∧ pre.length = j := by simpa using hz
      obtain ⟨hx, rfl⟩ := hxj
      have hdrop : cs.drop pre.length ++ [0] = x :: (cs.drop (pre.length + 1) ++ [0]) := by
        rw [List.drop_eq_getElem_cons hlt, hx]
        rfl
      obtain ⟨r, rest, hr⟩ : ∃ r rest, cs.drop (pre.length + 1) ++ [0] = r :: rest := by
        cases q : cs.drop (pre.length + 1) with
        | nil => exact ⟨0, [], rfl⟩
        | cons a l => exact ⟨a, l ++ [0], rfl⟩
      have hpl : (pre.map (·.1)).length = pre.length := List.length_map _
      have g := lg_get b (pre.map (·.1)) x r 0 0 rest
      have st := lg_step b (pre.map (·.1)) x r 0 0 rest
      have ln := lg_length b (pre.map (·.1)) (x :: r :: rest) 0 0 (by simp)
      rw [hpl] at g st ln
      rw [Nat.zero_add] at st
      rw [hdrop, hr]
      have hix : ixN (lg b 0 0 (pre.map (·.1)) (x :: r :: rest)).length ((pre.length : Int) + 1) = some (pre.length + 1) := by
        unfold ixN
        rw [if_pos (by omega), if_pos (by rw [ln]; simp; omega)]
        congr 1
      have hat : atI ((lg b 0 0 (pre.map (·.1)) (x :: r :: rest)).map D.int) ((pre.length : Int) + 1) = some (.int r) := by
        rw [atI_map]
        unfold atI
        rw [hix]
        show (((lg b 0 0 (pre.map (·.1)) (x :: r :: rest))[pre.length + 1]?).map D.int) = _
        rw [g]
        rfl
      have hm : CMulA x (b - (pre.length : Int)) := small_mul (by omega)
      refine ⟨[.sh (di cs), .sh (.int b), .ow ((lg b 0 0 (pre.map (·.1) ++ [x]) (r :: rest)).map .int), .sh (.int (pre.length : Int)), .sh (.int x)], ?_, .sh (.int (pre.length : Int)), .sh (.int x), ?_⟩
      · simp [hat, hix, x_mul hm, ← st]
      · simp [hr])
  have hl1 : (cs.length : Nat) + 1 ≤ sizeLine := Nat.le_trans (show cs.length + 1 ≤ 1001 by omega) (by decide)
  have he' : cs.drop (cs.zipIdx 0).length = [] := by rw [List.length_zipIdx]; simp
  have hz : (cs.zipIdx 0).map (·.1) = cs := by simp
  rw [he', hz, List.nil_append, lg_end] at he
  subst he
  simp only [List.map_append, List.map_cons, List.map_nil] at h1
  simp [m_counts_with_next, bodyM, F_counts_with_next, hl1, enumD_ints, h1, nx]
end Tk23

set_option Elab.async false
set_option linter.all false
set_option maxRecDepth 100000
namespace Tk23
open PySem PySem.Spec PyProof.Rows L2 Evl Vm
open Ar (along nx wn nx_length)
theorem counts_along_ok (ns : List Int) (hl : ns.length ≤ 900) (hb : ∀ b ∈ ns, 0 ≤ b ∧ b ≤ 1000) : m_counts_along [.sh (di ns)] = some (.fr ((along ns).map .int) [.un]) := by
  obtain ⟨env, h1, s1, v, rfl, hs1⟩ := loop_turns (tgt := tgName 2) (body := sSet 1 (eCall 2 m_counts_with_next (aCons (eVar 1) (aCons (eVar 2) aNil)))) (fun x : Int => .int x)
    (fun pre env => ∃ s v, env = [.sh (di ns), s, v] ∧ (s = .ow ((along pre).map .int))) ns [.sh (di ns), .ow [.int 1], .un] ⟨_, _, rfl, rfl⟩ (by
      rintro pre x post env ex ⟨s, v, rfl, rfl⟩
      have hx := hb x (by rw [ex]; simp)
      have hlen : (along pre).length ≤ 1000 := by
        rw [Ar.along_length]
        have := congrArg List.length ex
        simp at this
        omega
      have hn := with_next_ok (along pre) x hlen hx
      refine ⟨[.sh (di ns), .ow ((nx x (along pre)).map .int), .sh (.int x)], by simp [hn], _, _, rfl, ?_⟩
      unfold along
      rw [List.foldl_append]
      rfl)
  subst hs1
  simp [m_counts_along, bodyM, F_counts_along, h1]
def cnt (ns : List Int) : List Int := along (srt ns)
theorem cnt_length (ns : List Int) : (cnt ns).length = ns.length + 1 := by
  unfold cnt
  rw [Ar.along_length, srt_len]
theorem Team.le {ns : List Int} (T : Team ns) : ∀ x ∈ ns, x ≤ 59 := fun x hx => by
  have hx' := srt_mem.mpr hx
  obtain ⟨i, hi, e⟩ := List.getElem_of_mem hx'
  have : (spares ns)[i]? = some (x - (i : Int)) := by
    unfold spares
    rw [sparesFrom_get, List.getElem?_eq_getElem hi, e]
    simp
  have h1 := T.sp _ (List.mem_of_getElem? this)
  have := T.few
  rw [srt_len] at hi
  omega
theorem counts_ok {ns : List Int} (T : Team ns) : m_counts [.sh (di ns)] = some (.fr ((cnt ns).map .int) [.un]) := by
  have h1 := counts_along_ok (srt ns) (by rw [srt_len]; have := T.few; omega) fun b hb => ⟨T.nn b (srt_mem.mp hb), by have := T.le b (srt_mem.mp hb); omega⟩
  simp [m_counts, bodyM, F_counts, check_team_ok T, h1, cnt]
theorem bound_by_ok (ns : List Int) (b : Int) (h : ns.length < 1000000) : m_bound_by [.sh (di ns), .sh (.int b)] = some (.val (.int (b + above ns b)) [.un, .un]) := by
  simp [m_bound_by, bodyM, F_bound_by, count_above_ok ns b h] <;> rfl
def bd1 (ns : List Int) (i : Nat) : Int := (0 + (i : Int)) + above ns (0 + (i : Int))
abbrev bounds (ns : List Int) : List Int := (List.range ns.length).map (bd1 ns)
theorem bounds_len (ns : List Int) : (bounds ns).length = ns.length := by unfold bounds; rw [List.length_map, List.length_range]
/-- a comprehension over a range -/
theorem lc_range {vs : List Nat} {tgt : D → En → Option En} {test : En → Option (Bool × En)} {elt : En → Option (R × En)} (lo : Int) (o : Nat → Int) (n : Nat) (env : En)
    (hs : ∀ i : Nat, i < n → turn vs tgt test elt (.int (lo + (i : Int))) env = some (some (.int (o i)), env)) :
    lcF vs tgt test elt (Vm.upTo lo n) env [] = some (((List.range n).map o).map D.int, env) := by
  have e : ((List.range n).map o).map D.int = (List.range n).map fun i => D.int (o i) := by rw [List.map_map]; rfl
  rw [e]
  exact lc_map (fun i : Nat => D.int (lo + (i : Int))) (fun i => D.int (o i)) (List.range n) env fun i hi => hs i (List.mem_range.mp hi)
theorem iR1_b {env : En} {f : En → Option (List R × En)} {j : Int} (e : aD f env = some ([.int j], env)) : iR1 f env = (if -(2 ^ 62) ≤ j ∧ j < 2 ^ 62 then some (Vm.upTo 0 j.toNat, env) else none) := by
  unfold iR1
  rw [e]
  rfl
theorem r62 {n : Nat} (h : n < 1000000) : -(2 ^ 62) ≤ (n : Int) ∧ (n : Int) < 2 ^ 62 := ⟨by omega, by omega⟩
end Tk23

set_option Elab.async false
set_option linter.all false
set_option maxRecDepth 100000
namespace Tk23
open PySem PySem.Spec PyProof.Rows L2 Evl Vm
open Ar (along nx wn nx_length)
theorem gs_t {ns : List Int} (hl : ns.length < 1000000) (i : Nat) : turn [1] (tgName 1) bYes (eCall 2 m_bound_by (aCons (eVar 0) (aCons (eVar 1) aNil))) (.int (0 + (i : Int))) [.sh (.lst (ns.map .int)), .un] = some (some (.int (bd1 ns i)), [.sh (.lst (ns.map .int)), .un]) := by
    simp [turn, wipeE, bound_by_ok ns _ hl, bd1]
theorem gs_lc {ns : List Int} (hl : ns.length < 1000000) : lcF [1] (tgName 1) bYes (eCall 2 m_bound_by (aCons (eVar 0) (aCons (eVar 1) aNil))) (Vm.upTo 0 ns.length) [.sh (.lst (ns.map .int)), .un] [] = some ((bounds ns).map .int, [.sh (.lst (ns.map .int)), .un]) :=
  lc_range 0 (bd1 ns) ns.length [.sh (.lst (ns.map .int)), .un] fun i _ => gs_t hl i
theorem iR1_n {env : En} {f : En → Option (List R × En)} {n : Nat} (e : aD f env = some ([.int (n : Int)], env)) (h : n < 1000000) : iR1 f env = some (Vm.upTo 0 n, env) := by
  rw [iR1_b e]
  rw [if_pos (r62 h)]
  rfl
theorem gs_e {ns : List Int} : aD (aCons (eCB bLen (aCons (eVar 0) aNil)) aNil) [.sh (di ns), .un] = some ([.int (ns.length : Int)], [.sh (di ns), .un]) := by simp
theorem gs_r {ns : List Int} (hl : ns.length < 1000000) : iR1 (aCons (eCB bLen (aCons (eVar 0) aNil)) aNil) [.sh (di ns), .un] = some (Vm.upTo 0 ns.length, [.sh (di ns), .un]) :=
  iR1_n gs_e hl
theorem eLc_n {vs : List Nat} {fi : En → Option (List D × En)} {tgt : D → En → Option En} {test : En → Option (Bool × En)} {elt : En → Option (R × En)} {env e2 e3 : En} {us : List D} {bs : List Int}
    (h1 : fi env = some (us, e2)) (h2 : us.length < 1000000) (h3 : plainAt e2 vs = true) (h4 : lcF vs tgt test elt us (wipeE e2 vs) [] = some (bs.map .int, e3)) :
    eLc vs fi tgt test elt env = some (.fr (bs.map .int), back e2 e3 vs) := by
  unfold eLc
  rw [h1]
  simp only [Option.bind_some]
  rw [if_pos ⟨h2, h3⟩, h4]
  rfl
theorem up_lt {lo : Int} {n : Nat} (h : n < 1000000) : (Vm.upTo lo n).length < 1000000 := (upTo_length lo n).symm ▸ h
theorem gs_all {ns : List Int} (hl : ns.length < 1000000) : eLc [1] (iR1 (aCons (eCB bLen (aCons (eVar 0) aNil)) aNil)) (tgName 1) bYes (eCall 2 m_bound_by (aCons (eVar 0) (aCons (eVar 1) aNil))) [.sh (di ns), .un] = some (.fr ((bounds ns).map .int), [.sh (di ns), .un]) :=
  eLc_n (gs_r hl) (up_lt hl) rfl (gs_lc hl)
theorem bounds_ne {ns : List Int} (h : 1 ≤ ns.length) : bounds ns ≠ [] := by
  intro z
  have h0 : (bounds ns).length = 0 := by rw [z]; rfl
  have h3 := bounds_len ns
  omega
theorem body_val {fix : List Nat} {n k : Nat} {F : En → Option Out} {env e : En} {d : D} (hn : env.length = n) (h : F (env ++ List.replicate k .un) = some (.rt (.val d) e)) : bodyM fix n k F env = some (.val d (params fix n e)) := by
  unfold bodyM
  rw [if_pos hn, h]
  rfl
theorem body_fr {fix : List Nat} {n k : Nat} {F : En → Option Out} {env e : En} {xs : List D} (hn : env.length = n) (h : F (env ++ List.replicate k .un) = some (.rt (.fr xs) e)) : bodyM fix n k F env = some (.fr xs (params fix n e)) := by
  unfold bodyM
  rw [if_pos hn, h]
  rfl
theorem body_al {fix : List Nat} {n k : Nat} {F : En → Option Out} {env e : En} {i : Nat} {xs : List D} (hn : env.length = n) (h : F (env ++ List.replicate k .un) = some (.rt (.al i) e)) (hi : e[i]? = some (.ow xs)) (h2 : n ≤ i) : bodyM fix n k F env = some (.fr xs (params fix n e)) := by
  unfold bodyM
  rw [if_pos hn, h]
  simp only [Option.bind_some]
  rw [hi]
  simp only
  rw [if_pos h2]
theorem body_nx {fix : List Nat} {n k : Nat} {F : En → Option Out} {env e : En} (hn : env.length = n) (h : F (env ++ List.replicate k .un) = some (.nx e)) : bodyM fix n k F env = some (.val .non (params fix n e)) := by
  unfold bodyM
  rw [if_pos hn, h]
  rfl
theorem sSeq_nx {F G : En → Option Out} {env e1 : En} {o : Option Out} (h : F env = some (.nx e1)) (h2 : G e1 = o) : sSeq F G env = o := by
  unfold sSeq
  rw [h]
  exact h2
theorem sExpr_ok {fa : En → Option (R × En)} {env e1 : En} {r : R} (h : fa env = some (r, e1)) : sExpr fa env = some (.nx e1) := by
  unfold sExpr
  rw [h]
  rfl
theorem gs_1 {ns : List Int} {mc : En → Option Res} (hc : mc [Sl.sh (di ns)] = some (Res.val D.non [Sl.un])) : sExpr (eCall 1 mc (aCons (eVar 0) aNil)) [Sl.sh (di ns), Sl.un] = some (.nx [Sl.sh (di ns), Sl.un]) := by
  simp [hc]
theorem gs_2 {ns bs : List Int} {E : En → Option (R × En)} (hne : bs ≠ [])
  (q : E [Sl.sh (di ns), Sl.un] = some (R.fr (List.map D.int bs), [Sl.sh (di ns), Sl.un])) :
  (sRet (eCB bMinL (aCons E aNil))) [Sl.sh (di ns), Sl.un] = some (.rt (.val (.int (minL bs))) [Sl.sh (di ns), Sl.un]) := by
  simp [q, hne]
theorem greatest_ok {ns : List Int} (T : Team ns) : m_greatest_size [.sh (di ns)] = some (.val (.int (minL (bounds ns))) [.un]) :=
  body_val (e := [.sh (di ns), .un]) rfl (sSeq_nx (gs_1 (check_team_ok T)) (gs_2 (bounds_ne T.pos) (gs_all (by have := T.few; omega))))
end Tk23

set_option Elab.async false
set_option linter.all false
set_option maxRecDepth 100000
namespace Tk23
open PySem PySem.Spec PyProof.Rows L2 Evl Vm
/-! ### the law's draws -/
/-- a purse behind t draws -/
structure Purse (t : Nat) (a b c : Int) : Prop where
  a0 : 0 ≤ a
  b0 : b.natAbs < 2 ^ 160
  c0 : 0 ≤ c
  ct : c ≤ t
theorem bits {i : Int} {n : Nat} (h : i.natAbs < 2 ^ n) : Builtin.Int.intBits i ≤ n := PySem.intBits_le_iff.mpr h
theorem pow_ok {i : Int} (h : i.natAbs < 2 ^ 200) : CPowA i 3 := by
  refine ⟨by decide, ?_⟩
  have := bits h
  omega
theorem ten_pow (j : Int) (h0 : 0 ≤ j) (h1 : j ≤ 1000) : CPowA 10 j := by
  refine ⟨h0, ?_⟩
  have : Builtin.Int.intBits 10 ≤ 4 := bits (by decide)
  have : (Builtin.Int.intBits 10 : Int) ≤ 4 := by omega
  have := Int.mul_le_mul_of_nonneg_right this h0
  omega
theorem sSet_ok {i : Nat} {fa : En → Option (R × En)} {env e1 : En} {d : D} (h : fa env = some (.val d, e1)) : sSet i fa env = some (.nx (e1.set i (.sh d))) := by
  unfold sSet
  rw [h]
  rfl
theorem sRet_ok {fa : En → Option (R × En)} {env e1 : En} {r : R} (h : fa env = some (r, e1)) : sRet fa env = some (.rt r e1) := by
  unfold sRet
  rw [h]
  rfl
theorem sIf_t {t : En → Option (Bool × En)} {F G : En → Option Out} {env e1 : En} {o : Option Out} (h : t env = some (true, e1)) (h2 : F e1 = o) : sIf t F G env = o := by
  unfold sIf
  rw [h]
  exact h2
theorem sIf_f {t : En → Option (Bool × En)} {F G : En → Option Out} {env e1 : En} {o : Option Out} (h : t env = some (false, e1)) (h2 : G e1 = o) : sIf t F G env = o := by
  unfold sIf
  rw [h]
  exact h2
theorem sSeq_rt {F G : En → Option Out} {env e1 : En} {r : R} (h : F env = some (.rt r e1)) : sSeq F G env = some (.rt r e1) := by
  unfold sSeq
  rw [h]
  rfl
theorem eOp_ok {g : D → D → Option D} {fa fb : En → Option (R × En)} {env e1 e2 : En} {x y z : D} (ha : fa env = some (.val x, e1)) (hb : fb e1 = some (.val y, e2)) (h : g x y = some z) : eOp g fa fb env = some (.val z, e2) := by
  unfold eOp
  rw [ha]
  simp only [Option.bind_some]
  rw [hb]
  simp only [Option.bind_some, x_look1]
  rw [h]
  rfl
theorem eCB1_ok {g : List D → Option D} {fa : En → Option (R × En)} {env e1 : En} {x z : D} (ha : fa env = some (.val x, e1)) (h : g [x] = some z) : eCB g (aCons fa aNil) env = some (.val z, e1) := by
  simp [ha, h]
theorem eC_ok {d : D} {env : En} : eC d env = some (.val d, env) := rfl
theorem mix {b c q m p : Int} {e : Int} {env : En} {fa fb : En → Option (R × En)} (ha : fa env = some (.val (.int b), env)) (hb : fb env = some (.val (.int c), env)) (hp : dPow (.int 10) (.int e) = some (.int p)) (hq : 0 < p + m) (h1 : c.natAbs < 2 ^ 40) (h2 : (b + q * c).natAbs < 2 ^ 200) :
    eOp dMod (eCB bInt (aCons (eOp dPow (eOp dAdd fa (eOp dMul (eC (.int q)) fb)) (eC (.int 3))) aNil)) (eOp dAdd (eOp dPow (eC (.int 10)) (eC (.int e))) (eC (.int m))) env = some (.val (.int ((b + q * c) ^ 3 % (p + m))), env) :=
  eOp_ok (eCB1_ok (eOp_ok (eOp_ok ha (eOp_ok eC_ok hb (x_mul (.inl (.inr (by omega))))) x_add) eC_ok (x_pow (pow_ok h2))) x_int)
    (eOp_ok (eOp_ok eC_ok eC_ok hp) eC_ok x_add) (x_mod hq)
theorem p_at {a b c : Int} {env : En} {i : Nat} {d : D} (h : env[0]? = some (.ow [.int a, .int b, .int c])) (h2 : atI [D.int a, .int b, .int c] i = some d) : eOp dIx (eVar 0) (eC (.int i)) env = some (.val d, env) := by
  simp [h, h2]
theorem toss_ok {t : Nat} {a b c wide : Int} (P : Purse t a b c) (ht : t ≤ 1000000) (hw : 1 ≤ wide) (hw2 : wide < 2 ^ 29) :
    ∃ r a' b' c', m_law_toss [.ow [.int a, .int b, .int c], .sh (.int wide)] = some (.val (.int r) [.ow [.int a', .int b', .int c'], .un]) ∧ 0 ≤ r ∧ r < wide ∧ Purse (t + 1) a' b' c' := by
  obtain ⟨a0, b0, c0, ct⟩ := P
  by_cases ha : 0 < a
  · refine ⟨a % wide, a / wide, b, c, ?_, Int.emod_nonneg _ (by omega), Int.emod_lt_of_pos _ (by omega), ⟨Int.ediv_nonneg a0 (by omega), b0, c0, by omega⟩⟩
    have h1 : dMod (.int a) (.int wide) = some (.int (a % wide)) := x_mod (by omega)
    have h2 : dFdiv (.int a) (.int wide) = some (.int (a / wide)) := x_fdiv (by omega) (by omega)
    refine body_val (e := [.ow [.int (a / wide), .int b, .int c], .sh (.int wide), .sh (.int (a % wide)), .un]) rfl (sSeq_rt (sIf_t (e1 := [.ow [.int a, .int b, .int c], .sh (.int wide), .un, .un]) ?_ ?_))
    · simp [atI, ixN, ha]
    · simp [atI, ixN, h1, h2]
  · have hp1 : dPow (.int 10) (.int 45) = some (.int (10 ^ 45)) := x_pow (ten_pow 45 (by decide) (by decide))
    have hp2 : dPow (.int 10) (.int 46) = some (.int (10 ^ 46)) := x_pow (ten_pow 46 (by decide) (by decide))
    have q1 : (0 : Int) < 10 ^ 45 + 9 := by decide
    have q2 : (0 : Int) < 10 ^ 46 + 121 := by decide
    have s1 : (10 : Int) ^ 45 + 9 < 2 ^ 160 := by decide
    have s2 : (10 : Int) ^ 46 + 121 < 2 ^ 160 := by decide
    generalize hP : (10 : Int) ^ 45 = p at hp1 q1 s1
    generalize hQ : (10 : Int) ^ 46 = q at hp2 q2 s2
    have k1 : (b + 50000017 * (c + 1)).natAbs < 2 ^ 200 := by omega
    obtain ⟨m1, hm1⟩ : ∃ m1, m1 = (b + 50000017 * (c + 1)) ^ 3 % (p + 9) := ⟨_, rfl⟩
    have n1 : 0 ≤ m1 := hm1 ▸ Int.emod_nonneg _ (by omega)
    have n2 : m1 < p + 9 := hm1 ▸ Int.emod_lt_of_pos _ q1
    have k2 : (m1 + 25000009 * (c + 1)).natAbs < 2 ^ 200 := by omega
    obtain ⟨m2, hm2⟩ : ∃ m2, m2 = (m1 + 25000009 * (c + 1)) ^ 3 % (q + 121) := ⟨_, rfl⟩
    have h3 : dFdiv (.int m2) (.int 1073741789) = some (.int (m2 / 1073741789)) := x_fdiv (by decide) (by decide)
    have h4 : dMod (.int (m2 / 1073741789)) (.int wide) = some (.int (m2 / 1073741789 % wide)) := x_mod (by omega)
    have g1 := mix (env := [.ow [.int a, .int b, .int (c + 1)], .sh (.int wide), .un, .un]) (p_at (i := 1) rfl rfl) (p_at (i := 2) rfl rfl) hp1 q1 (by omega) k1
    have g2 := mix (env := [.ow [.int a, .int b, .int (c + 1)], .sh (.int wide), .un, .sh (.int m1)]) (fa := eVar 3) rfl (p_at (i := 2) rfl rfl) hp2 q2 (by omega) k2
    rw [← hm1] at g1
    rw [← hm2] at g2
    refine ⟨m2 / 1073741789 % wide, a, b, c + 1, ?_, Int.emod_nonneg _ (by omega), Int.emod_lt_of_pos _ (by omega), ⟨a0, b0, by omega, by omega⟩⟩
    refine body_val (e := [.ow [.int a, .int b, .int (c + 1)], .sh (.int wide), .un, .sh (.int m2)]) rfl
      (sSeq_nx (e1 := [.ow [.int a, .int b, .int c], .sh (.int wide), .un, .un]) (sIf_f (e1 := [.ow [.int a, .int b, .int c], .sh (.int wide), .un, .un]) ?_ rfl)
      (sSeq_nx (e1 := [.ow [.int a, .int b, .int (c + 1)], .sh (.int wide), .un, .un]) ?_
      (sSeq_nx (e1 := [.ow [.int a, .int b, .int (c + 1)], .sh (.int wide), .un, .sh (.int m1)]) (sSet_ok g1)
      (sSeq_nx (e1 := [.ow [.int a, .int b, .int (c + 1)], .sh (.int wide), .un, .sh (.int m2)]) (sSet_ok g2)
      (sRet_ok (eOp_ok (eCB1_ok (eOp_ok rfl eC_ok h3) x_int) rfl h4))))))
    · simp [atI, ixN, ha]
    · simp [atI, ixN]
end Tk23

set_option Elab.async false
set_option linter.all false
set_option maxRecDepth 100000
namespace Tk23
open PySem PySem.Spec PyProof.Rows L2 Evl Vm
def IsP (t : Nat) (s : Sl) : Prop := ∃ a b c, s = .ow [.int a, .int b, .int c] ∧ Purse t a b c
theorem toss_call {t : Nat} {s : Sl} {rest : En} {W : En → Option (R × En)} {wide : Int} (hs : IsP t s) (hW : W (s :: rest) = some (.val (.int wide), s :: rest)) (ht : t ≤ 1000000) (hw : 1 ≤ wide) (hw2 : wide < 2 ^ 29) :
    ∃ (r : Int) (s' : Sl), eCall1 2 m_law_toss (aCons (eVar 0) (aCons W aNil)) (s :: rest) = some (.val (.int r), s' :: rest) ∧ 0 ≤ r ∧ r < wide ∧ IsP (t + 1) s' := by
  obtain ⟨a, b, c, rfl, P⟩ := hs
  obtain ⟨r, a', b', c', h, h0, h1, P'⟩ := toss_ok P ht hw hw2
  refine ⟨r, _, ?_, h0, h1, ⟨a', b', c', rfl, P'⟩⟩
  generalize m_law_toss = m at h ⊢
  simp [hW, h]
theorem aNil_ok {env : En} : aNil env = some ([], env) := rfl
theorem aCons_ok {fa : En → Option (R × En)} {f : En → Option (List R × En)} {env e1 e2 : En} {r : R} {rs : List R} (h : fa env = some (r, e1)) (h2 : f e1 = some (rs, e2)) : aCons fa f env = some (r :: rs, e2) := by
  unfold aCons
  rw [h]
  simp only [Option.bind_some]
  rw [h2]
  rfl
theorem eLst3_ok {fa fb fc : En → Option (R × En)} {e0 e1 e2 e3 : En} {x y z : D} (h1 : fa e0 = some (.val x, e1)) (h2 : fb e1 = some (.val y, e2)) (h3 : fc e2 = some (.val z, e3)) : eLst (aCons fa (aCons fb (aCons fc aNil))) e0 = some (.fr [x, y, z], e3) := by
  unfold eLst aD
  rw [aCons_ok h1 (aCons_ok h2 (aCons_ok h3 aNil_ok))]
  rfl
theorem eCB2_ok {g : List D → Option D} {fa fb : En → Option (R × En)} {e0 e1 e2 : En} {x y z : D} (h1 : fa e0 = some (.val x, e1)) (h2 : fb e1 = some (.val y, e2)) (h : g [x, y] = some z) : eCB g (aCons fa (aCons fb aNil)) e0 = some (.val z, e2) := by
  unfold eCB
  rw [aCons_ok h1 (aCons_ok h2 aNil_ok)]
  simp [h]
theorem eOpL_ok {g : D → D → Option (List D)} {fa fb : En → Option (R × En)} {env e1 e2 : En} {ra rb : R} {x y : D} {z : List D} (ha : fa env = some (ra, e1)) (hb : fb e1 = some (rb, e2)) (hx : look e2 ra = some x) (hy : look e2 rb = some y) (h : g x y = some z) : eOpL g fa fb env = some (.fr z, e2) := by
  unfold eOpL
  rw [ha]
  simp only [Option.bind_some]
  rw [hb]
  simp only [Option.bind_some]
  rw [hx, hy]
  simp only [Option.bind_some]
  rw [h]
  rfl
theorem eOpR_ok {g : D → D → Option D} {fa fb : En → Option (R × En)} {env e1 e2 : En} {ra rb : R} {x y : D} {z : D} (ha : fa env = some (ra, e1)) (hb : fb e1 = some (rb, e2)) (hx : look e2 ra = some x) (hy : look e2 rb = some y) (h : g x y = some z) : eOp g fa fb env = some (.val z, e2) := by
  unfold eOp
  rw [ha]
  simp only [Option.bind_some]
  rw [hb]
  simp only [Option.bind_some]
  rw [hx, hy]
  simp only [Option.bind_some]
  rw [h]
  rfl
theorem append_ok {i : Nat} {fa : En → Option (R × En)} {env e1 : En} {d : D} {xs ys : List D} (h : fa env = some (.val d, e1)) (hi : env[i]? = some (.ow ys)) (h1 : e1[i]? = some (.ow xs)) (hl : xs.length < 1000000) : sExpr (eAppend i (aCons fa aNil)) env = some (.nx (e1.set i (.ow (xs ++ [d])))) := by
  have : eAppend i (aCons fa aNil) env = some (.val .non, e1.set i (.ow (xs ++ [d]))) := by
    unfold eAppend aD
    rw [aCons_ok h aNil_ok]
    simp [hi, h1, hl]
  exact sExpr_ok this
theorem sSet_fr {i : Nat} {fa : En → Option (R × En)} {env e1 : En} {d : List D} (h : fa env = some (.fr d, e1)) : sSet i fa env = some (.nx (e1.set i (.ow d))) := by
  unfold sSet
  rw [h]
  rfl
/-- one turn of the drawing of a team -/
def tBody : En → Option Out := (sSeq (sSet 8 (eLst (aCons (eCall1 2 m_law_toss (aCons (eVar 0) (aCons (eOp dAdd (eVar 2) (eC (.int 1))) aNil))) (aCons (eCall1 2 m_law_toss (aCons (eVar 0) (aCons (eCB bMin2 (aCons (eC (.int 4)) (aCons (eOp dAdd (eVar 2) (eC (.int 1))) aNil))) aNil))) (aCons (eCall1 2 m_law_toss (aCons (eVar 0) (aCons (eOp dAdd (eOp dAdd (eVar 2) (eVar 7)) (eC (.int 1))) aNil))) aNil)))))
    (sExpr (eAppend 6 (aCons (eOp dIx (eOpL dCat (eVar 8) (eLst (aCons (eCB bMax2 (aCons (eC (.int 0)) (aCons (eOp dSub (eOp dAdd (eVar 2) (eVar 7)) (eCall1 2 m_law_toss (aCons (eVar 0) (aCons (eC (.int 3)) aNil)))) aNil))) (aCons (eVar 5) (aCons (eOp dAdd (eCB bMin2 (aCons (eVar 2) (aCons (eCall1 2 m_law_toss (aCons (eVar 0) (aCons (eC (.int 3)) aNil))) aNil))) (eVar 7)) aNil))))) (eVar 4)) aNil))))
theorem tBody_ok {t : Nat} {s : Sl} {most top n style high : Int} {left : List Int} {i : Int} {o : Sl} (hs : IsP t s) (ht : t ≤ 900000) (h1 : 0 ≤ top ∧ top ≤ 1000) (h2 : 0 ≤ style ∧ style < 6) (h3 : 0 ≤ high) (h4 : 0 ≤ i ∧ i ≤ 1000) (hl : left.length < 1000) :
    ∃ (x : Int) (s' o' : Sl), tBody [s, .sh (.int most), .sh (.int top), .sh (.int n), .sh (.int style), .sh (.int high), .ow (left.map .int), .sh (.int i), o] = some (.nx [s', .sh (.int most), .sh (.int top), .sh (.int n), .sh (.int style), .sh (.int high), .ow ((left ++ [x]).map .int), .sh (.int i), o']) ∧ 0 ≤ x ∧ IsP (t + 5) s' := by
  obtain ⟨r1, s1, e1, a1, b1, P1⟩ := toss_call (rest := [.sh (.int most), .sh (.int top), .sh (.int n), .sh (.int style), .sh (.int high), .ow (left.map .int), .sh (.int i), o]) (W := eOp dAdd (eVar 2) (eC (.int 1))) hs (eOp_ok rfl eC_ok x_add) (by omega) (by omega) (by omega)
  obtain ⟨w2, hw2, c2⟩ : ∃ w2, w2 = (if top + 1 < 4 then top + 1 else 4) ∧ 1 ≤ w2 ∧ w2 ≤ 4 := ⟨_, rfl, by split <;> omega⟩
  obtain ⟨r2, s2, e2, a2, b2, P2⟩ := toss_call (rest := [.sh (.int most), .sh (.int top), .sh (.int n), .sh (.int style), .sh (.int high), .ow (left.map .int), .sh (.int i), o]) (W := eCB bMin2 (aCons (eC (.int 4)) (aCons (eOp dAdd (eVar 2) (eC (.int 1))) aNil))) (wide := w2) P1 (hw2 ▸ eCB2_ok eC_ok (eOp_ok rfl eC_ok x_add) x_min2) (by omega) (by omega) (by omega)
  obtain ⟨r3, s3, e3, a3, b3, P3⟩ := toss_call (rest := [.sh (.int most), .sh (.int top), .sh (.int n), .sh (.int style), .sh (.int high), .ow (left.map .int), .sh (.int i), o]) (W := eOp dAdd (eOp dAdd (eVar 2) (eVar 7)) (eC (.int 1))) P2 (eOp_ok (eOp_ok rfl rfl x_add) eC_ok x_add) (by omega) (by omega) (by omega)
  obtain ⟨r4, s4, e4, a4, b4, P4⟩ := toss_call (rest := [.sh (.int most), .sh (.int top), .sh (.int n), .sh (.int style), .sh (.int high), .ow (left.map .int), .sh (.int i), .ow [.int r1, .int r2, .int r3]]) (W := eC (.int 3)) P3 eC_ok (by omega) (by omega) (by omega)
  obtain ⟨r5, s5, e5, a5, b5, P5⟩ := toss_call (rest := [.sh (.int most), .sh (.int top), .sh (.int n), .sh (.int style), .sh (.int high), .ow (left.map .int), .sh (.int i), .ow [.int r1, .int r2, .int r3]]) (W := eC (.int 3)) P4 eC_ok (by omega) (by omega) (by omega)
  obtain ⟨m4, hm4, d4⟩ : ∃ m4, m4 = (if top + i - r4 > 0 then top + i - r4 else 0) ∧ 0 ≤ m4 := ⟨_, rfl, by split <;> omega⟩
  obtain ⟨m5, hm5, d5⟩ : ∃ m5, m5 = (if r5 < top then r5 else top) ∧ 0 ≤ m5 := ⟨_, rfl, by split <;> omega⟩
  have hx : ∃ x : Int, atI [D.int r1, .int r2, .int r3, .int m4, .int high, .int (m5 + i)] style = some (.int x) ∧ 0 ≤ x := by
    have : style = 0 ∨ style = 1 ∨ style = 2 ∨ style = 3 ∨ style = 4 ∨ style = 5 := by omega
    rcases this with rfl | rfl | rfl | rfl | rfl | rfl
    · exact ⟨r1, rfl, a1⟩
    · exact ⟨r2, rfl, a2⟩
    · exact ⟨r3, rfl, a3⟩
    · exact ⟨m4, rfl, d4⟩
    · exact ⟨high, rfl, h3⟩
    · exact ⟨m5 + i, rfl, by omega⟩
  obtain ⟨x, hx, hx0⟩ := hx
  have hx' : dIx (.lst [D.int r1, .int r2, .int r3, .int m4, .int high, .int (m5 + i)]) (.int style) = some (.int x) := hx
  refine ⟨x, s5, .ow [.int r1, .int r2, .int r3], ?_, hx0, P5⟩
  have hm4' : bMax2 [.int 0, .int (top + i - r4)] = some (.int m4) := by rw [hm4]; rfl
  have hm5' : bMin2 [.int top, .int r5] = some (.int m5) := by rw [hm5]; rfl
  have hlen : (left.map D.int).length < 1000000 := by rw [List.length_map]; omega
  rw [List.map_append]
  unfold tBody
  refine sSeq_nx (e1 := [s3, .sh (.int most), .sh (.int top), .sh (.int n), .sh (.int style), .sh (.int high), .ow (left.map .int), .sh (.int i), .ow [.int r1, .int r2, .int r3]]) (sSet_fr (eLst3_ok e1 e2 e3)) ?_
  refine append_ok (xs := left.map .int) (d := .int x) (e1 := [s5, .sh (.int most), .sh (.int top), .sh (.int n), .sh (.int style), .sh (.int high), .ow (left.map .int), .sh (.int i), .ow [.int r1, .int r2, .int r3]]) ?_ rfl rfl hlen
  refine eOpR_ok (rb := .val (.int style)) (eOpL_ok (ra := .al 8) (x := .lst [.int r1, .int r2, .int r3]) (y := .lst [.int m4, .int high, .int (m5 + i)]) rfl (eLst3_ok (eCB2_ok eC_ok (eOp_ok (eOp_ok rfl rfl x_add) e4 x_sub) hm4') rfl (eOp_ok (eCB2_ok rfl e5 hm5') rfl x_add)) rfl rfl rfl) rfl rfl rfl hx'
end Tk23

set_option Elab.async false
set_option linter.all false
set_option maxRecDepth 100000
namespace Tk23
open PySem PySem.Spec PyProof.Rows L2 Evl Vm
theorem IsP.mono {t u : Nat} {s : Sl} (h : IsP t s) (hu : t ≤ u) : IsP u s := by
  obtain ⟨a, b, c, rfl, P⟩ := h
  exact ⟨a, b, c, rfl, P.a0, P.b0, P.c0, by have := P.ct; omega⟩
theorem pop_ok {i : Nat} {fa : En → Option (R × En)} {env e1 : En} {k : Int} {xs ys : List D} {d : D} (h : fa env = some (.val (.int k), e1)) (hi : env[i]? = some (.ow ys)) (h1 : e1[i]? = some (.ow xs)) (h0 : 0 ≤ k ∧ k < 2 ^ 63) (hd : xs[k.toNat]? = some d) : eaPop i (aCons fa aNil) env = some (.val d, e1.set i (.ow (xs.eraseIdx k.toNat))) := by
  unfold eaPop aD
  rw [aCons_ok h aNil_ok]
  simp only [x_own, hi, h1, Option.bind_some, x_frzs2, x_frz1, x_frzs1, Option.map_some, x_oneInt]
  rw [if_pos h0, hd]
  rfl
theorem eCB1R_ok {g : List D → Option D} {fa : En → Option (R × En)} {env e1 : En} {r : R} {x z : D} (ha : fa env = some (r, e1)) (hx : look e1 r = some x) (h : g [x] = some z) : eCB g (aCons fa aNil) env = some (.val z, e1) := by
  unfold eCB
  rw [aCons_ok ha aNil_ok]
  simp only [Option.bind_some, x_looks2, hx, x_looks1, Option.map_some, h]
theorem erase_map : ∀ (xs : List Int) (i : Nat), (xs.map D.int).eraseIdx i = (xs.eraseIdx i).map D.int
  | [], _ => rfl
  | _ :: _, 0 => rfl
  | x :: xs, i + 1 => congrArg (D.int x :: ·) (erase_map xs i)
/-- a comprehension over a range, by the number of turns -/
theorem lc_rangeT {vs : List Nat} {tgt : D → En → Option En} {test : En → Option (Bool × En)} {elt : En → Option (R × En)} (Rl : Nat → En → List D → Prop) (lo : Int) (n : Nat) (env : En) (h0 : Rl 0 env [])
    (hs : ∀ (i : Nat) (env : En) (acc : List D), i < n → Rl i env acc → ∃ d env', turn vs tgt test elt (.int (lo + (i : Int))) env = some (some d, env') ∧ Rl (i + 1) env' (acc ++ [d])) :
    ∃ env' acc, lcF vs tgt test elt (Vm.upTo lo n) env [] = some (acc, env') ∧ Rl n env' acc := by
  have q := lc_turns (vs := vs) (tgt := tgt) (test := test) (elt := elt) (fun i : Nat => D.int (lo + (i : Int))) (fun pre env acc => Rl pre.length env acc) (List.range n) env h0 (fun pre x post env acc e r => by
    have hx : x = pre.length ∧ pre.length < n := by
      have h1 : (List.range n)[pre.length]? = some x := by rw [e]; simp
      have h2 : pre.length < n := by
        have := (List.getElem?_eq_some_iff.mp h1).1
        simpa using this
      rw [List.getElem?_range h2] at h1
      exact ⟨(Option.some.inj h1).symm, h2⟩
    obtain ⟨rfl, hlt⟩ := hx
    obtain ⟨d, env', h1, h2⟩ := hs pre.length env acc hlt r
    exact ⟨some d, env', h1, by simpa using h2⟩)
  rw [List.length_range] at q
  exact q
abbrev tEnv (s : Sl) (most top n style high : Int) (left : List Int) (k o : Sl) : En := [s, .sh (.int most), .sh (.int top), .sh (.int n), .sh (.int style), .sh (.int high), .ow (left.map .int), k, o]
def tElt : En → Option (R × En) := (eaPop 6 (aCons (eCall1 2 m_law_toss (aCons (eVar 0) (aCons (eCB bLen (aCons (eVar 6) aNil)) aNil))) aNil))
theorem tElt_ok {t : Nat} {s : Sl} {most top n style high : Int} {left : List Int} {k o : Sl} (hs : IsP t s) (ht : t ≤ 900000) (h0 : left ≠ []) (hl : left.length < 1000) :
    ∃ (x : Int) (s' : Sl) (left' : List Int), tElt (tEnv s most top n style high left k o) = some (.val (.int x), tEnv s' most top n style high left' k o) ∧ x ∈ left ∧ left'.length + 1 = left.length ∧ (∀ y ∈ left', y ∈ left) ∧ IsP (t + 1) s' := by
  have hp : 0 < left.length := List.length_pos_iff.mpr h0
  obtain ⟨r, s', e, a, b, P⟩ := toss_call (rest := [.sh (.int most), .sh (.int top), .sh (.int n), .sh (.int style), .sh (.int high), .ow (left.map .int), k, o]) (W := eCB bLen (aCons (eVar 6) aNil)) (wide := left.length) hs (eCB1R_ok (r := .al 6) (x := di left) rfl rfl (by rw [x_len1, List.length_map])) (by omega) (by omega) (by omega)
  have hr : r.toNat < left.length := by omega
  refine ⟨left[r.toNat], s', left.eraseIdx r.toNat, ?_, List.getElem_mem hr, by rw [List.length_eraseIdx, if_pos hr]; omega, fun y hy => List.mem_of_mem_eraseIdx hy, P⟩
  have hd : (left.map D.int)[r.toNat]? = some (.int left[r.toNat]) := by rw [List.getElem?_map, List.getElem?_eq_getElem hr]; rfl
  have := pop_ok (i := 6) (env := tEnv s most top n style high left k o) (e1 := tEnv s' most top n style high left k o) e rfl rfl ⟨a, by omega⟩ hd
  have ee : (left.eraseIdx r.toNat).map D.int = (left.map D.int).eraseIdx r.toNat := (erase_map left r.toNat).symm
  rw [show tEnv s' most top n style high (left.eraseIdx r.toNat) k o = (tEnv s' most top n style high left k o).set 6 (.ow ((left.map D.int).eraseIdx r.toNat)) by rw [← ee]; rfl]
  exact this
theorem eLc_g {vs : List Nat} {fi : En → Option (List D × En)} {tgt : D → En → Option En} {test : En → Option (Bool × En)} {elt : En → Option (R × En)} {env e2 e3 : En} {us bs : List D}
    (h1 : fi env = some (us, e2)) (h2 : us.length < 1000000) (h3 : plainAt e2 vs = true) (h4 : lcF vs tgt test elt us (wipeE e2 vs) [] = some (bs, e3)) :
    eLc vs fi tgt test elt env = some (.fr bs, back e2 e3 vs) := by
  unfold eLc
  rw [h1]
  simp only [Option.bind_some]
  rw [if_pos ⟨h2, h3⟩, h4]
  rfl
theorem sFor_ok {fi : En → Option (List D × En)} {tgt : D → En → Option En} {F : En → Option Out} {env e1 : En} {us : List D} {o : Option Out} (h : fi env = some (us, e1)) (h2 : loopS tgt F us e1 = o) : sFor fi tgt F env = o := by
  unfold sFor
  rw [h]
  exact h2
theorem aD1_ok {fa : En → Option (R × En)} {env e1 : En} {d : D} (h : fa env = some (.val d, e1)) : aD (aCons fa aNil) env = some ([d], e1) := by
  unfold aD
  rw [aCons_ok h aNil_ok]
  rfl
theorem turn_ok {vs : List Nat} {i : Nat} {elt : En → Option (R × En)} {d x : D} {env e1 : En} (h : elt (env.set i (.sh d)) = some (.val x, e1)) : turn vs (tgName i) bYes elt d env = some (some x, wipeE e1 vs) := by
  unfold turn
  simp only [x_tgName, x_bYes, Option.bind_some, if_true]
  rw [h]
  rfl
theorem team_ok {t : Nat} {s : Sl} {most top : Int} (hs : IsP t s) (ht : t ≤ 800000) (h1 : 1 ≤ most ∧ most ≤ 20) (h2 : 0 ≤ top ∧ top ≤ 1000) :
    ∃ (ls : List Int) (s' : Sl), m_law_team [s, .sh (.int most), .sh (.int top)] = some (.fr (ls.map .int) [s', .un, .un]) ∧ 1 ≤ ls.length ∧ (ls.length : Int) ≤ most ∧ (∀ x ∈ ls, 0 ≤ x) ∧ IsP (t + 200) s' := by
  obtain ⟨r1, s1, e1, a1, b1, P1⟩ := toss_call (rest := [.sh (.int most), .sh (.int top), .un, .un, .un, .un, .un, .un]) (W := eVar 1) hs rfl (by omega) (by omega) (by omega)
  obtain ⟨r2, s2, e2, a2, b2, P2⟩ := toss_call (rest := [.sh (.int most), .sh (.int top), .un, .un, .un, .un, .un, .un]) (W := eC (.int 6)) P1 rfl (by omega) (by omega) (by omega)
  obtain ⟨r3, s3, e3, a3, b3, P3⟩ := toss_call (rest := [.sh (.int most), .sh (.int top), .un, .un, .un, .un, .un, .un]) (W := eOp dAdd (eVar 2) (eC (.int 1))) P2 (eOp_ok rfl eC_ok x_add) (by omega) (by omega) (by omega)
  obtain ⟨n, hn, hn1, hn2⟩ : ∃ n : Nat, 1 + r1 = (n : Int) ∧ 1 ≤ n ∧ (n : Int) ≤ most := ⟨(1 + r1).toNat, by omega, by omega, by omega⟩
  have hir : ∀ (s : Sl) (left : List Int) (k o : Sl), iR1 (aCons (eVar 3) aNil) (tEnv s most top n r2 r3 left k o) = some (Vm.upTo 0 n, tEnv s most top n r2 r3 left k o) := fun s left k o => iR1_n (aD1_ok rfl) (by omega)
  obtain ⟨env, q1, s4, left, k4, o, rfl, hk4, ll, lp, P4⟩ := loop_rangeT (tgt := tgName 7) (body := tBody) (fun i env => ∃ (s : Sl) (left : List Int) (k o : Sl), env = tEnv s most top n r2 r3 left k o ∧ (∀ xs, k ≠ .ow xs) ∧ left.length = i ∧ (∀ x ∈ left, 0 ≤ x) ∧ IsP (t + 1 + 1 + 1 + 5 * i) s) 0 n (tEnv s3 most top n r2 r3 [] .un .un) ⟨_, _, _, _, rfl, fun _ h => Sl.noConfusion h, rfl, by simp, P3⟩ (by
    rintro i env hi ⟨s, left, k, o, rfl, _, ll, lp, P⟩
    obtain ⟨x, s', o', g, gx, gP⟩ := tBody_ok (most := most) (n := n) (style := r2) (high := r3) (left := left) (i := 0 + (i : Int)) (o := o) P (by omega) h2 ⟨a2, b2⟩ a3 (by omega) (by omega)
    refine ⟨_, g, s', left ++ [x], _, o', rfl, fun _ h => Sl.noConfusion h, by simp [ll], fun y hy => ?_, gP.mono (by omega)⟩
    rcases List.mem_append.mp hy with h | h
    · exact lp y h
    · rw [List.mem_singleton.mp h]
      exact gx)
  obtain ⟨env, acc, q2, s5, lf, ls, rfl, rfl, l1, l2, l3, l4, P5⟩ := lc_rangeT (vs := [7]) (tgt := tgName 7) (test := bYes) (elt := tElt) (fun i env acc => ∃ (s : Sl) (lf ls : List Int), env = tEnv s most top n r2 r3 lf .un o ∧ acc = ls.map D.int ∧ lf.length + i = n ∧ ls.length = i ∧ (∀ x ∈ lf, 0 ≤ x) ∧ (∀ x ∈ ls, 0 ≤ x) ∧ IsP (t + 1 + 1 + 1 + 5 * n + i) s) 0 n (tEnv s4 most top n r2 r3 left .un o) ⟨_, _, [], rfl, rfl, by omega, rfl, lp, by simp, P4⟩ (by
    rintro i env acc hi ⟨s, lf, ls, rfl, rfl, l1, l2, l3, l4, P⟩
    obtain ⟨x, s', lf', g, gm, gl, gs, gP⟩ := tElt_ok (most := most) (top := top) (n := n) (style := r2) (high := r3) (k := .sh (.int (0 + (i : Int)))) (o := o) P (by omega) (left := lf) (fun z => by rw [z] at l1; simp at l1; omega) (by omega)
    refine ⟨_, _, turn_ok g, s', lf', ls ++ [x], rfl, by rw [List.map_append]; rfl, by omega, by simp [l2], fun y hy => l3 y (gs y hy), fun y hy => ?_, gP.mono (by omega)⟩
    rcases List.mem_append.mp hy with h | h
    · exact l4 y h
    · rw [List.mem_singleton.mp h]
      exact l3 x gm)
  refine ⟨ls, s5, body_fr (e := tEnv s5 most top n r2 r3 lf k4 o) rfl ?_, by omega, by omega, l4, P5.mono (by omega)⟩
  have par : sPar3 3 4 5 (aCons (eOp dAdd (eC (.int 1)) (eCall1 2 m_law_toss (aCons (eVar 0) (aCons (eVar 1) aNil)))) (aCons (eCall1 2 m_law_toss (aCons (eVar 0) (aCons (eC (.int 6)) aNil))) (aCons (eCall1 2 m_law_toss (aCons (eVar 0) (aCons (eOp dAdd (eVar 2) (eC (.int 1))) aNil))) aNil))) [s, .sh (.int most), .sh (.int top), .un, .un, .un, .un, .un, .un]
      = some (.nx [s3, .sh (.int most), .sh (.int top), .sh (.int n), .sh (.int r2), .sh (.int r3), .un, .un, .un]) := by
    unfold sPar3
    rw [aCons_ok (eOp_ok eC_ok e1 x_add) (aCons_ok e2 (aCons_ok e3 aNil_ok)), hn]
    rfl
  have hpl : plainAt (tEnv s4 most top n r2 r3 left k4 o) [7] = true := by
    cases k4 with
    | ow xs => exact absurd rfl (hk4 xs)
    | un => rfl
    | sh d => rfl
  have lcq := eLc_g (vs := [7]) (test := bYes) (hir s4 left k4 o) (up_lt (by omega)) hpl q2
  refine sSeq_nx par (sSeq_nx (e1 := tEnv s3 most top n r2 r3 [] .un .un) rfl (sSeq_nx (sFor_ok (hir _ _ _ _) q1) (sRet_ok lcq)))
end Tk23

set_option Elab.async false
set_option linter.all false
set_option maxRecDepth 100000
namespace Tk23
open PySem PySem.Spec PyProof.Rows L2 Evl Vm
open Ar (along nx ff ch due dsum tsum term sg)
theorem eIf_t {t : En → Option (Bool × En)} {fa fb : En → Option (R × En)} {env e1 : En} {o : Option (R × En)} (h : t env = some (true, e1)) (h2 : fa e1 = o) : eIf t fa fb env = o := by
  unfold eIf
  rw [h]
  exact h2
theorem eIf_f {t : En → Option (Bool × En)} {fa fb : En → Option (R × En)} {env e1 : En} {o : Option (R × En)} (h : t env = some (false, e1)) (h2 : fb e1 = o) : eIf t fa fb env = o := by
  unfold eIf
  rw [h]
  exact h2
theorem bTest_ok {fa : En → Option (R × En)} {env e1 : En} {b : Bool} (h : fa env = some (.val (.bl b), e1)) : bTest fa env = some (b, e1) := by
  unfold bTest
  rw [h]
  rfl
theorem purse_ok {ns : List Int} {k : Nat} (hk : k ≤ 10) : ∃ s : Sl, IsP 0 s ∧ ∃ xs, s = .ow xs ∧ m_law_purse [.sh (.scr ns), .sh (.int k)] = some (.fr xs [.un, .un]) := by
  have hp1 : dPow (.int 10) (.int 18) = some (.int (10 ^ 18)) := x_pow (ten_pow 18 (by decide) (by decide))
  have hp2 : dPow (.int 10) (.int 41) = some (.int (10 ^ 41)) := x_pow (ten_pow 41 (by decide) (by decide))
  have q2 : (0 : Int) < 10 ^ 41 + 37 := by decide
  have s2 : ((10 : Int) ^ 41 + 37) * 89 < 2 ^ 150 := by decide
  generalize (10 : Int) ^ 18 = p at hp1
  generalize (10 : Int) ^ 41 = q at hp2 q2 s2
  obtain ⟨cell, hc⟩ : ∃ cell : Int, eIf (bTest (eOp dLt (eVar 1) (eCB bLen (aCons (eVar 0) aNil)))) (eOp dIx (eVar 0) (eVar 1)) (eC (.int 0)) [.sh (.scr ns), .sh (.int k), .un] = some (.val (.int cell), [.sh (.scr ns), .sh (.int k), .un]) := by
    by_cases h : k < ns.length
    · refine ⟨ns[k], eIf_t (e1 := [.sh (.scr ns), .sh (.int k), .un]) (bTest_ok (eOp_ok rfl (eCB1_ok rfl x_len3) ?_)) (eOp_ok rfl rfl ?_)⟩
      · rw [x_lt, decide_eq_true (by omega)]
      · rw [x_ix3]
        unfold atI ixN
        rw [if_pos (by omega), if_pos (by omega)]
        simp [h]
    · refine ⟨0, eIf_f (e1 := [.sh (.scr ns), .sh (.int k), .un]) (bTest_ok (eOp_ok rfl (eCB1_ok rfl x_len3) ?_)) rfl⟩
      rw [x_lt, decide_eq_false (by omega)]
  obtain ⟨c1, hc1⟩ : ∃ c1, bAbs [.int cell] = some (.int c1) := ⟨_, x_abs⟩
  obtain ⟨c2, hc2, hn⟩ : ∃ c2, bMax2 [.int 0, .int (c1 - p)] = some (.int c2) ∧ 0 ≤ c2 := ⟨_, x_max2, by split <;> omega⟩
  have hm : dMod (.int cell) (.int (q + 37)) = some (.int (cell % (q + 37))) := x_mod q2
  have n1 := Int.emod_nonneg cell (b := q + 37) (by omega)
  have n2 := Int.emod_lt_of_pos cell q2
  refine ⟨_, ⟨c2, cell % (q + 37) * 89 + 60013 * k, 0, rfl, hn, by omega, by omega, by omega⟩, _, rfl, ?_⟩
  refine body_fr (e := [.sh (.scr ns), .sh (.int k), .sh (.int cell)]) rfl (sSeq_nx (e1 := [.sh (.scr ns), .sh (.int k), .sh (.int cell)]) (sSet_ok hc) (sRet_ok (eLst3_ok (eCB2_ok eC_ok (eOp_ok (eCB1_ok rfl hc1) (eOp_ok eC_ok eC_ok hp1) x_sub) hc2)
    (eOp_ok (eOp_ok (eOp_ok (eCB1_ok rfl x_int) (eOp_ok (eOp_ok eC_ok eC_ok hp2) eC_ok x_add) hm) eC_ok (x_mul (small_mul (by decide)))) (eOp_ok eC_ok rfl (x_mul (small_mul (by omega)))) x_add) eC_ok)))
theorem choose_ok {n k : Nat} (hn : n ≤ 1000) (hk : k ≤ 1000) : m_law_choose [.sh (.int n), .sh (.int k)] = some (.val (.int (ch n k)) [.un, .un]) := by
  have hir : iR1 (aCons (eVar 1) aNil) [.sh (.int n), .sh (.int k), .sh (.int 1), .un] = some (Vm.upTo 0 k, [.sh (.int n), .sh (.int k), .sh (.int 1), .un]) := iR1_n (aD1_ok rfl) (by omega)
  obtain ⟨env, q1, v, rfl⟩ := loop_rangeT (tgt := tgName 3) (body := (sSet 2 (eOp dFdiv (eOp dMul (eVar 2) (eOp dSub (eVar 0) (eVar 3))) (eOp dAdd (eVar 3) (eC (.int 1)))))) (fun i env => ∃ v : Sl, env = [.sh (.int n), .sh (.int k), .sh (.int (ch n i)), v]) 0 k [.sh (.int n), .sh (.int k), .sh (.int 1), .un] ⟨.un, by simp [ch]⟩ (by
    rintro i env hi ⟨v, rfl⟩
    have e : ch n i * ((n : Int) - (0 + (i : Int))) / ((0 + (i : Int)) + 1) = ch n (i + 1) := by
      have := Ar.ch_step n i
      rw [show (0 + (i : Int)) = i by omega, ← this]
      exact Int.mul_ediv_cancel _ (by omega)
    refine ⟨_, sSet_ok (e1 := [.sh (.int n), .sh (.int k), .sh (.int (ch n i)), .sh (.int (0 + (i : Int)))]) (d := .int (ch n (i + 1))) (eOp_ok (eOp_ok rfl (eOp_ok rfl rfl x_sub) (x_mul (small_mul (by omega)))) (eOp_ok rfl eC_ok x_add) ?_), _, rfl⟩
    rw [x_fdiv (by omega) (by omega), e])
  exact body_val (e := [.sh (.int n), .sh (.int k), .sh (.int (ch n k)), v]) rfl (sSeq_nx (e1 := [.sh (.int n), .sh (.int k), .sh (.int 1), .un]) rfl (sSeq_nx (sFor_ok hir q1) (sRet_ok rfl)))
theorem falling_ok {m : Int} {k : Nat} (hm : -1000 ≤ m ∧ m ≤ 1000) (hk : k ≤ 1000) : m_law_falling [.sh (.int m), .sh (.int k)] = some (.val (.int (ff m k)) [.un, .un]) := by
  have hir : iR1 (aCons (eVar 1) aNil) [.sh (.int m), .sh (.int k), .sh (.int 1), .un] = some (Vm.upTo 0 k, [.sh (.int m), .sh (.int k), .sh (.int 1), .un]) := iR1_n (aD1_ok rfl) (by omega)
  obtain ⟨env, q1, v, rfl⟩ := loop_rangeT (tgt := tgName 3) (body := (sSet 2 (eOp dMul (eVar 2) (eOp dSub (eVar 0) (eVar 3))))) (fun i env => ∃ v : Sl, env = [.sh (.int m), .sh (.int k), .sh (.int (ff m i)), v]) 0 k [.sh (.int m), .sh (.int k), .sh (.int 1), .un] ⟨.un, by simp [ff]⟩ (by
    rintro i env hi ⟨v, rfl⟩
    have e : ff m i * (m - (0 + (i : Int))) = ff m (i + 1) := by
      rw [show (0 + (i : Int)) = i by omega]
      rfl
    refine ⟨_, sSet_ok (e1 := [.sh (.int m), .sh (.int k), .sh (.int (ff m i)), .sh (.int (0 + (i : Int)))]) (d := .int (ff m (i + 1))) (eOp_ok rfl (eOp_ok rfl rfl x_sub) ?_), _, rfl⟩
    rw [x_mul (small_mul (by omega)), e])
  exact body_val (e := [.sh (.int m), .sh (.int k), .sh (.int (ff m k)), v]) rfl (sSeq_nx (e1 := [.sh (.int m), .sh (.int k), .sh (.int 1), .un]) rfl (sSeq_nx (sFor_ok hir q1) (sRet_ok rfl)))
end Tk23

set_option Elab.async false
set_option linter.all false
set_option maxRecDepth 100000
set_option exponentiation.threshold 3000
namespace Tk23
open PySem PySem.Spec PyProof.Rows L2 Evl Vm
open Ar (along nx ff ch due dsum tsum term sg)
theorem eCall1v_ok {m : En → Option Res} {fa : En → Option (R × En)} {env e1 e : En} {x z : D} (ha : fa env = some (.val x, e1)) (h : m [.sh x] = some (.val z e)) : eCall 1 m (aCons fa aNil) env = some (.val z, e1) := by
  unfold eCall
  rw [aD1_ok ha]
  simp [h]
theorem eCall1f_ok {m : En → Option Res} {fa : En → Option (R × En)} {env e1 e : En} {x : D} {zs : List D} (ha : fa env = some (.val x, e1)) (h : m [.sh x] = some (.fr zs e)) : eCall 1 m (aCons fa aNil) env = some (.fr zs, e1) := by
  unfold eCall
  rw [aD1_ok ha]
  simp [h]
theorem aD2_ok {fa fb : En → Option (R × En)} {env e1 e2 : En} {x y : D} (ha : fa env = some (.val x, e1)) (hb : fb e1 = some (.val y, e2)) : aD (aCons fa (aCons fb aNil)) env = some ([x, y], e2) := by
  unfold aD
  rw [aCons_ok ha (aCons_ok hb aNil_ok)]
  rfl
theorem eCall2v_ok {m : En → Option Res} {fa fb : En → Option (R × En)} {env e1 e2 e : En} {x y z : D} (ha : fa env = some (.val x, e1)) (hb : fb e1 = some (.val y, e2)) (h : m [.sh x, .sh y] = some (.val z e)) : eCall 2 m (aCons fa (aCons fb aNil)) env = some (.val z, e2) := by
  unfold eCall
  rw [aD2_ok ha hb]
  simp [h]
theorem eCall2f_ok {m : En → Option Res} {fa fb : En → Option (R × En)} {env e1 e2 e : En} {x y : D} {zs : List D} (ha : fa env = some (.val x, e1)) (hb : fb e1 = some (.val y, e2)) (h : m [.sh x, .sh y] = some (.fr zs e)) : eCall 2 m (aCons fa (aCons fb aNil)) env = some (.fr zs, e2) := by
  unfold eCall
  rw [aD2_ok ha hb]
  simp [h]
theorem choose_ok' {n k : Nat} {x y : Int} (hx : x = n) (hy : y = k) (hn : n ≤ 1000) (hk : k ≤ 1000) : m_law_choose [.sh (.int x), .sh (.int y)] = some (.val (.int (ch n k)) [.un, .un]) := by
  subst hx hy
  exact choose_ok hn hk
theorem falling_ok' {m : Int} {k : Nat} {y : Int} (hy : y = k) (hm : -1000 ≤ m ∧ m ≤ 1000) (hk : k ≤ 1000) : m_law_falling [.sh (.int m), .sh (.int y)] = some (.val (.int (ff m k)) [.un, .un]) := by
  subst hy
  exact falling_ok hm hk
def Sizes (cs : List Int) : Prop := ∀ c ∈ cs, c.natAbs < 2 ^ 1000
theorem big_mul {a b : Int} {p q : Nat} (h1 : a.natAbs < 2 ^ p) (h2 : b.natAbs < 2 ^ q) (h : p + q ≤ 100000) : CMulA a b := by
  refine .inr ?_
  unfold CMulX
  have := bits h1
  have := bits h2
  omega
def dInner : En → Option Out := (sSeq (sSet 7 (eOp dMul (eOp dMul (eOp dIx (eVar 0) (eVar 6)) (eCall 2 m_law_choose (aCons (eOp dSub (eVar 2) (eVar 6)) (aCons (eOp dSub (eVar 4) (eVar 6)) aNil)))) (eCall 2 m_law_falling (aCons (eOp dSub (eVar 1) (eVar 6)) (aCons (eOp dSub (eVar 4) (eVar 6)) aNil)))))
    (sSet 5 (eOp dAdd (eVar 5) (eOp dMul (eVar 7) (eOp dIx (eLst (aCons (eC (.int 1)) (aCons (eUn dNeg (eC (.int 1))) aNil))) (eOp dMod (eCB bInt (aCons (eVar 6) aNil)) (eC (.int 2))))))))
theorem ff_small {x : Int} {n : Nat} (h : -500 ≤ x ∧ x ≤ 500) (hn : n ≤ 30) : (ff x n).natAbs < 2 ^ 400 := by
  have h1 := Ar.ff_bd (q := 1000) (x := x) n fun j hj => by omega
  have h2 : 1000 ^ n ≤ 1000 ^ 30 := Nat.pow_le_pow_right (by decide) hn
  have h3 : 1000 ^ 30 < 2 ^ 400 := by decide
  omega
theorem ch_small {n k : Nat} (hn : n ≤ 30) : (ch n k).natAbs < 2 ^ 31 := by
  have h1 := Ar.ch_le n k
  have h0 := Ar.ch_nonneg n k
  have h2 : 2 ^ n ≤ 2 ^ 30 := Nat.pow_le_pow_right (by decide) hn
  have h3 : (2 : Int) ^ n = ((2 ^ n : Nat) : Int) := by simp
  rw [h3] at h1
  generalize 2 ^ n = z at *
  omega
theorem dInner_ok {cs acc : List Int} {m total : Int} {k j : Nat} {s7 : Sl} (hN : cs.length ≤ 30) (hm : -400 ≤ m ∧ m ≤ 400) (hj : j ≤ k) (hk : k < cs.length) (hs : Sizes cs) :
    ∃ v, dInner [.sh (di cs), .sh (.int m), .sh (.int ((cs.length : Int) - 1)), .ow (acc.map .int), .sh (.int k), .sh (.int total), .sh (.int j), s7] = some (.nx [.sh (di cs), .sh (.int m), .sh (.int ((cs.length : Int) - 1)), .ow (acc.map .int), .sh (.int k), .sh (.int (total + term cs m k j)), .sh (.int j), v]) := by
  have hat : dIx (di cs) (.int j) = some (.int (cs.getD j 0)) := atI_int (by omega) (by omega)
  have c0 : (cs.getD j 0).natAbs < 2 ^ 1000 := by
    rw [List.getD_eq_getElem?_getD, List.getElem?_eq_getElem (by omega)]
    exact hs _ (List.getElem_mem _)
  have c1 := choose_ok' (n := cs.length - 1 - j) (k := k - j) (x := (cs.length : Int) - 1 - j) (y := (k : Int) - j) (by omega) (by omega) (by omega) (by omega)
  have c2 := falling_ok' (m := m - j) (k := k - j) (y := (k : Int) - j) (by omega) (by omega) (by omega)
  have b1 : (ch (cs.length - 1 - j) (k - j)).natAbs < 2 ^ 31 := ch_small (by omega)
  have b2 : (ff (m - j) (k - j)).natAbs < 2 ^ 400 := ff_small (by omega) (by omega)
  have b3 : (cs.getD j 0 * ch (cs.length - 1 - j) (k - j)).natAbs < 2 ^ 1031 := by
    rw [Int.natAbs_mul, show (1031 : Nat) = 1000 + 31 from rfl, Nat.pow_add]
    exact Nat.mul_lt_mul'' c0 b1
  have hsg : dIx (.lst [.int 1, .int (-1)]) (.int ((j : Int) % 2)) = some (.int (sg j)) := by
    unfold sg
    have : j % 2 = 0 ∨ j % 2 = 1 := by omega
    rcases this with h | h
    · rw [show ((j : Int) % 2) = 0 by omega, if_pos h]
      rfl
    · rw [show ((j : Int) % 2) = 1 by omega, if_neg (by omega)]
      rfl
  have hsb : -(2 ^ 64) < sg j ∧ sg j < 2 ^ 64 := by unfold sg; split <;> omega
  have g := eOp_ok (env := [.sh (di cs), .sh (.int m), .sh (.int ((cs.length : Int) - 1)), .ow (acc.map .int), .sh (.int k), .sh (.int total), .sh (.int j), s7]) (eOp_ok (eOp_ok (fa := eVar 0) (fb := eVar 6) rfl rfl hat) (eCall2v_ok (eOp_ok (fa := eVar 2) (fb := eVar 6) rfl rfl x_sub) (eOp_ok (fa := eVar 4) (fb := eVar 6) rfl rfl x_sub) c1) (x_mul (big_mul c0 b1 (by decide)))) (eCall2v_ok (eOp_ok (fa := eVar 1) (fb := eVar 6) rfl rfl x_sub) (eOp_ok (fa := eVar 4) (fb := eVar 6) rfl rfl x_sub) c2) (x_mul (big_mul b3 b2 (by decide)))
  unfold term
  generalize cs.getD j 0 * ch (cs.length - 1 - j) (k - j) * ff (m - j) (k - j) = part at g ⊢
  refine ⟨.sh (.int part), ?_⟩
  have gm : eOp dMod (eCB bInt (aCons (eVar 6) aNil)) (eC (.int 2)) [.sh (di cs), .sh (.int m), .sh (.int ((cs.length : Int) - 1)), .ow (acc.map .int), .sh (.int k), .sh (.int total), .sh (.int j), .sh (.int part)] = some (.val (.int ((j : Int) % 2)), [.sh (di cs), .sh (.int m), .sh (.int ((cs.length : Int) - 1)), .ow (acc.map .int), .sh (.int k), .sh (.int total), .sh (.int j), .sh (.int part)]) := eOp_ok (eCB1_ok rfl x_int) eC_ok (x_mod (by decide))
  unfold dInner
  refine sSeq_nx (sSet_ok g) ?_
  exact sSet_ok (eOp_ok rfl (eOp_ok rfl (eOpR_ok (x := .lst [.int 1, .int (-1)]) (ra := .fr [.int 1, .int (-1)]) rfl gm rfl rfl hsg) (x_mul (small_mul hsb))) x_add)
end Tk23

set_option Elab.async false
set_option linter.all false
set_option maxRecDepth 100000
set_option exponentiation.threshold 3000
namespace Tk23
open PySem PySem.Spec PyProof.Rows L2 Evl Vm
open Ar (along nx ff ch due dsum tsum term sg)
theorem iR1_n' {env : En} {f : En → Option (List R × En)} {n : Nat} {j : Int} (hj : j = n) (e : aD f env = some ([.int j], env)) (h : n < 1000000) : iR1 f env = some (Vm.upTo 0 n, env) := by
  subst hj
  exact iR1_n e h
def dOuter : En → Option Out := (sSeq (sSet 5 (eC (.int 0)))
    (sSeq (sFor (iR1 (aCons (eOp dAdd (eVar 4) (eC (.int 1))) aNil)) (tgName 6) dInner)
    (sExpr (eAppend 3 (aCons (eVar 5) aNil)))))
theorem dOuter_ok {cs acc : List Int} {m : Int} {k : Nat} {s5 s6 s7 : Sl} (hN : cs.length ≤ 30) (hm : -400 ≤ m ∧ m ≤ 400) (hk : k < cs.length) (hs : Sizes cs) (hl : acc.length < 1000) :
    ∃ w5 w6 w7, dOuter [.sh (di cs), .sh (.int m), .sh (.int ((cs.length : Int) - 1)), .ow (acc.map .int), .sh (.int k), s5, s6, s7] = some (.nx [.sh (di cs), .sh (.int m), .sh (.int ((cs.length : Int) - 1)), .ow ((acc ++ [dsum cs m k]).map .int), .sh (.int k), w5, w6, w7]) := by
  obtain ⟨env, q1, v6, v7, rfl⟩ := loop_rangeT (tgt := tgName 6) (body := dInner) (fun i env => ∃ v6 v7 : Sl, env = [.sh (di cs), .sh (.int m), .sh (.int ((cs.length : Int) - 1)), .ow (acc.map .int), .sh (.int k), .sh (.int (tsum (term cs m k) i)), v6, v7]) 0 (k + 1) [.sh (di cs), .sh (.int m), .sh (.int ((cs.length : Int) - 1)), .ow (acc.map .int), .sh (.int k), .sh (.int 0), s6, s7] ⟨s6, s7, rfl⟩ (by
    rintro i env hi ⟨v6, v7, rfl⟩
    rw [Int.zero_add]
    obtain ⟨v, g⟩ := dInner_ok (acc := acc) (total := tsum (term cs m k) i) (j := i) (s7 := v7) hN hm (by omega) hk hs
    exact ⟨_, g, _, v, rfl⟩)
  rw [Ar.term_sum cs m k hk] at q1
  have hlen : (acc.map D.int).length < 1000000 := by rw [List.length_map]; omega
  have hir : iR1 (aCons (eOp dAdd (eVar 4) (eC (.int 1))) aNil) [.sh (di cs), .sh (.int m), .sh (.int ((cs.length : Int) - 1)), .ow (acc.map .int), .sh (.int k), .sh (.int 0), s6, s7] = some (Vm.upTo 0 (k + 1), [.sh (di cs), .sh (.int m), .sh (.int ((cs.length : Int) - 1)), .ow (acc.map .int), .sh (.int k), .sh (.int 0), s6, s7]) := iR1_n' (j := (k : Int) + 1) (by omega) (aD1_ok (eOp_ok rfl eC_ok x_add)) (by omega)
  refine ⟨.sh (.int (dsum cs m k)), v6, v7, ?_⟩
  unfold dOuter
  rw [List.map_append]
  exact sSeq_nx (e1 := [.sh (di cs), .sh (.int m), .sh (.int ((cs.length : Int) - 1)), .ow (acc.map .int), .sh (.int k), .sh (.int 0), s6, s7]) rfl (sSeq_nx (sFor_ok hir q1) (append_ok (i := 3) (xs := acc.map .int) (e1 := [.sh (di cs), .sh (.int m), .sh (.int ((cs.length : Int) - 1)), .ow (acc.map .int), .sh (.int k), .sh (.int (dsum cs m k)), v6, v7]) rfl rfl rfl hlen))
theorem due_list (cs : List Int) (m : Int) : (List.range cs.length).map (dsum cs m) = due m cs := by
  refine List.ext_getElem? fun i => ?_
  by_cases h : i < cs.length
  · rw [Ar.due_get cs m i h, List.getElem?_map, List.getElem?_range h]
    rfl
  · rw [List.getElem?_eq_none (by simp; omega), List.getElem?_eq_none (by rw [Ar.due_length]; omega)]
theorem bind_tg {i : Nat} {d : D} {env : En} {body : En → Option Out} {o : Option Out} (h : body (env.set i (.sh d)) = o) : (tgName i d env).bind body = o := h
theorem due_ok {cs : List Int} {m : Int} (h1 : 1 ≤ cs.length) (hN : cs.length ≤ 30) (hm : -400 ≤ m ∧ m ≤ 400) (hs : Sizes cs) : m_law_due [.sh (di cs), .sh (.int m)] = some (.fr ((due m cs).map .int) [.un, .un]) := by
  have hir : iR1 (aCons (eOp dAdd (eVar 2) (eC (.int 1))) aNil) [.sh (di cs), .sh (.int m), .sh (.int ((cs.length : Int) - 1)), .ow [], .un, .un, .un, .un] = some (Vm.upTo 0 cs.length, [.sh (di cs), .sh (.int m), .sh (.int ((cs.length : Int) - 1)), .ow [], .un, .un, .un, .un]) := iR1_n' (j := (cs.length : Int) - 1 + 1) (by omega) (aD1_ok (eOp_ok rfl eC_ok x_add)) (by omega)
  obtain ⟨env, q1, v4, v5, v6, v7, rfl⟩ := loop_rangeT (tgt := tgName 4) (body := dOuter) (fun i env => ∃ v4 v5 v6 v7 : Sl, env = [.sh (di cs), .sh (.int m), .sh (.int ((cs.length : Int) - 1)), .ow (((List.range i).map (dsum cs m)).map .int), v4, v5, v6, v7]) 0 cs.length [.sh (di cs), .sh (.int m), .sh (.int ((cs.length : Int) - 1)), .ow [], .un, .un, .un, .un] ⟨.un, .un, .un, .un, rfl⟩ (by
    rintro i env hi ⟨v4, v5, v6, v7, rfl⟩
    rw [Int.zero_add]
    obtain ⟨w5, w6, w7, g⟩ := dOuter_ok (acc := (List.range i).map (dsum cs m)) (k := i) (s5 := v5) (s6 := v6) (s7 := v7) hN hm hi hs (by rw [List.length_map, List.length_range]; omega)
    refine ⟨_, bind_tg g, .sh (.int i), w5, w6, w7, ?_⟩
    rw [show (List.range (i + 1)).map (dsum cs m) = (List.range i).map (dsum cs m) ++ [dsum cs m i] by rw [List.range_succ, List.map_append]; rfl])
  rw [due_list] at q1
  have par : sPar 2 3 (aCons (eOp dSub (eCB bLen (aCons (eVar 0) aNil)) (eC (.int 1))) (aCons (eLst aNil) aNil)) [.sh (di cs), .sh (.int m), .un, .un, .un, .un, .un, .un] = some (.nx [.sh (di cs), .sh (.int m), .sh (.int ((cs.length : Int) - 1)), .ow [], .un, .un, .un, .un]) := by
    unfold sPar
    rw [aCons_ok (eOp_ok (eCB1_ok rfl x_len1) eC_ok x_sub) (aCons_ok (e1 := [.sh (di cs), .sh (.int m), .un, .un, .un, .un, .un, .un]) (r := .fr []) rfl aNil_ok), List.length_map]
    rfl
  exact body_al (e := [.sh (di cs), .sh (.int m), .sh (.int ((cs.length : Int) - 1)), .ow ((due m cs).map .int), v4, v5, v6, v7]) (i := 3) rfl (sSeq_nx par (sSeq_nx (sFor_ok hir q1) (sRet_ok rfl))) rfl (by decide)
end Tk23

set_option Elab.async false
set_option linter.all false
set_option maxRecDepth 100000
set_option exponentiation.threshold 3000
namespace Tk23
open PySem PySem.Spec PyProof.Rows L2 Evl Vm
open Ar (along nx ff ch due dsum tsum term sg)
/-- what is left of h -/
abbrev lf (h : Int) (ns : List Int) : List Int := ns.map fun x => h - x
theorem srt_lf (h : Int) (ns : List Int) : srt (lf h ns) = (lf h (srt ns)).reverse := by
  refine (srt_unique ?_ ?_).symm
  · exact (List.reverse_perm _).trans ((srt_perm ns).map _)
  · rw [List.pairwise_reverse, List.pairwise_map]
    exact (srt_pw ns).imp fun q => by omega
theorem lf_lf (h : Int) (ns : List Int) : lf h (lf h ns) = ns := by
  unfold lf
  rw [List.map_map]
  have : ((fun x => h - x) ∘ fun x => h - x) = id := funext fun x => by show h - (h - x) = x; omega
  rw [this, List.map_id]
theorem team_le {ns : List Int} (h1 : 1 ≤ ns.length) (h2 : ns.length ≤ 20) (h : ∀ x ∈ ns, 0 ≤ x ∧ x ≤ 40) : Team ns := by
  refine ⟨h1, h2, fun x hx => (h x hx).1, fun s hs => ?_⟩
  obtain ⟨i, hi, e⟩ := List.getElem_of_mem hs
  have hi' : i < (srt ns).length := by rw [srt_len, ← spares_len]; exact hi
  have : (spares ns)[i]? = some ((srt ns)[i] - (i : Int)) := by
    unfold spares
    rw [sparesFrom_get, List.getElem?_eq_getElem hi']
    simp
  rw [List.getElem?_eq_getElem hi, e] at this
  have h3 := Option.some.inj this
  have := (h _ (srt_mem.mp (List.getElem_mem hi'))).2
  omega
theorem cnt_lf (h : Int) (ns : List Int) : cnt (lf h ns) = due h (cnt ns) := by
  unfold cnt
  rw [Ar.due_along, srt_lf]
theorem cnt_sizes {ns : List Int} (h2 : ns.length ≤ 20) (h : ∀ x ∈ ns, 0 ≤ x ∧ x ≤ 40) : Sizes (cnt ns) := by
  intro c hc
  have := Ar.along_bd (q := 100) (ns := srt ns) (fun b hb j hj => by
    have := h b (srt_mem.mp hb)
    rw [srt_len] at hj
    omega) c hc
  rw [srt_len] at this
  have h3 : (100 + 1) ^ ns.length ≤ 101 ^ 20 := Nat.pow_le_pow_right (by decide) h2
  have h4 : 101 ^ 20 < 2 ^ 1000 := by decide
  omega
theorem above_sum (h i j : Int) (hij : i + j < h) : ∀ ns : List Int, ns.length ≤ above ns i + above (lf h ns) j
  | [] => by simp
  | x :: ns => by
    have ih := above_sum h i j hij ns
    unfold above lf at ih ⊢
    simp only [List.map_cons, List.filter_cons, List.length_cons]
    by_cases h1 : i < x
    · rw [if_pos (by simpa using h1)]
      by_cases h2 : j < h - x
      · rw [if_pos (by simpa using h2)]
        simp only [List.length_cons]
        omega
      · rw [if_neg (by simpa using h2)]
        simp only [List.length_cons]
        omega
    · have h2 : j < h - x := by omega
      rw [if_neg (by simpa using h1), if_pos (by simpa using h2)]
      simp only [List.length_cons]
      omega
theorem greatest_sum {ns : List Int} {h : Int} (h1 : 1 ≤ ns.length) : (ns.length : Int) ≤ minL (bounds ns) + minL (bounds (lf h ns)) ∨ h ≤ minL (bounds ns) + minL (bounds (lf h ns)) := by
  have m1 := minL_mem (bounds_ne h1)
  have m2 := minL_mem (bounds_ne (ns := lf h ns) (by rw [List.length_map]; exact h1))
  obtain ⟨i, _, e1⟩ := List.mem_map.mp m1
  obtain ⟨j, _, e2⟩ := List.mem_map.mp m2
  rw [← e1, ← e2]
  unfold bd1
  by_cases hij : (0 + (i : Int)) + (0 + (j : Int)) < h
  · left
    have := above_sum h _ _ hij ns
    omega
  · right
    omega
theorem spares_get {ns : List Int} {i : Nat} (hi : i < ns.length) : ∃ x, (srt ns)[i]? = some x ∧ (spares ns)[i]? = some (x - (i : Int)) := by
  have hi' : i < (srt ns).length := by rw [srt_len]; exact hi
  refine ⟨(srt ns)[i], List.getElem?_eq_getElem hi', ?_⟩
  unfold spares
  rw [sparesFrom_get, List.getElem?_eq_getElem hi']
  simp
theorem spares_both {ns : List Int} {h : Int} {k : Nat} (hk : k < ns.length) : ∃ a b, (spares ns)[k]? = some a ∧ ((spares (lf h ns)).reverse)[k]? = some b ∧ a + b = h - (ns.length : Int) + 1 := by
  obtain ⟨x, hx, ha⟩ := spares_get hk
  have hl : (lf h ns).length = ns.length := List.length_map _
  obtain ⟨y, hy, hb⟩ := spares_get (ns := lf h ns) (i := ns.length - 1 - k) (by rw [hl]; omega)
  refine ⟨x - (k : Int), y - ((ns.length - 1 - k : Nat) : Int), ha, ?_, ?_⟩
  · rw [List.getElem?_reverse (by rw [spares_len, hl]; exact hk), spares_len, hl]
    exact hb
  · rw [srt_lf, List.getElem?_reverse (by rw [List.length_map, srt_len]; omega), List.length_map, srt_len, List.getElem?_map, show ns.length - 1 - (ns.length - 1 - k) = k by omega, hx] at hy
    have : h - x = y := by simpa using hy
    omega
end Tk23

set_option Elab.async false
set_option linter.all false
set_option maxRecDepth 100000
set_option exponentiation.threshold 3000
namespace Tk23
open PySem PySem.Spec PyProof.Rows L2 Evl Vm
open Ar (along nx ff ch due dsum tsum term sg)
abbrev rE (s : Sl) (ns : List Int) (h : Int) (v3 v4 v5 v6 v7 v8 v9 : Sl) : En := [s, .sh (di ns), .sh (.int h), v3, v4, v5, v6, v7, v8, v9]
abbrev shd (ns : List Int) : Sl := .sh (di ns)
theorem bOr_f {t u : En → Option (Bool × En)} {env e1 e2 : En} (h1 : t env = some (false, e1)) (h2 : u e1 = some (false, e2)) : bOr t u env = some (false, e2) := by
  unfold bOr
  rw [h1]
  exact h2
theorem bNot_t {t : En → Option (Bool × En)} {env e1 : En} (h1 : t env = some (true, e1)) : bNot t env = some (false, e1) := by
  unfold bNot
  rw [h1]
  rfl
theorem aD1a_ok {i : Nat} {env : En} {xs : List D} (h : env[i]? = some (.ow xs)) : aD (aCons (eVar i) aNil) env = some ([.lst xs], env.set i (.sh (.lst xs))) := by
  have e : eVar i env = some (.al i, env) := by unfold eVar; rw [h]
  unfold aD
  rw [aCons_ok e aNil_ok]
  simp [h]
theorem eCall1a_ok {m : En → Option Res} {i : Nat} {env e : En} {xs : List D} {z : D} (hi : env[i]? = some (.ow xs)) (h : m [.sh (.lst xs)] = some (.val z e)) : eCall 1 m (aCons (eVar i) aNil) env = some (.val z, env.set i (.sh (.lst xs))) := by
  unfold eCall
  rw [aD1a_ok hi]
  simp [h]
theorem aD2f_ok {fa fb : En → Option (R × En)} {env e1 e2 : En} {xs : List D} {y : D} (ha : fa env = some (.fr xs, e1)) (hb : fb e1 = some (.val y, e2)) : aD (aCons fa (aCons fb aNil)) env = some ([.lst xs, y], e2) := by
  unfold aD
  rw [aCons_ok ha (aCons_ok hb aNil_ok)]
  rfl
theorem eCall2ff_ok {m : En → Option Res} {fa fb : En → Option (R × En)} {env e1 e2 e : En} {xs : List D} {y : D} {zs : List D} (ha : fa env = some (.fr xs, e1)) (hb : fb e1 = some (.val y, e2)) (h : m [.sh (.lst xs), .sh y] = some (.fr zs e)) : eCall 2 m (aCons fa (aCons fb aNil)) env = some (.fr zs, e2) := by
  unfold eCall
  rw [aD2f_ok ha hb]
  simp [h]
theorem aD3_ok {fa fb fc : En → Option (R × En)} {env e1 e2 e3 : En} {x y z : D} (ha : fa env = some (.val x, e1)) (hb : fb e1 = some (.val y, e2)) (hc : fc e2 = some (.val z, e3)) : aD (aCons fa (aCons fb (aCons fc aNil))) env = some ([x, y, z], e3) := by
  unfold aD
  rw [aCons_ok ha (aCons_ok hb (aCons_ok hc aNil_ok))]
  rfl
theorem eCall3v_ok {m : En → Option Res} {fa fb fc : En → Option (R × En)} {env e1 e2 e3 e : En} {x y z w : D} (ha : fa env = some (.val x, e1)) (hb : fb e1 = some (.val y, e2)) (hc : fc e2 = some (.val z, e3)) (h : m [.sh x, .sh y, .sh z] = some (.val w e)) : eCall 3 m (aCons fa (aCons fb (aCons fc aNil))) env = some (.val w, e3) := by
  unfold eCall
  rw [aD3_ok ha hb hc]
  simp [h]
theorem eRev_ok {fa : En → Option (R × En)} {env e1 : En} {xs : List D} (ha : fa env = some (.fr xs, e1)) : eRev fa env = some (.fr xs.reverse, e1) := by
  unfold eRev
  rw [ha]
  rfl
theorem sPar_ff {i j : Nat} {f : En → Option (List R × En)} {env e1 : En} {xs ys : List D} (h : f env = some ([.fr xs, .fr ys], e1)) : sPar i j f env = some (.nx ((e1.set i (.sh (.lst xs))).set j (.sh (.lst ys)))) := by
  unfold sPar
  rw [h]
  rfl
theorem sPar_vv {i j : Nat} {f : En → Option (List R × En)} {env e1 : En} {x y : D} (h : f env = some ([.val x, .val y], e1)) : sPar i j f env = some (.nx ((e1.set i (.sh x)).set j (.sh y))) := by
  unfold sPar
  rw [h]
  rfl
/-- what the law's teams are -/
structure Crew (ns : List Int) (h : Int) : Prop where
  pos : 1 ≤ ns.length
  few : ns.length ≤ 20
  low : ∀ x ∈ ns, 0 ≤ x ∧ x ≤ h
  h40 : h ≤ 40
theorem Crew.team {ns : List Int} {h : Int} (C : Crew ns h) : Team ns := team_le C.pos C.few fun x hx => ⟨(C.low x hx).1, Int.le_trans (C.low x hx).2 C.h40⟩
theorem Crew.lf {ns : List Int} {h : Int} (C : Crew ns h) : Crew (Tk23.lf h ns) h := by
  refine ⟨by rw [List.length_map]; exact C.pos, by rw [List.length_map]; exact C.few, fun x hx => ?_, C.h40⟩
  obtain ⟨y, hy, rfl⟩ := List.mem_map.mp hx
  have := C.low y hy
  omega
theorem Crew.others {ns : List Int} {h : Int} (C : Crew ns h) : m_others [.sh (di ns), .sh (.int h)] = some (.fr ((Tk23.lf h ns).map .int) [.un, .un]) :=
  others_ok C.team ((C.low _ (maxL_mem (max_ok C.team))).2) C.h40
theorem Crew.due {ns : List Int} {h : Int} (C : Crew ns h) : m_law_due [.sh (di (cnt ns)), .sh (.int h)] = some (.fr ((cnt (Tk23.lf h ns)).map .int) [.un, .un]) := by
  have hl := cnt_length ns
  have := C.low _ (maxL_mem (max_ok C.team))
  rw [due_ok (by omega) (by have := C.few; omega) (by have := C.h40; omega) (cnt_sizes C.few fun x hx => ⟨(C.low x hx).1, Int.le_trans (C.low x hx).2 C.h40⟩), cnt_lf]
def R3 : En → Option Out := (sIf (bOr (bNot (bTest (eCall 1 m_is_team (aCons (eVar 3) aNil)))) (bTest (eOp dNe (eCall 2 m_others (aCons (eVar 3) (aCons (eVar 2) aNil))) (eVar 1))))
    (sRet (eC (.bl false)))
    sNext)
theorem R3_ok {s v4 v5 v6 v7 v8 v9 : Sl} {ns : List Int} {h : Int} (C : Crew ns h) : R3 (rE s ns h (.ow ((lf h ns).map .int)) v4 v5 v6 v7 v8 v9) = some (.nx (rE s ns h (shd (lf h ns)) v4 v5 v6 v7 v8 v9)) := by
  have o := C.lf.others
  rw [lf_lf] at o
  have hn : dNe (di ns) (di ns) = some (.bl false) := by rw [x_neL]; simp
  exact sIf_f (bOr_f (bNot_t (bTest_ok (eCall1a_ok (i := 3) rfl (is_team_ok C.lf.team)))) (bTest_ok (e1 := rE s ns h (shd (lf h ns)) v4 v5 v6 v7 v8 v9) (eOpR_ok (eCall2f_ok (x := di (lf h ns)) (y := .int h) rfl rfl o) (rb := .val (di ns)) rfl rfl rfl hn))) rfl
def R4 : En → Option Out := (sIf (bOr (bTest (eOp dNe (eCall 1 m_counts (aCons (eVar 3) aNil)) (eCall 2 m_law_due (aCons (eCall 1 m_counts (aCons (eVar 1) aNil)) (aCons (eVar 2) aNil))))) (bTest (eOp dNe (eCall 1 m_counts (aCons (eVar 1) aNil)) (eCall 2 m_law_due (aCons (eCall 1 m_counts (aCons (eVar 3) aNil)) (aCons (eVar 2) aNil))))))
    (sRet (eC (.bl false)))
    sNext)
theorem R4_ok {s v4 v5 v6 v7 v8 v9 : Sl} {ns : List Int} {h : Int} (C : Crew ns h) : R4 (rE s ns h (shd (lf h ns)) v4 v5 v6 v7 v8 v9) = some (.nx (rE s ns h (shd (lf h ns)) v4 v5 v6 v7 v8 v9)) := by
  have o1 := C.due
  have o2 := C.lf.due
  rw [lf_lf] at o2
  have h1 : dNe (di (cnt (lf h ns))) (di (cnt (lf h ns))) = some (.bl false) := by rw [x_neL]; simp
  have h2 : dNe (di (cnt ns)) (di (cnt ns)) = some (.bl false) := by rw [x_neL]; simp
  have k1 := counts_ok C.team
  have k2 := counts_ok C.lf.team
  exact sIf_f (bOr_f (bTest_ok (e1 := rE s ns h (shd (lf h ns)) v4 v5 v6 v7 v8 v9) (eOpR_ok (eCall1f_ok (x := di (lf h ns)) rfl k2) (eCall2ff_ok (eCall1f_ok (x := di ns) rfl k1) (y := .int h) rfl o1) rfl rfl h1))
    (bTest_ok (e1 := rE s ns h (shd (lf h ns)) v4 v5 v6 v7 v8 v9) (eOpR_ok (eCall1f_ok (x := di ns) rfl k1) (eCall2ff_ok (eCall1f_ok (x := di (lf h ns)) rfl k2) (y := .int h) rfl o2) rfl rfl h2))) rfl
end Tk23

set_option Elab.async false
set_option linter.all false
set_option maxRecDepth 100000
set_option exponentiation.threshold 3000
namespace Tk23
open PySem PySem.Spec PyProof.Rows L2 Evl Vm
open Ar (along nx ff ch due dsum tsum term sg)
def R5b : En → Option Out := (sSeq (sPar 5 6 (aCons (eCall1 2 m_law_toss (aCons (eVar 0) (aCons (eCB bLen (aCons (eVar 1) aNil)) aNil))) (aCons (eCall1 2 m_law_toss (aCons (eVar 0) (aCons (eVar 2) aNil))) aNil)))
    (sIf (bTest (eOp dEq (eCall 3 m_can_do (aCons (eVar 1) (aCons (eVar 5) (aCons (eVar 6) aNil)))) (eCall 3 m_can_do (aCons (eVar 3) (aCons (eVar 5) (aCons (eOp dSub (eOp dSub (eVar 2) (eC (.int 1))) (eVar 6)) aNil))))))
    (sRet (eC (.bl false)))
    sNext))
theorem R5b_ok {t : Nat} {s v4 v5 v6 v7 v8 v9 : Sl} {ns : List Int} {h : Int} (C : Crew ns h) (h0 : 0 < h) (hs : IsP t s) (ht : t ≤ 900000) :
    ∃ s' w5 w6, R5b (rE s ns h (shd (lf h ns)) v4 v5 v6 v7 v8 v9) = some (.nx (rE s' ns h (shd (lf h ns)) v4 w5 w6 v7 v8 v9)) ∧ IsP (t + 2) s' := by
  have hp := C.pos
  have hf := C.few
  have h40 := C.h40
  obtain ⟨r1, s1, e1, a1, b1, P1⟩ := toss_call (rest := [shd ns, .sh (.int h), shd (lf h ns), v4, v5, v6, v7, v8, v9]) (W := eCB bLen (aCons (eVar 1) aNil)) (wide := (ns.length : Int)) hs (eCB1_ok (x := di ns) rfl (by rw [x_len1, List.length_map])) (by omega) (by omega) (by omega)
  obtain ⟨r2, s2, e2, a2, b2, P2⟩ := toss_call (rest := [shd ns, .sh (.int h), shd (lf h ns), v4, v5, v6, v7, v8, v9]) (W := eVar 2) (wide := h) P1 rfl (by omega) (by omega) (by omega)
  have hl : (lf h ns).length = ns.length := List.length_map _
  have c1 := can_do_ok C.team (i := r1) (j := r2) a1 b1 ⟨a2, by omega⟩
  have c2 := can_do_ok C.lf.team (i := r1) (j := h - 1 - r2) a1 (by rw [hl]; exact b1) (by omega)
  have g : (lf h ns).getD r1.toNat 0 = h - ns.getD r1.toNat 0 := by
    have hr : r1.toNat < ns.length := by omega
    rw [List.getD_eq_getElem?_getD, List.getD_eq_getElem?_getD, List.getElem?_map, List.getElem?_eq_getElem hr]
    rfl
  rw [g] at c2
  have he : dEq (.bl (decide (r2 < ns.getD r1.toNat 0))) (.bl (decide (h - 1 - r2 < h - ns.getD r1.toNat 0))) = some (.bl false) := by
    rw [x_eqB]
    by_cases hc : r2 < ns.getD r1.toNat 0
    · rw [decide_eq_true hc, decide_eq_false (p := h - 1 - r2 < h - ns.getD r1.toNat 0) (by omega)]
      rfl
    · rw [decide_eq_false hc, decide_eq_true (p := h - 1 - r2 < h - ns.getD r1.toNat 0) (by omega)]
      rfl
  refine ⟨s2, .sh (.int r1), .sh (.int r2), ?_, P2⟩
  unfold R5b
  refine sSeq_nx (e1 := rE s2 ns h (shd (lf h ns)) v4 (.sh (.int r1)) (.sh (.int r2)) v7 v8 v9) (sPar_vv (aCons_ok e1 (aCons_ok e2 aNil_ok))) ?_
  exact sIf_f (bTest_ok (e1 := rE s2 ns h (shd (lf h ns)) v4 (.sh (.int r1)) (.sh (.int r2)) v7 v8 v9) (eOp_ok (eCall3v_ok (x := di ns) (y := .int r1) (z := .int r2) rfl rfl rfl c1) (eCall3v_ok (x := di (lf h ns)) (y := .int r1) (z := .int (h - 1 - r2)) rfl rfl (eOp_ok (eOp_ok rfl eC_ok x_sub) rfl x_sub) c2) he)) rfl
def R5i : En → Option (List D × En) := (iR1 (aCons (eIf (bTest (eOp dGt (eVar 2) (eC (.int 0)))) (eC (.int 4)) (eC (.int 0))) aNil))
theorem R5_ok {t : Nat} {s v4 v5 v6 v7 v8 v9 : Sl} {ns : List Int} {h : Int} (C : Crew ns h) (hs : IsP t s) (ht : t ≤ 800000) :
    ∃ s' w4 w5 w6, sFor R5i (tgName 4) R5b (rE s ns h (shd (lf h ns)) v4 v5 v6 v7 v8 v9) = some (.nx (rE s' ns h (shd (lf h ns)) w4 w5 w6 v7 v8 v9)) ∧ IsP (t + 8) s' := by
  have step : ∀ n : Nat, (n = 4 ∧ 0 < h ∨ n = 0) → ∃ s' w4 w5 w6, loopS (tgName 4) R5b (Vm.upTo 0 n) (rE s ns h (shd (lf h ns)) v4 v5 v6 v7 v8 v9) = some (.nx (rE s' ns h (shd (lf h ns)) w4 w5 w6 v7 v8 v9)) ∧ IsP (t + 8) s' := by
    intro n hn
    obtain ⟨env, q1, s', w4, w5, w6, rfl, P⟩ := loop_rangeT (tgt := tgName 4) (body := R5b) (fun i env => ∃ s' w4 w5 w6 : Sl, env = rE s' ns h (shd (lf h ns)) w4 w5 w6 v7 v8 v9 ∧ IsP (t + 2 * i) s') 0 n (rE s ns h (shd (lf h ns)) v4 v5 v6 v7 v8 v9) ⟨s, v4, v5, v6, rfl, hs⟩ (by
      rintro i env hi ⟨s1, w4, w5, w6, rfl, P⟩
      obtain ⟨s2, x5, x6, g, P2⟩ := R5b_ok (v4 := .sh (.int (0 + (i : Int)))) (v5 := w5) (v6 := w6) (v7 := v7) (v8 := v8) (v9 := v9) C (by omega) P (by omega)
      exact ⟨_, bind_tg g, s2, _, x5, x6, rfl, P2.mono (by omega)⟩)
    exact ⟨s', w4, w5, w6, q1, P.mono (by omega)⟩
  by_cases h0 : 0 < h
  · obtain ⟨s', w4, w5, w6, q, P⟩ := step 4 (.inl ⟨rfl, h0⟩)
    refine ⟨s', w4, w5, w6, sFor_ok (us := Vm.upTo 0 4) (e1 := rE s ns h (shd (lf h ns)) v4 v5 v6 v7 v8 v9) (iR1_n' (j := 4) rfl (aD1_ok (eIf_t (e1 := rE s ns h (shd (lf h ns)) v4 v5 v6 v7 v8 v9) (bTest_ok (eOp_ok (x := .int h) rfl eC_ok ?_)) eC_ok)) (by decide)) q, P⟩
    rw [x_gt, decide_eq_true h0]
  · obtain ⟨s', w4, w5, w6, q, P⟩ := step 0 (.inr rfl)
    refine ⟨s', w4, w5, w6, sFor_ok (us := Vm.upTo 0 0) (e1 := rE s ns h (shd (lf h ns)) v4 v5 v6 v7 v8 v9) (iR1_n' (j := 0) rfl (aD1_ok (eIf_f (e1 := rE s ns h (shd (lf h ns)) v4 v5 v6 v7 v8 v9) (bTest_ok (eOp_ok (x := .int h) rfl eC_ok ?_)) eC_ok)) (by decide)) q, P⟩
    rw [x_gt, decide_eq_false h0]
def R6 : En → Option Out := (sPar 7 8 (aCons (eCall 1 m_spare_numbers (aCons (eVar 1) aNil)) (aCons (eRev (eCall 1 m_spare_numbers (aCons (eVar 3) aNil))) aNil)))
theorem R6_ok {s v4 v5 v6 v7 v8 v9 : Sl} {ns : List Int} {h : Int} (C : Crew ns h) : R6 (rE s ns h (shd (lf h ns)) v4 v5 v6 v7 v8 v9) = some (.nx (rE s ns h (shd (lf h ns)) v4 v5 v6 (shd (spares ns)) (shd (spares (lf h ns)).reverse) v9)) := by
  have k1 := spare_numbers_ok C.team
  have k2 := spare_numbers_ok C.lf.team
  have := sPar_ff (i := 7) (j := 8) (aCons_ok (env := rE s ns h (shd (lf h ns)) v4 v5 v6 v7 v8 v9) (eCall1f_ok (fa := eVar 1) (x := di ns) rfl k1) (aCons_ok (eRev_ok (eCall1f_ok (fa := eVar 3) (x := di (lf h ns)) rfl k2)) aNil_ok))
  rw [← List.map_reverse] at this
  exact this
def R7b : En → Option Out := (sIf (bTest (eOp dNe (eOp dAdd (eOp dIx (eVar 7) (eVar 9)) (eOp dIx (eVar 8) (eVar 9))) (eOp dAdd (eOp dSub (eVar 2) (eCB bLen (aCons (eVar 1) aNil))) (eC (.int 1)))))
    (sRet (eC (.bl false)))
    sNext)
theorem dIx_get {xs : List Int} {k : Nat} {a : Int} (h : xs[k]? = some a) : dIx (di xs) (.int k) = some (.int a) := by
  have hk := (List.getElem?_eq_some_iff.mp h).1
  have := atI_int (ns := xs) (i := k) (by omega) (by omega)
  rw [x_ix1, this, Int.toNat_natCast, List.getD_eq_getElem?_getD, h]
  rfl
theorem R7b_ok {s v4 v5 v6 : Sl} {ns : List Int} {h : Int} (C : Crew ns h) {k : Nat} (hk : k < ns.length) : R7b (rE s ns h (shd (lf h ns)) v4 v5 v6 (shd (spares ns)) (shd (spares (lf h ns)).reverse) (.sh (.int k))) = some (.nx (rE s ns h (shd (lf h ns)) v4 v5 v6 (shd (spares ns)) (shd (spares (lf h ns)).reverse) (.sh (.int k)))) := by
  obtain ⟨a, b, ha, hb, e⟩ := spares_both (h := h) hk
  have hn : dNe (.int (a + b)) (.int (h - (ns.length : Int) + 1)) = some (.bl false) := by
    rw [x_neI, e, decide_eq_true rfl]
    rfl
  have hlen : bLen [di ns] = some (.int (ns.length : Int)) := by rw [x_len1, List.length_map]
  exact sIf_f (bTest_ok (e1 := rE s ns h (shd (lf h ns)) v4 v5 v6 (shd (spares ns)) (shd (spares (lf h ns)).reverse) (.sh (.int k))) (eOp_ok (eOp_ok (eOp_ok (x := di (spares ns)) (y := .int k) rfl rfl (dIx_get ha)) (eOp_ok (x := di (spares (lf h ns)).reverse) (y := .int k) rfl rfl (dIx_get hb)) x_add) (eOp_ok (eOp_ok (x := .int h) rfl (eCB1_ok (x := di ns) rfl hlen) x_sub) eC_ok x_add) hn)) rfl
theorem R7_ok {s v4 v5 v6 v9 : Sl} {ns : List Int} {h : Int} (C : Crew ns h) : ∃ w9, sFor (iR1 (aCons (eCB bLen (aCons (eVar 1) aNil)) aNil)) (tgName 9) R7b (rE s ns h (shd (lf h ns)) v4 v5 v6 (shd (spares ns)) (shd (spares (lf h ns)).reverse) v9) = some (.nx (rE s ns h (shd (lf h ns)) v4 v5 v6 (shd (spares ns)) (shd (spares (lf h ns)).reverse) w9)) := by
  have hlen : bLen [di ns] = some (.int (ns.length : Int)) := by rw [x_len1, List.length_map]
  obtain ⟨env, q1, w9, rfl⟩ := loop_rangeT (tgt := tgName 9) (body := R7b) (fun i env => ∃ w9 : Sl, env = rE s ns h (shd (lf h ns)) v4 v5 v6 (shd (spares ns)) (shd (spares (lf h ns)).reverse) w9) 0 ns.length (rE s ns h (shd (lf h ns)) v4 v5 v6 (shd (spares ns)) (shd (spares (lf h ns)).reverse) v9) ⟨v9, rfl⟩ (by
    rintro i env hi ⟨w9, rfl⟩
    rw [Int.zero_add]
    exact ⟨_, bind_tg (R7b_ok C hi), _, rfl⟩)
  exact ⟨w9, sFor_ok (us := Vm.upTo 0 ns.length) (e1 := rE s ns h (shd (lf h ns)) v4 v5 v6 (shd (spares ns)) (shd (spares (lf h ns)).reverse) v9) (iR1_n (aD1_ok (eCB1_ok (x := di ns) rfl hlen)) (by have := C.few; omega)) q1⟩
def R8 : En → Option (R × En) := (eOp dGe (eOp dAdd (eCall 1 m_greatest_size (aCons (eVar 1) aNil)) (eCall 1 m_greatest_size (aCons (eVar 3) aNil))) (eCB bMin2 (aCons (eCB bLen (aCons (eVar 1) aNil)) (aCons (eVar 2) aNil))))
theorem R8_ok {s v4 v5 v6 v7 v8 v9 : Sl} {ns : List Int} {h : Int} (C : Crew ns h) : R8 (rE s ns h (shd (lf h ns)) v4 v5 v6 v7 v8 v9) = some (.val (.bl true), rE s ns h (shd (lf h ns)) v4 v5 v6 v7 v8 v9) := by
  have k1 := greatest_ok C.team
  have k2 := greatest_ok C.lf.team
  have hlen : bLen [di ns] = some (.int (ns.length : Int)) := by rw [x_len1, List.length_map]
  have hg := greatest_sum (h := h) C.pos
  generalize minL (bounds ns) = g1 at *
  generalize minL (bounds (lf h ns)) = g2 at *
  have hge : dGe (.int (g1 + g2)) (.int (if h < (ns.length : Int) then h else (ns.length : Int))) = some (.bl true) := by
    rw [x_ge, decide_eq_true (by split <;> omega)]
  exact eOp_ok (eOp_ok (eCall1v_ok (x := di ns) rfl k1) (eCall1v_ok (x := di (lf h ns)) rfl k2) x_add) (eCB2_ok (eCB1_ok (x := di ns) rfl hlen) (y := .int h) rfl x_min2) hge
end Tk23

set_option Elab.async false
set_option linter.all false
set_option maxRecDepth 100000
set_option exponentiation.threshold 3000
namespace Tk23
open PySem PySem.Spec PyProof.Rows L2 Evl Vm
open Ar (along nx ff ch due dsum tsum term sg)
theorem right_ok {t : Nat} {s : Sl} {ns : List Int} (h1 : 1 ≤ ns.length) (h2 : ns.length ≤ 20) (hx : ∀ x ∈ ns, 0 ≤ x ∧ x ≤ 40) (hs : IsP t s) (ht : t ≤ 700000) :
    ∃ s', m_law_right [s, .sh (di ns)] = some (.val (.bl true) [s', .un]) ∧ IsP (t + 9) s' := by
  have hne : ns ≠ [] := fun z => by rw [z] at h1; simp at h1
  have hm := hx _ (maxL_mem hne)
  have hmx : bMaxL [di ns] = some (.int (maxL ns)) := by rw [x_maxL, if_neg hne]
  obtain ⟨r, s1, e1, a1, b1, P1⟩ := toss_call (rest := [shd ns, .un, .un, .un, .un, .un, .un, .un, .un]) (W := eOp dSub (eC (.int 41)) (eCB bMaxL (aCons (eVar 1) aNil))) (wide := 41 - maxL ns) hs (eOp_ok eC_ok (eCB1_ok (x := di ns) rfl hmx) x_sub) (by omega) (by omega) (by omega)
  obtain ⟨h, hh⟩ : ∃ h, h = maxL ns + r := ⟨_, rfl⟩
  have C : Crew ns h := ⟨h1, h2, fun x hx' => ⟨(hx x hx').1, by have := maxL_ge hx'; omega⟩, by omega⟩
  obtain ⟨s2, w4, w5, w6, q5, P2⟩ := R5_ok (v4 := .un) (v5 := .un) (v6 := .un) (v7 := .un) (v8 := .un) (v9 := .un) C P1 (by omega)
  obtain ⟨w9, q7⟩ := R7_ok (s := s2) (v4 := w4) (v5 := w5) (v6 := w6) (v9 := .un) C
  refine ⟨s2, body_val (e := rE s2 ns h (shd (lf h ns)) w4 w5 w6 (shd (spares ns)) (shd (spares (lf h ns)).reverse) w9) rfl ?_, P2.mono (by omega)⟩
  have q1 : sSet 2 (eOp dAdd (eCB bMaxL (aCons (eVar 1) aNil)) (eCall1 2 m_law_toss (aCons (eVar 0) (aCons (eOp dSub (eC (.int 41)) (eCB bMaxL (aCons (eVar 1) aNil))) aNil)))) [s, shd ns, .un, .un, .un, .un, .un, .un, .un, .un] = some (.nx (rE s1 ns h .un .un .un .un .un .un .un)) := by
    rw [hh]
    exact sSet_ok (eOp_ok (eCB1_ok (x := di ns) rfl hmx) e1 x_add)
  have q2 : sSet 3 (eCall 2 m_others (aCons (eVar 1) (aCons (eVar 2) aNil))) (rE s1 ns h .un .un .un .un .un .un .un) = some (.nx (rE s1 ns h (.ow ((lf h ns).map .int)) .un .un .un .un .un .un)) :=
    sSet_fr (e1 := rE s1 ns h .un .un .un .un .un .un .un) (eCall2f_ok (x := di ns) (y := .int h) rfl rfl C.others)
  exact sSeq_nx q1 (sSeq_nx q2 (sSeq_nx (R3_ok C) (sSeq_nx (R4_ok C) (sSeq_nx q5 (sSeq_nx (R6_ok C) (sSeq_nx q7 (sRet_ok (R8_ok C))))))))
theorem call3_fr {m : En → Option Res} {t u : Nat} {s s' : Sl} {env : En} {x y : D} {zs : List D} {fa fb : En → Option (R × En)} (hs : IsP t s) (hs' : IsP u s') (he : env[2]? = some s) (ha : fa env = some (.val x, env)) (hb : fb env = some (.val y, env)) (h : m [s, .sh x, .sh y] = some (.fr zs [s', .un, .un])) :
    eCall1 3 m (aCons (eVar 2) (aCons fa (aCons fb aNil))) env = some (.fr zs, env.set 2 s') := by
  obtain ⟨a, b, c, rfl, _⟩ := hs
  obtain ⟨a', b', c', rfl, _⟩ := hs'
  simp [he, ha, hb, h]
theorem call2_al {m : En → Option Res} {t u : Nat} {s s' : Sl} {env : En} {z : D} {xs : List D} (hs : IsP t s) (hs' : IsP u s') (he : env[2]? = some s) (h5 : env[5]? = some (.ow xs)) (h : m [s, .sh (.lst xs)] = some (.val z [s', .un])) :
    eCall1 2 m (aCons (eVar 2) (aCons (eVar 5) aNil)) env = some (.val z, (env.set 5 (.sh (.lst xs))).set 2 s') := by
  obtain ⟨a, b, c, rfl, _⟩ := hs
  obtain ⟨a', b', c', rfl, _⟩ := hs'
  simp [he, h5, h]
theorem bNot_f {t : En → Option (Bool × En)} {env e1 : En} {b : Bool} (h1 : t env = some (b, e1)) : bNot t env = some (!b, e1) := by
  unfold bNot
  rw [h1]
  rfl
abbrev lE (sc : List Int) (v1 s v3 v4 v5 : Sl) : En := [.sh (.scr sc), v1, s, v3, v4, v5, .un]
def LI : En → Option Out := (sSeq (sSet 5 (eLc [6] (iSeq (eCall1 3 m_law_team (aCons (eVar 2) (aCons (eVar 3) (aCons (eVar 4) aNil))))) (tgName 6) bYes (eCB bMin2 (aCons (eC (.int 40)) (aCons (eVar 6) aNil)))))
    (sIf (bNot (bTest (eCall1 2 m_law_right (aCons (eVar 2) (aCons (eVar 5) aNil)))))
    (sRet (eC (.bl false)))
    sNext))
def lo40 (x : Int) : Int := if x < 40 then x else 40
theorem LI_ok {t : Nat} {sc : List Int} {v1 s v5 : Sl} {most top : Int} (hs : IsP t s) (ht : t ≤ 600000) (h1 : 1 ≤ most ∧ most ≤ 20) (h2 : 0 ≤ top ∧ top ≤ 1000) :
    ∃ s' w5, LI (lE sc v1 s (.sh (.int most)) (.sh (.int top)) v5) = some (.nx (lE sc v1 s' (.sh (.int most)) (.sh (.int top)) w5)) ∧ IsP (t + 300) s' := by
  obtain ⟨ls, s1, q1, l1, l2, l3, P1⟩ := team_ok hs (by omega) h1 h2
  have hcl : (ls.map lo40).length = ls.length := List.length_map _
  obtain ⟨s2, q2, P2⟩ := right_ok (ns := ls.map lo40) (by omega) (by omega) (fun x hx => by
    obtain ⟨y, hy, rfl⟩ := List.mem_map.mp hx
    have := l3 y hy
    unfold lo40
    split <;> omega) P1 (by omega)
  have c1 : iSeq (eCall1 3 m_law_team (aCons (eVar 2) (aCons (eVar 3) (aCons (eVar 4) aNil)))) (lE sc v1 s (.sh (.int most)) (.sh (.int top)) v5) = some (ls.map .int, lE sc v1 s1 (.sh (.int most)) (.sh (.int top)) v5) := by
    unfold iSeq
    rw [call3_fr (t := t) (x := .int most) (y := .int top) hs P1 rfl rfl rfl q1]
    rfl
  have lq : lcF [6] (tgName 6) bYes (eCB bMin2 (aCons (eC (.int 40)) (aCons (eVar 6) aNil))) (ls.map D.int) (lE sc v1 s1 (.sh (.int most)) (.sh (.int top)) v5) [] = some (ls.map (fun x => D.int (lo40 x)), lE sc v1 s1 (.sh (.int most)) (.sh (.int top)) v5) :=
    lc_map (vs := [6]) (fun x : Int => D.int x) (fun x => D.int (lo40 x)) ls _ fun x _ => turn_ok (e1 := [.sh (.scr sc), v1, s1, .sh (.int most), .sh (.int top), v5, .sh (.int x)]) (eCB2_ok (x := .int 40) (y := .int x) (z := .int (lo40 x)) rfl rfl rfl)
  have le : ls.map (fun x => D.int (lo40 x)) = (ls.map lo40).map .int := by rw [List.map_map]; rfl
  rw [le] at lq
  have lc := eLc_n (vs := [6]) c1 (by rw [List.length_map]; omega) rfl lq
  refine ⟨s2, shd (ls.map lo40), ?_, P2.mono (by omega)⟩
  unfold LI
  refine sSeq_nx (e1 := lE sc v1 s1 (.sh (.int most)) (.sh (.int top)) (.ow ((ls.map lo40).map .int))) (sSet_fr lc) ?_
  exact sIf_f (e1 := lE sc v1 s2 (.sh (.int most)) (.sh (.int top)) (shd (ls.map lo40))) (bNot_f (bTest_ok (call2_al (t := t + 200) P1 P2 rfl rfl q2))) rfl
end Tk23

set_option Elab.async false
set_option linter.all false
set_option maxRecDepth 100000
set_option exponentiation.threshold 3000
namespace Tk23
open PySem PySem.Spec PyProof.Rows L2 Evl Vm
open Ar (along nx ff ch due dsum tsum term sg)
def LT : En → Option (List D × En) := (iTupF (eTup (aCons (eTup (aCons (eC (.int 20)) (aCons (eC (.int 20)) aNil))) (aCons (eTup (aCons (eC (.int 20)) (aCons (eC (.int 3)) aNil))) (aCons (eTup (aCons (eC (.int 9)) (aCons (eC (.int 31)) aNil))) (aCons (eTup (aCons (eC (.int 1)) (aCons (eC (.int 40)) aNil))) aNil))))))
def pr (p : Int × Int) : D := .tup [.int p.1, .int p.2]
def kinds : List (Int × Int) := [(20, 20), (20, 3), (9, 31), (1, 40)]
theorem LT_ok {env : En} : LT env = some (kinds.map pr, env) := by
  unfold LT
  simp [kinds, pr]
def LB : En → Option Out := (sSeq (sSet 2 (eCall 2 m_law_purse (aCons (eVar 0) (aCons (eVar 1) aNil))))
    (sFor LT (tgTup 2 (tgCons (tgName 3) (tgCons (tgName 4) tgNil))) LI))
theorem LB_ok {sc : List Int} {k : Nat} {v2 v3 v4 v5 : Sl} (hk : k ≤ 10) : ∃ w2 w3 w4 w5, LB (lE sc (.sh (.int k)) v2 v3 v4 v5) = some (.nx (lE sc (.sh (.int k)) w2 w3 w4 w5)) := by
  obtain ⟨s, P, xs, rfl, q1⟩ := purse_ok (ns := sc) hk
  obtain ⟨env, q2, s', w3, w4, w5, rfl, P'⟩ := loop_turns (tgt := tgTup 2 (tgCons (tgName 3) (tgCons (tgName 4) tgNil))) (body := LI) pr (fun pre env => ∃ s' w3 w4 w5 : Sl, env = lE sc (.sh (.int k)) s' w3 w4 w5 ∧ IsP (300 * pre.length) s') kinds (lE sc (.sh (.int k)) (.ow xs) v3 v4 v5) ⟨_, v3, v4, v5, rfl, P⟩ (by
    rintro pre ⟨most, top⟩ post env e ⟨s', w3, w4, w5, rfl, P'⟩
    have hmem : (most, top) ∈ kinds := by rw [e]; simp
    have hlen : pre.length ≤ 4 := by
      have := congrArg List.length e
      simp [kinds] at this
      omega
    have hb : (1 ≤ most ∧ most ≤ 20) ∧ 0 ≤ top ∧ top ≤ 1000 := by
      unfold kinds at hmem
      simp at hmem
      omega
    obtain ⟨s2, x5, g, P2⟩ := LI_ok (sc := sc) (v1 := .sh (.int k)) (v5 := w5) P' (by omega) hb.1 hb.2
    refine ⟨lE sc (.sh (.int k)) s2 (.sh (.int most)) (.sh (.int top)) x5, g, s2, _, _, x5, rfl, P2.mono ?_⟩
    simp
    omega)
  refine ⟨s', w3, w4, w5, ?_⟩
  unfold LB
  exact sSeq_nx (e1 := lE sc (.sh (.int k)) (.ow xs) v3 v4 v5) (sSet_fr (e1 := lE sc (.sh (.int k)) v2 v3 v4 v5) (eCall2f_ok (x := .scr sc) (y := .int k) rfl rfl q1)) (sFor_ok LT_ok q2)
theorem eAnd_t {fa fb : En → Option (R × En)} {env e1 : En} {o : Option (R × En)} (h : fa env = some (.val (.bl true), e1)) (h2 : fb e1 = o) : eAnd fa fb env = o := by
  unfold eAnd
  rw [bTest_ok h]
  exact h2
theorem eLst1_ok {fa : En → Option (R × En)} {e0 e1 : En} {x : D} (h1 : fa e0 = some (.val x, e1)) : eLst (aCons fa aNil) e0 = some (.fr [x], e1) := by
  unfold eLst
  rw [aD1_ok h1]
  rfl
def LE : En → Option (R × En) := (eAnd (eOp dEq (eCall 2 m_others (aCons (eLst (aCons (eC (.int 2)) (aCons (eC (.int 1)) (aCons (eC (.int 2)) aNil)))) (aCons (eC (.int 3)) aNil))) (eLst (aCons (eC (.int 1)) (aCons (eC (.int 2)) (aCons (eC (.int 1)) aNil))))) (eOp dEq (eCall 2 m_others (aCons (eLst (aCons (eC (.int 0)) aNil)) (aCons (eC (.int 0)) aNil))) (eLst (aCons (eC (.int 0)) aNil))))
theorem LE_ok {env : En} : LE env = some (.val (.bl true), env) := by
  have C1 : Crew [2, 1, 2] 3 := ⟨by decide, by decide, by decide, by decide⟩
  have C2 : Crew [0] 0 := ⟨by decide, by decide, by decide, by decide⟩
  have o1 := C1.others
  have o2 := C2.others
  have d1 : dEq (di (lf 3 [2, 1, 2])) (di [1, 2, 1]) = some (.bl true) := by rw [x_eqL]; rfl
  have d2 : dEq (di (lf 0 [0])) (di [0]) = some (.bl true) := by rw [x_eqL]; rfl
  exact eAnd_t (e1 := env) (eOpR_ok (eCall2ff_ok (eLst3_ok (x := .int 2) (y := .int 1) (z := .int 2) rfl rfl rfl) (y := .int 3) rfl o1) (eLst3_ok (x := .int 1) (y := .int 2) (z := .int 1) rfl rfl rfl) rfl rfl d1)
    (eOpR_ok (eCall2ff_ok (eLst1_ok (x := .int 0) rfl) (y := .int 0) rfl o2) (eLst1_ok (x := .int 0) rfl) rfl rfl d2)
theorem law_true (sc : List Int) (hsc : sc.length ≤ 63) : ∃ e, m_law [.sh (.scr sc)] = some (.val (.bl true) e) := by
  obtain ⟨n, hn, hj⟩ : ∃ n : Nat, n ≤ 4 ∧ (if (if (sc.length : Int) < 4 then (sc.length : Int) else 4) > 1 then (if (sc.length : Int) < 4 then (sc.length : Int) else 4) else 1) = (n : Int) := by
    refine ⟨(if (if (sc.length : Int) < 4 then (sc.length : Int) else 4) > 1 then (if (sc.length : Int) < 4 then (sc.length : Int) else 4) else 1).toNat, ?_, ?_⟩ <;> (split <;> split <;> omega)
  obtain ⟨env, q, v1, v2, v3, v4, v5, rfl⟩ := loop_rangeT (tgt := tgName 1) (body := LB) (fun i env => ∃ v1 v2 v3 v4 v5 : Sl, env = lE sc v1 v2 v3 v4 v5) 0 n (lE sc .un .un .un .un .un) ⟨_, _, _, _, _, rfl⟩ (by
    rintro i env hi ⟨v1, v2, v3, v4, v5, rfl⟩
    rw [Int.zero_add]
    obtain ⟨w2, w3, w4, w5, g⟩ := LB_ok (sc := sc) (k := i) (v2 := v2) (v3 := v3) (v4 := v4) (v5 := v5) (by omega)
    exact ⟨_, bind_tg g, _, w2, w3, w4, w5, rfl⟩)
  have hir : iR1 (aCons (eCB bMax2 (aCons (eC (.int 1)) (aCons (eCB bMin2 (aCons (eC (.int 4)) (aCons (eCB bLen (aCons (eVar 0) aNil)) aNil))) aNil))) aNil) (lE sc .un .un .un .un .un) = some (Vm.upTo 0 n, lE sc .un .un .un .un .un) :=
    iR1_n' hj (aD1_ok (eCB2_ok (x := .int 1) rfl (eCB2_ok (x := .int 4) rfl (eCB1_ok (x := .scr sc) rfl x_len3) x_min2) x_max2)) (by omega)
  exact ⟨_, body_val (e := lE sc v1 v2 v3 v4 v5) rfl (sSeq_nx (sFor_ok hir q) (sRet_ok LE_ok))⟩
end Tk23

set_option Elab.async false
set_option linter.all false
set_option maxRecDepth 100000
namespace Tk23
open PySem PySem.Spec PyProof.Rows L2 Evl Vm
/-! ### the end -/
def spLaw (K : PySem.W.Frag) : Sp := fun vs H Q _ => ∃ (a : Addr) (ns : List Int), vs = [.ref a] ∧ SqL K H a (ns.map V.int) ∧ ns.length ≤ 63 ∧ ∀ H', Q (.bl true) H'
theorem spLaw_of (law_true : ∀ ns : List Int, ns.length ≤ 63 → ∃ e, m_law [.sh (.scr ns)] = some (.val (.bl true) e)) {K : PySem.W.Frag} (vs : List V) (H : Hp) (Q : VK) (E : XK) (h : spLaw K vs H Q E) : SpM K 1 m_law vs H Q E := by
  obtain ⟨a, ns, rfl, hS, hl, q⟩ := h
  obtain ⟨e, he⟩ := law_true ns hl
  refine ⟨rfl, H, _, _, ⟨fun _ _ z => (nomatch (show none = some _ from z)), Ex.refl _, Ex.refl _, fun q z => .inl z, rfl, fun i t ht => ?_, fun i j p xs ys e1 => ?_, fun j z => by cases z⟩, he, fun v B' H' _ _ r => ?_⟩
  · match i, ht with
    | 0, ht =>
      cases ht
      exact ⟨_, rfl, .scr hS⟩
    | i + 1, ht => cases ht
  · match i, e1 with
    | 0, e1 => cases e1
    | i + 1, e1 => cases e1
  · have r : Rep K B' v (.bl true) := r
    cases r
    exact q H'
theorem all_mk {l : PySem.W.OpenLaw} {w : World} {K : PySem.W.Frag} {h : Heap} {mg : Str → Option Value} {fa : Addr} (X : K.In h) (G : h.Ns mainGlobals mg) (hfa : mg "law" = some (.ref fa))
    (hl : l.prog = PySem.Challenge.pw_nestboards_k23_whole_others) (law_true : ∀ ns : List Int, ns.length ≤ 63 → ∃ e, m_law [.sh (.scr ns)] = some (.val (.bl true) e))
    {f0 : Addr} {od0 an0 : Option Addr} {sl0 : Array (Option Value)} {oc0 kV0 dc0 pm0 cd0 ct0 : Value} (a0 : PySem.W.nsIn K mainGlobals "is_whole" = some (some (.ref f0))) (l0 : K.lookup f0 = some ⟨oc0, od0, .func (PySem.W.fnOf "is_whole" "is_whole" (defArgs s_is_whole) (defBody s_is_whole) (defScope s_is_whole) .none kV0 dc0 pm0 an0 cd0 ct0), sl0⟩) (c0 : PySem.W.codeIn K cd0 "is_whole" = true) (k0 : PySem.W.keepIn K (.ref f0) = true)
    {f1 : Addr} {od1 an1 : Option Addr} {sl1 : Array (Option Value)} {oc1 kV1 dc1 pm1 cd1 ct1 : Value} (a1 : PySem.W.nsIn K mainGlobals "is_within" = some (some (.ref f1))) (l1 : K.lookup f1 = some ⟨oc1, od1, .func (PySem.W.fnOf "is_within" "is_within" (defArgs s_is_within) (defBody s_is_within) (defScope s_is_within) .none kV1 dc1 pm1 an1 cd1 ct1), sl1⟩) (c1 : PySem.W.codeIn K cd1 "is_within" = true) (k1 : PySem.W.keepIn K (.ref f1) = true)
    {f2 : Addr} {od2 an2 : Option Addr} {sl2 : Array (Option Value)} {oc2 kV2 dc2 pm2 cd2 ct2 : Value} (a2 : PySem.W.nsIn K mainGlobals "check_worker" = some (some (.ref f2))) (l2 : K.lookup f2 = some ⟨oc2, od2, .func (PySem.W.fnOf "check_worker" "check_worker" (defArgs s_check_worker) (defBody s_check_worker) (defScope s_check_worker) .none kV2 dc2 pm2 an2 cd2 ct2), sl2⟩) (c2 : PySem.W.codeIn K cd2 "check_worker" = true) (k2 : PySem.W.keepIn K (.ref f2) = true)
    {f3 : Addr} {od3 an3 : Option Addr} {sl3 : Array (Option Value)} {oc3 kV3 dc3 pm3 cd3 ct3 : Value} (a3 : PySem.W.nsIn K mainGlobals "check_job" = some (some (.ref f3))) (l3 : K.lookup f3 = some ⟨oc3, od3, .func (PySem.W.fnOf "check_job" "check_job" (defArgs s_check_job) (defBody s_check_job) (defScope s_check_job) .none kV3 dc3 pm3 an3 cd3 ct3), sl3⟩) (c3 : PySem.W.codeIn K cd3 "check_job" = true) (k3 : PySem.W.keepIn K (.ref f3) = true)
    {f4 : Addr} {od4 an4 : Option Addr} {sl4 : Array (Option Value)} {oc4 kV4 dc4 pm4 cd4 ct4 : Value} (a4 : PySem.W.nsIn K mainGlobals "spares_of" = some (some (.ref f4))) (l4 : K.lookup f4 = some ⟨oc4, od4, .func (PySem.W.fnOf "spares_of" "spares_of" (defArgs s_spares_of) (defBody s_spares_of) (defScope s_spares_of) .none kV4 dc4 pm4 an4 cd4 ct4), sl4⟩) (c4 : PySem.W.codeIn K cd4 "spares_of" = true) (k4 : PySem.W.keepIn K (.ref f4) = true)
    {f5 : Addr} {od5 an5 : Option Addr} {sl5 : Array (Option Value)} {oc5 kV5 dc5 pm5 cd5 ct5 : Value} (a5 : PySem.W.nsIn K mainGlobals "is_team" = some (some (.ref f5))) (l5 : K.lookup f5 = some ⟨oc5, od5, .func (PySem.W.fnOf "is_team" "is_team" (defArgs s_is_team) (defBody s_is_team) (defScope s_is_team) .none kV5 dc5 pm5 an5 cd5 ct5), sl5⟩) (c5 : PySem.W.codeIn K cd5 "is_team" = true) (k5 : PySem.W.keepIn K (.ref f5) = true)
    {f6 : Addr} {od6 an6 : Option Addr} {sl6 : Array (Option Value)} {oc6 kV6 dc6 pm6 cd6 ct6 : Value} (a6 : PySem.W.nsIn K mainGlobals "check_team" = some (some (.ref f6))) (l6 : K.lookup f6 = some ⟨oc6, od6, .func (PySem.W.fnOf "check_team" "check_team" (defArgs s_check_team) (defBody s_check_team) (defScope s_check_team) .none kV6 dc6 pm6 an6 cd6 ct6), sl6⟩) (c6 : PySem.W.codeIn K cd6 "check_team" = true) (k6 : PySem.W.keepIn K (.ref f6) = true)
    {f7 : Addr} {od7 an7 : Option Addr} {sl7 : Array (Option Value)} {oc7 kV7 dc7 pm7 cd7 ct7 : Value} (a7 : PySem.W.nsIn K mainGlobals "spare_numbers" = some (some (.ref f7))) (l7 : K.lookup f7 = some ⟨oc7, od7, .func (PySem.W.fnOf "spare_numbers" "spare_numbers" (defArgs s_spare_numbers) (defBody s_spare_numbers) (defScope s_spare_numbers) .none kV7 dc7 pm7 an7 cd7 ct7), sl7⟩) (c7 : PySem.W.codeIn K cd7 "spare_numbers" = true) (k7 : PySem.W.keepIn K (.ref f7) = true)
    {f8 : Addr} {od8 an8 : Option Addr} {sl8 : Array (Option Value)} {oc8 kV8 dc8 pm8 cd8 ct8 : Value} (a8 : PySem.W.nsIn K mainGlobals "can_do" = some (some (.ref f8))) (l8 : K.lookup f8 = some ⟨oc8, od8, .func (PySem.W.fnOf "can_do" "can_do" (defArgs s_can_do) (defBody s_can_do) (defScope s_can_do) .none kV8 dc8 pm8 an8 cd8 ct8), sl8⟩) (c8 : PySem.W.codeIn K cd8 "can_do" = true) (k8 : PySem.W.keepIn K (.ref f8) = true)
    {f9 : Addr} {od9 an9 : Option Addr} {sl9 : Array (Option Value)} {oc9 kV9 dc9 pm9 cd9 ct9 : Value} (a9 : PySem.W.nsIn K mainGlobals "count_above" = some (some (.ref f9))) (l9 : K.lookup f9 = some ⟨oc9, od9, .func (PySem.W.fnOf "count_above" "count_above" (defArgs s_count_above) (defBody s_count_above) (defScope s_count_above) .none kV9 dc9 pm9 an9 cd9 ct9), sl9⟩) (c9 : PySem.W.codeIn K cd9 "count_above" = true) (k9 : PySem.W.keepIn K (.ref f9) = true)
    {f10 : Addr} {od10 an10 : Option Addr} {sl10 : Array (Option Value)} {oc10 kV10 dc10 pm10 cd10 ct10 : Value} (a10 : PySem.W.nsIn K mainGlobals "others" = some (some (.ref f10))) (l10 : K.lookup f10 = some ⟨oc10, od10, .func (PySem.W.fnOf "others" "others" (defArgs s_others) (defBody s_others) (defScope s_others) .none kV10 dc10 pm10 an10 cd10 ct10), sl10⟩) (c10 : PySem.W.codeIn K cd10 "others" = true) (k10 : PySem.W.keepIn K (.ref f10) = true)
    {f11 : Addr} {od11 an11 : Option Addr} {sl11 : Array (Option Value)} {oc11 kV11 dc11 pm11 cd11 ct11 : Value} (a11 : PySem.W.nsIn K mainGlobals "counts_with_next" = some (some (.ref f11))) (l11 : K.lookup f11 = some ⟨oc11, od11, .func (PySem.W.fnOf "counts_with_next" "counts_with_next" (defArgs s_counts_with_next) (defBody s_counts_with_next) (defScope s_counts_with_next) .none kV11 dc11 pm11 an11 cd11 ct11), sl11⟩) (c11 : PySem.W.codeIn K cd11 "counts_with_next" = true) (k11 : PySem.W.keepIn K (.ref f11) = true)
    {f12 : Addr} {od12 an12 : Option Addr} {sl12 : Array (Option Value)} {oc12 kV12 dc12 pm12 cd12 ct12 : Value} (a12 : PySem.W.nsIn K mainGlobals "counts_along" = some (some (.ref f12))) (l12 : K.lookup f12 = some ⟨oc12, od12, .func (PySem.W.fnOf "counts_along" "counts_along" (defArgs s_counts_along) (defBody s_counts_along) (defScope s_counts_along) .none kV12 dc12 pm12 an12 cd12 ct12), sl12⟩) (c12 : PySem.W.codeIn K cd12 "counts_along" = true) (k12 : PySem.W.keepIn K (.ref f12) = true)
    {f13 : Addr} {od13 an13 : Option Addr} {sl13 : Array (Option Value)} {oc13 kV13 dc13 pm13 cd13 ct13 : Value} (a13 : PySem.W.nsIn K mainGlobals "counts" = some (some (.ref f13))) (l13 : K.lookup f13 = some ⟨oc13, od13, .func (PySem.W.fnOf "counts" "counts" (defArgs s_counts) (defBody s_counts) (defScope s_counts) .none kV13 dc13 pm13 an13 cd13 ct13), sl13⟩) (c13 : PySem.W.codeIn K cd13 "counts" = true) (k13 : PySem.W.keepIn K (.ref f13) = true)
    {f14 : Addr} {od14 an14 : Option Addr} {sl14 : Array (Option Value)} {oc14 kV14 dc14 pm14 cd14 ct14 : Value} (a14 : PySem.W.nsIn K mainGlobals "bound_by" = some (some (.ref f14))) (l14 : K.lookup f14 = some ⟨oc14, od14, .func (PySem.W.fnOf "bound_by" "bound_by" (defArgs s_bound_by) (defBody s_bound_by) (defScope s_bound_by) .none kV14 dc14 pm14 an14 cd14 ct14), sl14⟩) (c14 : PySem.W.codeIn K cd14 "bound_by" = true) (k14 : PySem.W.keepIn K (.ref f14) = true)
    {f15 : Addr} {od15 an15 : Option Addr} {sl15 : Array (Option Value)} {oc15 kV15 dc15 pm15 cd15 ct15 : Value} (a15 : PySem.W.nsIn K mainGlobals "greatest_size" = some (some (.ref f15))) (l15 : K.lookup f15 = some ⟨oc15, od15, .func (PySem.W.fnOf "greatest_size" "greatest_size" (defArgs s_greatest_size) (defBody s_greatest_size) (defScope s_greatest_size) .none kV15 dc15 pm15 an15 cd15 ct15), sl15⟩) (c15 : PySem.W.codeIn K cd15 "greatest_size" = true) (k15 : PySem.W.keepIn K (.ref f15) = true)
    {f16 : Addr} {od16 an16 : Option Addr} {sl16 : Array (Option Value)} {oc16 kV16 dc16 pm16 cd16 ct16 : Value} (a16 : PySem.W.nsIn K mainGlobals "_law_purse" = some (some (.ref f16))) (l16 : K.lookup f16 = some ⟨oc16, od16, .func (PySem.W.fnOf "_law_purse" "_law_purse" (defArgs s_law_purse) (defBody s_law_purse) (defScope s_law_purse) .none kV16 dc16 pm16 an16 cd16 ct16), sl16⟩) (c16 : PySem.W.codeIn K cd16 "_law_purse" = true) (k16 : PySem.W.keepIn K (.ref f16) = true)
    {f17 : Addr} {od17 an17 : Option Addr} {sl17 : Array (Option Value)} {oc17 kV17 dc17 pm17 cd17 ct17 : Value} (a17 : PySem.W.nsIn K mainGlobals "_law_toss" = some (some (.ref f17))) (l17 : K.lookup f17 = some ⟨oc17, od17, .func (PySem.W.fnOf "_law_toss" "_law_toss" (defArgs s_law_toss) (defBody s_law_toss) (defScope s_law_toss) .none kV17 dc17 pm17 an17 cd17 ct17), sl17⟩) (c17 : PySem.W.codeIn K cd17 "_law_toss" = true) (k17 : PySem.W.keepIn K (.ref f17) = true)
    {f18 : Addr} {od18 an18 : Option Addr} {sl18 : Array (Option Value)} {oc18 kV18 dc18 pm18 cd18 ct18 : Value} (a18 : PySem.W.nsIn K mainGlobals "_law_team" = some (some (.ref f18))) (l18 : K.lookup f18 = some ⟨oc18, od18, .func (PySem.W.fnOf "_law_team" "_law_team" (defArgs s_law_team) (defBody s_law_team) (defScope s_law_team) .none kV18 dc18 pm18 an18 cd18 ct18), sl18⟩) (c18 : PySem.W.codeIn K cd18 "_law_team" = true) (k18 : PySem.W.keepIn K (.ref f18) = true)
    {f19 : Addr} {od19 an19 : Option Addr} {sl19 : Array (Option Value)} {oc19 kV19 dc19 pm19 cd19 ct19 : Value} (a19 : PySem.W.nsIn K mainGlobals "_law_choose" = some (some (.ref f19))) (l19 : K.lookup f19 = some ⟨oc19, od19, .func (PySem.W.fnOf "_law_choose" "_law_choose" (defArgs s_law_choose) (defBody s_law_choose) (defScope s_law_choose) .none kV19 dc19 pm19 an19 cd19 ct19), sl19⟩) (c19 : PySem.W.codeIn K cd19 "_law_choose" = true) (k19 : PySem.W.keepIn K (.ref f19) = true)
    {f20 : Addr} {od20 an20 : Option Addr} {sl20 : Array (Option Value)} {oc20 kV20 dc20 pm20 cd20 ct20 : Value} (a20 : PySem.W.nsIn K mainGlobals "_law_falling" = some (some (.ref f20))) (l20 : K.lookup f20 = some ⟨oc20, od20, .func (PySem.W.fnOf "_law_falling" "_law_falling" (defArgs s_law_falling) (defBody s_law_falling) (defScope s_law_falling) .none kV20 dc20 pm20 an20 cd20 ct20), sl20⟩) (c20 : PySem.W.codeIn K cd20 "_law_falling" = true) (k20 : PySem.W.keepIn K (.ref f20) = true)
    {f21 : Addr} {od21 an21 : Option Addr} {sl21 : Array (Option Value)} {oc21 kV21 dc21 pm21 cd21 ct21 : Value} (a21 : PySem.W.nsIn K mainGlobals "_law_due" = some (some (.ref f21))) (l21 : K.lookup f21 = some ⟨oc21, od21, .func (PySem.W.fnOf "_law_due" "_law_due" (defArgs s_law_due) (defBody s_law_due) (defScope s_law_due) .none kV21 dc21 pm21 an21 cd21 ct21), sl21⟩) (c21 : PySem.W.codeIn K cd21 "_law_due" = true) (k21 : PySem.W.keepIn K (.ref f21) = true)
    {f22 : Addr} {od22 an22 : Option Addr} {sl22 : Array (Option Value)} {oc22 kV22 dc22 pm22 cd22 ct22 : Value} (a22 : PySem.W.nsIn K mainGlobals "_law_right" = some (some (.ref f22))) (l22 : K.lookup f22 = some ⟨oc22, od22, .func (PySem.W.fnOf "_law_right" "_law_right" (defArgs s_law_right) (defBody s_law_right) (defScope s_law_right) .none kV22 dc22 pm22 an22 cd22 ct22), sl22⟩) (c22 : PySem.W.codeIn K cd22 "_law_right" = true) (k22 : PySem.W.keepIn K (.ref f22) = true)
    {f23 : Addr} {od23 an23 : Option Addr} {sl23 : Array (Option Value)} {oc23 kV23 dc23 pm23 cd23 ct23 : Value} (a23 : PySem.W.nsIn K mainGlobals "law" = some (some (.ref f23))) (l23 : K.lookup f23 = some ⟨oc23, od23, .func (PySem.W.fnOf "law" "law" (defArgs s_law) (defBody s_law) (defScope s_law) .none kV23 dc23 pm23 an23 cd23 ct23), sl23⟩) (c23 : PySem.W.codeIn K cd23 "law" = true) (k23 : PySem.W.keepIn K (.ref f23) = true)
    (z_abs : PySem.W.nsIn K mainGlobals "abs" = some none)
    (z_all : PySem.W.nsIn K mainGlobals "all" = some none)
    (z_bool : PySem.W.nsIn K mainGlobals "bool" = some none)
    (z_enumerate : PySem.W.nsIn K mainGlobals "enumerate" = some none)
    (z_int : PySem.W.nsIn K mainGlobals "int" = some none)
    (z_isinstance : PySem.W.nsIn K mainGlobals "isinstance" = some none)
    (z_len : PySem.W.nsIn K mainGlobals "len" = some none)
    (z_list : PySem.W.nsIn K mainGlobals "list" = some none)
    (z_max : PySem.W.nsIn K mainGlobals "max" = some none)
    (z_min : PySem.W.nsIn K mainGlobals "min" = some none)
    (z_range : PySem.W.nsIn K mainGlobals "range" = some none)
    (z_sorted : PySem.W.nsIn K mainGlobals "sorted" = some none)
    (z_sum : PySem.W.nsIn K mainGlobals "sum" = some none)
    {tk_GREATEST_JOB : Tok} (y_GREATEST_JOB : PySem.W.nsIn K mainGlobals "GREATEST_JOB" = some (some (.int 59 tk_GREATEST_JOB)))
    {tk_GREATEST_OTHERS : Tok} (y_GREATEST_OTHERS : PySem.W.nsIn K mainGlobals "GREATEST_OTHERS" = some (some (.int 40 tk_GREATEST_OTHERS)))
    {tk_GREATEST_SPARE : Tok} (y_GREATEST_SPARE : PySem.W.nsIn K mainGlobals "GREATEST_SPARE" = some (some (.int 40 tk_GREATEST_SPARE)))
    {tk_MOST_WORKERS : Tok} (y_MOST_WORKERS : PySem.W.nsIn K mainGlobals "MOST_WORKERS" = some (some (.int 20 tk_MOST_WORKERS))) :
    ∃ fd : FuncData, (∀ (s : Shared) (v : Value), BindsTo s fd ⟨[v], []⟩ [("script", v)]) ∧ ∀ base : Heap, K.In base → base.Ns mainGlobals mg → FnOk l.prog w K mg base CX0 6 fa fd ["script"] (spLaw K) := by
  have e := hfa.symm.trans (PySem.W.mg_of X G a23)
  cases e
  have F0 := fun_mk (st := s_is_whole) l0 c0 k0
  have F1 := fun_mk (st := s_is_within) l1 c1 k1
  have F2 := fun_mk (st := s_check_worker) l2 c2 k2
  have F3 := fun_mk (st := s_check_job) l3 c3 k3
  have F4 := fun_mk (st := s_spares_of) l4 c4 k4
  have F5 := fun_mk (st := s_is_team) l5 c5 k5
  have F6 := fun_mk (st := s_check_team) l6 c6 k6
  have F7 := fun_mk (st := s_spare_numbers) l7 c7 k7
  have F8 := fun_mk (st := s_can_do) l8 c8 k8
  have F9 := fun_mk (st := s_count_above) l9 c9 k9
  have F10 := fun_mk (st := s_others) l10 c10 k10
  have F11 := fun_mk (st := s_counts_with_next) l11 c11 k11
  have F12 := fun_mk (st := s_counts_along) l12 c12 k12
  have F13 := fun_mk (st := s_counts) l13 c13 k13
  have F14 := fun_mk (st := s_bound_by) l14 c14 k14
  have F15 := fun_mk (st := s_greatest_size) l15 c15 k15
  have F16 := fun_mk (st := s_law_purse) l16 c16 k16
  have F17 := fun_mk (st := s_law_toss) l17 c17 k17
  have F18 := fun_mk (st := s_law_team) l18 c18 k18
  have F19 := fun_mk (st := s_law_choose) l19 c19 k19
  have F20 := fun_mk (st := s_law_falling) l20 c20 k20
  have F21 := fun_mk (st := s_law_due) l21 c21 k21
  have F22 := fun_mk (st := s_law_right) l22 c22 k22
  have F23 := fun_mk (st := s_law) l23 c23 k23
  have m_abs := PySem.W.mg_none_of X G z_abs
  have m_all := PySem.W.mg_none_of X G z_all
  have m_bool := PySem.W.mg_none_of X G z_bool
  have m_enumerate := PySem.W.mg_none_of X G z_enumerate
  have m_int := PySem.W.mg_none_of X G z_int
  have m_isinstance := PySem.W.mg_none_of X G z_isinstance
  have m_len := PySem.W.mg_none_of X G z_len
  have m_list := PySem.W.mg_none_of X G z_list
  have m_max := PySem.W.mg_none_of X G z_max
  have m_min := PySem.W.mg_none_of X G z_min
  have m_range := PySem.W.mg_none_of X G z_range
  have m_sorted := PySem.W.mg_none_of X G z_sorted
  have m_sum := PySem.W.mg_none_of X G z_sum
  have c_GREATEST_JOB := PySem.W.mg_of X G y_GREATEST_JOB
  have c_GREATEST_OTHERS := PySem.W.mg_of X G y_GREATEST_OTHERS
  have c_GREATEST_SPARE := PySem.W.mg_of X G y_GREATEST_SPARE
  have c_MOST_WORKERS := PySem.W.mg_of X G y_MOST_WORKERS
  have b0 := F0.binds (ps := ["thing"]) fun _ _ _ _ _ _ us hl => match us, hl with | [_], _ => rfl
  have b1 := F1.binds (ps := ["thing", "least", "greatest"]) fun _ _ _ _ _ _ us hl => match us, hl with | [_, _, _], _ => rfl
  have b2 := F2.binds (ps := ["team", "worker"]) fun _ _ _ _ _ _ us hl => match us, hl with | [_, _], _ => rfl
  have b3 := F3.binds (ps := ["job"]) fun _ _ _ _ _ _ us hl => match us, hl with | [_], _ => rfl
  have b4 := F4.binds (ps := ["levels"]) fun _ _ _ _ _ _ us hl => match us, hl with | [_], _ => rfl
  have b5 := F5.binds (ps := ["thing"]) fun _ _ _ _ _ _ us hl => match us, hl with | [_], _ => rfl
  have b6 := F6.binds (ps := ["team"]) fun _ _ _ _ _ _ us hl => match us, hl with | [_], _ => rfl
  have b7 := F7.binds (ps := ["team"]) fun _ _ _ _ _ _ us hl => match us, hl with | [_], _ => rfl
  have b8 := F8.binds (ps := ["team", "worker", "job"]) fun _ _ _ _ _ _ us hl => match us, hl with | [_, _, _], _ => rfl
  have b9 := F9.binds (ps := ["team", "bound"]) fun _ _ _ _ _ _ us hl => match us, hl with | [_, _], _ => rfl
  have b10 := F10.binds (ps := ["team", "level"]) fun _ _ _ _ _ _ us hl => match us, hl with | [_, _], _ => rfl
  have b11 := F11.binds (ps := ["found", "level"]) fun _ _ _ _ _ _ us hl => match us, hl with | [_, _], _ => rfl
  have b12 := F12.binds (ps := ["levels"]) fun _ _ _ _ _ _ us hl => match us, hl with | [_], _ => rfl
  have b13 := F13.binds (ps := ["team"]) fun _ _ _ _ _ _ us hl => match us, hl with | [_], _ => rfl
  have b14 := F14.binds (ps := ["team", "limit"]) fun _ _ _ _ _ _ us hl => match us, hl with | [_, _], _ => rfl
  have b15 := F15.binds (ps := ["team"]) fun _ _ _ _ _ _ us hl => match us, hl with | [_], _ => rfl
  have b16 := F16.binds (ps := ["script", "k"]) fun _ _ _ _ _ _ us hl => match us, hl with | [_, _], _ => rfl
  have b17 := F17.binds (ps := ["purse", "wide"]) fun _ _ _ _ _ _ us hl => match us, hl with | [_, _], _ => rfl
  have b18 := F18.binds (ps := ["purse", "most", "top"]) fun _ _ _ _ _ _ us hl => match us, hl with | [_, _, _], _ => rfl
  have b19 := F19.binds (ps := ["wide", "some"]) fun _ _ _ _ _ _ us hl => match us, hl with | [_, _], _ => rfl
  have b20 := F20.binds (ps := ["high", "steps"]) fun _ _ _ _ _ _ us hl => match us, hl with | [_, _], _ => rfl
  have b21 := F21.binds (ps := ["some", "high"]) fun _ _ _ _ _ _ us hl => match us, hl with | [_, _], _ => rfl
  have b22 := F22.binds (ps := ["purse", "crew"]) fun _ _ _ _ _ _ us hl => match us, hl with | [_, _], _ => rfl
  refine ⟨PySem.W.fnOf "law" "law" (defArgs s_law) (defBody s_law) (defScope s_law) .none kV23 dc23 pm23 an23 cd23 ct23, fun s v => .of_eq rfl, fun base _ _ => ?_⟩
  have d_is_whole : DefOk l.prog w K mg base "is_whole" ["thing"] 1 m_is_whole := ⟨_, _, PySem.W.mg_of X G a0, ok_is_whole F0 m_int m_isinstance m_bool, F0.kp, b0⟩
  have d_is_within : DefOk l.prog w K mg base "is_within" ["thing", "least", "greatest"] 2 m_is_within := ⟨_, _, PySem.W.mg_of X G a1, ok_is_within F1 d_is_whole, F1.kp, b1⟩
  have d_check_worker : DefOk l.prog w K mg base "check_worker" ["team", "worker"] 3 m_check_worker := ⟨_, _, PySem.W.mg_of X G a2, ok_check_worker F2 m_len d_is_within, F2.kp, b2⟩
  have d_check_job : DefOk l.prog w K mg base "check_job" ["job"] 3 m_check_job := ⟨_, _, PySem.W.mg_of X G a3, ok_check_job F3 c_GREATEST_JOB d_is_within, F3.kp, b3⟩
  have d_spares_of : DefOk l.prog w K mg base "spares_of" ["levels"] 1 m_spares_of := ⟨_, _, PySem.W.mg_of X G a4, ok_spares_of F4 m_sorted m_enumerate, F4.kp, b4⟩
  have d_is_team : DefOk l.prog w K mg base "is_team" ["thing"] 2 m_is_team := ⟨_, _, PySem.W.mg_of X G a5, ok_is_team F5 m_list m_isinstance m_len m_all m_max c_MOST_WORKERS c_GREATEST_SPARE d_is_whole d_spares_of, F5.kp, b5⟩
  have d_check_team : DefOk l.prog w K mg base "check_team" ["team"] 3 m_check_team := ⟨_, _, PySem.W.mg_of X G a6, ok_check_team F6 d_is_team, F6.kp, b6⟩
  have d_spare_numbers : DefOk l.prog w K mg base "spare_numbers" ["team"] 4 m_spare_numbers := ⟨_, _, PySem.W.mg_of X G a7, ok_spare_numbers F7 d_check_team d_spares_of, F7.kp, b7⟩
  have d_can_do : DefOk l.prog w K mg base "can_do" ["team", "worker", "job"] 4 m_can_do := ⟨_, _, PySem.W.mg_of X G a8, ok_can_do F8 d_check_team d_check_worker d_check_job, F8.kp, b8⟩
  have d_count_above : DefOk l.prog w K mg base "count_above" ["team", "bound"] 1 m_count_above := ⟨_, _, PySem.W.mg_of X G a9, ok_count_above F9 m_sum, F9.kp, b9⟩
  have d_others : DefOk l.prog w K mg base "others" ["team", "level"] 4 m_others := ⟨_, _, PySem.W.mg_of X G a10, ok_others F10 m_max c_GREATEST_OTHERS d_check_team d_is_within, F10.kp, b10⟩
  have d_counts_with_next : DefOk l.prog w K mg base "counts_with_next" ["found", "level"] 1 m_counts_with_next := ⟨_, _, PySem.W.mg_of X G a11, ok_counts_with_next F11 m_enumerate, F11.kp, b11⟩
  have d_counts_along : DefOk l.prog w K mg base "counts_along" ["levels"] 2 m_counts_along := ⟨_, _, PySem.W.mg_of X G a12, ok_counts_along F12 d_counts_with_next, F12.kp, b12⟩
  have d_counts : DefOk l.prog w K mg base "counts" ["team"] 4 m_counts := ⟨_, _, PySem.W.mg_of X G a13, ok_counts F13 m_sorted d_check_team d_counts_along, F13.kp, b13⟩
  have d_bound_by : DefOk l.prog w K mg base "bound_by" ["team", "limit"] 2 m_bound_by := ⟨_, _, PySem.W.mg_of X G a14, ok_bound_by F14 d_count_above, F14.kp, b14⟩
  have d_greatest_size : DefOk l.prog w K mg base "greatest_size" ["team"] 4 m_greatest_size := ⟨_, _, PySem.W.mg_of X G a15, ok_greatest_size F15 m_len m_range m_min d_check_team d_bound_by, F15.kp, b15⟩
  have d_law_purse : DefOk l.prog w K mg base "_law_purse" ["script", "k"] 1 m_law_purse := ⟨_, _, PySem.W.mg_of X G a16, ok_law_purse F16 m_len m_int m_abs m_max, F16.kp, b16⟩
  have d_law_toss : DefOk l.prog w K mg base "_law_toss" ["purse", "wide"] 1 m_law_toss := ⟨_, _, PySem.W.mg_of X G a17, ok_law_toss F17 m_int, F17.kp, b17⟩
  have d_law_team : DefOk l.prog w K mg base "_law_team" ["purse", "most", "top"] 2 m_law_team := ⟨_, _, PySem.W.mg_of X G a18, ok_law_team F18 m_range m_min m_max m_len d_law_toss, F18.kp, b18⟩
  have d_law_choose : DefOk l.prog w K mg base "_law_choose" ["wide", "some"] 1 m_law_choose := ⟨_, _, PySem.W.mg_of X G a19, ok_law_choose F19 m_range, F19.kp, b19⟩
  have d_law_falling : DefOk l.prog w K mg base "_law_falling" ["high", "steps"] 1 m_law_falling := ⟨_, _, PySem.W.mg_of X G a20, ok_law_falling F20 m_range, F20.kp, b20⟩
  have d_law_due : DefOk l.prog w K mg base "_law_due" ["some", "high"] 2 m_law_due := ⟨_, _, PySem.W.mg_of X G a21, ok_law_due F21 m_len m_range m_int d_law_choose d_law_falling, F21.kp, b21⟩
  have d_law_right : DefOk l.prog w K mg base "_law_right" ["purse", "crew"] 5 m_law_right := ⟨_, _, PySem.W.mg_of X G a22, ok_law_right F22 m_max m_range m_len m_min d_law_toss d_others d_is_team d_counts d_law_due d_can_do d_spare_numbers d_greatest_size, F22.kp, b22⟩
  exact (ok_law F23 m_len m_min m_max m_range d_law_purse d_law_team d_law_right d_others).imp (spLaw_of law_true)
end Tk23
open PySem PySem.W PyProof.Rows
set_option maxHeartbeats 0 in
theorem PySem.Challenge.cw_nestboards_k23_whole_others_holds : PySem.Challenge.rw_nestboards_k23_whole_others.Holds := by
  w_on; o_law; k_head; (case hw => w_witness2)
  k_fill
  refine L2.walk_of (l := PySem.Challenge.rw_nestboards_k23_whole_others) (n := 63) (k := 6) (x := "script") (CX := fun _ => L2.CX0) (sp := fun w => Tk23.spLaw _) rfl (by decide) rfl ⟨rfl, by decide, by decide⟩ (fun w h Y => PySem.W.kIn_of Y) ?F (fun _ _ a ns hl _ hS => ⟨a, ns, rfl, hS, hl, fun _ => rfl⟩) (fun _ _ _ _ _ h => h)
  case F =>
    intro w mg fa h KX G hmg
    refine' Tk23.all_mk KX G hmg rfl Tk23.law_true ?a0 ?l0 ?c0 ?k0 ?a1 ?l1 ?c1 ?k1 ?a2 ?l2 ?c2 ?k2 ?a3 ?l3 ?c3 ?k3 ?a4 ?l4 ?c4 ?k4 ?a5 ?l5 ?c5 ?k5 ?a6 ?l6 ?c6 ?k6 ?a7 ?l7 ?c7 ?k7 ?a8 ?l8 ?c8 ?k8 ?a9 ?l9 ?c9 ?k9 ?a10 ?l10 ?c10 ?k10 ?a11 ?l11 ?c11 ?k11 ?a12 ?l12 ?c12 ?k12 ?a13 ?l13 ?c13 ?k13 ?a14 ?l14 ?c14 ?k14 ?a15 ?l15 ?c15 ?k15 ?a16 ?l16 ?c16 ?k16 ?a17 ?l17 ?c17 ?k17 ?a18 ?l18 ?c18 ?k18 ?a19 ?l19 ?c19 ?k19 ?a20 ?l20 ?c20 ?k20 ?a21 ?l21 ?c21 ?k21 ?a22 ?l22 ?c22 ?k22 ?a23 ?l23 ?c23 ?k23 ?z_abs ?z_all ?z_bool ?z_enumerate ?z_int ?z_isinstance ?z_len ?z_list ?z_max ?z_min ?z_range ?z_sorted ?z_sum ?y_GREATEST_JOB ?y_GREATEST_OTHERS ?y_GREATEST_SPARE ?y_MOST_WORKERS
    (case a0 => k_is); (case l0 => k_is); (case c0 => k_is); (case k0 => k_is)
    (case a1 => k_is); (case l1 => k_is); (case c1 => k_is); (case k1 => k_is)
    (case a2 => k_is); (case l2 => k_is); (case c2 => k_is); (case k2 => k_is)
    (case a3 => k_is); (case l3 => k_is); (case c3 => k_is); (case k3 => k_is)
    (case a4 => k_is); (case l4 => k_is); (case c4 => k_is); (case k4 => k_is)
    (case a5 => k_is); (case l5 => k_is); (case c5 => k_is); (case k5 => k_is)
    (case a6 => k_is); (case l6 => k_is); (case c6 => k_is); (case k6 => k_is)
    (case a7 => k_is); (case l7 => k_is); (case c7 => k_is); (case k7 => k_is)
    (case a8 => k_is); (case l8 => k_is); (case c8 => k_is); (case k8 => k_is)
    (case a9 => k_is); (case l9 => k_is); (case c9 => k_is); (case k9 => k_is)
    (case a10 => k_is); (case l10 => k_is); (case c10 => k_is); (case k10 => k_is)
    (case a11 => k_is); (case l11 => k_is); (case c11 => k_is); (case k11 => k_is)
    (case a12 => k_is); (case l12 => k_is); (case c12 => k_is); (case k12 => k_is)
    (case a13 => k_is); (case l13 => k_is); (case c13 => k_is); (case k13 => k_is)
    (case a14 => k_is); (case l14 => k_is); (case c14 => k_is); (case k14 => k_is)
    (case a15 => k_is); (case l15 => k_is); (case c15 => k_is); (case k15 => k_is)
    (case a16 => k_is); (case l16 => k_is); (case c16 => k_is); (case k16 => k_is)
    (case a17 => k_is); (case l17 => k_is); (case c17 => k_is); (case k17 => k_is)
    (case a18 => k_is); (case l18 => k_is); (case c18 => k_is); (case k18 => k_is)
    (case a19 => k_is); (case l19 => k_is); (case c19 => k_is); (case k19 => k_is)
    (case a20 => k_is); (case l20 => k_is); (case c20 => k_is); (case k20 => k_is)
    (case a21 => k_is); (case l21 => k_is); (case c21 => k_is); (case k21 => k_is)
    (case a22 => k_is); (case l22 => k_is); (case c22 => k_is); (case k22 => k_is)
    (case a23 => k_is); (case l23 => k_is); (case c23 => k_is); (case k23 => k_is)
    (case z_abs => k_is)
    (case z_all => k_is)
    (case z_bool => k_is)
    (case z_enumerate => k_is)
    (case z_int => k_is)
    (case z_isinstance => k_is)
    (case z_len => k_is)
    (case z_list => k_is)
    (case z_max => k_is)
    (case z_min => k_is)
    (case z_range => k_is)
    (case z_sorted => k_is)
    (case z_sum => k_is)
    (case y_GREATEST_JOB => k_is)
    (case y_GREATEST_OTHERS => k_is)
    (case y_GREATEST_SPARE => k_is)
    (case y_MOST_WORKERS => k_is)
