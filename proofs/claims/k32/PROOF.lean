import PyProof.Rows.All
import Wide.All
import OpenK.AllK
import Wide.FinOn
import PySem.Challenge.RW_nestboards_k32_papers_of_sets_judged
import HandS.Ends
import HandS.Evl
import HandS.Wide
import HandS.WideBits
import HandS.ForMost
import HandS.ForExc
import HandS.Style
import HandS.IsInst
import HandS.SortInts
import HandS.Conv
import HandS.CallLocal
import HandS.WordsExc
import HandS.Words
import HandS.ExcOwn
import HandS.Exc
import HandS.Dict
import HandS.Gcd
import PyProof.ReprRoads
import PyProof.StrLaws
import HandS.SortRule
import HandS.SortKw
import HandS.Zip
import HandS.Deep
import HandS.HotCalls
import HandS.ExcIs
import HandS.Text
import HandS.FStr
import HandS.TupMul
import HandS.SetFor
import KE.KMathGC
import KE.DataMinMax

set_option Elab.async false
set_option linter.all false
set_option maxRecDepth 100000
/-! VmA: a layer of my own over HandS: expressions and statements as plain functions on environments of deep values. -/
namespace Vm
open PySem PySem.Spec PyProof.Rows L2 Evl

/-! ### deep values -/
inductive D where
  | non | bl (b : Bool) | int (i : Int) | str (s : Str) | ref (a : Addr) | ty (n : String)
  | lst (xs : List D) | tup (xs : List D) | dct (ks : List Key) (xs : List D) | scr (ns : List Int) | fn (x : Str)

/-- where the module's name c leads -/
def clsOf (K : PySem.W.Frag) (c : Str) : Addr := match PySem.W.nsIn K mainGlobals c with
  | some (some (.ref a)) => a
  | _ => mainGlobals

mutual
inductive Rep (K : PySem.W.Frag) (B : Hp) : V → D → Prop
  | non : Rep K B .non .non
  | bl (b : Bool) : Rep K B (.bl b) (.bl b)
  | int (i : Int) : Rep K B (.int i) (.int i)
  | str (x : Str) : Rep K B (.str x) (.str x)
  | ref (a : Addr) : Rep K B (.ref a) (.ref a)
  | ty (n : String) : Rep K B (.ty n) (.ty n)
  | fn (x : Str) : Rep K B (.ref (clsOf K x)) (.fn x)
  | lst {a : Addr} {vs : List V} {xs : List D} : B a = some (.lst vs) → RepAll K B vs xs → Rep K B (.ref a) (.lst xs)
  | scr {a : Addr} {ns : List Int} : SqL K B a (ns.map V.int) → Rep K B (.ref a) (.scr ns)
  | tup {a : Addr} {vs : List V} {xs : List D} : SqT K B a vs → RepAll K B vs xs → Rep K B (.ref a) (.tup xs)
  | dct {a : Addr} {kvs : List (Key × V)} {xs : List D} : B a = some (.dK kvs) → RepAll K B (kvs.map (·.2)) xs → Rep K B (.ref a) (.dct (kvs.map (·.1)) xs)
inductive RepAll (K : PySem.W.Frag) (B : Hp) : List V → List D → Prop
  | nil : RepAll K B [] []
  | cons {v : V} {vs : List V} {d : D} {xs : List D} : Rep K B v d → RepAll K B vs xs → RepAll K B (v :: vs) (d :: xs)
end

section
variable {K : PySem.W.Frag} {B B' H H' : Hp}
mutual
theorem Rep.mono (e : Ex B B') {v : V} {d : D} (h : Rep K B v d) : Rep K B' v d := by
  cases h with
  | non => exact .non
  | bl b => exact .bl b
  | int i => exact .int i
  | str x => exact .str x
  | ref a => exact .ref a
  | ty n => exact .ty n
  | fn x => exact .fn x
  | lst h1 h2 => exact .lst (e _ _ h1) (RepAll.mono e h2)
  | scr h1 => exact .scr (ex_l e h1)
  | tup h1 h2 => exact .tup (ex_t e h1) (RepAll.mono e h2)
  | dct h1 h2 => exact .dct (e _ _ h1) (RepAll.mono e h2)
theorem RepAll.mono (e : Ex B B') {vs : List V} {xs : List D} (h : RepAll K B vs xs) : RepAll K B' vs xs := by
  cases h with
  | nil => exact .nil
  | cons h1 h2 => exact .cons (Rep.mono e h1) (RepAll.mono e h2)
end
theorem RepAll.length : ∀ {vs : List V} {xs : List D}, RepAll K B vs xs → vs.length = xs.length
  | _, _, .nil => rfl
  | _, _, .cons _ t => congrArg (· + 1) (RepAll.length t)
theorem RepAll.get : ∀ {vs : List V} {xs : List D} {i : Nat} {d : D}, RepAll K B vs xs → xs[i]? = some d → ∃ v, vs[i]? = some v ∧ Rep K B v d
  | _, _, _, _, .nil, h => by simp at h
  | _, _, 0, d, .cons (v := v) h t, e => by
    simp at e
    subst e
    exact ⟨v, rfl, h⟩
  | _, _, i + 1, d, .cons h t, e => by
    obtain ⟨v, e1, r⟩ := RepAll.get (i := i) t (by simpa using e)
    exact ⟨v, by simpa using e1, r⟩
theorem RepAll.getV : ∀ {vs : List V} {xs : List D} {i : Nat} {v : V}, RepAll K B vs xs → vs[i]? = some v → ∃ d, xs[i]? = some d ∧ Rep K B v d
  | _, _, _, _, .nil, h => by simp at h
  | _, _, 0, v, .cons (d := d) h t, e => by
    simp at e
    subst e
    exact ⟨d, rfl, h⟩
  | _, _, i + 1, v, .cons h t, e => by
    obtain ⟨d, e1, r⟩ := RepAll.getV (i := i) t (by simpa using e)
    exact ⟨d, by simpa using e1, r⟩
theorem RepAll.append : ∀ {vs ws : List V} {xs ys : List D}, RepAll K B vs xs → RepAll K B ws ys → RepAll K B (vs ++ ws) (xs ++ ys)
  | _, _, _, _, .nil, h => h
  | _, _, _, _, .cons a t, h => .cons a (RepAll.append t h)
theorem RepAll.one {v : V} {d : D} (h : Rep K B v d) : RepAll K B [v] [d] := .cons h .nil
theorem RepAll.set {v : V} {d : D} (h : Rep K B v d) : ∀ {vs : List V} {xs : List D} (i : Nat), RepAll K B vs xs → RepAll K B (vs.set i v) (xs.set i d)
  | _, _, _, .nil => .nil
  | _, _, 0, .cons a t => .cons h t
  | _, _, i + 1, .cons a t => .cons a (RepAll.set h i t)
theorem RepAll.take : ∀ {vs : List V} {xs : List D} (i : Nat), RepAll K B vs xs → RepAll K B (vs.take i) (xs.take i)
  | _, _, 0, _ => .nil
  | _, _, _ + 1, .nil => .nil
  | _, _, i + 1, .cons a t => .cons a (RepAll.take i t)
theorem RepAll.drop : ∀ {vs : List V} {xs : List D} (i : Nat), RepAll K B vs xs → RepAll K B (vs.drop i) (xs.drop i)
  | _, _, 0, h => h
  | _, _, _ + 1, .nil => .nil
  | _, _, i + 1, .cons a t => RepAll.drop i t
theorem RepAll.eraseIdx : ∀ {vs : List V} {xs : List D} (i : Nat), RepAll K B vs xs → RepAll K B (vs.eraseIdx i) (xs.eraseIdx i)
  | _, _, _, .nil => .nil
  | _, _, 0, .cons a t => t
  | _, _, i + 1, .cons a t => .cons a (RepAll.eraseIdx i t)
theorem RepAll.reverse : ∀ {vs : List V} {xs : List D}, RepAll K B vs xs → RepAll K B vs.reverse xs.reverse
  | _, _, .nil => .nil
  | _, _, .cons a t => by
    rw [List.reverse_cons, List.reverse_cons]
    exact RepAll.append (RepAll.reverse t) (.one a)
theorem RepAll.ints : ∀ {vs : List V} {ns : List Int}, RepAll K B vs (ns.map D.int) → vs = ns.map V.int
  | _, [], h => by cases h; rfl
  | _, n :: ns, h => by
    cases h with
    | cons a t =>
      cases a
      rw [RepAll.ints t]
      rfl
theorem RepAll.of_ints : ∀ (ns : List Int), RepAll K B (ns.map V.int) (ns.map D.int)
  | [] => .nil
  | n :: ns => .cons (.int n) (RepAll.of_ints ns)
theorem RepAll.bls : ∀ {vs : List V} {ns : List Bool}, RepAll K B vs (ns.map D.bl) → vs = ns.map V.bl
  | _, [], h => by cases h; rfl
  | _, n :: ns, h => by
    cases h with
    | cons a t =>
      cases a
      rw [RepAll.bls t]
      rfl
theorem RepAll.strs : ∀ {vs : List V} {ns : List Str}, RepAll K B vs (ns.map D.str) → vs = ns.map V.str
  | _, [], h => by cases h; rfl
  | _, n :: ns, h => by
    cases h with
    | cons a t =>
      cases a
      rw [RepAll.strs t]
      rfl
theorem Rep.list {v : V} {xs : List D} (h : Rep K B v (.lst xs)) : ∃ a vs, v = .ref a ∧ B a = some (.lst vs) ∧ RepAll K B vs xs := by
  cases h with
  | lst h1 h2 => exact ⟨_, _, rfl, h1, h2⟩
theorem Rep.tuple {v : V} {xs : List D} (h : Rep K B v (.tup xs)) : ∃ a vs, v = .ref a ∧ SqT K B a vs ∧ RepAll K B vs xs := by
  cases h with
  | tup h1 h2 => exact ⟨_, _, rfl, h1, h2⟩
end

/-! ### environments -/
/-- a slot: nothing known; a value that is never changed; a list of the function's own -/
inductive Sl where
  | un | sh (d : D) | ow (xs : List D)
abbrev En := List Sl

structure Ctx where
  K : PySem.W.Frag
  G : Hp
  B0 : Hp
  fix : List Nat
  σ0 : L2.St

def SlOk (K : PySem.W.Frag) (G B H : Hp) : Sl → Option (Option V) → Prop
  | .un, _ => True
  | .sh d, o => ∃ v, o = some (some v) ∧ Rep K B v d
  | .ow xs, o => ∃ p vs, o = some (some (.ref p)) ∧ B p = none ∧ G p = none ∧ H p = some (.lst vs) ∧ RepAll K B vs xs

/-- no own slot stands at q -/
def Off (env : En) (σ : L2.St) (q : Addr) : Prop := ∀ (i : Nat) (ys : List D), env[i]? = some (.ow ys) → σ[i]? ≠ some (some (.ref q))

structure SR (C : Ctx) (B : Hp) (env : En) (σ : L2.St) (H : Hp) : Prop where
  exG : Ex C.G H
  exB : Ex B H
  ex0 : Ex C.B0 B
  new : ∀ q, B q ≠ none → C.B0 q ≠ none ∨ C.G q = none
  len : σ.length = env.length
  sl : ∀ (i : Nat) (s : Sl), env[i]? = some s → SlOk C.K C.G B H s σ[i]?
  dis : ∀ (i j : Nat) (p : Addr) (xs ys : List D), env[i]? = some (.ow xs) → env[j]? = some (.ow ys) → σ[i]? = some (some (.ref p)) → σ[j]? = some (some (.ref p)) → i = j
  fx : ∀ j ∈ C.fix, σ[j]? = C.σ0[j]?

/-- results: a value; the own list of a slot; a new list -/
inductive R where
  | val (d : D) | al (i : Nat) | fr (xs : List D)

def RepR (C : Ctx) (B : Hp) (env : En) (σ : L2.St) (H : Hp) (v : V) : R → Prop
  | .val d => Rep C.K B v d
  | .al i => σ[i]? = some (some v)
  | .fr xs => ∃ p vs, v = .ref p ∧ B p = none ∧ C.G p = none ∧ H p = some (.lst vs) ∧ RepAll C.K B vs xs ∧ Off env σ p

/-- an expression: its reading t goes as f says -/
def SE (K : PySem.W.Frag) (t : TE) (f : En → Option (R × En)) : Prop :=
  ∀ C : Ctx, C.K = K → ∀ (B : Hp) (env : En) (σ : L2.St) (H : Hp) (r : R) (env' : En), SR C B env σ H → f env = some (r, env') →
    ∀ Q : VK, (∀ v B' H', SR C B' env' σ H' → Ex B B' → RepR C B' env' σ H' v r → Q v H') → t σ H Q

/-- a test -/
def ST (K : PySem.W.Frag) (t : TT) (f : En → Option (Bool × En)) : Prop :=
  ∀ C : Ctx, C.K = K → ∀ (B : Hp) (env : En) (σ : L2.St) (H : Hp) (r : Bool) (env' : En), SR C B env σ H → f env = some (r, env') →
    ∀ Q : Bool → Hp → Prop, (∀ B' H', SR C B' env' σ H' → Ex B B' → Q r H') → t σ H Q

/-- what a result holds, read now -/
def look (env : En) : R → Option D
  | .val d => some d
  | .fr xs => some (.lst xs)
  | .al i => match env[i]? with
    | some (.ow xs) => some (.lst xs)
    | some (.sh d) => some d
    | _ => none
/-- a result as a value that is never changed -/
def frz (env : En) : R → Option (D × En)
  | .val d => some (d, env)
  | .fr xs => some (.lst xs, env)
  | .al i => match env[i]? with
    | some (.ow xs) => some (.lst xs, env.set i (.sh (.lst xs)))
    | some (.sh d) => some (d, env)
    | _ => none

/-- to be read now -/
def RepK (K : PySem.W.Frag) (B H : Hp) (v : V) (d : D) : Prop := Rep K B v d ∨ ∃ p vs xs, v = .ref p ∧ d = .lst xs ∧ H p = some (.lst vs) ∧ RepAll K B vs xs

section
variable {K : PySem.W.Frag} {C : Ctx} {B B' G H H' : Hp} {env env' : En} {σ : L2.St} {v : V} {r : R} {d : D}

theorem RepK.list {xs : List D} (e : Ex B H) (h : RepK K B H v (.lst xs)) : ∃ a vs, v = .ref a ∧ H a = some (.lst vs) ∧ RepAll K B vs xs := by
  rcases h with h | ⟨p, vs, ys, rfl, e1, hp, ra⟩
  · obtain ⟨a, vs, rfl, h1, h2⟩ := h.list
    exact ⟨a, vs, rfl, e _ _ h1, h2⟩
  · cases e1
    exact ⟨p, vs, rfl, hp, ra⟩
theorem RepK.scal (h : RepK K B H v d) (hd : ∀ xs, d ≠ .lst xs) : Rep K B v d := by
  rcases h with h | ⟨p, vs, ys, rfl, e1, hp, ra⟩
  · exact h
  · exact absurd e1 (hd _)
theorem RepK.rep (e : Ex B H) (h : RepK K B H v d) : Rep K H v d := by
  rcases h with h | ⟨p, vs, ys, rfl, rfl, hp, ra⟩
  · exact h.mono e
  · exact .lst hp (ra.mono e)
theorem RepK.int {i : Int} (h : RepK K B H v (.int i)) : v = .int i := by
  rcases h with h | ⟨p, vs, ys, rfl, e1, _⟩
  · cases h; rfl
  · cases e1
theorem RepK.bl {i : Bool} (h : RepK K B H v (.bl i)) : v = .bl i := by
  rcases h with h | ⟨p, vs, ys, rfl, e1, _⟩
  · cases h; rfl
  · cases e1
theorem RepK.str {i : Str} (h : RepK K B H v (.str i)) : v = .str i := by
  rcases h with h | ⟨p, vs, ys, rfl, e1, _⟩
  · cases h; rfl
  · cases e1
theorem RepK.non (h : RepK K B H v .non) : v = .non := by
  rcases h with h | ⟨p, vs, ys, rfl, e1, _⟩
  · cases h; rfl
  · cases e1

theorem look_rep (s : SR C B env σ H) (h : RepR C B env σ H v r) (e : look env r = some d) : RepK C.K B H v d := by
  cases r with
  | val x =>
    cases e
    exact .inl h
  | fr xs =>
    cases e
    obtain ⟨p, vs, rfl, _, _, hp, ra, _⟩ := h
    exact .inr ⟨p, vs, xs, rfl, rfl, hp, ra⟩
  | al i =>
    have h : σ[i]? = some (some v) := h
    unfold look at e
    cases q : env[i]? with
    | none => simp only [q] at e; cases e
    | some t =>
      have w := s.sl i t q
      simp only [q] at e
      cases t with
      | un => cases e
      | sh x =>
        cases e
        obtain ⟨u, e1, ru⟩ := w
        rw [h] at e1
        cases e1
        exact .inl ru
      | ow xs =>
        cases e
        obtain ⟨p, vs, e1, _, _, hp, ra⟩ := w
        rw [h] at e1
        cases e1
        exact .inr ⟨p, vs, xs, rfl, rfl, hp, ra⟩

theorem SlOk.mono {s : Sl} {o : Option (Option V)} (e : Ex B B') (k : ∀ p, o = some (some (.ref p)) → (∃ xs, s = .ow xs) → B' p = none ∧ H' p = H p) (h : SlOk K G B H s o) : SlOk K G B' H' s o := by
  cases s with
  | un => trivial
  | sh d =>
    obtain ⟨v, e1, r⟩ := h
    exact ⟨v, e1, r.mono e⟩
  | ow xs =>
    obtain ⟨p, vs, e1, hb, hg, hp, ra⟩ := h
    obtain ⟨k1, k2⟩ := k p e1 ⟨xs, rfl⟩
    exact ⟨p, vs, e1, k1, hg, by rw [k2]; exact hp, ra.mono e⟩

/-- a new object of any kind is tracked, and is data from now on -/
theorem SR.alloc (s : SR C B env σ H) {p : Addr} {o : HO} (hp : H p = none) : SR C (upd B p o) env σ (upd H p o) := by
  have bp : B p = none := fresh_back s.exB hp
  have gp : C.G p = none := fresh_back s.exG hp
  refine ⟨s.exG.trans (Ex.new hp), fun a u e => ?_, s.ex0.trans (Ex.new bp), fun q hq => ?_, s.len, fun i t h => ?_, s.dis, s.fx⟩
  · by_cases h : a = p
    · subst h
      rw [upd_same] at e ⊢
      exact e
    · rw [upd_ne h] at e ⊢
      exact s.exB a u e
  · by_cases h : q = p
    · subst h
      exact .inr gp
    · rw [upd_ne h] at hq
      exact s.new q hq
  · refine (s.sl i t h).mono (Ex.new bp) fun q e ⟨xs, ex⟩ => ?_
    subst ex
    obtain ⟨p', vs, e1, hb, _, hh, _⟩ := s.sl i _ h
    rw [e] at e1
    cases e1
    have ne : q ≠ p := ne_of_none hh hp
    exact ⟨by rw [upd_ne ne]; exact hb, upd_ne ne⟩
/-- a new object is made that is nobody's data -/
theorem SR.temp (s : SR C B env σ H) {p : Addr} {o : HO} (hp : H p = none) : SR C B env σ (upd H p o) := by
  refine ⟨s.exG.trans (Ex.new hp), s.exB.trans (Ex.new hp), s.ex0, s.new, s.len, fun i t h => ?_, s.dis, s.fx⟩
  refine (s.sl i t h).mono (Ex.refl _) fun q e ⟨xs, ex⟩ => ?_
  subst ex
  obtain ⟨p', vs, e1, hb, _, hh, _⟩ := s.sl i _ h
  rw [e] at e1
  cases e1
  exact ⟨hb, upd_ne (ne_of_none hh hp)⟩
theorem SR.off (s : SR C B env σ H) {p : Addr} (hp : H p = none) : Off env σ p := fun i ys h e => by
  obtain ⟨p', vs, e1, hb, _, hh, _⟩ := s.sl i _ h
  rw [e] at e1
  cases e1
  rw [hp] at hh
  cases hh
/-- a new list as a result -/
theorem SR.newL (s : SR C B env σ H) {p : Addr} {vs : List V} {xs : List D} (hp : H p = none) (ra : RepAll C.K B vs xs) : RepR C B env σ (upd H p (.lst vs)) (.ref p) (.fr xs) :=
  ⟨p, vs, rfl, fresh_back s.exB hp, fresh_back s.exG hp, upd_same, ra, s.off hp⟩
/-- a list that is nobody's becomes data -/
theorem SR.take (s : SR C B env σ H) {p : Addr} {vs : List V} (bp : B p = none) (gp : C.G p = none) (hp : H p = some (.lst vs)) (off : Off env σ p) : SR C (upd B p (.lst vs)) env σ H := by
  refine ⟨s.exG, fun a u e => ?_, s.ex0.trans (Ex.new bp), fun q hq => ?_, s.len, fun i t h => ?_, s.dis, s.fx⟩
  · by_cases h : a = p
    · subst h
      rw [upd_same] at e
      cases e
      exact hp
    · rw [upd_ne h] at e
      exact s.exB a u e
  · by_cases h : q = p
    · subst h
      exact .inr gp
    · rw [upd_ne h] at hq
      exact s.new q hq
  · refine (s.sl i t h).mono (Ex.new bp) fun q e ⟨xs, ex⟩ => ?_
    subst ex
    obtain ⟨p', vs', e1, hb, _, hh, _⟩ := s.sl i _ h
    rw [e] at e1
    cases e1
    have ne : q ≠ p := fun z => off i _ h (by rw [e, z])
    exact ⟨by rw [upd_ne ne]; exact hb, rfl⟩
/-- the slot i is told otherwise -/
theorem SR.reslot (s : SR C B env σ H) {i : Nat} {t : Sl} (ht : ∀ xs, t ≠ .ow xs) (h : SlOk C.K C.G B H t σ[i]?) : SR C B (env.set i t) σ H := by
  refine ⟨s.exG, s.exB, s.ex0, s.new, by rw [List.length_set]; exact s.len, fun j u e => ?_, fun j k p xs ys e1 e2 => ?_, s.fx⟩
  · by_cases hj : i = j
    · subst hj
      by_cases hl : i < env.length
      · rw [List.getElem?_set_self hl] at e
        cases e
        exact h
      · rw [List.getElem?_eq_none (by rw [List.length_set]; omega)] at e
        cases e
    · rw [List.getElem?_set_ne hj] at e
      exact s.sl j u e
  · have k1 : env[j]? = some (.ow xs) := by
      by_cases hj : i = j
      · subst hj
        by_cases hl : i < env.length
        · rw [List.getElem?_set_self hl] at e1
          exact absurd (Option.some.inj e1) (ht _)
        · rw [List.getElem?_eq_none (by rw [List.length_set]; omega)] at e1
          cases e1
      · rw [List.getElem?_set_ne hj] at e1
        exact e1
    have k2 : env[k]? = some (.ow ys) := by
      by_cases hj : i = k
      · subst hj
        by_cases hl : i < env.length
        · rw [List.getElem?_set_self hl] at e2
          exact absurd (Option.some.inj e2) (ht _)
        · rw [List.getElem?_eq_none (by rw [List.length_set]; omega)] at e2
          cases e2
      · rw [List.getElem?_set_ne hj] at e2
        exact e2
    exact s.dis j k p xs ys k1 k2
theorem frz_rep (s : SR C B env σ H) (h : RepR C B env σ H v r) (e : frz env r = some (d, env')) : ∃ B', SR C B' env' σ H ∧ Ex B B' ∧ Rep C.K B' v d := by
  cases r with
  | val x =>
    cases e
    exact ⟨B, s, Ex.refl _, h⟩
  | fr xs =>
    cases e
    obtain ⟨p, vs, rfl, bp, gp, hp, ra, off⟩ := h
    exact ⟨_, s.take bp gp hp off, Ex.new bp, .lst upd_same (ra.mono (Ex.new bp))⟩
  | al i =>
    have h : σ[i]? = some (some v) := h
    unfold frz at e
    cases q : env[i]? with
    | none => simp only [q] at e; cases e
    | some t =>
      have w := s.sl i t q
      simp only [q] at e
      cases t with
      | un => cases e
      | sh x =>
        cases e
        obtain ⟨u, e1, ru⟩ := w
        rw [h] at e1
        cases e1
        exact ⟨B, s, Ex.refl _, ru⟩
      | ow xs =>
        cases e
        obtain ⟨p, vs, e1, bp, gp, hp, ra⟩ := w
        rw [h] at e1
        cases e1
        have s1 : SR C B (env.set i .un) σ H := s.reslot (fun xs z => by cases z) trivial
        have off : Off (env.set i .un) σ p := fun j ys e2 e3 => by
          by_cases hj : i = j
          · subst hj
            by_cases hl : i < env.length
            · rw [List.getElem?_set_self hl] at e2
              cases e2
            · rw [List.getElem?_eq_none (by rw [List.length_set]; omega)] at e2
              cases e2
          · rw [List.getElem?_set_ne hj] at e2
            exact hj (s.dis i j p xs ys q e2 h e3)
        have s2 := s1.take bp gp hp off
        have rr : Rep C.K (upd B p (.lst vs)) (.ref p) (.lst xs) := .lst upd_same (ra.mono (Ex.new bp))
        have s3 := s2.reslot (i := i) (t := .sh (.lst xs)) (fun xs z => by cases z) ⟨_, h, rr⟩
        rw [List.set_set] at s3
        exact ⟨_, s3, Ex.new bp, rr⟩
end
end Vm

set_option Elab.async false
set_option linter.all false
set_option maxRecDepth 100000
namespace Vm
open PySem PySem.Spec PyProof.Rows L2 Evl
section
variable {K : PySem.W.Frag} {C : Ctx} {B B' G H H' : Hp} {env env' : En} {σ : L2.St} {v : V} {r : R} {d : D} {ta tb te : TE} {fa fb fe : En → Option (R × En)} {f : En → Option (R × En)}

/-! ### what else stands is kept: the frame -/
def join (G T : Hp) : Hp := fun q => match G q with
  | some o => some o
  | none => T q
theorem join_none {G T : Hp} {q : Addr} (h : join G T q = none) : G q = none ∧ T q = none := by
  unfold join at h
  cases e : G q with
  | none => simp only [e] at h; exact ⟨rfl, h⟩
  | some o => simp only [e] at h; cases h
theorem join_of {G T : Hp} {q : Addr} (h : G q = none) (h2 : T q = none) : join G T q = none := by
  unfold join
  simp only [h]
  exact h2
theorem ex_join {G T H : Hp} (a : Ex G H) (b : Ex T H) : Ex (join G T) H := fun q o e => by
  unfold join at e
  cases z : G q with
  | none => simp only [z] at e; exact b q o e
  | some u => simp only [z] at e; cases e; exact a q _ z
theorem join_ex1 {G T H : Hp} (a : Ex (join G T) H) : Ex G H := fun q o e => a q o (by unfold join; simp only [e])
theorem join_ex2 {G T H : Hp} (g : Ex G H') (t : Ex T H') (a : Ex (join G T) H) : Ex T H := fun q o e => by
  cases z : G q with
  | none => exact a q o (by unfold join; simp only [z]; exact e)
  | some u =>
    have h1 := g q u z
    have h2 := t q o e
    rw [h1] at h2
    cases h2
    exact a q _ (by unfold join; simp only [z])
/-- T: temporary lists, nobody's data -/
structure Tmp (B : Hp) (env : En) (σ : L2.St) (H T : Hp) : Prop where
  ex : Ex T H
  nb : ∀ q, T q ≠ none → B q = none
  off : ∀ q, T q ≠ none → Off env σ q
def Ctx.plus (C : Ctx) (T : Hp) : Ctx := { C with G := join C.G T }
theorem SR.plus (s : SR C B env σ H) {T : Hp} (t : Tmp B env σ H T) : SR (C.plus T) B env σ H := by
  refine ⟨ex_join s.exG t.ex, s.exB, s.ex0, fun q hq => ?_, s.len, fun i u h => ?_, s.dis, s.fx⟩
  · rcases s.new q hq with z | z
    · exact .inl z
    · refine .inr (join_of z ?_)
      cases e : T q with
      | none => rfl
      | some o => exact absurd (t.nb q (by rw [e]; exact fun z => nomatch z)) hq
  · have w := s.sl i u h
    cases u with
    | un => trivial
    | sh d => exact w
    | ow xs =>
      obtain ⟨p, vs, e1, hb, hg, hp, ra⟩ := w
      refine ⟨p, vs, e1, hb, join_of hg ?_, hp, ra⟩
      cases e : T p with
      | none => rfl
      | some o => exact absurd e1 (t.off p (by rw [e]; exact fun z => nomatch z) i xs h)
theorem SR.minus {T H0 : Hp} (g : Ex C.G H0) (e : Ex T H0) (nb : ∀ q, T q ≠ none → B q = none) (ex : Ex B B') (s : SR (C.plus T) B' env σ H) (hb0 : Ex C.B0 B) : SR C B' env σ H ∧ Tmp B' env σ H T := by
  refine ⟨⟨join_ex1 s.exG, s.exB, s.ex0, fun q hq => ?_, s.len, fun i u h => ?_, s.dis, s.fx⟩, join_ex2 g e s.exG, fun q hq => ?_, fun q hq i ys h1 h2 => ?_⟩
  · rcases s.new q hq with z | z
    · exact .inl z
    · exact .inr (join_none z).1
  · have w := s.sl i u h
    cases u with
    | un => trivial
    | sh d => exact w
    | ow xs =>
      obtain ⟨p, vs, e1, hb, hg, hp, ra⟩ := w
      exact ⟨p, vs, e1, hb, (join_none hg).1, hp, ra⟩
  · cases z : B' q with
    | none => rfl
    | some o =>
      rcases s.new q (by rw [z]; exact fun q => nomatch q) with y | y
      · have b := nb q hq
        cases w : C.B0 q with
        | none => exact absurd w y
        | some u => rw [hb0 q u w] at b; cases b
      · exact absurd (join_none y).2 hq
  · obtain ⟨p, vs, e1, hb, hg, hp, ra⟩ := s.sl i _ h1
    rw [h2] at e1
    cases e1
    exact hq (join_none hg).2
theorem SE.temp (h : SE K te f) (hC : C.K = K) (s : SR C B env σ H) (e : f env = some (r, env')) {T : Hp} (t : Tmp B env σ H T) {Q : VK}
    (hq : ∀ v B' H', SR C B' env' σ H' → Ex B B' → RepR C B' env' σ H' v r → Tmp B' env' σ H' T → (∀ p, r = .fr [] ∨ True → v = .ref p → (∃ xs, r = .fr xs) → T p = none) → Q v H') : te σ H Q := by
  refine h (C.plus T) hC B env σ H r env' (s.plus t) e Q fun v B' H' s' x rr => ?_
  obtain ⟨s1, t1⟩ := SR.minus s.exG t.ex t.nb x s' s.ex0
  refine hq v B' H' s1 x ?_ t1 fun p _ ev ⟨xs, er⟩ => ?_
  · cases r with
    | val d => exact rr
    | al i => exact rr
    | fr xs =>
      obtain ⟨p, vs, rfl, bp, gp, hp, ra, off⟩ := rr
      exact ⟨p, vs, rfl, bp, (join_none gp).1, hp, ra, off⟩
  · subst er
    obtain ⟨p', vs, e2, bp, gp, _⟩ := rr
    rw [ev] at e2
    cases e2
    exact (join_none gp).2
theorem ST.temp {t : TT} {g : En → Option (Bool × En)} {b : Bool} (h : ST K t g) (hC : C.K = K) (s : SR C B env σ H) (e : g env = some (b, env')) {T : Hp} (tm : Tmp B env σ H T) {Q : Bool → Hp → Prop}
    (hq : ∀ B' H', SR C B' env' σ H' → Ex B B' → Tmp B' env' σ H' T → Q b H') : t σ H Q := by
  refine h (C.plus T) hC B env σ H b env' (s.plus tm) e Q fun B' H' s' x => ?_
  obtain ⟨s1, t1⟩ := SR.minus s.exG tm.ex tm.nb x s' s.ex0
  exact hq B' H' s1 x t1
/-- a result as a temporary -/
def tmpOf (v : V) (H : Hp) : R → Hp
  | .fr _ => fun q => if v = .ref q then H q else none
  | _ => fun _ => none
theorem RepR.tmp (rr : RepR C B env σ H v r) : Tmp B env σ H (tmpOf v H r) := by
  cases r with
  | val d => exact ⟨fun _ _ h => (nomatch h), fun _ h => absurd rfl h, fun _ h => absurd rfl h⟩
  | al i => exact ⟨fun _ _ h => (nomatch h), fun _ h => absurd rfl h, fun _ h => absurd rfl h⟩
  | fr xs =>
    obtain ⟨p, vs, rfl, bp, gp, hp, ra, off⟩ := rr
    refine ⟨fun q o h => ?_, fun q h => ?_, fun q h => ?_⟩
    · unfold tmpOf at h
      by_cases z : V.ref p = .ref q
      · simp only [z, if_true] at h; exact h
      · simp only [z, if_false] at h; cases h
    · unfold tmpOf at h
      by_cases z : V.ref p = .ref q
      · cases z; exact bp
      · simp only [z, if_false] at h; exact absurd rfl h
    · unfold tmpOf at h
      by_cases z : V.ref p = .ref q
      · cases z; exact off
      · simp only [z, if_false] at h; exact absurd rfl h
theorem RepR.keep {H1 : Hp} (rr : RepR C B env σ H v r) (x : Ex B B') (t : Tmp B' env' σ H1 (tmpOf v H r)) : RepR C B' env' σ H1 v r := by
  cases r with
  | val d => exact Rep.mono x rr
  | al i => exact rr
  | fr xs =>
    obtain ⟨p, vs, rfl, bp, gp, hp, ra, off⟩ := rr
    have hT : tmpOf (.ref p) H (.fr xs) p = some (.lst vs) := by unfold tmpOf; simp only [if_true]; exact hp
    have hn : tmpOf (.ref p) H (.fr xs) p ≠ none := by rw [hT]; exact fun z => nomatch z
    exact ⟨p, vs, rfl, t.nb p hn, gp, t.ex p _ hT, ra.mono x, t.off p hn⟩

/-! ### expressions -/
def eVar (i : Nat) : En → Option (R × En) := fun env => match env[i]? with
  | some (.sh d) => some (.val d, env)
  | some (.ow _) => some (.al i, env)
  | _ => none
theorem se_var {i : Nat} : SE K (tVar i) (eVar i) := by
  intro C hC B env σ H r env' s e Q hq
  unfold eVar at e
  cases q : env[i]? with
  | none => simp only [q] at e; cases e
  | some t =>
    have w := s.sl i t q
    simp only [q] at e
    cases t with
    | un => cases e
    | sh d =>
      cases e
      obtain ⟨v, e1, rv⟩ := w
      exact ⟨v, e1, hq v B H s (Ex.refl _) rv⟩
    | ow xs =>
      cases e
      obtain ⟨p, vs, e1, _⟩ := w
      exact ⟨.ref p, e1, hq _ B H s (Ex.refl _) e1⟩
def eC (d : D) : En → Option (R × En) := fun env => some (.val d, env)
theorem se_c {v : V} {d : D} (h : ∀ B, Rep K B v d) : SE K (tC v) (eC d) := by
  intro C hC B env σ H r env' s e Q hq
  cases e
  exact hq v B H s (Ex.refl _) (by rw [show RepR C B env σ H v (.val d) = Rep C.K B v d from rfl, hC]; exact h B)
theorem se_int {i : Int} : SE K (tC (.int i)) (eC (.int i)) := se_c fun _ => .int i
theorem se_str {i : Str} : SE K (tC (.str i)) (eC (.str i)) := se_c fun _ => .str i
theorem se_bl {b : Bool} : SE K (tC (.bl b)) (eC (.bl b)) := se_c fun _ => .bl b
theorem se_non : SE K (tC .non) (eC .non) := se_c fun _ => .non
theorem se_ref {a : Addr} : SE K (tC (.ref a)) (eC (.ref a)) := se_c fun _ => .ref a
theorem se_ty {a : String} : SE K (tC (.ty a)) (eC (.ty a)) := se_c fun _ => .ty a

/-- an operator on two values that are read: the answer a value of its own -/
def RO (K : PySem.W.Frag) (r2 : R2) (g : D → D → Option D) : Prop := ∀ (C : Ctx), C.K = K → ∀ (B : Hp) (env : En) (σ : L2.St) (H : Hp) (x y : V) (dx dy z : D), SR C B env σ H → RepK K B H x dx → RepK K B H y dy → g dx dy = some z → ∀ Q : VK, (∀ v B' H', SR C B' env σ H' → Ex B B' → Rep K B' v z → Q v H') → r2 x y H Q
/-- .. the answer a new list -/
def ROL (K : PySem.W.Frag) (r2 : R2) (g : D → D → Option (List D)) : Prop := ∀ (B H : Hp) (x y : V) (dx dy : D) (zs : List D), Ex B H → RepK K B H x dx → RepK K B H y dy → g dx dy = some zs → ∀ Q : VK, (∀ p vs, H p = none → RepAll K B vs zs → Q (.ref p) (upd H p (.lst vs))) → r2 x y H Q
/-- .. the answer a scalar, nothing made -/
def sc : D → Option V
  | .non => some .non
  | .bl b => some (.bl b)
  | .int i => some (.int i)
  | .str s => some (.str s)
  | .ref a => some (.ref a)
  | .ty n => some (.ty n)
  | _ => none
theorem sc_rep {v : V} {d : D} (h : sc d = some v) : Rep K B v d := by
  cases d <;> cases h <;> constructor
theorem rep_sc {v w : V} {d : D} (h : sc d = some v) (r : Rep K B w d) : w = v := by
  cases r <;> cases h <;> rfl
theorem repK_sc {v w : V} {d : D} (h : sc d = some v) (r : RepK K B H w d) : w = v := by
  rcases r with r | ⟨p, vs, xs, _, e, _⟩
  · exact rep_sc h r
  · subst e; cases h
def ROS (K : PySem.W.Frag) (r2 : R2) (g : D → D → Option D) : Prop := ∀ (B H : Hp) (x y : V) (dx dy z : D), Ex B H → RepK K B H x dx → RepK K B H y dy → g dx dy = some z → ∃ v, sc z = some v ∧ ∀ Q : VK, Q v H → r2 x y H Q
theorem ROS.ro {r2 : R2} {g : D → D → Option D} (h : ROS K r2 g) : RO K r2 g := by
  intro C hC B env σ H x y dx dy z s rx ry e Q hq
  obtain ⟨v, hz, k⟩ := h B H x y dx dy z s.exB rx ry e
  exact k Q (hq v B H s (Ex.refl _) (sc_rep hz))

/-- two operands, read at the end -/
theorem se_two (ha : SE K ta fa) (hb : SE K tb fb) (hC : C.K = K) (s : SR C B env σ H) {ra rb : R} {e1 e2 : En} (h1 : fa env = some (ra, e1)) (h2 : fb e1 = some (rb, e2)) {W : V → V → Hp → Prop}
    (hq : ∀ x y B' H', SR C B' e2 σ H' → Ex B B' → RepR C B' e2 σ H' x ra → RepR C B' e2 σ H' y rb → W x y H') : ta σ H fun x H1 => tb σ H1 fun y H2 => W x y H2 := by
  refine ha C hC B env σ H ra e1 s h1 _ fun x B1 H1 s1 x1 r1 => ?_
  refine hb.temp hC s1 h2 r1.tmp fun y B2 H2 s2 x2 r2 t2 _ => ?_
  exact hq x y B2 H2 s2 (x1.trans x2) (r1.keep x2 t2) r2

def eOp (g : D → D → Option D) (fa fb : En → Option (R × En)) : En → Option (R × En) := fun env =>
  (fa env).bind fun a => (fb a.2).bind fun b => (look b.2 a.1).bind fun x => (look b.2 b.1).bind fun y => (g x y).map fun z => (R.val z, b.2)
theorem se_op {r2 : R2} {g : D → D → Option D} (hr : RO K r2 g) (ha : SE K ta fa) (hb : SE K tb fb) : SE K (tOp r2 ta tb) (eOp g fa fb) := by
  intro C hC B env σ H r env' s e Q hq
  unfold eOp at e
  obtain ⟨⟨ra, e1⟩, h1, e⟩ := Option.bind_eq_some_iff.mp e
  obtain ⟨⟨rb, e2⟩, h2, e⟩ := Option.bind_eq_some_iff.mp e
  obtain ⟨dx, hx, e⟩ := Option.bind_eq_some_iff.mp e
  obtain ⟨dy, hy, e⟩ := Option.bind_eq_some_iff.mp e
  obtain ⟨z, hz, e⟩ := Option.map_eq_some_iff.mp e
  cases e
  refine se_two ha hb hC s h1 h2 fun x y B' H' s' x' r1 r2' => ?_
  have k1 := look_rep s' r1 hx
  have k2 := look_rep s' r2' hy
  rw [hC] at k1 k2
  refine hr C hC B' _ σ H' x y dx dy z s' k1 k2 hz Q fun v B2 H2 s2 x2 rv => hq v B2 H2 s2 (x'.trans x2) ?_
  rw [show RepR C B2 e2 σ H2 v (.val z) = Rep C.K B2 v z from rfl, hC]
  exact rv
def eOpL (g : D → D → Option (List D)) (fa fb : En → Option (R × En)) : En → Option (R × En) := fun env =>
  (fa env).bind fun a => (fb a.2).bind fun b => (look b.2 a.1).bind fun x => (look b.2 b.1).bind fun y => (g x y).map fun z => (R.fr z, b.2)
theorem se_opL {r2 : R2} {g : D → D → Option (List D)} (hr : ROL K r2 g) (ha : SE K ta fa) (hb : SE K tb fb) : SE K (tOp r2 ta tb) (eOpL g fa fb) := by
  intro C hC B env σ H r env' s e Q hq
  unfold eOpL at e
  obtain ⟨⟨ra, e1⟩, h1, e⟩ := Option.bind_eq_some_iff.mp e
  obtain ⟨⟨rb, e2⟩, h2, e⟩ := Option.bind_eq_some_iff.mp e
  obtain ⟨dx, hx, e⟩ := Option.bind_eq_some_iff.mp e
  obtain ⟨dy, hy, e⟩ := Option.bind_eq_some_iff.mp e
  obtain ⟨z, hz, e⟩ := Option.map_eq_some_iff.mp e
  cases e
  refine se_two ha hb hC s h1 h2 fun x y B' H' s' x' r1 r2' => ?_
  have k1 := look_rep s' r1 hx
  have k2 := look_rep s' r2' hy
  rw [hC] at k1 k2
  refine hr B' H' x y dx dy z s'.exB k1 k2 hz Q fun p vs hp ra => ?_
  refine hq (.ref p) B' _ (s'.temp hp) x' (s'.newL hp (by rw [hC]; exact ra))
/-- one operand -/
def eUn (g : D → Option D) (fa : En → Option (R × En)) : En → Option (R × En) := fun env =>
  (fa env).bind fun a => (look a.2 a.1).bind fun x => (g x).map fun z => (R.val z, a.2)
def RUS (K : PySem.W.Frag) (r1 : V → Hp → VK → Prop) (g : D → Option D) : Prop := ∀ (B H : Hp) (x : V) (dx z : D), Ex B H → RepK K B H x dx → g dx = some z → ∃ v, sc z = some v ∧ ∀ Q : VK, Q v H → r1 x H Q
theorem se_un {r1 : V → Hp → VK → Prop} {g : D → Option D} (hr : RUS K r1 g) (ha : SE K ta fa) : SE K (tUn r1 ta) (eUn g fa) := by
  intro C hC B env σ H r env' s e Q hq
  unfold eUn at e
  obtain ⟨⟨ra, e1⟩, h1, e⟩ := Option.bind_eq_some_iff.mp e
  obtain ⟨dx, hx, e⟩ := Option.bind_eq_some_iff.mp e
  obtain ⟨z, hz, e⟩ := Option.map_eq_some_iff.mp e
  cases e
  refine ha C hC B env σ H ra e1 s h1 _ fun x B1 H1 s1 x1 rr => ?_
  have k1 := look_rep s1 rr hx
  rw [hC] at k1
  obtain ⟨v, hv, k⟩ := hr B1 H1 x dx z s1.exB k1 hz
  exact k Q (hq v B1 H1 s1 x1 (sc_rep hv))
end
end Vm

set_option Elab.async false
set_option linter.all false
set_option maxRecDepth 100000
namespace Vm
open PySem PySem.Spec PyProof.Rows L2 Evl
section
variable {K : PySem.W.Frag} {C : Ctx} {B B' G H H' : Hp} {env env' : En} {σ : L2.St} {v : V} {r : R} {d : D} {ta tb te : TE} {fa fb fe : En → Option (R × En)} {f : En → Option (R × En)} {X : Cx}

/-! ### operators on ints -/
def dI (c : Int → Int → Bool) (g : Int → Int → D) : D → D → Option D
  | .int i, .int j => if c i j then some (g i j) else none
  | _, _ => none
theorem dI_some {c : Int → Int → Bool} {g : Int → Int → D} {x y z : D} (h : dI c g x y = some z) : ∃ i j, x = .int i ∧ y = .int j ∧ c i j = true ∧ z = g i j := by
  unfold dI at h
  split at h
  · split at h
    · cases h
      exact ⟨_, _, rfl, rfl, by assumption, rfl⟩
    · cases h
  · cases h
theorem ros_I {Cd : Int → Int → Prop} {gv : Int → Int → V} {c : Int → Int → Bool} {g : Int → Int → D} (hc : ∀ i j, c i j = true → Cd i j) (hs : ∀ i j, sc (g i j) = some (gv i j)) : ROS K (rI Cd gv) (dI c g) := by
  intro B H x y dx dy z e rx ry h
  obtain ⟨i, j, rfl, rfl, hcc, rfl⟩ := dI_some h
  exact ⟨_, hs i j, fun Q q => ⟨i, j, rx.int, ry.int, hc i j hcc, q⟩⟩
theorem ros_I0 {gv : Int → Int → V} {g : Int → Int → D} (hs : ∀ i j, sc (g i j) = some (gv i j)) : ROS K (rI0 gv) (dI (fun _ _ => true) g) := by
  intro B H x y dx dy z e rx ry h
  obtain ⟨i, j, rfl, rfl, hcc, rfl⟩ := dI_some h
  exact ⟨_, hs i j, fun Q q => ⟨i, j, rx.int, ry.int, q⟩⟩
def yes2 : Int → Int → Bool := fun _ _ => true
def dAdd : D → D → Option D := dI yes2 fun i j => .int (i + j)
def dSub : D → D → Option D := dI yes2 fun i j => .int (i - j)
instance (i j : Int) : Decidable (CMul i j) := by unfold CMul; infer_instance
instance (i j : Int) : Decidable (CMulX i j) := by unfold CMulX; infer_instance
def CMulA (i j : Int) : Prop := CMul i j ∨ CMulX i j
instance (i j : Int) : Decidable (CMulA i j) := by unfold CMulA; infer_instance
def dMul : D → D → Option D := dI (fun i j => decide (CMulA i j)) fun i j => .int (i * j)
instance (i j : Int) : Decidable (CDivN i j) := by unfold CDivN; infer_instance
instance (i j : Int) : Decidable (CDivW i j) := by unfold CDivW; infer_instance
def CDivA (i j : Int) : Prop := CDivN i j ∨ CDivW i j
instance (i j : Int) : Decidable (CDivA i j) := by unfold CDivA; infer_instance
def dFdiv : D → D → Option D := dI (fun i j => decide (CDivA i j)) fun i j => .int (i.fdiv j)
def dMod : D → D → Option D := dI (fun _ j => decide (j ≠ 0)) fun i j => .int (i.fmod j)
def CPowA (i j : Int) : Prop := 0 ≤ j ∧ (Builtin.Int.intBits i : Int) * j ≤ 2 ^ 27
instance (i j : Int) : Decidable (CPowA i j) := by unfold CPowA; infer_instance
def dPow : D → D → Option D := dI (fun i j => decide (CPowA i j)) fun i j => .int (i ^ j.toNat)
def dLt : D → D → Option D := dI yes2 fun i j => .bl (decide (i < j))
def dLe : D → D → Option D := dI yes2 fun i j => .bl (decide (i ≤ j))
def dGt : D → D → Option D := dI yes2 fun i j => .bl (decide (j < i))
def dGe : D → D → Option D := dI yes2 fun i j => .bl (decide (j ≤ i))
theorem op_mulA : OpR X (binaryOp .Mult) (rI CMulA fun i j => .int (i * j)) := opI fun _ _ _ _ _ _ _ hc q => mul_int q (by
  rcases hc with h | h
  · exact CMul.ok h
  · exact CMulX.ok h)
theorem op_powA : OpR X (binaryOp .Pow) (rI CPowA fun i j => .int (i ^ j.toNat)) := opI fun _ _ _ _ _ _ _ hc q => PyProof.Rows.pow_int hc.1 hc.2 q
theorem ro_add : RO K (rI0 fun i j => .int (i + j)) dAdd := (ros_I0 fun _ _ => rfl).ro
theorem ro_sub : RO K (rI0 fun i j => .int (i - j)) dSub := (ros_I0 fun _ _ => rfl).ro
theorem ro_mul : RO K (rI CMulA fun i j => .int (i * j)) dMul := (ros_I (fun _ _ h => of_decide_eq_true h) fun _ _ => rfl).ro
theorem op_fdivA : OpR X (binaryOp .FloorDiv) (rI CDivA fun i j => .int (i.fdiv j)) := opI fun i j _ _ _ _ _ hd q => by
  rcases hd with hd | hd
  · exact floordiv_int hd.1 q (.inl (PyProof.noPylong_small hd.2))
  · have pos : (0 : Int) < j := hd.1
    exact floordiv_int (fun z => by rw [z] at pos; cases pos) q (.inl (PyProof.noPylong_of_log2 hd.2))
theorem ro_fdiv : RO K (rI CDivA fun i j => .int (i.fdiv j)) dFdiv := (ros_I (fun _ _ h => of_decide_eq_true h) fun _ _ => rfl).ro
theorem ro_mod : RO K (rI (fun _ j => j ≠ 0) fun i j => .int (i.fmod j)) dMod := (ros_I (fun _ _ h => of_decide_eq_true h) fun _ _ => rfl).ro
theorem ro_pow : RO K (rI CPowA fun i j => .int (i ^ j.toNat)) dPow := (ros_I (fun _ _ h => of_decide_eq_true h) fun _ _ => rfl).ro
theorem ro_lt : RO K (rI0 fun i j => .bl (decide (i < j))) dLt := (ros_I0 fun _ _ => rfl).ro
theorem ro_le : RO K (rI0 fun i j => .bl (decide (i ≤ j))) dLe := (ros_I0 fun _ _ => rfl).ro
theorem ro_gt : RO K (rI0 fun i j => .bl (decide (j < i))) dGt := (ros_I0 fun _ _ => rfl).ro
theorem ro_ge : RO K (rI0 fun i j => .bl (decide (j ≤ i))) dGe := (ros_I0 fun _ _ => rfl).ro

/-! ### lists and texts by + and * -/
def dCat : D → D → Option (List D)
  | .lst xs, .lst ys => if xs.length + ys.length ≤ sizeLine then some (xs ++ ys) else none
  | _, _ => none
theorem rol_cat : ROL K rCat dCat := by
  intro B H x y dx dy zs e rx ry h Q q
  unfold dCat at h
  split at h
  · split at h
    · cases h
      obtain ⟨a, vs, rfl, h1, h2⟩ := rx.list e
      obtain ⟨b, ws, rfl, h3, h4⟩ := ry.list e
      refine ⟨a, b, vs, ws, rfl, rfl, h1, h3, ?_, fun p hp => q p _ hp (h2.append h4)⟩
      rw [h2.length, h4.length]
      assumption
    · cases h
  · cases h
def dRep : D → D → Option (List D)
  | .lst xs, .int k => if k < 2 ^ 63 ∧ -(2 ^ 63) ≤ k ∧ xs.length * k.toNat ≤ sizeLine then some (List.replicate k.toNat xs).flatten else none
  | _, _ => none
theorem repAll_flat {vs : List V} {xs : List D} (h : RepAll K B vs xs) : ∀ n : Nat, RepAll K B (List.replicate n vs).flatten (List.replicate n xs).flatten
  | 0 => .nil
  | n + 1 => by
    rw [List.replicate_succ, List.replicate_succ, List.flatten_cons, List.flatten_cons]
    exact h.append (repAll_flat h n)
theorem rol_rep : ROL K rRep dRep := by
  intro B H x y dx dy zs e rx ry h Q q
  unfold dRep at h
  split at h
  · split at h
    · cases h
      obtain ⟨a, vs, rfl, h1, h2⟩ := rx.list e
      rename_i k hk
      obtain ⟨k1, k2, k3⟩ := hk
      exact ⟨a, k, vs, rfl, ry.int, h1, k2, k1, by rw [h2.length]; exact k3, fun p hp => q p _ hp (repAll_flat h2 _)⟩
    · cases h
  · cases h
def rAddS : R2 := fun x y H Q => ∃ i j, x = .str i ∧ y = .str j ∧ i.length + j.length ≤ sizeLine ∧ Q (.str (i ++ j)) H
def dAddS : D → D → Option D
  | .str i, .str j => if i.length + j.length ≤ sizeLine then some (.str (i ++ j)) else none
  | _, _ => none
theorem ro_addS : RO K rAddS dAddS := ROS.ro (by
  intro B H x y dx dy z e rx ry h
  unfold dAddS at h
  split at h
  · split at h
    · cases h
      exact ⟨_, rfl, fun Q q => ⟨_, _, rx.str, ry.str, by assumption, q⟩⟩
    · cases h
  · cases h)

/-! ### subscripts -/
def ixD {α : Type} (xs : List α) (i : Int) : Option α := atI xs i
theorem repAll_at {vs : List V} {xs : List D} {i : Int} {d : D} (h : RepAll K B vs xs) (e : atI xs i = some d) : ∃ v, atI vs i = some v ∧ Rep K B v d := by
  unfold atI at e ⊢
  rw [h.length]
  cases q : ixN xs.length i with
  | none => rw [q] at e; cases e
  | some j =>
    rw [q] at e
    exact h.get e
def dIx : D → D → Option D
  | .lst xs, .int i => atI xs i
  | .tup xs, .int i => atI xs i
  | .scr ns, .int i => (atI ns i).map D.int
  | .str z, .int i => if z.length ≤ sizeLine then (atI z.cps.toList i).map fun c => .str ⟨#[c]⟩ else none
  | _, _ => none
theorem atI_map {α β : Type} (g : α → β) (xs : List α) (i : Int) : atI (xs.map g) i = (atI xs i).map g := by
  unfold atI
  rw [List.length_map]
  cases ixN xs.length i with
  | none => rfl
  | some j =>
    show (xs.map g)[j]? = (xs[j]?).map g
    rw [List.getElem?_map]
theorem Rep.script {v : V} {ns : List Int} (h : Rep K B v (.scr ns)) : ∃ a, v = .ref a ∧ SqL K B a (ns.map V.int) := by
  cases h with
  | scr h => exact ⟨_, rfl, h⟩
theorem ro_ix : RO K (rIx K) dIx := by
  intro C hC B env σ H x y dx dy z s rx ry h Q hq
  subst hC
  unfold dIx at h
  split at h
  · obtain ⟨a, vs, rfl, h1, h2⟩ := rx.list s.exB
    obtain ⟨w, e1, r1⟩ := repAll_at h2 h
    exact .inl ⟨a, vs, _, w, rfl, ry.int, sq_of h1, e1, hq w B H s (Ex.refl _) r1⟩
  · obtain ⟨a, vs, rfl, h1, h2⟩ := (rx.scal fun _ z => by cases z).tuple
    obtain ⟨w, e1, r1⟩ := repAll_at h2 h
    exact .inr (.inl ⟨a, vs, _, w, rfl, ry.int, ex_t s.exB h1, e1, hq w B H s (Ex.refl _) r1⟩)
  · obtain ⟨a, rfl, h1⟩ := (rx.scal fun _ z => by cases z).script
    obtain ⟨n, e1, rfl⟩ := Option.map_eq_some_iff.mp h
    exact .inl ⟨a, _, _, .int n, rfl, ry.int, ex_l s.exB h1, by rw [atI_map, e1]; rfl, hq _ B H s (Ex.refl _) (.int n)⟩
  · split at h
    · obtain ⟨n, e1, rfl⟩ := Option.map_eq_some_iff.mp h
      exact .inr (.inr ⟨_, _, n, rx.str, ry.int, by assumption, e1, hq _ B H s (Ex.refl _) (.str _)⟩)
    · cases h
  · cases h

/-! ### is None, in, == -/
def dIsN : D → D → Option D
  | .non, .non => some (.bl true)
  | _, .non => some (.bl false)
  | _, _ => none
theorem rep_non {v : V} {d : D} (h : RepK K B H v d) : decide (v = .non) = match d with | .non => true | _ => false := by
  rcases h with h | ⟨p, vs, xs, rfl, rfl, _⟩
  · cases h <;> rfl
  · rfl
def rIsNone : R2 := fun x y H Q => y = .non ∧ Q (.bl (decide (x = .non))) H
def rNotNone : R2 := fun x y H Q => y = .non ∧ Q (.bl (!decide (x = .non))) H
theorem ros_isN : ROS K rIsNone dIsN := by
  intro B H x y dx dy z e rx ry h
  unfold dIsN at h
  have q := rep_non rx
  split at h
  · cases h
    exact ⟨_, rfl, fun Q k => ⟨ry.non, by rw [q]; exact k⟩⟩
  · cases h
    rename_i hne
    refine ⟨_, rfl, fun Q k => ⟨ry.non, ?_⟩⟩
    have : decide (x = V.non) = false := by
      rw [q]
      cases dx with
      | non => exact absurd rfl (fun z => hne z)
      | _ => rfl
    rw [this]
    exact k
  · cases h
def dNotN : D → D → Option D
  | .non, .non => some (.bl false)
  | _, .non => some (.bl true)
  | _, _ => none
theorem ros_notN : ROS K rNotNone dNotN := by
  intro B H x y dx dy z e rx ry h
  unfold dNotN at h
  have q := rep_non rx
  split at h
  · cases h
    exact ⟨_, rfl, fun Q k => ⟨ry.non, by rw [q]; exact k⟩⟩
  · cases h
    rename_i hne
    refine ⟨_, rfl, fun Q k => ⟨ry.non, ?_⟩⟩
    have : decide (x = V.non) = false := by
      rw [q]
      cases dx with
      | non => exact absurd rfl (fun z => hne z)
      | _ => rfl
    rw [this]
    exact k
  · cases h
theorem ro_isN : RO K rIsNone dIsN := ros_isN.ro
theorem ro_notN : RO K rNotNone dNotN := ros_notN.ro

def flatD : D → Bool
  | .non => true | .bl _ => true | .int _ => true | .str _ => true
  | _ => false
/-- == of flat values -/
def eqF : D → D → Bool
  | .non, .non => true
  | .bl a, .bl b => a == b
  | .bl a, .int b => (if a then 1 else 0) == b
  | .int a, .bl b => a == (if b then 1 else 0)
  | .int a, .int b => a == b
  | .str a, .str b => a == b
  | _, _ => false
theorem flat_rep {v : V} {d : D} (h : Rep K B v d) (f : flatD d = true) : flatV v = true := by
  cases h <;> first | rfl | cases f
theorem eqF_rep {v w : V} {d e : D} (h : Rep K B v d) (g : Rep K B' w e) (f : flatD d = true) (f' : flatD e = true) : eqV v w = eqF d e := by
  cases h <;> first | (cases f; done) | (cases g <;> first | rfl | (cases f'; done))
theorem flat_all : ∀ {vs : List V} {xs : List D}, RepAll K B vs xs → xs.all flatD = true → vs.all flatV = true
  | _, _, .nil, _ => rfl
  | _, _, .cons a t, h => by
    rw [List.all_cons, Bool.and_eq_true] at h ⊢
    exact ⟨flat_rep a h.1, flat_all t h.2⟩
theorem any_rep {v : V} {d : D} (r : Rep K B v d) (fd : flatD d = true) : ∀ {vs : List V} {xs : List D}, RepAll K B vs xs → xs.all flatD = true → inV v vs = xs.any fun y => eqF y d
  | _, _, .nil, _ => rfl
  | _, _, .cons a t, h => by
    rw [List.all_cons, Bool.and_eq_true] at h
    have e2 := any_rep r fd t h.2
    have e1 := eqF_rep a r h.1 fd
    unfold inV at e2 ⊢
    rw [List.any_cons, List.any_cons, e1, e2]
def dIn (neg : Bool) : D → D → Option D
  | d, .lst xs => if flatD d && xs.all flatD then some (.bl (if neg then !xs.any (fun y => eqF y d) else xs.any fun y => eqF y d)) else none
  | d, .tup xs => if flatD d && xs.all flatD then some (.bl (if neg then !xs.any (fun y => eqF y d) else xs.any fun y => eqF y d)) else none
  | _, _ => none
theorem flat_scal {d : D} (h : flatD d = true) : ∀ xs, d ≠ .lst xs := fun xs z => by subst z; cases h
theorem ros_in (neg : Bool) : ROS K (rIn K neg) (dIn neg) := by
  intro B H x y dx dy z e rx ry h
  unfold dIn at h
  split at h
  · split at h
    · cases h
      rename_i hf
      rw [Bool.and_eq_true] at hf
      obtain ⟨a, vs, rfl, h1, h2⟩ := ry.list e
      have r := rx.scal (flat_scal hf.1)
      refine ⟨_, rfl, fun Q k => ⟨a, vs, rfl, .inl (sq_of h1), flat_rep r hf.1, flat_all h2 hf.2, ?_⟩⟩
      rw [any_rep r hf.1 h2 hf.2]
      exact k
    · cases h
  · split at h
    · cases h
      rename_i hf
      rw [Bool.and_eq_true] at hf
      obtain ⟨a, vs, rfl, h1, h2⟩ := (ry.scal fun _ z => by cases z).tuple
      have r := rx.scal (flat_scal hf.1)
      refine ⟨_, rfl, fun Q k => ⟨a, vs, rfl, .inr (ex_t e h1), flat_rep r hf.1, flat_all h2 hf.2, ?_⟩⟩
      rw [any_rep r hf.1 h2 hf.2]
      exact k
    · cases h
  · cases h
theorem ro_in {neg : Bool} : RO K (rIn K neg) (dIn neg) := (ros_in neg).ro

/-! ### data -/
mutual
def toPy : D → Option PyData
  | .non => some .none
  | .bl b => some (.bool b)
  | .int i => some (.int i)
  | .str s => some (.str s)
  | .lst xs => (toPyAll xs).map .list
  | .tup xs => (toPyAll xs).map .tuple
  | .scr ns => some (.list (ns.map .int))
  | _ => none
def toPyAll : List D → Option (List PyData)
  | [] => some []
  | x :: xs => (toPy x).bind fun y => (toPyAll xs).map fun ys => y :: ys
end
theorem dpAll_ints : ∀ ns : List Int, DpAll K H (ns.map V.int) (ns.map PyData.int)
  | [] => .nil
  | n :: ns => .cons (.int n) (dpAll_ints ns)
mutual
theorem Rep.dp {v : V} {d : D} {p : PyData} (h : Rep K H v d) (e : toPy d = some p) : Dp K H v p := by
  cases h with
  | non => unfold toPy at e; cases e; exact .non
  | bl b => unfold toPy at e; cases e; exact .bl b
  | int i => unfold toPy at e; cases e; exact .int i
  | str x => unfold toPy at e; cases e; exact .str x
  | ref a => unfold toPy at e; cases e
  | ty n => unfold toPy at e; cases e
  | fn n => unfold toPy at e; cases e
  | lst h1 h2 =>
    unfold toPy at e
    obtain ⟨ps, e1, rfl⟩ := Option.map_eq_some_iff.mp e
    exact .lst (sq_of h1) (RepAll.dp h2 e1)
  | tup h1 h2 =>
    unfold toPy at e
    obtain ⟨ps, e1, rfl⟩ := Option.map_eq_some_iff.mp e
    exact .tup h1 (RepAll.dp h2 e1)
  | dct h1 h2 => unfold toPy at e; cases e
  | scr h1 =>
    unfold toPy at e
    cases e
    exact .lst h1 (dpAll_ints _)
theorem RepAll.dp {vs : List V} {xs : List D} {ps : List PyData} (h : RepAll K H vs xs) (e : toPyAll xs = some ps) : DpAll K H vs ps := by
  cases h with
  | nil => unfold toPyAll at e; cases e; exact .nil
  | cons h1 h2 =>
    unfold toPyAll at e
    obtain ⟨p, e1, e⟩ := Option.bind_eq_some_iff.mp e
    obtain ⟨qs, e2, rfl⟩ := Option.map_eq_some_iff.mp e
    exact .cons (Rep.dp h1 e1) (RepAll.dp h2 e2)
end
def eqD (x y : D) : Option Bool := (toPy x).bind fun a => (toPy y).bind fun b => if SeqAt.shaped a && SeqAt.shaped b then some (PyData.eqv a b) else none
def dEq (x y : D) : Option D := (eqD x y).map fun b => .bl b
def dNe (x y : D) : Option D := (eqD x y).map fun b => .bl (!b)
theorem eqD_some {x y : D} {b : Bool} (h : eqD x y = some b) : ∃ p q, toPy x = some p ∧ toPy y = some q ∧ SeqAt.shaped p = true ∧ SeqAt.shaped q = true ∧ b = PyData.eqv p q := by
  unfold eqD at h
  obtain ⟨p, e1, h1⟩ := Option.bind_eq_some_iff.mp h
  obtain ⟨q, e2, h2⟩ := Option.bind_eq_some_iff.mp h1
  split at h2
  · rename_i hf
    cases h2
    rw [Bool.and_eq_true] at hf
    exact ⟨p, q, e1, e2, hf.1, hf.2, rfl⟩
  · cases h2
theorem ro_eq : RO K (rEqD K) dEq := ROS.ro (by
  intro B H x y dx dy z e rx ry h
  obtain ⟨b, h', rfl⟩ := Option.map_eq_some_iff.mp h
  obtain ⟨p, q, e1, e2, s1, s2, rfl⟩ := eqD_some h'
  exact ⟨_, rfl, fun Q k => ⟨p, q, (rx.rep e).dp e1, (ry.rep e).dp e2, s1, s2, k⟩⟩)
theorem ro_ne : RO K (rNeD K) dNe := ROS.ro (by
  intro B H x y dx dy z e rx ry h
  obtain ⟨b, h', rfl⟩ := Option.map_eq_some_iff.mp h
  obtain ⟨p, q, e1, e2, s1, s2, rfl⟩ := eqD_some h'
  exact ⟨_, rfl, fun Q k => ⟨p, q, (rx.rep e).dp e1, (ry.rep e).dp e2, s1, s2, k⟩⟩)

/-! ### tests -/
def bTest (f : En → Option (R × En)) : En → Option (Bool × En) := fun env => (f env).bind fun a => match a.1 with
  | .val (.bl b) => some (b, a.2)
  | _ => none
theorem bTest_some {e1 : En} {b : Bool} (h : bTest f env = some (b, e1)) : f env = some (.val (.bl b), e1) := by
  unfold bTest at h
  obtain ⟨⟨a, e2⟩, h1, h⟩ := Option.bind_eq_some_iff.mp h
  split at h
  · cases h
    rename_i q
    simp only at q
    rw [h1, q]
  · cases h
theorem rep_bl {v : V} {b : Bool} (h : Rep K B v (.bl b)) : v = .bl b := by
  cases h
  rfl
theorem st_test (h : SE K te f) : ST K (tTest te) (bTest f) := by
  intro C hC B env σ H b env' s e Q hq
  refine h C hC B env σ H _ env' s (bTest_some e) _ fun v B' H' s' x rr => ?_
  exact ⟨b, rep_bl rr, hq B' H' s' x⟩
theorem st_B (h : SE K te f) : ST K (tB te) (bTest f) := by
  intro C hC B env σ H b env' s e Q hq
  refine h C hC B env σ H _ env' s (bTest_some e) _ fun v B' H' s' x rr => ?_
  exact ⟨b, rep_bl rr, hq B' H' s' x⟩
variable {tt tu : TT} {g k : En → Option (Bool × En)}
def bAnd (g k : En → Option (Bool × En)) : En → Option (Bool × En) := fun env => (g env).bind fun a => if a.1 then k a.2 else some (false, a.2)
def bOr (g k : En → Option (Bool × En)) : En → Option (Bool × En) := fun env => (g env).bind fun a => if a.1 then some (true, a.2) else k a.2
def bNot (g : En → Option (Bool × En)) : En → Option (Bool × En) := fun env => (g env).map fun a => (!a.1, a.2)
theorem st_and (h1 : ST K tt g) (h2 : ST K tu k) : ST K (tAnd tt tu) (bAnd g k) := by
  intro C hC B env σ H b env' s e Q hq
  obtain ⟨⟨c, e1⟩, h, e⟩ := Option.bind_eq_some_iff.mp e
  refine h1 C hC B env σ H c e1 s h _ fun B' H' s' x => ?_
  cases c with
  | true =>
    show tu σ H' Q
    exact h2 C hC B' e1 σ H' b env' s' e Q fun B2 H2 s2 x2 => hq B2 H2 s2 (x.trans x2)
  | false =>
    cases e
    exact hq B' H' s' x
theorem st_or (h1 : ST K tt g) (h2 : ST K tu k) : ST K (tOr tt tu) (bOr g k) := by
  intro C hC B env σ H b env' s e Q hq
  obtain ⟨⟨c, e1⟩, h, e⟩ := Option.bind_eq_some_iff.mp e
  refine h1 C hC B env σ H c e1 s h _ fun B' H' s' x => ?_
  cases c with
  | false =>
    show tu σ H' Q
    exact h2 C hC B' e1 σ H' b env' s' e Q fun B2 H2 s2 x2 => hq B2 H2 s2 (x.trans x2)
  | true =>
    cases e
    exact hq B' H' s' x
theorem st_not (h1 : ST K tt g) : ST K (tNot tt) (bNot g) := by
  intro C hC B env σ H b env' s e Q hq
  obtain ⟨⟨c, e1⟩, h, e⟩ := Option.map_eq_some_iff.mp e
  cases e
  exact h1 C hC B env σ H c e1 s h _ fun B' H' s' x => hq B' H' s' x
/-- the same as values -/
def eAnd (fa fb : En → Option (R × En)) : En → Option (R × En) := fun env => (bTest fa env).bind fun a => if a.1 then fb a.2 else some (.val (.bl false), a.2)
def eOr (fa fb : En → Option (R × En)) : En → Option (R × En) := fun env => (bTest fa env).bind fun a => if a.1 then some (.val (.bl true), a.2) else fb a.2
def eNot (fa : En → Option (R × En)) : En → Option (R × En) := fun env => (bTest fa env).map fun a => (.val (.bl (!a.1)), a.2)
theorem se_and (h1 : SE K ta fa) (h2 : SE K tb fb) : SE K (tAndV ta tb) (eAnd fa fb) := by
  intro C hC B env σ H r env' s e Q hq
  obtain ⟨⟨c, e1⟩, h, e⟩ := Option.bind_eq_some_iff.mp e
  refine h1 C hC B env σ H _ e1 s (bTest_some h) _ fun v B' H' s' x rr => ⟨c, rep_bl rr, ?_⟩
  cases c with
  | true =>
    show tb σ H' Q
    exact h2 C hC B' e1 σ H' r env' s' e Q fun v2 B2 H2 s2 x2 r2 => hq v2 B2 H2 s2 (x.trans x2) r2
  | false =>
    cases e
    exact hq _ B' H' s' x (.bl false)
theorem se_or (h1 : SE K ta fa) (h2 : SE K tb fb) : SE K (tOrV ta tb) (eOr fa fb) := by
  intro C hC B env σ H r env' s e Q hq
  obtain ⟨⟨c, e1⟩, h, e⟩ := Option.bind_eq_some_iff.mp e
  refine h1 C hC B env σ H _ e1 s (bTest_some h) _ fun v B' H' s' x rr => ⟨c, rep_bl rr, ?_⟩
  cases c with
  | false =>
    show tb σ H' Q
    exact h2 C hC B' e1 σ H' r env' s' e Q fun v2 B2 H2 s2 x2 r2 => hq v2 B2 H2 s2 (x.trans x2) r2
  | true =>
    cases e
    exact hq _ B' H' s' x (.bl true)
theorem se_not (h1 : SE K ta fa) : SE K (tNotV ta) (eNot fa) := by
  intro C hC B env σ H r env' s e Q hq
  obtain ⟨⟨c, e1⟩, h, e⟩ := Option.map_eq_some_iff.mp e
  cases e
  exact h1 C hC B env σ H _ e1 s (bTest_some h) _ fun v B' H' s' x rr => ⟨c, rep_bl rr, hq _ B' H' s' x (.bl _)⟩
def eIf (g : En → Option (Bool × En)) (fa fb : En → Option (R × En)) : En → Option (R × En) := fun env => (g env).bind fun a => if a.1 then fa a.2 else fb a.2
theorem se_if (h : ST K tt g) (h1 : SE K ta fa) (h2 : SE K tb fb) : SE K (tIf tt ta tb) (eIf g fa fb) := by
  intro C hC B env σ H r env' s e Q hq
  obtain ⟨⟨c, e1⟩, hg, e⟩ := Option.bind_eq_some_iff.mp e
  refine h C hC B env σ H c e1 s hg _ fun B' H' s' x => ?_
  cases c with
  | true =>
    show ta σ H' Q
    exact h1 C hC B' e1 σ H' r env' s' e Q fun v2 B2 H2 s2 x2 r2 => hq v2 B2 H2 s2 (x.trans x2) r2
  | false =>
    show tb σ H' Q
    exact h2 C hC B' e1 σ H' r env' s' e Q fun v2 B2 H2 s2 x2 r2 => hq v2 B2 H2 s2 (x.trans x2) r2
end
end Vm

set_option Elab.async false
set_option linter.all false
set_option maxRecDepth 100000
namespace Vm
open PySem PySem.Spec PyProof.Rows L2 Evl
section
variable {K : PySem.W.Frag} {C : Ctx} {B B' G H H' : Hp} {env env' : En} {σ : L2.St} {v : V} {r : R} {d : D} {ta tb te : TE} {fa fb fe : En → Option (R × En)} {f : En → Option (R × En)} {X : Cx}

/-! ### argument lists -/
def RepRs (C : Ctx) (B : Hp) (env : En) (σ : L2.St) (H : Hp) : List V → List R → Prop
  | [], [] => True
  | v :: vs, r :: rs => RepR C B env σ H v r ∧ RepRs C B env σ H vs rs
  | _, _ => False
def SA (K : PySem.W.Frag) (t : TA) (f : En → Option (List R × En)) : Prop :=
  ∀ C : Ctx, C.K = K → ∀ (B : Hp) (env : En) (σ : L2.St) (H : Hp) (r : List R) (env' : En), SR C B env σ H → f env = some (r, env') →
    ∀ Q : List V → Hp → Prop, (∀ v B' H', SR C B' env' σ H' → Ex B B' → RepRs C B' env' σ H' v r → Q v H') → t σ H Q
theorem RepRs.minus {T : Hp} : ∀ {vs : List V} {rs : List R}, RepRs (C.plus T) B env σ H vs rs → RepRs C B env σ H vs rs
  | [], [], h => h
  | v :: vs, r :: rs, ⟨h1, h2⟩ => ⟨by
      cases r with
      | val d => exact h1
      | al i => exact h1
      | fr xs =>
        obtain ⟨p, vs, rfl, bp, gp, hp, ra, off⟩ := h1
        exact ⟨p, vs, rfl, bp, (join_none gp).1, hp, ra, off⟩, RepRs.minus h2⟩
  | [], _ :: _, h => h.elim
  | _ :: _, [], h => h.elim
theorem SA.temp {ta : TA} {f : En → Option (List R × En)} {rs : List R} (h : SA K ta f) (hC : C.K = K) (s : SR C B env σ H) (e : f env = some (rs, env')) {T : Hp} (t : Tmp B env σ H T) {Q : List V → Hp → Prop}
    (hq : ∀ v B' H', SR C B' env' σ H' → Ex B B' → RepRs C B' env' σ H' v rs → Tmp B' env' σ H' T → Q v H') : ta σ H Q := by
  refine h (C.plus T) hC B env σ H rs env' (s.plus t) e Q fun v B' H' s' x rr => ?_
  obtain ⟨s1, t1⟩ := SR.minus s.exG t.ex t.nb x s' s.ex0
  exact hq v B' H' s1 x rr.minus t1
def aNil : En → Option (List R × En) := fun env => some ([], env)
def aCons (fa : En → Option (R × En)) (fr : En → Option (List R × En)) : En → Option (List R × En) := fun env => (fa env).bind fun a => (fr a.2).map fun b => (a.1 :: b.1, b.2)
theorem sa_nil : SA K tNil aNil := by
  intro C hC B env σ H r env' s e Q hq
  cases e
  exact hq [] B H s (Ex.refl _) trivial
theorem sa_cons {tr : TA} {fr : En → Option (List R × En)} (ha : SE K ta fa) (hr : SA K tr fr) : SA K (tCons ta tr) (aCons fa fr) := by
  intro C hC B env σ H r env' s e Q hq
  obtain ⟨⟨ra, e1⟩, h1, e⟩ := Option.bind_eq_some_iff.mp e
  obtain ⟨⟨rs, e2⟩, h2, e⟩ := Option.map_eq_some_iff.mp e
  cases e
  refine ha C hC B env σ H ra e1 s h1 _ fun x B1 H1 s1 x1 r1 => ?_
  refine hr.temp hC s1 h2 r1.tmp fun ys B2 H2 s2 x2 r2 t2 => ?_
  exact hq (x :: ys) B2 H2 s2 (x1.trans x2) ⟨r1.keep x2 t2, r2⟩

/-- what may still be made data -/
def RepW (C : Ctx) (B : Hp) (env : En) (σ : L2.St) (H : Hp) (v : V) : R → Prop
  | .val d => Rep C.K B v d
  | .al i => σ[i]? = some (some v)
  | .fr xs => ∃ p vs, v = .ref p ∧ H p = some (.lst vs) ∧ RepAll C.K B vs xs ∧ (B p = some (.lst vs) ∨ (B p = none ∧ C.G p = none ∧ Off env σ p))
theorem RepR.w (h : RepR C B env σ H v r) : RepW C B env σ H v r := by
  cases r with
  | val d => exact h
  | al i => exact h
  | fr xs =>
    obtain ⟨p, vs, rfl, bp, gp, hp, ra, off⟩ := h
    exact ⟨p, vs, rfl, hp, ra, .inr ⟨bp, gp, off⟩⟩
theorem frz_off {q : Addr} (e : frz env r = some (d, env')) (o : Off env σ q) : Off env' σ q := by
  cases r with
  | val x => cases e; exact o
  | fr xs => cases e; exact o
  | al i =>
    unfold frz at e
    cases z : env[i]? with
    | none => simp only [z] at e; cases e
    | some t =>
      simp only [z] at e
      cases t with
      | un => cases e
      | sh x => cases e; exact o
      | ow xs =>
        cases e
        intro j ys h1 h2
        by_cases hj : i = j
        · subst hj
          by_cases hl : i < env.length
          · rw [List.getElem?_set_self hl] at h1
            cases h1
          · rw [List.getElem?_eq_none (by rw [List.length_set]; omega)] at h1
            cases h1
        · rw [List.getElem?_set_ne hj] at h1
          exact o j ys h1 h2
theorem frz_w (s : SR C B env σ H) (h : RepW C B env σ H v r) (e : frz env r = some (d, env')) : ∃ B', SR C B' env' σ H ∧ Ex B B' ∧ Rep C.K B' v d ∧ ∀ q, B' q = B q ∨ B' q = H q := by
  cases r with
  | val x =>
    cases e
    exact ⟨B, s, Ex.refl _, h, fun _ => .inl rfl⟩
  | fr xs =>
    cases e
    obtain ⟨p, vs, rfl, hp, ra, hb | ⟨bp, gp, off⟩⟩ := h
    · exact ⟨B, s, Ex.refl _, .lst hb ra, fun _ => .inl rfl⟩
    · refine ⟨_, s.take bp gp hp off, Ex.new bp, .lst upd_same (ra.mono (Ex.new bp)), fun q => ?_⟩
      by_cases z : q = p
      · subst z; rw [upd_same]; exact .inr hp.symm
      · rw [upd_ne z]; exact .inl rfl
  | al i =>
    have h : σ[i]? = some (some v) := h
    unfold frz at e
    cases q : env[i]? with
    | none => simp only [q] at e; cases e
    | some t =>
      have w := s.sl i t q
      simp only [q] at e
      cases t with
      | un => cases e
      | sh x =>
        cases e
        obtain ⟨u, e1, ru⟩ := w
        rw [h] at e1
        cases e1
        exact ⟨B, s, Ex.refl _, ru, fun _ => .inl rfl⟩
      | ow xs =>
        cases e
        obtain ⟨p, vs, e1, bp, gp, hp, ra⟩ := w
        rw [h] at e1
        cases e1
        have s1 : SR C B (env.set i .un) σ H := s.reslot (fun xs z => by cases z) trivial
        have off : Off (env.set i .un) σ p := fun j ys e2 e3 => by
          by_cases hj : i = j
          · subst hj
            by_cases hl : i < env.length
            · rw [List.getElem?_set_self hl] at e2
              cases e2
            · rw [List.getElem?_eq_none (by rw [List.length_set]; omega)] at e2
              cases e2
          · rw [List.getElem?_set_ne hj] at e2
            exact hj (s.dis i j p xs ys q e2 h e3)
        have s2 := s1.take bp gp hp off
        have rr : Rep C.K (upd B p (.lst vs)) (.ref p) (.lst xs) := .lst upd_same (ra.mono (Ex.new bp))
        have s3 := s2.reslot (i := i) (t := .sh (.lst xs)) (fun xs z => by cases z) ⟨_, h, rr⟩
        rw [List.set_set] at s3
        refine ⟨_, s3, Ex.new bp, rr, fun q => ?_⟩
        by_cases z : q = p
        · subst z; rw [upd_same]; exact .inr hp.symm
        · rw [upd_ne z]; exact .inl rfl
def RepWs (C : Ctx) (B : Hp) (env : En) (σ : L2.St) (H : Hp) : List V → List R → Prop
  | [], [] => True
  | v :: vs, r :: rs => RepW C B env σ H v r ∧ RepWs C B env σ H vs rs
  | _, _ => False
theorem RepRs.w : ∀ {vs : List V} {rs : List R}, RepRs C B env σ H vs rs → RepWs C B env σ H vs rs
  | [], [], _ => trivial
  | _ :: _, _ :: _, ⟨a, b⟩ => ⟨a.w, b.w⟩
  | [], _ :: _, h => h.elim
  | _ :: _, [], h => h.elim
theorem RepWs.keep (x : Ex B B') (hb : ∀ q, B' q = B q ∨ B' q = H q) (ho : ∀ q, Off env σ q → Off env' σ q) : ∀ {vs : List V} {rs : List R}, RepWs C B env σ H vs rs → RepWs C B' env' σ H vs rs
  | [], [], _ => trivial
  | v :: vs, r :: rs, ⟨a, b⟩ => ⟨by
      cases r with
      | val d => exact Rep.mono x a
      | al i => exact a
      | fr xs =>
        obtain ⟨p, ws, rfl, hp, ra, h1 | ⟨h1, h2, h3⟩⟩ := a
        · exact ⟨p, ws, rfl, hp, ra.mono x, .inl (x _ _ h1)⟩
        · rcases hb p with z | z
          · exact ⟨p, ws, rfl, hp, ra.mono x, .inr ⟨by rw [z]; exact h1, h2, ho _ h3⟩⟩
          · exact ⟨p, ws, rfl, hp, ra.mono x, .inl (by rw [z]; exact hp)⟩, RepWs.keep x hb ho b⟩
  | [], _ :: _, h => h.elim
  | _ :: _, [], h => h.elim
def frzs (env : En) : List R → Option (List D × En)
  | [] => some ([], env)
  | r :: rs => (frz env r).bind fun a => (frzs a.2 rs).map fun b => (a.1 :: b.1, b.2)
theorem frzs_w : ∀ {vs : List V} {rs : List R} {ds : List D} {env env' : En} {B : Hp}, SR C B env σ H → RepWs C B env σ H vs rs → frzs env rs = some (ds, env') → ∃ B', SR C B' env' σ H ∧ Ex B B' ∧ RepAll C.K B' vs ds
  | [], [], ds, env, env', B, s, _, e => by
    cases e
    exact ⟨B, s, Ex.refl _, .nil⟩
  | v :: vs, r :: rs, ds, env, env', B, s, ⟨a, b⟩, e => by
    obtain ⟨⟨d, e1⟩, h1, e⟩ := Option.bind_eq_some_iff.mp e
    obtain ⟨⟨ds', e2⟩, h2, e⟩ := Option.map_eq_some_iff.mp e
    cases e
    obtain ⟨B1, s1, x1, r1, hb⟩ := frz_w s a h1
    obtain ⟨B2, s2, x2, r2⟩ := frzs_w s1 (b.keep x1 hb fun q o => frz_off h1 o) h2
    exact ⟨B2, s2, x1.trans x2, .cons (r1.mono x2) r2⟩
  | [], _ :: _, _, _, _, _, _, h, _ => h.elim
  | _ :: _, [], _, _, _, _, _, h, _ => h.elim
/-- all arguments as data -/
def aD (f : En → Option (List R × En)) : En → Option (List D × En) := fun env => (f env).bind fun a => frzs a.2 a.1
def looks (env : En) : List R → Option (List D)
  | [] => some []
  | r :: rs => (look env r).bind fun a => (looks env rs).map fun b => a :: b
def RepKs (K : PySem.W.Frag) (B H : Hp) : List V → List D → Prop
  | [], [] => True
  | v :: vs, d :: ds => RepK K B H v d ∧ RepKs K B H vs ds
  | _, _ => False
theorem looks_rep (s : SR C B env σ H) : ∀ {vs : List V} {rs : List R} {ds : List D}, RepRs C B env σ H vs rs → looks env rs = some ds → RepKs C.K B H vs ds
  | [], [], ds, _, e => by cases e; trivial
  | v :: vs, r :: rs, ds, ⟨a, b⟩, e => by
    obtain ⟨d, h1, e⟩ := Option.bind_eq_some_iff.mp e
    obtain ⟨ds', h2, e⟩ := Option.map_eq_some_iff.mp e
    cases e
    exact ⟨look_rep s a h1, looks_rep s b h2⟩
  | [], _ :: _, _, h, _ => h.elim
  | _ :: _, [], _, h, _ => h.elim

/-! ### displays -/
def eTup (f : En → Option (List R × En)) : En → Option (R × En) := fun env => (aD f env).bind fun b => if b.1.length ≤ 1000 then some (.val (.tup b.1), b.2) else none
def eLst (f : En → Option (List R × En)) : En → Option (R × En) := fun env => (aD f env).bind fun b => if b.1.length ≤ 1000 then some (.fr b.1, b.2) else none
theorem le1000 {n : Nat} (h : n ≤ 1000) : n ≤ sizeLine := Nat.le_of_lt (small1000 h)
theorem aD_some {f : En → Option (List R × En)} {ds : List D} (e : aD f env = some (ds, env')) : ∃ rs e1, f env = some (rs, e1) ∧ frzs e1 rs = some (ds, env') := by
  obtain ⟨⟨rs, e1⟩, h1, e⟩ := Option.bind_eq_some_iff.mp e
  exact ⟨rs, e1, h1, e⟩
theorem se_tup {ta : TA} {f : En → Option (List R × En)} (h : SA K ta f) : SE K (tTup ta) (eTup f) := by
  intro C hC B env σ H r env' s e Q hq
  obtain ⟨⟨ds, e2⟩, h1, e⟩ := Option.bind_eq_some_iff.mp e
  split at e
  · cases e
    rename_i hl
    obtain ⟨rs, e1, h2, h3⟩ := aD_some h1
    refine h C hC B env σ H rs e1 s h2 _ fun vs B1 H1 s1 x1 r1 => ?_
    obtain ⟨B2, s2, x2, ra⟩ := frzs_w s1 r1.w h3
    have hl' : vs.length ≤ 1000 := by rw [ra.length]; exact hl
    refine ⟨le1000 hl', fun p hp => ?_⟩
    have bp := fresh_back s2.exB hp
    refine hq (.ref p) (upd B2 p (.tup vs)) _ (s2.alloc hp) ((x1.trans x2).trans (Ex.new bp)) ?_
    exact .tup (st_of upd_same) (ra.mono (Ex.new bp))
  · cases e
theorem se_lst {ta : TA} {f : En → Option (List R × En)} (h : SA K ta f) : SE K (tLst ta) (eLst f) := by
  intro C hC B env σ H r env' s e Q hq
  obtain ⟨⟨ds, e2⟩, h1, e⟩ := Option.bind_eq_some_iff.mp e
  split at e
  · cases e
    rename_i hl
    obtain ⟨rs, e1, h2, h3⟩ := aD_some h1
    refine h C hC B env σ H rs e1 s h2 _ fun vs B1 H1 s1 x1 r1 => ?_
    obtain ⟨B2, s2, x2, ra⟩ := frzs_w s1 r1.w h3
    have hl' : vs.length ≤ 1000 := by rw [ra.length]; exact hl
    refine ⟨le1000 hl', fun p hp => ?_⟩
    exact hq (.ref p) B2 _ (s2.temp hp) (x1.trans x2) (s2.newL hp ra)
  · cases e

/-! ### calls of built-ins on values that are read -/
def RC (K : PySem.W.Frag) (r : List V → Hp → VK → Prop) (g : List D → Option D) : Prop := ∀ (C : Ctx), C.K = K → ∀ (B : Hp) (env : En) (σ : L2.St) (H : Hp) (vs : List V) (ds : List D) (z : D), SR C B env σ H → RepKs K B H vs ds → g ds = some z → ∀ Q : VK, (∀ v B' H', SR C B' env σ H' → Ex B B' → Rep K B' v z → Q v H') → r vs H Q
def RCL (K : PySem.W.Frag) (r : List V → Hp → VK → Prop) (g : List D → Option (List D)) : Prop := ∀ (B H : Hp) (vs : List V) (ds zs : List D), Ex B H → RepKs K B H vs ds → g ds = some zs → ∀ Q : VK, (∀ p ws, H p = none → RepAll K B ws zs → Q (.ref p) (upd H p (.lst ws))) → r vs H Q
def RCS (K : PySem.W.Frag) (r : List V → Hp → VK → Prop) (g : List D → Option D) : Prop := ∀ (B H : Hp) (vs : List V) (ds : List D) (z : D), Ex B H → RepKs K B H vs ds → g ds = some z → ∃ v, sc z = some v ∧ ∀ Q : VK, Q v H → r vs H Q
theorem RCS.rc {r : List V → Hp → VK → Prop} {g : List D → Option D} (h : RCS K r g) : RC K r g := by
  intro C hC B env σ H vs ds z s rx e Q hq
  obtain ⟨v, hz, k⟩ := h B H vs ds z s.exB rx e
  exact k Q (hq v B H s (Ex.refl _) (sc_rep hz))
def eCB (g : List D → Option D) (f : En → Option (List R × En)) : En → Option (R × En) := fun env => (f env).bind fun a => (looks a.2 a.1).bind fun ds => (g ds).map fun z => (.val z, a.2)
def eCBL (g : List D → Option (List D)) (f : En → Option (List R × En)) : En → Option (R × En) := fun env => (f env).bind fun a => (looks a.2 a.1).bind fun ds => (g ds).map fun z => (.fr z, a.2)
theorem se_cb {r : List V → Hp → VK → Prop} {g : List D → Option D} {ta : TA} {f : En → Option (List R × En)} (hr : RC K r g) (h : SA K ta f) : SE K (tCB r ta) (eCB g f) := by
  intro C hC B env σ H ro env' s e Q hq
  obtain ⟨⟨rs, e1⟩, h1, e⟩ := Option.bind_eq_some_iff.mp e
  obtain ⟨ds, h2, e⟩ := Option.bind_eq_some_iff.mp e
  obtain ⟨z, h3, e⟩ := Option.map_eq_some_iff.mp e
  cases e
  refine h C hC B env σ H rs e1 s h1 _ fun vs B1 H1 s1 x1 r1 => ?_
  have k := looks_rep s1 r1 h2
  rw [hC] at k
  refine hr C hC B1 _ σ H1 vs ds z s1 k h3 Q fun v B2 H2 s2 x2 rv => hq v B2 H2 s2 (x1.trans x2) ?_
  rw [show RepR C B2 e1 σ H2 v (.val z) = Rep C.K B2 v z from rfl, hC]
  exact rv
theorem se_cbL {r : List V → Hp → VK → Prop} {g : List D → Option (List D)} {ta : TA} {f : En → Option (List R × En)} (hr : RCL K r g) (h : SA K ta f) : SE K (tCB r ta) (eCBL g f) := by
  intro C hC B env σ H ro env' s e Q hq
  obtain ⟨⟨rs, e1⟩, h1, e⟩ := Option.bind_eq_some_iff.mp e
  obtain ⟨ds, h2, e⟩ := Option.bind_eq_some_iff.mp e
  obtain ⟨z, h3, e⟩ := Option.map_eq_some_iff.mp e
  cases e
  refine h C hC B env σ H rs e1 s h1 _ fun vs B1 H1 s1 x1 r1 => ?_
  have k := looks_rep s1 r1 h2
  rw [hC] at k
  refine hr B1 H1 vs ds z s1.exB k h3 Q fun p ws hp ra => ?_
  exact hq (.ref p) B1 _ (s1.temp hp) x1 (s1.newL hp (by rw [hC]; exact ra))
/-- the lists of ints, of truth values in D -/
def unInts : List D → Option (List Int)
  | [] => some []
  | .int i :: xs => (unInts xs).map fun ns => i :: ns
  | _ => none
theorem unInts_some : ∀ {xs : List D} {ns : List Int}, unInts xs = some ns → xs = ns.map D.int
  | [], ns, h => by cases h; rfl
  | x :: xs, ns, h => by
    cases x with
    | int i =>
      obtain ⟨ms, h1, rfl⟩ := Option.map_eq_some_iff.mp h
      rw [unInts_some h1]
      rfl
    | _ => cases h
theorem unInts_map : ∀ ns : List Int, unInts (ns.map D.int) = some ns
  | [] => rfl
  | n :: ns => by
    show (unInts (ns.map D.int)).map _ = _
    rw [unInts_map ns]
    rfl
def unBls : List D → Option (List Bool)
  | [] => some []
  | .bl i :: xs => (unBls xs).map fun ns => i :: ns
  | _ => none
theorem unBls_some : ∀ {xs : List D} {ns : List Bool}, unBls xs = some ns → xs = ns.map D.bl
  | [], ns, h => by cases h; rfl
  | x :: xs, ns, h => by
    cases x with
    | bl i =>
      obtain ⟨ms, h1, rfl⟩ := Option.map_eq_some_iff.mp h
      rw [unBls_some h1]
      rfl
    | _ => cases h
theorem unBls_map : ∀ ns : List Bool, unBls (ns.map D.bl) = some ns
  | [] => rfl
  | n :: ns => by
    show (unBls (ns.map D.bl)).map _ = _
    rw [unBls_map ns]
    rfl
theorem RepKs.one {vs : List V} {d : D} (h : RepKs K B H vs [d]) : ∃ v, vs = [v] ∧ RepK K B H v d := by
  match vs, h with
  | [v], ⟨a, _⟩ => exact ⟨v, rfl, a⟩
theorem RepKs.two {vs : List V} {d e : D} (h : RepKs K B H vs [d, e]) : ∃ v w, vs = [v, w] ∧ RepK K B H v d ∧ RepK K B H w e := by
  match vs, h with
  | [v, w], ⟨a, b, _⟩ => exact ⟨v, w, rfl, a, b⟩
/-- a list of ints that is read -/
theorem RepK.ints {xs : List D} {ns : List Int} (e : Ex B H) (h : RepK K B H v (.lst xs)) (u : unInts xs = some ns) : ∃ a, v = .ref a ∧ H a = some (.lst (ns.map V.int)) := by
  obtain ⟨a, vs, rfl, h1, h2⟩ := h.list e
  rw [unInts_some u] at h2
  rw [h2.ints] at h1
  exact ⟨a, rfl, h1⟩
theorem RepK.bls {xs : List D} {ns : List Bool} (e : Ex B H) (h : RepK K B H v (.lst xs)) (u : unBls xs = some ns) : ∃ a, v = .ref a ∧ H a = some (.lst (ns.map V.bl)) := by
  obtain ⟨a, vs, rfl, h1, h2⟩ := h.list e
  rw [unBls_some u] at h2
  rw [h2.bls] at h1
  exact ⟨a, rfl, h1⟩

def bLen : List D → Option D
  | [.lst xs] => some (.int xs.length)
  | [.tup xs] => some (.int xs.length)
  | [.scr xs] => some (.int xs.length)
  | _ => none
def rLenSeq (K : PySem.W.Frag) : List V → Hp → VK → Prop := fun xs H Q => ∃ p ys, xs = [.ref p] ∧ (SqL K H p ys ∨ SqT K H p ys) ∧ Q (.int ys.length) H
theorem rc_len : RC K (rLenSeq K) bLen := RCS.rc (by
  intro B H vs ds z e rx h
  unfold bLen at h
  split at h
  · cases h
    obtain ⟨v, rfl, k⟩ := rx.one
    obtain ⟨a, ws, rfl, h1, h2⟩ := k.list e
    exact ⟨_, rfl, fun Q q => ⟨a, ws, rfl, .inl (sq_of h1), by rw [h2.length]; exact q⟩⟩
  · cases h
    obtain ⟨v, rfl, k⟩ := rx.one
    obtain ⟨a, ws, rfl, h1, h2⟩ := (k.scal fun _ z => by cases z).tuple
    exact ⟨_, rfl, fun Q q => ⟨a, ws, rfl, .inr (ex_t e h1), by rw [h2.length]; exact q⟩⟩
  · cases h
    obtain ⟨v, rfl, k⟩ := rx.one
    obtain ⟨a, rfl, h1⟩ := (k.scal fun _ z => by cases z).script
    exact ⟨_, rfl, fun Q q => ⟨a, _, rfl, .inl (ex_l e h1), by rw [List.length_map]; exact q⟩⟩
  · cases h)
def bInt : List D → Option D
  | [.int i] => some (.int i)
  | [.bl k] => some (.int (if k then 1 else 0))
  | _ => none
theorem rc_int : RC K (fun xs H Q => (∃ i, xs = [.int i] ∧ Q (.int i) H) ∨ ∃ k, xs = [.bl k] ∧ Q (.int (if k then 1 else 0)) H) bInt := RCS.rc (by
  intro B H vs ds z e rx h
  unfold bInt at h
  split at h
  · cases h
    obtain ⟨v, rfl, k⟩ := rx.one
    exact ⟨_, rfl, fun Q q => .inl ⟨_, by rw [k.int], q⟩⟩
  · cases h
    obtain ⟨v, rfl, k⟩ := rx.one
    exact ⟨_, rfl, fun Q q => .inr ⟨_, by rw [k.bl], q⟩⟩
  · cases h)
def bAbs : List D → Option D
  | [.int i] => some (.int (if i < 0 then -i else i))
  | _ => none
theorem rc_abs : RC K (fun xs H Q => ∃ i, xs = [.int i] ∧ Q (.int (if i < 0 then -i else i)) H) bAbs := RCS.rc (by
  intro B H vs ds z e rx h
  unfold bAbs at h
  split at h
  · cases h
    obtain ⟨v, rfl, k⟩ := rx.one
    exact ⟨_, rfl, fun Q q => ⟨_, by rw [k.int], q⟩⟩
  · cases h)
def bMax2 : List D → Option D
  | [.int i, .int j] => some (.int (if j > i then j else i))
  | _ => none
def bMin2 : List D → Option D
  | [.int i, .int j] => some (.int (if j < i then j else i))
  | _ => none
theorem rc_max2 : RC K (fun xs H Q => ∃ i j, xs = [.int i, .int j] ∧ Q (.int (if j > i then j else i)) H) bMax2 := RCS.rc (by
  intro B H vs ds z e rx h
  unfold bMax2 at h
  split at h
  · cases h
    obtain ⟨v, w, rfl, k1, k2⟩ := rx.two
    exact ⟨_, rfl, fun Q q => ⟨_, _, by rw [k1.int, k2.int], q⟩⟩
  · cases h)
theorem rc_min2 : RC K (fun xs H Q => ∃ i j, xs = [.int i, .int j] ∧ Q (.int (if j < i then j else i)) H) bMin2 := RCS.rc (by
  intro B H vs ds z e rx h
  unfold bMin2 at h
  split at h
  · cases h
    obtain ⟨v, w, rfl, k1, k2⟩ := rx.two
    exact ⟨_, rfl, fun Q q => ⟨_, _, by rw [k1.int, k2.int], q⟩⟩
  · cases h)
def bSum : List D → Option D
  | [.lst xs] => (unInts xs).map fun ns => .int ns.sum
  | _ => none
theorem rc_sum : RC K (rSum K) bSum := RCS.rc (by
  intro B H vs ds z e rx h
  unfold bSum at h
  split at h
  · obtain ⟨ns, h1, rfl⟩ := Option.map_eq_some_iff.mp h
    obtain ⟨v, rfl, k⟩ := rx.one
    obtain ⟨a, rfl, h2⟩ := k.ints e h1
    exact ⟨_, rfl, fun Q q => ⟨a, ns, rfl, sq_of h2, q⟩⟩
  · cases h)
def maxL : List Int → Int
  | [] => 0
  | x :: xs => xs.foldl max x
def minL : List Int → Int
  | [] => 0
  | x :: xs => xs.foldl min x
theorem foldl_max_ge : ∀ (xs : List Int) (x : Int), x ≤ xs.foldl max x ∧ ∀ y ∈ xs, y ≤ xs.foldl max x
  | [], x => ⟨Int.le_refl _, fun y h => by cases h⟩
  | z :: xs, x => by
    obtain ⟨h1, h2⟩ := foldl_max_ge xs (max x z)
    rw [List.foldl_cons]
    refine ⟨by omega, fun y hy => ?_⟩
    rcases List.mem_cons.mp hy with rfl | hy
    · omega
    · exact h2 y hy
theorem foldl_max_mem : ∀ (xs : List Int) (x : Int), xs.foldl max x = x ∨ xs.foldl max x ∈ xs
  | [], x => .inl rfl
  | z :: xs, x => by
    rw [List.foldl_cons]
    rcases foldl_max_mem xs (max x z) with h | h
    · rw [h]
      by_cases q : x ≤ z
      · exact .inr (by rw [show max x z = z by omega]; exact List.mem_cons_self)
      · exact .inl (by omega)
    · exact .inr (List.mem_cons_of_mem _ h)
theorem foldl_min_le : ∀ (xs : List Int) (x : Int), xs.foldl min x ≤ x ∧ ∀ y ∈ xs, xs.foldl min x ≤ y
  | [], x => ⟨Int.le_refl _, fun y h => by cases h⟩
  | z :: xs, x => by
    obtain ⟨h1, h2⟩ := foldl_min_le xs (min x z)
    rw [List.foldl_cons]
    refine ⟨by omega, fun y hy => ?_⟩
    rcases List.mem_cons.mp hy with rfl | hy
    · omega
    · exact h2 y hy
theorem foldl_min_mem : ∀ (xs : List Int) (x : Int), xs.foldl min x = x ∨ xs.foldl min x ∈ xs
  | [], x => .inl rfl
  | z :: xs, x => by
    rw [List.foldl_cons]
    rcases foldl_min_mem xs (min x z) with h | h
    · rw [h]
      by_cases q : z ≤ x
      · exact .inr (by rw [show min x z = z by omega]; exact List.mem_cons_self)
      · exact .inl (by omega)
    · exact .inr (List.mem_cons_of_mem _ h)
theorem maxL_ge {ns : List Int} {y : Int} (h : y ∈ ns) : y ≤ maxL ns := by
  cases ns with
  | nil => cases h
  | cons x xs =>
    rcases List.mem_cons.mp h with rfl | h
    · exact (foldl_max_ge xs _).1
    · exact (foldl_max_ge xs x).2 y h
theorem maxL_mem {ns : List Int} (h : ns ≠ []) : maxL ns ∈ ns := by
  cases ns with
  | nil => exact absurd rfl h
  | cons x xs =>
    rcases foldl_max_mem xs x with q | q
    · show xs.foldl max x ∈ _
      rw [q]
      exact List.mem_cons_self
    · exact List.mem_cons_of_mem _ q
theorem minL_le {ns : List Int} {y : Int} (h : y ∈ ns) : minL ns ≤ y := by
  cases ns with
  | nil => cases h
  | cons x xs =>
    rcases List.mem_cons.mp h with rfl | h
    · exact (foldl_min_le xs _).1
    · exact (foldl_min_le xs x).2 y h
theorem minL_mem {ns : List Int} (h : ns ≠ []) : minL ns ∈ ns := by
  cases ns with
  | nil => exact absurd rfl h
  | cons x xs =>
    rcases foldl_min_mem xs x with q | q
    · show xs.foldl min x ∈ _
      rw [q]
      exact List.mem_cons_self
    · exact List.mem_cons_of_mem _ q
def bMaxL : List D → Option D
  | [.lst xs] => (unInts xs).bind fun ns => if ns = [] then none else some (.int (maxL ns))
  | _ => none
def bMinL : List D → Option D
  | [.lst xs] => (unInts xs).bind fun ns => if ns = [] then none else some (.int (minL ns))
  | _ => none
theorem rc_maxL : RC K (rMax K) bMaxL := RCS.rc (by
  intro B H vs ds z e rx h
  unfold bMaxL at h
  split at h
  · obtain ⟨ns, h1, h⟩ := Option.bind_eq_some_iff.mp h
    split at h
    · cases h
    · rename_i hn
      cases h
      obtain ⟨v, rfl, k⟩ := rx.one
      obtain ⟨a, rfl, h2⟩ := k.ints e h1
      refine ⟨_, rfl, fun Q q => ⟨a, ns, rfl, sq_of h2, List.length_pos_iff.mpr hn, fun m hm hle => ?_⟩⟩
      have : m = maxL ns := by
        have := hle _ (maxL_mem hn)
        have := maxL_ge hm
        omega
      rw [this]
      exact q
  · cases h)
theorem rc_minL : RC K (rMin K) bMinL := RCS.rc (by
  intro B H vs ds z e rx h
  unfold bMinL at h
  split at h
  · obtain ⟨ns, h1, h⟩ := Option.bind_eq_some_iff.mp h
    split at h
    · cases h
    · rename_i hn
      cases h
      obtain ⟨v, rfl, k⟩ := rx.one
      obtain ⟨a, rfl, h2⟩ := k.ints e h1
      refine ⟨_, rfl, fun Q q => ⟨a, ns, rfl, sq_of h2, List.length_pos_iff.mpr hn, fun m hm hle => ?_⟩⟩
      have : m = minL ns := by
        have := hle _ (minL_mem hn)
        have := minL_le hm
        omega
      rw [this]
      exact q
  · cases h)
def bAll : List D → Option D
  | [.lst xs] => (unBls xs).map fun ns => .bl (ns.all id)
  | _ => none
theorem rc_all : RC K (rAll K) bAll := RCS.rc (by
  intro B H vs ds z e rx h
  unfold bAll at h
  split at h
  · obtain ⟨ns, h1, rfl⟩ := Option.map_eq_some_iff.mp h
    obtain ⟨v, rfl, k⟩ := rx.one
    obtain ⟨a, rfl, h2⟩ := k.bls e h1
    exact ⟨_, rfl, fun Q q => ⟨a, ns, rfl, sq_of h2, q⟩⟩
  · cases h)
end
end Vm

set_option Elab.async false
set_option linter.all false
set_option maxRecDepth 100000
namespace Vm
open PySem PySem.Spec PyProof.Rows L2 Evl
section
variable {K : PySem.W.Frag} {C : Ctx} {B B' G H H' : Hp} {env env' : En} {σ : L2.St} {v : V} {r : R} {d : D} {ta tb te : TE} {fa fb fe : En → Option (R × En)} {f : En → Option (R × En)} {X : Cx}

/-! ### slots stored -/
theorem get_set {α : Type} {l : List α} {i j : Nat} {x y : α} (h : (l.set i x)[j]? = some y) : (j = i ∧ y = x ∧ i < l.length) ∨ (j ≠ i ∧ l[j]? = some y) := by
  by_cases hj : i = j
  · subst hj
    by_cases hl : i < l.length
    · rw [List.getElem?_set_self hl] at h
      exact .inl ⟨rfl, (Option.some.inj h).symm, hl⟩
    · rw [List.getElem?_eq_none (by rw [List.length_set]; omega)] at h
      cases h
  · rw [List.getElem?_set_ne hj] at h
    exact .inr ⟨fun e => hj e.symm, h⟩
/-- the own list of slot i changes -/
theorem SR.put (s : SR C B env σ H) {i : Nat} {xs ys : List D} {p : Addr} {ws : List V} (he : env[i]? = some (.ow xs)) (hs : σ[i]? = some (some (.ref p))) (ra : RepAll C.K B ws ys) : SR C B (env.set i (.ow ys)) σ (upd H p (.lst ws)) := by
  obtain ⟨p', vs, e1, bp, gp, hp, _⟩ := s.sl i _ he
  rw [hs] at e1
  cases e1
  refine ⟨fun a u e => ?_, fun a u e => ?_, s.ex0, s.new, by rw [List.length_set]; exact s.len, fun j t h => ?_, fun j k q x1 x2 e1 e2 => ?_, s.fx⟩
  · rw [upd_ne (ne_of_none e gp)]
    exact s.exG a u e
  · rw [upd_ne (ne_of_none e bp)]
    exact s.exB a u e
  · rcases get_set h with ⟨rfl, rfl, _⟩ | ⟨hj, h⟩
    · exact ⟨p, ws, hs, bp, gp, upd_same, ra⟩
    · refine (s.sl j t h).mono (Ex.refl _) fun q e ⟨zs, ez⟩ => ?_
      subst ez
      have w := s.sl j _ h
      obtain ⟨p', vs', e3, b3, _, h3, _⟩ := w
      rw [e] at e3
      cases e3
      have ne : q ≠ p := fun z => hj (s.dis j i q zs xs h he e (by rw [z]; exact hs))
      exact ⟨b3, upd_ne ne⟩
  · have k1 : ∃ zs, env[j]? = some (.ow zs) := by
      rcases get_set e1 with ⟨rfl, _, _⟩ | ⟨_, h⟩
      · exact ⟨xs, he⟩
      · exact ⟨x1, h⟩
    have k2 : ∃ zs, env[k]? = some (.ow zs) := by
      rcases get_set e2 with ⟨rfl, _, _⟩ | ⟨_, h⟩
      · exact ⟨xs, he⟩
      · exact ⟨x2, h⟩
    obtain ⟨z1, k1⟩ := k1
    obtain ⟨z2, k2⟩ := k2
    exact s.dis j k q z1 z2 k1 k2
/-- slot i is given a value -/
theorem SR.setV (s : SR C B env σ H) {i : Nat} {v : V} {t : Sl} (hi : i ∉ C.fix) (ht : match t with
    | .un => True
    | .sh d => Rep C.K B v d
    | .ow xs => ∃ p vs, v = .ref p ∧ B p = none ∧ C.G p = none ∧ H p = some (.lst vs) ∧ RepAll C.K B vs xs ∧ Off (env.set i .un) σ p) : SR C B (env.set i t) (σ.set i (some v)) H := by
  refine ⟨s.exG, s.exB, s.ex0, s.new, by rw [List.length_set, List.length_set]; exact s.len, fun j u h => ?_, fun j k q x1 x2 e1 e2 h1 h2 => ?_, fun j hj => ?_⟩
  · rcases get_set h with ⟨rfl, rfl, hl⟩ | ⟨hj, h⟩
    · rw [List.getElem?_set_self (by rw [s.len]; exact hl)]
      cases u with
      | un => trivial
      | sh d => exact ⟨v, rfl, ht⟩
      | ow xs =>
        obtain ⟨p, vs, rfl, bp, gp, hp, ra, _⟩ := ht
        exact ⟨p, vs, rfl, bp, gp, hp, ra⟩
    · rw [List.getElem?_set_ne (fun e => hj e.symm)]
      exact s.sl j u h
  · rcases get_set e1 with ⟨rfl, et, hl⟩ | ⟨hj, g1⟩
    · rcases get_set e2 with ⟨rfl, _, _⟩ | ⟨hk, g2⟩
      · rfl
      · subst et
        obtain ⟨p, vs, rfl, _, _, _, _, off⟩ := ht
        rw [List.getElem?_set_self (by rw [s.len]; exact hl)] at h1
        cases h1
        rw [List.getElem?_set_ne (fun e => hk e.symm)] at h2
        exact absurd h2 (off k x2 (by rw [List.getElem?_set_ne (fun e => hk e.symm)]; exact g2))
    · rcases get_set e2 with ⟨rfl, et, hl⟩ | ⟨hk, g2⟩
      · subst et
        obtain ⟨p, vs, rfl, _, _, _, _, off⟩ := ht
        rw [List.getElem?_set_self (by rw [s.len]; exact hl)] at h2
        cases h2
        rw [List.getElem?_set_ne (fun e => hj e.symm)] at h1
        exact absurd h1 (off j x1 (by rw [List.getElem?_set_ne (fun e => hj e.symm)]; exact g1))
      · rw [List.getElem?_set_ne (fun e => hj e.symm)] at h1
        rw [List.getElem?_set_ne (fun e => hk e.symm)] at h2
        exact s.dis j k q x1 x2 g1 g2 h1 h2
  · have : j ≠ i := fun e => hi (by rw [← e]; exact hj)
    rw [List.getElem?_set_ne (fun e => this e.symm)]
    exact s.fx j hj
/-- what slot i holds from now on -/
def store (i : Nat) (r : R) (env : En) : Option En := match r with
  | .val d => some (env.set i (.sh d))
  | .fr xs => some (env.set i (.ow xs))
  | .al j => (frz env (.al j)).map fun b => b.2.set i (.sh b.1)
theorem off_un {q : Addr} (o : Off env σ q) (i : Nat) : Off (env.set i .un) σ q := fun j ys h => by
  rcases get_set h with ⟨_, e, _⟩ | ⟨_, h⟩
  · cases e
  · exact o j ys h
theorem store_ok (s : SR C B env σ H) {i : Nat} (hi : i ∉ C.fix) (h : RepR C B env σ H v r) (e : store i r env = some env') : ∃ B', SR C B' env' (σ.set i (some v)) H ∧ Ex B B' := by
  cases r with
  | val d =>
    cases e
    exact ⟨B, s.setV hi h, Ex.refl _⟩
  | fr xs =>
    cases e
    obtain ⟨p, vs, rfl, bp, gp, hp, ra, off⟩ := h
    exact ⟨B, s.setV hi ⟨p, vs, rfl, bp, gp, hp, ra, off_un off i⟩, Ex.refl _⟩
  | al j =>
    obtain ⟨⟨d, e1⟩, h1, rfl⟩ := Option.map_eq_some_iff.mp e
    obtain ⟨B1, s1, x1, r1⟩ := frz_rep s h h1
    exact ⟨B1, s1.setV hi r1, x1⟩

/-! ### methods of the function's own lists -/
def own (env : En) (i : Nat) : Option (List D) := match env[i]? with
  | some (.ow xs) => some xs
  | _ => none
theorem own_some {i : Nat} {xs : List D} (h : own env i = some xs) : env[i]? = some (.ow xs) := by
  unfold own at h
  split at h
  · cases h; assumption
  · cases h
def one : List D → Option D
  | [d] => some d
  | _ => none
def eAppend (i : Nat) (f : En → Option (List R × En)) : En → Option (R × En) := fun env => (own env i).bind fun _ => (aD f env).bind fun b => (one b.1).bind fun d => (own b.2 i).bind fun xs => if xs.length < 1000000 then some (.val .non, b.2.set i (.ow (xs ++ [d]))) else none
theorem mil {n : Nat} (h : n < 1000000) : n < sizeLine := Nat.lt_trans h (by decide)
theorem se_append {i : Nat} {ta : TA} {f : En → Option (List R × En)} (h : SA K ta f) : SE K (tBM K "list" rAppend (tVar i) ta) (eAppend i f) := by
  intro C hC B env σ H r env' s e Q hq
  obtain ⟨xs0, h0, e⟩ := Option.bind_eq_some_iff.mp e
  obtain ⟨⟨ds, e2⟩, h1, e⟩ := Option.bind_eq_some_iff.mp e
  obtain ⟨d, h2, e⟩ := Option.bind_eq_some_iff.mp e
  obtain ⟨xs, h3, e⟩ := Option.bind_eq_some_iff.mp e
  split at e
  · rename_i hl
    cases e
    obtain ⟨p, vs0, hs, bp, gp, hp, _⟩ := s.sl i _ (own_some h0)
    refine ⟨.ref p, hs, .inl ⟨rfl, _, sq_of hp⟩, ?_⟩
    obtain ⟨rs, e1, h4, h5⟩ := aD_some h1
    refine h C hC B env σ H rs e1 s h4 _ fun vs B1 H1 s1 x1 r1 => ?_
    obtain ⟨B2, s2, x2, ra⟩ := frzs_w s1 r1.w h5
    obtain ⟨p', ws, hs', bp', gp', hp', ra'⟩ := s2.sl i _ (own_some h3)
    rw [hs] at hs'
    cases hs'
    match ds, vs, h2, ra with
    | [_], [y], h2, .cons ry .nil =>
      cases h2
      refine ⟨p, ws, y, rfl, rfl, hp', by rw [ra'.length]; exact mil hl, ?_⟩
      exact hq .non B2 _ (s2.put (own_some h3) hs (ra'.append (.one ry))) (x1.trans x2) .non
  · cases e
/-- xs.pop(i), at a place that is there, counted from the front -/
def oneInt : List D → Option Int
  | [.int i] => some i
  | _ => none
def eaPop (i : Nat) (f : En → Option (List R × En)) : En → Option (R × En) := fun env => (own env i).bind fun _ => (aD f env).bind fun b => (oneInt b.1).bind fun k => (own b.2 i).bind fun xs =>
  if 0 ≤ k ∧ k < 2 ^ 63 then (xs[k.toNat]?).map fun d => (.val d, b.2.set i (.ow (xs.eraseIdx k.toNat))) else none
theorem se_popAt {i : Nat} {ta : TA} {f : En → Option (List R × En)} (h : SA K ta f) : SE K (tBM K "list" rPopAt (tVar i) ta) (eaPop i f) := by
  intro C hC B env σ H r env' s e Q hq
  obtain ⟨xs0, h0, e⟩ := Option.bind_eq_some_iff.mp e
  obtain ⟨⟨ds, e2⟩, h1, e⟩ := Option.bind_eq_some_iff.mp e
  obtain ⟨k, h2, e⟩ := Option.bind_eq_some_iff.mp e
  obtain ⟨xs, h3, e⟩ := Option.bind_eq_some_iff.mp e
  split at e
  · rename_i hk
    obtain ⟨d, hd, e⟩ := Option.map_eq_some_iff.mp e
    cases e
    obtain ⟨p, vs0, hs, bp, gp, hp, _⟩ := s.sl i _ (own_some h0)
    refine ⟨.ref p, hs, .inl ⟨rfl, _, sq_of hp⟩, ?_⟩
    obtain ⟨rs, e1, h4, h5⟩ := aD_some h1
    refine h C hC B env σ H rs e1 s h4 _ fun vs B1 H1 s1 x1 r1 => ?_
    obtain ⟨B2, s2, x2, ra⟩ := frzs_w s1 r1.w h5
    obtain ⟨p', ws, hs', bp', gp', hp', ra'⟩ := s2.sl i _ (own_some h3)
    rw [hs] at hs'
    cases hs'
    match ds, vs, h2, ra with
    | [.int _], [.int _], h2, .cons (.int _) .nil =>
      cases h2
      obtain ⟨y, hy, ry⟩ := ra'.get hd
      have hlt : k.toNat < ws.length := (List.getElem?_eq_some_iff.mp hy).1
      refine ⟨p, ws, k, k.toNat, y, rfl, rfl, hp', by omega, hk.2, ?_, hy, ?_⟩
      · exact seqIndex_of hk.1 (by omega)
      · exact hq y B2 _ (s2.put (own_some h3) hs (ra'.eraseIdx _)) (x1.trans x2) ry
  · cases e
def eaPop0 (i : Nat) : En → Option (R × En) := fun env => (own env i).bind fun xs => (xs[xs.length - 1]?).map fun d => (.val d, env.set i (.ow xs.dropLast))
theorem RepAll.dropLast {vs : List V} {xs : List D} (h : RepAll K B vs xs) : RepAll K B vs.dropLast xs.dropLast := by
  rw [List.dropLast_eq_take, List.dropLast_eq_take, h.length]
  exact h.take _
theorem se_pop {i : Nat} : SE K (tBM0 K "list" rPop (tVar i)) (eaPop0 i) := by
  intro C hC B env σ H r env' s e Q hq
  obtain ⟨xs, h0, e⟩ := Option.bind_eq_some_iff.mp e
  obtain ⟨d, hd, e⟩ := Option.map_eq_some_iff.mp e
  cases e
  obtain ⟨p, ws, hs, bp, gp, hp, ra⟩ := s.sl i _ (own_some h0)
  obtain ⟨y, hy, ry⟩ := ra.get hd
  refine ⟨.ref p, hs, .inl ⟨rfl, _, sq_of hp⟩, p, ws, y, rfl, rfl, hp, by rw [ra.length]; exact hy, ?_⟩
  exact hq y B _ (s.put (own_some h0) hs ra.dropLast) (Ex.refl _) ry
def eExtend (i : Nat) (f : En → Option (List R × En)) : En → Option (R × En) := fun env => (own env i).bind fun _ => (aD f env).bind fun b => (one b.1).bind fun d => (own b.2 i).bind fun xs => match d with
  | .lst ys => if xs.length + ys.length ≤ 1000000 then some (.val .non, b.2.set i (.ow (xs ++ ys))) else none
  | _ => none
theorem se_extend {i : Nat} {ta : TA} {f : En → Option (List R × En)} (h : SA K ta f) : SE K (tBM K "list" rExtend (tVar i) ta) (eExtend i f) := by
  intro C hC B env σ H r env' s e Q hq
  obtain ⟨xs0, h0, e⟩ := Option.bind_eq_some_iff.mp e
  obtain ⟨⟨ds, e2⟩, h1, e⟩ := Option.bind_eq_some_iff.mp e
  obtain ⟨d, h2, e⟩ := Option.bind_eq_some_iff.mp e
  obtain ⟨xs, h3, e⟩ := Option.bind_eq_some_iff.mp e
  split at e
  · split at e
    · rename_i hl
      cases e
      obtain ⟨p, vs0, hs, bp, gp, hp, _⟩ := s.sl i _ (own_some h0)
      refine ⟨.ref p, hs, .inl ⟨rfl, _, sq_of hp⟩, ?_⟩
      obtain ⟨rs, e1, h4, h5⟩ := aD_some h1
      refine h C hC B env σ H rs e1 s h4 _ fun vs B1 H1 s1 x1 r1 => ?_
      obtain ⟨B2, s2, x2, ra⟩ := frzs_w s1 r1.w h5
      obtain ⟨p', ws, hs', bp', gp', hp', ra'⟩ := s2.sl i _ (own_some h3)
      rw [hs] at hs'
      cases hs'
      match ds, vs, h2, ra with
      | [_], [y], h2, .cons ry .nil =>
        cases h2
        obtain ⟨b, zs, rfl, hb, rz⟩ := ry.list
        refine ⟨p, b, ws, zs, rfl, rfl, hp', s2.exB _ _ hb, by rw [ra'.length, rz.length]; exact (Nat.le_trans hl (by decide : 1000000 ≤ sizeLine)), ?_⟩
        exact hq .non B2 _ (s2.put (own_some h3) hs (ra'.append rz)) (x1.trans x2) .non
    · cases e
  · cases e

/-! ### slices -/
def SO (K : PySem.W.Frag) (t : TO) (f : En → Option (Option Int × En)) : Prop :=
  ∀ C : Ctx, C.K = K → ∀ (B : Hp) (env : En) (σ : L2.St) (H : Hp) (r : Option Int) (env' : En), SR C B env σ H → f env = some (r, env') →
    ∀ Q : Option Int → Hp → Prop, (∀ B' H', SR C B' env' σ H' → Ex B B' → Q r H') → t σ H Q
def oNone : En → Option (Option Int × En) := fun env => some (none, env)
def oSome (f : En → Option (R × En)) : En → Option (Option Int × En) := fun env => (f env).bind fun a => match a.1 with
  | .val (.int i) => some (some i, a.2)
  | _ => none
theorem so_none : SO K tNoPart oNone := by
  intro C hC B env σ H r env' s e Q hq
  cases e
  exact hq B H s (Ex.refl _)
theorem so_some (h : SE K te f) : SO K (tPart te) (oSome f) := by
  intro C hC B env σ H r env' s e Q hq
  obtain ⟨⟨a, e1⟩, h1, e⟩ := Option.bind_eq_some_iff.mp e
  split at e
  · rename_i q
    cases e
    simp only at q
    subst q
    refine h C hC B env σ H _ _ s h1 _ fun v B' H' s' x rr => ?_
    have rr : Rep C.K B' v (.int _) := rr
    cases rr
    exact ⟨_, rfl, hq B' H' s' x⟩
  · cases e
theorem SO.temp {t : TO} {g : En → Option (Option Int × En)} {b : Option Int} (h : SO K t g) (hC : C.K = K) (s : SR C B env σ H) (e : g env = some (b, env')) {T : Hp} (tm : Tmp B env σ H T) {Q : Option Int → Hp → Prop}
    (hq : ∀ B' H', SR C B' env' σ H' → Ex B B' → Tmp B' env' σ H' T → Q b H') : t σ H Q := by
  refine h (C.plus T) hC B env σ H b env' (s.plus tm) e Q fun B' H' s' x => ?_
  obtain ⟨s1, t1⟩ := SR.minus s.exG tm.ex tm.nb x s' s.ex0
  exact hq B' H' s1 x t1
def cutD (xs : List D) (lo hi : Option Int) : List D := (xs.drop (HT.sIx xs.length 0 lo)).take (HT.sIx xs.length xs.length hi - HT.sIx xs.length 0 lo)
theorem RepAll.cut {vs : List V} {xs : List D} (h : RepAll K B vs xs) (lo hi : Option Int) : RepAll K B (cutV vs lo hi) (cutD xs lo hi) := by
  unfold cutV cutD
  rw [h.length]
  exact (h.drop _).take _
def seqOf : D → Option (List D)
  | .lst xs => some xs
  | .scr ns => some (ns.map D.int)
  | _ => none
theorem seqOf_rep {xs : List D} (e : Ex B H) (h : RepK K B H v d) (q : seqOf d = some xs) : ∃ a vs, v = .ref a ∧ SqL K H a vs ∧ RepAll K B vs xs := by
  cases d with
  | lst ys =>
    cases q
    obtain ⟨a, vs, rfl, h1, h2⟩ := h.list e
    exact ⟨a, vs, rfl, sq_of h1, h2⟩
  | scr ns =>
    cases q
    obtain ⟨a, rfl, h1⟩ := (h.scal fun _ z => by cases z).script
    exact ⟨a, _, rfl, ex_l e h1, .of_ints ns⟩
  | _ => cases q
def eSl (fe : En → Option (R × En)) (fl fh : En → Option (Option Int × En)) : En → Option (R × En) := fun env => (fe env).bind fun a => (fl a.2).bind fun l => (fh l.2).bind fun h => (look h.2 a.1).bind fun d => (seqOf d).map fun xs => (.fr (cutD xs l.1 h.1), h.2)
theorem se_sl {tl th : TO} {fl fh : En → Option (Option Int × En)} (h1 : SE K te fe) (h2 : SO K tl fl) (h3 : SO K th fh) : SE K (tSl (rSlL K) te tl th) (eSl fe fl fh) := by
  intro C hC B env σ H r env' s e Q hq
  obtain ⟨⟨ra, e1⟩, g1, e⟩ := Option.bind_eq_some_iff.mp e
  obtain ⟨⟨l, e2⟩, g2, e⟩ := Option.bind_eq_some_iff.mp e
  obtain ⟨⟨h, e3⟩, g3, e⟩ := Option.bind_eq_some_iff.mp e
  obtain ⟨d, g4, e⟩ := Option.bind_eq_some_iff.mp e
  obtain ⟨xs, g5, e⟩ := Option.map_eq_some_iff.mp e
  cases e
  refine h1 C hC B env σ H ra e1 s g1 _ fun v B1 H1 s1 x1 r1 => ?_
  refine h2.temp hC s1 g2 r1.tmp fun B2 H2 s2 x2 t2 => ?_
  have r2 := r1.keep x2 t2
  refine h3.temp hC s2 g3 r2.tmp fun B3 H3 s3 x3 t3 => ?_
  have r3 := r2.keep x3 t3
  have k := look_rep s3 r3 g4
  rw [hC] at k
  obtain ⟨a, vs, rfl, q1, q2⟩ := seqOf_rep s3.exB k g5
  refine ⟨a, vs, rfl, q1, fun p hp => ?_⟩
  exact hq (.ref p) B3 _ (s3.temp hp) ((x1.trans x2).trans x3) (s3.newL hp (by rw [hC]; exact q2.cut _ _))
end
end Vm

set_option Elab.async false
set_option linter.all false
set_option maxRecDepth 100000
namespace Vm
open PySem PySem.Spec PyProof.Rows L2 Evl
section
variable {K : PySem.W.Frag} {C : Ctx} {B B' G H H' : Hp} {env env' : En} {σ : L2.St} {v : V} {r : R} {d : D} {ta tb te : TE} {fa fb fe : En → Option (R × En)} {f : En → Option (R × En)} {X : Cx} {fix : List Nat} {W : WX}

/-! ### targets -/
def Only (tv : List Nat) (σ σ' : L2.St) : Prop := σ'.length = σ.length ∧ ∀ i, i ∉ tv → σ'[i]? = σ[i]?
def SG (K : PySem.W.Frag) (fix : List Nat) (tv : List Nat) (g : TG) (f : D → En → Option En) : Prop :=
  ∀ C : Ctx, C.K = K → C.fix = fix → ∀ (B : Hp) (env : En) (σ : L2.St) (H : Hp) (v : V) (d : D) (env' : En), SR C B env σ H → Rep K B v d → f d env = some env' →
    ∀ Q : L2.St → Hp → Prop, (∀ σ', SR C B env' σ' H → Only tv σ σ' → Q σ' H) → g v σ H Q
def SGs (K : PySem.W.Frag) (fix : List Nat) (tv : List Nat) (g : TGs) (f : List D → En → Option En) : Prop :=
  ∀ C : Ctx, C.K = K → C.fix = fix → ∀ (B : Hp) (env : En) (σ : L2.St) (H : Hp) (vs : List V) (ds : List D) (env' : En), SR C B env σ H → RepAll K B vs ds → f ds env = some env' →
    ∀ Q : L2.St → Hp → Prop, (∀ σ', SR C B env' σ' H → Only tv σ σ' → Q σ' H) → g vs σ H Q
def tgName (i : Nat) : D → En → Option En := fun d env => some (env.set i (.sh d))
theorem sg_name {i : Nat} (hi : i ∉ fix) : SG K fix [i] (gName i) (tgName i) := by
  intro C hC hF B env σ H v d env' s rv e Q hq
  cases e
  subst hC hF
  exact hq _ (s.setV hi rv) ⟨by rw [List.length_set], fun j hj => List.getElem?_set_ne fun e => hj (by rw [e]; exact List.mem_cons_self)⟩
def tgNil : List D → En → Option En := fun ds env => match ds with
  | [] => some env
  | _ => none
def tgCons (f : D → En → Option En) (g : List D → En → Option En) : List D → En → Option En := fun ds env => match ds with
  | d :: ds => (f d env).bind fun e => g ds e
  | [] => none
theorem sgs_nil : SGs K fix [] gNil tgNil := by
  intro C hC hF B env σ H vs ds env' s ra e Q hq
  cases ra with
  | nil =>
    cases e
    exact ⟨rfl, hq σ s ⟨rfl, fun _ _ => rfl⟩⟩
  | cons _ _ => cases e
theorem sgs_cons {tv tw : List Nat} {t : TG} {u : TGs} {f : D → En → Option En} {g : List D → En → Option En} (h1 : SG K fix tv t f) (h2 : SGs K fix tw u g) : SGs K fix (tv ++ tw) (gCons t u) (tgCons f g) := by
  intro C hC hF B env σ H vs ds env' s ra e Q hq
  cases ra with
  | nil => cases e
  | cons rv ra =>
    obtain ⟨e1, g1, e⟩ := Option.bind_eq_some_iff.mp e
    exact ⟨_, _, rfl, h1 C hC hF B env σ H _ _ e1 s rv g1 _ fun σ' s' k1 => h2 C hC hF B e1 σ' H _ _ env' s' ra e Q fun σ2 s2 k2 => hq σ2 s2 ⟨k2.1.trans k1.1, fun i hi => (k2.2 i fun z => hi (List.mem_append_right _ z)).trans (k1.2 i fun z => hi (List.mem_append_left _ z))⟩⟩
def tgTup (n : Nat) (g : List D → En → Option En) : D → En → Option En := fun d env => match d with
  | .tup xs => if xs.length = n then g xs env else none
  | _ => none
theorem sg_tup {n : Nat} {tv : List Nat} {u : TGs} {g : List D → En → Option En} (h : SGs K fix tv u g) : SG K fix tv (gTup K n u) (tgTup n g) := by
  intro C hC hF B env σ H v d env' s rv e Q hq
  unfold tgTup at e
  split at e
  · split at e
    · rename_i hl
      obtain ⟨a, vs, rfl, h1, h2⟩ := rv.tuple
      exact ⟨a, vs, rfl, ex_t s.exB h1, by rw [h2.length]; exact hl, h C hC hF B env σ H _ _ env' s h2 e Q hq⟩
    · cases e
  · cases e

/-! ### statements -/
/-- the class of errors that the module calls c -/
inductive Out where
  | nx (env : En) | rt (r : R) (env : En) | bk (env : En) | ct (env : En) | er (c : Str) (env : En)
def Post (C : Ctx) (B : Hp) (W : WX) (D : Ends) : Out → Prop
  | .nx env' => ∀ B' σ' H', SR C B' env' σ' H' → Ex B B' → D.nx σ' H'
  | .rt r env' => ∀ v B' σ' H', SR C B' env' σ' H' → Ex B B' → RepR C B' env' σ' H' v r → D.rt v H'
  | .bk env' => ∀ B' σ' H', SR C B' env' σ' H' → Ex B B' → D.bk σ' H'
  | .ct env' => ∀ B' σ' H', SR C B' env' σ' H' → Ex B B' → D.ct σ' H'
  | .er c env' => ∀ B' σ' H', SR C B' env' σ' H' → Ex B B' → W (.ref (clsOf C.K c)) none σ' H'
theorem Post.mono {D : Ends} {o : Out} (x : Ex B B') (h : Post C B W D o) : Post C B' W D o := by
  cases o with
  | nx e => exact fun B2 σ' H' s x2 => h B2 σ' H' s (x.trans x2)
  | rt r e => exact fun v B2 σ' H' s x2 => h v B2 σ' H' s (x.trans x2)
  | bk e => exact fun B2 σ' H' s x2 => h B2 σ' H' s (x.trans x2)
  | ct e => exact fun B2 σ' H' s x2 => h B2 σ' H' s (x.trans x2)
  | er c e => exact fun B2 σ' H' s x2 => h B2 σ' H' s (x.trans x2)
def SS (K : PySem.W.Frag) (fix : List Nat) (W : WX) (t : TS) (F : En → Option Out) : Prop :=
  ∀ C : Ctx, C.K = K → C.fix = fix → ∀ (B : Hp) (env : En) (σ : L2.St) (H : Hp) (o : Out), SR C B env σ H → F env = some o → ∀ D : Ends, Post C B W D o → t D σ H
def sNext : En → Option Out := fun env => some (.nx env)
theorem ss_next : SS K fix W tNext sNext := by
  intro C hC hF B env σ H o s e D p
  cases e
  exact p B σ H s (Ex.refl _)
def sSeq (F G : En → Option Out) : En → Option Out := fun env => (F env).bind fun o => match o with
  | .nx e1 => G e1
  | o => some o
theorem ss_seq {t u : TS} {F G : En → Option Out} (h1 : SS K fix W t F) (h2 : SS K fix W u G) : SS K fix W (tSeq t u) (sSeq F G) := by
  intro C hC hF B env σ H o s e D p
  obtain ⟨o1, g1, e⟩ := Option.bind_eq_some_iff.mp e
  refine h1 C hC hF B env σ H o1 s g1 _ ?_
  cases o1 with
  | nx e1 => exact fun B' σ' H' s' x => h2 C hC hF B' e1 σ' H' o s' e D (p.mono x)
  | rt r e1 => cases e; exact p
  | bk e1 => cases e; exact p
  | ct e1 => cases e; exact p
  | er c e1 => cases e; exact p
def sBreak : En → Option Out := fun env => some (.bk env)
theorem ss_break : SS K fix W tBreak sBreak := by
  intro C hC hF B env σ H o s e D p
  cases e
  exact p B σ H s (Ex.refl _)
def sCont : En → Option Out := fun env => some (.ct env)
theorem ss_cont : SS K fix W tCont sCont := by
  intro C hC hF B env σ H o s e D p
  cases e
  exact p B σ H s (Ex.refl _)
def sExpr (f : En → Option (R × En)) : En → Option Out := fun env => (f env).map fun a => .nx a.2
theorem ss_expr (h : SE K te f) : SS K fix W (tDrop te) (sExpr f) := by
  intro C hC hF B env σ H o s e D p
  obtain ⟨⟨a, e1⟩, g1, rfl⟩ := Option.map_eq_some_iff.mp e
  exact h C hC B env σ H a e1 s g1 _ fun v B' H' s' x _ => p B' σ H' s' x
def sRet (f : En → Option (R × En)) : En → Option Out := fun env => (f env).map fun a => .rt a.1 a.2
theorem ss_ret (h : SE K te f) : SS K fix W (tRet te) (sRet f) := by
  intro C hC hF B env σ H o s e D p
  obtain ⟨⟨a, e1⟩, g1, rfl⟩ := Option.map_eq_some_iff.mp e
  exact h C hC B env σ H a e1 s g1 _ fun v B' H' s' x rr => p v B' σ H' s' x rr
def sRetN : En → Option Out := fun env => some (.rt (.val .non) env)
theorem ss_retN : SS K fix W tRetN sRetN := by
  intro C hC hF B env σ H o s e D p
  cases e
  exact p .non B σ H s (Ex.refl _) .non
def sIf (g : En → Option (Bool × En)) (F G : En → Option Out) : En → Option Out := fun env => (g env).bind fun a => if a.1 then F a.2 else G a.2
theorem ss_if {c : TT} {t u : TS} {g : En → Option (Bool × En)} {F G : En → Option Out} (hc : ST K c g) (h1 : SS K fix W t F) (h2 : SS K fix W u G) : SS K fix W (tIfS c t u) (sIf g F G) := by
  intro C hC hF B env σ H o s e D p
  obtain ⟨⟨b, e1⟩, g1, e⟩ := Option.bind_eq_some_iff.mp e
  refine hc C hC B env σ H b e1 s g1 _ fun B' H' s' x => ?_
  cases b with
  | true =>
    show t D σ H'
    exact h1 C hC hF B' e1 σ H' o s' e D (p.mono x)
  | false =>
    show u D σ H'
    exact h2 C hC hF B' e1 σ H' o s' e D (p.mono x)
def sSet (i : Nat) (f : En → Option (R × En)) : En → Option Out := fun env => (f env).bind fun a => (store i a.1 a.2).map Out.nx
theorem ss_set {i : Nat} (h : SE K te f) (hi : i ∉ fix) : SS K fix W (tAsg te (gName i)) (sSet i f) := by
  intro C hC hF B env σ H o s e D p
  obtain ⟨⟨a, e1⟩, g1, e⟩ := Option.bind_eq_some_iff.mp e
  obtain ⟨e2, g2, rfl⟩ := Option.map_eq_some_iff.mp e
  refine h C hC B env σ H a e1 s g1 _ fun v B' H' s' x rr => ?_
  obtain ⟨B2, s2, x2⟩ := store_ok s' (by rw [hF]; exact hi) rr g2
  exact p B2 _ H' s2 (x.trans x2)
/-- any other target: the value is data -/
def sAsg (f : En → Option (R × En)) (g : D → En → Option En) : En → Option Out := fun env => (f env).bind fun a => (frz a.2 a.1).bind fun b => (g b.1 b.2).map Out.nx
theorem ss_asg {g : TG} {tv : List Nat} {gf : D → En → Option En} (h : SE K te f) (hg : SG K fix tv g gf) : SS K fix W (tAsg te g) (sAsg f gf) := by
  intro C hC hF B env σ H o s e D p
  obtain ⟨⟨a, e1⟩, g1, e⟩ := Option.bind_eq_some_iff.mp e
  obtain ⟨⟨d, e2⟩, g2, e⟩ := Option.bind_eq_some_iff.mp e
  obtain ⟨e3, g3, rfl⟩ := Option.map_eq_some_iff.mp e
  refine h C hC B env σ H a e1 s g1 _ fun v B' H' s' x rr => ?_
  obtain ⟨B2, s2, x2, r2⟩ := frz_rep s' rr g2
  rw [hC] at r2
  exact hg C hC hF B2 e2 σ H' v d e3 s2 r2 g3 _ fun σ' s3 _ => p B2 σ' H' s3 (x.trans x2)
/-- xs[k] = e, xs a list of the function's own -/
def sPut (i : Nat) (fe fk : En → Option (R × En)) : En → Option Out := fun env => (fe env).bind fun a => (frz a.2 a.1).bind fun b => (own b.2 i).bind fun _ => (fk b.2).bind fun k => match k.1 with
  | .val (.int z) => (own k.2 i).bind fun xs => (ixN xs.length z).map fun j => .nx (k.2.set i (.ow (xs.set j b.1)))
  | _ => none
theorem ss_put {i : Nat} {tk : TE} {fk : En → Option (R × En)} (h : SE K te fe) (hk : SE K tk fk) : SS K fix W (tAsg te (gSub (tVar i) tk rSetL)) (sPut i fe fk) := by
  intro C hC hF B env σ H o s e D p
  obtain ⟨⟨a, e1⟩, g1, e⟩ := Option.bind_eq_some_iff.mp e
  obtain ⟨⟨d, e2⟩, g2, e⟩ := Option.bind_eq_some_iff.mp e
  obtain ⟨xs0, g0, e⟩ := Option.bind_eq_some_iff.mp e
  obtain ⟨⟨k, e3⟩, g3, e⟩ := Option.bind_eq_some_iff.mp e
  split at e
  · rename_i z hz
    simp only at hz
    subst hz
    obtain ⟨xs, g4, e⟩ := Option.bind_eq_some_iff.mp e
    obtain ⟨j, g5, rfl⟩ := Option.map_eq_some_iff.mp e
    refine h C hC B env σ H a e1 s g1 _ fun v B1 H1 s1 x1 rr => ?_
    obtain ⟨B2, s2, x2, r2⟩ := frz_rep s1 rr g2
    obtain ⟨q, vs0, hs, _⟩ := s2.sl i _ (own_some g0)
    refine ⟨.ref q, hs, ?_⟩
    refine hk C hC B2 e2 σ H1 _ e3 s2 g3 _ fun w B3 H3 s3 x3 rk => ?_
    have rk : Rep C.K B3 w (.int z) := rk
    cases rk
    obtain ⟨q', vs, hs', bq, gq, hq, ra⟩ := s3.sl i _ (own_some g4)
    rw [hs] at hs'
    cases hs'
    refine ⟨q, vs, z, j, rfl, rfl, hq, by rw [ra.length]; exact g5, ?_⟩
    exact p B3 σ _ (s3.put (own_some g4) hs (RepAll.set (r2.mono x3) j ra)) ((x1.trans x2).trans x3)
  · cases e
/-- x += e, a number or a text -/
def sAug (i : Nat) (g : D → D → Option D) (f : En → Option (R × En)) : En → Option Out := fun env => match env[i]? with
  | some (.sh x) => (f env).bind fun a => (look a.2 a.1).bind fun y => (g x y).map fun z => .nx (a.2.set i (.sh z))
  | _ => none
def RIp (K : PySem.W.Frag) (ti : TIp) (g : D → D → Option D) : Prop := ∀ (B H : Hp) (x y : V) (dx dy z : D), Ex B H → RepK K B H x dx → RepK K B H y dy → g dx dy = some z → ∃ v, sc z = some v ∧ ∀ Q : VK, Q v H → ti x y H Q
theorem ss_aug {i : Nat} {ti : TIp} {g : D → D → Option D} (h : SE K te f) (hg : RIp K ti g) (hi : i ∉ fix) : SS K fix W (tAug i te ti) (sAug i g f) := by
  intro C hC hF B env σ H o s e D p
  unfold sAug at e
  split at e
  · rename_i x hx
    obtain ⟨⟨a, e1⟩, g1, e⟩ := Option.bind_eq_some_iff.mp e
    obtain ⟨y, g2, e⟩ := Option.bind_eq_some_iff.mp e
    obtain ⟨z, g3, rfl⟩ := Option.map_eq_some_iff.mp e
    obtain ⟨v, hv, rv⟩ := s.sl i _ hx
    refine ⟨v, hv, ?_⟩
    refine h C hC B env σ H a e1 s g1 _ fun w B1 H1 s1 x1 rr => ?_
    have k := look_rep s1 rr g2
    rw [hC] at k
    have r1 := rv.mono x1
    rw [hC] at r1
    obtain ⟨u, hu, go⟩ := hg B1 H1 v w x y z s1.exB (.inl r1) k g3
    refine go _ ?_
    exact p B1 _ H1 (s1.setV (by rw [hF]; exact hi) (sc_rep hu)) x1
  · cases e
theorem rip_I {g : Int → Int → Int} : RIp K (ipI g) (dI yes2 fun i j => .int (g i j)) := by
  intro B H x y dx dy z e rx ry h
  obtain ⟨i, j, rfl, rfl, _, rfl⟩ := dI_some h
  exact ⟨_, rfl, fun Q q => ⟨i, j, rx.int, ry.int, q⟩⟩
/-- xs[k] += e, xs a list of the function's own -/
def sPutAug (i : Nat) (g : D → D → Option D) (fk fe : En → Option (R × En)) : En → Option Out := fun env => (own env i).bind fun _ => (fk env).bind fun k => match k.1 with
  | .val (.int z) => (own k.2 i).bind fun xs => (atI xs z).bind fun x => (fe k.2).bind fun a => (look a.2 a.1).bind fun y => (g x y).bind fun w => (own a.2 i).bind fun ys => (ixN ys.length z).map fun j => .nx (a.2.set i (.ow (ys.set j w)))
  | _ => none
theorem ss_putAug {i : Nat} {tk : TE} {ti : TIp} {g : D → D → Option D} {fk : En → Option (R × En)} (hk : SE K tk fk) (h : SE K te fe) (hg : RIp K ti g) : SS K fix W (tAugS (tVar i) tk te (rIxL K) ti rSetL) (sPutAug i g fk fe) := by
  intro C hC hF B env σ H o s e D p
  obtain ⟨xs0, g0, e⟩ := Option.bind_eq_some_iff.mp e
  obtain ⟨⟨k, e1⟩, g1, e⟩ := Option.bind_eq_some_iff.mp e
  split at e
  · rename_i z hz
    simp only at hz
    subst hz
    obtain ⟨xs, g2, e⟩ := Option.bind_eq_some_iff.mp e
    obtain ⟨x, g3, e⟩ := Option.bind_eq_some_iff.mp e
    obtain ⟨⟨a, e2⟩, g4, e⟩ := Option.bind_eq_some_iff.mp e
    obtain ⟨y, g5, e⟩ := Option.bind_eq_some_iff.mp e
    obtain ⟨w, g6, e⟩ := Option.bind_eq_some_iff.mp e
    obtain ⟨ys, g7, e⟩ := Option.bind_eq_some_iff.mp e
    obtain ⟨j, g8, rfl⟩ := Option.map_eq_some_iff.mp e
    obtain ⟨q, vs0, hs, _⟩ := s.sl i _ (own_some g0)
    refine ⟨.ref q, hs, ?_⟩
    refine hk C hC B env σ H _ e1 s g1 _ fun u B1 H1 s1 x1 rk => ?_
    have rk : Rep C.K B1 u (.int z) := rk
    cases rk
    obtain ⟨q', vs, hs', bq, gq, hq, ra⟩ := s1.sl i _ (own_some g2)
    rw [hs] at hs'
    cases hs'
    obtain ⟨xv, hx, rx⟩ := repAll_at ra g3
    refine ⟨q, vs, z, xv, rfl, rfl, sq_of hq, hx, ?_⟩
    refine h C hC B1 e1 σ H1 a e2 s1 g4 _ fun yv B2 H2 s2 x2 ry => ?_
    have ky := look_rep s2 ry g5
    rw [hC] at ky
    have r1 := rx.mono x2
    rw [hC] at r1
    obtain ⟨wv, hw, go⟩ := hg B2 H2 xv yv x y w s2.exB (.inl r1) ky g6
    refine go _ ?_
    obtain ⟨q', vs', hs', bq', gq', hq', ra'⟩ := s2.sl i _ (own_some g7)
    rw [hs] at hs'
    cases hs'
    refine ⟨q, vs', z, j, rfl, rfl, hq', by rw [ra'.length]; exact g8, ?_⟩
    exact p B2 σ _ (s2.put (own_some g7) hs (RepAll.set (sc_rep hw) j ra')) (x1.trans x2)
  · cases e
/-- a result that is no alias -/
def fz (env : En) : R → Option (R × En)
  | .fr xs => some (.fr xs, env)
  | r => (frz env r).map fun a => (.val a.1, a.2)
def isFr : R → Bool
  | .fr _ => true
  | _ => false
/-- a, b = x, y: one of them may be a new list; two new ones are data -/
def sPar (i j : Nat) (f : En → Option (List R × En)) : En → Option Out := fun env => (f env).bind fun a => match a.1 with
  | [.val d1, .val d2] => some (.nx ((a.2.set i (.sh d1)).set j (.sh d2)))
  | [.val d1, .fr xs] => some (.nx ((a.2.set i (.sh d1)).set j (.ow xs)))
  | [.fr xs, .val d2] => some (.nx ((a.2.set i (.ow xs)).set j (.sh d2)))
  | [r1, r2] => (frzs a.2 [r1, r2]).bind fun b => match b.1 with
    | [d1, d2] => some (.nx ((b.2.set i (.sh d1)).set j (.sh d2)))
    | _ => none
  | _ => none
theorem off_set {q : Addr} {i : Nat} {d : D} {v : V} (o : Off env σ q) : Off (env.set i (.sh d)) (σ.set i (some v)) q := fun k ys h h2 => by
  by_cases hk : i = k
  · subst hk
    by_cases hl : i < env.length
    · rw [List.getElem?_set_self hl] at h
      cases h
    · rw [List.getElem?_eq_none (by rw [List.length_set]; omega)] at h
      cases h
  · rw [List.getElem?_set_ne hk] at h h2
    exact o k ys h h2
theorem ss_par {i j : Nat} {ta : TA} {f : En → Option (List R × En)} (h : SA K ta f) (hi : i ∉ fix) (hj : j ∉ fix) : SS K fix W (tPar i j ta) (sPar i j f) := by
  intro C hC hF B env σ H o s e D p
  obtain ⟨⟨rs, e1⟩, g1, e⟩ := Option.bind_eq_some_iff.mp e
  refine h C hC B env σ H rs e1 s g1 _ fun vs B1 H1 s1 x1 rr => ?_
  split at e
  · rename_i d1 d2 hr
    simp only at hr
    subst hr
    cases e
    match vs, rr with
    | [v, w], ⟨rv, rw', _⟩ =>
      refine ⟨v, w, rfl, ?_⟩
      have s3 := s1.setV (i := i) (v := v) (t := .sh d1) (by rw [hF]; exact hi) rv
      have s4 := s3.setV (i := j) (v := w) (t := .sh d2) (by rw [hF]; exact hj) rw'
      exact p B1 _ H1 s4 x1
  · rename_i d1 xs hr
    simp only at hr
    subst hr
    cases e
    match vs, rr with
    | [v, w], ⟨rv, rw', _⟩ =>
      refine ⟨v, w, rfl, ?_⟩
      have s3 := s1.setV (i := i) (v := v) (t := .sh d1) (by rw [hF]; exact hi) rv
      obtain ⟨q, ws, rfl, bq, gq, hq, ra, off⟩ := rw'
      have s4 := s3.setV (i := j) (v := .ref q) (t := .ow xs) (by rw [hF]; exact hj) ⟨q, ws, rfl, bq, gq, hq, ra, off_un (off_set off) j⟩
      exact p B1 _ H1 s4 x1
  · rename_i xs d2 hr
    simp only at hr
    subst hr
    cases e
    match vs, rr with
    | [v, w], ⟨rv, rw', _⟩ =>
      refine ⟨v, w, rfl, ?_⟩
      obtain ⟨q, ws, rfl, bq, gq, hq, ra, off⟩ := rv
      have s3 := s1.setV (i := i) (v := .ref q) (t := .ow xs) (by rw [hF]; exact hi) ⟨q, ws, rfl, bq, gq, hq, ra, off_un off i⟩
      have s4 := s3.setV (i := j) (v := w) (t := .sh d2) (by rw [hF]; exact hj) rw'
      exact p B1 _ H1 s4 x1
  · rename_i r1 r2 _ _ _ hr
    simp only at hr
    subst hr
    obtain ⟨⟨ds, e2⟩, g2, e⟩ := Option.bind_eq_some_iff.mp e
    split at e
    · rename_i d1 d2 hd
      simp only at hd
      subst hd
      cases e
      obtain ⟨B2, s2, x2, ra⟩ := frzs_w s1 rr.w g2
      match vs, ra with
      | [v, w], .cons rv (.cons rw' .nil) =>
        refine ⟨v, w, rfl, ?_⟩
        have s3 := s2.setV (i := i) (v := v) (t := .sh d1) (by rw [hF]; exact hi) rv
        have s4 := s3.setV (i := j) (v := w) (t := .sh d2) (by rw [hF]; exact hj) rw'
        exact p B2 _ H1 s4 (x1.trans x2)
    · cases e
  · cases e

/-! ### loops -/
/-- what an iterator of these items does -/
def ItRep (K : PySem.W.Frag) (B : Hp) (J : It) (ds : List D) : Prop := ∀ H : Hp, Ex B H → ∀ i : Nat,
  (ds.length ≤ i → J.stop i H) ∧ ∀ d, ds[i]? = some d → J.go i H ∧ ∀ x H', J.yld i H x H' → (H' = H ∧ Rep K B x d) ∨ ∃ T vs xs, H T = none ∧ H' = upd H T (.tup vs) ∧ x = .ref T ∧ d = .tup xs ∧ RepAll K B vs xs
def SI (K : PySem.W.Frag) (w : TI) (f : En → Option (List D × En)) : Prop :=
  ∀ C : Ctx, C.K = K → ∀ (B : Hp) (env : En) (σ : L2.St) (H : Hp) (ds : List D) (env' : En), SR C B env σ H → f env = some (ds, env') →
    ∀ Q : It → Hp → Prop, (∀ J B' H', SR C B' env' σ H' → Ex B B' → ItRep K B' J ds → Q J H') → w σ H Q
def iSeq (f : En → Option (R × En)) : En → Option (List D × En) := fun env => (f env).bind fun a => (frz a.2 a.1).bind fun b => match b.1 with
  | .lst xs => some (xs, b.2)
  | .scr ns => some (ns.map D.int, b.2)
  | _ => none
theorem itRep_list {a : Addr} {vs : List V} {ds : List D} (h : SqL K B a vs) (ra : RepAll K B vs ds) : ItRep K B (Itl K a) ds := by
  intro H x i
  have h' := ex_l x h
  refine ⟨fun hi => ⟨vs, h', by rw [ra.length]; exact hi⟩, fun d hd => ?_⟩
  obtain ⟨v, hv, rv⟩ := ra.get hd
  refine ⟨⟨vs, v, h', hv⟩, fun y H' hy => .inl ⟨hy.1, ?_⟩⟩
  have := hy.2 vs h'
  rw [hv] at this
  cases this
  exact rv
theorem si_list (h : SE K te fe) : SI K (iList K te) (iSeq fe) := by
  intro C hC B env σ H ds env' s e Q hq
  obtain ⟨⟨a, e1⟩, g1, e⟩ := Option.bind_eq_some_iff.mp e
  obtain ⟨⟨d, e2⟩, g2, e⟩ := Option.bind_eq_some_iff.mp e
  refine h C hC B env σ H a e1 s g1 _ fun v B1 H1 s1 x1 rr => ?_
  obtain ⟨B2, s2, x2, r2⟩ := frz_rep s1 rr g2
  rw [hC] at r2
  split at e
  · rename_i xs hx
    simp only at hx
    subst hx
    cases e
    obtain ⟨p, vs, rfl, h1, h2⟩ := r2.list
    exact ⟨p, rfl, ⟨vs, sq_of (s2.exB _ _ h1)⟩, hq _ B2 H1 s2 (x1.trans x2) (itRep_list (sq_of h1) h2)⟩
  · rename_i ns hx
    simp only at hx
    subst hx
    cases e
    obtain ⟨p, rfl, h1⟩ := r2.script
    exact ⟨p, rfl, ⟨_, ex_l s2.exB h1⟩, hq _ B2 H1 s2 (x1.trans x2) (itRep_list h1 (.of_ints ns))⟩
  · cases e
def iTupF (f : En → Option (R × En)) : En → Option (List D × En) := fun env => (f env).bind fun a => match a.1 with
  | .val (.tup xs) => some (xs, a.2)
  | _ => none
theorem si_tup (h : SE K te fe) : SI K (iTup K te) (iTupF fe) := by
  intro C hC B env σ H ds env' s e Q hq
  obtain ⟨⟨a, e1⟩, g1, e⟩ := Option.bind_eq_some_iff.mp e
  split at e
  · rename_i xs hx
    simp only at hx
    subst hx
    cases e
    refine h C hC B env σ H _ e1 s g1 _ fun v B1 H1 s1 x1 rr => ?_
    have rr : Rep C.K B1 v (.tup ds) := rr
    rw [hC] at rr
    obtain ⟨p, vs, rfl, h1, h2⟩ := rr.tuple
    refine ⟨p, rfl, ⟨vs, ex_t s1.exB h1⟩, hq _ B1 H1 s1 x1 fun H x i => ?_⟩
    have h' := ex_t x h1
    refine ⟨fun hi => ⟨vs, h', by rw [h2.length]; exact hi⟩, fun d hd => ?_⟩
    obtain ⟨w, hv, rv⟩ := h2.get hd
    refine ⟨⟨vs, w, h', hv⟩, fun y H' hy => .inl ⟨hy.1, ?_⟩⟩
    have := hy.2 vs h'
    rw [hv] at this
    cases this
    exact rv
  · cases e
def upTo (lo : Int) (n : Nat) : List D := (List.range n).map fun i => .int (lo + (i : Nat))
theorem upTo_length (lo : Int) (n : Nat) : (upTo lo n).length = n := by simp [upTo]
theorem upTo_get {lo : Int} {n i : Nat} {d : D} (h : (upTo lo n)[i]? = some d) : i < n ∧ d = .int (lo + (i : Nat)) := by
  have hi : i < n := by
    have := (List.getElem?_eq_some_iff.mp h).1
    rw [upTo_length] at this
    exact this
  unfold upTo at h
  rw [List.getElem?_map, List.getElem?_range hi] at h
  exact ⟨hi, (Option.some.inj h).symm⟩
theorem itRep_range {lo : Int} {n : Nat} : ItRep K B (Itr lo n) (upTo lo n) := by
  intro H x i
  refine ⟨fun hi => by rw [upTo_length] at hi; exact hi, fun d hd => ?_⟩
  obtain ⟨h1, rfl⟩ := upTo_get hd
  refine ⟨h1, fun y H' hy => .inl ⟨hy.1, ?_⟩⟩
  rw [hy.2]
  exact .int _
def iR1 (f : En → Option (List R × En)) : En → Option (List D × En) := fun env => (aD f env).bind fun a => match a.1 with
  | [.int j] => if -(2 ^ 62) ≤ j ∧ j < 2 ^ 62 then some (upTo 0 j.toNat, a.2) else none
  | _ => none
def iR2 (f : En → Option (List R × En)) : En → Option (List D × En) := fun env => (aD f env).bind fun a => match a.1 with
  | [.int i, .int j] => if -(2 ^ 62) ≤ i ∧ i < 2 ^ 62 ∧ -(2 ^ 62) ≤ j ∧ j < 2 ^ 62 then some (upTo i (j - i).toNat, a.2) else none
  | _ => none
theorem si_r1 {ta : TA} {f : En → Option (List R × En)} (h : SA K ta f) : SI K (iRng1 ta) (iR1 f) := by
  intro C hC B env σ H ds env' s e Q hq
  obtain ⟨⟨as, e1⟩, g1, e⟩ := Option.bind_eq_some_iff.mp e
  obtain ⟨rs, e0, g2, g3⟩ := aD_some g1
  split at e
  · rename_i j hj
    simp only at hj
    subst hj
    split at e
    · rename_i hb
      cases e
      refine h C hC B env σ H rs e0 s g2 _ fun vs B1 H1 s1 x1 rr => ?_
      obtain ⟨B2, s2, x2, ra⟩ := frzs_w s1 rr.w g3
      match vs, ra with
      | [.int _], .cons (.int _) .nil => exact ⟨j, rfl, hb.1, hb.2, hq _ B2 H1 s2 (x1.trans x2) itRep_range⟩
    · cases e
  · cases e
theorem si_r2 {ta : TA} {f : En → Option (List R × En)} (h : SA K ta f) : SI K (iRng2 ta) (iR2 f) := by
  intro C hC B env σ H ds env' s e Q hq
  obtain ⟨⟨as, e1⟩, g1, e⟩ := Option.bind_eq_some_iff.mp e
  obtain ⟨rs, e0, g2, g3⟩ := aD_some g1
  split at e
  · rename_i i j hj
    simp only at hj
    subst hj
    split at e
    · rename_i hb
      cases e
      refine h C hC B env σ H rs e0 s g2 _ fun vs B1 H1 s1 x1 rr => ?_
      obtain ⟨B2, s2, x2, ra⟩ := frzs_w s1 rr.w g3
      match vs, ra with
      | [.int _, .int _], .cons (.int _) (.cons (.int _) .nil) => exact ⟨i, j, rfl, hb, hq _ B2 H1 s2 (x1.trans x2) itRep_range⟩
    · cases e
  · cases e
/-- the items with their places -/
def enumD : Nat → List D → List D
  | _, [] => []
  | k, d :: ds => .tup [.int k, d] :: enumD (k + 1) ds
theorem enumD_length : ∀ (k : Nat) (ds : List D), (enumD k ds).length = ds.length
  | _, [] => rfl
  | k, d :: ds => congrArg (· + 1) (enumD_length (k + 1) ds)
theorem enumD_get : ∀ (k : Nat) (ds : List D) (i : Nat) (d : D), (enumD k ds)[i]? = some d → ∃ x, ds[i]? = some x ∧ d = .tup [.int ((k + i : Nat) : Int), x]
  | _, [], i, d, h => by
    unfold enumD at h
    simp at h
  | k, x :: ds, 0, d, h => by
    unfold enumD at h
    simp at h
    exact ⟨x, rfl, h.symm⟩
  | k, x :: ds, i + 1, d, h => by
    unfold enumD at h
    obtain ⟨y, h1, h2⟩ := enumD_get (k + 1) ds i d (by simpa using h)
    exact ⟨y, by simpa using h1, by rw [h2, show k + 1 + i = k + (i + 1) by omega]⟩
def zipD : List D → List D → List D
  | x :: xs, y :: ys => .tup [x, y] :: zipD xs ys
  | _, _ => []
theorem zipD_length : ∀ xs ys : List D, (zipD xs ys).length = min xs.length ys.length
  | [], ys => by simp [zipD]
  | x :: xs, [] => by simp [zipD]
  | x :: xs, y :: ys => by
    simp only [zipD, List.length_cons, zipD_length xs ys]
    omega
theorem zipD_get : ∀ (xs ys : List D) (i : Nat) (d : D), (zipD xs ys)[i]? = some d → ∃ x y, xs[i]? = some x ∧ ys[i]? = some y ∧ d = .tup [x, y]
  | [], ys, i, d, h => by simp [zipD] at h
  | x :: xs, [], i, d, h => by simp [zipD] at h
  | x :: xs, y :: ys, 0, d, h => by
    simp [zipD] at h
    exact ⟨x, y, rfl, rfl, h.symm⟩
  | x :: xs, y :: ys, i + 1, d, h => by
    obtain ⟨a, b, h1, h2, h3⟩ := zipD_get xs ys i d (by simpa [zipD] using h)
    exact ⟨a, b, by simpa using h1, by simpa using h2, h3⟩
end
end Vm

set_option Elab.async false
set_option linter.all false
set_option maxRecDepth 100000
namespace Vm
open PySem PySem.Spec PyProof.Rows L2 Evl
section
variable {K : PySem.W.Frag} {C : Ctx} {B B' G H H' : Hp} {env env' : En} {σ : L2.St} {v : V} {r : R} {d : D} {ta tb te : TE} {fa fb fe : En → Option (R × En)} {f : En → Option (R × En)} {X : Cx} {fix : List Nat} {W : WX}

def iEnumF (f : En → Option (List R × En)) : En → Option (List D × En) := fun env => (aD f env).bind fun a => match a.1 with
  | [d] => (seqOf d).map fun xs => (enumD 0 xs, a.2)
  | _ => none
theorem seqOf_data {xs : List D} (h : Rep K B v d) (q : seqOf d = some xs) : ∃ a vs, v = .ref a ∧ SqL K B a vs ∧ RepAll K B vs xs := seqOf_rep (Ex.refl B) (.inl h) q
theorem si_enum {ta : TA} {f : En → Option (List R × En)} (h : SA K ta f) : SI K (iEnum K ta) (iEnumF f) := by
  intro C hC B env σ H ds env' s e Q hq
  obtain ⟨⟨as, e1⟩, g1, e⟩ := Option.bind_eq_some_iff.mp e
  obtain ⟨rs, e0, g2, g3⟩ := aD_some g1
  split at e
  · rename_i d hd
    simp only at hd
    subst hd
    obtain ⟨xs, g4, e⟩ := Option.map_eq_some_iff.mp e
    cases e
    refine h C hC B env σ H rs e0 s g2 _ fun vs B1 H1 s1 x1 rr => ?_
    obtain ⟨B2, s2, x2, ra⟩ := frzs_w s1 rr.w g3
    match vs, ra with
    | [v], .cons rv .nil =>
      rw [hC] at rv
      obtain ⟨a, ws, rfl, h1, h2⟩ := seqOf_data rv g4
      refine ⟨a, ws, rfl, ex_l s2.exB h1, hq _ B2 H1 s2 (x1.trans x2) fun H x i => ?_⟩
      have h' := ex_l x h1
      refine ⟨fun hi => ⟨ws, h', by rw [h2.length]; rw [enumD_length] at hi; exact hi⟩, fun d hd => ?_⟩
      obtain ⟨y, hy, rfl⟩ := enumD_get 0 xs i d hd
      obtain ⟨w, hw, rw'⟩ := h2.get hy
      refine ⟨⟨ws, w, h', hw⟩, fun z H' hz => .inr ?_⟩
      obtain ⟨T, x', rfl, nT, rfl, k⟩ := hz
      have := k ws h'
      rw [hw] at this
      cases this
      exact ⟨T, _, _, nT, rfl, rfl, rfl, .cons (by rw [Nat.zero_add]; exact .int _) (.one rw')⟩
  · cases e
def iZipF (f : En → Option (List R × En)) : En → Option (List D × En) := fun env => (aD f env).bind fun a => match a.1 with
  | [c, d] => (seqOf c).bind fun xs => (seqOf d).map fun ys => (zipD xs ys, a.2)
  | _ => none
theorem si_zip {ta : TA} {f : En → Option (List R × En)} (h : SA K ta f) : SI K (iZip K ta) (iZipF f) := by
  intro C hC B env σ H ds env' s e Q hq
  obtain ⟨⟨as, e1⟩, g1, e⟩ := Option.bind_eq_some_iff.mp e
  obtain ⟨rs, e0, g2, g3⟩ := aD_some g1
  split at e
  · rename_i c d hd
    simp only at hd
    subst hd
    obtain ⟨xs, g4, e⟩ := Option.bind_eq_some_iff.mp e
    obtain ⟨ys, g5, e⟩ := Option.map_eq_some_iff.mp e
    cases e
    refine h C hC B env σ H rs e0 s g2 _ fun vs B1 H1 s1 x1 rr => ?_
    obtain ⟨B2, s2, x2, ra⟩ := frzs_w s1 rr.w g3
    match vs, ra with
    | [v, u], .cons rv (.cons ru .nil) =>
      rw [hC] at rv ru
      obtain ⟨a, ws, rfl, h1, h2⟩ := seqOf_data rv g4
      obtain ⟨b, us, rfl, h3, h4⟩ := seqOf_data ru g5
      refine ⟨a, b, ws, us, rfl, ex_l s2.exB h1, ex_l s2.exB h3, hq _ B2 H1 s2 (x1.trans x2) fun H x i => ?_⟩
      have h' := ex_l x h1
      have h3' := ex_l x h3
      refine ⟨fun hi => ⟨ws, us, h', h3', by rw [h2.length, h4.length]; rw [zipD_length] at hi; omega⟩, fun d hd => ?_⟩
      obtain ⟨y, z, hy, hz, rfl⟩ := zipD_get xs ys i d hd
      obtain ⟨w, hw, rw'⟩ := h2.get hy
      obtain ⟨u, hu, ru'⟩ := h4.get hz
      refine ⟨⟨ws, us, w, u, h', h3', hw, hu⟩, fun q H' hq' => .inr ?_⟩
      obtain ⟨T, x', y', rfl, nT, rfl, k1, k2⟩ := hq'
      have q1 := k1 ws h'
      have q2 := k2 us h3'
      rw [hw] at q1
      rw [hu] at q2
      cases q1
      cases q2
      exact ⟨T, _, _, nT, rfl, rfl, rfl, .cons rw' (.one ru')⟩
  · cases e

def loopS (tgt : D → En → Option En) (body : En → Option Out) : List D → En → Option Out
  | [], env => some (.nx env)
  | d :: ds, env => (tgt d env).bind fun e1 => (body e1).bind fun o => match o with
    | .nx e2 => loopS tgt body ds e2
    | .ct e2 => loopS tgt body ds e2
    | .bk e2 => some (.nx e2)
    | o => some o
def sFor (fi : En → Option (List D × En)) (tgt : D → En → Option En) (body : En → Option Out) : En → Option Out := fun env => (fi env).bind fun a => loopS tgt body a.1 a.2
theorem ss_for {wi : TI} {g : TG} {tv : List Nat} {tb : TS} {fi : En → Option (List D × En)} {tgt : D → En → Option En} {body : En → Option Out} (hi : SI K wi fi) (hg : SG K fix tv g tgt) (hb : SS K fix W tb body) : SS K fix W (tFor wi g tb) (sFor fi tgt body) := by
  intro C hC hF B env σ H o s e Dn p
  obtain ⟨⟨ds, e0⟩, g0, e⟩ := Option.bind_eq_some_iff.mp e
  refine hi C hC B env σ H ds e0 s g0 _ fun J B0 H0 s0 x0 hJ => ?_
  refine ⟨fun i m σ' H' => m + i = ds.length ∧ ∃ B1 e1, SR C B1 e1 σ' H' ∧ Ex B0 B1 ∧ loopS tgt body (ds.drop i) e1 = some o, ⟨ds.length, by omega, B0, e0, s0, Ex.refl _, by simpa using e⟩, ?_⟩
  rintro i m σ1 H1 ⟨hm, B1, e1, s1, x1, hl⟩
  obtain ⟨hs, hgo⟩ := hJ H1 (fun a u q => s1.exB a u (x1 a u q)) i
  cases hd : ds[i]? with
  | none =>
    have hle : ds.length ≤ i := List.getElem?_eq_none_iff.mp hd
    refine .inl ⟨hs hle, ?_⟩
    rw [List.drop_eq_nil_of_le hle] at hl
    cases hl
    exact p B1 σ1 H1 s1 (x0.trans x1)
  | some d =>
    have hlt : i < ds.length := (List.getElem?_eq_some_iff.mp hd).1
    have hdrop : ds.drop i = d :: ds.drop (i + 1) := by
      rw [List.drop_eq_getElem_cons hlt]
      have : ds[i] = d := by
        rw [List.getElem?_eq_getElem hlt] at hd
        exact Option.some.inj hd
      rw [this]
    rw [hdrop] at hl
    obtain ⟨e2, g2, hl⟩ := Option.bind_eq_some_iff.mp hl
    obtain ⟨o2, g3, hl⟩ := Option.bind_eq_some_iff.mp hl
    obtain ⟨go, hy⟩ := hgo d hd
    refine .inr ⟨go, fun σ' H' => ∃ B2 e3, SR C B2 e3 σ' H' ∧ Ex B0 B2 ∧ loopS tgt body (ds.drop (i + 1)) e3 = some o, fun σ' H' ⟨B2, e3, q1, q2, q3⟩ => ⟨m - 1, by omega, by omega, B2, e3, q1, q2, q3⟩, fun x H' hx => ?_⟩
    -- the turn's item as data
    have item : ∃ B2, SR C B2 e1 σ1 H' ∧ Ex B1 B2 ∧ Rep K B2 x d := by
      rcases hy x H' hx with ⟨rfl, rx⟩ | ⟨T, vs, xs, nT, rfl, rfl, rfl, ra⟩
      · exact ⟨B1, s1, Ex.refl _, rx.mono x1⟩
      · have bT := fresh_back s1.exB nT
        exact ⟨_, s1.alloc nT, Ex.new bT, .tup (st_of upd_same) (ra.mono (x1.trans (Ex.new bT)))⟩
    obtain ⟨B2, s2, x2, rx⟩ := item
    refine hg C hC hF B2 e1 σ1 H' x d e2 s2 rx g2 _ fun σ2 s3 _ => ?_
    refine hb C hC hF B2 e2 σ2 H' o2 s3 g3 _ ?_
    have x12 := x1.trans x2
    cases o2 with
    | nx e3 => exact fun B3 σ3 H3 s4 x4 => ⟨B3, e3, s4, x12.trans x4, hl⟩
    | ct e3 => exact fun B3 σ3 H3 s4 x4 => ⟨B3, e3, s4, x12.trans x4, hl⟩
    | bk e3 =>
      cases hl
      exact fun B3 σ3 H3 s4 x4 => p B3 σ3 H3 s4 (x0.trans (x12.trans x4))
    | rt r e3 =>
      cases hl
      exact fun v B3 σ3 H3 s4 x4 rr => p v B3 σ3 H3 s4 (x0.trans (x12.trans x4)) rr
    | er c e3 =>
      cases hl
      exact fun B3 σ3 H3 s4 x4 => p B3 σ3 H3 s4 (x0.trans (x12.trans x4))

def loopW (test : En → Option (Bool × En)) (body : En → Option Out) : Nat → En → Option Out
  | 0, _ => none
  | n + 1, env => (test env).bind fun b => if b.1 then (body b.2).bind fun o => match o with
      | .nx e2 => loopW test body n e2
      | .ct e2 => loopW test body n e2
      | .bk e2 => some (.nx e2)
      | o => some o
    else some (.nx b.2)
def sWhile (fuel : Nat) (test : En → Option (Bool × En)) (body : En → Option Out) : En → Option Out := loopW test body fuel
theorem ss_while {c : TT} {tb : TS} {test : En → Option (Bool × En)} {body : En → Option Out} (fuel : Nat) (hc : ST K c test) (hb : SS K fix W tb body) : SS K fix W (tWhile c tb) (sWhile fuel test body) := by
  intro C hC hF B env σ H o s e Dn p
  refine ⟨fun n σ' H' => ∃ B1 e1, SR C B1 e1 σ' H' ∧ Ex B B1 ∧ loopW test body n e1 = some o, ⟨fuel, B, env, s, Ex.refl _, e⟩, ?_⟩
  rintro n σ1 H1 ⟨B1, e1, s1, x1, hl⟩
  cases n with
  | zero => cases hl
  | succ n =>
    obtain ⟨⟨b, e2⟩, g1, hl⟩ := Option.bind_eq_some_iff.mp hl
    refine hc C hC B1 e1 σ1 H1 b e2 s1 g1 _ fun B2 H2 s2 x2 => ?_
    cases b with
    | false =>
      cases hl
      exact p B2 σ1 H2 s2 (x1.trans x2)
    | true =>
      obtain ⟨o2, g3, hl⟩ := Option.bind_eq_some_iff.mp hl
      show ∃ N : L2.St → Hp → Prop, _
      refine ⟨fun σ' H' => ∃ B2 e3, SR C B2 e3 σ' H' ∧ Ex B B2 ∧ loopW test body n e3 = some o, fun σ' H' ⟨B3, e3, q1, q2, q3⟩ => ⟨n, Nat.lt_succ_self n, B3, e3, q1, q2, q3⟩, ?_⟩
      refine hb C hC hF B2 e2 σ1 H2 o2 s2 g3 _ ?_
      have x12 := x1.trans x2
      cases o2 with
      | nx e3 => exact fun B3 σ3 H3 s4 x4 => ⟨B3, e3, s4, x12.trans x4, hl⟩
      | ct e3 => exact fun B3 σ3 H3 s4 x4 => ⟨B3, e3, s4, x12.trans x4, hl⟩
      | bk e3 =>
        cases hl
        exact fun B3 σ3 H3 s4 x4 => p B3 σ3 H3 s4 (x12.trans x4)
      | rt r e3 =>
        cases hl
        exact fun v B3 σ3 H3 s4 x4 rr => p v B3 σ3 H3 s4 (x12.trans x4) rr
      | er c e3 =>
        cases hl
        exact fun B3 σ3 H3 s4 x4 => p B3 σ3 H3 s4 (x12.trans x4)

/-! ### comprehensions -/
def wipeE (env : En) : List Nat → En
  | [] => env
  | v :: vs => (wipeE env vs).set v .un
theorem wipeE_length (env : En) : ∀ vs : List Nat, (wipeE env vs).length = env.length
  | [] => rfl
  | v :: vs => by unfold wipeE; rw [List.length_set, wipeE_length env vs]
theorem wipeE_out {i : Nat} : ∀ {vs : List Nat}, i ∉ vs → (wipeE env vs)[i]? = env[i]?
  | [], _ => rfl
  | v :: vs, h => by
    unfold wipeE
    rw [List.getElem?_set_ne (fun e => h (by rw [e]; exact List.mem_cons_self)), wipeE_out fun z => h (List.mem_cons_of_mem _ z)]
theorem wipe_out {i : Nat} : ∀ {vs : List Nat}, i ∉ vs → (wipe σ vs)[i]? = σ[i]?
  | [], _ => rfl
  | v :: vs, h => by
    unfold wipe
    rw [List.getElem?_set_ne (fun e => h (by rw [e]; exact List.mem_cons_self)), wipe_out fun z => h (List.mem_cons_of_mem _ z)]
theorem wipeE_in {i : Nat} : ∀ {vs : List Nat}, i ∈ vs → i < env.length → (wipeE env vs)[i]? = some .un
  | v :: vs, h, hl => by
    unfold wipeE
    by_cases e : v = i
    · subst e
      rw [List.getElem?_set_self (by rw [wipeE_length]; exact hl)]
    · rw [List.getElem?_set_ne e]
      exact wipeE_in ((List.mem_cons.mp h).resolve_left fun z => e z.symm) hl
/-- no own list stands in these slots -/
def plainAt (env : En) (vs : List Nat) : Bool := vs.all fun i => match env[i]? with
  | some (.ow _) => false
  | _ => true
theorem plainAt_no {vs : List Nat} {i : Nat} {xs : List D} (h : plainAt env vs = true) (hi : i ∈ vs) : env[i]? ≠ some (.ow xs) := fun e => by
  have := List.all_eq_true.mp h i hi
  rw [e] at this
  cases this
/-- the block's own slots as they were ahead of it -/
def back (env e2 : En) : List Nat → En
  | [] => e2
  | v :: vs => (back env e2 vs).set v (env[v]?.getD .un)
theorem back_length (env e2 : En) : ∀ vs : List Nat, (back env e2 vs).length = e2.length
  | [] => rfl
  | v :: vs => by unfold back; rw [List.length_set, back_length env e2 vs]
theorem back_out {e2 : En} {i : Nat} : ∀ {vs : List Nat}, i ∉ vs → (back env e2 vs)[i]? = e2[i]?
  | [], _ => rfl
  | v :: vs, h => by
    unfold back
    rw [List.getElem?_set_ne (fun e => h (by rw [e]; exact List.mem_cons_self)), back_out fun z => h (List.mem_cons_of_mem _ z)]
theorem back_in {e2 : En} {i : Nat} : ∀ {vs : List Nat}, i ∈ vs → i < e2.length → (back env e2 vs)[i]? = some (env[i]?.getD .un)
  | v :: vs, h, hl => by
    unfold back
    by_cases e : v = i
    · subst e
      rw [List.getElem?_set_self (by rw [back_length]; exact hl)]
    · rw [List.getElem?_set_ne e]
      exact back_in ((List.mem_cons.mp h).resolve_left fun z => e z.symm) hl
/-- an object that is nobody's data changes -/
theorem SR.poke (s : SR C B env σ H) {p : Addr} {o : HO} (bp : B p = none) (gp : C.G p = none) (off : Off env σ p) : SR C B env σ (upd H p o) := by
  refine ⟨fun a u e => by rw [upd_ne (ne_of_none e gp)]; exact s.exG a u e, fun a u e => by rw [upd_ne (ne_of_none e bp)]; exact s.exB a u e, s.ex0, s.new, s.len, fun i t h => ?_, s.dis, s.fx⟩
  refine (s.sl i t h).mono (Ex.refl _) fun q e ⟨xs, ex⟩ => ?_
  subst ex
  obtain ⟨p', vs, e1, hb, _, hh, _⟩ := s.sl i _ h
  rw [e] at e1
  cases e1
  exact ⟨hb, upd_ne fun z => off i _ h (by rw [e, z])⟩
/-- the slots of fix as they are told, but for those of the block -/
def Ctx.blk (C : Ctx) (vs : List Nat) : Ctx := { C with fix := [], σ0 := [] }
theorem SR.wiped (s : SR C B env σ H) (vs : List Nat) : SR (C.blk vs) B (wipeE env vs) (wipe σ vs) H := by
  refine ⟨s.exG, s.exB, s.ex0, s.new, by rw [wipeE_length, wipe_length]; exact s.len, fun i t h => ?_, fun i j p xs ys e1 e2 h1 h2 => ?_, fun j hj => by cases hj⟩
  · by_cases hi : i ∈ vs
    · have hl : i < env.length := by
        have := (List.getElem?_eq_some_iff.mp h).1
        rw [wipeE_length] at this
        exact this
      rw [wipeE_in hi hl] at h
      cases h
      trivial
    · rw [wipeE_out hi] at h
      rw [wipe_out hi]
      exact s.sl i t h
  · have hi : i ∉ vs := fun hi => by
      have hl : i < env.length := by
        have := (List.getElem?_eq_some_iff.mp e1).1
        rw [wipeE_length] at this
        exact this
      rw [wipeE_in hi hl] at e1
      cases e1
    have hj : j ∉ vs := fun hi => by
      have hl : j < env.length := by
        have := (List.getElem?_eq_some_iff.mp e2).1
        rw [wipeE_length] at this
        exact this
      rw [wipeE_in hi hl] at e2
      cases e2
    rw [wipeE_out hi] at e1
    rw [wipeE_out hj] at e2
    rw [wipe_out hi] at h1
    rw [wipe_out hj] at h2
    exact s.dis i j p xs ys e1 e2 h1 h2
theorem SR.restored {e2 : En} {B2 H2 : Hp} {vs : List Nat} {σ2 : L2.St} (s : SR C B env σ H) (hp : plainAt env vs = true) (x : Ex B B2) (s2 : SR (C.blk vs) B2 e2 σ2 H2) (hl : e2.length = env.length) (hσ : ∀ i, i ∉ vs → σ2[i]? = σ[i]?) : SR C B2 (back env e2 vs) σ H2 := by
  refine ⟨s2.exG, s2.exB, s2.ex0, s2.new, by rw [back_length, hl]; exact s.len, fun i t h => ?_, fun i j p xs ys e1 e2' h1 h2 => ?_, s.fx⟩
  · by_cases hi : i ∈ vs
    · have hlt : i < e2.length := by
        have := (List.getElem?_eq_some_iff.mp h).1
        rw [back_length] at this
        exact this
      rw [back_in hi hlt] at h
      cases h
      cases q : env[i]? with
      | none =>
        rw [hl] at hlt
        exact absurd hlt (Nat.not_lt.mpr (List.getElem?_eq_none_iff.mp q))
      | some t =>
        have w := s.sl i t q
        cases t with
        | un => trivial
        | sh d =>
          obtain ⟨v, e1, r⟩ := w
          exact ⟨v, e1, r.mono x⟩
        | ow xs => exact absurd q (plainAt_no hp hi)
    · rw [back_out hi] at h
      rw [← hσ i hi]
      exact s2.sl i t h
  · have out : ∀ k zs, (back env e2 vs)[k]? = some (.ow zs) → k ∉ vs := fun k zs e hk => by
      have hlt : k < e2.length := by
        have := (List.getElem?_eq_some_iff.mp e).1
        rw [back_length] at this
        exact this
      rw [back_in hk hlt] at e
      cases q : env[k]? with
      | none => rw [q] at e; cases e
      | some t =>
        rw [q] at e
        have : t = .ow zs := Option.some.inj e
        rw [this] at q
        exact plainAt_no hp hk q
    have hi := out i xs e1
    have hj := out j ys e2'
    rw [back_out hi] at e1
    rw [back_out hj] at e2'
    exact s2.dis i j p xs ys e1 e2' (by rw [hσ i hi]; exact h1) (by rw [hσ j hj]; exact h2)
def lcF (vs : List Nat) (tgt : D → En → Option En) (test : En → Option (Bool × En)) (elt : En → Option (R × En)) : List D → En → List D → Option (List D × En)
  | [], env, acc => some (acc, env)
  | d :: ds, env, acc => (tgt d env).bind fun e1 => (test e1).bind fun b => if b.1 then (elt b.2).bind fun r => (frz r.2 r.1).bind fun a => lcF vs tgt test elt ds (wipeE a.2 vs) (acc ++ [a.1]) else lcF vs tgt test elt ds (wipeE b.2 vs) acc
def eLc (vs : List Nat) (fi : En → Option (List D × En)) (tgt : D → En → Option En) (test : En → Option (Bool × En)) (elt : En → Option (R × En)) : En → Option (R × En) := fun env => (fi env).bind fun a =>
  if a.1.length < 1000000 ∧ plainAt a.2 vs = true then (lcF vs tgt test elt a.1 (wipeE a.2 vs) []).map fun b => (.fr b.1, back a.2 b.2 vs) else none
def bYes : En → Option (Bool × En) := fun env => some (true, env)
theorem st_yes : ST K tYes bYes := by
  intro C hC B env σ H b env' s e Q hq
  cases e
  exact hq B H s (Ex.refl _)
theorem wipe_get {i : Nat} : ∀ {vs : List Nat}, i ∈ vs → i < σ.length → (wipe σ vs)[i]? = some none
  | v :: vs, h, hl => by
    unfold wipe
    by_cases e : v = i
    · subst e
      rw [List.getElem?_set_self (by rw [wipe_length]; exact hl)]
    · rw [List.getElem?_set_ne e]
      exact wipe_get ((List.mem_cons.mp h).resolve_left fun z => e z.symm) hl
theorem wipe_ext {σ2 : L2.St} {vs : List Nat} (hl : σ2.length = σ.length) (h : ∀ i, i ∉ vs → σ2[i]? = σ[i]?) : wipe σ2 vs = wipe σ vs := by
  refine List.ext_getElem? fun i => ?_
  by_cases hi : i ∈ vs
  · by_cases hlt : i < σ.length
    · rw [wipe_get hi (by rw [hl]; exact hlt), wipe_get hi hlt]
    · rw [List.getElem?_eq_none (by rw [wipe_length]; omega), List.getElem?_eq_none (by rw [wipe_length]; omega)]
  · rw [wipe_out hi, wipe_out hi]
    exact h i hi
theorem se_lc {vs tv : List Nat} {wi : TI} {g : TG} {tt : TT} {fi : En → Option (List D × En)} {tgt : D → En → Option En} {test : En → Option (Bool × En)} (hi : SI K wi fi) (hg : SG K [] tv g tgt) (htv : ∀ i ∈ tv, i ∈ vs) (ht : ST K tt test) (he : SE K te fe) :
    SE K (tLc wi g tt te vs) (eLc vs fi tgt test fe) := by
  intro C hC B env σ H r env' s e Q hq
  obtain ⟨⟨ds, e0⟩, g0, e⟩ := Option.bind_eq_some_iff.mp e
  split at e
  · rename_i hh
    obtain ⟨hlen, hpl⟩ := hh
    obtain ⟨⟨ys, eE⟩, g1, e⟩ := Option.map_eq_some_iff.mp e
    cases e
    simp only at hlen hpl g1
    refine hi C hC B env σ H ds e0 s g0 _ fun J B0 H0 s0 x0 hJ => ?_
    intro Da nD
    have w0 := (s0.temp (o := HO.lst []) nD).wiped vs
    have b0 := fresh_back s0.exB nD
    have gD := fresh_back s0.exG nD
    refine ⟨fun i m H' => m + i = ds.length ∧ ∃ B1 e1 acc ws, SR (C.blk vs) B1 e1 (wipe σ vs) H' ∧ Ex B0 B1 ∧ B1 Da = none ∧ H' Da = some (.lst ws) ∧ RepAll C.K B1 ws acc ∧ Off e1 (wipe σ vs) Da ∧ acc.length ≤ i ∧ lcF vs tgt test fe (ds.drop i) e1 acc = some (ys, eE),
      ⟨ds.length, by omega, B0, _, [], [], w0, Ex.refl _, b0, upd_same, .nil, ?_, Nat.le_refl _, by simpa using g1⟩, ?_⟩
    · intro j zs h1 h2
      have := ((s0.wiped vs)).off nD
      exact this j zs h1 h2
    rintro i m H1 ⟨hm, B1, e1, acc, ws, s1, x1, b1, hD, ra, off1, hacc, hl⟩
    obtain ⟨hs, hgo⟩ := hJ H1 (fun a u q => s1.exB a u (x1 a u q)) i
    cases hd : ds[i]? with
    | none =>
      have hle : ds.length ≤ i := List.getElem?_eq_none_iff.mp hd
      rw [List.drop_eq_nil_of_le hle] at hl
      cases hl
      refine .inl ⟨hs hle, ?_⟩
      have hel : eE.length = e0.length := by
        have h1 := s1.len
        have h2 := s0.len
        rw [wipe_length] at h1
        omega
      have s2 : SR C B1 (back e0 eE vs) σ H1 := s0.restored hpl x1 s1 hel fun i hi => wipe_out hi
      refine hq (.ref Da) B1 H1 s2 (x0.trans x1) ⟨Da, ws, rfl, b1, gD, hD, ra, ?_⟩
      intro j zs h1 h2
      by_cases hj : j ∈ vs
      · by_cases hjl : j < eE.length
        · rw [back_in hj hjl] at h1
          cases q : e0[j]? with
          | none => rw [q] at h1; cases h1
          | some t =>
            rw [q] at h1
            have : t = .ow zs := Option.some.inj h1
            rw [this] at q
            exact plainAt_no hpl hj q
        · rw [List.getElem?_eq_none (by rw [back_length]; exact Nat.le_of_not_lt hjl)] at h1
          cases h1
      · rw [back_out hj] at h1
        exact off1 j zs h1 (by rw [wipe_out hj]; exact h2)
    | some d =>
      have hlt : i < ds.length := (List.getElem?_eq_some_iff.mp hd).1
      have hdrop : ds.drop i = d :: ds.drop (i + 1) := by
        rw [List.drop_eq_getElem_cons hlt]
        have : ds[i] = d := by
          rw [List.getElem?_eq_getElem hlt] at hd
          exact Option.some.inj hd
        rw [this]
      rw [hdrop] at hl
      obtain ⟨e2, g2, hl⟩ := Option.bind_eq_some_iff.mp hl
      obtain ⟨⟨b, e3⟩, g3, hl⟩ := Option.bind_eq_some_iff.mp hl
      obtain ⟨go, hy⟩ := hgo d hd
      -- what the next turn is to find
      let Nx : Hp → Prop := fun H' => ∃ B1 e1 acc ws, SR (C.blk vs) B1 e1 (wipe σ vs) H' ∧ Ex B0 B1 ∧ B1 Da = none ∧ H' Da = some (.lst ws) ∧ RepAll C.K B1 ws acc ∧ Off e1 (wipe σ vs) Da ∧ acc.length ≤ i + 1 ∧ lcF vs tgt test fe (ds.drop (i + 1)) e1 acc = some (ys, eE)
      refine .inr ⟨go, Nx, fun H' ⟨B2, e4, a2, w2, q⟩ => ⟨m - 1, by omega, by omega, B2, e4, a2, w2, q⟩, fun x H' hx => ?_⟩
      have item : ∃ B2, SR (C.blk vs) B2 e1 (wipe σ vs) H' ∧ Ex B1 B2 ∧ Rep K B2 x d ∧ B2 Da = none ∧ H' Da = some (.lst ws) := by
        rcases hy x H' hx with ⟨rfl, rx⟩ | ⟨T, vs', xs, nT, rfl, rfl, rfl, ra'⟩
        · exact ⟨B1, s1, Ex.refl _, rx.mono x1, b1, hD⟩
        · have bT := fresh_back s1.exB nT
          have ne : Da ≠ T := ne_of_none hD nT
          exact ⟨_, s1.alloc nT, Ex.new bT, .tup (st_of upd_same) (ra'.mono (x1.trans (Ex.new bT))), by rw [upd_ne ne]; exact b1, by rw [upd_ne ne]; exact hD⟩
      obtain ⟨B2, s2, x2, rx, b2, hD2⟩ := item
      have x12 := x1.trans x2
      let T : Hp := fun q => if q = Da then H' q else none
      have hT : T Da = some (.lst ws) := by
        show (if Da = Da then H' Da else none) = _
        rw [if_pos rfl]
        exact hD2
      have hTn : T Da ≠ none := by rw [hT]; exact fun z => nomatch z
      have only : ∀ q, T q ≠ none → q = Da := fun q h => Classical.byContradiction fun z => h (show (if q = Da then H' q else none) = none by rw [if_neg z])
      have exT : Ex T H' := fun q o h => by
        have e := only q (by rw [h]; exact fun z => nomatch z)
        subst e
        rw [hT] at h
        cases h
        exact hD2
      have nbT : ∀ q, T q ≠ none → B2 q = none := fun q h => by rw [only q h]; exact b2
      have tT : Tmp B2 e1 (wipe σ vs) H' T := ⟨exT, nbT, fun q h => by rw [only q h]; exact off1⟩
      have leave : ∀ {B5 H5 : Hp} {e5 : En} {σ5 : L2.St}, Ex B2 B5 → SR ((C.blk vs).plus T) B5 e5 σ5 H5 → SR (C.blk vs) B5 e5 σ5 H5 ∧ B5 Da = none ∧ H5 Da = some (.lst ws) ∧ Off e5 σ5 Da := fun x5 s5 => by
        obtain ⟨q1, q2⟩ := SR.minus s2.exG exT nbT x5 s5 s2.ex0
        exact ⟨q1, q2.nb Da hTn, q2.ex Da _ hT, q2.off Da hTn⟩
      refine hg ((C.blk vs).plus T) hC rfl B2 e1 (wipe σ vs) H' x d e2 (s2.plus tT) rx g2 _ fun σ2 s3 kσ => ?_
      have hw : wipe σ2 vs = wipe σ vs := by
        have := wipe_ext (σ := wipe σ vs) (σ2 := σ2) (vs := vs) kσ.1 fun i hi => kσ.2 i fun z => hi (htv i z)
        rw [this]
        exact wipe_ext (wipe_length σ vs) fun i hi => wipe_out hi
      refine ⟨hw, ?_⟩
      have rest : ∀ (B5 H5 : Hp) (e5 : En) (w5 : List V) (a5 : List D), SR (C.blk vs) B5 e5 σ2 H5 → Ex B0 B5 → B5 Da = none → H5 Da = some (.lst w5) → RepAll C.K B5 w5 a5 → Off e5 σ2 Da → a5.length ≤ i + 1 → lcF vs tgt test fe (ds.drop (i + 1)) (wipeE e5 vs) a5 = some (ys, eE) → Nx H5 := by
        intro B5 H5 e5 w5 a5 s5 x5 b5 h5 r5 o5 l5 c5
        have s6 : SR (C.blk vs) B5 (wipeE e5 vs) (wipe σ2 vs) H5 := s5.wiped vs
        rw [hw] at s6
        refine ⟨B5, _, a5, w5, s6, x5, b5, h5, r5, fun j zs h1 h2 => ?_, l5, c5⟩
        have hj : j ∉ vs := fun hj => by
          have hl : j < e5.length := by
            have := (List.getElem?_eq_some_iff.mp h1).1
            rw [wipeE_length] at this
            exact this
          rw [wipeE_in hj hl] at h1
          cases h1
        rw [wipeE_out hj] at h1
        rw [← hw, wipe_out hj] at h2
        exact o5 j zs h1 h2
      refine ht ((C.blk vs).plus T) hC B2 e2 σ2 H' b e3 s3 g3 _ fun B3 H3 s4 x4 => ?_
      cases b with
      | false =>
        show Nx H3
        obtain ⟨q1, q2, q3, q4⟩ := leave x4 s4
        exact rest B3 H3 e3 ws acc q1 (x12.trans x4) q2 q3 (ra.mono (x2.trans x4)) q4 (Nat.le_succ_of_le hacc) hl
      | true =>
        obtain ⟨⟨r5, e5⟩, g5, hl⟩ := Option.bind_eq_some_iff.mp hl
        obtain ⟨⟨d6, e6⟩, g6, hl⟩ := Option.bind_eq_some_iff.mp hl
        show te σ2 H3 _
        refine he ((C.blk vs).plus T) hC B3 e3 σ2 H3 r5 e5 s4 g5 _ fun y B5 H5 s5 x5 r5' => ?_
        obtain ⟨B6, s6, x6, rd⟩ := frz_rep s5 r5' g6
        have x46 := (x4.trans x5).trans x6
        obtain ⟨q1, q2, q3, q4⟩ := leave x46 s6
        refine ⟨ws, q3, ?_, ?_⟩
        · have := (ra.length : ws.length = acc.length)
          rw [this]
          exact mil (by omega)
        · exact rest B6 _ e6 (ws ++ [y]) (acc ++ [d6]) (q1.poke q2 gD q4) (x12.trans x46) q2 upd_same ((ra.mono (x2.trans x46)).append (.one rd)) q4 (by rw [List.length_append]; exact Nat.succ_le_succ hacc) hl
  · cases e
end
end Vm

set_option Elab.async false
set_option linter.all false
set_option maxRecDepth 100000
namespace Vm
open PySem PySem.Spec PyProof.Rows L2 Evl

/-! ### a def as a function -/
/-- what a call gives: a value, or a new list; with what the parameters' own lists hold then -/
inductive Res where
  | val (d : D) (env : En) | fr (xs : List D) (env : En) | er (c : Str) (env : En)

/-- the heap but for the own lists -/
noncomputable def Rest (env : En) (σ : L2.St) (H : Hp) : Hp := fun q =>
  haveI := Classical.propDecidable (Off env σ q)
  if Off env σ q then H q else none
def Cx0 (K : PySem.W.Frag) (G B : Hp) : Ctx := ⟨K, G, B, [], []⟩
def PostM (K : PySem.W.Frag) (B : Hp) (env : En) (σ : L2.St) (H : Hp) (Q : VK) (E : XK) : Res → Prop
  | .val d env' => ∀ v B' H', SR (Cx0 K (Rest env σ H) B) B' env' σ H' → Ex B B' → Rep K B' v d → Q v H'
  | .fr xs env' => ∀ v B' H', SR (Cx0 K (Rest env σ H) B) B' env' σ H' → Ex B B' → RepR (Cx0 K (Rest env σ H) B) B' env' σ H' v (.fr xs) → Q v H'
  | .er c env' => ∀ B' H', SR (Cx0 K (Rest env σ H) B) B' env' σ H' → Ex B B' → E (.ref (clsOf K c)) none H'
def none0 : Hp := fun _ => none
def SpM (K : PySem.W.Frag) (n : Nat) (m : En → Option Res) : Sp := fun vs H Q E => vs.length = n ∧ ∃ B env res, SR (Cx0 K none0 B) B env (vs.map some) H ∧ m env = some res ∧ PostM K B env (vs.map some) H Q E res

section
variable {K : PySem.W.Frag} {C : Ctx} {B B' G H H' : Hp} {env env' : En} {σ : L2.St} {v : V} {r : R} {d : D} {ta tb te : TE} {fa fb fe : En → Option (R × En)} {f : En → Option (R × En)} {X : Cx} {fix : List Nat} {W : WX}

theorem rest_of {q : Addr} (h : Off env σ q) : Rest env σ H q = H q := by
  unfold Rest
  exact if_pos h
theorem rest_no {q : Addr} (h : ¬ Off env σ q) : Rest env σ H q = none := by
  unfold Rest
  exact if_neg h
theorem rest_ex : Ex (Rest env σ H) H := fun q o e => by
  by_cases h : Off env σ q
  · rw [rest_of h] at e; exact e
  · rw [rest_no h] at e; cases e
theorem rest_none {q : Addr} (e : Rest env σ H q = none) : H q = none ∨ ¬ Off env σ q := by
  by_cases h : Off env σ q
  · rw [rest_of h] at e; exact .inl e
  · exact .inr h

/-- the parameters' slots behind the body: those of fix as they are, nothing known of the others -/
def params (fix : List Nat) (n : Nat) (env : En) : En := (List.range n).map fun j => if j ∈ fix then env[j]?.getD .un else .un
theorem params_length {fix : List Nat} {n : Nat} : (params fix n env).length = n := by simp [params]
theorem params_get {fix : List Nat} {n i : Nat} {t : Sl} (h : (params fix n env)[i]? = some t) : i < n ∧ ((i ∈ fix ∧ (env[i]? = some t ∨ t = .un)) ∨ t = .un) := by
  have hi : i < n := by
    have := (List.getElem?_eq_some_iff.mp h).1
    rw [params_length] at this
    exact this
  refine ⟨hi, ?_⟩
  unfold params at h
  rw [List.getElem?_map, List.getElem?_range hi] at h
  have h : (if i ∈ fix then env[i]?.getD .un else .un) = t := Option.some.inj h
  by_cases hf : i ∈ fix
  · rw [if_pos hf] at h
    refine .inl ⟨hf, ?_⟩
    cases q : env[i]? with
    | none => rw [q] at h; exact .inr h.symm
    | some u =>
      rw [q] at h
      exact .inl (by rw [← h]; rfl)
  · rw [if_neg hf] at h
    exact .inr h.symm
/-- the body as a function of the parameters: n of them, k further names -/
def bodyM (fix : List Nat) (n k : Nat) (F : En → Option Out) : En → Option Res := fun env => if env.length = n then (F (env ++ List.replicate k .un)).bind fun o => match o with
  | .nx e => some (.val .non (params fix n e))
  | .rt (.val d) e => some (.val d (params fix n e))
  | .rt (.fr xs) e => some (.fr xs (params fix n e))
  | .rt (.al i) e => match e[i]? with
    | some (.ow xs) => if n ≤ i then some (.fr xs (params fix n e)) else none
    | some (.sh d) => some (.val d (params fix n e))
    | _ => none
  | .er c e => some (.er c (params fix n e))
  | _ => none else none
theorem start_get {N : List Str} {vs : List V} {i : Nat} (h : i < vs.length) : (L2.start N vs)[i]? = (vs.map some)[i]? := by
  unfold L2.start
  rw [List.getElem?_append_left (by simpa using h)]
theorem start_length {N : List Str} {vs : List V} (h : vs.length ≤ N.length) : (L2.start N vs).length = N.length := by
  unfold L2.start
  rw [List.length_append, List.length_map, List.length_replicate]
  omega
/-- at the entry of a body -/
theorem SR.enter {N : List Str} {vs : List V} {fix : List Nat} (s : SR (Cx0 K none0 B) B env (vs.map some) H) (hN : vs.length ≤ N.length) :
    SR ⟨K, Rest env (vs.map some) H, B, fix, L2.start N vs⟩ B (env ++ List.replicate (N.length - vs.length) .un) (L2.start N vs) H := by
  have hl : env.length = vs.length := by rw [← s.len, List.length_map]
  refine ⟨rest_ex, s.exB, Ex.refl _, fun q hq => .inl hq, ?_, fun i t h => ?_, fun i j p xs ys e1 e2 h1 h2 => ?_, fun _ _ => rfl⟩
  · rw [start_length hN, List.length_append, List.length_replicate]
    omega
  · by_cases hi : i < env.length
    · rw [List.getElem?_append_left hi] at h
      have w := s.sl i t h
      rw [start_get (by omega)]
      cases t with
      | un => trivial
      | sh d => exact w
      | ow xs =>
        obtain ⟨p, ws, e1, bp, _, hp, ra⟩ := w
        exact ⟨p, ws, e1, bp, rest_no fun o => o i xs h e1, hp, ra⟩
    · rw [List.getElem?_append_right (by omega)] at h
      rw [List.getElem?_replicate] at h
      split at h
      · cases h; trivial
      · cases h
  · have lt : ∀ k zs, (env ++ List.replicate (N.length - vs.length) .un)[k]? = some (.ow zs) → k < env.length ∧ env[k]? = some (.ow zs) := fun k zs h => by
      by_cases hi : k < env.length
      · rw [List.getElem?_append_left hi] at h
        exact ⟨hi, h⟩
      · rw [List.getElem?_append_right (by omega), List.getElem?_replicate] at h
        split at h <;> cases h
    obtain ⟨l1, g1⟩ := lt i xs e1
    obtain ⟨l2, g2⟩ := lt j ys e2
    rw [start_get (by omega)] at h1 h2
    exact s.dis i j p xs ys g1 g2 h1 h2
/-- .. and at its end -/
theorem SR.exit {N : List Str} {vs : List V} {fix : List Nat} {n : Nat} {e : En} {σ' : L2.St} {G B0 : Hp} (s : SR ⟨K, G, B0, fix, L2.start N vs⟩ B e σ' H) (hn : vs.length = n) (hN : vs.length ≤ N.length) (hf : ∀ i ∈ fix, i < n) :
    SR (Cx0 K G B0) B (params fix n e) (vs.map some) H := by
  have same : ∀ i ∈ fix, σ'[i]? = (vs.map some)[i]? := fun i hi => by
    have : σ'[i]? = (L2.start N vs)[i]? := s.fx i hi
    rw [this, start_get (by rw [hn]; exact hf i hi)]
  refine ⟨s.exG, s.exB, s.ex0, s.new, by rw [List.length_map, params_length]; exact hn, fun i t h => ?_, fun i j p xs ys e1 e2 h1 h2 => ?_, fun j hj => by cases hj⟩
  · obtain ⟨hi, ⟨hf, h | h⟩ | h⟩ := params_get h
    · have w := s.sl i t h
      rw [← same i hf]
      exact w
    · subst h; trivial
    · subst h; trivial
  · have own : ∀ k zs, (params fix n e)[k]? = some (.ow zs) → k ∈ fix ∧ e[k]? = some (.ow zs) := fun k zs h => by
      obtain ⟨_, ⟨hf, h | h⟩ | h⟩ := params_get h
      · exact ⟨hf, h⟩
      · cases h
      · cases h
    obtain ⟨f1, g1⟩ := own i xs e1
    obtain ⟨f2, g2⟩ := own j ys e2
    exact s.dis i j p xs ys g1 g2 (by rw [same i f1]; exact h1) (by rw [same j f2]; exact h2)
theorem off_exit {N : List Str} {vs : List V} {fix : List Nat} {n : Nat} {e : En} {σ' : L2.St} {G B0 : Hp} {q : Addr} (s : SR ⟨K, G, B0, fix, L2.start N vs⟩ B e σ' H) (hn : vs.length = n) (hf : ∀ i ∈ fix, i < n) (o : ∀ i ys, i ∈ fix → e[i]? = some (.ow ys) → σ'[i]? ≠ some (some (.ref q))) :
    Off (params fix n e) (vs.map some) q := fun k zs h h2 => by
  obtain ⟨_, ⟨hk, h | h⟩ | h⟩ := params_get h
  · refine o k zs hk h ?_
    have : σ'[k]? = (L2.start N vs)[k]? := s.fx k hk
    rw [this, start_get (by rw [hn]; exact hf k hk)]
    exact h2
  · cases h
  · cases h

/-- THE RULE for a def: its body's reading goes as F says, so the def keeps the promise of bodyM -/
theorem body_ok {N : List Str} {n k : Nat} {fix : List Nat} {F : En → Option Out} {t : TS} {vs : List V} {Q : VK} {E : XK} (hN : N.length = n + k) (hf : ∀ i ∈ fix, i < n) (h : SS K fix (fun c d _ H' => E c d H') t F) (hs : SpM K n (bodyM fix n k F) vs H Q E) :
    t { nx := fun _ H' => Q .non H', rt := Q } (L2.start N vs) H := by
  obtain ⟨hn, B, env, res, s, hm, p⟩ := hs
  have hl : env.length = vs.length := by rw [← s.len, List.length_map]
  have hle : vs.length ≤ N.length := by omega
  unfold bodyM at hm
  rw [if_pos (by omega)] at hm
  obtain ⟨o, g1, hm⟩ := Option.bind_eq_some_iff.mp hm
  have s0 := s.enter (N := N) (fix := fix) hle
  rw [show N.length - vs.length = k by omega] at s0
  refine h _ rfl rfl B _ (L2.start N vs) H o s0 g1 _ ?_
  cases o with
  | nx e =>
    cases hm
    exact fun B' σ' H' s' x => p .non B' H' (s'.exit hn hle hf) x .non
  | rt r e =>
    cases r with
    | val d =>
      cases hm
      exact fun v B' σ' H' s' x rr => p v B' H' (s'.exit hn hle hf) x rr
    | fr xs =>
      cases hm
      intro v B' σ' H' s' x rr
      obtain ⟨q, ws, rfl, bq, gq, hq, ra, off⟩ := rr
      exact p _ B' H' (s'.exit hn hle hf) x ⟨q, ws, rfl, bq, gq, hq, ra, off_exit s' hn hf fun i ys _ h => off i ys h⟩
    | al i =>
      simp only at hm
      split at hm
      · rename_i xs he
        split at hm
        · rename_i hi
          cases hm
          intro v B' σ' H' s' x rr
          have rr : σ'[i]? = some (some v) := rr
          obtain ⟨q, ws, e1, bq, gq, hq, ra⟩ := s'.sl i _ he
          rw [rr] at e1
          cases e1
          exact p _ B' H' (s'.exit hn hle hf) x ⟨q, ws, rfl, bq, gq, hq, ra, off_exit s' hn hf fun j ys hj h h2 => by
            have := s'.dis i j q xs ys he h rr h2
            have := hf j hj
            omega⟩
        · cases hm
      · rename_i d he
        cases hm
        intro v B' σ' H' s' x rr
        have rr : σ'[i]? = some (some v) := rr
        obtain ⟨u, e1, ru⟩ := s'.sl i _ he
        rw [rr] at e1
        cases e1
        exact p v B' H' (s'.exit hn hle hf) x ru
      · cases hm
  | bk e => cases hm
  | ct e => cases hm
  | er c e =>
    cases hm
    exact fun B' σ' H' s' x => p B' H' (s'.exit hn hle hf) x

/-! ### calls -/
/-- all arguments are data -/
def eCall (n : Nat) (m : En → Option Res) (f : En → Option (List R × En)) : En → Option (R × En) := fun env => (aD f env).bind fun a => if a.1.length = n then (m (a.1.map .sh)).bind fun r => match r with
  | .val d _ => some (.val d, a.2)
  | .fr xs _ => some (.fr xs, a.2)
  | .er _ _ => none
  else none
theorem sr_args {vs : List V} {ds : List D} (ra : RepAll K B vs ds) (e : Ex B H) : SR (Cx0 K none0 B) B (ds.map .sh) (vs.map some) H := by
  refine ⟨fun q o h => (nomatch (show none = some o from h)), e, Ex.refl _, fun q h => .inl h, by rw [List.length_map, List.length_map]; exact ra.length, fun i t h => ?_, fun i j p xs ys e1 => ?_, fun j h => by cases h⟩
  · rw [List.getElem?_map] at h
    obtain ⟨d, hd, rfl⟩ := Option.map_eq_some_iff.mp h
    obtain ⟨v, hv, rv⟩ := ra.get hd
    exact ⟨v, by rw [List.getElem?_map, hv]; rfl, rv⟩
  · rw [List.getElem?_map] at e1
    obtain ⟨d, hd, h⟩ := Option.map_eq_some_iff.mp e1
    cases h
theorem off_args {vs : List V} {ds : List D} {q : Addr} : Off (ds.map Sl.sh) (vs.map some) q := fun i ys h => by
  rw [List.getElem?_map] at h
  obtain ⟨d, hd, h⟩ := Option.map_eq_some_iff.mp h
  cases h
/-- the caller's side behind a call that took data alone -/
theorem SR.called {B2 : Hp} {e : En} {τ : L2.St} {env0 : En} (s : SR C B env σ H) (hoff : ∀ q, Off env0 τ q) (s' : SR (Cx0 K (Rest env0 τ H) B) B2 e τ H') (x : Ex B B2) : SR C B2 env σ H' := by
  have kept : Ex H H' := fun q o h => s'.exG q o (by rw [show (Cx0 K (Rest env0 τ H) B).G = Rest env0 τ H from rfl, rest_of (hoff q)]; exact h)
  have new : ∀ q, B2 q ≠ none → B q ≠ none ∨ H q = none := fun q hq => by
    rcases s'.new q hq with z | z
    · exact .inl z
    · refine .inr ?_
      have z : Rest env0 τ H q = none := z
      rw [rest_of (hoff q)] at z
      exact z
  refine ⟨s.exG.trans kept, s'.exB, s.ex0.trans x, fun q hq => ?_, s.len, fun i t h => ?_, s.dis, s.fx⟩
  · rcases new q hq with z | z
    · exact s.new q z
    · exact .inr (fresh_back s.exG z)
  · refine (s.sl i t h).mono x fun p e1 ⟨xs, ex⟩ => ?_
    subst ex
    obtain ⟨p', vs, e2, bp, gp, hp, ra⟩ := s.sl i _ h
    rw [e1] at e2
    cases e2
    refine ⟨?_, by rw [kept p _ hp, hp]⟩
    cases q : B2 p with
    | none => rfl
    | some o =>
      rcases new p (by rw [q]; exact fun z => nomatch z) with z | z
      · exact absurd bp z
      · rw [hp] at z; cases z
theorem RepR.called {B2 : Hp} {e : En} {τ : L2.St} {env0 : En} {xs : List D} (s : SR C B env σ H) (hoff : ∀ q, Off env0 τ q) (h : RepR (Cx0 K (Rest env0 τ H) B) B2 e τ H' v (.fr xs)) (hC : C.K = K) : RepR C B2 env σ H' v (.fr xs) := by
  obtain ⟨p, vs, rfl, bp, gp, hp, ra, off⟩ := h
  have gp : Rest env0 τ H p = none := gp
  rw [rest_of (hoff p)] at gp
  exact ⟨p, vs, rfl, bp, fresh_back s.exG gp, hp, by rw [hC]; exact ra, s.off gp⟩
theorem se_callG {n : Nat} {m : En → Option Res} {dv : L2.St → XK} {ta : TA} {f : En → Option (List R × En)} (h : SA K ta f) : SE K (fun σ H Q => ta σ H fun vs H1 => SpM K n m vs H1 Q (dv σ)) (eCall n m f) := by
  intro C hC B env σ H r env' s e Q hq
  obtain ⟨⟨ds, e1⟩, g1, e⟩ := Option.bind_eq_some_iff.mp e
  split at e
  · rename_i hn
    obtain ⟨res, g2, e⟩ := Option.bind_eq_some_iff.mp e
    obtain ⟨rs, e0, g3, g4⟩ := aD_some g1
    refine h C hC B env σ H rs e0 s g3 _ fun vs B1 H1 s1 x1 rr => ?_
    obtain ⟨B2, s2, x2, ra⟩ := frzs_w s1 rr.w g4
    rw [hC] at ra
    refine ⟨by rw [ra.length]; exact hn, B2, _, res, sr_args ra s2.exB, g2, ?_⟩
    cases res with
    | val d ae =>
      cases e
      exact fun v B' H' s' x rv => hq v B' H' (s2.called (fun _ => off_args) s' x) ((x1.trans x2).trans x) (by rw [show RepR C B' e1 σ H' v (.val d) = Rep C.K B' v d from rfl, hC]; exact rv)
    | fr xs ae =>
      cases e
      exact fun v B' H' s' x rv => hq v B' H' (s2.called (fun _ => off_args) s' x) ((x1.trans x2).trans x) (rv.called s2 (fun _ => off_args) hC)
    | er c ae => cases e
  · cases e
theorem se_call {n : Nat} {m : En → Option Res} {E : XK} {ta : TA} {f : En → Option (List R × En)} (h : SA K ta f) : SE K (tCall (SpM K n m) [] E ta) (eCall n m f) := by
  intro C hC B env σ H r env' s e Q hq
  have q := se_callG (n := n) (m := m) (dv := fun _ => E) h C hC B env σ H r env' s e Q hq
  show ta σ H fun vs H1 => SpM K n m (vs ++ []) H1 Q E
  have w : (fun (vs : List V) (H1 : Hp) => SpM K n m (vs ++ []) H1 Q E) = fun vs H1 => SpM K n m vs H1 Q E := by
    funext vs H1
    rw [List.append_nil]
  rw [w]
  exact q
theorem se_callS {n : Nat} {m : En → Option Res} {E : L2.St → XK} {ta : TA} {f : En → Option (List R × En)} (h : SA K ta f) : SE K (tCallS (SpM K n m) E ta) (eCall n m f) := se_callG h

/-! a call whose first argument is an own list of the caller's, which the callee may change -/
def eCall1 (n : Nat) (m : En → Option Res) (f : En → Option (List R × En)) : En → Option (R × En) := fun env => (f env).bind fun a => match a.1 with
  | .al i :: rs => (frzs a.2 rs).bind fun b => (own b.2 i).bind fun xs => if b.1.length + 1 = n then (m (.ow xs :: b.1.map .sh)).bind fun r => match r with
    | .val d (.ow ys :: _) => some (.val d, b.2.set i (.ow ys))
    | .fr zs (.ow ys :: _) => some (.fr zs, b.2.set i (.ow ys))
    | _ => none
    else none
  | _ => none
theorem se_call1G {n : Nat} {m : En → Option Res} {dv : L2.St → XK} {ta : TA} {f : En → Option (List R × En)} (h : SA K ta f) : SE K (fun σ H Q => ta σ H fun vs H1 => SpM K n m vs H1 Q (dv σ)) (eCall1 n m f) := by
  intro C hC B env σ H r env' s e Q hq
  obtain ⟨⟨rs, e0⟩, g1, e⟩ := Option.bind_eq_some_iff.mp e
  split at e
  · rename_i i rs' hr
    simp only at hr
    subst hr
    obtain ⟨⟨ds, e1⟩, g2, e⟩ := Option.bind_eq_some_iff.mp e
    obtain ⟨xs, g3, e⟩ := Option.bind_eq_some_iff.mp e
    split at e
    · rename_i hn
      obtain ⟨res, g4, e⟩ := Option.bind_eq_some_iff.mp e
      refine h C hC B env σ H _ e0 s g1 _ fun vs B1 H1 s1 x1 rr => ?_
      match vs, rr with
      | v0 :: vs, ⟨r0, rr⟩ =>
        have r0 : σ[i]? = some (some v0) := r0
        obtain ⟨B2, s2, x2, ra⟩ := frzs_w s1 rr.w g2
        have ho := own_some g3
        obtain ⟨p, ws, e2, bp, gp, hp, rw0⟩ := s2.sl i _ ho
        rw [r0] at e2
        cases e2
        rw [hC] at ra rw0
        -- the arguments
        have sA : SR (Cx0 K none0 B2) B2 (.ow xs :: ds.map .sh) ((V.ref p :: vs).map some) H1 := by
          refine ⟨fun q o h => (nomatch (show none = some o from h)), s2.exB, Ex.refl _, fun q h => .inl h, ?_, fun j t hj => ?_, fun j k q ys zs f1 f2 _ _ => ?_, fun j h => by cases h⟩
          · rw [List.map_cons, List.length_cons, List.length_cons, List.length_map, List.length_map, ra.length]
          · cases j with
            | zero =>
              cases hj
              exact ⟨p, ws, rfl, bp, rfl, hp, rw0⟩
            | succ j =>
              have hj : (ds.map Sl.sh)[j]? = some t := by simpa using hj
              rw [List.getElem?_map] at hj
              obtain ⟨d, hd, rfl⟩ := Option.map_eq_some_iff.mp hj
              obtain ⟨v, hv, rv⟩ := ra.get hd
              refine ⟨v, ?_, rv⟩
              show (vs.map some)[j]? = _
              rw [List.getElem?_map, hv]
              rfl
          · have z : ∀ k zs, (Sl.ow xs :: ds.map Sl.sh)[k]? = some (.ow zs) → k = 0 := fun k zs h => by
              cases k with
              | zero => rfl
              | succ k =>
                have h : (ds.map Sl.sh)[k]? = some (.ow zs) := by simpa using h
                rw [List.getElem?_map] at h
                obtain ⟨d, hd, h⟩ := Option.map_eq_some_iff.mp h
                cases h
            rw [z j ys f1, z k zs f2]
        refine ⟨by rw [List.length_cons, ra.length]; exact hn, B2, _, res, sA, g4, ?_⟩
        -- what is off
        have offA : ∀ q, q ≠ p → Off (.ow xs :: ds.map .sh) ((V.ref p :: vs).map some) q := fun q hq k zs h h2 => by
          cases k with
          | zero =>
            have : some (V.ref p) = some (.ref q) := Option.some.inj h2
            cases this
            exact hq rfl
          | succ k =>
            have h : (ds.map Sl.sh)[k]? = some (.ow zs) := by simpa using h
            rw [List.getElem?_map] at h
            obtain ⟨d, hd, h⟩ := Option.map_eq_some_iff.mp h
            cases h
        have noA : ¬ Off (.ow xs :: ds.map .sh) ((V.ref p :: vs).map some) p := fun o => o 0 xs rfl rfl
        -- behind the call
        have behind : ∀ {B' H' : Hp} {ys : List D} {ae : En}, SR (Cx0 K (Rest (.ow xs :: ds.map .sh) ((V.ref p :: vs).map some) H1) B2) B' (.ow ys :: ae) ((V.ref p :: vs).map some) H' → Ex B2 B' → SR C B' (e1.set i (.ow ys)) σ H' ∧ (∀ q, B' q = none → Rest (.ow xs :: ds.map .sh) ((V.ref p :: vs).map some) H1 q = none → q ≠ p → H1 q = none) := by
          intro B' H' ys ae s' x
          have kept : ∀ q o, q ≠ p → H1 q = some o → H' q = some o := fun q o hq h => s'.exG q o (by
            show Rest _ _ _ q = some o
            rw [rest_of (offA q hq)]
            exact h)
          have new : ∀ q, B' q ≠ none → B2 q ≠ none ∨ H1 q = none ∨ q = p := fun q hq => by
            rcases s'.new q hq with z | z
            · exact .inl z
            · by_cases hqp : q = p
              · exact .inr (.inr hqp)
              · have z : Rest (.ow xs :: ds.map .sh) ((V.ref p :: vs).map some) H1 q = none := z
                rw [rest_of (offA q hqp)] at z
                exact .inr (.inl z)
          obtain ⟨p', ws', f1, bp', _, hp', ra'⟩ := s'.sl 0 _ rfl
          have f1 : some (some (V.ref p)) = some (some (V.ref p')) := f1
          cases f1
          refine ⟨⟨fun q o h => ?_, s'.exB, s2.ex0.trans x, fun q hq => ?_, by rw [List.length_set]; exact s2.len, fun j t h => ?_, fun j k q zs us f2 f3 => ?_, s2.fx⟩, fun q _ h hq => ?_⟩
          · exact kept q o (ne_of_none h gp) (s2.exG q o h)
          · rcases new q hq with z | z | z
            · exact s2.new q z
            · exact .inr (fresh_back s2.exG z)
            · rw [z] at hq; exact absurd bp' hq
          · rcases get_set h with ⟨rfl, rfl, _⟩ | ⟨hj, h⟩
            · exact ⟨p, ws', r0, bp', gp, hp', by rw [hC]; exact ra'⟩
            · refine (s2.sl j t h).mono x fun q f2 ⟨zs, ez⟩ => ?_
              subst ez
              obtain ⟨q', us, f3, b3, g3', h3, _⟩ := s2.sl j _ h
              rw [f2] at f3
              cases f3
              have hqp : q ≠ p := fun z => hj (s2.dis j i q zs xs h ho f2 (by rw [z]; exact r0))
              refine ⟨?_, by rw [kept q _ hqp h3, h3]⟩
              cases w : B' q with
              | none => rfl
              | some o =>
                rcases new q (by rw [w]; exact fun z => nomatch z) with z | z | z
                · exact absurd b3 z
                · rw [h3] at z; cases z
                · exact absurd z hqp
          · have k1 : ∃ zs, e1[j]? = some (.ow zs) := by
              rcases get_set f2 with ⟨rfl, _, _⟩ | ⟨_, h⟩
              · exact ⟨xs, ho⟩
              · exact ⟨_, h⟩
            have k2 : ∃ zs, e1[k]? = some (.ow zs) := by
              rcases get_set f3 with ⟨rfl, _, _⟩ | ⟨_, h⟩
              · exact ⟨xs, ho⟩
              · exact ⟨_, h⟩
            obtain ⟨z1, k1⟩ := k1
            obtain ⟨z2, k2⟩ := k2
            exact s2.dis j k q z1 z2 k1 k2
          · rw [rest_of (offA q hq)] at h
            exact h
        split at e
        · cases e
          exact fun v B' H' s' x rv => hq v B' H' (behind s' x).1 ((x1.trans x2).trans x) (by rw [show RepR C B' (e1.set i (.ow _)) σ H' v (.val _) = Rep C.K B' v _ from rfl, hC]; exact rv)
        · cases e
          intro v B' H' s' x rv
          obtain ⟨sB, free⟩ := behind s' x
          obtain ⟨q, us, rfl, bq, gq, hq', ra', off⟩ := rv
          have hqp : q ≠ p := fun z => off 0 _ rfl (by rw [z]; rfl)
          have h1 := free q bq gq hqp
          refine hq _ B' H' sB ((x1.trans x2).trans x) ⟨q, us, rfl, bq, fresh_back s2.exG h1, hq', by rw [hC]; exact ra', fun j zs f1 f2 => ?_⟩
          rcases get_set f1 with ⟨rfl, _, _⟩ | ⟨hj, f1⟩
          · rw [r0] at f2
            cases f2
            exact hqp rfl
          · exact s2.off h1 j zs f1 f2
        · cases e
    · cases e
  · cases e
theorem se_call1 {n : Nat} {m : En → Option Res} {E : XK} {ta : TA} {f : En → Option (List R × En)} (h : SA K ta f) : SE K (tCall (SpM K n m) [] E ta) (eCall1 n m f) := by
  intro C hC B env σ H r env' s e Q hq
  have q := se_call1G (n := n) (m := m) (dv := fun _ => E) h C hC B env σ H r env' s e Q hq
  show ta σ H fun vs H1 => SpM K n m (vs ++ []) H1 Q E
  have w : (fun (vs : List V) (H1 : Hp) => SpM K n m (vs ++ []) H1 Q E) = fun vs H1 => SpM K n m vs H1 Q E := by
    funext vs H1
    rw [List.append_nil]
  rw [w]
  exact q
end
end Vm

set_option Elab.async false
set_option linter.all false
set_option maxRecDepth 100000
namespace Vm
open PySem PySem.Spec PyProof.Rows L2 Evl
section
variable {K : PySem.W.Frag} {C : Ctx} {B B' G H H' : Hp} {env env' : En} {σ : L2.St} {v : V} {r : R} {d : D} {ta tb tc te : TE} {fa fb fc fe : En → Option (R × En)} {f : En → Option (R × En)} {X : Cx} {fix : List Nat} {W : WX}

/-! ### a op b op' c -/
def eChain (g g' : D → D → Option D) (fa fb fc : En → Option (R × En)) : En → Option (R × En) := fun env =>
  (fa env).bind fun a => (fb a.2).bind fun b => (look b.2 a.1).bind fun x => (look b.2 b.1).bind fun y => (g x y).bind fun z => match z, b.1 with
    | .bl true, .val yd => (fc b.2).bind fun c => (look c.2 c.1).bind fun w => (g' yd w).map fun z' => (.val z', c.2)
    | .bl false, .val _ => some (.val (.bl false), b.2)
    | _, _ => none
theorem se_chain {r1 r2 : R2} {g g' : D → D → Option D} (h1 : ROS K r1 g) (h2 : ROS K r2 g') (ha : SE K ta fa) (hb : SE K tb fb) (hc : SE K tc fc) : SE K (tChain r1 r2 ta tb tc) (eChain g g' fa fb fc) := by
  intro C hC B env σ H r env' s e Q hq
  obtain ⟨⟨ra, e1⟩, g1, e⟩ := Option.bind_eq_some_iff.mp e
  obtain ⟨⟨rb, e2⟩, g2, e⟩ := Option.bind_eq_some_iff.mp e
  obtain ⟨dx, g3, e⟩ := Option.bind_eq_some_iff.mp e
  obtain ⟨dy, g4, e⟩ := Option.bind_eq_some_iff.mp e
  obtain ⟨z, g5, e⟩ := Option.bind_eq_some_iff.mp e
  refine se_two ha hb hC s g1 g2 (W := fun x y H2 => r1 x y H2 fun z H3 => ∃ k, z = .bl k ∧ (if k = true then tc σ H3 fun w' H4 => r2 y w' H4 Q else Q (.bl false) H3)) fun x y B' H' s' x' rx ry => ?_
  have k1 := look_rep s' rx g3
  have k2 := look_rep s' ry g4
  rw [hC] at k1 k2
  obtain ⟨u, hu, go⟩ := h1 B' H' x y dx dy z s'.exB k1 k2 g5
  refine go _ ?_
  split at e
  · rename_i yd hy
    simp only at hy
    subst hy
    cases hu
    cases g4
    obtain ⟨⟨rc, e3⟩, g6, e⟩ := Option.bind_eq_some_iff.mp e
    obtain ⟨w, g7, e⟩ := Option.bind_eq_some_iff.mp e
    obtain ⟨z', g8, e⟩ := Option.map_eq_some_iff.mp e
    cases e
    refine ⟨true, rfl, ?_⟩
    show tc σ H' _
    refine hc C hC B' e2 σ H' rc e3 s' g6 _ fun w' B3 H3 s3 x3 rw' => ?_
    have k3 := look_rep s3 rw' g7
    rw [hC] at k3
    have ry' : Rep C.K B3 y dy := Rep.mono x3 ry
    rw [hC] at ry'
    obtain ⟨u2, hu2, go2⟩ := h2 B3 H3 y w' dy w z' s3.exB (.inl ry') k3 g8
    exact go2 _ (hq u2 B3 H3 s3 (x'.trans x3) (sc_rep hu2))
  · cases hu
    cases e
    refine ⟨false, rfl, ?_⟩
    show Q (.bl false) H'
    exact hq _ B' H' s' x' (.bl false)
  · cases e
theorem ros_lt : ROS K (rI0 fun i j => .bl (decide (i < j))) dLt := ros_I0 fun _ _ => rfl
theorem ros_le : ROS K (rI0 fun i j => .bl (decide (i ≤ j))) dLe := ros_I0 fun _ _ => rfl
theorem ros_gt : ROS K (rI0 fun i j => .bl (decide (j < i))) dGt := ros_I0 fun _ _ => rfl
theorem ros_ge : ROS K (rI0 fun i j => .bl (decide (j ≤ i))) dGe := ros_I0 fun _ _ => rfl
def dNeg : D → Option D
  | .int i => some (.int (-i))
  | _ => none
theorem se_neg (h : SE K ta fa) : SE K (tUn (rU fun i => .int (-i)) ta) (eUn dNeg fa) := se_un (g := dNeg) (by
  intro B H x dx z e rx hz
  cases dx with
  | int i =>
    cases hz
    exact ⟨_, rfl, fun Q q => ⟨i, rx.int, q⟩⟩
  | _ => cases hz) h

/-! ### isinstance of a built-in class -/
def tyD : D → Option String
  | .non => some "NoneType" | .bl _ => some "bool" | .int _ => some "int" | .str _ => some "str"
  | .lst _ => some "list" | .scr _ => some "list" | .tup _ => some "tuple" | .dct _ _ => some "dict"
  | _ => none
def kitD (a b : String) : Option Bool := kitB a b
def bIsi : List D → Option D
  | [d, .ty n] => (tyD d).bind fun t => (kitB t n).map D.bl
  | _ => none
theorem tyX_of {n : String} (e : Ex B H) (h : RepK K B H v d) (t : tyD d = some n) : TyX K H v (.type n) := by
  cases d with
  | non => cases t; rw [h.non]; exact .base .non
  | bl b => cases t; rw [h.bl]; exact .base (.bl b)
  | int i => cases t; rw [h.int]; exact .base (.int i)
  | str s => cases t; rw [h.str]; exact .base (.str s)
  | ref a => cases t
  | ty n => cases t
  | fn n => cases t
  | lst xs =>
    cases t
    obtain ⟨a, vs, rfl, h1, _⟩ := h.list e
    exact .base (.lst h1)
  | tup xs =>
    cases t
    obtain ⟨a, vs, rfl, h1, _⟩ := (h.scal fun _ z => by cases z).tuple
    rcases ex_t e h1 with (h1 | ⟨o, h1⟩) | ⟨o, its, m, h1, h2, _⟩
    · exact .base (.tup h1)
    · exact .fTuple h1
    · exact .kTuple h1 h2
  | dct ks xs =>
    cases t
    rcases h with h | ⟨_, _, _, _, z, _⟩
    · cases h with
      | dct h1 h2 => exact .base (.dK (e _ _ h1))
    · cases z
  | scr ns =>
    cases t
    obtain ⟨a, rfl, h1⟩ := (h.scal fun _ z => by cases z).script
    rcases ex_l e h1 with (h1 | ⟨o, h1⟩) | ⟨o, its, m, h1, h2, _⟩
    · exact .base (.lst h1)
    · exact .base (.frz h1)
    · exact .kList h1 h2
theorem rc_isi : RC K (rIsi K) bIsi := RCS.rc (by
  intro B H vs ds z e rx h
  unfold bIsi at h
  split at h
  · obtain ⟨t, h1, h⟩ := Option.bind_eq_some_iff.mp h
    obtain ⟨b, h2, rfl⟩ := Option.map_eq_some_iff.mp h
    obtain ⟨v, w, rfl, k1, k2⟩ := rx.two
    have hw : w = V.ty _ := repK_sc (d := .ty _) rfl k2
    subst hw
    exact ⟨_, rfl, fun Q q => ⟨v, _, _, _, b, rfl, .ty _, tyX_of e k1 h1, kit_ty h2, q⟩⟩
  · cases h)

/-! ### sorted of ints, list(..), reversed slices -/
def srt (ns : List Int) : List Int := ns.mergeSort fun a b => decide (a ≤ b)
theorem srt_perm (ns : List Int) : (srt ns).Perm ns := List.mergeSort_perm _ _
theorem srt_pw (ns : List Int) : (srt ns).Pairwise (· ≤ ·) := by
  have := List.pairwise_mergeSort (le := fun a b : Int => decide (a ≤ b)) (fun a b c h1 h2 => by
    have h1 := of_decide_eq_true h1
    have h2 := of_decide_eq_true h2
    exact decide_eq_true (Int.le_trans h1 h2)) (fun a b => by
    rcases Int.le_total a b with h | h
    · simp [h]
    · simp [h]) ns
  exact this.imp fun h => of_decide_eq_true h
theorem srt_unique {ns ms : List Int} (p : ms.Perm ns) (w : ms.Pairwise (· ≤ ·)) : ms = srt ns := PySem.W.ksm_same (p.trans (srt_perm ns).symm) w (srt_pw ns)
def bSorted : List D → Option (List D)
  | [.lst xs] => (unInts xs).map fun ns => (srt ns).map D.int
  | _ => none
theorem rcl_sorted : RCL K (rSortedI K) bSorted := by
  intro B H vs ds zs e rx h Q q
  unfold bSorted at h
  split at h
  · obtain ⟨ns, h1, rfl⟩ := Option.map_eq_some_iff.mp h
    obtain ⟨v, rfl, k⟩ := rx.one
    obtain ⟨a, rfl, h2⟩ := k.ints e h1
    refine ⟨a, ns, rfl, sq_of h2, fun ns' p pm pw hp => ?_⟩
    rw [srt_unique pm pw]
    exact q p _ hp (.of_ints _)
  · cases h
def bList : List D → Option (List D)
  | [.lst xs] => some xs
  | [.tup xs] => some xs
  | [.scr ns] => some (ns.map D.int)
  | _ => none
def rListOf (K : PySem.W.Frag) : List V → Hp → VK → Prop := fun xs H Q => ∃ p ys, xs = [.ref p] ∧ (SqL K H p ys ∨ SqT K H p ys) ∧ ∀ l, H l = none → Q (.ref l) (upd H l (.lst ys))
theorem rcl_list : RCL K (rListOf K) bList := by
  intro B H vs ds zs e rx h Q q
  unfold bList at h
  split at h
  · cases h
    obtain ⟨v, rfl, k⟩ := rx.one
    obtain ⟨a, ws, rfl, h1, h2⟩ := k.list e
    exact ⟨a, ws, rfl, .inl (sq_of h1), fun l hl => q l ws hl h2⟩
  · cases h
    obtain ⟨v, rfl, k⟩ := rx.one
    obtain ⟨a, ws, rfl, h1, h2⟩ := (k.scal fun _ z => by cases z).tuple
    exact ⟨a, ws, rfl, .inr (ex_t e h1), fun l hl => q l ws hl h2⟩
  · cases h
    obtain ⟨v, rfl, k⟩ := rx.one
    obtain ⟨a, rfl, h1⟩ := (k.scal fun _ z => by cases z).script
    exact ⟨a, _, rfl, .inl (ex_l e h1), fun l hl => q l _ hl (.of_ints _)⟩
  · cases h
def eRev (f : En → Option (R × En)) : En → Option (R × En) := fun env => (f env).bind fun a => (look a.2 a.1).bind fun d => (seqOf d).map fun xs => (.fr xs.reverse, a.2)
theorem se_rev (h : SE K te f) : SE K (tRevL K te) (eRev f) := by
  intro C hC B env σ H r env' s e Q hq
  obtain ⟨⟨a, e1⟩, g1, e⟩ := Option.bind_eq_some_iff.mp e
  obtain ⟨d, g2, e⟩ := Option.bind_eq_some_iff.mp e
  obtain ⟨xs, g3, e⟩ := Option.map_eq_some_iff.mp e
  cases e
  refine h C hC B env σ H a e1 s g1 _ fun v B1 H1 s1 x1 rr => ?_
  have k := look_rep s1 rr g2
  rw [hC] at k
  obtain ⟨p, vs, rfl, q1, q2⟩ := seqOf_rep s1.exB k g3
  exact ⟨p, vs, rfl, q1, fun q hq' => hq (.ref q) B1 _ (s1.temp hq') x1 (s1.newL hq' (by rw [hC]; exact q2.reverse))⟩
def intOf : R → Option Int
  | .val (.int i) => some i
  | _ => none
theorem intOf_some {i : Int} (h : intOf r = some i) : r = .val (.int i) := by
  unfold intOf at h
  split at h
  · cases h; rfl
  · cases h
instance (a b : Int) : Decidable (RgOk a b) := by unfold RgOk; infer_instance
theorem rg_rep (a b : Int) : RepAll K B (rgV a b) (upTo a (b - a).toNat) := by
  have : rgV a b = ((List.range (b - a).toNat).map fun i => a + ((i : Nat) : Int)).map V.int := by
    unfold rgV
    rw [List.map_map]
    rfl
  rw [this]
  have : upTo a (b - a).toNat = ((List.range (b - a).toNat).map fun i => a + ((i : Nat) : Int)).map D.int := by
    unfold upTo
    rw [List.map_map]
    rfl
  rw [this]
  exact .of_ints _
def eLr1 (f : En → Option (R × En)) : En → Option (R × En) := fun env => (f env).bind fun a => (intOf a.1).bind fun n => if RgOk 0 n then some (.fr (upTo 0 n.toNat), a.2) else none
theorem se_lr1 (h : SE K te f) : SE K (tLstRg (tRg1 te)) (eLr1 f) := by
  intro C hC B env σ H r env' s e Q hq
  obtain ⟨⟨a, e1⟩, g1, e⟩ := Option.bind_eq_some_iff.mp e
  obtain ⟨n, g2, e⟩ := Option.bind_eq_some_iff.mp e
  split at e
  · rename_i ho
    cases e
    have := intOf_some g2
    simp only at this
    subst this
    refine h C hC B env σ H _ e1 s g1 _ fun v B1 H1 s1 x1 rr => ?_
    have rr : Rep C.K B1 v (.int n) := rr
    cases rr
    refine ⟨n, rfl, ho, fun q hq' => hq (.ref q) B1 _ (s1.temp hq') x1 (s1.newL hq' ?_)⟩
    have := rg_rep (K := C.K) (B := B1) 0 n
    rw [Int.sub_zero] at this
    exact this
  · cases e
def eLr2 (fa fb : En → Option (R × En)) : En → Option (R × En) := fun env => (fa env).bind fun a => (fb a.2).bind fun b => (intOf a.1).bind fun i => (intOf b.1).bind fun j => if RgOk i j then some (.fr (upTo i (j - i).toNat), b.2) else none
theorem se_lr2 (h1 : SE K ta fa) (h2 : SE K tb fb) : SE K (tLstRg (tRg2 ta tb)) (eLr2 fa fb) := by
  intro C hC B env σ H r env' s e Q hq
  obtain ⟨⟨a, e1⟩, g1, e⟩ := Option.bind_eq_some_iff.mp e
  obtain ⟨⟨b, e2⟩, g2, e⟩ := Option.bind_eq_some_iff.mp e
  obtain ⟨i, g3, e⟩ := Option.bind_eq_some_iff.mp e
  obtain ⟨j, g4, e⟩ := Option.bind_eq_some_iff.mp e
  split at e
  · rename_i ho
    cases e
    have q1 := intOf_some g3
    have q2 := intOf_some g4
    simp only at q1 q2
    subst q1 q2
    refine h1 C hC B env σ H _ e1 s g1 _ fun v B1 H1 s1 x1 rr => ?_
    have rr : Rep C.K B1 v (.int i) := rr
    cases rr
    refine h2 C hC B1 e1 σ H1 _ e2 s1 g2 _ fun w B2 H2 s2 x2 rr2 => ?_
    have rr2 : Rep C.K B2 w (.int j) := rr2
    cases rr2
    exact ⟨i, j, rfl, rfl, ho, fun q hq' => hq (.ref q) B2 _ (s2.temp hq') (x1.trans x2) (s2.newL hq' (rg_rep i j))⟩
  · cases e

/-! ### never reached; subscripts that are read for an op= -/
def sNever : En → Option Out := fun _ => none
/-- a, b, c = x, y, z -/
def sPar3 (i j l : Nat) (f : En → Option (List R × En)) : En → Option Out := fun env => (f env).bind fun a => (frzs a.2 a.1).bind fun b => match b.1 with
  | [d1, d2, d3] => some (.nx (((b.2.set i (.sh d1)).set j (.sh d2)).set l (.sh d3)))
  | _ => none
theorem ss_par3 {i j l : Nat} {ta : TA} {f : En → Option (List R × En)} (h : SA K ta f) (hi : i ∉ fix) (hj : j ∉ fix) (hl : l ∉ fix) : SS K fix W (tPar3 i j l ta) (sPar3 i j l f) := by
  intro C hC hF B env σ H o s e D p
  obtain ⟨⟨rs, e1⟩, g1, e⟩ := Option.bind_eq_some_iff.mp e
  obtain ⟨⟨ds, e2⟩, g2, e⟩ := Option.bind_eq_some_iff.mp e
  split at e
  · rename_i d1 d2 d3 hd
    simp only at hd
    subst hd
    cases e
    refine h C hC B env σ H _ e1 s g1 _ fun vs B1 H1 s1 x1 rr => ?_
    obtain ⟨B2, s2, x2, ra⟩ := frzs_w s1 rr.w g2
    match vs, ra with
    | [u, v, w], .cons ru (.cons rv (.cons rw' .nil)) =>
      refine ⟨u, v, w, rfl, ?_⟩
      have s3 := s2.setV (i := i) (v := u) (t := .sh d1) (by rw [hF]; exact hi) ru
      have s4 := s3.setV (i := j) (v := v) (t := .sh d2) (by rw [hF]; exact hj) rv
      have s5 := s4.setV (i := l) (v := w) (t := .sh d3) (by rw [hF]; exact hl) rw'
      exact p B2 _ H1 s5 (x1.trans x2)
  · cases e
theorem ss_never : SS K fix W tNever sNever := by
  intro C hC hF B env σ H o s e
  cases e
theorem get_list : PGet X (rIxL X.K) := by
  intro pins s σ H x y v u Q I rx ry h
  obtain ⟨p, xs, i, z, rfl, rfl, hq, he, q⟩ := h
  cases rx
  obtain ⟨t, rfl⟩ := ry
  obtain ⟨its, r, pl, hz⟩ := I.list hq
  obtain ⟨j, h1, h2, h3, h4, h5⟩ := atI_get he
  obtain ⟨w, ew, rw'⟩ := r.get h2
  have hl := r.length
  have hn := line63
  have fin : EP X pins σ Q w s := ⟨z, H, I, rw', q⟩
  by_cases h0 : 0 ≤ i
  · have hj : i.toNat = j := by
      rw [seqIndex_of h0 h5] at h1
      exact Option.some.inj h1
    exact wpAny_getItem_list pl.isList h0 (by omega) (by rw [hj]; simpa using ew) fin
  · have hj : (i + (its.toArray.size : Int)).toNat = j := by
      rw [seqIndex_neg (by omega) h4] at h1
      rw [List.size_toArray, ← hl]
      exact Option.some.inj h1
    exact wpAny_getItem_list_neg pl.isList (by omega) (by rw [List.size_toArray] <;> omega) (by omega) (by rw [hj]; simpa using ew) fin

/-- a def of the module that may be called -/
structure DefOk (P : Program) (w : World) (K : PySem.W.Frag) (mg : Str → Option Value) (base : Heap) (x : Str) (ps : List Str) (k : Nat) (m : En → Option Res) : Prop where
  ex : ∃ f fd, mg x = some (.ref f) ∧ FnOk P w K mg base CX0 k f fd ps (SpM K ps.length m) ∧ PySem.W.keepIn K (.ref f) = true ∧ Binds K fd ps []
theorem pe_def {x : Str} {ps : List Str} {n k j : Nat} {m : En → Option Res} {p pos : Pos} {e : Expr} {es : List Expr} {t : TA} (h : DefOk X.prog X.w X.K X.mg X.base x ps k m) (hn : ps.length = n) (hr : Room j X.A) (hj : k ≤ j) (hg : Gl X x) (ha : PA X (e :: es) t)
    (hdb : (x == ("__debug__" : Str)) = false := by decide)
    (he : starEach (e :: es) X.env = (false, eval e X.env) :: starEach es X.env := by rfl) (hpl : (backTo pos (starEach es X.env)).any (·.1) = false := by rfl) : PE X (.Call (.Name x p) (e :: es) [] pos) (tCall (SpM X.K n m) [] E0 t) := by
  subst hn
  obtain ⟨f, fd, hm, F, hk, hb⟩ := h.ex
  exact pe_call F (hr.mono hj) hg hm hk hb .nil pass0 ha hdb he hpl
end
end Vm
namespace Vm
open PySem PySem.Spec PyProof.Rows L2 Evl
abbrev rAddI : R2 := rI0 fun i j => .int (i + j)
abbrev rSubI : R2 := rI0 fun i j => .int (i - j)
abbrev rMulA : R2 := rI CMulA fun i j => .int (i * j)
abbrev rFdivA : R2 := rI CDivA fun i j => .int (i.fdiv j)
abbrev rModN : R2 := rI (fun _ j => j ≠ 0) fun i j => .int (i.fmod j)
abbrev rPowA : R2 := rI CPowA fun i j => .int (i ^ j.toNat)
abbrev rLtI : R2 := rI0 fun i j => .bl (decide (i < j))
abbrev rLeI : R2 := rI0 fun i j => .bl (decide (i ≤ j))
abbrev rGtI : R2 := rI0 fun i j => .bl (decide (j < i))
abbrev rGeI : R2 := rI0 fun i j => .bl (decide (j ≤ i))
abbrev uNeg : V → Hp → VK → Prop := rU fun i => .int (-i)
abbrev rAbsI : List V → Hp → VK → Prop := fun xs H Q => ∃ i, xs = [.int i] ∧ Q (.int (if i < 0 then -i else i)) H
abbrev rInt1 : List V → Hp → VK → Prop := fun xs H Q => (∃ i, xs = [.int i] ∧ Q (.int i) H) ∨ ∃ k, xs = [.bl k] ∧ Q (.int (if k then 1 else 0)) H
abbrev rMx2 : List V → Hp → VK → Prop := fun xs H Q => ∃ i j, xs = [.int i, .int j] ∧ Q (.int (if j > i then j else i)) H
abbrev rMn2 : List V → Hp → VK → Prop := fun xs H Q => ∃ i j, xs = [.int i, .int j] ∧ Q (.int (if j < i then j else i)) H
end Vm

set_option Elab.async false
set_option linter.all false
set_option maxRecDepth 100000
/-! VmS: how the functions of the layer are reckoned (simp), and loops and comprehensions by invariants. -/
namespace Vm
/-- a step that is shown, not left to be found again -/
theorem nr {α : Sort _} {a b : α} (h : a = b) : a = b := h
open PySem PySem.Spec PyProof.Rows L2 Evl
section
variable {env : En} {fa fb fc : En → Option (R × En)} {f : En → Option (List R × En)} {F G : En → Option Out} {g : D → D → Option D} {t u : En → Option (Bool × En)}
@[simp] theorem x_sSeq : sSeq F G env = (F env).bind fun o => match o with
  | .nx e1 => G e1
  | o => some o := nr rfl
@[simp] theorem x_sIf : sIf t F G env = (t env).bind fun a => if a.1 then F a.2 else G a.2 := nr rfl
@[simp] theorem x_sRet : sRet fa env = (fa env).map fun a => .rt a.1 a.2 := nr rfl
@[simp] theorem x_sRetN : sRetN env = some (.rt (.val .non) env) := nr rfl
@[simp] theorem x_sNext : sNext env = some (.nx env) := nr rfl
@[simp] theorem x_sExpr : sExpr fa env = (fa env).map fun a => .nx a.2 := nr rfl
@[simp] theorem x_sSet {i : Nat} : sSet i fa env = (fa env).bind fun a => (store i a.1 a.2).map Out.nx := nr rfl
@[simp] theorem x_sAsg {h : D → En → Option En} : sAsg fa h env = (fa env).bind fun a => (frz a.2 a.1).bind fun b => (h b.1 b.2).map Out.nx := nr rfl
@[simp] theorem x_sPut {i : Nat} : sPut i fa fb env = (fa env).bind fun a => (frz a.2 a.1).bind fun b => (own b.2 i).bind fun _ => (fb b.2).bind fun k => match k.1 with
  | .val (.int z) => (own k.2 i).bind fun xs => (ixN xs.length z).map fun j => .nx (k.2.set i (.ow (xs.set j b.1)))
  | _ => none := nr rfl
@[simp] theorem x_sAug {i : Nat} : sAug i g fa env = match env[i]? with
  | some (.sh x) => (fa env).bind fun a => (look a.2 a.1).bind fun y => (g x y).map fun z => .nx (a.2.set i (.sh z))
  | _ => none := nr rfl
@[simp] theorem x_sPutAug {i : Nat} : sPutAug i g fa fb env = (own env i).bind fun _ => (fa env).bind fun k => match k.1 with
  | .val (.int z) => (own k.2 i).bind fun xs => (atI xs z).bind fun x => (fb k.2).bind fun a => (look a.2 a.1).bind fun y => (g x y).bind fun w => (own a.2 i).bind fun ys => (ixN ys.length z).map fun j => .nx (a.2.set i (.ow (ys.set j w)))
  | _ => none := nr rfl
@[simp] theorem x_sPar {i j : Nat} : sPar i j f env = (f env).bind fun a => match a.1 with
  | [.val d1, .val d2] => some (.nx ((a.2.set i (.sh d1)).set j (.sh d2)))
  | [.val d1, .fr xs] => some (.nx ((a.2.set i (.sh d1)).set j (.ow xs)))
  | [.fr xs, .val d2] => some (.nx ((a.2.set i (.ow xs)).set j (.sh d2)))
  | [r1, r2] => (frzs a.2 [r1, r2]).bind fun b => match b.1 with
    | [d1, d2] => some (.nx ((b.2.set i (.sh d1)).set j (.sh d2)))
    | _ => none
  | _ => none := nr rfl
@[simp] theorem x_sPar3 {i j l : Nat} : sPar3 i j l f env = (f env).bind fun a => (frzs a.2 a.1).bind fun b => match b.1 with
  | [d1, d2, d3] => some (.nx (((b.2.set i (.sh d1)).set j (.sh d2)).set l (.sh d3)))
  | _ => none := nr rfl
@[simp] theorem x_sFor {fi : En → Option (List D × En)} {tgt : D → En → Option En} : sFor fi tgt F env = (fi env).bind fun a => loopS tgt F a.1 a.2 := nr rfl
@[simp] theorem x_eVar {i : Nat} : eVar i env = match env[i]? with
  | some (.sh d) => some (.val d, env)
  | some (.ow _) => some (.al i, env)
  | _ => none := nr rfl
@[simp] theorem x_eC {d : D} : eC d env = some (.val d, env) := nr rfl
@[simp] theorem x_eOp : eOp g fa fb env = (fa env).bind fun a => (fb a.2).bind fun b => (look b.2 a.1).bind fun x => (look b.2 b.1).bind fun y => (g x y).map fun z => (R.val z, b.2) := nr rfl
@[simp] theorem x_eOpL {g : D → D → Option (List D)} : eOpL g fa fb env = (fa env).bind fun a => (fb a.2).bind fun b => (look b.2 a.1).bind fun x => (look b.2 b.1).bind fun y => (g x y).map fun z => (R.fr z, b.2) := nr rfl
@[simp] theorem x_eUn {g : D → Option D} : eUn g fa env = (fa env).bind fun a => (look a.2 a.1).bind fun x => (g x).map fun z => (R.val z, a.2) := nr rfl
@[simp] theorem x_eChain {g' : D → D → Option D} : eChain g g' fa fb fc env = (fa env).bind fun a => (fb a.2).bind fun b => (look b.2 a.1).bind fun x => (look b.2 b.1).bind fun y => (g x y).bind fun z => match z, b.1 with
    | .bl true, .val yd => (fc b.2).bind fun c => (look c.2 c.1).bind fun w => (g' yd w).map fun z' => (.val z', c.2)
    | .bl false, .val _ => some (.val (.bl false), b.2)
    | _, _ => none := nr rfl
@[simp] theorem x_eAnd : eAnd fa fb env = (bTest fa env).bind fun a => if a.1 then fb a.2 else some (.val (.bl false), a.2) := nr rfl
@[simp] theorem x_eOr : eOr fa fb env = (bTest fa env).bind fun a => if a.1 then some (.val (.bl true), a.2) else fb a.2 := nr rfl
@[simp] theorem x_eNot : eNot fa env = (bTest fa env).map fun a => (.val (.bl (!a.1)), a.2) := nr rfl
@[simp] theorem x_eIf : eIf t fa fb env = (t env).bind fun a => if a.1 then fa a.2 else fb a.2 := nr rfl
@[simp] theorem x_bTest : bTest fa env = (fa env).bind fun a => match a.1 with
  | .val (.bl b) => some (b, a.2)
  | _ => none := nr rfl
@[simp] theorem x_bAnd : bAnd t u env = (t env).bind fun a => if a.1 then u a.2 else some (false, a.2) := nr rfl
@[simp] theorem x_bOr : bOr t u env = (t env).bind fun a => if a.1 then some (true, a.2) else u a.2 := nr rfl
@[simp] theorem x_bNot : bNot t env = (t env).map fun a => (!a.1, a.2) := nr rfl
@[simp] theorem x_bYes : bYes env = some (true, env) := nr rfl
@[simp] theorem x_aNil : aNil env = some ([], env) := nr rfl
@[simp] theorem x_aCons : aCons fa f env = (fa env).bind fun a => (f a.2).map fun b => (a.1 :: b.1, b.2) := nr rfl
@[simp] theorem x_aD : aD f env = (f env).bind fun a => frzs a.2 a.1 := nr rfl
@[simp] theorem x_eTup : eTup f env = (aD f env).bind fun b => if b.1.length ≤ 1000 then some (.val (.tup b.1), b.2) else none := nr rfl
@[simp] theorem x_eLst : eLst f env = (aD f env).bind fun b => if b.1.length ≤ 1000 then some (.fr b.1, b.2) else none := nr rfl
@[simp] theorem x_eCB {g : List D → Option D} : eCB g f env = (f env).bind fun a => (looks a.2 a.1).bind fun ds => (g ds).map fun z => (.val z, a.2) := nr rfl
@[simp] theorem x_eCBL {g : List D → Option (List D)} : eCBL g f env = (f env).bind fun a => (looks a.2 a.1).bind fun ds => (g ds).map fun z => (.fr z, a.2) := nr rfl
@[simp] theorem x_eRev : eRev fa env = (fa env).bind fun a => (look a.2 a.1).bind fun d => (seqOf d).map fun xs => (.fr xs.reverse, a.2) := nr rfl
@[simp] theorem x_eSl {fl fh : En → Option (Option Int × En)} : eSl fa fl fh env = (fa env).bind fun a => (fl a.2).bind fun l => (fh l.2).bind fun h => (look h.2 a.1).bind fun d => (seqOf d).map fun xs => (.fr (cutD xs l.1 h.1), h.2) := nr rfl
@[simp] theorem x_oNone : oNone env = some (none, env) := nr rfl
@[simp] theorem x_oSome : oSome fa env = (fa env).bind fun a => match a.1 with
  | .val (.int i) => some (some i, a.2)
  | _ => none := nr rfl
@[simp] theorem x_eCall {n : Nat} {m : En → Option Res} : eCall n m f env = (aD f env).bind fun a => if a.1.length = n then (m (a.1.map .sh)).bind fun r => match r with
  | .val d _ => some (.val d, a.2)
  | .fr xs _ => some (.fr xs, a.2)
  | .er _ _ => none
  else none := nr rfl
@[simp] theorem x_eCall1 {n : Nat} {m : En → Option Res} : eCall1 n m f env = (f env).bind fun a => match a.1 with
  | .al i :: rs => (frzs a.2 rs).bind fun b => (own b.2 i).bind fun xs => if b.1.length + 1 = n then (m (.ow xs :: b.1.map .sh)).bind fun r => match r with
    | .val d (.ow ys :: _) => some (.val d, b.2.set i (.ow ys))
    | .fr zs (.ow ys :: _) => some (.fr zs, b.2.set i (.ow ys))
    | _ => none
    else none
  | _ => none := nr rfl
@[simp] theorem x_append {i : Nat} : eAppend i f env = (own env i).bind fun _ => (aD f env).bind fun b => (one b.1).bind fun d => (own b.2 i).bind fun xs => if xs.length < 1000000 then some (.val .non, b.2.set i (.ow (xs ++ [d]))) else none := nr rfl
@[simp] theorem x_pop {i : Nat} : eaPop i f env = (own env i).bind fun _ => (aD f env).bind fun b => (oneInt b.1).bind fun k => (own b.2 i).bind fun xs =>
  if 0 ≤ k ∧ k < 2 ^ 63 then (xs[k.toNat]?).map fun d => (.val d, b.2.set i (.ow (xs.eraseIdx k.toNat))) else none := nr rfl
@[simp] theorem x_iSeq : iSeq fa env = (fa env).bind fun a => (frz a.2 a.1).bind fun b => match b.1 with
  | .lst xs => some (xs, b.2)
  | .scr ns => some (ns.map D.int, b.2)
  | _ => none := nr rfl
@[simp] theorem x_iTupF : iTupF fa env = (fa env).bind fun a => match a.1 with
  | .val (.tup xs) => some (xs, a.2)
  | _ => none := nr rfl
@[simp] theorem x_iR1 : iR1 f env = (aD f env).bind fun a => match a.1 with
  | [.int j] => if -(2 ^ 62) ≤ j ∧ j < 2 ^ 62 then some (upTo 0 j.toNat, a.2) else none
  | _ => none := nr rfl
@[simp] theorem x_iR2 : iR2 f env = (aD f env).bind fun a => match a.1 with
  | [.int i, .int j] => if -(2 ^ 62) ≤ i ∧ i < 2 ^ 62 ∧ -(2 ^ 62) ≤ j ∧ j < 2 ^ 62 then some (upTo i (j - i).toNat, a.2) else none
  | _ => none := nr rfl
@[simp] theorem x_iEnumF : iEnumF f env = (aD f env).bind fun a => match a.1 with
  | [d] => (seqOf d).map fun xs => (enumD 0 xs, a.2)
  | _ => none := nr rfl
@[simp] theorem x_iZipF : iZipF f env = (aD f env).bind fun a => match a.1 with
  | [c, d] => (seqOf c).bind fun xs => (seqOf d).map fun ys => (zipD xs ys, a.2)
  | _ => none := nr rfl
@[simp] theorem x_tgName {i : Nat} {d : D} : tgName i d env = some (env.set i (.sh d)) := nr rfl
@[simp] theorem x_tgTup {n : Nat} {h : List D → En → Option En} {xs : List D} : tgTup n h (.tup xs) env = if xs.length = n then h xs env else none := nr rfl
@[simp] theorem x_tgCons {h : D → En → Option En} {k : List D → En → Option En} {d : D} {ds : List D} : tgCons h k (d :: ds) env = (h d env).bind fun e => k ds e := nr rfl
@[simp] theorem x_tgNil : tgNil [] env = some env := nr rfl
@[simp] theorem x_store1 {i : Nat} {d : D} : store i (.val d) env = some (env.set i (.sh d)) := nr rfl
@[simp] theorem x_store2 {i : Nat} {xs : List D} : store i (.fr xs) env = some (env.set i (.ow xs)) := nr rfl
@[simp] theorem x_store3 {i j : Nat} : store i (.al j) env = (frz env (.al j)).map fun b => b.2.set i (.sh b.1) := nr rfl
@[simp] theorem x_frz1 {d : D} : frz env (.val d) = some (d, env) := nr rfl
@[simp] theorem x_frz2 {xs : List D} : frz env (.fr xs) = some (.lst xs, env) := nr rfl
@[simp] theorem x_frz3 {i : Nat} : frz env (.al i) = match env[i]? with
    | some (.ow xs) => some (.lst xs, env.set i (.sh (.lst xs)))
    | some (.sh d) => some (d, env)
    | _ => none := nr rfl
@[simp] theorem x_frzs1 : frzs env [] = some ([], env) := nr rfl
@[simp] theorem x_frzs2 {r : R} {rs : List R} : frzs env (r :: rs) = (frz env r).bind fun a => (frzs a.2 rs).map fun b => (a.1 :: b.1, b.2) := nr rfl
@[simp] theorem x_look1 {d : D} : look env (.val d) = some d := nr rfl
@[simp] theorem x_look2 {xs : List D} : look env (.fr xs) = some (.lst xs) := nr rfl
@[simp] theorem x_look3 {i : Nat} : look env (.al i) = match env[i]? with
    | some (.ow xs) => some (.lst xs)
    | some (.sh d) => some d
    | _ => none := nr rfl
@[simp] theorem x_looks1 : looks env [] = some [] := nr rfl
@[simp] theorem x_looks2 {r : R} {rs : List R} : looks env (r :: rs) = (look env r).bind fun a => (looks env rs).map fun b => a :: b := nr rfl
@[simp] theorem x_own {i : Nat} : own env i = match env[i]? with
  | some (.ow xs) => some xs
  | _ => none := nr rfl
@[simp] theorem x_one {d : D} : one [d] = some d := nr rfl
@[simp] theorem x_oneInt {i : Int} : oneInt [.int i] = some i := nr rfl
@[simp] theorem x_seq1 {xs : List D} : seqOf (.lst xs) = some xs := nr rfl
@[simp] theorem x_seq2 {ns : List Int} : seqOf (.scr ns) = some (ns.map D.int) := nr rfl
@[simp] theorem x_add {i j : Int} : dAdd (.int i) (.int j) = some (.int (i + j)) := nr rfl
@[simp] theorem x_sub {i j : Int} : dSub (.int i) (.int j) = some (.int (i - j)) := nr rfl
@[simp] theorem x_lt {i j : Int} : dLt (.int i) (.int j) = some (.bl (decide (i < j))) := nr rfl
@[simp] theorem x_le {i j : Int} : dLe (.int i) (.int j) = some (.bl (decide (i ≤ j))) := nr rfl
@[simp] theorem x_gt {i j : Int} : dGt (.int i) (.int j) = some (.bl (decide (j < i))) := nr rfl
@[simp] theorem x_ge {i j : Int} : dGe (.int i) (.int j) = some (.bl (decide (j ≤ i))) := nr rfl
@[simp] theorem x_neg {i : Int} : dNeg (.int i) = some (.int (-i)) := nr rfl
theorem x_mul {i j : Int} (h : CMulA i j) : dMul (.int i) (.int j) = some (.int (i * j)) := by
  show (if decide (CMulA i j) = true then _ else _) = _
  rw [decide_eq_true h]
  rfl
theorem x_fdiv {i j : Int} (h0 : 0 < j) (h1 : j < 1073741824) : dFdiv (.int i) (.int j) = some (.int (i / j)) := by
  show (if decide (CDivA i j) = true then some (D.int (i.fdiv j)) else none) = _
  rw [decide_eq_true (show CDivA i j from .inl ⟨by omega, by omega⟩), Int.fdiv_eq_ediv_of_nonneg i (by omega)]
  rfl
theorem x_fdivW {i j : Int} (h0 : 0 < j) (h1 : j < 2 ^ 8000) : dFdiv (.int i) (.int j) = some (.int (i / j)) := by
  show (if decide (CDivA i j) = true then some (D.int (i.fdiv j)) else none) = _
  rw [decide_eq_true (show CDivA i j from .inr (wide_div (b := 8000) h0 (by omega) (by decide) (by decide))), Int.fdiv_eq_ediv_of_nonneg i (by omega)]
  rfl
theorem x_mod {i j : Int} (h0 : 0 < j) : dMod (.int i) (.int j) = some (.int (i % j)) := by
  show (if decide (j ≠ 0) = true then some (D.int (i.fmod j)) else none) = _
  rw [decide_eq_true (show j ≠ 0 by omega), Int.fmod_eq_emod_of_nonneg i (by omega)]
  rfl
theorem x_pow {i j : Int} (h : CPowA i j) : dPow (.int i) (.int j) = some (.int (i ^ j.toNat)) := by
  show (if decide (CPowA i j) = true then _ else _) = _
  rw [decide_eq_true h]
  rfl
@[simp] theorem x_cat {xs ys : List D} : dCat (.lst xs) (.lst ys) = if xs.length + ys.length ≤ sizeLine then some (xs ++ ys) else none := nr rfl
@[simp] theorem x_ix1 {xs : List D} {i : Int} : dIx (.lst xs) (.int i) = atI xs i := nr rfl
@[simp] theorem x_ix2 {xs : List D} {i : Int} : dIx (.tup xs) (.int i) = atI xs i := nr rfl
@[simp] theorem x_ix3 {ns : List Int} {i : Int} : dIx (.scr ns) (.int i) = (atI ns i).map D.int := nr rfl
@[simp] theorem x_len1 {xs : List D} : bLen [.lst xs] = some (.int xs.length) := nr rfl
@[simp] theorem x_len2 {xs : List D} : bLen [.tup xs] = some (.int xs.length) := nr rfl
@[simp] theorem x_len3 {xs : List Int} : bLen [.scr xs] = some (.int xs.length) := nr rfl
@[simp] theorem x_int {i : Int} : bInt [.int i] = some (.int i) := nr rfl
@[simp] theorem x_abs {i : Int} : bAbs [.int i] = some (.int (if i < 0 then -i else i)) := nr rfl
@[simp] theorem x_max2 {i j : Int} : bMax2 [.int i, .int j] = some (.int (if j > i then j else i)) := nr rfl
@[simp] theorem x_min2 {i j : Int} : bMin2 [.int i, .int j] = some (.int (if j < i then j else i)) := nr rfl
@[simp] theorem x_sum {ns : List Int} : bSum [.lst (ns.map D.int)] = some (.int ns.sum) := by
  show (unInts (ns.map D.int)).map _ = _
  rw [unInts_map]
  rfl
@[simp] theorem x_all {ns : List Bool} : bAll [.lst (ns.map D.bl)] = some (.bl (ns.all id)) := by
  show (unBls (ns.map D.bl)).map _ = _
  rw [unBls_map]
  rfl
@[simp] theorem x_maxL {ns : List Int} : bMaxL [.lst (ns.map D.int)] = if ns = [] then none else some (.int (maxL ns)) := by
  show (unInts (ns.map D.int)).bind _ = _
  rw [unInts_map]
  rfl
@[simp] theorem x_minL {ns : List Int} : bMinL [.lst (ns.map D.int)] = if ns = [] then none else some (.int (minL ns)) := by
  show (unInts (ns.map D.int)).bind _ = _
  rw [unInts_map]
  rfl
@[simp] theorem x_sorted {ns : List Int} : bSorted [.lst (ns.map D.int)] = some ((srt ns).map D.int) := by
  show (unInts (ns.map D.int)).map _ = _
  rw [unInts_map]
  rfl
@[simp] theorem x_list {xs : List D} : bList [.lst xs] = some xs := nr rfl
@[simp] theorem params_nil {n : Nat} {e : En} : params [] n e = List.replicate n Sl.un := by
  unfold params
  refine List.ext_getElem (by simp) fun i h1 h2 => ?_
  simp
@[simp] theorem params_zero {n : Nat} {e : En} : params [0] (n + 1) e = e[0]?.getD .un :: List.replicate n Sl.un := by
  unfold params
  rw [List.range_succ_eq_map, List.map_cons, List.map_map]
  congr 1
  refine List.ext_getElem (by simp) fun i h1 h2 => ?_
  simp
theorem k_int_int : kitB "int" "int" = some true := by decide +kernel
theorem k_int_bool : kitB "int" "bool" = some false := by decide +kernel
theorem k_list_list : kitB "list" "list" = some true := by decide +kernel
@[simp] theorem x_isi_int {i : Int} : bIsi [.int i, .ty "int"] = some (.bl true) := by
  show (kitB "int" "int").map _ = _
  rw [k_int_int]
  rfl
@[simp] theorem x_isi_bool {i : Int} : bIsi [.int i, .ty "bool"] = some (.bl false) := by
  show (kitB "int" "bool").map _ = _
  rw [k_int_bool]
  rfl
@[simp] theorem x_isi_list {xs : List D} : bIsi [.lst xs, .ty "list"] = some (.bl true) := by
  show (kitB "list" "list").map _ = _
  rw [k_list_list]
  rfl
end

/-! ### == of ints, of lists of ints -/
theorem eqv_ints : ∀ xs ys : List Int, PyData.eqvAll (xs.map PyData.int) (ys.map PyData.int) = decide (xs = ys)
  | [], [] => by simp [PyData.eqvAll]
  | [], _ :: _ => by simp [PyData.eqvAll]
  | _ :: _, [] => by simp [PyData.eqvAll]
  | x :: xs, y :: ys => by
    have ih := eqv_ints xs ys
    simp only [List.map_cons, PyData.eqvAll, PyData.eqv, ih]
    by_cases h : x = y <;> by_cases h2 : xs = ys <;> simp [h, h2]
theorem canLay_ints : ∀ xs : List Int, PyData.canLayAll0 (xs.map PyData.int) = true
  | [] => by simp [PyData.canLayAll0]
  | x :: xs => by simp [PyData.canLayAll0, PyData.canLay0, canLay_ints xs]
theorem depth_ints : ∀ xs : List Int, PyData.depthAll (xs.map PyData.int) = 0
  | [] => by simp [PyData.depthAll]
  | x :: xs => by simp [PyData.depthAll, PyData.depth, depth_ints xs]
theorem shaped_ints (xs : List Int) : SeqAt.shaped (.list (xs.map PyData.int)) = true := by
  unfold SeqAt.shaped
  simp [PyData.canLay0, canLay_ints, PyData.depth, depth_ints]
theorem shaped_int (i : Int) : SeqAt.shaped (.int i) = true := by
  unfold SeqAt.shaped
  simp [PyData.canLay0, PyData.depth]
theorem shaped_bool (i : Bool) : SeqAt.shaped (.bool i) = true := by
  unfold SeqAt.shaped
  simp [PyData.canLay0, PyData.depth]
theorem toPyAll_ints : ∀ xs : List Int, toPyAll (xs.map D.int) = some (xs.map PyData.int)
  | [] => rfl
  | x :: xs => by
    show (toPy (.int x)).bind _ = _
    rw [toPyAll_ints xs]
    rfl
@[simp] theorem x_eqI {i j : Int} : dEq (.int i) (.int j) = some (.bl (decide (i = j))) := by
  unfold dEq eqD
  simp only [toPy, Option.bind_some, shaped_int, Bool.and_self, if_true, Option.map_some, PyData.eqv]
  by_cases h : i = j <;> simp [h]
@[simp] theorem x_neI {i j : Int} : dNe (.int i) (.int j) = some (.bl (!decide (i = j))) := by
  unfold dNe eqD
  simp only [toPy, Option.bind_some, shaped_int, Bool.and_self, if_true, Option.map_some, PyData.eqv]
  by_cases h : i = j <;> simp [h]
@[simp] theorem x_eqB {i j : Bool} : dEq (.bl i) (.bl j) = some (.bl (decide (i = j))) := by
  unfold dEq eqD
  simp only [toPy, Option.bind_some, shaped_bool, Bool.and_self, if_true, Option.map_some, PyData.eqv]
  cases i <;> cases j <;> rfl
theorem eqD_ints {xs ys : List Int} : eqD (.lst (xs.map D.int)) (.lst (ys.map D.int)) = some (decide (xs = ys)) := by
  unfold eqD
  simp only [toPy, toPyAll_ints, Option.map_some, Option.bind_some, shaped_ints, Bool.and_self, if_true, PyData.eqv, eqv_ints]
@[simp] theorem x_eqL {xs ys : List Int} : dEq (.lst (xs.map D.int)) (.lst (ys.map D.int)) = some (.bl (decide (xs = ys))) := by
  unfold dEq
  rw [eqD_ints]
  rfl
@[simp] theorem x_neL {xs ys : List Int} : dNe (.lst (xs.map D.int)) (.lst (ys.map D.int)) = some (.bl (!decide (xs = ys))) := by
  unfold dNe
  rw [eqD_ints]
  rfl

/-! ### loops and comprehensions -/
/-- a loop all of whose turns go on: R tells the environment behind the items taken -/
theorem loop_all {α : Type} {tgt : D → En → Option En} {body : En → Option Out} (enc : α → D) (Rl : List α → En → Prop) (xs : List α) (env : En) (h0 : Rl [] env)
    (hs : ∀ (pre : List α) (x : α) (post : List α) (env : En), xs = pre ++ x :: post → Rl pre env → ∃ e1 env', tgt (enc x) env = some e1 ∧ body e1 = some (.nx env') ∧ Rl (pre ++ [x]) env') :
    ∃ env', loopS tgt body (xs.map enc) env = some (.nx env') ∧ Rl xs env' := by
  have go : ∀ (post pre : List α) (env : En), xs = pre ++ post → Rl pre env → ∃ env', loopS tgt body (post.map enc) env = some (.nx env') ∧ Rl xs env' := by
    intro post
    induction post with
    | nil =>
      intro pre env e r
      rw [List.append_nil] at e
      subst e
      exact ⟨env, rfl, r⟩
    | cons x post ih =>
      intro pre env e r
      obtain ⟨e1, env', h1, h2, r'⟩ := hs pre x post env e r
      obtain ⟨env2, h3, r2⟩ := ih (pre ++ [x]) env' (by rw [e]; simp) r'
      refine ⟨env2, ?_, r2⟩
      show (tgt (enc x) env).bind _ = _
      rw [h1]
      show (body e1).bind _ = _
      rw [h2]
      exact h3
  exact go xs [] env rfl h0
/-- over a range: by the number of turns -/
theorem loop_range {tgt : D → En → Option En} {body : En → Option Out} (Rl : Nat → En → Prop) (lo : Int) (n : Nat) (env : En) (h0 : Rl 0 env)
    (hs : ∀ (i : Nat) (env : En), i < n → Rl i env → ∃ e1 env', tgt (.int (lo + (i : Nat))) env = some e1 ∧ body e1 = some (.nx env') ∧ Rl (i + 1) env') :
    ∃ env', loopS tgt body (upTo lo n) env = some (.nx env') ∧ Rl n env' := by
  have q := loop_all (α := Nat) (tgt := tgt) (body := body) (fun i => .int (lo + (i : Nat))) (fun pre env => Rl pre.length env) (List.range n) env h0 (fun pre x post env e r => by
    have hx : x = pre.length ∧ pre.length < n := by
      have h1 : (List.range n)[pre.length]? = some x := by rw [e]; simp
      have h2 : pre.length < n := by
        have := (List.getElem?_eq_some_iff.mp h1).1
        simpa using this
      rw [List.getElem?_range h2] at h1
      exact ⟨(Option.some.inj h1).symm, h2⟩
    obtain ⟨rfl, hlt⟩ := hx
    obtain ⟨e1, env', h1, h2, h3⟩ := hs pre.length env hlt r
    exact ⟨e1, env', h1, h2, by simpa using h3⟩)
  rw [List.length_range] at q
  exact q
/-- a comprehension: the environment is told behind each item; what is made so far in acc -/
theorem lc_all {α : Type} {vs : List Nat} {tgt : D → En → Option En} {test : En → Option (Bool × En)} {elt : En → Option (R × En)} (enc : α → D) (p : α → Bool) (Rl : List α → En → List D → Prop) (xs : List α) (env : En) (h0 : Rl [] env [])
    (hs : ∀ (pre : List α) (x : α) (post : List α) (env : En) (acc : List D), xs = pre ++ x :: post → Rl pre env acc → ∃ e1 e2, tgt (enc x) env = some e1 ∧ test e1 = some (p x, e2) ∧
      (p x = false → Rl (pre ++ [x]) (wipeE e2 vs) acc) ∧ (p x = true → ∃ r e3 d e4, elt e2 = some (r, e3) ∧ frz e3 r = some (d, e4) ∧ Rl (pre ++ [x]) (wipeE e4 vs) (acc ++ [d]))) :
    ∃ env' acc, lcF vs tgt test elt (xs.map enc) env [] = some (acc, env') ∧ Rl xs env' acc := by
  have go : ∀ (post pre : List α) (env : En) (acc : List D), xs = pre ++ post → Rl pre env acc → ∃ env' acc', lcF vs tgt test elt (post.map enc) env acc = some (acc', env') ∧ Rl xs env' acc' := by
    intro post
    induction post with
    | nil =>
      intro pre env acc e r
      rw [List.append_nil] at e
      subst e
      exact ⟨env, acc, rfl, r⟩
    | cons x post ih =>
      intro pre env acc e r
      obtain ⟨e1, e2, h1, h2, hf, ht⟩ := hs pre x post env acc e r
      have ex : xs = (pre ++ [x]) ++ post := by rw [e]; simp
      cases hp : p x with
      | false =>
        obtain ⟨env2, acc2, h3, r2⟩ := ih (pre ++ [x]) _ acc ex (hf hp)
        refine ⟨env2, acc2, ?_, r2⟩
        show (tgt (enc x) env).bind _ = _
        rw [h1]
        show (test e1).bind _ = _
        rw [h2, hp]
        exact h3
      | true =>
        obtain ⟨r0, e3, d, e4, g1, g2, r1⟩ := ht hp
        obtain ⟨env2, acc2, h3, r2⟩ := ih (pre ++ [x]) _ (acc ++ [d]) ex r1
        refine ⟨env2, acc2, ?_, r2⟩
        show (tgt (enc x) env).bind _ = _
        rw [h1]
        show (test e1).bind _ = _
        rw [h2, hp]
        show (elt e2).bind _ = _
        rw [g1]
        show (frz e3 r0).bind _ = _
        rw [g2]
        exact h3
  exact go xs [] env [] rfl h0
/-- one turn of a comprehension -/
def turn (vs : List Nat) (tgt : D → En → Option En) (test : En → Option (Bool × En)) (elt : En → Option (R × En)) (d : D) (env : En) : Option (Option D × En) :=
  (tgt d env).bind fun e1 => (test e1).bind fun b => if b.1 then (elt b.2).bind fun r => (frz r.2 r.1).map fun a => (some a.1, wipeE a.2 vs) else some (none, wipeE b.2 vs)
theorem lc_turns {α : Type} {vs : List Nat} {tgt : D → En → Option En} {test : En → Option (Bool × En)} {elt : En → Option (R × En)} (enc : α → D) (Rl : List α → En → List D → Prop) (xs : List α) (env : En) (h0 : Rl [] env [])
    (hs : ∀ (pre : List α) (x : α) (post : List α) (env : En) (acc : List D), xs = pre ++ x :: post → Rl pre env acc → ∃ o env', turn vs tgt test elt (enc x) env = some (o, env') ∧ Rl (pre ++ [x]) env' (acc ++ o.toList)) :
    ∃ env' acc, lcF vs tgt test elt (xs.map enc) env [] = some (acc, env') ∧ Rl xs env' acc := by
  have go : ∀ (post pre : List α) (env : En) (acc : List D), xs = pre ++ post → Rl pre env acc → ∃ env' acc', lcF vs tgt test elt (post.map enc) env acc = some (acc', env') ∧ Rl xs env' acc' := by
    intro post
    induction post with
    | nil =>
      intro pre env acc e r
      rw [List.append_nil] at e
      subst e
      exact ⟨env, acc, rfl, r⟩
    | cons x post ih =>
      intro pre env acc e r
      obtain ⟨o, env1, h1, r1⟩ := hs pre x post env acc e r
      obtain ⟨env2, acc2, h3, r2⟩ := ih (pre ++ [x]) env1 _ (by rw [e]; simp) r1
      refine ⟨env2, acc2, ?_, r2⟩
      unfold turn at h1
      obtain ⟨e1, g1, h1⟩ := Option.bind_eq_some_iff.mp h1
      obtain ⟨⟨b, e2⟩, g2, h1⟩ := Option.bind_eq_some_iff.mp h1
      show (tgt (enc x) env).bind _ = _
      rw [g1]
      show (test e1).bind _ = _
      rw [g2]
      cases b with
      | false =>
        cases h1
        rw [show acc ++ (none : Option D).toList = acc by simp] at h3
        exact h3
      | true =>
        obtain ⟨⟨r0, e3⟩, g3, h1⟩ := Option.bind_eq_some_iff.mp h1
        obtain ⟨⟨d, e4⟩, g4, h1⟩ := Option.map_eq_some_iff.mp h1
        cases h1
        show (elt e2).bind _ = _
        rw [g3]
        show (frz e3 r0).bind _ = _
        rw [g4]
        exact h3
  exact go xs [] env [] rfl h0
theorem lc_pure {α : Type} {vs : List Nat} {tgt : D → En → Option En} {test : En → Option (Bool × En)} {elt : En → Option (R × En)} (enc : α → D) (o : α → Option D) (xs : List α) (env : En)
    (hs : ∀ x ∈ xs, turn vs tgt test elt (enc x) env = some (o x, env)) : lcF vs tgt test elt (xs.map enc) env [] = some (xs.filterMap o, env) := by
  obtain ⟨env', acc, h1, rfl, rfl⟩ := lc_turns (vs := vs) (tgt := tgt) (test := test) (elt := elt) enc (fun pre e acc => e = env ∧ acc = pre.filterMap o) xs env ⟨rfl, rfl⟩ (fun pre x post e acc ex ⟨he, ha⟩ => by
    subst he ha
    refine ⟨o x, _, hs x (by rw [ex]; simp), rfl, ?_⟩
    rw [List.filterMap_append]
    cases q : o x <;> simp [q])
  exact h1
theorem lc_map {α : Type} {vs : List Nat} {tgt : D → En → Option En} {test : En → Option (Bool × En)} {elt : En → Option (R × En)} (enc : α → D) (g : α → D) (xs : List α) (env : En)
    (hs : ∀ x ∈ xs, turn vs tgt test elt (enc x) env = some (some (g x), env)) : lcF vs tgt test elt (xs.map enc) env [] = some (xs.map g, env) := by
  have := lc_pure (vs := vs) (tgt := tgt) (test := test) (elt := elt) enc (fun x => some (g x)) xs env hs
  rw [this]
  simp
/-- a loop's turn as one step -/
theorem loop_turns {α : Type} {tgt : D → En → Option En} {body : En → Option Out} (enc : α → D) (Rl : List α → En → Prop) (xs : List α) (env : En) (h0 : Rl [] env)
    (hs : ∀ (pre : List α) (x : α) (post : List α) (env : En), xs = pre ++ x :: post → Rl pre env → ∃ env', (tgt (enc x) env).bind body = some (.nx env') ∧ Rl (pre ++ [x]) env') :
    ∃ env', loopS tgt body (xs.map enc) env = some (.nx env') ∧ Rl xs env' :=
  loop_all enc Rl xs env h0 fun pre x post env e r => by
    obtain ⟨env', h1, h2⟩ := hs pre x post env e r
    obtain ⟨e1, g1, h1⟩ := Option.bind_eq_some_iff.mp h1
    exact ⟨e1, env', g1, h1, h2⟩
theorem loop_rangeT {tgt : D → En → Option En} {body : En → Option Out} (Rl : Nat → En → Prop) (lo : Int) (n : Nat) (env : En) (h0 : Rl 0 env)
    (hs : ∀ (i : Nat) (env : En), i < n → Rl i env → ∃ env', (tgt (.int (lo + (i : Nat))) env).bind body = some (.nx env') ∧ Rl (i + 1) env') :
    ∃ env', loopS tgt body (upTo lo n) env = some (.nx env') ∧ Rl n env' :=
  loop_range Rl lo n env h0 fun i env hi r => by
    obtain ⟨env', h1, h2⟩ := hs i env hi r
    obtain ⟨e1, g1, h1⟩ := Option.bind_eq_some_iff.mp h1
    exact ⟨e1, env', g1, h1, h2⟩
end Vm

set_option Elab.async false
set_option linter.all false
set_option maxRecDepth 100000
/-! VmX: expressions that may raise, where a statement takes what they raise. -/
namespace Vm
open PySem PySem.Spec PyProof.Rows L2 Evl
inductive XR where
  | ok (r : R) | er (c : Str)
section
variable {K : PySem.W.Frag} {C : Ctx} {B B' G H H' : Hp} {env env' : En} {σ : L2.St} {v : V} {r : R} {d : D} {ta : TA} {te : TE} {f : En → Option (R × En)} {X : Cx} {fix : List Nat} {W : WX}
/-- the transformer goes as f says, or lets out an error of the class that f tells -/
def SX (K : PySem.W.Frag) (W : WX) (t : TE) (f : En → Option (XR × En)) : Prop :=
  ∀ C : Ctx, C.K = K → ∀ (B : Hp) (env : En) (σ : L2.St) (H : Hp) (x : XR) (env' : En), SR C B env σ H → f env = some (x, env') →
    ∀ Q : VK, (match x with
      | .ok r => ∀ v B' H', SR C B' env' σ H' → Ex B B' → RepR C B' env' σ H' v r → Q v H'
      | .er c => ∀ B' H', SR C B' env' σ H' → Ex B B' → W (.ref (clsOf K c)) none σ H') → t σ H Q
def xOf (f : En → Option (R × En)) : En → Option (XR × En) := fun env => (f env).map fun a => (.ok a.1, a.2)
theorem sx_of (h : SE K te f) : SX K W te (xOf f) := by
  intro C hC B env σ H x env' s e Q hq
  obtain ⟨⟨a, e1⟩, g1, e⟩ := Option.map_eq_some_iff.mp e
  cases e
  exact h C hC B env σ H a e1 s g1 Q hq
def xCall (n : Nat) (m : En → Option Res) (f : En → Option (List R × En)) : En → Option (XR × En) := fun env => (aD f env).bind fun a => if a.1.length = n then (m (a.1.map .sh)).map fun r => match r with
  | .val d _ => (.ok (.val d), a.2)
  | .fr xs _ => (.ok (.fr xs), a.2)
  | .er c _ => (.er c, a.2)
  else none
theorem sx_call {n : Nat} {m : En → Option Res} {f : En → Option (List R × En)} (h : SA K ta f) : SX K W (tCallS (SpM K n m) (WE W) ta) (xCall n m f) := by
  intro C hC B env σ H x env' s e Q hq
  obtain ⟨⟨ds, e1⟩, g1, e⟩ := Option.bind_eq_some_iff.mp e
  split at e
  · rename_i hn
    obtain ⟨res, g2, e⟩ := Option.map_eq_some_iff.mp e
    obtain ⟨rs, e0, g3, g4⟩ := aD_some g1
    refine h C hC B env σ H rs e0 s g3 _ fun vs B1 H1 s1 x1 rr => ?_
    obtain ⟨B2, s2, x2, ra⟩ := frzs_w s1 rr.w g4
    rw [hC] at ra
    refine ⟨by rw [ra.length]; exact hn, B2, _, res, sr_args ra s2.exB, g2, ?_⟩
    cases res with
    | val d ae =>
      cases e
      exact fun v B' H' s' x rv => hq v B' H' (s2.called (fun _ => off_args) s' x) ((x1.trans x2).trans x) (by rw [show RepR C B' e1 σ H' v (.val d) = Rep C.K B' v d from rfl, hC]; exact rv)
    | fr xs ae =>
      cases e
      exact fun v B' H' s' x rv => hq v B' H' (s2.called (fun _ => off_args) s' x) ((x1.trans x2).trans x) (rv.called s2 (fun _ => off_args) hC)
    | er c ae =>
      cases e
      exact fun B' H' s' x => hq B' H' (s2.called (fun _ => off_args) s' x) ((x1.trans x2).trans x)
  · cases e
def xsExpr (f : En → Option (XR × En)) : En → Option Out := fun env => (f env).map fun a => match a.1 with
  | .ok _ => .nx a.2
  | .er c => .er c a.2
theorem ss_exprX {f : En → Option (XR × En)} (h : SX K W te f) : SS K fix W (tDrop te) (xsExpr f) := by
  intro C hC hF B env σ H o s e D p
  obtain ⟨⟨a, e1⟩, g1, rfl⟩ := Option.map_eq_some_iff.mp e
  refine h C hC B env σ H a e1 s g1 _ ?_
  cases a with
  | ok r => exact fun v B' H' s' x _ => p B' σ H' s' x
  | er c =>
    exact fun B' H' s' x => by
      have q := p B' σ H' s' x
      rw [hC] at q
      exact q
def xsRet (f : En → Option (XR × En)) : En → Option Out := fun env => (f env).map fun a => match a.1 with
  | .ok r => .rt r a.2
  | .er c => .er c a.2
theorem ss_retX {f : En → Option (XR × En)} (h : SX K W te f) : SS K fix W (tRet te) (xsRet f) := by
  intro C hC hF B env σ H o s e D p
  obtain ⟨⟨a, e1⟩, g1, rfl⟩ := Option.map_eq_some_iff.mp e
  refine h C hC B env σ H a e1 s g1 _ ?_
  cases a with
  | ok r => exact fun v B' H' s' x rr => p v B' σ H' s' x rr
  | er c =>
    exact fun B' H' s' x => by
      have q := p B' σ H' s' x
      rw [hC] at q
      exact q
def xsSet (i : Nat) (f : En → Option (XR × En)) : En → Option Out := fun env => (f env).bind fun a => match a.1 with
  | .ok r => (store i r a.2).map Out.nx
  | .er c => some (.er c a.2)
theorem ss_setX {i : Nat} {f : En → Option (XR × En)} (h : SX K W te f) (hi : i ∉ fix) : SS K fix W (tAsg te (gName i)) (xsSet i f) := by
  intro C hC hF B env σ H o s e D p
  obtain ⟨⟨a, e1⟩, g1, e⟩ := Option.bind_eq_some_iff.mp e
  refine h C hC B env σ H a e1 s g1 _ ?_
  cases a with
  | ok r =>
    obtain ⟨e2, g2, rfl⟩ := Option.map_eq_some_iff.mp e
    exact fun v B' H' s' x rr => by
      obtain ⟨B2, s2, x2⟩ := store_ok s' (by rw [hF]; exact hi) rr g2
      exact p B2 _ H' s2 (x.trans x2)
  | er c =>
    cases e
    exact fun B' H' s' x => by
      have q := p B' σ H' s' x
      rw [hC] at q
      exact q
/-- raise of a class of the module -/
def sRaise (c : Str) : En → Option Out := fun env => some (.er c env)
theorem ss_raise {c : Str} {a : Addr} (ha : clsOf K c = a) : SS K fix W (fun _ σ H => W (.ref a) none σ H) (sRaise c) := by
  intro C hC hF B env σ H o s e D p
  cases e
  have q := p B σ H s (Ex.refl _)
  rw [hC, ha] at q
  exact q
theorem clsOf_of {c : Str} {a : Addr} (h : PySem.W.nsIn K mainGlobals c = some (some (.ref a))) : clsOf K c = a := by
  unfold clsOf
  rw [h]
end
section
variable {X : Cx} {W : WX}
/-- what is known of a def of the module that may raise -/
structure DefX (P : Program) (w : World) (K : PySem.W.Frag) (mg : Str → Option Value) (base : Heap) (x : Str) (ps : List Str) (k : Nat) (m : En → Option Res) : Prop where
  ex : ∃ f fd, mg x = some (.ref f) ∧ FnOk P w K mg base (L2.CX P w) k f fd ps (SpM K ps.length m) ∧ PySem.W.keepIn K (.ref f) = true ∧ Binds K fd ps []
/-- a call of it where a statement takes what it raises -/
theorem pe_defX {x : Str} {ps : List Str} {n k j : Nat} {m : En → Option Res} {p pos : Pos} {e : Expr} {es : List Expr} {t : TA} (tk : Takes X W) (h : DefX X.prog X.w X.K X.mg X.base x ps k m) (hn : ps.length = n) (hr : Room j X.A) (hj : k ≤ j) (hg : Gl X x) (ha : PA X (e :: es) t)
    (hdb : (x == ("__debug__" : Str)) = false := by decide)
    (he : starEach (e :: es) X.env = (false, eval e X.env) :: starEach es X.env := by rfl) (hpl : (backTo pos (starEach es X.env)).any (·.1) = false := by rfl) : PE X (.Call (.Name x p) (e :: es) [] pos) (tCallS (SpM X.K n m) (WE W) t) := by
  subst hn
  obtain ⟨f, fd, hm, F, hk, hb⟩ := h.ex
  exact pe_callS F (hr.mono hj) hg hm hk hb (fun σ => passAt tk σ) ha hdb he hpl
/-- .. where it does not raise -/
theorem pe_defY {x : Str} {ps : List Str} {n k j : Nat} {m : En → Option Res} {p pos : Pos} {e : Expr} {es : List Expr} {t : TA} (h : DefX X.prog X.w X.K X.mg X.base x ps k m) (hn : ps.length = n) (hr : Room j X.A) (hj : k ≤ j) (hg : Gl X x) (ha : PA X (e :: es) t)
    (hdb : (x == ("__debug__" : Str)) = false := by decide)
    (he : starEach (e :: es) X.env = (false, eval e X.env) :: starEach es X.env := by rfl) (hpl : (backTo pos (starEach es X.env)).any (·.1) = false := by rfl) : PE X (.Call (.Name x p) (e :: es) [] pos) (tCall (SpM X.K n m) [] E0 t) := by
  subst hn
  obtain ⟨f, fd, hm, F, hk, hb⟩ := h.ex
  exact pe_call F (hr.mono hj) hg hm hk hb .nil passL ha hdb he hpl
end
/-! ### try: body, except NAME as n: suite -/
section
variable {K : PySem.W.Frag} {C : Ctx} {B B' H H' : Hp} {env : En} {σ : L2.St} {fix : List Nat} {W : WX}
/-- slot i is emptied -/
theorem SR.dropV (s : SR C B env σ H) {i : Nat} (hi : i ∉ C.fix) : SR C B (env.set i .un) (σ.set i none) H := by
  refine ⟨s.exG, s.exB, s.ex0, s.new, by rw [List.length_set, List.length_set]; exact s.len, fun j u h => ?_, fun j k q x1 x2 e1 e2 h1 h2 => ?_, fun j hj => ?_⟩
  · rcases get_set h with ⟨rfl, rfl, hl⟩ | ⟨hj, h⟩
    · trivial
    · rw [List.getElem?_set_ne (fun e => hj e.symm)]
      exact s.sl j u h
  · rcases get_set e1 with ⟨rfl, et, hl⟩ | ⟨hj, g1⟩
    · cases et
    · rcases get_set e2 with ⟨rfl, et, hl⟩ | ⟨hk, g2⟩
      · cases et
      · rw [List.getElem?_set_ne (fun e => hj e.symm)] at h1
        rw [List.getElem?_set_ne (fun e => hk e.symm)] at h2
        exact s.dis j k q x1 x2 g1 g2 h1 h2
  · have : i ≠ j := fun e => hi (e ▸ hj)
    rw [List.getElem?_set_ne this]
    exact s.fx j hj
/-- the suite: slot i holds an error (at a, of the class that the module calls c) that nothing is known of but its class -/
def SH (K : PySem.W.Frag) (fix : List Nat) (i : Nat) (ts : Addr → Value → Option Addr → TS) (Fh : Str → En → Option Out) : Prop :=
  ∀ C : Ctx, C.K = K → C.fix = fix → ∀ (B : Hp) (env : En) (σ : L2.St) (H : Hp) (o : Out) (c : Str) (a : Addr), SR C B env σ H → env[i]? = some .un → σ[i]? = some (some (.ref a)) → H a = none → Fh c env = some o →
    ∀ D : Ends, Post C B (fun _ _ _ _ => False) D o → ts a (.ref (clsOf K c)) none D σ H
def sTry (i : Nat) (Fb : En → Option Out) (Fh : Str → En → Option Out) : En → Option Out := fun env => (Fb env).bind fun o => match o with
  | .er c e1 => if i < e1.length then (Fh c (e1.set i .un)).bind fun o2 => match o2 with
      | .nx e => some (.nx (e.set i .un))
      | .rt r e => some (.rt r e)
      | .bk e => some (.bk (e.set i .un))
      | .ct e => some (.ct (e.set i .un))
      | .er _ _ => none
    else none
  | o => some o
theorem ss_try {tb : WX → TS} {ts : Addr → Value → Option Addr → TS} {Fb : En → Option Out} {Fh : Str → En → Option Out} {i : Nat} {cN : Value} (hi : i ∉ fix) (hb : ∀ W', SS K fix W' (tb W') Fb) (hs : SH K fix i ts Fh)
    (hc : ∀ c env o, Fh c env = some o → PySem.W.exmOne K (.ref (clsOf K c)) cN = some true) : SS K fix W (fun D σ H => tb (wAs K cN i ts W D) D σ H) (sTry i Fb Fh) := by
  intro C hC hF B env σ H o s e D p
  obtain ⟨o1, g1, e⟩ := Option.bind_eq_some_iff.mp e
  refine hb _ C hC hF B env σ H o1 s g1 D ?_
  cases o1 with
  | nx e1 => cases e; exact p
  | rt r e1 => cases e; exact p
  | bk e1 => cases e; exact p
  | ct e1 => cases e; exact p
  | er c e1 =>
    simp only at e
    split at e
    · rename_i hl
      obtain ⟨o2, g2, e⟩ := Option.bind_eq_some_iff.mp e
      intro B' σ' H' s' x
      rw [hC]
      refine ⟨true, hc _ _ _ g2, fun _ a ha => ?_, fun q => Bool.noConfusion q⟩
      have hif : i ∉ C.fix := by rw [hF]; exact hi
      have s2 : SR C B' (e1.set i .un) (σ'.set i (some (.ref a))) H' := s'.setV hif trivial
      refine hs C hC hF B' _ _ H' o2 c a s2 (by rw [List.getElem?_set_self hl]) (by rw [List.getElem?_set_self (by rw [s'.len]; exact hl)]) ha g2 _ ?_
      cases o2 with
      | nx e2 => cases e; exact fun B2 σ2 H2 s3 x2 => p B2 _ H2 (s3.dropV hif) (x.trans x2)
      | rt r e2 => cases e; exact fun v B2 σ2 H2 s3 x2 rr => p v B2 σ2 H2 s3 (x.trans x2) rr
      | bk e2 => cases e; exact fun B2 σ2 H2 s3 x2 => p B2 _ H2 (s3.dropV hif) (x.trans x2)
      | ct e2 => cases e; exact fun B2 σ2 H2 s3 x2 => p B2 _ H2 (s3.dropV hif) (x.trans x2)
      | er c2 e2 => cases e
    · cases e
end
/-! ### displays of dicts of constants -/
section
variable {K : PySem.W.Frag} {C : Ctx} {B B' H H' : Hp} {env : En} {σ : L2.St} {X : Cx}
theorem upd_upd {H : Hp} {p : Addr} {a b : HO} : upd (upd H p a) p b = upd H p b := by
  funext q
  by_cases h : q = p
  · subst h
    rw [upd_same, upd_same]
  · unfold upd
    simp [h]
theorem se_d0 : SE K tDNewK (eC (.dct [] [])) := by
  intro C hC B env σ H r env' s e Q hq
  cases e
  intro p hp
  have bp := fresh_back s.exB hp
  refine hq (.ref p) (upd B p (.dK [])) _ (s.alloc hp) (Ex.new bp) ?_
  exact .dct (kvs := []) upd_same .nil
theorem se_d1 {k : Str} {v : Int} : SE K (tDisp [(tC (.str k), tC (.int v))]) (eC (.dct [.inr k] [.int v])) := by
  intro C hC B env σ H r env' s e Q hq
  cases e
  intro p hp
  have bp := fresh_back s.exB hp
  refine ⟨upd_same, [(.inr k, .int v)], rfl, (by simp), ?_⟩
  rw [upd_upd]
  refine hq (.ref p) (upd B p (.dK [(.inr k, .int v)])) _ (s.alloc hp) (Ex.new bp) ?_
  exact .dct (kvs := [(.inr k, .int v)]) upd_same (.cons (.int v) .nil)
end
/-! ### tuple(xs) -/
section
variable {K : PySem.W.Frag}
def bTuple : List D → Option D
  | [.lst xs] => some (.tup xs)
  | _ => none
def rTupOf (K : PySem.W.Frag) : List V → Hp → VK → Prop := fun xs H Q => ∃ p ys, xs = [.ref p] ∧ ((SqL K H p ys ∧ ∀ l, H l = none → Q (.ref l) (upd H l (.tup ys))) ∨ (SqT K H p ys ∧ Q (.ref p) H))
theorem rc_tuple : RC K (rTupOf K) bTuple := by
  intro C hC B env σ H vs ds z s rx e Q hq
  unfold bTuple at e
  split at e
  · cases e
    obtain ⟨v, rfl, k⟩ := rx.one
    obtain ⟨a, ws, rfl, h1, h2⟩ := k.list s.exB
    refine ⟨a, ws, rfl, .inl ⟨sq_of h1, fun l hl => ?_⟩⟩
    have bp := fresh_back s.exB hl
    refine hq (.ref l) (upd B l (.tup ws)) _ (s.alloc hl) (Ex.new bp) ?_
    exact .tup (st_of upd_same) (h2.mono (Ex.new bp))
  · cases e
end
end Vm

set_option Elab.async false
set_option linter.all false
set_option maxRecDepth 100000
/-! VmY: an own list that becomes a value between two statements; a call that only borrows own lists. -/
namespace Vm
open PySem PySem.Spec PyProof.Rows L2 Evl
section
variable {K : PySem.W.Frag} {C : Ctx} {B B' H H' : Hp} {env env' : En} {σ : L2.St} {v : V} {fix : List Nat} {W : WX} {t : TS} {F : En → Option Out}
def sFrz (i : Nat) : En → Option Out := fun env => match env[i]? with
  | some (.ow xs) => some (.nx (env.set i (.sh (.lst xs))))
  | _ => none
theorem Post.monoB {D : Ends} (x : Ex B B') {o : Out} (p : Post C B W D o) : Post C B' W D o := by
  cases o with
  | nx e => exact fun B2 σ2 H2 s2 x2 => p B2 σ2 H2 s2 (x.trans x2)
  | rt r e => exact fun v B2 σ2 H2 s2 x2 rr => p v B2 σ2 H2 s2 (x.trans x2) rr
  | bk e => exact fun B2 σ2 H2 s2 x2 => p B2 σ2 H2 s2 (x.trans x2)
  | ct e => exact fun B2 σ2 H2 s2 x2 => p B2 σ2 H2 s2 (x.trans x2)
  | er c e => exact fun B2 σ2 H2 s2 x2 => p B2 σ2 H2 s2 (x.trans x2)
theorem ss_pre {i : Nat} (h : SS K fix W t F) : SS K fix W t (sSeq (sFrz i) F) := by
  intro C hC hF B env σ H o s e D p
  unfold sSeq sFrz at e
  cases q : env[i]? with
  | none => simp only [q] at e; cases e
  | some sl =>
    simp only [q] at e
    cases sl with
    | un => cases e
    | sh d => cases e
    | ow xs =>
      simp only [Option.bind_some] at e
      obtain ⟨pa, vs, e1, bp, gp, hp, ra⟩ := s.sl i _ q
      have z : frz env (.al i) = some (.lst xs, env.set i (.sh (.lst xs))) := by rw [x_frz3, q]
      obtain ⟨B1, s1, x1, _⟩ := frz_rep (v := .ref pa) s (show RepR C B env σ H (.ref pa) (.al i) from e1) z
      exact h C hC hF B1 _ σ H o s1 e D (p.monoB x1)
/-- what slot i holds is forgotten -/
def sDrop (i : Nat) : En → Option Out := fun env => some (.nx (env.set i .un))
theorem ss_drop {i : Nat} (h : SS K fix W t F) : SS K fix W t (sSeq (sDrop i) F) := by
  intro C hC hF B env σ H o s e D p
  exact h C hC hF B _ σ H o (s.reslot (i := i) (t := .un) (fun xs z => by cases z) trivial) e D p
theorem SR.keepH (s : SR C B env σ H) (k : Ex H H') : SR C B env σ H' := by
  refine ⟨s.exG.trans k, s.exB.trans k, s.ex0, s.new, s.len, fun i t h => ?_, s.dis, s.fx⟩
  refine (s.sl i t h).mono (Ex.refl _) fun p e1 ⟨xs, ex⟩ => ?_
  subst ex
  obtain ⟨p', vs, e2, bp, _, hp, _⟩ := s.sl i _ h
  rw [e1] at e2
  cases e2
  exact ⟨bp, by rw [k p _ hp, hp]⟩
def flat1 (d : D) : Bool := (sc d).isSome
theorem flat1_rep {d : D} (h : flat1 d = true) (r : Rep K B v d) : Rep K B' v d := by
  unfold flat1 at h
  cases q : sc d with
  | none => rw [q] at h; cases h
  | some w =>
    have e := rep_sc q r
    subst e
    exact sc_rep q
theorem flat1_all : ∀ {vs : List V} {xs : List D}, xs.all flat1 = true → RepAll K B vs xs → RepAll K B' vs xs
  | _, _, _, .nil => .nil
  | _, _, h, .cons a t => by
    rw [List.all_cons, Bool.and_eq_true] at h
    exact .cons (flat1_rep h.1 a) (flat1_all h.2 t)
def eCallB (n : Nat) (m : En → Option Res) (f : En → Option (List R × En)) : En → Option (R × En) := fun env => (f env).bind fun a => (frzs a.2 a.1).bind fun b => if b.1.length = n then (m (b.1.map .sh)).bind fun r => match r with
  | .val d _ => if flat1 d then some (.val d, a.2) else none
  | .fr xs _ => if xs.all flat1 then some (.fr xs, a.2) else none
  | .er _ _ => none
  else none
theorem se_callBG {n : Nat} {m : En → Option Res} {dv : L2.St → XK} {ta : TA} {f : En → Option (List R × En)} (h : SA K ta f) : SE K (fun σ H Q => ta σ H fun vs H1 => SpM K n m vs H1 Q (dv σ)) (eCallB n m f) := by
  intro C hC B env σ H r env' s e Q hq
  obtain ⟨⟨rs, e0⟩, g1, e⟩ := Option.bind_eq_some_iff.mp e
  obtain ⟨⟨ds, e1⟩, g2, e⟩ := Option.bind_eq_some_iff.mp e
  split at e
  · rename_i hn
    obtain ⟨res, g4, e⟩ := Option.bind_eq_some_iff.mp e
    refine h C hC B env σ H rs e0 s g1 _ fun vs B1 H1 s1 x1 rr => ?_
    obtain ⟨B2, s2, x2, ra⟩ := frzs_w s1 rr.w g2
    rw [hC] at ra
    refine ⟨by rw [ra.length]; exact hn, B2, _, res, sr_args ra s2.exB, g4, ?_⟩
    have kept : ∀ {H' : Hp} {B' : Hp} {ae : En}, SR (Cx0 K (Rest (ds.map Sl.sh) (vs.map some) H1) B2) B' ae (vs.map some) H' → Ex H1 H' := fun s' q o hh => s'.exG q o (by
      show Rest _ _ _ q = some o
      rw [rest_of off_args]
      exact hh)
    cases res with
    | val d ae =>
      simp only at e
      split at e
      · rename_i hfl
        cases e
        exact fun v B' H' s' x rv => hq v B1 H' (s1.keepH (kept s')) x1 (by rw [show RepR C B1 _ σ H' v (.val d) = Rep C.K B1 v d from rfl, hC]; exact flat1_rep hfl rv)
      · cases e
    | fr xs ae =>
      simp only at e
      split at e
      · rename_i hfl
        cases e
        intro v B' H' s' x rv
        obtain ⟨p, ws, rfl, bp, gp, hp, rw', off⟩ := rv
        have gp : Rest (ds.map Sl.sh) (vs.map some) H1 p = none := gp
        rw [rest_of off_args] at gp
        exact hq _ B1 H' (s1.keepH (kept s')) x1 ⟨p, ws, rfl, fresh_back s1.exB gp, fresh_back s1.exG gp, hp, by rw [hC]; exact flat1_all hfl rw', s1.off gp⟩
      · cases e
    | er c ae => cases e
  · cases e
theorem se_callB {n : Nat} {m : En → Option Res} {E : XK} {ta : TA} {f : En → Option (List R × En)} (h : SA K ta f) : SE K (tCall (SpM K n m) [] E ta) (eCallB n m f) := by
  intro C hC B env σ H r env' s e Q hq
  have q := se_callBG (n := n) (m := m) (dv := fun _ => E) h C hC B env σ H r env' s e Q hq
  show ta σ H fun vs H1 => SpM K n m (vs ++ []) H1 Q E
  have w : (fun (vs : List V) (H1 : Hp) => SpM K n m (vs ++ []) H1 Q E) = fun vs H1 => SpM K n m vs H1 Q E := by
    funext vs H1
    rw [List.append_nil]
  rw [w]
  exact q
end
end Vm

set_option Elab.async false
set_option linter.all false
set_option maxRecDepth 100000
/-! VmZ: defs as values, calls of what a name holds; gcd. -/
namespace Vm
open PySem PySem.Spec PyProof.Rows L2 Evl
section
variable {K : PySem.W.Frag} {C : Ctx} {B B' H H' : Hp} {env env' : En} {σ : L2.St} {v : V} {P : Program} {w : World} {mg : Str → Option Value} {base : Heap}
/-- the module's name x holds a def (or a class), which stands where K says -/
structure FnAt (K : PySem.W.Frag) (mg : Str → Option Value) (x : Str) : Prop where
  ex : mg x = some (.ref (clsOf K x))
theorem fnAt_of {x : Str} {a : Addr} (h : mg x = some (.ref a)) (n : PySem.W.nsIn K mainGlobals x = some (some (.ref a))) : FnAt K mg x := ⟨by rw [h, clsOf_of n]⟩
theorem pe_fn {X : Cx} {x : Str} {pos : Pos} (hg : Gl X x) (h : FnAt X.K X.mg x) (hd : (x == ("__debug__" : Str)) = false := by decide) : PE X (.Name x pos) (tC (.ref (clsOf X.K x))) := pe_glob hg h.ex rfl hd
theorem se_fn {x : Str} : SE K (tC (.ref (clsOf K x))) (eC (.fn x)) := se_c fun _ => .fn x
abbrev Tbl := List (Str × (En → Option Res))
def tblS (K : PySem.W.Frag) (n : Nat) (tbl : Tbl) (a : Addr) : Option Sp := (tbl.find? fun p => clsOf K p.1 == a).map fun p => SpM K n p.2
inductive TblOk (P : Program) (w : World) (K : PySem.W.Frag) (mg : Str → Option Value) (base : Heap) (k n : Nat) : Tbl → Prop
  | nil : TblOk P w K mg base k n []
  | cons {x : Str} {ps : List Str} {j : Nat} {m : En → Option Res} {tbl : Tbl} (h : DefOk P w K mg base x ps j m) (v : FnAt K mg x) (hj : j ≤ k) (hn : ps.length = n) (t : TblOk P w K mg base k n tbl) : TblOk P w K mg base k n ((x, m) :: tbl)
theorem TblOk.held {k n : Nat} {tbl : Tbl} (h : TblOk P w K mg base k n tbl) : ∀ p ∈ tbl, Held P w K mg base k (clsOf K p.1) (SpM K n p.2) := by
  induction h with
  | nil => intro p hp; cases hp
  | cons h v hj hn _ ih =>
    intro p hp
    rcases List.mem_cons.mp hp with rfl | hp
    · subst hn
      obtain ⟨f, fd, h1, F, h3, h4⟩ := h.ex
      have e : some (Value.ref f) = some (.ref (clsOf K _)) := h1.symm.trans v.ex
      cases e
      exact ⟨fd, _, F.mono hj, h3, h4⟩
    · exact ih p hp
theorem pe_callT {X : Cx} {x : Str} {i j k n : Nat} {tbl : Tbl} {p pos : Pos} {e : Expr} {es : List Expr} {t : TA} (T : TblOk X.prog X.w X.K X.mg X.base k n tbl) (hr : Room j X.A) (hj : k ≤ j) (hN : X.N[i]? = some x) (hv : Vis X.env.scope x) (ha : PA X (e :: es) t)
    (hdb : (x == ("__debug__" : Str)) = false := by decide) (hcd : (x == ("__classdict__" : Str)) = false := by decide)
    (he : starEach (e :: es) X.env = (false, eval e X.env) :: starEach es X.env := by rfl) (hpl : (backTo pos (starEach es X.env)).any (·.1) = false := by rfl) : PE X (.Call (.Name x p) (e :: es) [] pos) (tCallA i (tblS X.K n tbl) t) := by
  refine pe_callA (fun f sp hs => ?_) (hr.mono hj) hN hv ha hdb hcd he hpl
  unfold tblS at hs
  obtain ⟨q, hq, rfl⟩ := Option.map_eq_some_iff.mp hs
  have e1 : clsOf X.K q.1 = f := by simpa using List.find?_some hq
  rw [← e1]
  exact T.held q (List.mem_of_find?_eq_some hq)
def eCallV (i n : Nat) (tbl : Tbl) (f : En → Option (List R × En)) : En → Option (R × En) := fun env => match env[i]? with
  | some (.sh (.fn x)) => (tbl.lookup x).bind fun m => eCall n m f env
  | _ => none
theorem tblS_of {n : Nat} : ∀ {tbl : Tbl} {x : Str} {m : En → Option Res}, (tbl.map fun p => clsOf K p.1).Nodup → tbl.lookup x = some m → tblS K n tbl (clsOf K x) = some (SpM K n m)
  | [], x, m, _, h => by cases h
  | (y, m') :: tbl, x, m, nd, h => by
    rw [List.map_cons, List.nodup_cons] at nd
    unfold tblS
    rw [List.find?_cons]
    by_cases hy : y = x
    · subst hy
      have h : some m' = some m := by simpa [List.lookup] using h
      cases h
      simp
    · have h2 : tbl.lookup x = some m := by
        rw [List.lookup_cons] at h
        have : (x == y) = false := by
          cases q : x == y with
          | false => rfl
          | true => exact absurd (eq_of_beq q).symm hy
        rw [this] at h
        exact h
      have hne : (clsOf K y == clsOf K x) = false := by
        cases q : clsOf K y == clsOf K x with
        | false => rfl
        | true =>
          refine absurd ?_ nd.1
          rw [eq_of_beq q]
          clear q nd h hy
          induction tbl with
          | nil => cases h2
          | cons p tbl ih =>
            rw [List.lookup_cons] at h2
            cases q : x == p.1 with
            | true => rw [List.map_cons, ← eq_of_beq q]; exact List.mem_cons_self
            | false =>
              rw [q] at h2
              exact List.mem_cons_of_mem _ (ih h2)
      simp only [hne]
      exact tblS_of nd.2 h2
theorem se_callT {i n : Nat} {tbl : Tbl} {ta : TA} {f : En → Option (List R × En)} (nd : (tbl.map fun p => clsOf K p.1).Nodup) (h : SA K ta f) : SE K (tCallA i (tblS K n tbl) ta) (eCallV i n tbl f) := by
  intro C hC B env σ H r env' s e Q hq
  unfold eCallV at e
  split at e
  · rename_i x hx
    obtain ⟨m, hm, e⟩ := Option.bind_eq_some_iff.mp e
    obtain ⟨u, h1, h2⟩ := s.sl i _ hx
    cases h2
    rw [hC] at h1
    exact ⟨_, _, h1, tblS_of nd hm, se_callG (n := n) (m := m) (dv := fun _ _ _ _ => False) h C hC B env σ H r env' s e Q hq⟩
  · cases e
/-! gcd -/
def bGcd : List D → Option D
  | [.int a, .int b] => some (.int ((Nat.gcd a.natAbs b.natAbs : Nat) : Int))
  | _ => none
theorem rc_gcd : RC K rGcd bGcd := RCS.rc (by
  intro B H vs ds z e rx h
  unfold bGcd at h
  split at h
  · cases h
    obtain ⟨v, w, rfl, h1, h2⟩ := rx.two
    have q1 := h1.int
    have q2 := h2.int
    subst q1 q2
    exact ⟨_, rfl, fun Q q => ⟨_, _, rfl, q⟩⟩
  · cases h)
end
end Vm
namespace Vm
open PySem PySem.Spec PyProof.Rows L2 Evl
section
variable {K : PySem.W.Frag} {C : Ctx} {B B' H H' : Hp} {env env' : En} {σ : L2.St} {v : V}
/-! a call whose first argument is a new list, which the callee may change and nobody sees again -/
def eCall1F (n : Nat) (m : En → Option Res) (fa : En → Option (R × En)) (f : En → Option (List R × En)) : En → Option (R × En) := fun env => (fa env).bind fun a => match a.1 with
  | .fr xs => (f a.2).bind fun c => (frzs c.2 c.1).bind fun b => if b.1.length + 1 = n then (m (.ow xs :: b.1.map .sh)).bind fun r => match r with
    | .val d (.ow _ :: _) => some (.val d, b.2)
    | .fr zs (.ow _ :: _) => some (.fr zs, b.2)
    | _ => none
    else none
  | _ => none
theorem se_call1FG {n : Nat} {m : En → Option Res} {dv : L2.St → XK} {te : TE} {ta : TA} {fa : En → Option (R × En)} {f : En → Option (List R × En)} (h0 : SE K te fa) (h : SA K ta f) : SE K (fun σ H Q => te σ H fun v H1 => ta σ H1 fun vs H2 => SpM K n m (v :: vs) H2 Q (dv σ)) (eCall1F n m fa f) := by
  intro C hC B env σ H r env' s e Q hq
  obtain ⟨⟨r0, e1⟩, g1, e⟩ := Option.bind_eq_some_iff.mp e
  split at e
  · rename_i xs hr
    simp only at hr
    subst hr
    obtain ⟨⟨rs, e2⟩, g2, e⟩ := Option.bind_eq_some_iff.mp e
    obtain ⟨⟨ds, e3⟩, g3, e⟩ := Option.bind_eq_some_iff.mp e
    split at e
    · rename_i hn
      obtain ⟨res, g4, e⟩ := Option.bind_eq_some_iff.mp e
      refine h0 C hC B env σ H _ e1 s g1 _ fun v0 B1 H1 s1 x1 rr0 => ?_
      have t := rr0.tmp
      obtain ⟨p, ws, rfl, bp1, gp, hp1, rw0, off1⟩ := rr0
      refine h (C.plus _) hC B1 e1 σ H1 rs e2 (s1.plus t) g2 _ fun vs B2 H2 s2 x2 rr => ?_
      obtain ⟨B3, s3, x3, ra⟩ := frzs_w s2 rr.w g3
      have ra : RepAll K B3 vs ds := by
        have q : (C.plus (tmpOf (.ref p) H1 (.fr xs))).K = C.K := rfl
        rw [q, hC] at ra
        exact ra
      obtain ⟨s4, t4⟩ := SR.minus s1.exG t.ex t.nb (x2.trans x3) s3 s1.ex0
      have hT : tmpOf (.ref p) H1 (.fr xs) p = some (.lst ws) := by unfold tmpOf; simp only [if_true]; exact hp1
      have hT' : tmpOf (.ref p) H1 (.fr xs) p ≠ none := by rw [hT]; exact fun z => nomatch z
      have bp : B3 p = none := t4.nb p hT'
      have hp : H2 p = some (.lst ws) := t4.ex p _ hT
      have off : Off e3 σ p := t4.off p hT'
      rw [hC] at rw0
      have rw3 : RepAll K B3 ws xs := rw0.mono (x2.trans x3)
      have sA : SR (Cx0 K none0 B3) B3 (.ow xs :: ds.map .sh) ((V.ref p :: vs).map some) H2 := by
        refine ⟨fun q o h => (nomatch (show none = some o from h)), s4.exB, Ex.refl _, fun q h => .inl h, ?_, fun j t hj => ?_, fun j k q ys zs f1 f2 _ _ => ?_, fun j h => by cases h⟩
        · rw [List.map_cons, List.length_cons, List.length_cons, List.length_map, List.length_map, ra.length]
        · cases j with
          | zero =>
            cases hj
            exact ⟨p, ws, rfl, bp, rfl, hp, rw3⟩
          | succ j =>
            have hj : (ds.map Sl.sh)[j]? = some t := by simpa using hj
            rw [List.getElem?_map] at hj
            obtain ⟨d, hd, rfl⟩ := Option.map_eq_some_iff.mp hj
            obtain ⟨v, hv, rv⟩ := ra.get hd
            refine ⟨v, ?_, rv⟩
            show (vs.map some)[j]? = _
            rw [List.getElem?_map, hv]
            rfl
        · have z : ∀ k zs, (Sl.ow xs :: ds.map Sl.sh)[k]? = some (.ow zs) → k = 0 := fun k zs h => by
            cases k with
            | zero => rfl
            | succ k =>
              have h : (ds.map Sl.sh)[k]? = some (.ow zs) := by simpa using h
              rw [List.getElem?_map] at h
              obtain ⟨d, hd, h⟩ := Option.map_eq_some_iff.mp h
              cases h
          rw [z j ys f1, z k zs f2]
      refine ⟨by rw [List.length_cons, ra.length]; exact hn, B3, _, res, sA, g4, ?_⟩
      have offA : ∀ q, q ≠ p → Off (.ow xs :: ds.map .sh) ((V.ref p :: vs).map some) q := fun q hq k zs h h2 => by
        cases k with
        | zero =>
          have : some (V.ref p) = some (.ref q) := Option.some.inj h2
          cases this
          exact hq rfl
        | succ k =>
          have h : (ds.map Sl.sh)[k]? = some (.ow zs) := by simpa using h
          rw [List.getElem?_map] at h
          obtain ⟨d, hd, h⟩ := Option.map_eq_some_iff.mp h
          cases h
      have behind : ∀ {B' H' : Hp} {ys : List D} {ae : En}, SR (Cx0 K (Rest (.ow xs :: ds.map .sh) ((V.ref p :: vs).map some) H2) B3) B' (.ow ys :: ae) ((V.ref p :: vs).map some) H' → Ex B3 B' → SR C B' e3 σ H' ∧ (∀ q, B' q = none → Rest (.ow xs :: ds.map .sh) ((V.ref p :: vs).map some) H2 q = none → q ≠ p → H2 q = none) := by
        intro B' H' ys ae s' x
        have kept : ∀ q o, q ≠ p → H2 q = some o → H' q = some o := fun q o hq h => s'.exG q o (by
          show Rest _ _ _ q = some o
          rw [rest_of (offA q hq)]
          exact h)
        have new : ∀ q, B' q ≠ none → B3 q ≠ none ∨ H2 q = none ∨ q = p := fun q hq => by
          rcases s'.new q hq with z | z
          · exact .inl z
          · by_cases hqp : q = p
            · exact .inr (.inr hqp)
            · have z : Rest (.ow xs :: ds.map .sh) ((V.ref p :: vs).map some) H2 q = none := z
              rw [rest_of (offA q hqp)] at z
              exact .inr (.inl z)
        obtain ⟨p', ws', f1, bp', _, hp', ra'⟩ := s'.sl 0 _ rfl
        have f1 : some (some (V.ref p)) = some (some (V.ref p')) := f1
        cases f1
        refine ⟨⟨fun q o h => ?_, s'.exB, s4.ex0.trans x, fun q hq => ?_, s4.len, fun j t h => ?_, s4.dis, s4.fx⟩, fun q _ h hq => ?_⟩
        · exact kept q o (ne_of_none h gp) (s4.exG q o h)
        · rcases new q hq with z | z | z
          · exact s4.new q z
          · exact .inr (fresh_back s4.exG z)
          · rw [z] at hq; exact absurd bp' hq
        · refine (s4.sl j t h).mono x fun q f2 ⟨zs, ez⟩ => ?_
          subst ez
          obtain ⟨q', us, f3, b3, g3', h3, _⟩ := s4.sl j _ h
          rw [f2] at f3
          cases f3
          have hqp : q ≠ p := fun z => off j zs h (by rw [f2, z])
          refine ⟨?_, by rw [kept q _ hqp h3, h3]⟩
          cases w : B' q with
          | none => rfl
          | some o =>
            rcases new q (by rw [w]; exact fun z => nomatch z) with z | z | z
            · exact absurd b3 z
            · rw [h3] at z; cases z
            · exact absurd z hqp
        · rw [rest_of (offA q hq)] at h
          exact h
      have xx : Ex B B3 := (x1.trans x2).trans x3
      split at e
      · cases e
        exact fun v B' H' s' x rv => hq v B' H' (behind s' x).1 (xx.trans x) (by rw [show RepR C B' e3 σ H' v (.val _) = Rep C.K B' v _ from rfl, hC]; exact rv)
      · cases e
        intro v B' H' s' x rv
        obtain ⟨sB, free⟩ := behind s' x
        obtain ⟨q, us, rfl, bq, gq, hq', ra', offq⟩ := rv
        have hqp : q ≠ p := fun z => offq 0 _ rfl (by rw [z]; rfl)
        have h1 := free q bq gq hqp
        exact hq _ B' H' sB (xx.trans x) ⟨q, us, rfl, bq, fresh_back s4.exG h1, hq', by rw [hC]; exact ra', s4.off h1⟩
      · cases e
    · cases e
  · cases e
theorem se_call1F {n : Nat} {m : En → Option Res} {E : XK} {te : TE} {ta : TA} {fa : En → Option (R × En)} {f : En → Option (List R × En)} (h0 : SE K te fa) (h : SA K ta f) : SE K (tCall (SpM K n m) [] E (tCons te ta)) (eCall1F n m fa f) := by
  intro C hC B env σ H r env' s e Q hq
  have q := se_call1FG (n := n) (m := m) (dv := fun _ => E) h0 h C hC B env σ H r env' s e Q hq
  show te σ H fun v H1 => ta σ H1 fun vs H2 => SpM K n m ((v :: vs) ++ []) H2 Q E
  have w : (fun (v : V) (H1 : Hp) => ta σ H1 fun vs H2 => SpM K n m ((v :: vs) ++ []) H2 Q E) = fun v H1 => ta σ H1 fun vs H2 => SpM K n m (v :: vs) H2 Q E := by
    funext v H1
    congr 1
    funext vs H2
    rw [List.append_nil]
  rw [w]
  exact q
end
end Vm

set_option Elab.async false
set_option linter.all false
set_option maxRecDepth 100000
/-! VmR: defs that are called where nothing is being shown: what a def keeps there, its calls, the law's own call; repr. -/
namespace Vm
open PySem PySem.Spec PyProof.Rows L2 Evl
/-- room, and nothing is being shown -/
structure Rg (k : Nat) (A : Around) : Prop where
  rm : Room k A
  gd : A.guards = some []
theorem Rg.mono {j k : Nat} {A : Around} (r : Rg k A) (h : j ≤ k) : Rg j A := ⟨r.rm.mono h, r.gd⟩
theorem Rg.units {k : Nat} {A : Around} (r : Rg k A) : A.units + 64 < cLine := r.rm.units
theorem Rg.deep {k : Nat} {A : Around} (r : Rg (k + 1) A) (e : Env) : Rg k (A.deeper e) := ⟨r.rm.deeper e, r.gd⟩
structure FnG (P : Program) (w : World) (K : PySem.W.Frag) (mg : Str → Option Value) (base : Heap) (CX : CXT) (k : Nat) (f : Addr) (fd : FuncData) (ps : List Str) (sp : Sp) : Prop where
  len : ∀ vs H Q E, sp vs H Q E → vs.length = ps.length
  go : ∀ A : Around, Rg k A → ∀ (outer : List Env) (s : Shared) (H : Hp) (args : Args) (us : List Value) (vs : List V) (Q : VK) (E : XK), Env0 P w K mg base A outer s H → BindsTo s fd args (ps.zip us) → Vals vs us → sp vs H Q E →
    codeAny (model P w) A (.call (.ref f) args) (CR CX outer P w H s Q E) s
section
variable {P : Program} {w : World} {K : PySem.W.Frag} {mg : Str → Option Value} {base : Heap} {CX : CXT} {j k : Nat} {f : Addr} {fd : FuncData} {ps N : List Str} {sp sp' : Sp}
theorem FnG.up (F : FnG P w K mg base CX j f fd ps sp) (h : j ≤ k) : FnG P w K mg base CX k f fd ps sp := ⟨F.len, fun A r => F.go A (r.mono h)⟩
theorem FnG.imp (F : FnG P w K mg base CX k f fd ps sp) (h : ∀ vs H Q E, sp' vs H Q E → sp vs H Q E) : FnG P w K mg base CX k f fd ps sp' :=
  ⟨fun vs H Q E q => F.len vs H Q E (h _ _ _ _ q), fun A r outer s H args us vs Q E e0 hb hv q => F.go A r outer s H args us vs Q E e0 hb hv (h _ _ _ _ q)⟩
/-- a def by its body, which is read where nothing is being shown -/
theorem fnG_of {name qual : Str} {params : Arguments} {body : List Stmt} {scope : Scope} {dV kV doc pm cdv ct oc : Value} {an od : Option Addr} {osl : Array (Option Value)}
    (lk : K.lookup f = some ⟨oc, od, .func (PySem.W.fnOf name qual params body scope dV kV doc pm an cdv ct), osl⟩) (cr : PySem.W.codeIn K cdv qual = true) (S : FnScope N ps scope) (len : ∀ vs H Q E, sp vs H Q E → vs.length = ps.length)
    (rd : ∀ (A : Around) (outer : List Env) (s : Shared) (H : Hp) (vs : List V) (Q : VK) (E : XK), Rg k (A.deeper (envOfC qual scope s.heap.objs.size f cdv)) → sp vs H Q E →
      ∃ t, PSs (cxOf CX P w K mg base N qual scope f cdv A outer s H E) body t ∧ t { nx := fun _ H1 => Q .non H1, rt := Q } (L2.start N vs) H) :
    FnG P w K mg base CX (k + 1) f (PySem.W.fnOf name qual params body scope dV kV doc pm an cdv ct) ps sp := by
  constructor
  · exact len
  intro A room outer s H args us vs Q E e0 binds rel want
  have all : ∀ {b : Addr} {o : Obj}, base.get? b = some o → s.heap.get? b = some o := fun {b o} z => (e0.bs b o z).1
  have inK : K.In s.heap := e0.mod.kin.keeps fun _ _ z => all z
  have nolim : s.heap.NoLimit := e0.mod.nolimit.keeps fun _ _ z => all z
  refine codeAny_call_function room.rm.depth (inK _ _ lk) rfl S.co S.gen rfl (PySem.W.codeRec_of inK cr) (binds _ _ _ _ ?_)
  refine wpAny_newFunctionEnv_cells S.kind (fun y hy => ?_) fun env same s1 started => ?_
  · have place := S.par y.1 (List.of_mem_zip (show (y.1, y.2) ∈ ps.zip us from hy)).1
    rcases place with isLoc | isCell
    · exact .inl isLoc
    · exact .inr ⟨isCell, PySem.W.cellsFrom_some _ _ _ (.inl isCell)⟩
  subst same
  refine ⟨nolim.keeps started.toInCall.keep, codeAny_func ?_⟩
  obtain ⟨t, read, wish⟩ := rd A outer s H vs Q E (room.deep _) want
  have inv := inv_start (CX := CX) (P := P) (w := w) (N := N) (ps := ps) (qual := qual) (E := E) S room.rm.hd e0 (len _ _ _ _ want) rel started
  refine wpAny_mono (read.run [] s1 (L2.start N vs) H _ inv wish) (fun fl s2 out => ?_) fun _ _ z => z
  match fl, out with
  | .ret u, ⟨v, _, H2, inv2, rv, q⟩ => exact ⟨v, H2, inv2.os, inv2.bare, inv2.base, inv2.hok, rv, q⟩
  | .next, ⟨_, H2, inv2, q⟩ => exact ⟨V.non, H2, inv2.os, inv2.bare, inv2.base, inv2.hok, rfl, q⟩
  | .brk, ⟨_, _, _, q⟩ => exact q.elim
  | .cont, ⟨_, _, _, q⟩ => exact q.elim
theorem funG {x qual : Str} {st : Stmt} (F : Fun K x qual st f fd) (S : FnScope N ps (defScope st)) (len : ∀ vs H Q E, sp vs H Q E → vs.length = ps.length)
    (rd : ∀ (cdv : Value) (A : Around) (outer : List Env) (s : Shared) (H : Hp) (vs : List V) (Q : VK) (E : XK), Rg k (A.deeper (envOfC qual (defScope st) s.heap.objs.size f cdv)) → sp vs H Q E →
      ∃ t, PSs (cxOf CX0 P w K mg base N qual (defScope st) f cdv A outer s H E).nox (defBody st) t ∧ t { nx := fun _ H1 => Q .non H1, rt := Q } (L2.start N vs) H) : FnG P w K mg base CX0 (k + 1) f fd ps sp := by
  obtain ⟨oc, od, kV, doc, pm, an, cdv, ct, osl, rfl, lk, cr⟩ := F.ex
  exact fnG_of lk cr S len fun A outer s H vs Q E r q => (rd cdv A outer s H vs Q E r q).imp fun t z => ⟨z.1.nox, z.2⟩
theorem funGX {x qual : Str} {st : Stmt} (F : Fun K x qual st f fd) (S : FnScope N ps (defScope st)) (len : ∀ vs H Q E, sp vs H Q E → vs.length = ps.length)
    (rd : ∀ (cdv : Value) (A : Around) (outer : List Env) (s : Shared) (H : Hp) (vs : List V) (Q : VK) (E : XK), Rg k (A.deeper (envOfC qual (defScope st) s.heap.objs.size f cdv)) → sp vs H Q E →
      ∃ t, PSs (cxOf (L2.CX P w) P w K mg base N qual (defScope st) f cdv A outer s H E) (defBody st) t ∧ t { nx := fun _ H1 => Q .non H1, rt := Q } (L2.start N vs) H) : FnG P w K mg base (L2.CX P w) (k + 1) f fd ps sp := by
  obtain ⟨oc, od, kV, doc, pm, an, cdv, ct, osl, rfl, lk, cr⟩ := F.ex
  exact fnG_of lk cr S len fun A outer s H vs Q E r q => rd cdv A outer s H vs Q E r q
end
/-! calls -/
section
variable {X : Cx} {CX : CXT} {k : Nat} {f : Addr} {fd : FuncData} {ps : List Str} {sp : Sp} {E : L2.St → XK} {x : Str} {p pos : Pos} {e : Expr} {es : List Expr} {t : TA}
theorem run_G {pins : List (Addr × Obj)} {σ : L2.St} {H : Hp} {s : Shared} {Q : VK} {us : List Value} {vs : List V} (F : FnG X.prog X.w X.K X.mg X.base CX k f fd ps sp) (hr : Rg k X.A) (hb : Binds X.K fd ps []) (lets : PassesAt CX X σ (E σ))
    (inv : Inv X pins σ H s) (rel : Vals vs us) (want : sp vs H Q (E σ)) : wpAny (model X.prog X.w) X.A (call (.ref f) us) (EP X pins σ Q) X.xe s := by
  have binds := hb s us inv.kIn (by rw [List.append_nil, ← rel.length]; exact F.len _ _ _ _ want)
  rw [List.append_nil] at binds
  refine wpAny_call (codeAny_mono (F.go X.A hr X.stack s H ⟨us, []⟩ us vs Q (E σ) inv.env0 binds rel want) fun res s2 out => ?_)
  match res, out with
  | .error er, out => exact lets pins H s er s2 inv out
  | .ok (.ret _), out => exact inv.after out
  | .ok .next, out => exact out.elim
  | .ok .brk, out => exact out.elim
  | .ok .cont, out => exact out.elim
theorem pe_G (F : FnG X.prog X.w X.K X.mg X.base CX k f fd ps sp) (hr : Rg k X.A) (hg : Gl X x) (hm : X.mg x = some (.ref f)) (hk : PySem.W.keepIn X.K (.ref f) = true) (hb : Binds X.K fd ps []) (lets : ∀ σ, PassesAt CX X σ (E σ)) (ha : PA X (e :: es) t)
    (hdb : (x == ("__debug__" : Str)) = false := by decide) (he : starEach (e :: es) X.env = (false, eval e X.env) :: starEach es X.env := by rfl) (hpl : (backTo pos (starEach es X.env)).any (·.1) = false := by rfl) :
    PE X (.Call (.Name x p) (e :: es) [] pos) (tCallS sp E t) := by
  constructor
  intro pins s σ H Q inv want
  refine wpAny_Call_Name_kw (ld_glob inv hg hm ?_ hdb)
  refine PySem.W.callWith_K (h₀ := X.base) inv.ok.mod.kin hk (thn (ha.run pos pins s σ H _ inv want) fun us s1 got => ?_) he hpl
  obtain ⟨vs, H1, inv1, rel, q⟩ := got
  exact ⟨inv1.kIn, run_G F hr hb (lets σ) inv1 rel q⟩
end
end Vm
namespace Vm
open PySem PySem.Spec PyProof.Rows L2 Evl
/-! ### repr -/
/-- what repr gives of data, where it gives something here -/
def showS (p : PyData) : Option Str := if p.showable && !p.hasDict && decide (p.depth + 1 ≤ 60) && decide (p.shown.length ≤ sizeLine) then some p.shown else none
def rRepr (K : PySem.W.Frag) : List V → Hp → VK → Prop := fun xs H Q => ∃ x p z, xs = [x] ∧ Dp K H x p ∧ showS p = some z ∧ Q (.str z) H
theorem call_repr {X : Cx} (hg : X.A.guards = some []) (hu : X.A.units + 64 < cLine) : CallR X (.builtin "repr") (rRepr X.K) := by
  intro pins s σ H xs us Q inv rel want
  obtain ⟨x, p, z, rfl, dp, sh, q⟩ := want
  obtain ⟨u, rfl, r⟩ := vals1 rel
  obtain ⟨as, rd⟩ := Dp.reads inv p x u dp r
  unfold showS at sh
  split at sh
  · rename_i ok
    cases sh
    simp only [Bool.and_eq_true, Bool.not_eq_true', decide_eq_true_eq] at ok
    obtain ⟨⟨⟨o1, o2⟩, o3⟩, o4⟩ := ok
    have big : ∀ {a : Addr}, u = .ref a → wpAny (model X.prog X.w) X.A (call (.builtin "repr") [u]) (EP X pins σ Q) X.xe s := by
      intro a e
      subst e
      exact repr_of_reads' rd o1 (PyData.noDict_hsm o2) hg (by omega) (fun _ _ e => e) (fun h' t tk keeps => ⟨.str _, H, inv.kept (t' := tk) fun b o e => keeps b o e, ⟨_, rfl⟩, q⟩) o4
    cases rd with
    | none => exact PySem.P.repr_of_none ⟨.str _, H, inv.tok _, ⟨_, rfl⟩, by simpa only [PyData.shown] using q⟩
    | bool b => exact PySem.P.repr_of_bool ⟨.str _, H, inv.tok _, ⟨_, rfl⟩, by simpa only [PyData.shown] using q⟩
    | int i t =>
      have o1 : decide (i.natAbs.log2 < 1920) = true := by simpa only [PyData.showable] using o1
      exact PySem.P.repr_of_int (of_decide_eq_true o1) ⟨.str _, H, inv.tok _, ⟨_, rfl⟩, by simpa only [PyData.shown] using q⟩
    | str y t => exact PySem.P.repr_of_str ⟨.str _, H, inv.tok _, ⟨_, rfl⟩, by simpa only [PyData.shown] using q⟩ (by simpa only [PyData.shown] using o4)
    | list _ _ _ _ => exact big rfl
    | tuple _ _ _ _ => exact big rfl
    | dict _ _ _ _ _ => exact big rfl
  · cases sh
def bRepr : List D → Option D
  | [d] => (toPy d).bind fun p => (showS p).map D.str
  | _ => none
theorem rc_repr {K : PySem.W.Frag} : RC K (rRepr K) bRepr := RCS.rc (by
  intro B H vs ds z e rx h
  unfold bRepr at h
  split at h
  · obtain ⟨p, hp, h⟩ := Option.bind_eq_some_iff.mp h
    obtain ⟨t, ht, rfl⟩ := Option.map_eq_some_iff.mp h
    obtain ⟨v, rfl, k⟩ := rx.one
    exact ⟨.str t, rfl, fun Q q => ⟨v, p, t, rfl, (k.rep e).dp hp, ht, q⟩⟩
  · cases h)
end Vm
namespace Vm
open PySem PySem.Spec PyProof.Rows L2 Evl
/-! ### defs of the module -/
structure DefG (P : Program) (w : World) (K : PySem.W.Frag) (mg : Str → Option Value) (base : Heap) (x : Str) (ps : List Str) (k : Nat) (m : En → Option Res) : Prop where
  ex : ∃ f fd, mg x = some (.ref f) ∧ FnG P w K mg base CX0 k f fd ps (SpM K ps.length m) ∧ PySem.W.keepIn K (.ref f) = true ∧ Binds K fd ps []
structure DefGX (P : Program) (w : World) (K : PySem.W.Frag) (mg : Str → Option Value) (base : Heap) (x : Str) (ps : List Str) (k : Nat) (m : En → Option Res) : Prop where
  ex : ∃ f fd, mg x = some (.ref f) ∧ FnG P w K mg base (L2.CX P w) k f fd ps (SpM K ps.length m) ∧ PySem.W.keepIn K (.ref f) = true ∧ Binds K fd ps []
section
variable {X : Cx} {x : Str} {ps : List Str} {n k j : Nat} {m : En → Option Res} {p pos : Pos} {e : Expr} {es : List Expr} {t : TA} {W : WX}
theorem tCall_nil {sp : Sp} {E : XK} {t : TA} : tCall sp [] E t = tCallS sp (fun _ => E) t := by
  funext σ H Q
  show (t σ H fun vs H1 => sp (vs ++ []) H1 Q E) = t σ H fun vs H1 => sp vs H1 Q E
  congr 1
  funext vs H1
  rw [List.append_nil]
theorem pe_dG (h : DefG X.prog X.w X.K X.mg X.base x ps k m) (hn : ps.length = n) (hr : Rg j X.A) (hj : k ≤ j) (hg : Gl X x) (ha : PA X (e :: es) t)
    (hdb : (x == ("__debug__" : Str)) = false := by decide)
    (he : starEach (e :: es) X.env = (false, eval e X.env) :: starEach es X.env := by rfl) (hpl : (backTo pos (starEach es X.env)).any (·.1) = false := by rfl) : PE X (.Call (.Name x p) (e :: es) [] pos) (tCall (SpM X.K n m) [] E0 t) := by
  subst hn
  rw [tCall_nil]
  obtain ⟨f, fd, at_f, F, kp, bn⟩ := h.ex
  exact pe_G F (hr.mono hj) hg at_f kp bn (fun σ => fun _ _ _ _ _ _ z => z.elim) ha hdb he hpl
theorem pe_dGX (tk : Takes X W) (h : DefGX X.prog X.w X.K X.mg X.base x ps k m) (hn : ps.length = n) (hr : Rg j X.A) (hj : k ≤ j) (hg : Gl X x) (ha : PA X (e :: es) t)
    (hdb : (x == ("__debug__" : Str)) = false := by decide)
    (he : starEach (e :: es) X.env = (false, eval e X.env) :: starEach es X.env := by rfl) (hpl : (backTo pos (starEach es X.env)).any (·.1) = false := by rfl) : PE X (.Call (.Name x p) (e :: es) [] pos) (tCallS (SpM X.K n m) (WE W) t) := by
  subst hn
  obtain ⟨f, fd, at_f, F, kp, bn⟩ := h.ex
  exact pe_G F (hr.mono hj) hg at_f kp bn (fun σ => passAt tk σ) ha hdb he hpl
theorem passG {X : Cx} {σ : L2.St} : PassesAt (L2.CX X.prog X.w) X σ E0 := fun pins H s er s2 inv out => passL pins σ H s er s2 inv out
theorem pe_dGY (h : DefGX X.prog X.w X.K X.mg X.base x ps k m) (hn : ps.length = n) (hr : Rg j X.A) (hj : k ≤ j) (hg : Gl X x) (ha : PA X (e :: es) t)
    (hdb : (x == ("__debug__" : Str)) = false := by decide)
    (he : starEach (e :: es) X.env = (false, eval e X.env) :: starEach es X.env := by rfl) (hpl : (backTo pos (starEach es X.env)).any (·.1) = false := by rfl) : PE X (.Call (.Name x p) (e :: es) [] pos) (tCall (SpM X.K n m) [] E0 t) := by
  subst hn
  rw [tCall_nil]
  obtain ⟨f, fd, at_f, F, kp, bn⟩ := h.ex
  exact pe_G F (hr.mono hj) hg at_f kp bn (fun σ => passG) ha hdb he hpl
end
/-! calls of what a name holds -/
structure HeldG (P : Program) (w : World) (K : PySem.W.Frag) (mg : Str → Option Value) (base : Heap) (k : Nat) (f : Addr) (sp : Sp) : Prop where
  ex : ∃ (fd : FuncData) (ps : List Str), FnG P w K mg base CX0 k f fd ps sp ∧ PySem.W.keepIn K (.ref f) = true ∧ Binds K fd ps []
inductive TblG (P : Program) (w : World) (K : PySem.W.Frag) (mg : Str → Option Value) (base : Heap) (k n : Nat) : Tbl → Prop
  | nil : TblG P w K mg base k n []
  | cons {x : Str} {ps : List Str} {j : Nat} {m : En → Option Res} {tbl : Tbl} (h : DefG P w K mg base x ps j m) (v : FnAt K mg x) (hj : j ≤ k) (hn : ps.length = n) (t : TblG P w K mg base k n tbl) : TblG P w K mg base k n ((x, m) :: tbl)
theorem TblG.held {P : Program} {w : World} {K : PySem.W.Frag} {mg : Str → Option Value} {base : Heap} {k n : Nat} {tbl : Tbl} (h : TblG P w K mg base k n tbl) : ∀ p ∈ tbl, HeldG P w K mg base k (clsOf K p.1) (SpM K n p.2) := by
  induction h with
  | nil => intro p hp; cases hp
  | cons h v hj hn _ ih =>
    intro p hp
    rcases List.mem_cons.mp hp with rfl | hp
    · subst hn
      obtain ⟨f, fd, h1, F, h3, h4⟩ := h.ex
      have e : some (Value.ref f) = some (.ref (clsOf K _)) := h1.symm.trans v.ex
      cases e
      exact ⟨fd, _, F.up hj, h3, h4⟩
    · exact ih p hp
theorem pe_tG {X : Cx} {x : Str} {i j k n : Nat} {tbl : Tbl} {p pos : Pos} {e : Expr} {es : List Expr} {t : TA} (T : TblG X.prog X.w X.K X.mg X.base k n tbl) (hr : Rg j X.A) (hj : k ≤ j) (hN : X.N[i]? = some x) (hv : Vis X.env.scope x) (ha : PA X (e :: es) t)
    (hdb : (x == ("__debug__" : Str)) = false := by decide) (hcd : (x == ("__classdict__" : Str)) = false := by decide)
    (he : starEach (e :: es) X.env = (false, eval e X.env) :: starEach es X.env := by rfl) (hpl : (backTo pos (starEach es X.env)).any (·.1) = false := by rfl) : PE X (.Call (.Name x p) (e :: es) [] pos) (tCallA i (tblS X.K n tbl) t) := by
  constructor
  intro pins s σ H Q inv ⟨f, sp, at_i, hs, want⟩
  unfold tblS at hs
  obtain ⟨q, hq, rfl⟩ := Option.map_eq_some_iff.mp hs
  have e1 : clsOf X.K q.1 = f := by simpa using List.find?_some hq
  subst e1
  obtain ⟨fd, ps, F, kp, bn⟩ := (T.held q (List.mem_of_find?_eq_some hq)).ex
  refine wpAny_Call_Name_kw (thn ((pe_var (pos := p) hN hv hdb hcd).run pins s σ H (fun v H1 => v = .ref (clsOf X.K q.1) ∧ H1 = H) inv ⟨_, at_i, rfl, rfl⟩) fun u s1 got => ?_)
  obtain ⟨_, _, inv1, r1, rfl, rfl⟩ := got
  cases r1
  refine PySem.W.callWith_K (h₀ := X.base) inv.ok.mod.kin kp (thn (ha.run pos pins s1 σ _ _ inv1 want) fun us s2 got => ?_) he hpl
  obtain ⟨vs, H2, inv2, rel, w2⟩ := got
  exact ⟨inv2.kIn, run_G (E := fun _ _ _ _ => False) F (hr.mono hj) bn (fun _ _ _ _ _ _ z => z.elim) inv2 rel w2⟩
/-! ### the law's own call -/
section
variable {P : Program} {w : World} {K : PySem.W.Frag} {mg mb : Str → Option Value} {k : Nat} {fa a : Addr} {fd : FuncData} {x : Str} {sp : Sp} {s1 : Shared} {vals : List Value} {ns : List Int}
/-- what the law's call must bring about -/
def LawEnd (s1 : Shared) (r : Result) (s2 : Shared) : Prop := r = .ok (.ret (.bool true)) ∧ OldK s1.heap s2.heap ∧ s2.os = s1.os ∧ AllBare s2.gens
theorem law_at {H : Hp} (only : L2.Only H) (mine : ∀ b, H b ≠ none → b = a ∧ K.lookup b = none) (script : SqL K H a (ns.map V.int)) (hok : HOk P w H s1.heap) (inK : K.In s1.heap) (nsM : s1.heap.Ns mainGlobals mg) (nsB : s1.heap.Ns builtinsNs mb) (boot : ∀ y : Str, y ≠ "__name__" → mb y = bootBuiltins y) (nolim : s1.heap.NoLimit) (gens : s1.gens = #[])
    (list : s1.heap.get? a = some { cls := .type "list", data := .seq vals.toArray }) (hr : Rg k callerA) (F : ∀ base : Heap, K.In base → base.Ns mainGlobals mg → FnG P w K mg base CX0 k fa fd [x] sp) (binds : ∀ (s : Shared) (u : Value), BindsTo s fd ⟨[u], []⟩ [(x, u)])
    (want : sp [.ref a] H (fun v _ => v = .bl true) fun _ _ _ => False) : codeAny (model P w) callerA (.call (.ref fa) ⟨[.ref a], []⟩) (LawEnd s1) s1 := by
  -- the base is what stands beside the script
  have free : ∀ {b : Addr}, b ≠ a → H b = none := fun {b} ne => Classical.byContradiction fun z => ne (mine b z).1
  have stands : ∀ {b : Addr} {o : Obj}, s1.heap.get? b = some o → H b = none → (hidT s1.heap H).get? b = some o := fun e z => hidT_get e z
  have dicts : ∀ {b : Addr} {o : Obj} {es : Array DictEntry} {ep : Nat}, s1.heap.get? b = some o → o.data = .dict es ep → H b = none := fun {b o es ep} e d => free fun z => by
    rw [z, list] at e
    cases e
    cases (show Data.seq vals.toArray _ = Data.dict es ep from d)
  have spaces : ∀ {b : Addr} {g : Str → Option Value}, s1.heap.Ns b g → (hidT s1.heap H).Ns b g := by
    rintro b g ⟨o, es, ep, e, d, rest⟩
    exact ⟨o, es, ep, stands e (dicts e d), d, rest⟩
  have inB : K.In (hidT s1.heap H) := fun b o e => stands (inK b o e) (Classical.byContradiction fun z => by
    rw [(mine b z).2] at e
    cases e)
  have md : Mod K mg (hidT s1.heap H) := by
    obtain ⟨mc, l1, l2⟩ := nolim
    exact ⟨inB, spaces nsM, ⟨mb, spaces nsB, boot⟩, mc, spaces l1, l2⟩
  have env : Env0 P w K mg (hidT s1.heap H) callerA [] s1 H := by
    refine ⟨rfl, md, fun b o e => of_hidT e, Nat.le_of_eq (hidT_size _ _), trivial, fun b hb => ?_, hok, .of_eq gens⟩
    cases hb
  refine codeAny_mono ((F _ inB (spaces nsM)).go callerA hr [] s1 H ⟨[.ref a], []⟩ [.ref a] [.ref a] _ _ env (binds s1 (.ref a)) (.cons rfl .nil) want) fun res s2 out => ?_
  match res, out with
  | .error er, out => exact out.elim
  | .ok .next, out => exact out.elim
  | .ok .brk, out => exact out.elim
  | .ok .cont, out => exact out.elim
  | .ok (.ret u), ⟨v, H2, os, bare, un, hok2, rel, yes⟩ =>
    have yes : v = .bl true := yes
    subst yes
    have rel : u = Value.bool true := rel
    subst rel
    refine ⟨rfl, OldK.of_keep fun b o e => ?_, os, bare⟩
    by_cases z : H b = none
    · exact un.keep b o e z (fun m => nomatch (show b ∈ ([] : List Addr) from m)) (by simp)
    · rcases only b with z0 | ⟨ob, xs, frozen⟩
      · exact absurd z0 z
      · obtain ⟨e1, _⟩ := hok b _ frozen
        obtain ⟨e2, _⟩ := hok2 b _ (un.frzs b ob _ frozen)
        rw [e] at e1
        cases e1
        exact e2
theorem law_callG (inK : K.In s1.heap) (nsM : s1.heap.Ns mainGlobals mg) (nsB : s1.heap.Ns builtinsNs mb) (boot : ∀ y : Str, y ≠ "__name__" → mb y = bootBuiltins y) (nolim : s1.heap.NoLimit) (gens : s1.gens = #[])
    (list : s1.heap.get? a = some { cls := .type "list", data := .seq vals.toArray }) (areInts : IntsAre vals ns) (short : ns.length ≤ sizeLine) (hr : Rg k callerA) (F : ∀ base : Heap, K.In base → base.Ns mainGlobals mg → FnG P w K mg base CX0 k fa fd [x] sp) (binds : ∀ (s : Shared) (u : Value), BindsTo s fd ⟨[u], []⟩ [(x, u)])
    (want : ∀ H : Hp, L2.Only H → SqL K H a (ns.map V.int) → sp [.ref a] H (fun v _ => v = .bl true) fun _ _ _ => False) : codeAny (model P w) callerA (.call (.ref fa) ⟨[.ref a], []⟩) (LawEnd s1) s1 := by
  have rel := vals_ints areInts
  have many := areInts.length
  by_cases written : ∃ o, K.lookup a = some o
  · obtain ⟨o, lk⟩ := written
    have e := inK a o lk
    rw [list] at e
    cases e
    have script : SqL K (fun _ => none) a (ns.map V.int) := .inr ⟨_, vals.toArray, _, lk, rfl, rfl, rfl, by rw [List.size_toArray, many]; exact short, by simpa using rel⟩
    have only : L2.Only (fun _ => none) := fun _ => .inl rfl
    refine law_at only (fun b z => absurd rfl z) script (fun b u z => ?_) inK nsM nsB boot nolim gens list hr F binds (want _ only script)
    cases (show (none : Option HO) = some u from z)
  · have nolook : K.lookup a = none := Classical.byContradiction fun z => written (Option.ne_none_iff_exists'.mp z)
    obtain ⟨H, hH⟩ : ∃ H : Hp, H = fun b => if b = a then some (.frz { cls := .type "list", data := .seq vals.toArray } (.lst (ns.map V.int))) else none := ⟨_, rfl⟩
    have there : H a = some (.frz { cls := .type "list", data := .seq vals.toArray } (.lst (ns.map V.int))) := by rw [hH]; exact if_pos rfl
    have elsewhere : ∀ b, b ≠ a → H b = none := fun b ne => by rw [hH]; exact if_neg ne
    have only : L2.Only H := fun b => by
      by_cases e : b = a
      · subst e; exact .inr ⟨_, _, there⟩
      · exact .inl (elsewhere b e)
    have script : SqL K H a (ns.map V.int) := .inl (.inr ⟨_, there⟩)
    refine law_at only (fun b z => ?_) script (fun b u z => ?_) inK nsM nsB boot nolim gens list hr F binds (want H only script)
    · have e : b = a := Classical.byContradiction fun ne => z (elsewhere b ne)
      subst e
      exact ⟨rfl, nolook⟩
    · have e : b = a := Classical.byContradiction fun ne => by rw [elsewhere b ne] at z; cases z
      subst e
      rw [there] at z
      cases z
      exact ⟨list, by rw [List.length_map]; exact short, vals, _, rel, list⟩
end
theorem walk_G {l : PySem.W.OpenLaw} {n k : Nat} {q : Program} {loose : List Str} {XP : (Str → Option Value) → Heap → Prop} {YP : World → Heap → Prop} {d : DefRec} {K : Params → PySem.W.Frag} {sp : World → Sp} {x : Str}
    (most : l.most = some n) (small : n ≤ sizeLine) (plain : d.params.defaults = []) (room : Room k callerA) (hY : ∀ (w : World) (h : Heap), YP w h → (K w.params).In h)
    (F : ∀ (w : World) (mg : Str → Option Value) (fa : Addr) (h : Heap), (K w.params).In h → h.Ns mainGlobals mg → mg d.name = some (.ref fa) →
      ∃ fd : FuncData, (∀ (s : Shared) (u : Value), BindsTo s fd ⟨[u], []⟩ [(x, u)]) ∧ ∀ base : Heap, (K w.params).In base → base.Ns mainGlobals mg → FnG l.prog w (K w.params) mg base CX0 k fa fd [x] (sp w))
    (want : ∀ (w : World) (H : Hp) (a : Addr) (ns : List Int), ns.length ≤ n → L2.Only H → SqL (K w.params) H a (ns.map V.int) → sp w [.ref a] H (fun v _ => v = .bl true) fun _ _ _ => False) :
    PySem.W.WalkO q loose XP YP l.row.toRowW d [] (fun f vs => PySem.call f vs) := by
  refine Att.attach_call most plain fun w _ s1 mg mb fa o pm cd doc a vs ns G Y fo fdat crec at_f obj areInts short gens => ?_
  obtain ⟨fd, binds, FF⟩ := F w mg fa s1.heap (hY w _ Y) G.T.g at_f
  exact law_callG (hY w _ Y) G.T.g G.T.b G.T.builtins G.T.nolimit gens obj areInts (Nat.le_trans short small) ⟨room, rfl⟩ FF binds fun H only script => want w H a ns short only script
end Vm

set_option Elab.async false
set_option linter.all false
set_option maxRecDepth 100000
/-! VmW: more words: range downwards, methods that only read, divmod. -/
namespace Vm
open PySem PySem.Spec PyProof.Rows L2 Evl
section
variable {K : PySem.W.Frag} {C : Ctx} {B B' H H' : Hp} {env env' : En} {σ : L2.St} {v : V}
/-! range(a, b, -1) -/
def downTo (hi : Int) (n : Nat) : List D := (List.range n).map fun i => .int (hi + (i : Nat) * -1)
theorem itRep_down {hi : Int} {n : Nat} : ItRep K B (Itc hi (-1) n) (downTo hi n) := by
  intro H x i
  have hl : (downTo hi n).length = n := by simp [downTo]
  refine ⟨fun h => by rw [hl] at h; exact h, fun d hd => ?_⟩
  have hi' : i < n := by
    have := (List.getElem?_eq_some_iff.mp hd).1
    rw [hl] at this
    exact this
  unfold downTo at hd
  rw [List.getElem?_map, List.getElem?_range hi'] at hd
  have e := (Option.some.inj hd).symm
  subst e
  refine ⟨hi', fun y H2 hy => .inl ⟨hy.1, ?_⟩⟩
  rw [hy.2]
  exact .int _
def iR3 (f : En → Option (List R × En)) : En → Option (List D × En) := fun env => (aD f env).bind fun a => match a.1 with
  | [.int i, .int j, .int c] => if c = -1 ∧ -(2 ^ 62) ≤ i ∧ i < 2 ^ 62 ∧ -(2 ^ 62) ≤ j ∧ j < 2 ^ 62 then some (downTo i (i - j).toNat, a.2) else none
  | _ => none
theorem si_r3 {ta : TA} {f : En → Option (List R × En)} (h : SA K ta f) : SI K (iRng3 ta) (iR3 f) := by
  intro C hC B env σ H ds env' s e Q hq
  obtain ⟨⟨as, e1⟩, g1, e⟩ := Option.bind_eq_some_iff.mp e
  obtain ⟨rs, e0, g2, g3⟩ := aD_some g1
  split at e
  · rename_i i j c hj
    simp only at hj
    subst hj
    split at e
    · rename_i hb
      obtain ⟨rfl, b1, b2, b3, b4⟩ := hb
      cases e
      refine h C hC B env σ H rs e0 s g2 _ fun vs B1 H1 s1 x1 rr => ?_
      obtain ⟨B2, s2, x2, ra⟩ := frzs_w s1 rr.w g3
      match vs, ra with
      | [.int _, .int _, .int _], .cons (.int _) (.cons (.int _) (.cons (.int _) .nil)) => exact ⟨i, j, -1, _, rfl, RgC.neg b1 b2 b3 b4, hq _ B2 H1 s2 (x1.trans x2) itRep_down⟩
    · cases e
  · cases e
/-! methods of lists that only read -/
def RM (K : PySem.W.Frag) (r : V → List V → Hp → VK → Prop) (g : D → List D → Option D) : Prop := ∀ (B H : Hp) (x : V) (vs : List V) (d : D) (ds : List D) (z : D), Ex B H → RepK K B H x d → RepKs K B H vs ds → g d ds = some z → (∃ xs, d = .lst xs) ∧ ∃ w, sc z = some w ∧ ∀ Q : VK, Q w H → r x vs H Q
def eMr (g : D → List D → Option D) (fe : En → Option (R × En)) (f : En → Option (List R × En)) : En → Option (R × En) := fun env => (fe env).bind fun a => (f a.2).bind fun b => (look b.2 a.1).bind fun d => (looks b.2 b.1).bind fun ds => match look a.2 a.1 with
  | some (.lst _) => (g d ds).map fun z => (.val z, b.2)
  | _ => none
theorem se_mr {r : V → List V → Hp → VK → Prop} {g : D → List D → Option D} {te : TE} {ta : TA} {fe : En → Option (R × En)} {f : En → Option (List R × En)} (hr : RM K r g) (he : SE K te fe) (h : SA K ta f) : SE K (tBM K "list" r te ta) (eMr g fe f) := by
  intro C hC B env σ H res env' s e Q hq
  obtain ⟨⟨r0, e1⟩, g1, e⟩ := Option.bind_eq_some_iff.mp e
  obtain ⟨⟨rs, e2⟩, g2, e⟩ := Option.bind_eq_some_iff.mp e
  obtain ⟨d, g3, e⟩ := Option.bind_eq_some_iff.mp e
  obtain ⟨ds, g4, e⟩ := Option.bind_eq_some_iff.mp e
  split at e
  · rename_i xs0 hl0
    obtain ⟨z, g5, e⟩ := Option.map_eq_some_iff.mp e
    cases e
    refine he C hC B env σ H r0 e1 s g1 _ fun x B1 H1 s1 x1 rr => ⟨?_, ?_⟩
    · obtain ⟨p, ws, rfl, hp, _⟩ := (look_rep s1 rr hl0).list s1.exB
      exact .inl ⟨rfl, _, sq_of hp⟩
    · have t := rr.tmp
      refine SA.temp h hC s1 g2 t fun vs B2 H2 s2 x2 rrs t2 => ?_
      have k1 := look_rep s2 (rr.keep x2 t2) g3
      have k2 := looks_rep s2 rrs g4
      rw [hC] at k1 k2
      obtain ⟨_, w, hw, k⟩ := hr B2 H2 x vs d ds z s2.exB k1 k2 g5
      exact k Q (hq w B2 H2 s2 (x1.trans x2) (sc_rep hw))
  · cases e
/-- the first place of y -/
def dIndex : D → List D → Option D
  | .lst xs, [y] => if flatD y && xs.all flatD && xs.any (fun x => eqF x y) then some (.int (xs.findIdx fun x => eqF x y)) else none
  | _, _ => none
theorem rep_at {K : PySem.W.Frag} {B : Hp} {vs : List V} {xs : List D} {i : Nat} {v : V} {d : D} (h : RepAll K B vs xs) (h1 : vs[i]? = some v) (h2 : xs[i]? = some d) : Rep K B v d := by
  obtain ⟨d', e, r⟩ := h.getV h1
  rw [h2] at e
  cases e
  exact r
theorem rm_index : RM K (rIndex K) dIndex := by
  intro B H x vs d ds z ex rx rs e
  unfold dIndex at e
  split at e
  · rename_i xs y
    split at e
    · rename_i ok
      cases e
      simp only [Bool.and_eq_true] at ok
      obtain ⟨⟨fy, fxs⟩, found⟩ := ok
      obtain ⟨v, rfl, ry⟩ := rs.one
      obtain ⟨a, ws, rfl, hp, ra⟩ := rx.list ex
      have ry := ry.scal (flat_scal fy)
      refine ⟨⟨_, rfl⟩, .int _, rfl, fun Q q => ?_⟩
      have hlt : xs.findIdx (fun x => eqF x y) < xs.length := List.findIdx_lt_length.mpr (by
        obtain ⟨m, hm, he⟩ := List.any_eq_true.mp found
        exact ⟨m, hm, he⟩)
      have hx : xs[xs.findIdx (fun x => eqF x y)]? = some xs[xs.findIdx (fun x => eqF x y)] := List.getElem?_eq_getElem hlt
      obtain ⟨w, hw, rw1⟩ := ra.get hx
      have fw : flatD xs[xs.findIdx (fun x => eqF x y)] = true := List.all_eq_true.mp fxs _ (List.getElem_mem hlt)
      refine ⟨a, ws, v, _, w, rfl, rfl, sq_of hp, flat_rep ry fy, flat_all ra fxs, hw, ?_, fun m z' hm hz => ?_, q⟩
      · rw [eqF_rep rw1 ry fw fy]
        exact List.findIdx_getElem (w := hlt)
      · obtain ⟨d', hd', rd⟩ := ra.getV hz
        have hm' : m < xs.length := by omega
        have e2 : xs[m] = d' := by
          rw [List.getElem?_eq_getElem hm'] at hd'
          exact Option.some.inj hd'
        rw [eqF_rep rd ry (List.all_eq_true.mp fxs _ (e2 ▸ List.getElem_mem hm')) fy, ← e2]
        have := List.not_of_lt_findIdx hm
        simpa using this
    · cases e
  · cases e
end
/-! list(range(a, b, -1)) -/
section
variable {X : Cx} {ta tb : TE}
def dnV (a b : Int) : List V := (List.range (a - b).toNat).map fun i => V.int (a + (i : Nat) * -1)
theorem dnV_length (a b : Int) : (dnV a b).length = (a - b).toNat := by unfold dnV; rw [List.length_map, List.length_range]
theorem vals_dn {a b : Int} {acc : Array Value} (h : ItemsOf (fun i v => ∃ t, v = .int (a + i * -1) t) acc (a - b).toNat) : Vals (dnV a b) acc.toList := by
  have e : acc.toList.length = (a - b).toNat := by rw [Array.length_toList]; exact h.1
  unfold dnV
  rw [← e]
  refine vals_of_get acc.toList _ fun place val at_ => ?_
  obtain ⟨tok, rfl⟩ := h.2 place val (by rw [← at_, Array.getElem?_toList])
  exact ⟨tok, rfl⟩
def RgDn (a b : Int) : Prop := -(2 ^ 62) ≤ a ∧ a < 2 ^ 62 ∧ -(2 ^ 62) ≤ b ∧ b < 2 ^ 62 ∧ (a - b).toNat ≤ 2 ^ 24
instance (a b : Int) : Decidable (RgDn a b) := by unfold RgDn; exact inferInstance
/-- an expression whose value is a range a, a - 1 .. b + 1 -/
def PRgD (X : Cx) (e : Expr) (t : TA) : Prop :=
  ∀ (pins : List (Addr × Obj)) (s : Shared) (σ : L2.St) (H : Hp) (Q : Int → Int → Hp → Prop), Inv X pins σ H s → (t σ H fun vs H1 => ∃ i j : Int, vs = [.int i, .int j, .int (-1)] ∧ Q i j H1) →
    wpAny (model X.prog X.w) X.A (eval e X.env) (fun x s' => ∃ r a b u1 u2 u3 H', x = .ref r ∧ IsRange s'.heap r a b (-1) u1 u2 u3 ∧ Inv X pins σ H' s' ∧ Q a b H') X.xe s
theorem prg_3 {a b c : Expr} {t : TA} {p pos : Pos} (hg : Gl X "range") (hm : X.mg "range" = none) (ha : PA X [a, b, c] t)
    (hs : starEach [a, b, c] X.env = (false, eval a X.env) :: starEach [b, c] X.env := by rfl) (hpl : (backTo pos (starEach [b, c] X.env)).any (·.1) = false := by rfl) : PRgD X (.Call (.Name "range" p) [a, b, c] [] pos) t := by
  intro pins s σ H Q I h
  refine Call_ (ld_blt I hg hm boot_range (PyProof.Rows.callWith_type1 (thn (ha.run pos pins s σ H _ I h) fun _ _ ⟨_, H1, I1, r1, want⟩ => ?_) hs hpl))
  obtain ⟨i, j, e, q⟩ := want
  subst e
  cases r1 with
  | cons r rr =>
    cases rr with
    | cons r' rr =>
      cases rr with
      | cons r'' rr =>
        cases rr
        obtain ⟨t, rfl⟩ := r
        obtain ⟨t', rfl⟩ := r'
        obtain ⟨t'', rfl⟩ := r''
        exact call_range_3 (by decide) ⟨_, i, j, _, _, _, H1, rfl, IsRange.new _ _ _ _ _ _ _, I1.kept fun b u e => Heap.get?_push_of_some _ e, q⟩ (.inl (PyProof.noPylong_small (by decide)))
def tLstDn (t : TA) : TE := fun σ H Q => t σ H fun vs H1 => ∃ i j : Int, vs = [.int i, .int j, .int (-1)] ∧ RgDn i j ∧ ∀ q, H1 q = none → Q (.ref q) (upd H1 q (.lst (dnV i j)))
theorem pe_listDn {e : Expr} {t : TA} {p pos : Pos} (hc : X.calm = true) (hg : Gl X "list") (hm : X.mg "list" = none) (he : PRgD X e t) (na : starEach [e] X.env = (false, eval e X.env) :: starEach [] X.env := by rfl) : PE X (.Call (.Name "list" p) [e] [] pos) (tLstDn t) := by
  refine ⟨fun pins s σ H Q I h => ?_⟩
  refine Call_ (ld_blt I hg hm boot_list (PyProof.Rows.callWith_type1 (args_cons (thn (he pins s σ H (fun i j H1 => RgDn i j ∧ ∀ q, H1 q = none → Q (.ref q) (upd H1 q (.lst (dnV i j)))) I h) fun x s1 ⟨r, a, b, t, u, v, H1, ex, hr, I1, ok, q⟩ => args_nil ?_) na) na))
  subst ex
  obtain ⟨lo1, lo2, hi1, hi2, few⟩ := ok
  refine call_list_range (n := (a - b).toNat) (I1.ok.hd hc) hr (PySem.W.small_down lo1 lo2 hi1 hi2) (PySem.W.rangeSize_downNat a b) few fun h' tk acc c' hk e' hi => ?_
  refine ⟨.ref s1.heap.objs.size, upd H1 s1.heap.objs.size (.lst (dnV a b)), I1.laid hk (Nat.le_refl _) (show ObjOk X.prog X.w _ _ _ (.lst (dnV a b)) from ⟨?_, acc.toList, c', vals_dn hi, ?_⟩), rfl, q _ (I1.hok.fresh (Nat.le_refl _))⟩
  · rw [dnV_length, sizeLine_eq]; omega
  · rw [Array.toArray_toList]; exact e'
end
section
variable {K : PySem.W.Frag} {C : Ctx} {B B' H H' : Hp} {env env' : En} {σ : L2.St} {v : V}
theorem dn_rep {C : Ctx} {B : Hp} (a : Int) (b : Int) : RepAll C.K B (dnV a b) (downTo a (a - b).toNat) := by
  have e1 : dnV a b = ((List.range (a - b).toNat).map fun i => a + ((i : Nat) : Int) * -1).map V.int := by unfold dnV; rw [List.map_map]; rfl
  have e2 : downTo a (a - b).toNat = ((List.range (a - b).toNat).map fun i => a + ((i : Nat) : Int) * -1).map D.int := by unfold downTo; rw [List.map_map]; rfl
  rw [e1, e2]
  exact .of_ints _
def eLrD (f : En → Option (List R × En)) : En → Option (R × En) := fun env => (aD f env).bind fun a => match a.1 with
  | [.int i, .int j, .int c] => if c = -1 ∧ RgDn i j then some (.fr (downTo i (i - j).toNat), a.2) else none
  | _ => none
theorem se_lrD {ta : TA} {f : En → Option (List R × En)} (h : SA K ta f) : SE K (tLstDn ta) (eLrD f) := by
  intro C hC B env σ H r env' s e Q hq
  obtain ⟨⟨as, e1⟩, g1, e⟩ := Option.bind_eq_some_iff.mp e
  obtain ⟨rs, e0, g2, g3⟩ := aD_some g1
  split at e
  · rename_i i j c hj
    simp only at hj
    subst hj
    split at e
    · rename_i hb
      obtain ⟨rfl, hb⟩ := hb
      cases e
      refine h C hC B env σ H rs e0 s g2 _ fun vs B1 H1 s1 x1 rr => ?_
      obtain ⟨B2, s2, x2, ra⟩ := frzs_w s1 rr.w g3
      match vs, ra with
      | [.int _, .int _, .int _], .cons (.int _) (.cons (.int _) (.cons (.int _) .nil)) => exact ⟨i, j, rfl, hb, fun q hq' => hq (.ref q) B2 _ (s2.temp hq') (x1.trans x2) (s2.newL hq' (dn_rep i j))⟩
    · cases e
  · cases e
end
/-! == and != of texts -/
section
variable {K : PySem.W.Frag}
def dEqS : D → D → Option D
  | .str x, .str y => some (.bl (decide (x = y)))
  | _, _ => none
def dNeS : D → D → Option D
  | .str x, .str y => some (.bl (!decide (x = y)))
  | _, _ => none
theorem ros_eqS : ROS K rEq dEqS := by
  intro B H x y dx dy z e rx ry h
  unfold dEqS at h
  split at h
  · cases h
    obtain rfl := RepK.str rx
    obtain rfl := RepK.str ry
    refine ⟨_, rfl, fun Q k => ⟨rfl, ?_⟩⟩
    simpa using k
  · cases h
theorem ros_neS : ROS K rNe dNeS := by
  intro B H x y dx dy z e rx ry h
  unfold dNeS at h
  split at h
  · cases h
    obtain rfl := RepK.str rx
    obtain rfl := RepK.str ry
    refine ⟨_, rfl, fun Q k => ⟨rfl, ?_⟩⟩
    simpa using k
  · cases h
theorem ro_eqS : RO K rEq dEqS := ros_eqS.ro
theorem ro_neS : RO K rNe dNeS := ros_neS.ro
end
end Vm

set_option Elab.async false
set_option linter.all false
set_option maxRecDepth 100000
/-! VmV: words of lists of pairs: sorted of pairs, sorted downwards. -/
namespace Vm
open PySem PySem.Spec PyProof.Rows L2 Evl
/-! ### sorted(xs, reverse=True), numbers -/
section
variable {K : PySem.W.Frag} {X : Cx}
def bSortRev : List D → Option (List D)
  | [.lst xs] => (unInts xs).map fun ns => (srt ns).reverse.map D.int
  | _ => none
def rSortRev (K : PySem.W.Frag) : List V → Hp → VK → Prop := fun vs H Q => rSortedKw K true [.bl true] vs [.bl true] H Q
theorem rcl_sortRev : RCL K (rSortRev K) bSortRev := by
  intro B H vs ds zs e rx h Q q
  unfold bSortRev at h
  split at h
  · obtain ⟨ns, h1, rfl⟩ := Option.map_eq_some_iff.mp h
    obtain ⟨v, rfl, k⟩ := rx.one
    obtain ⟨a, rfl, h2⟩ := k.ints e h1
    refine ⟨a, ns, rfl, rfl, sq_of h2, fun ms p pm pw hp => ?_⟩
    have pw : ms.Pairwise (· ≥ ·) := pw
    have eq : ms.reverse = srt ns := srt_unique ((List.reverse_perm _).trans pm) (by rw [List.pairwise_reverse]; exact pw)
    have eq2 : ms = (srt ns).reverse := by rw [← eq, List.reverse_reverse]
    rw [eq2]
    exact q p _ hp (.of_ints _)
  · cases h
theorem pe_sortRev {p pos c kpos : Pos} {e : Expr} {t : TA} {j : Nat} (hg : Gl X "sorted") (hm : X.mg "sorted" = none) (ha : PA X [e] t)
    (he : backTo pos (starEach [e] X.env) = (false, eval e X.env) :: backTo pos (starEach [] X.env) := by rfl) (hpl : (backTo pos (starEach [e] X.env)).any (·.1) = false := by rfl) :
    PE X (.Call (.Name "sorted" p) [e] [⟨some "reverse", .Constant (.bool true) j c, kpos⟩] pos) (tCB (rSortRev X.K) t) :=
  pe_callBK (cr_sortedRev (b := true)) hg hm (by decide +kernel) ha (pk_cons pe_bl pk_nil) (by decide) (by decide) he hpl rfl rfl rfl
end
/-! ### sorted(xs), pairs of numbers -/
def leP (p q : Int × Int) : Bool := !SrtO.lexB q p
def srtP (ps : List (Int × Int)) : List (Int × Int) := ps.mergeSort leP
theorem leP_iff {p q : Int × Int} : leP p q = true ↔ p.1 < q.1 ∨ (p.1 = q.1 ∧ p.2 ≤ q.2) := by
  unfold leP
  rw [Bool.not_eq_true', SrtO.lexB_no]
  omega
theorem srtP_perm (ps : List (Int × Int)) : (srtP ps).Perm ps := List.mergeSort_perm _ _
theorem srtP_pw (ps : List (Int × Int)) : (srtP ps).Pairwise (fun p q => leP p q = true) := by
  refine List.pairwise_mergeSort (le := leP) (fun a b c h1 h2 => ?_) (fun a b => ?_) ps
  · have h1 := leP_iff.mp h1
    have h2 := leP_iff.mp h2
    exact leP_iff.mpr (by omega)
  · rw [Bool.or_eq_true, leP_iff, leP_iff]
    omega
theorem srtP_unique {ps qs : List (Int × Int)} (p : qs.Perm ps) (w : qs.Pairwise fun p q => leP p q = true) : qs = srtP ps := by
  refine List.Perm.eq_of_pairwise (le := fun p q => leP p q = true) (fun a b _ _ h1 h2 => ?_) w (srtP_pw ps) (p.trans (srtP_perm ps).symm)
  have h1 := leP_iff.mp h1
  have h2 := leP_iff.mp h2
  exact Prod.ext (by omega) (by omega)
section
variable {K : PySem.W.Frag} {X : Cx}
/-- what is known of sorted(xs): its items, each with its pair, by the order of the pairs -/
def rSortP (K : PySem.W.Frag) : List V → Hp → VK → Prop := fun vs H Q => ∃ (a : Addr) (zs : List (V × (Int × Int))), vs = [V.ref a] ∧ SqL K H a (zs.map (·.1)) ∧ (∀ z ∈ zs, ∃ t, z.1 = V.ref t ∧ SqT K H t [.int z.2.1, .int z.2.2]) ∧
  ∀ (ys : List (V × (Int × Int))) (q : Addr), ys.Perm zs → ys.map (·.2) = srtP (zs.map (·.2)) → H q = none → Q (.ref q) (upd H q (.lst (ys.map (·.1))))
theorem cr_sortP : CallR X (.builtin "sorted") (rSortP X.K) := by
  intro pins s σ H vs us Q I r h
  obtain ⟨a, zs, rfl, hs, hz, q⟩ := h
  obtain ⟨its, rv, pl, len⟩ := I.list hs
  obtain ⟨u, rfl, ru⟩ := vals1 r
  obtain rfl : u = Value.ref a := ru
  have isref : ∀ x ∈ zs.map (·.1), ∃ t, x = V.ref t := fun x hx => by
    obtain ⟨z, hm, rfl⟩ := List.mem_map.mp hx
    obtain ⟨t, e, _⟩ := hz z hm
    exact ⟨t, e⟩
  obtain ⟨b1, b2⟩ := refs_back rv isref
  -- the pair of an item
  let key : V → Int × Int := fun x => Classical.epsilon fun p => ∃ t, x = V.ref t ∧ SqT X.K H t [.int p.1, .int p.2]
  have hk : ∀ z ∈ zs, key z.1 = z.2 := fun z hm => by
    obtain ⟨t, e, ht⟩ := hz z hm
    obtain ⟨t2, e2, ht2⟩ : ∃ t, z.1 = V.ref t ∧ SqT X.K H t [.int (key z.1).1, .int (key z.1).2] := Classical.epsilon_spec (p := fun p : Int × Int => ∃ t, z.1 = V.ref t ∧ SqT X.K H t [.int p.1, .int p.2]) ⟨z.2, t, e, ht⟩
    rw [e] at e2
    cases e2
    have := I.tuple_inj ht2 ht
    simp only [List.cons.injEq, V.int.injEq, and_true] at this
    exact Prod.ext this.1 this.2
  refine SrtO.sorted_pairsO (k := fun u => key (backV u)) pl.isList (by rw [← rv.length]; exact len) (fun v hv => ?_) fun h' d out o1 o2 kp hd hn => ?_
  · obtain ⟨t, rfl⟩ := b2 v hv
    have hm : V.ref t ∈ zs.map (·.1) := by rw [b1]; exact List.mem_map.mpr ⟨_, hv, rfl⟩
    obtain ⟨z, hzm, ez⟩ := List.mem_map.mp hm
    obtain ⟨t2, e2, ht⟩ := hz z hzm
    have ez : z.1 = V.ref t := ez
    rw [ez] at e2
    cases e2
    obtain ⟨it2, r2, ⟨o, g1, g2, n, g3⟩, _⟩ := I.tuple ht
    obtain ⟨u1, u2, rfl, ⟨t1, ei⟩, ⟨t3, ej⟩⟩ := vals2 r2
    subst ei ej
    refine ⟨t, o, t1, t3, n, rfl, g1, g2, ?_⟩
    show o.data = .seq #[.int (key (V.ref t)).1 t1, .int (key (V.ref t)).2 t3] n
    rw [← ez, hk z hzm]
    exact g3
  · have h3 : ∀ u ∈ out, ∃ a, u = Value.ref a := fun u hu => b2 u (o2.perm.mem_iff.mp hu)
    obtain ⟨n, hn⟩ := hn
    have hp : (out.map backV).Perm (zs.map (·.1)) := by
      rw [b1]
      exact o2.perm.map backV
    have e1 : (zs.map (·.1)).map (fun x => (x, key x)) = zs := by
      rw [List.map_map]
      conv => rhs; rw [← List.map_id zs]
      refine List.map_congr_left fun z hm => ?_
      show (z.1, key z.1) = z
      rw [hk z hm]
    have e2 : ((out.map backV).map fun x => (x, key x)).map (·.1) = out.map backV := by
      rw [List.map_map]
      show (out.map backV).map (fun x => x) = _
      rw [List.map_id']
    have hq := q ((out.map backV).map fun x => (x, key x)) d (by rw [← e1]; exact hp.map _) (srtP_unique (by
      have := (hp.map fun x => (x, key x)).map (·.2)
      rw [e1] at this
      exact this) ?_) (I.hok.fresh hd)
    · rw [e2] at hq
      refine ⟨.ref d, upd H d (.lst (out.map backV)), I.laid (t' := s.toks) kp hd ⟨?_, out, n, vals_back h3, hn⟩, rfl, hq⟩
      rw [hp.length_eq]
      exact len
    · rw [List.pairwise_map, List.pairwise_map, List.pairwise_map]
      refine List.Pairwise.imp (fun {x y} hxy => ?_) o1
      show (!SrtO.lexB (key (backV y)) (key (backV x))) = true
      rw [show SrtO.lexB (key (backV y)) (key (backV x)) = false from hxy]
      rfl
def unPairs : List D → Option (List (Int × Int))
  | [] => some []
  | .tup [.int i, .int j] :: xs => (unPairs xs).map fun ps => (i, j) :: ps
  | _ => none
def pairD (p : Int × Int) : D := .tup [.int p.1, .int p.2]
theorem unPairs_map : ∀ ps : List (Int × Int), unPairs (ps.map pairD) = some ps
  | [] => rfl
  | p :: ps => by
    show (unPairs (ps.map pairD)).map _ = _
    rw [unPairs_map ps]
    rfl
theorem unPairs_some : ∀ {xs : List D} {ps : List (Int × Int)}, unPairs xs = some ps → xs = ps.map pairD
  | [], ps, h => by cases h; rfl
  | x :: xs, ps, h => by
    unfold unPairs at h
    split at h
    · rename_i heq; cases heq
    · rename_i i j ys heq
      cases heq
      obtain ⟨qs, h1, rfl⟩ := Option.map_eq_some_iff.mp h
      rw [unPairs_some h1]
      rfl
    · cases h
def bSortP : List D → Option (List D)
  | [.lst xs] => (unPairs xs).map fun ps => (srtP ps).map pairD
  | _ => none
theorem rcl_sortP : RCL K (rSortP K) bSortP := by
  intro B H vs ds zs e rx h Q q
  unfold bSortP at h
  split at h
  · obtain ⟨ps, h1, rfl⟩ := Option.map_eq_some_iff.mp h
    obtain rfl := unPairs_some h1
    obtain ⟨v, rfl, k⟩ := rx.one
    obtain ⟨a, ws, rfl, hp, ra⟩ := k.list e
    have hl : ws.length = ps.length := by rw [ra.length, List.length_map]
    have z1 : (ws.zip ps).map (·.1) = ws := List.map_fst_zip (by omega)
    have z2 : (ws.zip ps).map (·.2) = ps := List.map_snd_zip (by omega)
    have zr : ∀ z ∈ ws.zip ps, Rep K B z.1 (pairD z.2) := fun z hz => by
      obtain ⟨i, hi, ei⟩ := List.getElem_of_mem hz
      have hi2 : i < ws.length := by rw [List.length_zip] at hi; omega
      have hi3 : i < ps.length := by omega
      rw [List.getElem_zip] at ei
      subst ei
      exact rep_at ra (List.getElem?_eq_getElem hi2) (by rw [List.getElem?_map, List.getElem?_eq_getElem hi3]; rfl)
    refine ⟨a, ws.zip ps, rfl, by rw [z1]; exact sq_of hp, fun z hz => ?_, fun ys p pm es hn => ?_⟩
    · obtain ⟨t, vs2, ev, ht, rt⟩ := (zr z hz).tuple
      refine ⟨t, ev, ?_⟩
      cases rt with
      | cons r1 rt =>
        cases rt with
        | cons r2 rt =>
          cases rt
          cases r1
          cases r2
          exact ex_t e ht
    · rw [z2] at es
      rw [← es] at q
      refine q p _ hn ?_
      have go : ∀ l : List (V × (Int × Int)), (∀ z ∈ l, Rep K B z.1 (pairD z.2)) → RepAll K B (l.map (·.1)) ((l.map (·.2)).map pairD) := fun l => by
        induction l with
        | nil => exact fun _ => .nil
        | cons y l ih => exact fun h => .cons (h y List.mem_cons_self) (ih fun z hz => h z (List.mem_cons_of_mem _ hz))
      exact go ys fun z hz => zr z (pm.mem_iff.mp hz)
  · cases h
end
/-! ### divmod -/
section
variable {K : PySem.W.Frag}
instance (i j : Int) : Decidable (CDivP i j) := by unfold CDivP; exact inferInstance
def bDivmod : List D → Option D
  | [.int i, .int j] => if CDivP i j then some (.tup [.int (i / j), .int (i % j)]) else none
  | _ => none
def rDivmod : List V → Hp → VK → Prop := fun xs H Q => ∃ i j, xs = [.int i, .int j] ∧ CDivP i j ∧ ∀ p, H p = none → Q (.ref p) (upd H p (.tup [.int (i / j), .int (i % j)]))
theorem rc_divmod : RC K rDivmod bDivmod := by
  intro C hC B env σ H vs ds z s rx e Q hq
  unfold bDivmod at e
  split at e
  · rename_i i j
    split at e
    · rename_i hd
      cases e
      obtain ⟨v, w, rfl, k1, k2⟩ := rx.two
      obtain rfl := RepK.int k1
      obtain rfl := RepK.int k2
      refine ⟨i, j, rfl, hd, fun l hl => ?_⟩
      have bl := fresh_back s.exB hl
      exact hq (.ref l) (upd B l (.tup [.int (i / j), .int (i % j)])) _ (s.alloc hl) (Ex.new bl) (.tup (st_of upd_same) (.cons (.int _) (.cons (.int _) .nil)))
    · cases e
  · cases e
end
/-! ### len(set(xs)), numbers each of which stands once -/
section
variable {K : PySem.W.Frag} {te : TE}
def eLenSet (f : En → Option (R × En)) : En → Option (R × En) := fun env => (f env).bind fun a => (look a.2 a.1).bind fun d => match d with
  | .lst xs => (unInts xs).bind fun ns => if ns.Nodup ∧ ns.length ≤ 4000 then some (.val (.int ns.length), a.2) else none
  | _ => none
theorem se_lenSet {f : En → Option (R × En)} (h : SE K te f) : SE K (RZ.tLenSetI K te) (eLenSet f) := by
  intro C hC B env σ H r env' s e Q hq
  obtain ⟨⟨a, e1⟩, g1, e⟩ := Option.bind_eq_some_iff.mp e
  obtain ⟨d, g2, e⟩ := Option.bind_eq_some_iff.mp e
  split at e
  · rename_i xs
    obtain ⟨ns, g3, e⟩ := Option.bind_eq_some_iff.mp e
    split at e
    · rename_i hn
      cases e
      refine h C hC B env σ H a e1 s g1 _ fun v B1 H1 s1 x1 rr => ?_
      have k := look_rep s1 rr g2
      rw [hC] at k
      obtain ⟨l, rfl, h2⟩ := k.ints s1.exB g3
      exact ⟨l, ns, rfl, sq_of h2, hn.1, hn.2, hq _ B1 H1 s1 x1 (.int _)⟩
    · cases e
  · cases e
end
/-! ### in, not in of lists of data -/
section
variable {K : PySem.W.Frag}
def inD (x y : D) : Option Bool := (toPy x).bind fun d => (toPy y).bind fun l => match l with
  | .list ds => if SeqAt.shaped d && SeqAt.shaped (.list ds) then some (ds.any fun z => PyData.eqv z d) else none
  | _ => none
def dInD (x y : D) : Option D := (inD x y).map fun b => .bl b
def dNotInD (x y : D) : Option D := (inD x y).map fun b => .bl (!b)
theorem inD_some {x y : D} {b : Bool} (h : inD x y = some b) : ∃ d ds, toPy x = some d ∧ toPy y = some (.list ds) ∧ SeqAt.shaped d = true ∧ SeqAt.shaped (.list ds) = true ∧ b = ds.any fun z => PyData.eqv z d := by
  unfold inD at h
  obtain ⟨d, e1, h1⟩ := Option.bind_eq_some_iff.mp h
  obtain ⟨l, e2, h2⟩ := Option.bind_eq_some_iff.mp h1
  split at h2
  · rename_i ds
    split at h2
    · rename_i hf
      cases h2
      rw [Bool.and_eq_true] at hf
      exact ⟨d, ds, e1, e2, hf.1, hf.2, rfl⟩
    · cases h2
  · cases h2
theorem ro_inD : RO K (rInD K) dInD := ROS.ro (by
  intro B H x y dx dy z e rx ry h
  obtain ⟨b, h', rfl⟩ := Option.map_eq_some_iff.mp h
  obtain ⟨d, ds, e1, e2, s1, s2, rfl⟩ := inD_some h'
  exact ⟨_, rfl, fun Q k => ⟨d, ds, (rx.rep e).dp e1, (ry.rep e).dp e2, s1, s2, k⟩⟩)
theorem ro_notInD : RO K (rNotInD K) dNotInD := ROS.ro (by
  intro B H x y dx dy z e rx ry h
  obtain ⟨b, h', rfl⟩ := Option.map_eq_some_iff.mp h
  obtain ⟨d, ds, e1, e2, s1, s2, rfl⟩ := inD_some h'
  exact ⟨_, rfl, fun Q k => ⟨d, ds, (rx.rep e).dp e1, (ry.rep e).dp e2, s1, s2, k⟩⟩)
theorem Rg.units65 {k : Nat} {A : Around} (r : Rg k A) : A.units + 65 < cLine := by have := r.rm.un; omega
end
end Vm

set_option Elab.async false
set_option linter.all false
set_option maxRecDepth 100000
/-! VT: typed functions with what must hold so that they are reckoned, and how the functions over environments follow them. -/
namespace Vm
open PySem PySem.Spec PyProof.Rows L2 Evl
structure M (α : Type) where
  ok : Prop
  val : α
section
variable {α β γ σ ρ : Type}
def bd (m : M α) (k : α → M β) : M β := ⟨m.ok ∧ (k m.val).ok, (k m.val).val⟩
def pr (a : α) : M α := ⟨True, a⟩
def cnd (b : Bool) (m1 m2 : M α) : M α := match b with
  | true => m1
  | false => m2
structure Hd (m : M α) (r : α) : Prop where
  ok : m.ok
  eq : m.val = r
variable {m m1 m2 : M α} {k : α → M β} {b : Bool} {a r : α} {z : β}
theorem hd_of (h : m.ok) : Hd m m.val := ⟨h, rfl⟩
theorem hb0 (h : Hd (bd m k) z) : Hd m m.val := ⟨h.ok.1, rfl⟩
theorem hb1 (h : Hd (bd m k) z) : m.ok := h.ok.1
theorem hb2 (h : Hd (bd m k) z) : Hd (k m.val) z := ⟨h.ok.2, h.eq⟩
theorem cnd_t (h : Hd (cnd b m1 m2) r) (e : b = true) : Hd m1 r := by subst e; exact h
theorem cnd_f (h : Hd (cnd b m1 m2) r) (e : b = false) : Hd m2 r := by subst e; exact h
theorem hd_eq (h : Hd (pr a) r) : a = r := h.eq
theorem hd_pr {P : α → Prop} (h : Hd (pr a) r) (p : P a) : P r := by
  have e : a = r := h.eq
  rw [← e]; exact p
@[simp] theorem bd_ok : (bd m k).ok = (m.ok ∧ (k m.val).ok) := rfl
@[simp] theorem bd_val : (bd m k).val = (k m.val).val := rfl
@[simp] theorem pr_ok : (pr a).ok = True := rfl
@[simp] theorem pr_val : (pr a).val = a := rfl
@[simp] theorem cnd_true : cnd true m1 m2 = m1 := rfl
@[simp] theorem cnd_false : cnd false m1 m2 = m2 := rfl
theorem cnd_if : cnd b m1 m2 = if b = true then m1 else m2 := by cases b <;> rfl
/-- partial steps -/
def mulM (i j : Int) : M Int := ⟨CMulA i j, i * j⟩
def fdivM (i j : Int) : M Int := ⟨0 < j ∧ j < 2 ^ 8000, i / j⟩
def modM (i j : Int) : M Int := ⟨0 < j, i % j⟩
def powM (i j : Int) : M Int := ⟨CPowA i j, i ^ j.toNat⟩
def getI [Inhabited α] (xs : List α) (i : Int) : α := if 0 ≤ i then xs.getD i.toNat default else xs.getD ((xs.length : Int) + i).toNat default
def inI (n : Nat) (i : Int) : Prop := -(n : Int) ≤ i ∧ i < n
def getM [Inhabited α] (xs : List α) (i : Int) : M α := ⟨inI xs.length i, getI xs i⟩
def setI (xs : List α) (i : Int) (v : α) : List α := xs.set (if 0 ≤ i then i.toNat else ((xs.length : Int) + i).toNat) v
def catM (xs ys : List α) : M (List α) := ⟨xs.length + ys.length ≤ sizeLine, xs ++ ys⟩
def repM (xs : List α) (k : Int) : M (List α) := ⟨k < 2 ^ 63 ∧ -(2 ^ 63) ≤ k ∧ xs.length * k.toNat ≤ sizeLine, (List.replicate k.toNat xs).flatten⟩
def maxM (xs : List Int) : M Int := ⟨xs ≠ [], maxL xs⟩
def minM (xs : List Int) : M Int := ⟨xs ≠ [], minL xs⟩
def rgI (a b : Int) : List Int := (List.range (b - a).toNat).map fun i : Nat => a + (i : Int)
def lrgM (a b : Int) : M (List Int) := ⟨-(2 ^ 62) ≤ a ∧ a < 2 ^ 62 ∧ -(2 ^ 62) ≤ b ∧ b < 2 ^ 62 ∧ (b - a).toNat ≤ 2 ^ 24, rgI a b⟩
/-- a, a - 1 .. b + 1 -/
def dnI (a b : Int) : List Int := (List.range (a - b).toNat).map fun i : Nat => a + (i : Int) * -1
def dnLM (a b c : Int) : M (List Int) := ⟨c = -1 ∧ RgDn a b, dnI a b⟩
def dnM (a b c : Int) : M (List Int) := ⟨c = -1 ∧ -(2 ^ 62) ≤ a ∧ a < 2 ^ 62 ∧ -(2 ^ 62) ≤ b ∧ b < 2 ^ 62, dnI a b⟩
def indexM (xs : List Int) (y : Int) : M Int := ⟨y ∈ xs, (xs.findIdx fun x => x == y : Nat)⟩
def reprM (d : D) : M Str := ⟨((toPy d).bind showS).isSome = true, ((toPy d).bind showS).getD ""⟩
def rgM (a b : Int) : M (List Int) := ⟨-(2 ^ 62) ≤ a ∧ a < 2 ^ 62 ∧ -(2 ^ 62) ≤ b ∧ b < 2 ^ 62, rgI a b⟩
def appM (xs : List α) (x : α) : M (List α) := ⟨xs.length < 1000000, xs ++ [x]⟩
def setM (xs : List α) (i : Int) (v : α) : M (List α) := ⟨inI xs.length i, setI xs i v⟩
def extM (xs ys : List α) : M (List α) := ⟨xs.length + ys.length ≤ 1000000, xs ++ ys⟩
def popM [Inhabited α] (xs : List α) (k : Int) : M (α × List α) := ⟨0 ≤ k ∧ k < 2 ^ 63 ∧ k < xs.length, (getI xs k, xs.eraseIdx k.toNat)⟩
def mapM (f : α → M β) (xs : List α) : M (List β) := ⟨∀ x ∈ xs, (f x).ok, xs.map fun x => (f x).val⟩
def filM (p : α → M Bool) (f : α → M β) (xs : List α) : M (List β) := ⟨∀ x ∈ xs, (p x).ok ∧ ((p x).val = true → (f x).ok), (xs.filter fun x => (p x).val).map fun x => (f x).val⟩
def mustM (b : Bool) : M Unit := ⟨b = true, ()⟩
def shortM (n : Nat) : M Unit := ⟨n < 1000000, ()⟩
/-- a loop without ways out -/
def forM (st : σ → α → M σ) : σ → List α → M σ
  | s, [] => pr s
  | s, x :: xs => bd (st s x) fun s' => forM st s' xs
inductive Fl (ρ σ : Type) where
  | go (s : σ) | brk (s : σ) | out (r : ρ)
def forX (st : σ → α → M (Fl ρ σ)) : σ → List α → M (Fl ρ σ)
  | s, [] => pr (.go s)
  | s, x :: xs => bd (st s x) fun f => match f with
    | .go s' => forX st s' xs
    | .brk s' => pr (.go s')
    | .out v => pr (.out v)
/-- behind a loop with ways out -/
def aft {τ : Type} (f : Fl ρ σ) (o : ρ → M τ) (k : σ → M τ) : M τ := match f with
  | .go s => k s
  | .brk s => k s
  | .out v => o v
theorem aft_go {τ : Type} {f : Fl ρ σ} {o : ρ → M τ} {k : σ → M τ} {s : σ} {r : τ} (h : Hd (aft f o k) r) (e : f = .go s) : Hd (k s) r := by subst e; exact h
theorem aft_out {τ : Type} {f : Fl ρ σ} {o : ρ → M τ} {k : σ → M τ} {v : ρ} {r : τ} (h : Hd (aft f o k) r) (e : f = .out v) : Hd (o v) r := by subst e; exact h
@[simp] theorem aft_1 {τ : Type} {o : ρ → M τ} {k : σ → M τ} {s : σ} : aft (.go s) o k = k s := rfl
@[simp] theorem aft_2 {τ : Type} {o : ρ → M τ} {k : σ → M τ} {v : ρ} : aft (.out v) o k = o v := rfl
def whileM (t : σ → M Bool) (st : σ → M σ) : Nat → σ → M σ
  | 0, s => ⟨False, s⟩
  | n + 1, s => bd (t s) fun b => cnd b (bd (st s) fun s' => whileM t st n s') (pr s)
/-- a comprehension that changes own lists -/
def lcS (st : σ → α → M (β × σ)) : σ → List α → M (List β × σ)
  | s, [] => pr ([], s)
  | s, x :: xs => bd (st s x) fun a => bd (lcS st a.2 xs) fun c => pr (a.1 :: c.1, c.2)
end

theorem upTo_rg (a : Int) (n : Nat) : upTo a n = ((List.range n).map fun i : Nat => a + (i : Int)).map D.int := by
  unfold upTo
  rw [List.map_map]
  rfl
theorem ixN_of {n : Nat} {i : Int} (h : inI n i) : ixN n i = some (if 0 ≤ i then i.toNat else ((n : Int) + i).toNat) := by
  obtain ⟨h1, h2⟩ := h
  unfold ixN
  by_cases h0 : 0 ≤ i
  · rw [if_pos h0, if_pos h2, if_pos h0]
  · rw [if_neg h0, if_pos (by omega), if_neg h0, Int.add_comm]
theorem atI_get {α : Type} [Inhabited α] {E : α → D} {xs : List α} {i : Int} (h : inI xs.length i) : atI (xs.map E) i = some (E (getI xs i)) := by
  have h' := h
  obtain ⟨h1, h2⟩ := h'
  unfold atI getI
  rw [List.length_map, ixN_of h]
  show (xs.map E)[if 0 ≤ i then i.toNat else ((xs.length : Int) + i).toNat]? = _
  by_cases h0 : 0 ≤ i
  · rw [if_pos h0, if_pos h0, List.getElem?_map, List.getD_eq_getElem?_getD, List.getElem?_eq_getElem (by omega)]
    rfl
  · rw [if_neg h0, if_neg h0, List.getElem?_map, List.getD_eq_getElem?_getD, List.getElem?_eq_getElem (by omega)]
    rfl
theorem atI_get' {α : Type} [Inhabited α] {E : α → D} {xs : List α} {i : Int} (h1 : 0 ≤ i) (h2 : i < xs.length) : (xs.map E)[i.toNat]? = some (E (getI xs i)) := by
  unfold getI
  rw [if_pos h1, List.getElem?_map, List.getD_eq_getElem?_getD, List.getElem?_eq_getElem (by omega)]
  rfl
theorem map_eraseIdx {α β : Type} {E : α → β} : ∀ (xs : List α) (k : Nat), (xs.map E).eraseIdx k = (xs.eraseIdx k).map E
  | [], _ => rfl
  | _ :: _, 0 => rfl
  | x :: xs, k + 1 => by
    show E x :: (xs.map E).eraseIdx k = E x :: (xs.eraseIdx k).map E
    rw [map_eraseIdx xs k]

/-! ### how environments follow -/
theorem must_no {b : Bool} {u : Unit} (g : Hd (mustM (!b)) u) (h : b = true) : False := by
  have q : (!b) = true := g.ok
  rw [h] at q
  cases q
theorem hbind {α β : Type} {m : M α} {k : α → M β} {z : β} {P : Prop} (h : Hd (bd m k) z) (f : ∀ t, Hd m t → Hd (k t) z → P) : P := f m.val (hb0 h) (hb2 h)
section
variable {env e1 e2 e3 e4 : En} {fa fb fc : En → Option (R × En)} {f : En → Option (List R × En)} {F G : En → Option Out} {t u : En → Option (Bool × En)} {ra rb rc : R} {x y z d : D} {i j : Nat}
abbrev EV (f : En → Option (R × En)) (env : En) (r : R) (e : En) : Prop := f env = some (r, e)
abbrev AV (f : En → Option (List R × En)) (env : En) (r : List R) (e : En) : Prop := f env = some (r, e)
abbrev TV (t : En → Option (Bool × En)) (env : En) (b : Bool) (e : En) : Prop := t env = some (b, e)
theorem ev_sh (h : env[i]? = some (.sh d)) : EV (eVar i) env (.val d) env := by unfold EV eVar; rw [h]
theorem ev_ow {xs : List D} (h : env[i]? = some (.ow xs)) : EV (eVar i) env (.al i) env := by unfold EV eVar; rw [h]
theorem ev_c : EV (eC d) env (.val d) env := rfl
theorem ev_pr {α : Type} {a w : α} {K : α → R} (h : Hd (pr a) w) (g : EV fa env (K a) e1) : EV fa env (K w) e1 := by
  have e : a = w := h.eq
  rw [← e]; exact g
theorem ev_op {g : D → D → Option D} (ha : EV fa env ra e1) (hb : EV fb e1 rb e2) (hx : look e2 ra = some x) (hy : look e2 rb = some y) (h : g x y = some z) : EV (eOp g fa fb) env (.val z) e2 := by
  unfold EV at *; simp [ha, hb, hx, hy, h]
theorem ev_opL {g : D → D → Option (List D)} {zs : List D} (ha : EV fa env ra e1) (hb : EV fb e1 rb e2) (hx : look e2 ra = some x) (hy : look e2 rb = some y) (h : g x y = some zs) : EV (eOpL g fa fb) env (.fr zs) e2 := by
  unfold EV at *; simp [ha, hb, hx, hy, h]
theorem ev_un {g : D → Option D} (ha : EV fa env ra e1) (hx : look e1 ra = some x) (h : g x = some z) : EV (eUn g fa) env (.val z) e1 := by
  unfold EV at *; simp [ha, hx, h]
theorem ev_chain {g g' : D → D → Option D} {w : D} {a b : Bool} (ha : EV fa env ra env) (hb : EV fb env (.val y) env) (hx : look env ra = some x) (h : g x y = some (.bl a)) (hc : EV fc env rc env) (hw : look env rc = some w) (h' : g' y w = some (.bl b)) : EV (eChain g g' fa fb fc) env (.val (.bl (a && b))) env := by
  unfold EV at *
  rw [x_eChain, ha]
  simp only [Option.bind_some, hb, hx, x_look1, h]
  cases a with
  | true => simp [hc, hw, h']
  | false => rfl
theorem av_0 : AV aNil env [] env := rfl
theorem av_1 {rs : List R} (ha : EV fa env ra e1) (h : AV f e1 rs e2) : AV (aCons fa f) env (ra :: rs) e2 := by
  unfold EV AV at *; simp [ha, h]
theorem ev_cb {g : List D → Option D} {rs : List R} {ds : List D} (ha : AV f env rs e1) (hl : looks e1 rs = some ds) (h : g ds = some z) : EV (eCB g f) env (.val z) e1 := by
  unfold EV AV at *; simp [ha, hl, h]
theorem ev_cbL {g : List D → Option (List D)} {rs : List R} {ds zs : List D} (ha : AV f env rs e1) (hl : looks e1 rs = some ds) (h : g ds = some zs) : EV (eCBL g f) env (.fr zs) e1 := by
  unfold EV AV at *; simp [ha, hl, h]
theorem ev_lst {rs : List R} {ds : List D} (ha : AV f env rs e1) (hl : frzs e1 rs = some (ds, e1)) (h : ds.length ≤ 1000) : EV (eLst f) env (.fr ds) e1 := by
  unfold EV AV at *; simp [ha, hl, h]
theorem ev_tup {rs : List R} {ds : List D} (ha : AV f env rs e1) (hl : frzs e1 rs = some (ds, e1)) (h : ds.length ≤ 1000) : EV (eTup f) env (.val (.tup ds)) e1 := by
  unfold EV AV at *; simp [ha, hl, h]
theorem ev_call {m : En → Option Res} {n : Nat} {rs : List R} {ds : List D} (ha : AV f env rs e1) (hl : frzs e1 rs = some (ds, e1)) (hn : ds.length = n) (h : ∃ e, m (ds.map .sh) = some (.val z e)) : EV (eCall n m f) env (.val z) e1 := by
  obtain ⟨e, h⟩ := h
  unfold EV AV at *; simp [ha, hl, hn, h]
theorem ev_callL {m : En → Option Res} {n : Nat} {rs : List R} {ds zs : List D} (ha : AV f env rs e1) (hl : frzs e1 rs = some (ds, e1)) (hn : ds.length = n) (h : ∃ e, m (ds.map .sh) = some (.fr zs e)) : EV (eCall n m f) env (.fr zs) e1 := by
  obtain ⟨e, h⟩ := h
  unfold EV AV at *; simp [ha, hl, hn, h]
theorem ev_callB {m : En → Option Res} {n : Nat} {rs : List R} {ds : List D} (ha : AV f env rs e1) (hl : frzs e1 rs = some (ds, e2)) (hn : ds.length = n) (h : ∃ e, m (ds.map .sh) = some (.val z e)) (hf : flat1 z = true) : EV (eCallB n m f) env (.val z) e1 := by
  obtain ⟨e, h⟩ := h
  unfold EV AV eCallB at *; simp [ha, hl, hn, h, hf]
theorem ev_callBL {m : En → Option Res} {n : Nat} {rs : List R} {ds zs : List D} (ha : AV f env rs e1) (hl : frzs e1 rs = some (ds, e2)) (hn : ds.length = n) (h : ∃ e, m (ds.map .sh) = some (.fr zs e)) (hf : zs.all flat1 = true) : EV (eCallB n m f) env (.fr zs) e1 := by
  obtain ⟨e, h⟩ := h
  unfold EV AV eCallB at *
  rw [ha]
  simp only [Option.bind_some]
  rw [hl]
  simp only [Option.bind_some]
  rw [if_pos hn, h]
  simp only [Option.bind_some]
  rw [if_pos hf]
theorem flat_ints (ns : List Int) : (ns.map D.int).all flat1 = true := by
  induction ns with
  | nil => rfl
  | cons n ns ih => rw [List.map_cons, List.all_cons, ih]; rfl
theorem ev_io {α : Type} {E : α → D} {xs ys : List α} {m : En → Option Res} {n : Nat} {rs : List R} {ds : List D} (ha : AV f env (.al i :: rs) e1) (hl : frzs e1 rs = some (ds, e1)) (ho : e1[i]? = some (.ow (xs.map E))) (hn : ds.length + 1 = n) (h : ∃ e, m (.ow (xs.map E) :: ds.map .sh) = some (.val z (.ow (ys.map E) :: e))) (hs : e1.set i (.ow (ys.map E)) = e2) : EV (eCall1 n m f) env (.val z) e2 := by
  obtain ⟨e, h⟩ := h
  unfold EV AV at *
  rw [x_eCall1, ha]
  simp only [Option.bind_some, hl, x_own, ho]
  rw [if_pos hn, h]
  simp [hs]
theorem ev_ioL {α : Type} {E : α → D} {xs ys : List α} {m : En → Option Res} {n : Nat} {rs : List R} {ds zs : List D} (ha : AV f env (.al i :: rs) e1) (hl : frzs e1 rs = some (ds, e1)) (ho : e1[i]? = some (.ow (xs.map E))) (hn : ds.length + 1 = n) (h : ∃ e, m (.ow (xs.map E) :: ds.map .sh) = some (.fr zs (.ow (ys.map E) :: e))) (hs : e1.set i (.ow (ys.map E)) = e2) : EV (eCall1 n m f) env (.fr zs) e2 := by
  obtain ⟨e, h⟩ := h
  unfold EV AV at *
  rw [x_eCall1, ha]
  simp only [Option.bind_some, hl, x_own, ho]
  rw [if_pos hn, h]
  simp [hs]
theorem ev_io1 {α β : Type} {E : α → D} {E' : β → D} {xs : List α} {ys : List β} {m : En → Option Res} {n : Nat} {rs : List R} {ds : List D} (h0 : EV fa env (.fr (xs.map E)) e1) (ha : AV f e1 rs e2) (hl : frzs e2 rs = some (ds, e2)) (hn : ds.length + 1 = n) (h : ∃ e, m (.ow (xs.map E) :: ds.map .sh) = some (.val z (.ow (ys.map E') :: e))) : EV (eCall1F n m fa f) env (.val z) e2 := by
  obtain ⟨e, h⟩ := h
  unfold EV AV eCall1F at *
  rw [h0]
  simp only [Option.bind_some]
  rw [ha]
  simp only [Option.bind_some]
  rw [hl]
  simp only [Option.bind_some]
  rw [if_pos hn, h]
  rfl
theorem ev_pop {α : Type} [Inhabited α] {E : α → D} {xs : List α} {k : Int} {w : α × List α} {xs0 : List D} (h0 : env[i]? = some (.ow xs0)) (ha : AV f env [.val (.int k)] e1) (ho : e1[i]? = some (.ow (xs.map E))) (g : Hd (popM xs k) w) (hs : e1.set i (.ow (w.2.map E)) = e2) : EV (eaPop i f) env (.val (E w.1)) e2 := by
  obtain ⟨⟨g1, g2, g3⟩, ge⟩ := g
  subst ge
  unfold EV AV at *
  rw [x_pop]
  simp only [x_own, h0, Option.bind_some, x_aD, ha, x_frzs2, x_frzs1, x_frz1, Option.map_some, x_oneInt, ho]
  rw [if_pos ⟨g1, g2⟩]
  have q := atI_get' (E := E) g1 g3
  rw [q]
  simp only [Option.map_some]
  rw [← hs]
  show some (R.val (E (getI xs k)), e1.set i (.ow ((xs.map E).eraseIdx k.toNat))) = some (R.val (E (getI xs k)), e1.set i (.ow ((xs.eraseIdx k.toNat).map E)))
  rw [map_eraseIdx]
theorem ev_not {b : Bool} (h : EV fa env (.val (.bl b)) e1) : EV (eNot fa) env (.val (.bl (!b))) e1 := by
  unfold EV at *; simp [h]
theorem ev_and {a b : Bool} (ha : EV fa env (.val (.bl a)) e1) (hb : EV fb e1 (.val (.bl b)) e1) : EV (eAnd fa fb) env (.val (.bl (a && b))) e1 := by
  unfold EV at *; cases a <;> simp [ha, hb]
theorem ev_or {a b : Bool} (ha : EV fa env (.val (.bl a)) e1) (hb : EV fb e1 (.val (.bl b)) e1) : EV (eOr fa fb) env (.val (.bl (a || b))) e1 := by
  unfold EV at *; cases a <;> simp [ha, hb]
theorem ev_andM {a v : Bool} {mb : M Bool} (h : Hd (cnd a mb (pr false)) v) (ha : EV fa env (.val (.bl a)) e1) (hb : ∀ w, Hd mb w → EV fb e1 (.val (.bl w)) e1) : EV (eAnd fa fb) env (.val (.bl v)) e1 := by
  unfold EV at *
  cases a with
  | true => simp [ha, hb v (cnd_t h rfl)]
  | false =>
    have e : false = v := (cnd_f h rfl).eq
    subst e
    simp [ha]
theorem ev_orM {a v : Bool} {mb : M Bool} (h : Hd (cnd a (pr true) mb) v) (ha : EV fa env (.val (.bl a)) e1) (hb : ∀ w, Hd mb w → EV fb e1 (.val (.bl w)) e1) : EV (eOr fa fb) env (.val (.bl v)) e1 := by
  unfold EV at *
  cases a with
  | false => simp [ha, hb v (cnd_f h rfl)]
  | true =>
    have e : true = v := (cnd_t h rfl).eq
    subst e
    simp [ha]
theorem ev_iteM {α : Type} {a : Bool} {m1 m2 : M α} {v : α} {K : α → R} (h : Hd (cnd a m1 m2) v) (ht : TV t env a e1) (h1 : ∀ w, Hd m1 w → EV fa e1 (K w) e2) (h2 : ∀ w, Hd m2 w → EV fb e1 (K w) e2) : EV (eIf t fa fb) env (K v) e2 := by
  unfold EV TV at *
  cases a with
  | true => simp [ht, h1 v (cnd_t h rfl)]
  | false => simp [ht, h2 v (cnd_f h rfl)]
theorem tv_x {b : Bool} (h : EV fa env (.val (.bl b)) e1) : TV (bTest fa) env b e1 := by
  unfold EV TV at *; simp [h]
theorem tv_and {a b : Bool} (ha : TV t env a e1) (hb : TV u e1 b e1) : TV (bAnd t u) env (a && b) e1 := by
  unfold TV at *; cases a <;> simp [ha, hb]
theorem tv_or {a b : Bool} (ha : TV t env a e1) (hb : TV u e1 b e1) : TV (bOr t u) env (a || b) e1 := by
  unfold TV at *; cases a <;> simp [ha, hb]
theorem tv_not {a : Bool} (ha : TV t env a e1) : TV (bNot t) env (!a) e1 := by
  unfold TV at *; simp [ha]
theorem tv_andM {a v : Bool} {mb : M Bool} (h : Hd (cnd a mb (pr false)) v) (ha : TV t env a e1) (hb : ∀ w, Hd mb w → TV u e1 w e1) : TV (bAnd t u) env v e1 := by
  unfold TV at *
  cases a with
  | true => simp [ha, hb v (cnd_t h rfl)]
  | false =>
    have e : false = v := (cnd_f h rfl).eq
    subst e
    simp [ha]
theorem tv_orM {a v : Bool} {mb : M Bool} (h : Hd (cnd a (pr true) mb) v) (ha : TV t env a e1) (hb : ∀ w, Hd mb w → TV u e1 w e1) : TV (bOr t u) env v e1 := by
  unfold TV at *
  cases a with
  | false => simp [ha, hb v (cnd_f h rfl)]
  | true =>
    have e : true = v := (cnd_t h rfl).eq
    subst e
    simp [ha]
theorem tv_pr {a w : Bool} (h : Hd (pr a) w) (g : TV t env a e1) : TV t env w e1 := by
  have e : a = w := h.eq
  rw [← e]; exact g
theorem tv_yes : TV bYes env true env := rfl

/-! operators -/
theorem o_mul {i j v : Int} (g : Hd (mulM i j) v) : dMul (.int i) (.int j) = some (.int v) := by rw [← g.eq]; exact x_mul g.ok
theorem o_fdiv {i j v : Int} (g : Hd (fdivM i j) v) : dFdiv (.int i) (.int j) = some (.int v) := by rw [← g.eq]; exact x_fdivW g.ok.1 g.ok.2
theorem o_mod {i j v : Int} (g : Hd (modM i j) v) : dMod (.int i) (.int j) = some (.int v) := by rw [← g.eq]; exact x_mod g.ok
theorem o_pow {i j v : Int} (g : Hd (powM i j) v) : dPow (.int i) (.int j) = some (.int v) := by rw [← g.eq]; exact x_pow g.ok
theorem o_ix {α : Type} [Inhabited α] {E : α → D} {xs : List α} {i : Int} {v : α} (g : Hd (getM xs i) v) : dIx (.lst (xs.map E)) (.int i) = some (E v) := by rw [← g.eq]; exact atI_get g.ok
theorem o_ixS {xs : List Int} {i v : Int} (g : Hd (getM xs i) v) : dIx (.scr xs) (.int i) = some (.int v) := by
  have q := atI_get (E := D.int) g.ok
  rw [atI_map] at q
  rw [← g.eq]
  exact q
theorem o_cat {α : Type} {E : α → D} {xs ys zs : List α} (g : Hd (catM xs ys) zs) : dCat (.lst (xs.map E)) (.lst (ys.map E)) = some (zs.map E) := by
  rw [← g.eq]
  show (if _ then _ else _) = _
  rw [List.length_map, List.length_map, if_pos (show xs.length + ys.length ≤ sizeLine from g.ok)]
  exact congrArg some (List.map_append).symm
theorem o_rep {α : Type} {E : α → D} {xs zs : List α} {k : Int} (g : Hd (repM xs k) zs) : dRep (.lst (xs.map E)) (.int k) = some (zs.map E) := by
  rw [← g.eq]
  obtain ⟨h1, h2, h3⟩ := g.ok
  show (if _ then _ else _) = _
  rw [List.length_map, if_pos ⟨h1, h2, h3⟩]
  refine congrArg some ?_
  show (List.replicate k.toNat (xs.map E)).flatten = ((List.replicate k.toNat xs).flatten).map E
  rw [List.map_flatten, List.map_replicate]
theorem o_max {xs : List Int} {v : Int} (g : Hd (maxM xs) v) : bMaxL [.lst (xs.map D.int)] = some (.int v) := by
  rw [← g.eq, x_maxL, if_neg g.ok]; rfl
theorem o_min {xs : List Int} {v : Int} (g : Hd (minM xs) v) : bMinL [.lst (xs.map D.int)] = some (.int v) := by
  rw [← g.eq, x_minL, if_neg g.ok]; rfl
theorem o_len {α : Type} {E : α → D} {xs : List α} : bLen [.lst (xs.map E)] = some (.int xs.length) := by
  rw [x_len1, List.length_map]
theorem o_lenS {xs : List Int} : bLen [.scr xs] = some (.int xs.length) := rfl
theorem o_sum {xs : List Int} : bSum [.lst (xs.map D.int)] = some (.int xs.sum) := x_sum
theorem o_all {xs : List Bool} : bAll [.lst (xs.map D.bl)] = some (.bl (xs.all id)) := x_all
theorem o_sortRev {xs : List Int} : bSortRev [.lst (xs.map D.int)] = some ((srt xs).reverse.map D.int) := by
  show (unInts (xs.map D.int)).map _ = _
  rw [unInts_map]
  rfl
theorem o_sorted {xs : List Int} : bSorted [.lst (xs.map D.int)] = some ((srt xs).map D.int) := x_sorted
theorem o_list {α : Type} {E : α → D} {xs : List α} : bList [.lst (xs.map E)] = some (xs.map E) := rfl
theorem o_repr {d : D} {z : Str} (g : Hd (reprM d) z) : bRepr [d] = some (.str z) := by
  obtain ⟨h, rfl⟩ := g
  have h : ((toPy d).bind showS).isSome = true := h
  obtain ⟨b, e⟩ := Option.isSome_iff_exists.mp h
  obtain ⟨p, e1, e2⟩ := Option.bind_eq_some_iff.mp e
  show ((toPy d).bind fun p => (showS p).map D.str) = some (.str (((toPy d).bind showS).getD ""))
  rw [e, e1]
  show (showS p).map D.str = _
  rw [e2]
  rfl
theorem o_eqS {x y : Str} : dEqS (.str x) (.str y) = some (.bl (decide (x = y))) := by
  unfold dEqS
  first | rfl | (by_cases h : x = y <;> simp [h])
theorem o_neS {x y : Str} : dNeS (.str x) (.str y) = some (.bl (!decide (x = y))) := by
  unfold dNeS
  first | rfl | (by_cases h : x = y <;> simp [h])
theorem o_index {xs : List Int} {y v : Int} (g : Hd (indexM xs y) v) : dIndex (.lst (xs.map D.int)) [.int y] = some (.int v) := by
  obtain ⟨h, rfl⟩ := g
  have h : y ∈ xs := h
  show (if _ then _ else _) = _
  have e : ∀ x : Int, eqF (D.int x) (.int y) = (x == y) := fun _ => rfl
  have hf : (xs.map D.int).all flatD = true := by
    rw [List.all_map, List.all_eq_true]
    intro x _
    rfl
  have ha : (xs.map D.int).any (fun x => eqF x (.int y)) = true := by
    rw [List.any_map, List.any_eq_true]
    exact ⟨y, h, by show (y == y) = true; simp⟩
  rw [if_pos (by rw [hf, ha]; rfl), List.findIdx_map]
  rfl
theorem ev_mr {g : D → List D → Option D} {rs : List R} {ds xs : List D} (ha : EV fa env ra e1) (hb : AV f e1 rs e2) (h1 : look e2 ra = some d) (h2 : looks e2 rs = some ds) (h3 : look e1 ra = some (.lst xs)) (h : g d ds = some z) : EV (eMr g fa f) env (.val z) e2 := by
  unfold EV AV eMr at *
  rw [ha]
  simp only [Option.bind_some]
  rw [hb]
  simp only [Option.bind_some]
  rw [h1, h2, h3]
  simp [h]
theorem x_neB {i j : Bool} : dNe (.bl i) (.bl j) = some (.bl (!decide (i = j))) := by
  unfold dNe eqD
  simp only [toPy, Option.bind_some, shaped_bool, Bool.and_self, if_true, Option.map_some, PyData.eqv]
  cases i <;> cases j <;> rfl
def gcdI (a b : Int) : Int := ((Nat.gcd a.natAbs b.natAbs : Nat) : Int)
theorem o_gcd {a b : Int} : bGcd [.int a, .int b] = some (.int (gcdI a b)) := rfl
/-- == of any values -/
def deqM (x y : D) : M Bool := ⟨(eqD x y).isSome = true, (eqD x y).getD false⟩
theorem o_eqD {x y : D} {v : Bool} (g : Hd (deqM x y) v) : dEq x y = some (.bl v) := by
  obtain ⟨h, rfl⟩ := g
  unfold dEq
  have h : (eqD x y).isSome = true := h
  obtain ⟨b, e⟩ := Option.isSome_iff_exists.mp h
  rw [e]
  show some (D.bl b) = some (.bl ((eqD x y).getD false))
  rw [e]
  rfl
theorem o_neD {x y : D} {v : Bool} (g : Hd (deqM x y) v) : dNe x y = some (.bl (!v)) := by
  obtain ⟨h, rfl⟩ := g
  unfold dNe
  have h : (eqD x y).isSome = true := h
  obtain ⟨b, e⟩ := Option.isSome_iff_exists.mp h
  rw [e]
  show some (D.bl (!b)) = some (.bl (!(eqD x y).getD false))
  rw [e]
  rfl
/-- one of several, by its number -/
def sel {α : Type} [Inhabited α] : Nat → List (M α) → M α
  | _, [] => ⟨False, default⟩
  | 0, m :: _ => m
  | k + 1, _ :: ms => sel k ms
theorem sel_nil {α : Type} [Inhabited α] {k : Nat} {d : α} {P : Prop} (h : Hd (sel k []) d) : P := by
  cases k <;> exact h.ok.elim
theorem sel_cons {α : Type} [Inhabited α] {k : Nat} {m : M α} {ms : List (M α)} {d : α} {P : Prop} (h : Hd (sel k (m :: ms)) d) (h1 : k = 0 → Hd m d → P) (h2 : ∀ j, k = j + 1 → Hd (sel j ms) d → P) : P := by
  cases k with
  | zero => exact h1 rfl h
  | succ j => exact h2 j rfl h
instance : Inhabited D := ⟨.non⟩
abbrev eF (ns : List Str) (k : Nat) : D := .fn (ns.getD k "")
/-- a value, however it is held -/
def LV (f : En → Option (R × En)) (env : En) (d : D) (e1 : En) : Prop := ∃ r, f env = some (r, e1) ∧ ∀ e, look e r = some d
theorem lv_env (h : LV fa env d e1) : LV fa env d e1 := h
theorem ev_env {r : R} (h : EV fa env r e1) : EV fa env r e1 := h
theorem lv_of {r : R} (h : EV fa env r e1) (hl : ∀ e, look e r = some d) : LV fa env d e1 := ⟨r, h, hl⟩
theorem ev_opV {g : D → D → Option D} (ha : LV fa env x e1) (hb : LV fb e1 y e2) (h : g x y = some z) : EV (eOp g fa fb) env (.val z) e2 := by
  obtain ⟨ra, h1, h2⟩ := ha
  obtain ⟨rb, h3, h4⟩ := hb
  exact ev_op h1 h3 (h2 _) (h4 _) h
theorem ev_callT {i n : Nat} {tbl : Tbl} {nm : Str} {m : En → Option Res} {rs : List R} {ds : List D} (hi : env[i]? = some (.sh (.fn nm))) (hm : tbl.lookup nm = some m) (ha : AV f env rs e1) (hl : frzs e1 rs = some (ds, e1)) (hn : ds.length = n) (h : ∃ e, m (ds.map .sh) = some (.val z e)) : EV (eCallV i n tbl f) env (.val z) e1 := by
  have q := ev_call ha hl hn h
  unfold EV eCallV at *
  rw [hi]
  simp only [hm, Option.bind_some]
  exact q
theorem ev_callTL {i n : Nat} {tbl : Tbl} {nm : Str} {m : En → Option Res} {rs : List R} {ds zs : List D} (hi : env[i]? = some (.sh (.fn nm))) (hm : tbl.lookup nm = some m) (ha : AV f env rs e1) (hl : frzs e1 rs = some (ds, e1)) (hn : ds.length = n) (h : ∃ e, m (ds.map .sh) = some (.fr zs e)) : EV (eCallV i n tbl f) env (.fr zs) e1 := by
  have q := ev_callL ha hl hn h
  unfold EV eCallV at *
  rw [hi]
  simp only [hm, Option.bind_some]
  exact q
theorem lv_callT {i n : Nat} {tbl : Tbl} {nm : Str} {m : En → Option Res} {rs : List R} {ds : List D} (hi : env[i]? = some (.sh (.fn nm))) (hm : tbl.lookup nm = some m) (ha : AV f env rs e1) (hl : frzs e1 rs = some (ds, e1)) (hn : ds.length = n) (h : ∃ e, m (ds.map .sh) = some (.val z e)) : LV (eCallV i n tbl f) env z e1 := ⟨_, ev_callT hi hm ha hl hn h, fun _ => rfl⟩
theorem lv_callTL {i n : Nat} {tbl : Tbl} {nm : Str} {m : En → Option Res} {rs : List R} {ds zs : List D} (hi : env[i]? = some (.sh (.fn nm))) (hm : tbl.lookup nm = some m) (ha : AV f env rs e1) (hl : frzs e1 rs = some (ds, e1)) (hn : ds.length = n) (h : ∃ e, m (ds.map .sh) = some (.fr zs e)) : LV (eCallV i n tbl f) env (.lst zs) e1 := ⟨_, ev_callTL hi hm ha hl hn h, fun _ => rfl⟩
theorem ev_rev {α : Type} {E : α → D} {xs : List α} (ha : EV fa env ra e1) (hx : look e1 ra = some (.lst (xs.map E))) : EV (eRev fa) env (.fr (xs.reverse.map E)) e1 := by
  unfold EV at *
  rw [x_eRev, ha]
  simp only [Option.bind_some]
  rw [hx]
  simp only [Option.bind_some, x_seq1, Option.map_some]
  rw [List.map_reverse]
def mx2 (i j : Int) : Int := if j > i then j else i
def mn2 (i j : Int) : Int := if j < i then j else i
def absI (i : Int) : Int := if i < 0 then -i else i
theorem o_max2 {i j : Int} : bMax2 [.int i, .int j] = some (.int (mx2 i j)) := rfl
theorem o_min2 {i j : Int} : bMin2 [.int i, .int j] = some (.int (mn2 i j)) := rfl
theorem o_abs {i : Int} : bAbs [.int i] = some (.int (absI i)) := rfl
theorem ev_lr1 {b : Int} {zs : List Int} (h : EV fa env (.val (.int b)) e1) (g : Hd (lrgM 0 b) zs) : EV (eLr1 fa) env (.fr (zs.map D.int)) e1 := by
  obtain ⟨⟨q1, q2, q3, q4, q5⟩, ge⟩ := g
  subst ge
  unfold EV eLr1 at *
  rw [h]
  simp only [Option.bind_some, intOf]
  rw [if_pos ⟨q1, q2, q3, q4, q5⟩, upTo_rg]
  show _ = some (R.fr ((rgI 0 b).map D.int), e1)
  unfold rgI
  rw [Int.sub_zero]
theorem ev_lr2 {a b : Int} {zs : List Int} (h : EV fa env (.val (.int a)) e1) (h' : EV fb e1 (.val (.int b)) e2) (g : Hd (lrgM a b) zs) : EV (eLr2 fa fb) env (.fr (zs.map D.int)) e2 := by
  obtain ⟨⟨q1, q2, q3, q4, q5⟩, ge⟩ := g
  subst ge
  unfold EV eLr2 at *
  rw [h]
  simp only [Option.bind_some]
  rw [h']
  simp only [Option.bind_some, intOf]
  rw [if_pos ⟨q1, q2, q3, q4, q5⟩, upTo_rg]
  rfl
theorem ev_lrD {fc : En → Option (R × En)} {e3 : En} {a b c : Int} {zs : List Int} (h : EV fa env (.val (.int a)) e1) (h' : EV fb e1 (.val (.int b)) e2) (h'' : EV fc e2 (.val (.int c)) e3) (g : Hd (dnLM a b c) zs) : EV (eLrD (aCons fa (aCons fb (aCons fc aNil)))) env (.fr (zs.map D.int)) e3 := by
  obtain ⟨⟨q0, q1⟩, ge⟩ := g
  subst ge
  unfold EV at *
  unfold eLrD
  simp only [x_aD, x_aCons, h, h', h'', Option.bind_some, x_aNil, Option.map_some, x_frzs2, x_frzs1, x_frz1]
  rw [if_pos ⟨q0, q1⟩]
  have e : downTo a (a - b).toNat = (dnI a b).map D.int := by
    unfold downTo dnI
    rw [List.map_map]
    rfl
  rw [e]
  rfl
end

/-! ### slices -/
def cutI {α : Type} (xs : List α) (lo hi : Option Int) : List α := (xs.drop (HT.sIx xs.length 0 lo)).take (HT.sIx xs.length xs.length hi - HT.sIx xs.length 0 lo)
theorem cutD_map {α : Type} {E : α → D} (xs : List α) (lo hi : Option Int) : cutD (xs.map E) lo hi = (cutI xs lo hi).map E := by
  unfold cutD cutI
  rw [List.length_map, List.map_take, List.map_drop]
def PV (f : En → Option (Option Int × En)) (env : En) (x : Option Int) (e1 : En) : Prop := f env = some (x, e1)
theorem pv_no {env : En} : PV oNone env none env := rfl
theorem pv_so {f : En → Option (R × En)} {env e1 : En} {i : Int} (h : EV f env (.val (.int i)) e1) : PV (oSome f) env (some i) e1 := by
  unfold PV oSome
  rw [show f env = _ from h]
  rfl
theorem ev_sl {α : Type} {E : α → D} {xs : List α} {lo hi : Option Int} {fe : En → Option (R × En)} {fl fh : En → Option (Option Int × En)} {env e1 e2 e3 : En} {r : R} (h : EV fe env r e1) (hl : PV fl e1 lo e2) (hh : PV fh e2 hi e3) (hz : look e3 r = some (.lst (xs.map E))) : EV (eSl fe fl fh) env (.fr ((cutI xs lo hi).map E)) e3 := by
  unfold EV PV at *
  unfold eSl
  rw [h]
  simp only [Option.bind_some]
  rw [hl]
  simp only [Option.bind_some]
  rw [hh]
  simp only [Option.bind_some]
  rw [hz]
  simp only [Option.bind_some, seqOf, Option.map_some]
  rw [cutD_map]

/-! ### statements, in the order of what follows -/
section
variable {env e1 e2 e3 : En} {fa fb fc fe fk : En → Option (R × En)} {f : En → Option (List R × En)} {F G : En → Option Out} {t u : En → Option (Bool × En)} {ra rb rc r : R} {x y z d : D} {i j : Nat} {Q : Out → Prop} {b : Bool}
def Go (F : En → Option Out) (env : En) (Q : Out → Prop) : Prop := ∃ o, F env = some o ∧ Q o
def seqQ (G : En → Option Out) (Q : Out → Prop) : Out → Prop
  | .nx e => Go G e Q
  | o => Q o
theorem g_seq (h : Go F env (seqQ G Q)) : Go (sSeq F G) env Q := by
  obtain ⟨o, h1, h2⟩ := h
  cases o with
  | nx e =>
    obtain ⟨o2, h3, h4⟩ := h2
    exact ⟨o2, by rw [x_sSeq, h1]; exact h3, h4⟩
  | rt r e => exact ⟨_, by rw [x_sSeq, h1]; rfl, h2⟩
  | bk e => exact ⟨_, by rw [x_sSeq, h1]; rfl, h2⟩
  | ct e => exact ⟨_, by rw [x_sSeq, h1]; rfl, h2⟩
  | er c e => exact ⟨_, by rw [x_sSeq, h1]; rfl, h2⟩
theorem g_next (h : Q (.nx env)) : Go sNext env Q := ⟨_, rfl, h⟩
theorem g_cont (h : Q (.ct env)) : Go sCont env Q := ⟨_, rfl, h⟩
theorem g_break (h : Q (.bk env)) : Go sBreak env Q := ⟨_, rfl, h⟩
theorem g_frz {xs : List D} (h : env[i]? = some (.ow xs)) (hs : env.set i (.sh (.lst xs)) = e1) (q : Q (.nx e1)) : Go (sFrz i) env Q := ⟨_, by unfold sFrz; rw [h], by rw [hs]; exact q⟩
theorem g_drop (hs : env.set i .un = e1) (q : Q (.nx e1)) : Go (sDrop i) env Q := ⟨_, rfl, by rw [hs]; exact q⟩
theorem g_if (hb : TV t env b e1) (h1 : b = true → Go F e1 Q) (h2 : b = false → Go G e1 Q) : Go (sIf t F G) env Q := by
  cases b with
  | true =>
    obtain ⟨o, g1, g2⟩ := h1 rfl
    exact ⟨o, by rw [x_sIf, hb]; exact g1, g2⟩
  | false =>
    obtain ⟨o, g1, g2⟩ := h2 rfl
    exact ⟨o, by rw [x_sIf, hb]; exact g1, g2⟩
theorem g_set (h : EV fe env r e1) (hs : store i r e1 = some e2) (q : Q (.nx e2)) : Go (sSet i fe) env Q :=
  ⟨.nx e2, by rw [x_sSet, h]; simp [hs], q⟩
theorem g_ret (h : EV fe env r e1) (q : Q (.rt r e1)) : Go (sRet fe) env Q := ⟨_, by rw [x_sRet, h]; rfl, q⟩
theorem g_retN (q : Q (.rt (.val .non) env)) : Go sRetN env Q := ⟨_, rfl, q⟩
theorem g_expr (h : EV fe env r e1) (q : Q (.nx e1)) : Go (sExpr fe) env Q := ⟨_, by rw [x_sExpr, h]; rfl, q⟩
theorem g_aug {g : D → D → Option D} (hi : env[i]? = some (.sh x)) (h : EV fe env r e1) (hy : look e1 r = some y) (hg : g x y = some z) (hs : e1.set i (.sh z) = e2) (q : Q (.nx e2)) : Go (sAug i g fe) env Q :=
  ⟨.nx e2, by rw [x_sAug, hi]; simp only []; rw [h]; simp only [Option.bind_some]; rw [hy]; simp only [Option.bind_some]; rw [hg, ← hs]; rfl, q⟩
theorem g_app {α : Type} {E : α → D} {xs ys : List α} {v : α} {xs0 : List D} (h0 : env[i]? = some (.ow xs0)) (h : EV fe env r e1) (hi : e1[i]? = some (.ow (xs.map E))) (hz : frz e1 r = some (E v, e1)) (g : Hd (appM xs v) ys) (hs : e1.set i (.ow (ys.map E)) = e2) (q : Q (.nx e2)) : Go (sExpr (eAppend i (aCons fe aNil))) env Q := by
  refine ⟨.nx e2, ?_, q⟩
  have hl : xs.length < 1000000 := g.ok
  rw [x_sExpr, x_append]
  simp only [x_own, h0, hi, Option.bind_some, x_aD, x_aCons, h, x_aNil, Option.map_some, x_frzs2, x_frzs1, hz, x_one]
  rw [List.length_map, if_pos hl]
  simp only [Option.map_some]
  rw [← hs, ← g.eq, show (appM xs v).val = xs ++ [v] from rfl, List.map_append]
  rfl
theorem g_ext {α : Type} {E : α → D} {xs ys zs : List α} {xs0 : List D} (h0 : env[i]? = some (.ow xs0)) (h : EV fe env r e1) (hi : e1[i]? = some (.ow (xs.map E))) (hz : frz e1 r = some (.lst (ys.map E), e1)) (g : Hd (extM xs ys) zs) (hs : e1.set i (.ow (zs.map E)) = e2) (q : Q (.nx e2)) : Go (sExpr (eExtend i (aCons fe aNil))) env Q := by
  refine ⟨.nx e2, ?_, q⟩
  have hl : xs.length + ys.length ≤ 1000000 := g.ok
  rw [x_sExpr]
  unfold eExtend
  simp only [x_own, h0, hi, Option.bind_some, x_aD, x_aCons, h, x_aNil, Option.map_some, x_frzs2, x_frzs1, hz, x_one]
  rw [List.length_map, List.length_map, if_pos hl]
  simp only [Option.map_some]
  rw [← hs, ← g.eq, show (extM xs ys).val = xs ++ ys from rfl, List.map_append]
theorem g_put {α : Type} {E : α → D} {xs zs : List α} {v : α} {k : Int} {xs0 : List D} (h : EV fe env r e1) (hz : frz e1 r = some (E v, e1)) (h0 : e1[i]? = some (.ow (xs.map E))) (hk : EV fk e1 (.val (.int k)) e1) (g : Hd (setM xs k v) zs) (hs : e1.set i (.ow (zs.map E)) = e2) (q : Q (.nx e2)) : Go (sPut i fe fk) env Q := by
  refine ⟨.nx e2, ?_, q⟩
  rw [x_sPut]
  simp only [h, Option.bind_some, hz, x_own, h0, hk]
  rw [List.length_map, ixN_of g.ok]
  simp only [Option.map_some]
  rw [← hs, ← g.eq]
  show some (Out.nx (e1.set i (.ow ((xs.map E).set _ (E v))))) = some (Out.nx (e1.set i (.ow ((setI xs k v).map E))))
  unfold setI
  rw [List.map_set]
theorem g_putAug {α : Type} [Inhabited α] {E : α → D} {xs zs : List α} {g : D → D → Option D} {v0 v : α} {k : Int} (hi : env[i]? = some (.ow (xs.map E))) (hk : EV fk env (.val (.int k)) env) (g0 : Hd (getM xs k) v0) (h : EV fe env r env) (hy : look env r = some y) (hw : g (E v0) y = some (E v)) (g1 : Hd (setM xs k v) zs) (hs : env.set i (.ow (zs.map E)) = e2) (q : Q (.nx e2)) : Go (sPutAug i g fk fe) env Q := by
  refine ⟨.nx e2, ?_, q⟩
  have e0 : getI xs k = v0 := g0.eq
  rw [x_sPutAug]
  simp only [x_own, hi, Option.bind_some, hk]
  rw [atI_get g0.ok, e0]
  simp only [Option.bind_some, h, hy, hw, x_own, hi]
  rw [List.length_map, ixN_of g0.ok]
  simp only [Option.map_some]
  rw [← hs, ← g1.eq]
  show some (Out.nx (env.set i (.ow ((xs.map E).set _ (E v))))) = some (Out.nx (env.set i (.ow ((setI xs k v).map E))))
  unfold setI
  rw [List.map_set]
theorem g_asg {h' : D → En → Option En} (h : EV fe env r e1) (hz : frz e1 r = some (d, e1)) (ht : h' d e1 = some e2) (q : Q (.nx e2)) : Go (sAsg fe h') env Q :=
  ⟨.nx e2, by rw [x_sAsg, h]; simp [hz, ht], q⟩
theorem g_par {r1 r2 : R} (h : AV f env [r1, r2] e1) (hs : sPar i j (fun e => some ([r1, r2], e)) e1 = some (.nx e2)) (q : Q (.nx e2)) : Go (sPar i j f) env Q :=
  ⟨_, by rw [← hs]; unfold sPar; rw [h], q⟩
theorem g_par3 {l : Nat} {r1 r2 r3 : R} (h : AV f env [r1, r2, r3] e1) (hs : sPar3 i j l (fun e => some ([r1, r2, r3], e)) e1 = some (.nx e2)) (q : Q (.nx e2)) : Go (sPar3 i j l f) env Q :=
  ⟨_, by rw [← hs]; unfold sPar3; rw [h], q⟩
theorem g_tgt {h' : D → En → Option En} (ht : h' d env = some e1) (q : Go F e1 Q) : Go (fun e => (h' d e).bind F) env Q := by
  obtain ⟨o, g1, g2⟩ := q
  exact ⟨o, by show (h' d env).bind F = _; rw [ht]; exact g1, g2⟩
def NQ {σ J : Type} (shape : σ → J → En) (r : σ) (o : Out) : Prop := ∃ j, o = .nx (shape r j) ∨ o = .ct (shape r j)
theorem nq_nx {σ J : Type} {shape : σ → J → En} {r : σ} {e : En} (j : J) (h : e = shape r j) : NQ shape r (.nx e) := ⟨j, .inl (by rw [h])⟩
theorem nq_ct {σ J : Type} {shape : σ → J → En} {r : σ} {e : En} (j : J) (h : e = shape r j) : NQ shape r (.ct e) := ⟨j, .inr (by rw [h])⟩
def JQ {σ J : Type} (shape : σ → J → En) (r : σ) (o : Out) : Prop := ∃ j, o = .nx (shape r j)
theorem jq_nx {σ J : Type} {shape : σ → J → En} {r : σ} {e : En} (j : J) (h : e = shape r j) : JQ shape r (.nx e) := ⟨j, by rw [h]⟩
/-- a loop without ways out -/
theorem g_for {α σ J : Type} {fi : En → Option (List D × En)} {tgt : D → En → Option En} {body : En → Option Out} {E : α → D} (shape : σ → J → En) {xs : List α} {s0 w : σ} (j0 : J) {st : σ → α → M σ}
    (h : Hd (forM st s0 xs) w) (hi : fi env = some (xs.map E, e1)) (h0 : e1 = shape s0 j0)
    (hst : ∀ s x j r, Hd (st s x) r → Go (fun e => (tgt (E x) e).bind body) (shape s j) (NQ shape r))
    (hk : ∀ j, Q (.nx (shape w j))) : Go (sFor fi tgt body) env Q := by
  have go : ∀ (xs : List α) (s : σ) (j : J) (r : σ), Hd (forM st s xs) r → ∃ j', loopS tgt body (xs.map E) (shape s j) = some (.nx (shape r j')) := by
    intro xs
    induction xs with
    | nil =>
      intro s j r h
      have e : s = r := h.eq
      subst e
      exact ⟨j, rfl⟩
    | cons x xs ih =>
      intro s j r h
      have h : Hd (bd (st s x) fun s' => forM st s' xs) r := h
      obtain ⟨o, g1, j1, g2⟩ := hst s x j _ (hb0 h)
      obtain ⟨j2, g3⟩ := ih _ j1 _ (hb2 h)
      refine ⟨j2, ?_⟩
      have g1 : (tgt (E x) (shape s j)).bind body = some o := g1
      obtain ⟨e1, g4, g5⟩ := Option.bind_eq_some_iff.mp g1
      show (tgt (E x) (shape s j)).bind _ = _
      rw [g4]
      show (body e1).bind _ = _
      rw [g5]
      rcases g2 with rfl | rfl
      · exact g3
      · exact g3
  obtain ⟨j1, g⟩ := go xs s0 j0 _ h
  refine ⟨.nx (shape _ j1), ?_, hk j1⟩
  rw [x_sFor, hi]
  show loopS tgt body (xs.map E) e1 = _
  rw [← h0] at g
  exact g
/-- .. with ways out -/
def LQ {ρ σ J : Type} (shape : σ → J → En) (Qr : ρ → Out → Prop) (o : Out) : Fl ρ σ → Prop
  | .go s => ∃ j, o = .nx (shape s j) ∨ o = .ct (shape s j)
  | .brk s => ∃ j, o = .bk (shape s j)
  | .out v => Qr v o ∧ ∃ r e, o = .rt r e
theorem lq_nx {ρ σ J : Type} {shape : σ → J → En} {Qr : ρ → Out → Prop} {r : σ} {e : En} (j : J) (h : e = shape r j) : LQ shape Qr (.nx e) (.go r) := ⟨j, .inl (by rw [h])⟩
theorem lq_ct {ρ σ J : Type} {shape : σ → J → En} {Qr : ρ → Out → Prop} {r : σ} {e : En} (j : J) (h : e = shape r j) : LQ shape Qr (.ct e) (.go r) := ⟨j, .inr (by rw [h])⟩
theorem lq_bk {ρ σ J : Type} {shape : σ → J → En} {Qr : ρ → Out → Prop} {r : σ} {e : En} (j : J) (h : e = shape r j) : LQ shape Qr (.bk e) (.brk r) := ⟨j, by rw [h]⟩
theorem lq_rt {ρ σ J : Type} {shape : σ → J → En} {Qr : ρ → Out → Prop} {v : ρ} {r : R} {e : En} (q : Qr v (.rt r e)) : LQ shape Qr (.rt r e) (.out v) := ⟨q, r, e, rfl⟩
theorem lq_out {ρ σ J : Type} {shape : σ → J → En} {Qr : ρ → Out → Prop} {v : ρ} {o : Out} (q : Qr v o) (i : ∃ r e, o = .rt r e) : LQ shape Qr o (.out v) := ⟨q, i⟩
theorem g_forX {α σ J ρ : Type} {fi : En → Option (List D × En)} {tgt : D → En → Option En} {body : En → Option Out} {E : α → D} (shape : σ → J → En) {xs : List α} {s0 : σ} (j0 : J) {st : σ → α → M (Fl ρ σ)} {w : Fl ρ σ} (Qr : ρ → Out → Prop)
    (h : Hd (forX st s0 xs) w) (hi : fi env = some (xs.map E, e1)) (h0 : e1 = shape s0 j0)
    (hst : ∀ s x j r, Hd (st s x) r → Go (fun e => (tgt (E x) e).bind body) (shape s j) (fun o => LQ shape Qr o r))
    (hk : ∀ s j, w = .go s → Q (.nx (shape s j))) (hr : ∀ v o, w = .out v → Qr v o → (∃ r e, o = .rt r e) → Q o) : Go (sFor fi tgt body) env Q := by
  have go : ∀ (xs : List α) (s : σ) (j : J) (r : Fl ρ σ), Hd (forX st s xs) r → ∃ o, loopS tgt body (xs.map E) (shape s j) = some o ∧ match r with
      | .go s' => ∃ j', o = .nx (shape s' j')
      | .brk s' => False
      | .out v => Qr v o ∧ ∃ r e, o = .rt r e := by
    intro xs
    induction xs with
    | nil =>
      intro s j r h
      have e : Fl.go s = r := h.eq
      subst e
      exact ⟨_, rfl, j, rfl⟩
    | cons x xs ih =>
      intro s j r h
      have h : Hd (bd (st s x) _) r := h
      obtain ⟨o, g1, g2⟩ := hst s x j _ (hb0 h)
      have h2 := hb2 h
      have g1 : (tgt (E x) (shape s j)).bind body = some o := g1
      obtain ⟨e1, g4, g5⟩ := Option.bind_eq_some_iff.mp g1
      have un : ∀ o', (match o with
        | .nx e2 => loopS tgt body (xs.map E) e2
        | .ct e2 => loopS tgt body (xs.map E) e2
        | .bk e2 => some (.nx e2)
        | o => some o) = some o' → loopS tgt body ((x :: xs).map E) (shape s j) = some o' := fun o' q => by
        show (tgt (E x) (shape s j)).bind _ = _
        rw [g4]
        show (body e1).bind _ = _
        rw [g5]
        exact q
      revert g2 h2
      generalize (st s x).val = fl
      intro g2 h2
      cases fl with
      | go s' =>
        obtain ⟨j', g2⟩ := g2
        obtain ⟨o2, g6, g7⟩ := ih s' j' r h2
        refine ⟨o2, un o2 ?_, g7⟩
        rcases g2 with rfl | rfl
        · exact g6
        · exact g6
      | brk s' =>
        obtain ⟨j', rfl⟩ := g2
        have e : Fl.go s' = r := h2.eq
        subst e
        exact ⟨_, un _ rfl, j', rfl⟩
      | out v =>
        obtain ⟨g2, r', e', rfl⟩ := g2
        have e : Fl.out v = r := h2.eq
        subst e
        exact ⟨_, un _ rfl, g2, r', e', rfl⟩
  obtain ⟨o, g, q⟩ := go xs s0 j0 _ h
  rw [← h0] at g
  refine ⟨o, by rw [x_sFor, hi]; exact g, ?_⟩
  cases w with
  | go s =>
    obtain ⟨j', rfl⟩ := q
    exact hk s j' rfl
  | brk s => exact q.elim
  | out v => exact hr v o rfl q.1 q.2
theorem g_while {σ J : Type} {fuel : Nat} {t : En → Option (Bool × En)} {body : En → Option Out} (shape : σ → J → En) {s0 w : σ} (j0 : J) {tm : σ → M Bool} {st : σ → M σ}
    (h : Hd (whileM tm st fuel s0) w) (h0 : env = shape s0 j0)
    (ht : ∀ s j r, Hd (tm s) r → TV t (shape s j) r (shape s j))
    (hst : ∀ s j r, Hd (st s) r → Go body (shape s j) (NQ shape r))
    (hk : ∀ j, Q (.nx (shape w j))) : Go (sWhile fuel t body) env Q := by
  have go : ∀ (n : Nat) (s : σ) (j : J) (r : σ), Hd (whileM tm st n s) r → ∃ j', loopW t body n (shape s j) = some (.nx (shape r j')) := by
    intro n
    induction n with
    | zero => intro s j r h; exact h.ok.elim
    | succ n ih =>
      intro s j r h
      have h : Hd (bd (tm s) _) r := h
      have g := ht s j _ (hb0 h)
      have h2 := hb2 h
      revert g h2
      generalize (tm s).val = bb
      intro g h2
      cases bb with
      | false =>
        have e : s = r := h2.eq
        subst e
        exact ⟨j, by unfold loopW; rw [g]; rfl⟩
      | true =>
        have h2 : Hd (bd (st s) _) r := h2
        obtain ⟨o, g1, j1, g2⟩ := hst s j _ (hb0 h2)
        obtain ⟨j2, g3⟩ := ih _ j1 _ (hb2 h2)
        refine ⟨j2, ?_⟩
        unfold loopW
        rw [g]
        show (body _).bind _ = _
        rw [g1]
        rcases g2 with rfl | rfl
        · exact g3
        · exact g3
  obtain ⟨j1, g⟩ := go fuel s0 j0 _ h
  refine ⟨.nx (shape _ j1), ?_, hk j1⟩
  rw [← h0] at g
  exact g
/-- both branches go on -/
theorem g_ifj {σ J : Type} (shape : σ → J → En) {mA mB : M σ} {w : σ} (h : Hd (cnd b mA mB) w) (hb : TV t env b e1)
    (h1 : ∀ s, Hd mA s → Go F e1 (JQ shape s)) (h2 : ∀ s, Hd mB s → Go G e1 (JQ shape s))
    (hk : ∀ j, Q (.nx (shape w j))) : Go (sIf t F G) env Q := by
  refine g_if hb (fun e => ?_) (fun e => ?_)
  · obtain ⟨o, g1, j, rfl⟩ := h1 _ (cnd_t h e)
    exact ⟨_, g1, hk j⟩
  · obtain ⟨o, g1, j, rfl⟩ := h2 _ (cnd_f h e)
    exact ⟨_, g1, hk j⟩

/-! ### comprehensions -/
/-- elements with what must hold -/
theorem ev_lcM {α β : Type} {vs : List Nat} {fi : En → Option (List D × En)} {tgt : D → En → Option En} {test : En → Option (Bool × En)} {elt : En → Option (R × En)} {E : α → D} {E' : β → D} {xs : List α} {p : α → M Bool} {g : α → M β} {ys : List β} (e0 : En)
    (h : Hd (filM p g xs) ys) (hi : fi env = some (xs.map E, e2)) (hl : xs.length < 1000000) (hp : plainAt e2 vs = true) (hw : wipeE e2 vs = e0) (hbk : back e2 e0 vs = e2)
    (hs : ∀ x, x ∈ xs → ∃ e1, tgt (E x) e0 = some e1 ∧ (∀ b, Hd (p x) b → TV test e1 b e1) ∧ (∀ v, Hd (g x) v → ∃ r, EV elt e1 r e1 ∧ frz e1 r = some (E' v, e1)) ∧ wipeE e1 vs = e0) : EV (eLc vs fi tgt test elt) env (.fr (ys.map E')) e2 := by
  have hok : ∀ x ∈ xs, (p x).ok ∧ ((p x).val = true → (g x).ok) := h.ok
  have q := lc_pure (vs := vs) (tgt := tgt) (test := test) (elt := elt) E (fun x => if (p x).val = true then some (E' (g x).val) else none) xs e0 (fun x hx => by
    obtain ⟨e1, h1, h2, h3, h4⟩ := hs x hx
    obtain ⟨k1, k2⟩ := hok x hx
    have h2 := h2 _ (hd_of k1)
    unfold turn
    rw [h1]
    simp only [Option.bind_some]
    rw [h2]
    simp only [Option.bind_some]
    cases hp : (p x).val with
    | true =>
      obtain ⟨r, h5, h6⟩ := h3 _ (hd_of (k2 hp))
      simp [h5, h6, h4]
    | false => simp [h4])
  have e : xs.filterMap (fun x => if (p x).val = true then some (E' (g x).val) else none) = ys.map E' := by
    rw [← h.eq]
    show _ = ((xs.filter fun x => (p x).val).map fun x => (g x).val).map E'
    clear q hs hl hi hok h
    induction xs with
    | nil => rfl
    | cons x xs ih =>
      cases hp : (p x).val with
      | true => simp [hp, ih]
      | false => simp [hp, ih]
  unfold EV eLc
  rw [hi]
  simp only [Option.bind_some]
  rw [List.length_map, if_pos ⟨hl, hp⟩, hw, q, e]
  simp [hbk]
theorem ev_lcm {α β : Type} {vs : List Nat} {fi : En → Option (List D × En)} {tgt : D → En → Option En} {elt : En → Option (R × En)} {E : α → D} {E' : β → D} {xs : List α} {g : α → M β} {ys : List β} (e0 : En)
    (h : Hd (mapM g xs) ys) (hi : fi env = some (xs.map E, e2)) (hl : xs.length < 1000000) (hp : plainAt e2 vs = true) (hw : wipeE e2 vs = e0) (hbk : back e2 e0 vs = e2)
    (hs : ∀ x, x ∈ xs → ∃ e1, tgt (E x) e0 = some e1 ∧ (∀ v, Hd (g x) v → ∃ r, EV elt e1 r e1 ∧ frz e1 r = some (E' v, e1)) ∧ wipeE e1 vs = e0) : EV (eLc vs fi tgt bYes elt) env (.fr (ys.map E')) e2 := by
  refine ev_lcM (p := fun _ => pr true) (g := g) e0 ⟨fun x hx => ⟨trivial, fun _ => h.ok x hx⟩, ?_⟩ hi hl hp hw hbk (fun x hx => ?_)
  · rw [← h.eq]
    show (xs.filter fun _ => true).map _ = _
    rw [show (xs.filter fun _ => true) = xs by simp]
    rfl
  · obtain ⟨e1, h1, h2, h3⟩ := hs x hx
    exact ⟨e1, h1, fun b hb => by rw [← hb.eq]; rfl, h2, h3⟩
theorem hd_map {α β : Type} {g : α → β} {xs : List α} : Hd (mapM (fun x => pr (g x)) xs) (xs.map g) := ⟨fun _ _ => trivial, rfl⟩
theorem hd_fil {α β : Type} {p : α → Bool} {g : α → β} {xs : List α} : Hd (filM (fun x => pr (p x)) (fun x => pr (g x)) xs) ((xs.filter p).map g) := ⟨fun _ _ => ⟨trivial, fun _ => trivial⟩, rfl⟩
/-- elements that change own lists -/
theorem ev_lcS {α β σ : Type} {vs : List Nat} {fi : En → Option (List D × En)} {tgt : D → En → Option En} {elt : En → Option (R × En)} {E : α → D} {E' : β → D} {xs : List α} {st : σ → α → M (β × σ)} {s0 : σ} {z : List β × σ} (shape : σ → En)
    (h : Hd (lcS st s0 xs) z) (hi : fi env = some (xs.map E, e2)) (hl : xs.length < 1000000) (hp : plainAt e2 vs = true) (hw : wipeE e2 vs = shape s0)
    (hs : ∀ s x w, Hd (st s x) w → ∃ e1 r e2 e3, tgt (E x) (shape s) = some e1 ∧ EV elt e1 r e2 ∧ frz e2 r = some (E' w.1, e3) ∧ wipeE e3 vs = shape w.2) (hbk : back e2 (shape z.2) vs = e1) : EV (eLc vs fi tgt bYes elt) env (.fr (z.1.map E')) e1 := by
  have go : ∀ (xs : List α) (s : σ) (acc : List D) (z : List β × σ), Hd (lcS st s xs) z → lcF vs tgt bYes elt (xs.map E) (shape s) acc = some (acc ++ z.1.map E', shape z.2) := by
    intro xs
    induction xs with
    | nil =>
      intro s acc z h
      have e : (([] : List β), s) = z := h.eq
      subst e
      show some (acc, shape s) = _
      simp
    | cons x xs ih =>
      intro s acc z h
      have h : Hd (bd (st s x) fun a => bd (lcS st a.2 xs) fun c => pr (a.1 :: c.1, c.2)) z := h
      obtain ⟨e1, r, e2, e3, g1, g2, g3, g4⟩ := hs s x _ (hb0 h)
      have h2 := hb2 h
      have i := ih _ (acc ++ [E' (st s x).val.1]) _ (hb0 h2)
      have h3 : ((st s x).val.1 :: (lcS st (st s x).val.2 xs).val.1, (lcS st (st s x).val.2 xs).val.2) = z := (hb2 h2).eq
      subst h3
      show (tgt (E x) (shape s)).bind _ = _
      rw [g1]
      show (elt e1).bind _ = _
      rw [g2]
      show (frz e2 r).bind _ = _
      rw [g3]
      show lcF vs tgt bYes elt (xs.map E) (wipeE e3 vs) _ = _
      rw [g4]
      show lcF vs tgt bYes elt (xs.map E) _ (acc ++ [E' (st s x).val.1]) = _
      rw [i]
      simp
  unfold EV eLc
  rw [hi]
  simp only [Option.bind_some]
  rw [List.length_map, if_pos ⟨hl, hp⟩, hw, go xs s0 [] z h]
  simp [hbk]
theorem i_seq {α : Type} {E : α → D} {xs : List α} (h : EV fe env r e1) (hz : frz e1 r = some (.lst (xs.map E), e1)) : iSeq fe env = some (xs.map E, e1) := by
  rw [x_iSeq, h]
  simp only [Option.bind_some]
  rw [hz]
  rfl
theorem i_seqS {xs : List Int} (h : EV fe env (.val (.scr xs)) e1) : iSeq fe env = some (xs.map D.int, e1) := by
  rw [x_iSeq, h]
  rfl
theorem i_tup {α : Type} {E : α → D} {xs : List α} {ds : List D} (h : EV fe env (.val (.tup ds)) e1) (e : ds = xs.map E) : iTupF fe env = some (xs.map E, e1) := by
  rw [x_iTupF, h, e]
  rfl
theorem i_r1 {b : Int} {zs : List Int} (h : EV fe env (.val (.int b)) e1) (g : Hd (rgM 0 b) zs) : iR1 (aCons fe aNil) env = some (zs.map D.int, e1) := by
  obtain ⟨⟨q1, q2, q3, q4⟩, ge⟩ := g
  subst ge
  rw [x_iR1]
  simp only [x_aD, x_aCons, h, Option.bind_some, x_aNil, Option.map_some, x_frzs2, x_frzs1, x_frz1]
  rw [if_pos ⟨q3, q4⟩, upTo_rg]
  show _ = some ((rgI 0 b).map D.int, e1)
  unfold rgI
  rw [Int.sub_zero]
theorem i_r2 {a b : Int} {zs : List Int} (h : EV fa env (.val (.int a)) e1) (h' : EV fb e1 (.val (.int b)) e2) (g : Hd (rgM a b) zs) : iR2 (aCons fa (aCons fb aNil)) env = some (zs.map D.int, e2) := by
  rw [x_iR2]
  simp only [x_aD, x_aCons, h, h', Option.bind_some, x_aNil, Option.map_some, x_frzs2, x_frzs1, x_frz1]
  obtain ⟨⟨q1, q2, q3, q4⟩, ge⟩ := g
  subst ge
  rw [if_pos ⟨q1, q2, q3, q4⟩, upTo_rg]
  rfl
theorem i_r3 {a b c : Int} {zs : List Int} (h : EV fa env (.val (.int a)) e1) (h' : EV fb e1 (.val (.int b)) e2) (h'' : EV fc e2 (.val (.int c)) e3) (g : Hd (dnM a b c) zs) : iR3 (aCons fa (aCons fb (aCons fc aNil))) env = some (zs.map D.int, e3) := by
  obtain ⟨⟨q0, q1, q2, q3, q4⟩, ge⟩ := g
  subst ge
  unfold iR3
  simp only [x_aD, x_aCons, h, h', h'', Option.bind_some, x_aNil, Option.map_some, x_frzs2, x_frzs1, x_frz1]
  rw [if_pos ⟨q0, q1, q2, q3, q4⟩]
  have e : downTo a (a - b).toNat = (dnI a b).map D.int := by
    unfold downTo dnI
    rw [List.map_map]
    rfl
  rw [e]
  rfl
def enumL {α : Type} (xs : List α) : List (Int × α) := (xs.zipIdx 0).map fun p => ((p.2 : Int), p.1)
theorem enumD_map {α : Type} {E : α → D} : ∀ (k : Nat) (xs : List α), enumD k (xs.map E) = ((xs.zipIdx k).map fun p => ((p.2 : Int), p.1)).map fun q : Int × α => .tup [.int q.1, E q.2]
  | _, [] => rfl
  | k, x :: xs => by
    show _ :: enumD (k + 1) (xs.map E) = _
    rw [enumD_map (k + 1) xs]
    rfl
theorem i_enum {α : Type} {E : α → D} {xs : List α} (h : EV fe env r e1) (hz : frz e1 r = some (.lst (xs.map E), e1)) : iEnumF (aCons fe aNil) env = some ((enumL xs).map (fun q : Int × α => .tup [.int q.1, E q.2]), e1) := by
  rw [x_iEnumF]
  simp only [x_aD, x_aCons, h, Option.bind_some, x_aNil, Option.map_some, x_frzs2, x_frzs1, hz, x_seq1]
  rw [enumD_map]
  rfl
theorem zipD_map {α β : Type} {E : α → D} {E' : β → D} : ∀ (xs : List α) (ys : List β), zipD (xs.map E) (ys.map E') = (xs.zip ys).map fun q : α × β => .tup [E q.1, E' q.2]
  | [], ys => by simp [zipD]
  | x :: xs, [] => by simp [zipD]
  | x :: xs, y :: ys => by
    show _ :: zipD (xs.map E) (ys.map E') = _
    rw [zipD_map xs ys]
    rfl
theorem i_zip {α β : Type} {E : α → D} {E' : β → D} {xs : List α} {ys : List β} (h : EV fa env ra e1) (h' : EV fb e1 rb e1) (hz : frz e1 ra = some (.lst (xs.map E), e1)) (hz' : frz e1 rb = some (.lst (ys.map E'), e1)) : iZipF (aCons fa (aCons fb aNil)) env = some ((xs.zip ys).map (fun q : α × β => .tup [E q.1, E' q.2]), e1) := by
  rw [x_iZipF]
  simp only [x_aD, x_aCons, h, h', Option.bind_some, x_aNil, Option.map_some, x_frzs2, x_frzs1, hz, hz', x_seq1]
  rw [zipD_map]
abbrev eL {α : Type} (E : α → D) (xs : List α) : D := .lst (xs.map E)
abbrev eT2 {α β : Type} (E : α → D) (E' : β → D) (p : α × β) : D := .tup [E p.1, E' p.2]
abbrev eT3 {α β γ : Type} (E : α → D) (E' : β → D) (E'' : γ → D) (p : α × β × γ) : D := .tup [E p.1, E' p.2.1, E'' p.2.2]
theorem o_sortP {ps : List (Int × Int)} : bSortP [.lst (ps.map (eT2 D.int D.int))] = some ((srtP ps).map (eT2 D.int D.int)) := by
  show (unPairs (ps.map pairD)).map _ = _
  rw [unPairs_map]
  rfl
def eO {α : Type} (E : α → D) : Option α → D
  | none => .non
  | some a => E a

def dmM (i j : Int) : M (Int × Int) := ⟨CDivP i j, (i / j, i % j)⟩
theorem o_divmod {i j : Int} {v : Int × Int} (g : Hd (dmM i j) v) : bDivmod [.int i, .int j] = some (eT2 D.int D.int v) := by
  obtain ⟨h, rfl⟩ := g
  have h : CDivP i j := h
  show (if CDivP i j then some (D.tup [.int (i / j), .int (i % j)]) else none) = _
  rw [if_pos h]
  rfl
def lenSetM (xs : List Int) : M Int := ⟨xs.Nodup ∧ xs.length ≤ 4000, xs.length⟩
theorem ev_lenSet {f : En → Option (R × En)} {env e1 : En} {r : R} {xs : List Int} {v : Int} (h : EV f env r e1) (hz : look e1 r = some (.lst (xs.map D.int))) (g : Hd (lenSetM xs) v) : EV (eLenSet f) env (.val (.int v)) e1 := by
  obtain ⟨g, rfl⟩ := g
  have g : xs.Nodup ∧ xs.length ≤ 4000 := g
  unfold EV at *
  unfold eLenSet
  rw [h]
  simp only [Option.bind_some]
  rw [hz]
  show ((unInts (xs.map D.int)).bind fun ns => if ns.Nodup ∧ ns.length ≤ 4000 then some (R.val (.int ns.length), e1) else none) = _
  rw [unInts_map]
  show (if xs.Nodup ∧ xs.length ≤ 4000 then some (R.val (.int xs.length), e1) else none) = _
  rw [if_pos g]
  rfl
/-- in, not in of any values -/
def inDM (x y : D) : M Bool := ⟨(inD x y).isSome = true, (inD x y).getD false⟩
theorem inDM_eq {x y : D} {v : Bool} (g : Hd (inDM x y) v) : inD x y = some v := by
  obtain ⟨h, rfl⟩ := g
  have h : (inD x y).isSome = true := h
  obtain ⟨b, e⟩ := Option.isSome_iff_exists.mp h
  show _ = some ((inD x y).getD false)
  rw [e]
  rfl
theorem o_inD {x y : D} {v : Bool} (g : Hd (inDM x y) v) : dInD x y = some (.bl v) := by
  unfold dInD
  rw [inDM_eq g]
  rfl
theorem o_niD {x y : D} {v : Bool} (g : Hd (inDM x y) v) : dNotInD x y = some (.bl (!v)) := by
  unfold dNotInD
  rw [inDM_eq g]
  rfl
/-! ### what may be None; in, not in -/
def optM {α : Type} [Inhabited α] (x : Option α) : M α := ⟨x.isSome = true, x.getD default⟩
theorem ev_opt {f : En → Option (R × En)} {env e1 : En} {x : Option Int} {v : Int} (h : EV f env (.val (eO D.int x)) e1) (g : Hd (optM x) v) : EV f env (.val (D.int v)) e1 := by
  obtain ⟨g1, g2⟩ := g
  cases x with
  | none => cases g1
  | some a => cases g2; exact h
theorem o_eqO {x : Option Int} {i : Int} : dEq (eO D.int x) (.int i) = some (.bl (decide (x = some i))) := by
  cases x with
  | none =>
    have hs : SeqAt.shaped .none = true := by
      unfold SeqAt.shaped
      simp [PyData.canLay0, PyData.depth]
    show dEq .non (.int i) = _
    unfold dEq eqD
    simp [toPy, shaped_int, hs, PyData.eqv]
  | some a =>
    show dEq (.int a) (.int i) = _
    rw [x_eqI]
    by_cases h : a = i <;> simp [h]
theorem o_neO {x : Option Int} {i : Int} : dNe (eO D.int x) (.int i) = some (.bl (!decide (x = some i))) := by
  have h := o_eqO (x := x) (i := i)
  unfold dEq at h
  unfold dNe
  obtain ⟨b, h1, h2⟩ := Option.map_eq_some_iff.mp h
  rw [h1]
  cases h2
  rfl
theorem o_isN {x : Option Int} : dIsN (eO D.int x) .non = some (.bl x.isNone) := by cases x <;> rfl
theorem o_notN {x : Option Int} : dNotN (eO D.int x) .non = some (.bl x.isSome) := by cases x <;> rfl
theorem dIn_lst {neg : Bool} {d : D} {xs : List D} (hd : flatD d = true) (hx : xs.all flatD = true) : dIn neg d (.lst xs) = some (.bl (if neg then !xs.any (fun y => eqF y d) else xs.any fun y => eqF y d)) := by
  show (if (flatD d && xs.all flatD) = true then _ else _) = _
  rw [hd, hx]
  rfl
theorem flat_intsT (xs : List Int) : (xs.map D.int).all flatD = true := by
  rw [List.all_map, List.all_eq_true]
  exact fun _ _ => rfl
theorem any_ints (xs : List Int) (i : Int) : (xs.map D.int).any (fun y => eqF y (.int i)) = decide (i ∈ xs) := by
  rw [List.any_map, Bool.eq_iff_iff, List.any_eq_true, decide_eq_true_eq]
  constructor
  · rintro ⟨x, hx, e⟩
    have e : (x == i) = true := e
    rw [beq_iff_eq] at e
    exact e ▸ hx
  · intro h
    exact ⟨i, h, beq_self_eq_true i⟩
theorem o_inI {i : Int} {xs : List Int} : dIn false (.int i) (.lst (xs.map D.int)) = some (.bl (decide (i ∈ xs))) := by
  rw [dIn_lst rfl (flat_intsT xs), any_ints]
  rfl
theorem o_niI {i : Int} {xs : List Int} : dIn true (.int i) (.lst (xs.map D.int)) = some (.bl (!decide (i ∈ xs))) := by
  rw [dIn_lst rfl (flat_intsT xs), any_ints]
  rfl
theorem flat_opts (xs : List (Option Int)) : (xs.map (eO D.int)).all flatD = true := by
  rw [List.all_map, List.all_eq_true]
  intro x _
  cases x <;> rfl
theorem any_opts (xs : List (Option Int)) (i : Int) : (xs.map (eO D.int)).any (fun y => eqF y (.int i)) = decide (some i ∈ xs) := by
  rw [List.any_map, Bool.eq_iff_iff, List.any_eq_true, decide_eq_true_eq]
  constructor
  · rintro ⟨x, hx, e⟩
    cases x with
    | none => cases e
    | some a =>
      have e : (a == i) = true := e
      rw [beq_iff_eq] at e
      exact e ▸ hx
  · intro h
    exact ⟨some i, h, beq_self_eq_true i⟩
theorem o_inO {i : Int} {xs : List (Option Int)} : dIn false (.int i) (.lst (xs.map (eO D.int))) = some (.bl (decide (some i ∈ xs))) := by
  rw [dIn_lst rfl (flat_opts xs), any_opts]
  rfl
theorem o_niO {i : Int} {xs : List (Option Int)} : dIn true (.int i) (.lst (xs.map (eO D.int))) = some (.bl (!decide (some i ∈ xs))) := by
  rw [dIn_lst rfl (flat_opts xs), any_opts]
  rfl

/-! ### defs -/
def OV {α : Type} (E : α → D) (r : α) (o : Out) : Prop := (∃ e, o = .rt (.val (E r)) e) ∨ (∃ i e, o = .rt (.al i) e ∧ e[i]? = some (.sh (E r))) ∨ (∃ e, o = .nx e ∧ E r = .non)
theorem m_val {α : Type} {E : α → D} {a : α} {fix : List Nat} {n k : Nat} {F : En → Option Out} {env : En} (hn : env.length = n) (h : Go F (env ++ List.replicate k .un) (OV E a)) : ∃ e, bodyM fix n k F env = some (.val (E a) e) := by
  obtain ⟨o, h1, h2⟩ := h
  unfold bodyM
  rw [if_pos hn, h1]
  rcases h2 with ⟨e, rfl⟩ | ⟨i, e, rfl, h3⟩ | ⟨e, rfl, h3⟩
  · exact ⟨_, rfl⟩
  · simp only [Option.bind_some, h3]
    exact ⟨_, rfl⟩
  · rw [h3]
    exact ⟨_, rfl⟩
theorem ov_val {α : Type} {E : α → D} {a : α} {e : En} : OV E a (.rt (.val (E a)) e) := .inl ⟨e, rfl⟩
theorem ov_al {α : Type} {E : α → D} {a : α} {e : En} {i : Nat} (h : e[i]? = some (.sh (E a))) : OV E a (.rt (.al i) e) := .inr (.inl ⟨i, e, rfl, h⟩)
theorem ov_nx {a : Unit} {e : En} : OV (fun _ : Unit => D.non) a (.nx e) := .inr (.inr ⟨e, rfl, rfl⟩)
def OF {α : Type} (n : Nat) (E : α → D) (r : List α) (o : Out) : Prop := (∃ e, o = .rt (.fr (r.map E)) e) ∨ ∃ i e, o = .rt (.al i) e ∧ e[i]? = some (.ow (r.map E)) ∧ n ≤ i
theorem of_fr {α : Type} {n : Nat} {E : α → D} {a : List α} {e : En} : OF n E a (.rt (.fr (a.map E)) e) := .inl ⟨e, rfl⟩
theorem of_al {α : Type} {n : Nat} {E : α → D} {a : List α} {e : En} {i : Nat} (h : e[i]? = some (.ow (a.map E))) (hn : n ≤ i) : OF n E a (.rt (.al i) e) := .inr ⟨i, e, rfl, h, hn⟩
theorem m_fr {α : Type} {E : α → D} {a : List α} {fix : List Nat} {n k : Nat} {F : En → Option Out} {env : En} (hn : env.length = n) (h : Go F (env ++ List.replicate k .un) (OF n E a)) : ∃ e, bodyM fix n k F env = some (.fr (a.map E) e) := by
  obtain ⟨o, h1, h2⟩ := h
  unfold bodyM
  rw [if_pos hn, h1]
  rcases h2 with ⟨e, rfl⟩ | ⟨i, e, rfl, h3, h4⟩
  · exact ⟨_, rfl⟩
  · simp only [Option.bind_some, h3, if_pos h4]
    exact ⟨_, rfl⟩
def OVo {α β : Type} (E : α → D) (E' : β → D) (r : α × List β) (o : Out) : Prop := (∃ e, o = .rt (.val (E r.1)) e ∧ e[0]? = some (.ow (r.2.map E'))) ∨ ∃ i e, o = .rt (.al i) e ∧ e[i]? = some (.sh (E r.1)) ∧ e[0]? = some (.ow (r.2.map E'))
theorem ovo_val {α β : Type} {E : α → D} {E' : β → D} {r : α × List β} {e : En} (h : e[0]? = some (.ow (r.2.map E'))) : OVo E E' r (.rt (.val (E r.1)) e) := .inl ⟨e, rfl, h⟩
theorem ovo_al {α β : Type} {E : α → D} {E' : β → D} {r : α × List β} {e : En} {i : Nat} (h0 : e[i]? = some (.sh (E r.1))) (h : e[0]? = some (.ow (r.2.map E'))) : OVo E E' r (.rt (.al i) e) := .inr ⟨i, e, rfl, h0, h⟩
theorem m_io {α β : Type} {E : α → D} {E' : β → D} {a : α × List β} {n k : Nat} {F : En → Option Out} {env : En} (hn : env.length = n + 1) (h : Go F (env ++ List.replicate k .un) (OVo E E' a)) : ∃ e, bodyM [0] (n + 1) k F env = some (.val (E a.1) (.ow (a.2.map E') :: e)) := by
  obtain ⟨o, h1, h2⟩ := h
  unfold bodyM
  rw [if_pos hn, h1]
  rcases h2 with ⟨e, rfl, h3⟩ | ⟨i, e, rfl, h3, h4⟩
  · simp only [Option.bind_some]
    rw [params_zero, h3]
    exact ⟨_, rfl⟩
  · simp only [Option.bind_some, h3]
    rw [params_zero, h4]
    exact ⟨_, rfl⟩
def OFo {α β : Type} (n : Nat) (E : α → D) (E' : β → D) (r : List α × List β) (o : Out) : Prop := (∃ e, o = .rt (.fr (r.1.map E)) e ∧ e[0]? = some (.ow (r.2.map E'))) ∨ ∃ i e, o = .rt (.al i) e ∧ e[i]? = some (.ow (r.1.map E)) ∧ n ≤ i ∧ e[0]? = some (.ow (r.2.map E'))
theorem ofo_fr {α β : Type} {n : Nat} {E : α → D} {E' : β → D} {r : List α × List β} {e : En} (h : e[0]? = some (.ow (r.2.map E'))) : OFo n E E' r (.rt (.fr (r.1.map E)) e) := .inl ⟨e, rfl, h⟩
theorem ofo_al {α β : Type} {n : Nat} {E : α → D} {E' : β → D} {r : List α × List β} {e : En} {i : Nat} (h0 : e[i]? = some (.ow (r.1.map E))) (hn : n ≤ i) (h : e[0]? = some (.ow (r.2.map E'))) : OFo n E E' r (.rt (.al i) e) := .inr ⟨i, e, rfl, h0, hn, h⟩
theorem m_ioL {α β : Type} {E : α → D} {E' : β → D} {a : List α × List β} {n k : Nat} {F : En → Option Out} {env : En} (hn : env.length = n + 1) (h : Go F (env ++ List.replicate k .un) (OFo (n + 1) E E' a)) : ∃ e, bodyM [0] (n + 1) k F env = some (.fr (a.1.map E) (.ow (a.2.map E') :: e)) := by
  obtain ⟨o, h1, h2⟩ := h
  unfold bodyM
  rw [if_pos hn, h1]
  rcases h2 with ⟨e, rfl, h3⟩ | ⟨i, e, rfl, h3, h4, h5⟩
  · simp only [Option.bind_some]
    rw [params_zero, h3]
    exact ⟨_, rfl⟩
  · simp only [Option.bind_some, h3, if_pos h4]
    rw [params_zero, h5]
    exact ⟨_, rfl⟩
end
end Vm

set_option Elab.async false
set_option linter.all false
set_option maxRecDepth 100000
set_option exponentiation.threshold 9000
/-! FA: how typed functions are reckoned: rules that make Hd. -/
namespace Vm
open PySem L2
section
variable {α β γ σ ρ : Type} {m m1 m2 : M α} {k : α → M β} {b : Bool} {a r : α} {z : β}
theorem hd_bd (a : α) (h : Hd m a) (h2 : Hd (k a) z) : Hd (bd m k) z := by
  obtain ⟨h1, rfl⟩ := h
  exact ⟨⟨h1, h2.ok⟩, h2.eq⟩
theorem hd_p : Hd (pr a) a := ⟨trivial, rfl⟩
theorem hd_pe (h : a = r) : Hd (pr a) r := ⟨trivial, h⟩
theorem hd_t (e : b = true) (h : Hd m1 a) : Hd (cnd b m1 m2) a := by subst e; exact h
theorem hd_f (e : b = false) (h : Hd m2 a) : Hd (cnd b m1 m2) a := by subst e; exact h
theorem hd_c (h1 : b = true → Hd m1 a) (h2 : b = false → Hd m2 a) : Hd (cnd b m1 m2) a := by
  cases b with
  | true => exact h1 rfl
  | false => exact h2 rfl
theorem Hd.to (h : Hd m a) (e : a = r) : Hd m r := by subst e; exact h
theorem hd_must (e : b = true) : Hd (mustM b) () := ⟨e, rfl⟩
theorem hd_short {n : Nat} (h : n < 1000000) : Hd (shortM n) () := ⟨h, rfl⟩
theorem hd_mul {i j : Int} (h : CMulA i j) : Hd (mulM i j) (i * j) := ⟨h, rfl⟩
theorem hd_fdiv {i j : Int} (h : 0 < j) (h2 : j < 2 ^ 8000) : Hd (fdivM i j) (i / j) := ⟨⟨h, h2⟩, rfl⟩
theorem hd_mod {i j : Int} (h : 0 < j) : Hd (modM i j) (i % j) := ⟨h, rfl⟩
theorem hd_pow {i j : Int} (h : CPowA i j) : Hd (powM i j) (i ^ j.toNat) := ⟨h, rfl⟩
theorem hd_get [Inhabited α] {xs : List α} {i : Int} (h : inI xs.length i) : Hd (getM xs i) (getI xs i) := ⟨h, rfl⟩
theorem hd_getN [Inhabited α] {xs : List α} {i : Nat} {v : α} (h : xs[i]? = some v) : Hd (getM xs (i : Int)) v := by
  have hl : i < xs.length := (List.getElem?_eq_some_iff.mp h).1
  refine ⟨⟨by omega, by omega⟩, ?_⟩
  show getI xs i = v
  unfold getI
  rw [if_pos (by omega), Int.toNat_natCast, List.getD_eq_getElem?_getD, h]
  rfl
theorem hd_getI [Inhabited α] {xs : List α} {i : Int} {j : Nat} {v : α} (e : i = j) (h : xs[j]? = some v) : Hd (getM xs i) v := by
  subst e; exact hd_getN h
theorem hd_set {xs : List α} {i : Int} {v : α} (h : inI xs.length i) : Hd (setM xs i v) (setI xs i v) := ⟨h, rfl⟩
theorem hd_setN {xs : List α} {i : Nat} {v : α} (h : i < xs.length) : Hd (setM xs (i : Int) v) (xs.set i v) := by
  refine ⟨⟨by omega, by omega⟩, ?_⟩
  show setI xs i v = _
  unfold setI
  rw [if_pos (by omega), Int.toNat_natCast]
theorem hd_cat {xs ys : List α} (h : xs.length + ys.length ≤ 16000) : Hd (catM xs ys) (xs ++ ys) := ⟨Nat.le_trans h (by decide), rfl⟩
theorem hd_rep {xs : List α} {k : Int} (h0 : k < 16000) (h1 : -16000 < k) (h : xs.length * k.toNat ≤ 16000) : Hd (repM xs k) (List.replicate k.toNat xs).flatten := ⟨⟨by omega, by omega, Nat.le_trans h (by decide)⟩, rfl⟩
theorem rep_one {x : α} {n : Nat} : (List.replicate n [x]).flatten = List.replicate n x := by
  induction n with
  | zero => rfl
  | succ n ih => rw [List.replicate_succ, List.flatten_cons, ih, List.replicate_succ]; rfl
theorem hd_rep1 {x : α} {n : Nat} (h : n < 16000) : Hd (repM [x] (n : Int)) (List.replicate n x) := by
  have q := hd_rep (xs := [x]) (k := (n : Int)) (by omega) (by omega) (by simp; omega)
  rw [Int.toNat_natCast, rep_one] at q
  exact q
theorem hd_max {xs : List Int} (h : xs ≠ []) : Hd (maxM xs) (maxL xs) := ⟨h, rfl⟩
theorem hd_min {xs : List Int} (h : xs ≠ []) : Hd (minM xs) (minL xs) := ⟨h, rfl⟩
theorem hd_app {xs : List α} {x : α} (h : xs.length < 1000000) : Hd (appM xs x) (xs ++ [x]) := ⟨h, rfl⟩
theorem hd_ext {xs ys : List α} (h : xs.length + ys.length ≤ 1000000) : Hd (extM xs ys) (xs ++ ys) := ⟨h, rfl⟩
/-- 0, 1 .. n - 1 -/
def rgN (n : Nat) : List Int := (List.range n).map fun i : Nat => (i : Int)
theorem rgN_length (n : Nat) : (rgN n).length = n := by unfold rgN; rw [List.length_map, List.length_range]
theorem rgN_succ (n : Nat) : rgN (n + 1) = rgN n ++ [(n : Int)] := by unfold rgN; rw [List.range_succ, List.map_append]; rfl
theorem rgN_get {n i : Nat} (h : i < n) : (rgN n)[i]? = some (i : Int) := by unfold rgN; rw [List.getElem?_map, List.getElem?_range h]; rfl
theorem mem_rgN {n : Nat} {x : Int} : x ∈ rgN n ↔ 0 ≤ x ∧ x < n := by
  unfold rgN
  rw [List.mem_map]
  constructor
  · rintro ⟨i, hi, rfl⟩
    rw [List.mem_range] at hi
    omega
  · rintro ⟨h0, h1⟩
    exact ⟨x.toNat, List.mem_range.mpr (by omega), by omega⟩
theorem hd_rg {b : Int} {n : Nat} (e : b = n) (h : n < 1000000) : Hd (rgM 0 b) (rgN n) := by
  subst e
  refine ⟨⟨by decide, by decide, by omega, by omega⟩, ?_⟩
  show rgI 0 n = rgN n
  unfold rgI rgN
  rw [Int.sub_zero, Int.toNat_natCast]
  exact List.map_congr_left fun i _ => Int.zero_add _
theorem hd_rg0 {b : Int} (h : b ≤ 0) (h2 : -1000000 < b) : Hd (rgM 0 b) [] := by
  refine ⟨⟨by decide, by decide, by omega, by omega⟩, ?_⟩
  show rgI 0 b = []
  unfold rgI
  rw [show (b - 0).toNat = 0 by omega]
  rfl
/-- a, a + 1 .. a + n - 1 -/
def rgF (a : Int) (n : Nat) : List Int := (List.range n).map fun i : Nat => a + (i : Int)
theorem hd_rg2 {a b : Int} {n : Nat} (e : b - a = n) (h0 : -1000000 < a) (h1 : a < 1000000) (h : n < 1000000) : Hd (rgM a b) (rgF a n) := by
  refine ⟨⟨by omega, by omega, by omega, by omega⟩, ?_⟩
  show rgI a b = rgF a n
  unfold rgI rgF
  rw [e, Int.toNat_natCast]
theorem hd_lrg {b : Int} {n : Nat} (e : b = n) (h : n < 1000000) : Hd (lrgM 0 b) (rgN n) := by
  subst e
  refine ⟨⟨by decide, by decide, by omega, by omega, by omega⟩, ?_⟩
  show rgI 0 n = rgN n
  unfold rgI rgN
  rw [Int.sub_zero, Int.toNat_natCast]
  exact List.map_congr_left fun i _ => Int.zero_add _
theorem hd_mapM {f : α → M β} {xs : List α} (g : α → β) (h : ∀ x ∈ xs, Hd (f x) (g x)) : Hd (mapM f xs) (xs.map g) :=
  ⟨fun x hx => (h x hx).ok, List.map_congr_left fun x hx => (h x hx).eq⟩
theorem filter_congr' {p q : α → Bool} : ∀ {xs : List α}, (∀ x ∈ xs, p x = q x) → xs.filter p = xs.filter q
  | [], _ => rfl
  | x :: xs, h => by
    rw [List.filter_cons, List.filter_cons, h x List.mem_cons_self, filter_congr' (xs := xs) fun y hy => h y (List.mem_cons_of_mem _ hy)]
theorem hd_filter {p : α → M Bool} {f : α → M β} {xs : List α} (q : α → Bool) (g : α → β) (h1 : ∀ x ∈ xs, Hd (p x) (q x)) (h2 : ∀ x ∈ xs, q x = true → Hd (f x) (g x)) : Hd (filM p f xs) ((xs.filter q).map g) := by
  refine ⟨fun x hx => ⟨(h1 x hx).ok, fun e => (h2 x hx ((h1 x hx).eq ▸ e)).ok⟩, ?_⟩
  show (xs.filter fun x => (p x).val).map (fun x => (f x).val) = _
  rw [filter_congr' (q := q) fun x hx => (h1 x hx).eq]
  refine List.map_congr_left fun x hx => ?_
  obtain ⟨m1, m2⟩ := List.mem_filter.mp hx
  exact (h2 x m1 m2).eq
/-- a loop, by what holds between turns -/
theorem hd_for {st : σ → α → M σ} {xs : List α} {s0 : σ} (I : List α → σ → Prop) (h0 : I [] s0) (hs : ∀ pre x post s, xs = pre ++ x :: post → I pre s → ∃ s', Hd (st s x) s' ∧ I (pre ++ [x]) s') : ∃ s, Hd (forM st s0 xs) s ∧ I xs s := by
  have go : ∀ (post pre : List α) (s : σ), xs = pre ++ post → I pre s → ∃ s', Hd (forM st s post) s' ∧ I xs s' := by
    intro post
    induction post with
    | nil =>
      intro pre s e i
      rw [List.append_nil] at e
      subst e
      exact ⟨s, hd_p, i⟩
    | cons x post ih =>
      intro pre s e i
      obtain ⟨s1, h1, i1⟩ := hs pre x post s e i
      obtain ⟨s2, h2, i2⟩ := ih (pre ++ [x]) s1 (by rw [e]; simp) i1
      exact ⟨s2, hd_bd s1 h1 h2, i2⟩
  exact go xs [] s0 rfl h0
theorem hd_forG {st : σ → α → M (Fl ρ σ)} {xs : List α} {s0 : σ} (I : List α → σ → Prop) (h0 : I [] s0) (hs : ∀ pre x post s, xs = pre ++ x :: post → I pre s → ∃ s', Hd (st s x) (.go s') ∧ I (pre ++ [x]) s') : ∃ s, Hd (forX st s0 xs) (.go s) ∧ I xs s := by
  have go : ∀ (post pre : List α) (s : σ), xs = pre ++ post → I pre s → ∃ s', Hd (forX st s post) (.go s') ∧ I xs s' := by
    intro post
    induction post with
    | nil =>
      intro pre s e i
      rw [List.append_nil] at e
      subst e
      exact ⟨s, hd_p, i⟩
    | cons x post ih =>
      intro pre s e i
      obtain ⟨s1, h1, i1⟩ := hs pre x post s e i
      obtain ⟨s2, h2, i2⟩ := ih (pre ++ [x]) s1 (by rw [e]; simp) i1
      exact ⟨s2, hd_bd _ h1 h2, i2⟩
  exact go xs [] s0 rfl h0
/-- over 0, 1 .. n - 1 -/
theorem hd_forR {st : σ → Int → M σ} {n : Nat} {s0 : σ} (I : Nat → σ → Prop) (h0 : I 0 s0) (hs : ∀ (i : Nat) s, i < n → I i s → ∃ s', Hd (st s (i : Int)) s' ∧ I (i + 1) s') : ∃ s, Hd (forM st s0 (rgN n)) s ∧ I n s := by
  obtain ⟨s, h1, h2⟩ := hd_for (st := st) (xs := rgN n) (s0 := s0) (fun pre s => I pre.length s) h0 (fun pre x post s e i => by
    have hl : pre.length < n := by
      have := congrArg List.length e
      rw [rgN_length, List.length_append, List.length_cons] at this
      omega
    have hx : x = (pre.length : Int) := by
      have := rgN_get hl
      rw [e] at this
      simpa using this
    subst hx
    obtain ⟨s', h1, h2⟩ := hs _ s hl i
    exact ⟨s', h1, by rw [List.length_append]; exact h2⟩)
  rw [rgN_length] at h2
  exact ⟨s, h1, h2⟩
theorem hd_forGR {st : σ → Int → M (Fl ρ σ)} {n : Nat} {s0 : σ} (I : Nat → σ → Prop) (h0 : I 0 s0) (hs : ∀ (i : Nat) s, i < n → I i s → ∃ s', Hd (st s (i : Int)) (.go s') ∧ I (i + 1) s') : ∃ s, Hd (forX st s0 (rgN n)) (.go s) ∧ I n s := by
  obtain ⟨s, h1, h2⟩ := hd_forG (st := st) (xs := rgN n) (s0 := s0) (fun pre s => I pre.length s) h0 (fun pre x post s e i => by
    have hl : pre.length < n := by
      have := congrArg List.length e
      rw [rgN_length, List.length_append, List.length_cons] at this
      omega
    have hx : x = (pre.length : Int) := by
      have := rgN_get hl
      rw [e] at this
      simpa using this
    subst hx
    obtain ⟨s', h1, h2⟩ := hs _ s hl i
    exact ⟨s', h1, by rw [List.length_append]; exact h2⟩)
  rw [rgN_length] at h2
  exact ⟨s, h1, h2⟩
/-- elements that change own lists -/
theorem hd_lcS {st : σ → α → M (β × σ)} {xs : List α} {s0 : σ} (I : List α → List β → σ → Prop) (h0 : I [] [] s0) (hs : ∀ pre x post ys s, xs = pre ++ x :: post → I pre ys s → ∃ y s', Hd (st s x) (y, s') ∧ I (pre ++ [x]) (ys ++ [y]) s') : ∃ ys s, Hd (lcS st s0 xs) (ys, s) ∧ I xs ys s := by
  have go : ∀ (post pre : List α) (ys : List β) (s : σ), xs = pre ++ post → I pre ys s → ∃ zs s', Hd (lcS st s post) (zs, s') ∧ I xs (ys ++ zs) s' := by
    intro post
    induction post with
    | nil =>
      intro pre ys s e i
      rw [List.append_nil] at e
      subst e
      exact ⟨[], s, hd_p, by rw [List.append_nil]; exact i⟩
    | cons x post ih =>
      intro pre ys s e i
      obtain ⟨y, s1, h1, i1⟩ := hs pre x post ys s e i
      obtain ⟨zs, s2, h2, i2⟩ := ih (pre ++ [x]) (ys ++ [y]) s1 (by rw [e]; simp) i1
      refine ⟨y :: zs, s2, hd_bd _ h1 (hd_bd _ h2 hd_p), ?_⟩
      rw [List.append_assoc] at i2
      exact i2
  obtain ⟨zs, s, h1, h2⟩ := go xs [] [] s0 rfl h0
  exact ⟨zs, s, h1, by simpa using h2⟩
/-- a while that ends at the first k behind which the test fails -/
theorem hd_while {t : σ → M Bool} {st : σ → M σ} (s : Nat → σ) (n : Nat) {fuel : Nat} (hf : n < fuel) (h0 : ∀ i, i < n → Hd (t (s i)) true) (h1 : ∀ i, i < n → Hd (st (s i)) (s (i + 1))) (h2 : Hd (t (s n)) false) : Hd (whileM t st fuel (s 0)) (s n) := by
  have go : ∀ (d i fuel : Nat), i + d = n → d < fuel → Hd (whileM t st fuel (s i)) (s n) := by
    intro d
    induction d with
    | zero =>
      intro i fuel e hf
      obtain ⟨f, rfl⟩ : ∃ f, fuel = f + 1 := ⟨fuel - 1, by omega⟩
      have e : i = n := e
      subst e
      exact hd_bd false h2 (hd_f rfl hd_p)
    | succ d ih =>
      intro i fuel e hf
      obtain ⟨f, rfl⟩ : ∃ f, fuel = f + 1 := ⟨fuel - 1, by omega⟩
      exact hd_bd true (h0 i (by omega)) (hd_t rfl (hd_bd _ (h1 i (by omega)) (ih (i + 1) f (by omega) (by omega))))
  exact go n 0 fuel (by omega) hf
theorem hd_s0 [Inhabited α] {ms : List (M α)} (h : Hd m a) : Hd (sel 0 (m :: ms)) a := h
theorem hd_s1 [Inhabited α] {ms : List (M α)} (h : Hd m a) : Hd (sel 1 (m1 :: m :: ms)) a := h
theorem hd_s2 [Inhabited α] {ms : List (M α)} (h : Hd m a) : Hd (sel 2 (m1 :: m2 :: m :: ms)) a := h
/-! what a typed function's value keeps -/
def Sat (m : M α) (P : α → Prop) : Prop := m.ok ∧ P m.val
theorem sat_hd {P : α → Prop} (h : Hd m a) (p : P a) : Sat m P := by
  obtain ⟨h1, rfl⟩ := h
  exact ⟨h1, p⟩
theorem Sat.ex {P : α → Prop} (h : Sat m P) : ∃ a, Hd m a ∧ P a := ⟨_, ⟨h.1, rfl⟩, h.2⟩
theorem Sat.hd (h : Sat m fun x => x = a) : Hd m a := ⟨h.1, h.2⟩
theorem Sat.mono {P Q : α → Prop} (h : Sat m P) (f : ∀ a, P a → Q a) : Sat m Q := ⟨h.1, f _ h.2⟩
theorem sat_p {P : α → Prop} (p : P a) : Sat (pr a) P := ⟨trivial, p⟩
/-- the value is known -/
theorem sb {P : β → Prop} (h : Hd m a) (f : Sat (k a) P) : Sat (bd m k) P := by
  obtain ⟨h1, rfl⟩ := h
  exact ⟨⟨h1, f.1⟩, f.2⟩
/-- something is known of it -/
theorem st {R : α → Prop} {P : β → Prop} (h : Sat m R) (f : ∀ a, R a → Sat (k a) P) : Sat (bd m k) P := ⟨⟨h.1, (f _ h.2).1⟩, (f _ h.2).2⟩
/-- nothing needs to be known -/
theorem su {P : β → Prop} (h : m.ok) (f : ∀ a, Sat (k a) P) : Sat (bd m k) P := ⟨⟨h, (f _).1⟩, (f _).2⟩
theorem sp {P : β → Prop} (f : Sat (k a) P) : Sat (bd (pr a) k) P := ⟨⟨trivial, f.1⟩, f.2⟩
theorem scc {P : α → Prop} (h1 : b = true → Sat m1 P) (h2 : b = false → Sat m2 P) : Sat (cnd b m1 m2) P := by
  cases b with
  | true => exact h1 rfl
  | false => exact h2 rfl
theorem sct {P : α → Prop} (e : b = true) (h : Sat m1 P) : Sat (cnd b m1 m2) P := by subst e; exact h
theorem scf {P : α → Prop} (e : b = false) (h : Sat m2 P) : Sat (cnd b m1 m2) P := by subst e; exact h
theorem s_for {st : σ → α → M σ} {xs : List α} {s0 : σ} {P : σ → Prop} (I : List α → σ → Prop) (h0 : I [] s0) (hs : ∀ pre x post s, xs = pre ++ x :: post → I pre s → Sat (st s x) (I (pre ++ [x]))) (hP : ∀ s, I xs s → P s) : Sat (forM st s0 xs) P := by
  obtain ⟨s, h1, h2⟩ := hd_for I h0 fun pre x post s e i => (hs pre x post s e i).ex
  exact sat_hd h1 (hP s h2)
theorem s_forG {st : σ → α → M (Fl ρ σ)} {xs : List α} {s0 : σ} {P : Fl ρ σ → Prop} (I : List α → σ → Prop) (h0 : I [] s0) (hs : ∀ pre x post s, xs = pre ++ x :: post → I pre s → Sat (st s x) (fun f => ∃ s', f = .go s' ∧ I (pre ++ [x]) s')) (hP : ∀ s, I xs s → P (.go s)) : Sat (forX st s0 xs) P := by
  obtain ⟨s, h1, h2⟩ := hd_forG (st := st) (xs := xs) (s0 := s0) I h0 fun pre x post s e i => by
    obtain ⟨f, g1, s', rfl, g2⟩ := (hs pre x post s e i).ex
    exact ⟨s', g1, g2⟩
  exact sat_hd h1 (hP s h2)
theorem s_forR {st : σ → Int → M σ} {n : Nat} {s0 : σ} {P : σ → Prop} (I : Nat → σ → Prop) (h0 : I 0 s0) (hs : ∀ (i : Nat) s, i < n → I i s → Sat (st s (i : Int)) (I (i + 1))) (hP : ∀ s, I n s → P s) : Sat (forM st s0 (rgN n)) P := by
  obtain ⟨s, h1, h2⟩ := hd_forR I h0 fun i s e h => (hs i s e h).ex
  exact sat_hd h1 (hP s h2)
theorem s_forGR {st : σ → Int → M (Fl ρ σ)} {n : Nat} {s0 : σ} {P : Fl ρ σ → Prop} (I : Nat → σ → Prop) (h0 : I 0 s0) (hs : ∀ (i : Nat) s, i < n → I i s → Sat (st s (i : Int)) (fun f => ∃ s', f = .go s' ∧ I (i + 1) s')) (hP : ∀ s, I n s → P (.go s)) : Sat (forX st s0 (rgN n)) P := by
  obtain ⟨s, h1, h2⟩ := hd_forGR (st := st) (n := n) (s0 := s0) I h0 fun i s e h => by
    obtain ⟨f, g1, s', rfl, g2⟩ := (hs i s e h).ex
    exact ⟨s', g1, g2⟩
  exact sat_hd h1 (hP s h2)
theorem s_forGx {st : σ → α → M (Fl ρ σ)} {xs : List α} {s0 : σ} (I : List α → σ → Prop) (h0 : I [] s0) (hs : ∀ pre x post s, xs = pre ++ x :: post → I pre s → Sat (st s x) (fun f => ∃ s', f = .go s' ∧ I (pre ++ [x]) s')) : Sat (forX st s0 xs) (fun f => ∃ s, f = .go s ∧ I xs s) := s_forG I h0 hs fun s i => ⟨s, rfl, i⟩
theorem s_forGRx {st : σ → Int → M (Fl ρ σ)} {n : Nat} {s0 : σ} (I : Nat → σ → Prop) (h0 : I 0 s0) (hs : ∀ (i : Nat) s, i < n → I i s → Sat (st s (i : Int)) (fun f => ∃ s', f = .go s' ∧ I (i + 1) s')) : Sat (forX st s0 (rgN n)) (fun f => ∃ s, f = .go s ∧ I n s) := s_forGR I h0 hs fun s i => ⟨s, rfl, i⟩
theorem s_lcS {st : σ → α → M (β × σ)} {xs : List α} {s0 : σ} {P : List β × σ → Prop} (I : List α → List β → σ → Prop) (h0 : I [] [] s0) (hs : ∀ pre x post ys s, xs = pre ++ x :: post → I pre ys s → Sat (st s x) (fun z => I (pre ++ [x]) (ys ++ [z.1]) z.2)) (hP : ∀ ys s, I xs ys s → P (ys, s)) : Sat (lcS st s0 xs) P := by
  obtain ⟨ys, s, h1, h2⟩ := hd_lcS (st := st) (xs := xs) (s0 := s0) I h0 fun pre x post ys s e i => by
    obtain ⟨z, g1, g2⟩ := (hs pre x post ys s e i).ex
    exact ⟨z.1, z.2, g1, g2⟩
  exact sat_hd h1 (hP ys s h2)
theorem sgo {τ : Type} {o : ρ → M τ} {k : σ → M τ} {s : σ} {P : τ → Prop} (h : Sat (k s) P) : Sat (aft (.go s) o k) P := h
theorem s_go {s : σ} {P : σ → Prop} (p : P s) : Sat (pr (Fl.go s) : M (Fl ρ σ)) (fun f => ∃ s', f = .go s' ∧ P s') := ⟨trivial, s, rfl, p⟩
theorem hd_aft {τ : Type} {o : ρ → M τ} {k : σ → M τ} {s : σ} {z : τ} (h : Hd (k s) z) : Hd (aft (.go s) o k) z := h
theorem small_mul {i j : Int} (h : -(2 ^ 64) < j ∧ j < 2 ^ 64) : CMulA i j := .inl (.inr h)
theorem small_mul' {i j : Int} (h : -(2 ^ 64) < i ∧ i < 2 ^ 64) : CMulA i j := .inl (.inl h)
theorem bits {i : Int} {n : Nat} (h : i.natAbs < 2 ^ n) : Builtin.Int.intBits i ≤ n := PySem.intBits_le_iff.mpr h
theorem big_mul {a b : Int} {p q : Nat} (h1 : a.natAbs < 2 ^ p) (h2 : b.natAbs < 2 ^ q) (h : p + q ≤ 100000) : CMulA a b := by
  refine .inr ?_
  unfold CMulX
  have := bits h1
  have := bits h2
  omega
theorem cube_ok {i : Int} (h : i.natAbs < 2 ^ 200) : CPowA i 3 := by
  refine ⟨by decide, ?_⟩
  have := bits h
  omega
theorem ten_ok {j : Int} (h0 : 0 ≤ j) (h1 : j ≤ 1000) : CPowA 10 j := by
  refine ⟨h0, ?_⟩
  have h4 : Builtin.Int.intBits 10 ≤ 4 := bits (by decide)
  have h5 : (Builtin.Int.intBits 10 : Int) ≤ 4 := by omega
  have := Int.mul_le_mul_of_nonneg_right h5 h0
  omega
theorem lt_8000 {j : Int} (h : j < 2 ^ 64) : j < 2 ^ 8000 := Int.lt_of_lt_of_le h (by
  have : (2 : Nat) ^ 64 ≤ 2 ^ 8000 := Nat.pow_le_pow_right (by decide) (by decide)
  exact_mod_cast this)
end
end Vm

set_option Elab.async false
set_option linter.all false
set_option maxRecDepth 100000
/-! VH1: what runs while an error is handled: a list's end, comprehensions, calls of a def that is told the error. -/
namespace Vm
open PySem PySem.Spec PyProof.Rows L2 Evl
section
variable {prog : Program} {w : World} {A : Around} {E : Value → Shared → Prop} {s : Shared}
/-- a list's end where an error is handled -/
theorem list_over {itr l z : Addr} {k : Nat} {its : Array Value} {Q : Option Value → Shared → Prop} (hot : HotX.HotAt A z s.heap) (st : s.heap.IsListIter itr l k) (ls : s.heap.IsList l its) (hk : its[k]? = none) (hz : z ≠ itr)
    (q : ∀ g, Heap.ExtBut itr s.heap g → Q none { s with heap := g }) : wpAny (model prog w) A (pyNext (.ref itr)) Q E s := by
  obtain ⟨io, i1, i2, i3⟩ := id st
  obtain ⟨lo, l1, l2, ln, l3⟩ := ls
  obtain ⟨hd, eo, ev, e1, e2, e3⟩ := hot
  unfold pyNext
  refine wpAny_bind (wpAny_attempt (wpAny_callSpecial?_slot (name := Str.ofString "__next__") st.typeIs slot_listiter_next (wpAny_call_entry slot_listiter_next st.typeIs entry_listiter_next ?_ (args_listiter_next _))))
  show wpAny _ _ (field (.ref itr) 0 >>= _) _ _ s
  refine wpAny_bind (wpAny_field i1 i3 (x := .ref l) rfl ?_)
  show wpAny _ _ (if (Value.ref l == Value.none) = true then _ else _) _ _ s
  rw [if_neg (show ¬ ((Value.ref l == Value.none) = true) from Bool.false_ne_true)]
  show wpAny _ _ (field (.ref itr) 1 >>= _) _ _ s
  refine wpAny_bind (wpAny_field i1 i3 (x := .int k 0) rfl ?_)
  show wpAny _ _ (seqItems? (.ref l) >>= _) _ _ s
  refine wpAny_bind (wpAny_seqItems l1 l3 ?_)
  simp only [Int.toNat_natCast, hk]
  refine wpAny_bind (wpAny_rule (wpAny_bind (wpAny_setField i1 i3 (by simp) ?_)))
  show wpAny _ _ (newExc (.type "StopIteration") [] >>= _) _ _ _
  refine wpAny_bind ?_
  simp only [newExc, newTuple]
  refine wpAny_bind (wpAny_newObj_type ?_ (by size_fits))
  refine wpAny_bind (m := firstArgMember _ _) (wpAny_of_eq (a := Value.none) (by first | rfl | (simp only [firstArgMember]; rfl)) ?_)
  refine wpAny_newObj_type ?_ (by size_fits)
  have k0 : ((s.heap.update itr (Obj.mapFields (·.setIfInBounds 0 Value.none))).push { cls := .type "tuple", data := .seq #[] }).get? z = some eo := Heap.get?_push_of_some _ ((Heap.get?_update_other s.heap (Obj.mapFields (·.setIfInBounds 0 Value.none)) (Ne.symm hz)).trans e1)
  refine HotX.raiseNew_hot ⟨hd, eo, ev, Heap.get?_push_of_some _ k0, e2, e3⟩ (Nat.ne_of_lt (Heap.lt_size k0)) (Heap.get?_push_size _ rfl) rfl (by simp; omega) ?_
  refine wpAny_bind (wpAny_isInstance (T := "StopIteration") (b := true) ⟨_, Heap.get?_update_self _ (Heap.get?_push_size _ rfl) rfl, rfl⟩ isSubtype_stop ?_)
  refine wpAny_pure (q _ fun b o hb e => ?_)
  have w1 : ((s.heap.update itr (Obj.mapFields (·.setIfInBounds 0 Value.none))).push { cls := .type "tuple", data := .seq #[] }).get? b = some o := Heap.get?_push_of_some _ ((Heap.get?_update_other s.heap _ (Ne.symm hb)).trans e)
  rw [Heap.get?_update_other _ _ (Nat.ne_of_gt (Heap.lt_size w1))]
  exact Heap.get?_push_of_some _ w1
/-- a tuple's end where an error is handled -/
theorem tuple_over {itr l z : Addr} {k : Nat} {its : Array Value} {Q : Option Value → Shared → Prop} (hot : HotX.HotAt A z s.heap) (st : IsTupIter s.heap itr l k) (ls : IsTup s.heap l its) (hk : its[k]? = none) (hz : z ≠ itr)
    (q : ∀ g, Heap.ExtBut itr s.heap g → Q none { s with heap := g }) : wpAny (model prog w) A (pyNext (.ref itr)) Q E s := by
  obtain ⟨io, i1, i2, i3⟩ := id st
  obtain ⟨lo, l1, l2, ln, l3⟩ := ls
  obtain ⟨hd, eo, ev, e1, e2, e3⟩ := hot
  unfold pyNext
  refine wpAny_bind (wpAny_attempt (wpAny_callSpecial?_slot (name := Str.ofString "__next__") st.typeIs slot_tupleiter_next (wpAny_call_entry slot_tupleiter_next st.typeIs entry_tupleiter_next ?_ (args_tupleiter_next _))))
  show wpAny _ _ (field (.ref itr) 0 >>= _) _ _ s
  refine wpAny_bind (wpAny_field i1 i3 (x := .ref l) rfl ?_)
  show wpAny _ _ (if (Value.ref l == Value.none) = true then _ else _) _ _ s
  rw [if_neg (show ¬ ((Value.ref l == Value.none) = true) from Bool.false_ne_true)]
  show wpAny _ _ (field (.ref itr) 1 >>= _) _ _ s
  refine wpAny_bind (wpAny_field i1 i3 (x := .int k 0) rfl ?_)
  show wpAny _ _ (seqItems? (.ref l) >>= _) _ _ s
  refine wpAny_bind (wpAny_seqItems l1 l3 ?_)
  simp only [Int.toNat_natCast, hk]
  refine wpAny_bind (wpAny_rule (wpAny_bind (wpAny_setField i1 i3 (by simp) ?_)))
  show wpAny _ _ (newExc (.type "StopIteration") [] >>= _) _ _ _
  refine wpAny_bind ?_
  simp only [newExc, newTuple]
  refine wpAny_bind (wpAny_newObj_type ?_ (by size_fits))
  refine wpAny_bind (m := firstArgMember _ _) (wpAny_of_eq (a := Value.none) (by first | rfl | (simp only [firstArgMember]; rfl)) ?_)
  refine wpAny_newObj_type ?_ (by size_fits)
  have k0 : ((s.heap.update itr (Obj.mapFields (·.setIfInBounds 0 Value.none))).push { cls := .type "tuple", data := .seq #[] }).get? z = some eo := Heap.get?_push_of_some _ ((Heap.get?_update_other s.heap (Obj.mapFields (·.setIfInBounds 0 Value.none)) (Ne.symm hz)).trans e1)
  refine HotX.raiseNew_hot ⟨hd, eo, ev, Heap.get?_push_of_some _ k0, e2, e3⟩ (Nat.ne_of_lt (Heap.lt_size k0)) (Heap.get?_push_size _ rfl) rfl (by simp; omega) ?_
  refine wpAny_bind (wpAny_isInstance (T := "StopIteration") (b := true) ⟨_, Heap.get?_update_self _ (Heap.get?_push_size _ rfl) rfl, rfl⟩ isSubtype_stop ?_)
  refine wpAny_pure (q _ fun b o hb e => ?_)
  have w1 : ((s.heap.update itr (Obj.mapFields (·.setIfInBounds 0 Value.none))).push { cls := .type "tuple", data := .seq #[] }).get? b = some o := Heap.get?_push_of_some _ ((Heap.get?_update_other s.heap _ (Ne.symm hb)).trans e)
  rw [Heap.get?_update_other _ _ (Nat.ne_of_gt (Heap.lt_size w1))]
  exact Heap.get?_push_of_some _ w1
/-- a tuple's items, one by one, where an error is handled -/
theorem taken_hot {z t : Addr} {items : Array Value} {Q : List Value → Shared → Prop} (hot : HotX.HotAt A z s.heap) (ht : IsTup s.heap t items)
    (q : ∀ g, Heap.ExtBut s.heap.objs.size s.heap g → Q items.toList { s with heap := g }) : wpAny (model prog w) A (unpackItems (.ref t) items.size none) Q E s := by
  have tn : t ≠ s.heap.objs.size := by
    obtain ⟨o, ho, _⟩ := ht
    exact Nat.ne_of_lt (Heap.lt_size ho)
  obtain ⟨hd, eo, ev, e1, e2, e3⟩ := hot
  have zn : z ≠ s.heap.objs.size := Nat.ne_of_lt (Heap.lt_size e1)
  unfold unpackItems
  refine wpAny_bind ?_
  unfold notIterableAtAll
  refine wpAny_bind (wpAny_specialOf ht.typeIs slot_tuple_iter.lookup (wpAny_pure ?_))
  simp only [Bool.false_eq_true, if_false]
  refine wpAny_bind (wpAny_holding (iter_tuple ht ?_))
  refine wpAny_bind (wpAny_holding (draw_tuple tn items.size 0 _ _ ⟨_, Heap.get?_push_size _ rfl, rfl, rfl⟩ (ht.push _) (by omega) fun h1 st1 sb1 => ?_))
  have whole : List.take items.size (List.drop 0 items.toList) = items.toList := by
    rw [List.drop_zero]
    exact List.take_of_length_le (by simp)
  rw [whole, if_neg (by simp)]
  have z1 : h1.get? z = some eo := sb1.extBut z eo zn (Heap.get?_push_of_some _ e1)
  refine wpAny_bind (wpAny_holding (tuple_over (s := { s with heap := h1 }) ⟨hd, eo, ev, z1, e2, e3⟩ st1 ((ht.push _).extBut sb1.extBut tn) (by simp) zn fun h2 x2 => ?_))
  simp only [Option.isSome_none, Bool.false_eq_true, if_false]
  exact wpAny_pure (q h2 fun b o hb e => x2 b o hb (sb1.extBut b o hb (Heap.get?_push_of_some _ e)))
end
/-! a comprehension over a list, where the error of the pin z is handled -/
section
variable {X : Cx} {pins : List (Addr × Obj)} {σ : L2.St} {H : Hp} {s : Shared}
/-- a comprehension's block, where the pin z stays known -/
abbrev blkH (X : Cx) (z : Addr × Obj) (s : Shared) (H : Hp) (scope : Scope) (cenv : Env) (fp : List Addr) : Cx := { X with s_0 := s, H_0 := H, env := cenv, outer := X.stack, ex := fp, fn := fun x => scope.names.lookup x == some .cell, pn := [z], xe := fun _ _ => False }
/-- the pin of the error that is handled -/
def PinH (X : Cx) (z : Addr × Obj) : Prop := L2H.Hot1 X.A z ∧ z ∈ X.pn
theorem PinH.at {z : Addr × Obj} (p : PinH X z) (I : Inv X pins σ H s) : s.heap.get? z.1 = some z.2 ∧ H z.1 = none ∧ z.1 ≠ X.env.locals ∧ z.1 ∉ X.fs ∧ ∀ v, z.2.data ≠ .cell v := I.pin z (List.mem_append_left _ p.2)
end
theorem pg_tupH {z : Addr × Obj} {es : List Expr} {k : Nat} {t : TGs} {n : Nat} {pos : Pos} (pz : PinH X z) (h : PGs X es t) (hn : (assignEach es X.env).length = n := by rfl) (hst : (assignEach es X.env).findIdx? (·.1) = none := by rfl) : PG X (.Tuple es k pos) (gTup X.K n t) := by
  constructor
  intro pins s σ H v u Q I r want
  obtain ⟨a, xs, rfl, hq, hl, want⟩ := want
  cases r
  obtain ⟨its, rv, ht, hz⟩ := I.tuple hq
  obtain ⟨hh, vs, d1, d2⟩ := pz.1
  rw [assign_Tuple]
  refine wpAny_bind (wpAny_standAt ?_)
  unfold unpack
  rw [show (assignEach es X.env).length = its.toArray.size by simp [hn, ← hl, rv.length], hst]
  refine wpAny_bind (wpAny_holding (taken_hot ⟨hh, z.2, vs, (pz.at I).1, d1, d2⟩ ht fun g x => ?_))
  have I1 : Inv X pins σ H { s with heap := g } := I.kept (t' := s.toks) fun b o e => x b o (Nat.ne_of_lt (Heap.lt_size e)) e
  exact h.run pins _ σ H xs _ Q I1 (by simpa using rv) want
section
variable {elt tg iter : Expr} {ifs : List Expr} {scope : Scope} {own : List (Str × Nat)} {pos pos' : Pos} {ta : TA} {te0 : TE} {g : TG} {tt : TT} {te : TE} {use : Option (Value → Sem Unit)} {Qf : Value → Shared → Prop}
theorem lcH_run {z : Addr × Obj} {Q : VK} (pz : PinH X z) (hN : X.N.Nodup) (I : Inv X pins σ H s) (hi : PE X iter te0) (ok : BlkOk X.N X.env.scope scope own)
    (hg : ∀ (s : Shared) (H : Hp) (C : Addr) (cl : List (Str × Addr)) (fp : List Addr), PG (blkH X z s H scope (compEnvC scope cl C X.env) fp) tg g)
    (ht : ∀ (s : Shared) (H : Hp) (C : Addr) (cl : List (Str × Addr)) (fp : List Addr), PTs (blkH X z s H scope (compEnvC scope cl C X.env) fp) ifs tt)
    (he : ∀ (s : Shared) (H : Hp) (C : Addr) (cl : List (Str × Addr)) (fp : List Addr), PE (blkH X z s H scope (compEnvC scope cl C X.env) fp) elt te)
    (hs : ∀ x, foldedSetIterable iter X.env x = pure x)
    (h : tLc (iList X.K te0) g tt te (own.map (·.2)) σ H Q)
    (fin : ∀ D C s' m H', Inv X pins σ H' s' → Q (.ref D) H' → s'.heap.Ns C m → FpOk X pins H' C → compPost (model X.prog X.w) X.A X.xe use Qf (.ref D) C (.ok .next) s') :
    wpAny (model X.prog X.w) X.A (comprehension (.ListComp elt [⟨tg, iter, ifs, 0⟩] scope pos) scope X.env pos' (newList []) false (eval iter X.env) use) Qf X.xe s := by
  have captured : ∀ y ∈ scope.names, y.2 = .free → ∃ c, X.env.cells.lookup y.1 = some c := fun y hy e => (ok.free y hy e).elim (fun k => I.ok.has _ (.inl k)) (fun k => I.ok.has _ (.inr k))
  refine wpAny_comprehension_free (use := use) rfl hs (closure_ok captured) ok.kind (fun y hy e => (ok.uniq y hy).trans (by rw [e])) ?_
  refine thn (hi.run pins s σ H _ I h) fun xv s1 ⟨x, H1, I1, r1, a, ex, ⟨xs0, hq⟩, q⟩ => ?_
  subst ex
  cases r1
  obtain ⟨its0, rv0, p0, hz0⟩ := I1.list hq
  refine wpAny_pyIter_list p0.isList ?_
  generalize hs2 : ({ s1 with heap := s1.heap.push { cls := .type "list_iterator", data := .fields #[.ref a, .int 0 0] } } : Shared) = s2
  have I2 : Inv X pins σ H1 s2 := by
    rw [← hs2]
    exact I1.kept (t' := s1.toks) fun b o e => Heap.get?_push_of_some _ e
  generalize hit : s1.heap.objs.size = it
  have st2 : s2.heap.IsListIter it a 0 := by
    rw [← hs2, ← hit]
    exact ⟨_, Heap.get?_push_size _ rfl, rfl, rfl⟩
  have f2 : FpOk X pins H1 it := by
    rw [← hit]
    exact I1.fpOk (Nat.le_refl _) (I1.hok.fresh (Nat.le_refl _))
  have zit : z.1 ≠ it := f2.2.2.2.2.2 z (List.mem_append_left _ pz.2)
  refine wpAny_newObj_type (newEnv_comp ?_) (by show 0 ≤ sizeLine; decide)
  generalize hD : s2.heap.objs.size = D
  have newD : H1 D = none := I2.hok.fresh (Nat.le_of_eq hD)
  obtain ⟨W, ⟨m0, w0⟩, turn⟩ := q D newD
  generalize hs3 : ({ s2 with heap := s2.heap.push { cls := .type "list", data := .seq ([] : List Value).toArray } } : Shared) = s3
  have k23 : ∀ {b : Addr} {o : Obj}, s2.heap.get? b = some o → s3.heap.get? b = some o := fun e => by rw [← hs3]; exact Heap.get?_push_of_some _ e
  have I3 : Inv X pins σ (upd H1 D (.lst [])) s3 := by
    rw [← hs3]
    refine I2.laid (t' := s2.toks) (fun _ _ e => Heap.get?_push_of_some _ e) (Nat.le_of_eq hD) ⟨Nat.zero_le _, [], 0, .nil, ?_⟩
    rw [← hD]
    exact Heap.get?_push_size _ rfl
  have itD : it ≠ D := by
    obtain ⟨o, e, _⟩ := st2
    rw [← hD]
    exact Nat.ne_of_lt (Heap.lt_size e)
  have st3 : s3.heap.IsListIter it a 0 := by
    obtain ⟨o, e, c, d⟩ := st2
    exact ⟨o, k23 e, c, d⟩
  have f3 : FpOk X pins (upd H1 D (.lst [])) it := ⟨by rw [upd_ne itD]; exact f2.1, f2.2⟩
  have l3 : it < s3.heap.objs.size := by
    obtain ⟨o, e, _⟩ := st3
    exact Heap.lt_size e
  have I4 := block_start (fp := [it]) I3 ok hN (fun b hb => by
    rw [List.mem_singleton.mp hb]
    exact ⟨f3, l3⟩)
  have z3 := pz.at I3
  have pg := hg s3 (upd H1 D (.lst [])) s3.heap.objs.size (cellsFrom (s3.heap.objs.size + 1) scope.names (cloFrom X.env.cells scope.names [])) [it]
  have pt := ht s3 (upd H1 D (.lst [])) s3.heap.objs.size (cellsFrom (s3.heap.objs.size + 1) scope.names (cloFrom X.env.cells scope.names [])) [it]
  have pe := he s3 (upd H1 D (.lst [])) s3.heap.objs.size (cellsFrom (s3.heap.objs.size + 1) scope.names (cloFrom X.env.cells scope.names [])) [it]
  show codeAny _ _ (.compStart (.ListComp elt [⟨tg, iter, ifs, 0⟩] scope pos) 0 (.ref it) (.ref D) (compEnvC scope (cellsFrom (s3.heap.objs.size + 1) scope.names (cloFrom X.env.cells scope.names [])) s3.heap.objs.size X.env)) (compPost (model X.prog X.w) X.A X.xe use Qf (.ref D) s3.heap.objs.size) { s3 with heap := pushCells (s3.heap.push { cls := .type "dict", data := .dict #[] }) scope.names }
  generalize hce : compEnvC scope (cellsFrom (s3.heap.objs.size + 1) scope.names (cloFrom X.env.cells scope.names [])) s3.heap.objs.size X.env = ce at I4 pg pt pe ⊢
  have cL : ce.locals = s3.heap.objs.size := by rw [← hce]; rfl
  generalize hH3 : upd H1 D (.lst []) = H3 at I3 I4 pg pt pe w0 f3 z3
  generalize hs4 : ({ s3 with heap := pushCells (s3.heap.push { cls := .type "dict", data := .dict #[] }) scope.names } : Shared) = s4 at I4 ⊢
  have k34 : ∀ {b : Addr} {o : Obj}, s3.heap.get? b = some o → s4.heap.get? b = some o := fun e => by rw [← hs4]; exact pushCells_keeps _ _ _ _ (Heap.get?_push_of_some _ e)
  have st4 : s4.heap.IsListIter it a 0 := by
    obtain ⟨o, e, c, d⟩ := st3
    exact ⟨o, k34 e, c, d⟩
  -- the handled error's pin, in the block
  have zs : z.1 ∉ frs X.stack := fun m => (List.mem_cons.mp (I3.stkSub z.1 m)).elim z3.2.2.1 z3.2.2.2.1
  have zC : z.1 ≠ ce.locals := by
    rw [cL]
    exact Nat.ne_of_lt (Heap.lt_size z3.1)
  have I4z : Inv (blkH X z s3 H3 scope ce [it]) [] (wipe σ (own.map (·.2))) H3 s4 :=
    ⟨⟨I4.ok.mod, I4.ok.kind, I4.ok.glob, I4.ok.blt, I4.ok.above, I4.ok.inj, I4.ok.has, I4.ok.cab, I4.ok.hd, I4.ok.frames, I4.ok.stk, I4.ok.exf, I4.ok.bs, I4.ok.bsz, I4.ok.noex, I4.ok.exfs, I4.ok.funs, I4.ok.frf⟩, I4.os, I4.bare, I4.base, I4.loc, I4.cell, I4.free, I4.freeC, fun p hp => by
      have e : p = z := by simpa using (show p ∈ [z] ++ ([] : List (Addr × Obj)) from hp)
      rw [e]
      exact ⟨k34 z3.1, z3.2.1, zC, zs, z3.2.2.2.2⟩, I4.hok, I4.len⟩
  have stat : ∀ {σ' : L2.St} {H' : Hp} {s' : Shared}, Inv (blkH X z s3 H3 scope ce [it]) [] σ' H' s' → H' it = none → FpOk (blkH X z s3 H3 scope ce [it]) [] H' it := fun {σ' H' s'} J hn =>
    ⟨hn, (J.ok.exf it (List.mem_singleton_self _)).1, J.ok.exfs it (List.mem_singleton_self _), .inl (List.mem_singleton_self _), fun x c e => (J.ok.exf it (List.mem_singleton_self _)).2 x c e, fun p hp => by
      have e : p = z := by simpa using (show p ∈ [z] ++ ([] : List (Addr × Obj)) from hp)
      rw [e]
      exact zit⟩
  have hotz : ∀ {σ' : L2.St} {H' : Hp} {s' : Shared}, Inv (blkH X z s3 H3 scope ce [it]) [] σ' H' s' → HotX.HotAt X.A z.1 s'.heap := fun {σ' H' s'} J => by
    obtain ⟨hh, v1, d1, c1⟩ := pz.1
    exact ⟨hh, z.2, v1, (J.pin z (List.mem_append_left _ (List.mem_singleton_self _))).1, d1, c1⟩
  have loop : codeAny (model X.prog X.w) X.A (.compLoop (.ListComp elt [⟨tg, iter, ifs, 0⟩] scope pos) 0 (.ref it) (.ref D) ce) (compPost (model X.prog X.w) X.A X.xe use Qf (.ref D) s3.heap.objs.size) s4 := by
    refine compLoop_any (fun n s' => ∃ i H', Inv (blkH X z s3 H3 scope ce [it]) [] (wipe σ (own.map (·.2))) H' s' ∧ s'.heap.IsListIter it a i ∧ H' it = none ∧ W i n H') ?_ m0 ⟨0, H3, I4z, st4, f3.1, w0⟩
    rintro n s5 ⟨i, H5, I5, st5, n5, w5⟩
    obtain ⟨f50, f51, f52, f53, f54, f55⟩ := stat I5 n5
    rcases turn i n H5 w5 with ⟨⟨xs, hq5, hge⟩, qq⟩ | ⟨⟨xs, y, hq5, hy⟩, Nx, hNx, step⟩
    rotate_left
    · obtain ⟨its, rv, pl, hzl⟩ := I5.list hq5
      have len : xs.length = its.length := rv.length
      obtain ⟨u, hu, ru⟩ := rv.get hy
      refine wpAny_pyNext_list_item st5 pl.isList (x := u) (by simpa using hu) fun g6 st6 sb6 => ?_
      have I6 : Inv (blkH X z s3 H3 scope ce [it]) [] (wipe σ (own.map (·.2))) H5 { s5 with heap := g6 } := I5.turned (t' := s5.toks) (fun b o hb e => (sb6.2 b hb).trans e) f50 f51 f53 f54 f55
      obtain ⟨o6, e6, c6, d6⟩ := id st6
      refine go_of (s := { s5 with heap := g6 }) e6 c6 d6 (by decide) ?_
      have I7 := I6.pinned (fp := [it]) (fun b hb => by
        rw [List.mem_singleton.mp hb]
        exact stat I6 n5) (fun b hb => by
        rw [List.mem_singleton.mp hb]
        exact ⟨o6, e6, fun v q => by rw [d6] at q; cases q⟩)
      refine thnF (pg.run _ _ _ H5 y u _ I7 ru (step y H5 ⟨rfl, fun ys hys => by rw [I5.list_inj hys hq5]; exact hy⟩)) fun _ s8 ⟨σ8, H8, I8, hw8, q8⟩ => ?_
      refine thnF (pt.run _ s8 σ8 H8 _ I8 q8) fun b s9 ⟨H9, I9, q9⟩ => ?_
      have again : ∀ {s' : Shared} {H' : Hp}, Inv (blkH X z s3 H3 scope ce [it]) ([] ++ pinsAt [it] g6) σ8 H' s' → Nx H' →
          ∃ m, m < n ∧ ∃ i H', Inv (blkH X z s3 H3 scope ce [it]) [] (wipe σ (own.map (·.2))) H' s' ∧ s'.heap.IsListIter it a i ∧ H' it = none ∧ W i m H' := fun {s' H'} J nx => by
        obtain ⟨m', hm, w'⟩ := hNx H' nx
        have pin := J.pin (it, o6) (List.mem_append_right _ (List.mem_append_right _ (mem_pinsAt (List.mem_singleton_self _) e6)))
        refine ⟨m', hm, i + 1, H', (J.unpinned (pins := [])).weak (by rw [← hw8, wipe_length]) (fun j v e => ?_), ⟨o6, pin.1, c6, d6⟩, pin.2.1, w'⟩
        rw [← hw8] at e
        exact (wipe_some e).1
      cases b with
      | false =>
        simp only [Bool.false_eq_true, if_false] at q9 ⊢
        exact again I9 q9
      | true =>
        simp only [if_true] at q9 ⊢
        refine thnF (pe.run _ s9 σ8 H9 _ I9 q9) fun _ s10 ⟨yv, H10, I10, r10, acc, a1, a2, nx⟩ => ?_
        exact app_ok (X := blkH X z s3 H3 scope ce [it]) I10 a1 a2 r10 fun s11 I11 => again I11 nx
    · obtain ⟨its, rv, pl, hzl⟩ := I5.list hq5
      have len : xs.length = its.length := rv.length
      refine list_over (hotz I5) st5 pl.isList (by simp; omega) zit fun g6 eb => ?_
      have I6 : Inv (blkH X z s3 H3 scope ce [it]) [] (wipe σ (own.map (·.2))) H5 { s5 with heap := g6 } := I5.turned (t' := s5.toks) (fun b o hb e => eb b o hb e) f50 f51 f53 f54 f55
      have I7 : Inv X pins σ H5 { s5 with heap := g6 } := I3.call' (ch := [it]) I6.os I6.base I6.hok I6.bare fun b hb => by
        rw [List.mem_singleton.mp hb]
        exact ⟨f3.2.2.2.1, f3.2.1, f3.2.2.2.2.1, f3.2.2.2.2.2⟩
      have nC : H5 s3.heap.objs.size = none := cL ▸ I6.free
      obtain ⟨m, hn, _⟩ := I6.loc
      have hn : Heap.Ns g6 ce.locals m := hn
      rw [cL] at hn
      exact fin D s3.heap.objs.size { s5 with heap := g6 } m H5 I7 qq hn (I3.fpOk (Nat.le_refl _) nC)
  exact codeAny_compStart_list loop (wpAny_pyIter_listiter st4 loop)
end
end Vm

set_option Elab.async false
set_option linter.all false
set_option maxRecDepth 100000
/-! VH2: the rules over VH1: a comprehension as a value and as a store; defs that are called with the handled error. -/
namespace Vm
open PySem PySem.Spec PyProof.Rows L2 Evl
section
variable {X : Cx} {elt tg iter : Expr} {ifs : List Expr} {scope : Scope} {own : List (Str × Nat)} {pos : Pos} {te0 : TE} {g : TG} {tt : TT} {te : TE} {z : Addr × Obj}
theorem pe_lcH (pz : PinH X z) (hN : X.N.Nodup) (hi : PE X iter te0) (ok : BlkOk X.N X.env.scope scope own)
    (hg : ∀ (s : Shared) (H : Hp) (C : Addr) (cl : List (Str × Addr)) (fp : List Addr), PG (blkH X z s H scope (compEnvC scope cl C X.env) fp) tg g)
    (ht : ∀ (s : Shared) (H : Hp) (C : Addr) (cl : List (Str × Addr)) (fp : List Addr), PTs (blkH X z s H scope (compEnvC scope cl C X.env) fp) ifs tt)
    (he : ∀ (s : Shared) (H : Hp) (C : Addr) (cl : List (Str × Addr)) (fp : List Addr), PE (blkH X z s H scope (compEnvC scope cl C X.env) fp) elt te) (hs : ∀ x, foldedSetIterable iter X.env x = pure x := by intro _; rfl) :
    PE X (.ListComp elt [⟨tg, iter, ifs, 0⟩] scope pos) (tLc (iList X.K te0) g tt te (own.map (·.2))) := by
  constructor
  intro pins s σ H Q I h
  rw [eval_ListComp]
  exact lcH_run pz hN I hi ok hg ht he hs h fun D C s' m H' J q hn f => ⟨m, hn, fun g6 sb => ⟨.ref D, H', J.turned (t' := s'.toks) (fun b o hb e => (sb.2 b hb).trans e) f.1 f.2.1 f.2.2.2.1 f.2.2.2.2.1 f.2.2.2.2.2, rfl, q⟩⟩
theorem ps_setLcH {i : Nat} {y : Str} {py spos : Pos} (pz : PinH X z) (hN : X.N.Nodup) (hy : X.N[i]? = some y) (hyl : X.env.scope.names.lookup y = some .local)
    (hsw : swapsWith (.ListComp elt [⟨tg, iter, ifs, 0⟩] scope pos) (some (.Name y py)) spos.line X.env = pure true) (hi : PE X iter te0) (ok : BlkOk X.N X.env.scope scope own)
    (hg : ∀ (s : Shared) (H : Hp) (C : Addr) (cl : List (Str × Addr)) (fp : List Addr), PG (blkH X z s H scope (compEnvC scope cl C X.env) fp) tg g)
    (ht : ∀ (s : Shared) (H : Hp) (C : Addr) (cl : List (Str × Addr)) (fp : List Addr), PTs (blkH X z s H scope (compEnvC scope cl C X.env) fp) ifs tt)
    (he : ∀ (s : Shared) (H : Hp) (C : Addr) (cl : List (Str × Addr)) (fp : List Addr), PE (blkH X z s H scope (compEnvC scope cl C X.env) fp) elt te) (hs : ∀ x, foldedSetIterable iter X.env x = pure x := by intro _; rfl) :
    PS X (.Assign [.Name y py] (.ListComp elt [⟨tg, iter, ifs, 0⟩] scope pos) spos) (tAsg (tLc (iList X.K te0) g tt te (own.map (·.2))) (gName i)) := by
  constructor
  intro pins s σ H D I h
  rw [exec_Assign_Name_used _ _ _ _ hsw]
  refine wpAny_bind (wpAny_standAt (wpAny_bind ?_))
  have h : tLc (iList X.K te0) g tt te (own.map (·.2)) σ H (fun x H1 => gName i x σ H1 D.nx) := h
  show wpAny _ X.A (do let _ ← comprehension (.ListComp elt [⟨tg, iter, ifs, 0⟩] scope pos) scope X.env (firstIterPos [⟨tg, iter, ifs, 0⟩] pos) (newList []) false (eval iter X.env) (some (assign (.Name y py) X.env))) _ _ s
  refine wpAny_bind (thn (lcH_run (Qf := fun _ s' => SP X pins D .next s') pz hN I hi ok hg ht he hs h fun L C s' m H' J q hn f => ?_) fun _ s' k => wpAny_pure (wpAny_pure k))
  show wpAny _ _ (assign (.Name y py) X.env (.ref L)) _ _ _
  refine wpAny_assign_Name (store_ok2 (v := V.ref L) J hN hy (.inl hyl) rfl (fun s2 I2 ⟨a, sb, ha⟩ => ?_) (.inr hyl))
  have far : C ≠ a := ha.elim (fun e => by rw [e]; exact f.2.1) (fun e => fun e2 => f.2.2.2.2.1 y a e e2.symm)
  exact ⟨m, hn.sameBut sb far, fun g6 sb6 => ⟨_, H', I2.turned (t' := s2.toks) (fun b o hb e => (sb6.2 b hb).trans e) f.1 f.2.1 f.2.2.2.1 f.2.2.2.2.1 f.2.2.2.2.2, q⟩⟩
end

/-! ### defs that are told the error which is handled -/
structure FnE (P : Program) (w : World) (K : PySem.W.Frag) (mg : Str → Option Value) (base : Heap) (k : Nat) (f : Addr) (fd : FuncData) (ps : List Str) (sp : Addr × Obj → Sp) : Prop where
  len : ∀ p vs H Q E, sp p vs H Q E → vs.length = ps.length
  go : ∀ (A : Around) (outer : List Env) (s : Shared) (H : Hp) (args : Args) (us : List Value) (vs : List V) (Q : VK) (E : XK) (p : Addr × Obj), L2H.RoomH k A → L2H.Hot1 A p → L2H.PinOk outer H s p → Env0 P w K mg base A outer s H →
    BindsTo s fd args (ps.zip us) → Vals vs us → sp p vs H Q E → codeAny (model P w) A (.call (.ref f) args) (CR CX0 outer P w H s Q E) s
section
variable {P : Program} {w : World} {K : PySem.W.Frag} {mg : Str → Option Value} {base : Heap} {k : Nat} {f : Addr} {fd : FuncData} {ps N : List Str} {sp : Addr × Obj → Sp}
theorem fnE_of {x qual : Str} {st : Stmt} (F : Fun K x qual st f fd) (S : FnScope N ps (defScope st)) (len : ∀ p vs H Q E, sp p vs H Q E → vs.length = ps.length)
    (rd : ∀ (cdv : Value) (A : Around) (outer : List Env) (s : Shared) (H : Hp) (vs : List V) (Q : VK) (E : XK) (p : Addr × Obj), L2H.Hot1 A p → L2H.RoomH k (A.deeper (envOfC qual (defScope st) s.heap.objs.size f cdv)) → sp p vs H Q E →
      ∃ t, PSs (L2H.cxH CX0 P w K mg base N qual (defScope st) f cdv A outer s H E p) (defBody st) t ∧ t { nx := fun _ H' => Q .non H', rt := Q } (L2.start N vs) H) :
    FnE P w K mg base (k + 1) f fd ps sp := by
  obtain ⟨oc, od, kV, doc, pm, an, cdv, ct, osl, rfl, lk, cr⟩ := F.ex
  refine ⟨len, fun A outer s H args us vs Q E p room hot pinned e0 binds rel want => ?_⟩
  have inK : K.In s.heap := e0.mod.kin.keeps fun b o z => (e0.bs b o z).1
  refine codeAny_call_function room.depth (inK _ _ lk) rfl S.co S.gen rfl (PySem.W.codeRec_of inK cr) (binds _ _ _ _ ?_)
  refine wpAny_newFunctionEnv_cells S.kind (fun y hy => ?_) fun env same s1 started => ?_
  · rcases S.par y.1 (List.of_mem_zip (show (y.1, y.2) ∈ ps.zip us from hy)).1 with c | c
    · exact .inl c
    · exact .inr ⟨c, PySem.W.cellsFrom_some _ _ _ (.inl c)⟩
  subst same
  have lim : s.heap.NoLimit := e0.mod.nolimit.keeps fun b o z => (e0.bs b o z).1
  refine ⟨lim.keeps started.toInCall.keep, codeAny_func ?_⟩
  obtain ⟨t, read, wish⟩ := rd cdv A outer s H vs Q E p hot (room.deeper _) want
  have inv := L2H.inv_startH (CX := CX0) (P := P) (w := w) (N := N) (ps := ps) (qual := qual) (E := E) S pinned e0 (len _ _ _ _ _ want) rel started
  refine wpAny_mono (read.run [] s1 (L2.start N vs) H _ inv wish) (fun fl s2 out => ?_) fun _ _ z => z
  match fl, out with
  | .ret u, ⟨v, _, H2, inv2, rv, q⟩ => exact ⟨v, H2, inv2.os, inv2.bare, inv2.base, inv2.hok, rv, q⟩
  | .next, ⟨_, H2, inv2, q⟩ => exact ⟨V.non, H2, inv2.os, inv2.bare, inv2.base, inv2.hok, rfl, q⟩
  | .brk, ⟨_, _, _, q⟩ => exact q.elim
  | .cont, ⟨_, _, _, q⟩ => exact q.elim
end
section
variable {X : Cx} {k : Nat} {f : Addr} {fd : FuncData} {ps : List Str} {sp : Addr × Obj → Sp} {x : Str} {p pos : Pos} {e : Expr} {es : List Expr} {t : TA} {z : Addr × Obj}
theorem pe_callE (F : FnE X.prog X.w X.K X.mg X.base k f fd ps sp) (hr : L2H.RoomH k X.A) (pz : PinH X z) (hg : Gl X x) (hm : X.mg x = some (.ref f)) (hk : PySem.W.keepIn X.K (.ref f) = true) (hb : Binds X.K fd ps []) (ha : PA X (e :: es) t)
    (hdb : (x == ("__debug__" : Str)) = false := by decide) (he : starEach (e :: es) X.env = (false, eval e X.env) :: starEach es X.env := by rfl) (hpl : (backTo pos (starEach es X.env)).any (·.1) = false := by rfl) :
    PE X (.Call (.Name x p) (e :: es) [] pos) (tCallS (sp z) (fun _ => E0) t) := by
  constructor
  intro pins s σ H Q I want
  refine wpAny_Call_Name_kw (ld_glob I hg hm ?_ hdb)
  refine PySem.W.callWith_K (h₀ := X.base) I.ok.mod.kin hk (thn (ha.run pos pins s σ H _ I want) fun us s1 ⟨vs, H1, I1, rel, q⟩ => ⟨I1.kIn, ?_⟩) he hpl
  have binds := hb s1 us I1.kIn (by rw [List.append_nil, ← rel.length]; exact F.len _ _ _ _ _ q)
  rw [List.append_nil] at binds
  have pin := pz.at I1
  have pok : L2H.PinOk X.stack H1 s1 z := ⟨pin.1, pin.2.1, fun m => (List.mem_cons.mp (I1.stkSub z.1 m)).elim pin.2.2.1 pin.2.2.2.1, pin.2.2.2.2⟩
  refine wpAny_call (codeAny_mono (F.go X.A X.stack s1 H1 ⟨us, []⟩ us vs Q E0 z hr pz.1 pok I1.env0 binds rel q) fun res s2 out => ?_)
  match res, out with
  | .error er, out => exact out.elim
  | .ok (.ret _), out => exact I1.after out
  | .ok .next, out => exact out.elim
  | .ok .brk, out => exact out.elim
  | .ok .cont, out => exact out.elim
end
end Vm

set_option Elab.async false
set_option linter.all false
set_option maxRecDepth 100000
/-! VN: defs that may raise, called anywhere in a statement; where the error has no context (L2N). -/
namespace Vm
open PySem PySem.Spec PyProof.Rows L2 Evl
section
variable {P : Program} {w : World} {K : PySem.W.Frag} {mg : Str → Option Value} {base : Heap} {CX : CXT} {j k : Nat} {f : Addr} {fd : FuncData} {ps N : List Str} {sp sp' : Sp}
theorem funGN {x qual : Str} {st : Stmt} (F : Fun K x qual st f fd) (S : FnScope N ps (defScope st)) (len : ∀ vs H Q E, sp vs H Q E → vs.length = ps.length)
    (rd : ∀ (cdv : Value) (A : Around) (outer : List Env) (s : Shared) (H : Hp) (vs : List V) (Q : VK) (E : XK), Rg k (A.deeper (envOfC qual (defScope st) s.heap.objs.size f cdv)) → sp vs H Q E →
      ∃ t, PSs (cxOf (L2N.CX P w) P w K mg base N qual (defScope st) f cdv A outer s H E) (defBody st) t ∧ t { nx := fun _ H1 => Q .non H1, rt := Q } (L2.start N vs) H) : FnG P w K mg base (L2N.CX P w) (k + 1) f fd ps sp := by
  obtain ⟨oc, od, kV, doc, pm, an, cdv, ct, osl, rfl, lk, cr⟩ := F.ex
  exact fnG_of lk cr S len fun A outer s H vs Q E r q => rd cdv A outer s H vs Q E r q
structure DefGN (P : Program) (w : World) (K : PySem.W.Frag) (mg : Str → Option Value) (base : Heap) (x : Str) (ps : List Str) (k : Nat) (m : En → Option Res) : Prop where
  ex : ∃ f fd, mg x = some (.ref f) ∧ FnG P w K mg base (L2N.CX P w) k f fd ps (SpM K ps.length m) ∧ PySem.W.keepIn K (.ref f) = true ∧ Binds K fd ps []
theorem FnG.toN (F : FnG P w K mg base CX0 k f fd ps sp) : FnG P w K mg base (L2N.CX P w) k f fd ps sp :=
  ⟨F.len, fun A r outer s H args us vs Q E e0 hb hv q => codeAny_mono (F.go A r outer s H args us vs Q E e0 hb hv q) fun res s2 out => by
    match res, out with
    | .error er, out => exact (show False from out).elim
    | .ok (.ret _), out => exact out
    | .ok .next, out => exact out
    | .ok .brk, out => exact out
    | .ok .cont, out => exact out⟩
theorem DefG.toN {x : Str} {m : En → Option Res} (h : DefG P w K mg base x ps k m) : DefGN P w K mg base x ps k m := by
  obtain ⟨f, fd, h1, F, h2, h3⟩ := h.ex
  exact ⟨f, fd, h1, F.toN, h2, h3⟩
end
section
variable {X : Cx} {x : Str} {ps : List Str} {n k j : Nat} {m : En → Option Res} {p pos : Pos} {e : Expr} {es : List Expr} {t : TA} {W : WX}
theorem pe_dGN (tk : L2N.Takes X W) (h : DefGN X.prog X.w X.K X.mg X.base x ps k m) (hn : ps.length = n) (hr : Rg j X.A) (hj : k ≤ j) (hg : Gl X x) (ha : PA X (e :: es) t)
    (hdb : (x == ("__debug__" : Str)) = false := by decide)
    (he : starEach (e :: es) X.env = (false, eval e X.env) :: starEach es X.env := by rfl) (hpl : (backTo pos (starEach es X.env)).any (·.1) = false := by rfl) : PE X (.Call (.Name x p) (e :: es) [] pos) (tCallS (SpM X.K n m) (WE W) t) := by
  subst hn
  obtain ⟨f, fd, at_f, F, kp, bn⟩ := h.ex
  exact pe_G F (hr.mono hj) hg at_f kp bn (fun σ => L2N.passAt tk σ) ha hdb he hpl
theorem passGN {σ : L2.St} : PassesAt (L2N.CX X.prog X.w) X σ E0 := fun pins H s er s2 inv out => by
  obtain ⟨a, B, H', cls, d, _, _, _, _, _, _, _, z⟩ := out
  exact z.elim
theorem pe_dGNY (h : DefGN X.prog X.w X.K X.mg X.base x ps k m) (hn : ps.length = n) (hr : Rg j X.A) (hj : k ≤ j) (hg : Gl X x) (ha : PA X (e :: es) t)
    (hdb : (x == ("__debug__" : Str)) = false := by decide)
    (he : starEach (e :: es) X.env = (false, eval e X.env) :: starEach es X.env := by rfl) (hpl : (backTo pos (starEach es X.env)).any (·.1) = false := by rfl) : PE X (.Call (.Name x p) (e :: es) [] pos) (tCall (SpM X.K n m) [] E0 t) := by
  subst hn
  rw [tCall_nil]
  obtain ⟨f, fd, at_f, F, kp, bn⟩ := h.ex
  exact pe_G F (hr.mono hj) hg at_f kp bn (fun σ => passGN) ha hdb he hpl
/-! a call of what an expression gives -/
structure HeldN (P : Program) (w : World) (K : PySem.W.Frag) (mg : Str → Option Value) (base : Heap) (k : Nat) (f : Addr) (sp : Sp) : Prop where
  ex : ∃ (fd : FuncData) (ps : List Str), FnG P w K mg base (L2N.CX P w) k f fd ps sp ∧ PySem.W.keepIn K (.ref f) = true ∧ Binds K fd ps []
inductive TblN (P : Program) (w : World) (K : PySem.W.Frag) (mg : Str → Option Value) (base : Heap) (k n : Nat) : Tbl → Prop
  | nil : TblN P w K mg base k n []
  | cons {x : Str} {ps : List Str} {j : Nat} {m : En → Option Res} {tbl : Tbl} (h : DefGN P w K mg base x ps j m) (v : FnAt K mg x) (hj : j ≤ k) (hn : ps.length = n) (t : TblN P w K mg base k n tbl) : TblN P w K mg base k n ((x, m) :: tbl)
theorem TblN.held {P : Program} {w : World} {K : PySem.W.Frag} {mg : Str → Option Value} {base : Heap} {k n : Nat} {tbl : Tbl} (h : TblN P w K mg base k n tbl) : ∀ p ∈ tbl, HeldN P w K mg base k (clsOf K p.1) (SpM K n p.2) := by
  induction h with
  | nil => intro p hp; cases hp
  | cons h v hj hn _ ih =>
    intro p hp
    rcases List.mem_cons.mp hp with rfl | hp
    · subst hn
      obtain ⟨f, fd, h1, F, h3, h4⟩ := h.ex
      have e : some (Value.ref f) = some (.ref (clsOf K _)) := h1.symm.trans v.ex
      cases e
      exact ⟨fd, _, F.up hj, h3, h4⟩
    · exact ih p hp
def tCallF (K : PySem.W.Frag) (W : WX) (n : Nat) (tbl : Tbl) (tf : TE) (ta : TA) : TE := fun σ H Q => tf σ H fun x H1 => ∃ f sp, x = .ref f ∧ tblS K n tbl f = some sp ∧ ta σ H1 fun vs H2 => sp vs H2 Q (WE W σ)
theorem pe_callF {fe : Expr} {tf : TE} {tbl : Tbl} (tk : L2N.Takes X W) (T : TblN X.prog X.w X.K X.mg X.base k n tbl) (hr : Rg j X.A) (hj : k ≤ j) (hf : PE X fe tf) (ha : PA X (e :: es) t)
    (hst : starEach (e :: es) X.env = (false, eval e X.env) :: starEach es X.env := by rfl) (hpl : (backTo pos (starEach es X.env)).any (·.1) = false := by rfl)
    (hcl : eval (.Call fe (e :: es) [] pos) X.env = (do callWith pos (← eval fe X.env) [] (backTo pos (starEach (e :: es) X.env)) (backToKw pos (keywordEach [] X.env))) := by rfl) : PE X (.Call fe (e :: es) [] pos) (tCallF X.K W n tbl tf t) := by
  constructor
  intro pins s σ H Q inv want
  refine Call_ (thn (hf.run pins s σ H _ inv want) fun u s1 ⟨x, H1, inv1, rx, f, sp, ex, hs, q⟩ => ?_) hcl
  subst ex
  cases rx
  unfold tblS at hs
  obtain ⟨r, hq, rfl⟩ := Option.map_eq_some_iff.mp hs
  have e1 : clsOf X.K r.1 = f := by simpa using List.find?_some hq
  subst e1
  obtain ⟨fd, ps, F, kp, bn⟩ := (T.held r (List.mem_of_find?_eq_some hq)).ex
  refine PySem.W.callWith_K (h₀ := X.base) inv1.ok.mod.kin kp (thn (ha.run pos pins s1 σ _ _ inv1 q) fun us s2 got => ?_) hst hpl
  obtain ⟨vs, H2, inv2, rel, w2⟩ := got
  exact ⟨inv2.kIn, run_G F (hr.mono hj) bn (L2N.passAt tk σ) inv2 rel w2⟩
end
section
variable {K : PySem.W.Frag} {C : Ctx} {B B' G H H' : Hp} {env env' : En} {σ : L2.St} {v : V} {r : R} {d : D} {ta tr : TA} {te tb : TE} {tt : TT} {f fa fb : En → Option (R × En)} {fs : En → Option (List R × En)} {X : Cx} {fix : List Nat} {W : WX}
theorem takesN0 : L2N.Takes X fun _ _ _ _ => False := fun u s' ⟨_, _, _, _, _, _, _, _, _, _, _, _, _, _, _, _, z⟩ => z.elim
/-! readings of calls that may raise, where they don't -/
theorem se_callW {n : Nat} {m : En → Option Res} (h : SA K ta fs) : SE K (tCallS (SpM K n m) (WE W) ta) (eCall n m fs) := se_callG (n := n) (m := m) (dv := fun σ => WE W σ) h
theorem se_callBW {n : Nat} {m : En → Option Res} (h : SA K ta fs) : SE K (tCallS (SpM K n m) (WE W) ta) (eCallB n m fs) := se_callBG (n := n) (m := m) (dv := fun σ => WE W σ) h
def eCallF (n : Nat) (tbl : Tbl) (ff : En → Option (R × En)) (fs : En → Option (List R × En)) : En → Option (R × En) := fun env => (ff env).bind fun a => match a.1 with
  | .val (.fn x) => (tbl.lookup x).bind fun m => eCall n m fs a.2
  | _ => none
theorem se_callF {n : Nat} {tbl : Tbl} (nd : (tbl.map fun p => clsOf K p.1).Nodup) (hf : SE K te f) (h : SA K ta fs) : SE K (tCallF K W n tbl te ta) (eCallF n tbl f fs) := by
  intro C hC B env σ H r env' s e Q hq
  obtain ⟨⟨x, e1⟩, g1, e⟩ := Option.bind_eq_some_iff.mp e
  simp only at e
  split at e
  · rename_i y
    obtain ⟨m, hm, e⟩ := Option.bind_eq_some_iff.mp e
    refine hf C hC B env σ H _ e1 s g1 _ fun v B1 H1 s1 x1 rv => ?_
    have rv : Rep C.K B1 v (.fn y) := rv
    cases rv
    rw [hC]
    exact ⟨_, _, rfl, tblS_of nd hm, se_callG (n := n) (m := m) (dv := fun σ => WE W σ) h C hC B1 e1 σ H1 r env' s1 e Q fun v B2 H2 s2 x2 r2 => hq v B2 H2 s2 (x1.trans x2) r2⟩
  · cases e
/-! where they raise: the class, and what is known then -/
def ER (K : PySem.W.Frag) (W : WX) (t : TE) (g : En → Option (Option Str × En)) : Prop :=
  ∀ C : Ctx, C.K = K → ∀ (B : Hp) (env : En) (σ : L2.St) (H : Hp) (c : Str) (env' : En), SR C B env σ H → g env = some (some c, env') →
    ∀ Q : VK, (∀ B' H', SR C B' env' σ H' → Ex B B' → W (.ref (clsOf K c)) none σ H') → t σ H Q
def ERA (K : PySem.W.Frag) (W : WX) (t : TA) (g : En → Option (Option Str × En)) : Prop :=
  ∀ C : Ctx, C.K = K → ∀ (B : Hp) (env : En) (σ : L2.St) (H : Hp) (c : Str) (env' : En), SR C B env σ H → g env = some (some c, env') →
    ∀ Q : List V → Hp → Prop, (∀ B' H', SR C B' env' σ H' → Ex B B' → W (.ref (clsOf K c)) none σ H') → t σ H Q
def ERT (K : PySem.W.Frag) (W : WX) (t : TT) (g : En → Option (Option Str × En)) : Prop :=
  ∀ C : Ctx, C.K = K → ∀ (B : Hp) (env : En) (σ : L2.St) (H : Hp) (c : Str) (env' : En), SR C B env σ H → g env = some (some c, env') →
    ∀ Q : Bool → Hp → Prop, (∀ B' H', SR C B' env' σ H' → Ex B B' → W (.ref (clsOf K c)) none σ H') → t σ H Q
def gCall (n : Nat) (m : En → Option Res) (fs : En → Option (List R × En)) : En → Option (Option Str × En) := fun env => (aD fs env).bind fun a => if a.1.length = n then (m (a.1.map .sh)).map fun r => match r with
  | .val _ _ => (none, a.2)
  | .fr _ _ => (none, a.2)
  | .er c _ => (some c, a.2)
  else none
theorem er_call {n : Nat} {m : En → Option Res} (h : SA K ta fs) : ER K W (tCallS (SpM K n m) (WE W) ta) (gCall n m fs) := by
  intro C hC B env σ H c env' s e Q hq
  obtain ⟨⟨ds, e1⟩, g1, e⟩ := Option.bind_eq_some_iff.mp e
  split at e
  · rename_i hn
    obtain ⟨res, g2, e⟩ := Option.map_eq_some_iff.mp e
    obtain ⟨rs, e0, g3, g4⟩ := aD_some g1
    refine h C hC B env σ H rs e0 s g3 _ fun vs B1 H1 s1 x1 rr => ?_
    obtain ⟨B2, s2, x2, ra⟩ := frzs_w s1 rr.w g4
    rw [hC] at ra
    refine ⟨by rw [ra.length]; exact hn, B2, _, res, sr_args ra s2.exB, g2, ?_⟩
    cases res with
    | val d ae => cases e
    | fr xs ae => cases e
    | er c' ae =>
      cases e
      exact fun B' H' s' x => hq B' H' (s2.called (fun _ => off_args) s' x) ((x1.trans x2).trans x)
  · cases e
def gCallF (n : Nat) (tbl : Tbl) (ff : En → Option (R × En)) (fs : En → Option (List R × En)) : En → Option (Option Str × En) := fun env => (ff env).bind fun a => match a.1 with
  | .val (.fn x) => (tbl.lookup x).bind fun m => gCall n m fs a.2
  | _ => none
theorem er_callF {n : Nat} {tbl : Tbl} (nd : (tbl.map fun p => clsOf K p.1).Nodup) (hf : SE K te f) (h : SA K ta fs) : ER K W (tCallF K W n tbl te ta) (gCallF n tbl f fs) := by
  intro C hC B env σ H c env' s e Q hq
  obtain ⟨⟨x, e1⟩, g1, e⟩ := Option.bind_eq_some_iff.mp e
  simp only at e
  split at e
  · rename_i y
    obtain ⟨m, hm, e⟩ := Option.bind_eq_some_iff.mp e
    refine hf C hC B env σ H _ e1 s g1 _ fun v B1 H1 s1 x1 rv => ?_
    have rv : Rep C.K B1 v (.fn y) := rv
    cases rv
    rw [hC]
    exact ⟨_, _, rfl, tblS_of nd hm, er_call (n := n) (m := m) h C hC B1 e1 σ H1 c env' s1 e Q fun B2 H2 s2 x2 => hq B2 H2 s2 (x1.trans x2)⟩
  · cases e
def gThen (f : En → Option (R × En)) (g : En → Option (Option Str × En)) : En → Option (Option Str × En) := fun env => (f env).bind fun a => g a.2
/-- first g1 may raise, then g2 -/
def gOr (g1 g2 : En → Option (Option Str × En)) : En → Option (Option Str × En) := fun env => (g1 env).bind fun a => match a.1 with
  | some c => some (some c, a.2)
  | none => g2 env
section
variable {g g1 g2 : En → Option (Option Str × En)} {ds : List V} {E : L2.St → XK} {E1 : XK} {sp : Sp} {r2 : R2} {r1 : V → Hp → VK → Prop} {rb : List V → Hp → VK → Prop}
theorem er_op (h : ER K W te g) : ER K W (tOp r2 te tb) g := fun C hC B env σ H c e s hg Q hq => h C hC B env σ H c e s hg _ hq
theorem er_or (h1 : ER K W te g1) (h2 : ER K W te g2) : ER K W te (gOr g1 g2) := by
  intro C hC B env σ H c e s hg Q hq
  obtain ⟨⟨x, e1⟩, k1, hg⟩ := Option.bind_eq_some_iff.mp hg
  cases x with
  | some c1 =>
    cases hg
    exact h1 C hC B env σ H _ _ s k1 Q hq
  | none => exact h2 C hC B env σ H c e s hg Q hq
theorem era_1 (h : ER K W te g) : ERA K W (tCons te tr) g := fun C hC B env σ H c e s hg Q hq => h C hC B env σ H c e s hg _ hq
theorem era_2 (hf : SE K te f) (h : ERA K W tr g) : ERA K W (tCons te tr) (gThen f g) := by
  intro C hC B env σ H c e s hg Q hq
  obtain ⟨⟨x, e1⟩, k1, hg⟩ := Option.bind_eq_some_iff.mp hg
  exact hf C hC B env σ H x e1 s k1 _ fun v B1 H1 s1 x1 rv => h C hC B1 e1 σ H1 c e s1 hg _ fun B2 H2 s2 x2 => hq B2 H2 s2 (x1.trans x2)
theorem er_cb (h : ERA K W ta g) : ER K W (tCB rb ta) g := fun C hC B env σ H c e s hg Q hq => h C hC B env σ H c e s hg _ hq
theorem er_ca (h : ERA K W ta g) : ER K W (tCall sp ds E1 ta) g := fun C hC B env σ H c e s hg Q hq => h C hC B env σ H c e s hg _ hq
theorem er_cs (h : ERA K W ta g) : ER K W (tCallS sp E ta) g := fun C hC B env σ H c e s hg Q hq => h C hC B env σ H c e s hg _ hq
theorem ert_e (h : ER K W te g) : ERT K W (tTest te) g := fun C hC B env σ H c e s hg Q hq => h C hC B env σ H c e s hg _ hq
theorem ert_b (h : ER K W te g) : ERT K W (tB te) g := fun C hC B env σ H c e s hg Q hq => h C hC B env σ H c e s hg _ hq
theorem ert_not (h : ERT K W tt g) : ERT K W (tNot tt) g := fun C hC B env σ H c e s hg Q hq => h C hC B env σ H c e s hg _ hq
end
/-! statements with them -/
section
variable {g : En → Option (Option Str × En)}
def xOr (g : En → Option (Option Str × En)) (F : En → Option Out) : En → Option Out := fun env => (g env).bind fun a => match a.1 with
  | some c => some (.er c a.2)
  | none => F env
theorem x_er {F : En → Option Out} {c : Str} {e : En} (h : g env = some (some c, e)) : xOr g F env = some (.er c e) := by
  unfold xOr
  rw [h]
  rfl
theorem x_ok {F : En → Option Out} {e : En} (h : g env = some (none, e)) : xOr g F env = F env := by
  unfold xOr
  rw [h]
  rfl
theorem ss_xor {ts : TS} {F : En → Option Out} (h : SS K fix W ts F) (hr : ∀ C : Ctx, C.K = K → ∀ (B : Hp) (env : En) (σ : L2.St) (H : Hp) (c : Str) (env' : En), SR C B env σ H → g env = some (some c, env') →
    ∀ D : Ends, (∀ B' H', SR C B' env' σ H' → Ex B B' → W (.ref (clsOf K c)) none σ H') → ts D σ H) : SS K fix W ts (xOr g F) := by
  intro C hC hF B env σ H o s e D p
  obtain ⟨⟨x, e1⟩, g1, e⟩ := Option.bind_eq_some_iff.mp e
  cases x with
  | some c =>
    cases e
    refine hr C hC B env σ H c e1 s g1 D fun B' H' s' x => ?_
    have q := p B' σ H' s' x
    rw [hC] at q
    exact q
  | none => exact h C hC hF B env σ H o s e D p
theorem ss_exprN (h : SE K te f) (hr : ER K W te g) : SS K fix W (tDrop te) (xOr g (sExpr f)) := ss_xor (ss_expr h) fun C hC B env σ H c e s hg D hq => hr C hC B env σ H c e s hg _ hq
theorem ss_retNX (h : SE K te f) (hr : ER K W te g) : SS K fix W (tRet te) (xOr g (sRet f)) := ss_xor (ss_ret h) fun C hC B env σ H c e s hg D hq => hr C hC B env σ H c e s hg _ hq
theorem ss_setN {i : Nat} (h : SE K te f) (hr : ER K W te g) (hi : i ∉ fix) : SS K fix W (tAsg te (gName i)) (xOr g (sSet i f)) := ss_xor (ss_set h hi) fun C hC B env σ H c e s hg D hq => hr C hC B env σ H c e s hg _ hq
theorem ss_ifN {fb : En → Option (Bool × En)} {t1 t2 : TS} {F G : En → Option Out} (h : ST K tt fb) (hr : ERT K W tt g) (h1 : SS K fix W t1 F) (h2 : SS K fix W t2 G) : SS K fix W (tIfS tt t1 t2) (xOr g (sIf fb F G)) :=
  ss_xor (ss_if h h1 h2) fun C hC B env σ H c e s hg D hq => hr C hC B env σ H c e s hg _ hq
end
end
end Vm

set_option Elab.async false
set_option linter.all false
set_option maxRecDepth 100000
/-! VE: isinstance of the error that is handled; the def that tells its kind; repr of data with dicts. -/
namespace Vm
open PySem PySem.Spec PyProof.Rows L2 Evl
/-! ### classes of errors -/
structure ErrC (K : PySem.W.Frag) (ts : List Str) (c : Str) : Prop where
  exc : ExcC K (clsOf K c)
  kit : ∀ t ∈ ts, PySem.W.kitOne K (.ref (clsOf K c)) (.ref (clsOf K t)) = some (t == c || t == ("NestError" : Str))
  val : PySem.W.kitOne K (.ref (clsOf K c)) (.type "ValueError") = some true
def excOk (K : PySem.W.Frag) (D : Addr) : Bool :=
  PySem.W.findIn K (.ref D) "__getattribute__" == some (some (.builtin "BaseException.__getattribute__")) && (PySem.W.findIn K (.ref D) "__getattr__" == some none && (PySem.W.subIn K (.ref D) (.type "BaseException") == some true &&
  (PySem.W.hasDictIn K D && (PySem.W.findIn K (.ref D) "__class__" == some (some (.builtin "object.__class__")) && (PySem.W.specialIn K (.builtin "object.__class__") "__get__" == some (some (.builtin "getset_descriptor.__get__")) &&
  (PySem.W.takesIn K (.builtin "object.__class__") == some true && PySem.W.mroIn K D (.type "object") == some true))))))
theorem excC_of {K : PySem.W.Frag} {D : Addr} (h : excOk K D = true) : ExcC K D := by
  unfold excOk at h
  simp only [Bool.and_eq_true, beq_iff_eq] at h
  obtain ⟨h1, h2, h3, h4, h5, h6, h7, h8⟩ := h
  exact ⟨h1, h2, h3, h4, h5, h6, h7, h8⟩
def errOk (K : PySem.W.Frag) (ts : List Str) (c : Str) : Bool :=
  excOk K (clsOf K c) && (ts.all (fun t => PySem.W.kitOne K (.ref (clsOf K c)) (.ref (clsOf K t)) == some (t == c || t == ("NestError" : Str))) && PySem.W.kitOne K (.ref (clsOf K c)) (.type "ValueError") == some true)
theorem errC_of {K : PySem.W.Frag} {ts : List Str} {c : Str} (h : errOk K ts c = true) : ErrC K ts c := by
  unfold errOk at h
  simp only [Bool.and_eq_true, beq_iff_eq, List.all_eq_true] at h
  exact ⟨excC_of h.1, h.2.1, h.2.2⟩
/-- what isinstance says of an error of the class c -/
def subE (ts : List Str) (c : Str) : D → Option Bool
  | .fn t => if t ∈ ts then some (t == c || t == ("NestError" : Str)) else none
  | .ty n => if n = "ValueError" then some true else none
  | _ => none
def anyE (ts : List Str) (c : Str) : List D → Option Bool
  | [] => some false
  | d :: ds => (subE ts c d).bind fun x => (anyE ts c ds).map fun y => x || y
def bIsE (ts : List Str) (a : Addr) (c : Str) : List D → Option D
  | [.ref b, .tup ds] => if b = a then (anyE ts c ds).map .bl else none
  | [.ref b, d] => if b = a then (subE ts c d).map .bl else none
  | _ => none
def rIsP (K : PySem.W.Frag) (D a : Addr) : List V → Hp → VK → Prop := fun xs H Q => rIsE K D a xs H Q ∨ ∃ tp cs us b, xs = [.ref a, .ref tp] ∧ SqT K H tp cs ∧ Paired ClsV cs us ∧ PySem.W.kitAny K (.ref D) us = some b ∧ Q (.bl b) H
section
variable {X : Cx} {z : Addr × Obj} {D : Addr}
theorem inst_pin {pins : List (Addr × Obj)} {σ : L2.St} {H : Hp} {s : Shared} (pz : PinH X z) (hc : z.2.cls = .ref D) (hd : z.2.dict = none) (I : Inv X pins σ H s) : PySem.W.InstAt s.heap z.1 z.2 D none := by
  obtain ⟨hh, vs, hv, _⟩ := pz.1
  have g := (pz.at I).1
  obtain ⟨a, ⟨oc, od, oda, osl⟩⟩ := z
  dsimp only at hc hd hv g
  subst hc hd hv
  exact ⟨g, rfl, rfl, trivial⟩
theorem call_isP (pz : PinH X z) (C : ExcC X.K D) (hc : z.2.cls = .ref D) (hd : z.2.dict = none) : CallR X (.builtin "isinstance") (rIsP X.K D z.1) := by
  intro pins s σ H xs us Q I r h
  have J := inst_pin pz hc hd I
  have Kx := PySem.W.handS_kitx_exc (x := z.1) (ox := z.2) C.hg C.hk C.hs C.hd C.ha C.hn C.ht C.hm
  rcases h with ⟨c, cv, b, rfl, hcv, e, q⟩ | ⟨tp, cs, ws, b, rfl, hT, k, e, q⟩
  · obtain ⟨u1, u2, rfl, r1, r2⟩ := vals2 r
    cases r1
    have ec := hcv _ r2
    subst ec
    exact PySem.W.kia_one Kx I.kIn J e (fun z => nomatch z) fun tk => ⟨.bl b, H, I.kept (t' := tk) fun _ _ z => z, rfl, q⟩
  · obtain ⟨u1, u2, rfl, r1, r2⟩ := vals2 r
    cases r1
    cases (show u2 = Value.ref tp from r2)
    obtain ⟨its, rv, p, hz⟩ := I.tuple hT
    have e3 := ClsV.all k rv
    subst e3
    obtain ⟨o, h1, h2, n, h3⟩ := p
    obtain ⟨oc, od, dt, sl⟩ := o
    simp only at h2 h3
    subst h2 h3
    exact PySem.W.kia_tup Kx I.kIn J h1 e (fun z => nomatch z) fun tk => ⟨.bl b, H, I.kept (t' := tk) fun _ _ z => z, rfl, q⟩
end
section
variable {K : PySem.W.Frag} {C : Ctx} {B B' G H H' : Hp} {env env' : En} {σ : L2.St} {v : V} {r : R} {d : D} {ts : List Str} {c : Str} {a : Addr}
theorem cls_one {b : Bool} {d : D} {w : V} (E : ErrC K ts c) (h : subE ts c d = some b) (k : RepK K B H w d) : ∃ cv, ClsV w cv ∧ PySem.W.kitOne K (.ref (clsOf K c)) cv = some b := by
  unfold subE at h
  split at h
  · rename_i t
    split at h
    · rename_i ht
      cases h
      have k := k.scal fun _ z => by cases z
      cases k
      exact ⟨_, .own _, E.kit _ ht⟩
    · cases h
  · rename_i n
    split at h
    · rename_i ht
      cases h
      subst ht
      have k := k.scal fun _ z => by cases z
      cases k
      exact ⟨_, .ty _, E.val⟩
    · cases h
  · cases h
theorem cls_all (E : ErrC K ts c) : ∀ {ds : List D} {ws : List V} {b : Bool}, anyE ts c ds = some b → RepAll K B ws ds → ∃ us, Paired ClsV ws us ∧ PySem.W.kitAny K (.ref (clsOf K c)) us = some b
  | [], _, b, h, .nil => ⟨[], .nil, h⟩
  | d :: ds, _, b, h, .cons (v := w) (vs := ws) r rs => by
    obtain ⟨x, q, h⟩ := Option.bind_eq_some_iff.mp h
    obtain ⟨y, g, rfl⟩ := Option.map_eq_some_iff.mp h
    obtain ⟨cv, k1, k2⟩ := cls_one (H := fun _ => none) E q (.inl r)
    obtain ⟨us, k3, k4⟩ := cls_all E g rs
    exact ⟨cv :: us, .cons k1 k3, kitAny_cons k2 (fun z => by rw [k4, z, Bool.false_or]) (fun z => by rw [z, Bool.true_or])⟩
theorem ClsV.one {w : V} {cv : Value} (k : ClsV w cv) : ∀ u, RelV w u → u = cv := fun u r => k.eq r
theorem rc_isE (E : ErrC K ts c) : RC K (rIsP K (clsOf K c) a) (bIsE ts a c) := by
  intro C hC B env σ H vs ds z s rx e Q hq
  unfold bIsE at e
  split at e
  · split at e
    · rename_i hb
      obtain ⟨x, g, rfl⟩ := Option.map_eq_some_iff.mp e
      obtain ⟨v, w, rfl, k1, k2⟩ := rx.two
      have hv : v = V.ref a := by
        rw [← hb]
        exact repK_sc (d := .ref _) rfl k1
      subst hv
      obtain ⟨t, cs, rfl, h1, h2⟩ := (k2.scal fun _ z => by cases z).tuple
      obtain ⟨us, p1, p2⟩ := cls_all E g h2
      exact .inr ⟨t, cs, us, x, rfl, ex_t s.exB h1, p1, p2, hq (.bl x) B H s (Ex.refl _) (.bl x)⟩
    · cases e
  · split at e
    · rename_i hb
      obtain ⟨x, g, rfl⟩ := Option.map_eq_some_iff.mp e
      obtain ⟨v, w, rfl, k1, k2⟩ := rx.two
      have hv : v = V.ref a := by
        rw [← hb]
        exact repK_sc (d := .ref _) rfl k1
      subst hv
      obtain ⟨cv, p1, p2⟩ := cls_one E g k2
      exact .inl ⟨w, cv, x, rfl, Vm.ClsV.one p1, p2, hq (.bl x) B H s (Ex.refl _) (.bl x)⟩
    · cases e
  · cases e
end

/-! ### the def that tells the kind of the error that is handled -/
def spErr (K : PySem.W.Frag) (cs : List Str) (mm : Addr → Str → En → Option Res) : Addr × Obj → Sp := fun p vs H Q E => ∃ c, c ∈ cs ∧ p.2.cls = .ref (clsOf K c) ∧ p.2.dict = none ∧ vs = [.ref p.1] ∧ SpM K 1 (mm p.1 c) vs H Q E
def tErrC (K : PySem.W.Frag) (cs : List Str) (mm : Addr → Str → En → Option Res) (i : Nat) (a : Addr) (cls : Value) (d : Option Addr) : TE := fun σ H Q => ∃ c, c ∈ cs ∧ cls = .ref (clsOf K c) ∧ d = none ∧ σ[i]? = some (some (.ref a)) ∧ SpM K 1 (mm a c) [.ref a] H Q E0
theorem pe_errC {X : Cx} {a : Addr} {oe : Obj} {cls : Value} {d : Option Addr} {pn : List (Addr × Obj)} {k i : Nat} {f : Addr} {fd : FuncData} {ps : List Str} {cs : List Str} {mm : Addr → Str → En → Option Res} {x n : Str} {p q pos : Pos} (hz : L2N.Zn cls d oe) (hv : ∃ vs, oe.data = .fields vs)
    (F : FnE X.prog X.w X.K X.mg X.base k f fd ps (spErr X.K cs mm)) (hr : L2H.RoomH k X.A) (hg : Gl (X.suite a ((a, oe) :: pn)) x) (hm : X.mg x = some (.ref f)) (hk : PySem.W.keepIn X.K (.ref f) = true) (hb : Binds X.K fd ps []) (hN : X.N[i]? = some n) (hV : Vis X.env.scope n)
    (hdb : (x == ("__debug__" : Str)) = false := by decide) (hd1 : (n == ("__debug__" : Str)) = false := by decide) (hd2 : (n == ("__classdict__" : Str)) = false := by decide)
    (he : starEach [.Name n q] X.env = (false, eval (.Name n q) X.env) :: starEach [] X.env := by rfl) (hpl : (backTo pos (starEach [] X.env)).any (·.1) = false := by rfl) :
    PE (X.suite a ((a, oe) :: pn)) (.Call (.Name x p) [.Name n q] [] pos) (tErrC X.K cs mm i a cls d) := by
  constructor
  intro pins s σ H Q I want
  obtain ⟨c, hc, rfl, rfl, hs, want⟩ := want
  obtain ⟨vs, hvs⟩ := hv
  have pz : PinH (X.suite a ((a, oe) :: pn)) (a, oe) := ⟨⟨rfl, vs, hvs, hz.2.2 vs hvs⟩, List.mem_cons_self⟩
  exact (pe_callE (X := X.suite a ((a, oe) :: pn)) (sp := spErr X.K cs mm) F ⟨hr.dp, hr.un⟩ pz hg hm hk hb (pa_cons (pe_var hN hV hd1 hd2) pa_nil) hdb he hpl).run pins s σ H Q I ⟨_, hs, c, hc, hz.1, hz.2.1, rfl, want⟩
def sNamed (told : Nat) (cs : List Str) (zn : Str → Option Str) : Str → En → Option Out := fun c env => if c ∈ cs then (zn c).map fun z => .nx (env.set told (.sh (.str z))) else none
theorem sh_named {K : PySem.W.Frag} {fix : List Nat} {cs : List Str} {mm : Addr → Str → En → Option Res} {i told : Nat} {zn : Str → Option Str} (ht : told ∉ fix) (hz : ∀ a c z, c ∈ cs → zn c = some z → ∃ e, mm a c [.sh (.ref a)] = some (.val (.str z) e)) :
    SH K fix i (fun a cls d => tAsg (tErrC K cs mm i a cls d) (gName told)) (sNamed told cs zn) := by
  intro C hC hF B env σ H o c a s hun hs na e De p
  unfold sNamed at e
  split at e
  · rename_i hc
    obtain ⟨z, g, rfl⟩ := Option.map_eq_some_iff.mp e
    obtain ⟨ae, hm⟩ := hz a c z hc g
    have ra : RepAll K B [V.ref a] [D.ref a] := .cons (.ref a) .nil
    refine ⟨c, hc, rfl, rfl, hs, rfl, B, [.sh (.ref a)], _, sr_args ra s.exB, hm, fun v B' H' s' x rv => ?_⟩
    cases rv
    have s2 := s.called (fun _ => off_args (ds := [D.ref a]) (vs := [V.ref a])) s' x
    exact p B' _ H' (s2.setV (i := told) (v := .str z) (t := .sh (.str z)) (by rw [hF]; exact ht) (.str z)) x
  · cases e
end Vm

set_option Elab.async false
set_option linter.all false
set_option maxRecDepth 100000
/-! VP: repr of data in which dicts of numbers stand. -/
namespace Vm
open PySem PySem.Spec PyProof.Rows L2 Evl
section
variable {prog : Program} {w : World} {h : Heap}
mutual
/-- how data is read, no dict being the table of modules -/
inductive RdS (h : Heap) : Value → PyData → Prop
  | none : RdS h .none .none
  | bool (b : Bool) : RdS h (.bool b) (.bool b)
  | int (i : Int) (t : Tok) : RdS h (.int i t) (.int i)
  | str (x : Str) (t : Tok) : RdS h (.str x t) (.str x)
  | list {a : Addr} {o : Obj} {vs : Array Value} {n : Nat} {ds : List PyData} : h.get? a = some o → o.cls = .type "list" → o.data = .seq vs n → RdSs h vs.toList ds → RdS h (.ref a) (.list ds)
  | tuple {a : Addr} {o : Obj} {vs : Array Value} {n : Nat} {ds : List PyData} : h.get? a = some o → o.cls = .type "tuple" → o.data = .seq vs n → RdSs h vs.toList ds → RdS h (.ref a) (.tuple ds)
  | dict {a : Addr} {o : Obj} {es : Array DictEntry} {n : Nat} {kvs : List (PyData × PyData)} : h.get? a = some o → o.cls = .type "dict" → o.data = .dict es n → (a == sysModules) = false →
      ReadsAll h (es.toList.map (·.key)) (kvs.map (·.1)) [] → ReadsAll h (es.toList.map (·.val)) (kvs.map (·.2)) [] → RdS h (.ref a) (.dict kvs)
inductive RdSs (h : Heap) : List Value → List PyData → Prop
  | nil : RdSs h [] []
  | cons {v : Value} {vs : List Value} {d : PyData} {ds : List PyData} : RdS h v d → RdSs h vs ds → RdSs h (v :: vs) (d :: ds)
end
mutual
theorem RdS.reads : ∀ {v : Value} {d : PyData}, RdS h v d → ∃ as, Reads h v d as
  | _, _, .none => ⟨_, .none⟩
  | _, _, .bool b => ⟨_, .bool b⟩
  | _, _, .int i t => ⟨_, .int i t⟩
  | _, _, .str x t => ⟨_, .str x t⟩
  | _, _, .list h1 h2 h3 h4 => (RdSs.reads h4).imp' _ fun _ r => .list h1 h2 h3 r
  | _, _, .tuple h1 h2 h3 h4 => (RdSs.reads h4).imp' _ fun _ r => .tuple h1 h2 h3 r
  | _, _, .dict h1 h2 h3 _ h4 h5 => ⟨_, .dict h1 h2 h3 h4 h5⟩
theorem RdSs.reads : ∀ {vs : List Value} {ds : List PyData}, RdSs h vs ds → ∃ as, ReadsAll h vs ds as
  | _, _, .nil => ⟨_, .nil⟩
  | _, _, .cons r rs => by
    obtain ⟨as, r⟩ := RdS.reads r
    obtain ⟨bs, rs⟩ := RdSs.reads rs
    exact ⟨_, .cons r rs⟩
end
theorem flat_rd {vs : List Value} {ds : List PyData} (r : ReadsAll h vs ds []) (hs : PyData.showableAll ds = true) (hz : ∀ t ∈ PyData.shownAll ds, t.length ≤ sizeLine) :
    ∃ bs, ReadAtMost h (PyData.depthAll ds) bs ∧ ReprAllK prog w bs h (PyData.depthAll ds) vs (PyData.shownAll ds) := ReprAllK.of_readsAll r hs (fun _ => List.not_mem_nil) hz
mutual
theorem RdS.repr : ∀ {v : Value} {d : PyData}, RdS h v d → d.showable = true → d.shown.length ≤ sizeLine → ∃ bs, ReadAtMost h d.depth bs ∧ ReprK prog w bs h d.depth v d.shown
  | _, _, .none, hs, hz => ReprK.of_reads .none hs (fun _ => List.not_mem_nil) hz
  | _, _, .bool b, hs, hz => ReprK.of_reads (.bool b) hs (fun _ => List.not_mem_nil) hz
  | _, _, .int i t, hs, hz => ReprK.of_reads (.int i t) hs (fun _ => List.not_mem_nil) hz
  | _, _, .str x t, hs, hz => ReprK.of_reads (.str x t) hs (fun _ => List.not_mem_nil) hz
  | _, _, .list (a := a) (vs := vs) (ds := ds) h1 h2 h3 h4, hs, hz => by
    have fits : (listText (PyData.shownAll ds)).length ≤ sizeLine := by simpa only [PyData.shown] using hz
    obtain ⟨as, r4⟩ := RdSs.reads h4
    have r : Reads h (.ref a) (.list ds) _ := .list h1 h2 h3 r4
    obtain ⟨bs, b1, b2⟩ := RdSs.repr h4 (by simpa [PyData.showable] using hs) (fun t ht => Nat.le_trans (listText_mem_le ht) fits)
    have out : a ∉ bs := not_mem_of_deeper r (by simp only [PyData.depth]; omega) b1
    refine ⟨a :: bs, b1.cons r (by simp only [PyData.depth]; omega), ?_⟩
    simp only [PyData.depth, PyData.shown]
    obtain ⟨l⟩ := vs
    match l, r4, b2, h3 with
    | [], r4, _, h3 =>
      cases (show ReadsAll h [] ds _ from r4)
      simp only [PyData.shownAll, listText_nil]
      exact ReprK.listEmpty h1 h2 h3
    | x :: l, _, b2, h3 => exact ReprK.list h1 h2 h3 out (by simpa using b2.length_eq) (fun i y e => b2.item i y (by simpa using e))
  | _, _, .tuple (a := a) (ds := ds) h1 h2 h3 h4, hs, hz => by
    have fits : (tupleText (PyData.shownAll ds)).length ≤ sizeLine := by simpa only [PyData.shown] using hz
    obtain ⟨as, r4⟩ := RdSs.reads h4
    have r : Reads h (.ref a) (.tuple ds) _ := .tuple h1 h2 h3 r4
    obtain ⟨bs, b1, b2⟩ := RdSs.repr h4 (by simpa [PyData.showable] using hs) (fun t ht => Nat.le_trans (tupleText_mem_le ht) fits)
    have out : a ∉ bs := not_mem_of_deeper r (by simp only [PyData.depth]; omega) b1
    refine ⟨a :: bs, b1.cons r (by simp only [PyData.depth]; omega), ?_⟩
    simp only [PyData.depth, PyData.shown]
    exact ReprK.tuple h1 h2 h3 out b2
  | _, _, .dict (a := a) (es := es) (kvs := kvs) h1 h2 h3 hy h4 h5, hs, hz => by
    have fits : (dictText (PyData.shownKv kvs)).length ≤ sizeLine := by simpa only [PyData.shown] using hz
    obtain ⟨s1, s2⟩ := PyData.showableKv_split kvs (by simpa [PyData.showable] using hs)
    obtain ⟨b1, p1, q1⟩ := flat_rd (prog := prog) (w := w) h4 s1 (fun t ht => (PyData.shownKv_key_le kvs t ht).elim fun p hp => Nat.le_trans hp.2 (Nat.le_trans (dictText_mem_le hp.1) fits))
    obtain ⟨b2, p2, q2⟩ := flat_rd (prog := prog) (w := w) h5 s2 (fun t ht => (PyData.shownKv_val_le kvs t ht).elim fun p hp => Nat.le_trans hp.2 (Nat.le_trans (dictText_mem_le hp.1) fits))
    have r : Reads h (.ref a) (.dict kvs) _ := .dict h1 h2 h3 h4 h5
    have p12 : ReadAtMost h (PyData.depthKv kvs) (b1 ++ b2) := (p1.mono (PyData.depthAll_keys_le kvs)).append (p2.mono (PyData.depthAll_vals_le kvs))
    have out : a ∉ b1 ++ b2 := not_mem_of_deeper r (by simp only [PyData.depth]; omega) p12
    refine ⟨a :: (b1 ++ b2), p12.cons r (by simp only [PyData.depth]; omega), ?_⟩
    simp only [PyData.depth, PyData.shown, PyData.shownKv_eq]
    exact ReprK.dict h1 h2 h3 hy out (ReprEntriesK.of_two es.toList _ _ (q1.more_le (fun b hb => List.mem_append_left _ hb) (PyData.depthAll_keys_le kvs)) (q2.more_le (fun b hb => List.mem_append_right _ hb) (PyData.depthAll_vals_le kvs)))
theorem RdSs.repr : ∀ {vs : List Value} {ds : List PyData}, RdSs h vs ds → PyData.showableAll ds = true → (∀ t ∈ PyData.shownAll ds, t.length ≤ sizeLine) → ∃ bs, ReadAtMost h (PyData.depthAll ds) bs ∧ ReprAllK prog w bs h (PyData.depthAll ds) vs (PyData.shownAll ds)
  | _, _, .nil, _, _ => ⟨[], (fun _ k => nomatch k), by simp only [PyData.shownAll]; exact .nil⟩
  | _, _, .cons (d := d) (ds := ds) r rs, hs, hz => by
    have both : d.showable = true ∧ PyData.showableAll ds = true := by simpa [PyData.showableAll] using hs
    obtain ⟨b1, p1, q1⟩ := RdS.repr r both.1 (hz _ (by simp only [PyData.shownAll]; exact List.mem_cons_self))
    obtain ⟨b2, p2, q2⟩ := RdSs.repr rs both.2 (fun t ht => hz t (by simp only [PyData.shownAll]; exact List.mem_cons_of_mem _ ht))
    refine ⟨b1 ++ b2, ?_, ?_⟩
    · simp only [PyData.depthAll]
      exact (p1.mono (Nat.le_max_left _ _)).append (p2.mono (Nat.le_max_right _ _))
    · simp only [PyData.depthAll, PyData.shownAll]
      exact .cons ((q1.more fun b hb => List.mem_append_left _ hb).level_le (Nat.le_max_left _ _)) (q2.more_le (fun b hb => List.mem_append_right _ hb) (Nat.le_max_right _ _))
end
theorem RdS.shows {a : Addr} {d : PyData} (r : RdS h (.ref a) d) (hs : d.showable = true) (hz : d.shown.length ≤ sizeLine) : ∃ T idr, ShowsBy prog w h a d T idr := by
  have rr := r
  cases r with
  | list h1 h2 h3 h4 =>
    rename_i o vs n ds
    have fits : (listText (PyData.shownAll ds)).length ≤ sizeLine := by simpa only [PyData.shown] using hz
    obtain ⟨as, r4⟩ := RdSs.reads h4
    obtain ⟨bs, b1, b2⟩ := RdSs.repr (prog := prog) (w := w) h4 (by simpa [PyData.showable] using hs) (fun t ht => Nat.le_trans (listText_mem_le ht) fits)
    have out : a ∉ bs := not_mem_of_deeper (.list h1 h2 h3 r4) (by simp only [PyData.depth]; omega) b1
    refine ⟨"list", "list.__repr__", F.slot_list_repr.toG, F.slot_list_str, F.slot_list_format, fun s hk => ⟨o, hk _ _ h1, h2⟩, fun A E s Q hg hu hk hQ => ?_⟩
    simp only [PyData.depth] at hu
    simp only [PyData.shown] at hQ
    obtain ⟨l⟩ := vs
    match l, r4, b2, h3 with
    | [], r4, _, h3 =>
      cases (show ReadsAll h [] ds _ from r4)
      simp only [PyData.shownAll, listText_nil] at hQ
      exact call_list_repr_empty ⟨o, hk _ _ h1, h2⟩ (hk _ _ h1) h3 (hQ s.heap _ _ fun _ _ e => e)
    | x :: l, _, b2, h3 => exact call_list_reprK h1 h2 h3 out (by simpa using b2.length_eq) (fun i y e => b2.item i y (by simpa using e)) hg (fun b _ => Clear.nil b) hu hk hQ fits
  | tuple h1 h2 h3 h4 =>
    rename_i o vs n ds
    have fits : (tupleText (PyData.shownAll ds)).length ≤ sizeLine := by simpa only [PyData.shown] using hz
    obtain ⟨as, r4⟩ := RdSs.reads h4
    obtain ⟨bs, b1, b2⟩ := RdSs.repr (prog := prog) (w := w) h4 (by simpa [PyData.showable] using hs) (fun t ht => Nat.le_trans (tupleText_mem_le ht) fits)
    have out : a ∉ bs := not_mem_of_deeper (.tuple h1 h2 h3 r4) (by simp only [PyData.depth]; omega) b1
    refine ⟨"tuple", "tuple.__repr__", F.slot_tuple_repr, F.slot_tuple_str, F.slot_tuple_format, fun s hk => ⟨o, hk _ _ h1, h2⟩, fun A E s Q hg hu hk hQ => ?_⟩
    simp only [PyData.depth] at hu
    simp only [PyData.shown] at hQ
    exact call_tuple_reprK h1 h2 h3 out b2 hg (fun b _ => Clear.nil b) hu hk hQ fits
  | dict h1 h2 h3 hy h4 h5 =>
    exact showsBy_of_reads (.dict h1 h2 h3 h4 h5) hs (fun _ hm => by
      rcases List.mem_cons.mp hm with e | hm
      · exact absurd e.symm (beq_eq_false_iff_ne.mp hy)
      · cases hm) hz
end
/-! ### which data -/
def keyPy : Key → PyData
  | .inl i => .int i
  | .inr x => .str x
mutual
def toPyD : D → Option PyData
  | .non => some .none
  | .bl b => some (.bool b)
  | .int i => some (.int i)
  | .str s => some (.str s)
  | .lst xs => (toPyDs xs).map .list
  | .tup xs => (toPyDs xs).map .tuple
  | .scr ns => some (.list (ns.map .int))
  | .dct ks xs => (unInts xs).map fun ns => .dict ((ks.zip ns).map fun p => (keyPy p.1, .int p.2))
  | _ => none
def toPyDs : List D → Option (List PyData)
  | [] => some []
  | x :: xs => (toPyD x).bind fun y => (toPyDs xs).map fun ys => y :: ys
end
section
variable {X : Cx} {pins : List (Addr × Obj)} {σ : L2.St} {H B : Hp} {s : Shared}
theorem ints_rd : ∀ {ns : List Int} {us : List Value}, Vals (ns.map V.int) us → RdSs s.heap us (ns.map PyData.int)
  | [], _, r => by cases r; exact .nil
  | n :: ns, _, r => by
    cases r with
    | cons a t =>
      obtain ⟨k, rfl⟩ := a
      exact .cons (.int n k) (ints_rd t)
theorem dict_rd {kvs : List (Key × V)} : ∀ {ks : List Key} {ns : List Int} {xs : List (Key × Value)} {es : List DictEntry}, ks.length = ns.length → KV ((ks.zip ns).map fun p => (p.1, V.int p.2)) xs → Pairs (mixKind X.prog X.w) es xs →
    ReadsAll s.heap (es.map (·.key)) (((ks.zip ns).map fun p => (keyPy p.1, PyData.int p.2)).map (·.1)) [] ∧ ReadsAll s.heap (es.map (·.val)) (((ks.zip ns).map fun p => (keyPy p.1, PyData.int p.2)).map (·.2)) []
  | [], [], _, _, _, a, b => by cases a; cases b; exact ⟨.nil, .nil⟩
  | k :: ks, n :: ns, _, _, hl, a, b => by
    cases a with
    | cons a1 a2 =>
      cases b with
      | cons b1 b2 b3 =>
        obtain ⟨c1, c2⟩ := dict_rd (kvs := kvs) (ks := ks) (ns := ns) (by simpa using hl) a2 b3
        obtain ⟨e1, t, e2⟩ := a1
        have e2 : _ = Value.int n t := e2
        have kr : ∀ {ke : Value}, keyIs k ke = true → Reads s.heap ke (keyPy k) [] := fun {ke} q => by
          rcases keyIs_shape q with ⟨i, t, rfl, rfl⟩ | ⟨x, t, rfl, rfl⟩
          · exact .int i t
          · exact .str x t
        have e1 : k = _ := e1
        rw [← e1] at b1
        refine ⟨.cons (as := []) (bs := []) (kr b1) c1, .cons (as := []) (bs := []) ?_ c2⟩
        show Reads s.heap _ (PyData.int n) []
        have b2 : _ = Value.int n t := b2.trans e2
        first
          | (rw [b2]; exact .int n t)
          | (simp only [b2]; exact .int n t)
  | [], _ :: _, _, _, hl, _, _ => by cases hl
  | _ :: _, [], _, _, hl, _, _ => by cases hl
theorem zip_kvs : ∀ {kvs : List (Key × V)} {ns : List Int}, kvs.map (·.2) = ns.map V.int → kvs = ((kvs.map (·.1)).zip ns).map fun p => (p.1, V.int p.2)
  | [], _, _ => rfl
  | kv :: kvs, [], h => by cases h
  | kv :: kvs, n :: ns, h => by
    rw [List.map_cons, List.map_cons] at h
    have h := List.cons.inj h
    rw [List.map_cons, List.zip_cons_cons, List.map_cons, ← zip_kvs h.2, ← h.1]
mutual
theorem Rep.rd (I : Inv X pins σ H s) (x : Ex B H) : ∀ {v : V} {d : D} {u : Value} {p : PyData}, Rep X.K B v d → RelV v u → toPyD d = some p → RdS s.heap u p
  | _, _, u, p, .non, r, e => by cases r; unfold toPyD at e; cases e; exact .none
  | _, _, u, p, .bl b, r, e => by cases r; unfold toPyD at e; cases e; exact .bool b
  | _, _, u, p, .int i, r, e => by obtain ⟨t, rfl⟩ := r; unfold toPyD at e; cases e; exact .int i t
  | _, _, u, p, .str z, r, e => by obtain ⟨t, rfl⟩ := r; unfold toPyD at e; cases e; exact .str z t
  | _, _, u, p, .ref a, r, e => by unfold toPyD at e; cases e
  | _, _, u, p, .ty n, r, e => by unfold toPyD at e; cases e
  | _, _, u, p, .fn n, r, e => by unfold toPyD at e; cases e
  | _, _, u, p, .lst h1 h2, r, e => by
    unfold toPyD at e
    obtain ⟨ps, e1, rfl⟩ := Option.map_eq_some_iff.mp e
    cases r
    obtain ⟨its, rv, ⟨o, n, ho, hc, _, hd⟩, _⟩ := I.list (sq_of (x _ _ h1))
    exact .list ho hc hd (Rep.rds I x h2 rv e1)
  | _, _, u, p, .tup h1 h2, r, e => by
    unfold toPyD at e
    obtain ⟨ps, e1, rfl⟩ := Option.map_eq_some_iff.mp e
    cases r
    obtain ⟨its, rv, ⟨o, ho, hc, n, hd⟩, _⟩ := I.tuple (ex_t x h1)
    exact .tuple ho hc hd (Rep.rds I x h2 rv e1)
  | _, _, u, p, .scr h1, r, e => by
    unfold toPyD at e
    cases e
    cases r
    obtain ⟨its, rv, ⟨o, n, ho, hc, _, hd⟩, _⟩ := I.list (ex_l x h1)
    exact .list ho hc hd (ints_rd rv)
  | _, _, u, p, .dct (kvs := kvs) (xs := ds) h1 h2, r, e => by
    unfold toPyD at e
    obtain ⟨ns, e1, rfl⟩ := Option.map_eq_some_iff.mp e
    have e2 := unInts_some e1
    subst e2
    cases r
    obtain ⟨_, hy, xs, hk, o, es, ep, ho, hx, hd, _, hp, _⟩ := I.hok _ _ (x _ _ h1)
    have hv := h2.ints
    have hl : (kvs.map (·.1)).length = ns.length := by
      have := congrArg List.length hv
      simpa using this
    have hkv := zip_kvs hv
    have hk' : KV (((kvs.map (·.1)).zip ns).map fun p => (p.1, V.int p.2)) xs := by rw [← hkv]; exact hk
    obtain ⟨c1, c2⟩ := dict_rd (X := X) (s := s) (kvs := kvs) hl hk' hp
    exact .dict ho hx.1 hd hy c1 c2
theorem Rep.rds (I : Inv X pins σ H s) (x : Ex B H) : ∀ {vs : List V} {ds : List D} {us : List Value} {ps : List PyData}, RepAll X.K B vs ds → Vals vs us → toPyDs ds = some ps → RdSs s.heap us ps
  | _, _, us, ps, .nil, r, e => by cases r; unfold toPyDs at e; cases e; exact .nil
  | _, _, us, ps, .cons a t, r, e => by
    unfold toPyDs at e
    obtain ⟨p, e1, e⟩ := Option.bind_eq_some_iff.mp e
    obtain ⟨qs, e2, rfl⟩ := Option.map_eq_some_iff.mp e
    cases r with
    | cons r1 r2 => exact .cons (Rep.rd I x a r1 e1) (Rep.rds I x t r2 e2)
end
end
def showD (p : PyData) : Option Str := if p.showable && decide (p.depth + 1 ≤ 60) && decide (p.shown.length ≤ sizeLine) then some p.shown else none
def bReprD : List D → Option D
  | [d] => (toPyD d).bind fun p => (showD p).map D.str
  | _ => none
def rReprD (K : PySem.W.Frag) : List V → Hp → VK → Prop := fun xs H Q => ∃ v B d p z, xs = [v] ∧ Ex B H ∧ Rep K B v d ∧ toPyD d = some p ∧ showD p = some z ∧ Q (.str z) H
theorem call_reprD {X : Cx} (hg : X.A.guards = some []) (hu : X.A.units + 64 < cLine) : CallR X (.builtin "repr") (rReprD X.K) := by
  intro pins s σ H xs us Q inv rel want
  obtain ⟨v, B, d, p, z, rfl, ex, rep, hp, sh, q⟩ := want
  obtain ⟨u, rfl, r⟩ := vals1 rel
  have rd := Rep.rd inv ex rep r hp
  unfold showD at sh
  split at sh
  · rename_i ok
    cases sh
    simp only [Bool.and_eq_true, decide_eq_true_eq] at ok
    obtain ⟨⟨o1, o3⟩, o4⟩ := ok
    have big : ∀ {a : Addr}, u = .ref a → wpAny (model X.prog X.w) X.A (call (.builtin "repr") [u]) (EP X pins σ Q) X.xe s := by
      intro a e
      subst e
      obtain ⟨T, idr, S⟩ := RdS.shows (prog := X.prog) (w := X.w) rd o1 o4
      exact call_repr_slot (by omega) (S.typeIs s fun _ _ e => e) S.slotRepr (S.call X.A.in1 _ s _ hg (by show X.A.units + 1 + p.depth < cLine; omega) (fun _ _ e => e) fun h' u tk keeps => ⟨_, _, rfl, ⟨.str _, H, inv.kept (t' := tk) fun b o e => keeps b o e, ⟨_, rfl⟩, q⟩⟩)
    cases rd with
    | none => exact PySem.P.repr_of_none ⟨.str _, H, inv.tok _, ⟨_, rfl⟩, by simpa only [PyData.shown] using q⟩
    | bool b => exact PySem.P.repr_of_bool ⟨.str _, H, inv.tok _, ⟨_, rfl⟩, by simpa only [PyData.shown] using q⟩
    | int i t =>
      have o1 : decide (i.natAbs.log2 < 1920) = true := by simpa only [PyData.showable] using o1
      exact PySem.P.repr_of_int (of_decide_eq_true o1) ⟨.str _, H, inv.tok _, ⟨_, rfl⟩, by simpa only [PyData.shown] using q⟩
    | str y t => exact PySem.P.repr_of_str ⟨.str _, H, inv.tok _, ⟨_, rfl⟩, by simpa only [PyData.shown] using q⟩ (by simpa only [PyData.shown] using o4)
    | list _ _ _ _ => exact big rfl
    | tuple _ _ _ _ => exact big rfl
    | dict _ _ _ _ _ _ => exact big rfl
  · cases sh
theorem rc_reprD {K : PySem.W.Frag} : RC K (rReprD K) bReprD := RCS.rc (by
  intro B H vs ds z e rx h
  unfold bReprD at h
  split at h
  · obtain ⟨p, hp, h⟩ := Option.bind_eq_some_iff.mp h
    obtain ⟨t, ht, rfl⟩ := Option.map_eq_some_iff.mp h
    obtain ⟨v, rfl, k⟩ := rx.one
    exact ⟨.str t, rfl, fun Q q => ⟨v, H, _, p, t, rfl, Ex.refl _, k.rep e, hp, ht, q⟩⟩
  · cases h)
end Vm

set_option Elab.async false
set_option linter.all false
set_option maxRecDepth 100000
/-! VT2: typed rules for values of any kind, for defs that may raise, for try. -/
namespace Vm
open PySem PySem.Spec PyProof.Rows L2 Evl
abbrev eD (d : D) : D := d
/-! ### values of any kind, as what they are -/
def unI : D → Int
  | .int i => i
  | _ => 0
def asInt (d : D) : M Int := ⟨d = .int (unI d), unI d⟩
def unL : D → List D
  | .lst xs => xs
  | _ => []
def asList (d : D) : M (List D) := ⟨d = .lst (unL d), unL d⟩
def asInts (d : D) : M (List Int) := ⟨d = .lst (((unL d).map unI).map D.int), (unL d).map unI⟩
def unO : D → Option Int
  | .int i => some i
  | _ => none
def asOpts (d : D) : M (List (Option Int)) := ⟨d = .lst (((unL d).map unO).map (eO D.int)), (unL d).map unO⟩
def unT : D → List D
  | .tup xs => xs
  | _ => []
def unP (d : D) : Int × Int := (unI ((unT d).getD 0 .non), unI ((unT d).getD 1 .non))
def asPairs (d : D) : M (List (Int × Int)) := ⟨d = .lst (((unL d).map unP).map (eT2 D.int D.int)), (unL d).map unP⟩
def isiD (d : D) (t : String) : M Bool := ⟨((tyD d).bind fun n => kitB n t).isSome = true, ((tyD d).bind fun n => kitB n t).getD false⟩
def isNon : D → Bool
  | .non => true
  | _ => false
section
variable {env e1 e2 e3 : En} {fa fb : En → Option (R × En)} {f : En → Option (List R × En)} {F G : En → Option Out} {t u : En → Option (Bool × En)} {ra rb rc r : R} {x y z d : D} {i j : Nat} {Q : Out → Prop} {b : Bool}
theorem ev_asInt {n : Int} (h : EV fa env (.val d) e1) (g : Hd (asInt d) n) : EV fa env (.val (.int n)) e1 := by
  have e : d = .int n := by rw [← g.eq]; exact g.ok
  rw [← e]; exact h
theorem ev_asInts {ns : List Int} (h : EV fa env (.val d) e1) (g : Hd (asInts d) ns) : EV fa env (.val (.lst (ns.map D.int))) e1 := by
  have e : d = .lst (ns.map D.int) := by rw [← g.eq]; exact g.ok
  rw [← e]; exact h
theorem ev_asOpts {ns : List (Option Int)} (h : EV fa env (.val d) e1) (g : Hd (asOpts d) ns) : EV fa env (.val (.lst (ns.map (eO D.int)))) e1 := by
  have e : d = .lst (ns.map (eO D.int)) := by rw [← g.eq]; exact g.ok
  rw [← e]; exact h
theorem ev_asPairs {ns : List (Int × Int)} (h : EV fa env (.val d) e1) (g : Hd (asPairs d) ns) : EV fa env (.val (.lst (ns.map (eT2 D.int D.int)))) e1 := by
  have e : d = .lst (ns.map (eT2 D.int D.int)) := by rw [← g.eq]; exact g.ok
  rw [← e]; exact h
theorem ev_asList {ds : List D} (h : EV fa env (.val d) e1) (g : Hd (asList d) ds) : EV fa env (.val (.lst (ds.map eD))) e1 := by
  have e : d = .lst ds := by rw [← g.eq]; exact g.ok
  rw [List.map_id'', ← e]
  · exact h
  · exact fun _ => rfl
theorem ev_frD {α : Type} {E : α → D} {xs : List α} (h : EV fa env (.fr (xs.map E)) e1) : EV fa env (.fr ((xs.map E).map eD)) e1 := by
  rw [List.map_id'' (f := eD) (fun _ => rfl)]
  exact h
theorem o_isiD {v : Bool} {t : String} (g : Hd (isiD d t) v) : bIsi [d, .ty t] = some (.bl v) := by
  obtain ⟨h, rfl⟩ := g
  have h : ((tyD d).bind fun n => kitB n t).isSome = true := h
  obtain ⟨w, e⟩ := Option.isSome_iff_exists.mp h
  show ((tyD d).bind fun n => (kitB n t).map D.bl) = some (.bl (((tyD d).bind fun n => kitB n t).getD false))
  rw [e]
  obtain ⟨n, e1, e2⟩ := Option.bind_eq_some_iff.mp e
  rw [e1]
  show (kitB n t).map D.bl = _
  rw [e2]
  rfl
theorem o_isND : dIsN d .non = some (.bl (isNon d)) := by cases d <;> rfl
theorem o_notND : dNotN d .non = some (.bl (!isNon d)) := by cases d <;> rfl
theorem o_tuple {α : Type} {E : α → D} {xs : List α} : bTuple [.lst (xs.map E)] = some (.tup (xs.map E)) := rfl
/-- a store of a new list, which is a value from then on -/
def sSetF (i : Nat) (f : En → Option (R × En)) : En → Option Out := fun env => (f env).bind fun a => (store i a.1 a.2).bind fun e => (sFrz i e)
theorem ss_setF {K : PySem.W.Frag} {fix : List Nat} {W : WX} {te : TE} {f : En → Option (R × En)} {i : Nat} (h : SE K te f) (hi : i ∉ fix) : SS K fix W (tAsg te (gName i)) (sSetF i f) := by
  intro C hC hF B env σ H o s e D p
  obtain ⟨⟨a, e1⟩, g1, e⟩ := Option.bind_eq_some_iff.mp e
  obtain ⟨e2, g2, e⟩ := Option.bind_eq_some_iff.mp e
  refine h C hC B env σ H a e1 s g1 _ fun v B1 H1 s1 x1 rv => ?_
  obtain ⟨B2, s2, x2⟩ := store_ok s1 (by rw [hF]; exact hi) rv g2
  unfold sFrz at e
  cases q : e2[i]? with
  | none => simp only [q] at e; cases e
  | some sl =>
    simp only [q] at e
    cases sl with
    | un => cases e
    | sh d => cases e
    | ow xs =>
      simp only [Option.some.injEq] at e
      subst e
      obtain ⟨pa, vs, k1, bp, gp, hp, ra⟩ := s2.sl i _ q
      have z : frz e2 (.al i) = some (.lst xs, e2.set i (.sh (.lst xs))) := by rw [x_frz3, q]
      obtain ⟨B3, s3, x3, _⟩ := frz_rep (v := .ref pa) s2 (show RepR C B2 e2 _ H1 (.ref pa) (.al i) from k1) z
      exact p B3 _ H1 s3 ((x1.trans x2).trans x3)
theorem g_setF {α : Type} {E : α → D} {xs : List α} (h : EV fa env (.fr (xs.map E)) e1) (hl : i < e1.length) (hs : e1.set i (.sh (.lst (xs.map E))) = e2) (q : Q (.nx e2)) : Go (sSetF i fa) env Q := by
  refine ⟨.nx e2, ?_, q⟩
  unfold sSetF
  rw [show fa env = _ from h]
  simp only [Option.bind_some]
  show (some (e1.set i (.ow (xs.map E)))).bind _ = _
  simp only [Option.bind_some, sFrz]
  rw [List.getElem?_set_self hl]
  simp only [List.set_set]
  rw [hs]
/-! ### repr, join -/
def reprDM (d : D) : M Str := ⟨((toPyD d).bind showD).isSome = true, ((toPyD d).bind showD).getD ""⟩
theorem o_reprD {d : D} {z : Str} (g : Hd (reprDM d) z) : bReprD [d] = some (.str z) := by
  obtain ⟨h, rfl⟩ := g
  have h : ((toPyD d).bind showD).isSome = true := h
  obtain ⟨w, e⟩ := Option.isSome_iff_exists.mp h
  obtain ⟨p, k1, k2⟩ := Option.bind_eq_some_iff.mp e
  show ((toPyD d).bind fun p => (showD p).map D.str) = some (.str (((toPyD d).bind showD).getD ""))
  rw [e, k1]
  show (showD p).map D.str = _
  rw [k2]
  rfl
/-! ### defs that may raise -/
def xalt {β : Type} (r : Option Str) (k : M (Option β)) (c : Str → M (Option β)) : M (Option β) := match r with
  | some x => c x
  | none => k
def xal (r : Option Str) (k : M (Option Str)) : M (Option Str) := xalt r k fun c => pr (some c)
theorem xc {r : Option Str} {k : M (Option Str)} {z : Option Str} {P : Prop} (h : Hd (xal r k) z) (h1 : ∀ c, r = some c → z = some c → P) (h2 : r = none → Hd k z → P) : P := by
  cases r with
  | some c => exact h1 c rfl h.eq.symm
  | none => exact h2 rfl h
theorem hdx {α : Type} {m : M α} {r s : α} (g : Hd m r) (e : r = s) : Hd m s := e ▸ g
def XQ (c : Str) (o : Out) : Prop := ∃ e, o = .er c e
theorem m_xer {c : Str} {fix : List Nat} {n k : Nat} {F : En → Option Out} {env : En} (hn : env.length = n) (h : Go F (env ++ List.replicate k .un) (XQ c)) : ∃ e, bodyM fix n k F env = some (.er c e) := by
  obtain ⟨o, h1, e, rfl⟩ := h
  unfold bodyM
  rw [if_pos hn, h1]
  exact ⟨_, rfl⟩
section
variable {g g1 g2 : En → Option (Option Str × En)} {c : Str} {n : Nat} {m : En → Option Res} {rs : List R} {ds : List D}
theorem g_xer (h : g env = some (some c, e1)) (q : Q (.er c e1)) : Go (xOr g F) env Q := ⟨_, x_er h, q⟩
theorem g_xok (h : g env = some (none, e1)) (q : Go F env Q) : Go (xOr g F) env Q := by
  obtain ⟨o, q1, q2⟩ := q
  exact ⟨o, by rw [x_ok h]; exact q1, q2⟩
theorem g_raise (q : Q (.er c env)) : Go (sRaise c) env Q := ⟨_, rfl, q⟩
theorem gc_aux (ha : AV f env rs e1) (hl : frzs e1 rs = some (ds, e2)) : aD f env = some (ds, e2) := by
  rw [x_aD, show f env = _ from ha]
  exact hl
theorem gc_ok (ha : AV f env rs e1) (hl : frzs e1 rs = some (ds, e2)) (hn : ds.length = n) (h : ∃ e, m (ds.map .sh) = some (.val z e)) : gCall n m f env = some (none, e2) := by
  obtain ⟨e, h⟩ := h
  unfold gCall
  rw [gc_aux ha hl]
  simp only [Option.bind_some]
  rw [if_pos hn, h]
  rfl
theorem gc_okL {zs : List D} (ha : AV f env rs e1) (hl : frzs e1 rs = some (ds, e2)) (hn : ds.length = n) (h : ∃ e, m (ds.map .sh) = some (.fr zs e)) : gCall n m f env = some (none, e2) := by
  obtain ⟨e, h⟩ := h
  unfold gCall
  rw [gc_aux ha hl]
  simp only [Option.bind_some]
  rw [if_pos hn, h]
  rfl
theorem gc_er (ha : AV f env rs e1) (hl : frzs e1 rs = some (ds, e2)) (hn : ds.length = n) (h : ∃ e, m (ds.map .sh) = some (.er c e)) : gCall n m f env = some (some c, e2) := by
  obtain ⟨e, h⟩ := h
  unfold gCall
  rw [gc_aux ha hl]
  simp only [Option.bind_some]
  rw [if_pos hn, h]
  rfl
theorem gcF {o : Option (Option Str × En)} {tbl : Tbl} {nm : Str} (hf : EV fa env (.val (.fn nm)) e1) (hm : tbl.lookup nm = some m) (h : gCall n m f e1 = o) : gCallF n tbl fa f env = o := by
  unfold gCallF
  rw [show fa env = _ from hf]
  simp only [Option.bind_some]
  rw [hm]
  exact h
theorem ev_callF {tbl : Tbl} {nm : Str} (hf : EV fa env (.val (.fn nm)) e1) (hm : tbl.lookup nm = some m) (h : EV (eCall n m f) e1 r e2) : EV (eCallF n tbl fa f) env r e2 := by
  unfold EV eCallF at *
  rw [hf]
  simp only [Option.bind_some]
  rw [hm]
  exact h
theorem gt {o : Option (Option Str × En)} (h : EV fa env r e1) (k : g e1 = o) : gThen fa g env = o := by
  unfold gThen
  rw [show fa env = _ from h]
  exact k
theorem gor1 (h : g1 env = some (some c, e1)) : gOr g1 g2 env = some (some c, e1) := by
  unfold gOr
  rw [h]
  rfl
theorem gor2 {o : Option (Option Str × En)} (h : g1 env = some (none, e1)) (k : g2 env = o) : gOr g1 g2 env = o := by
  unfold gOr
  rw [h]
  exact k
end
/-! ### try: which error, and what the suite tells of it -/
def TQ (env : En) (r : Option Str) (o : Out) : Prop := match r with
  | none => o = .nx env
  | some c => o = .er c env
def tryN (r : Option Str) (old : Str) (cs : List Str) (zn : Str → Option Str) : M Str := match r with
  | none => pr old
  | some c => ⟨c ∈ cs ∧ (zn c).isSome = true, (zn c).getD ""⟩
theorem g_try {told : Nat} {cs : List Str} {zn : Str → Option Str} {old w : Str} {ro : Option Str} (hb : Go F env (TQ env ro)) (h : Hd (tryN ro old cs zn) w) (ho : env[told]? = some (.sh (.str old))) (hu : env[i]? = some .un) (hne : told ≠ i) (hs : env.set told (.sh (.str w)) = e2) (q : Q (.nx e2)) :
    Go (sTry i F (sNamed told cs zn)) env Q := by
  obtain ⟨o, h1, h2⟩ := hb
  have hl : i < env.length := by
    rcases Nat.lt_or_ge i env.length with l | l
    · exact l
    · rw [List.getElem?_eq_none l] at hu; cases hu
  have hu' : env.set i .un = env := by
    refine List.ext_getElem? fun k => ?_
    by_cases hk : i = k
    · subst hk
      rw [List.getElem?_set_self hl, hu]
    · rw [List.getElem?_set_ne hk]
  cases ro with
  | none =>
    have h2 : o = .nx env := h2
    subst h2
    have e : old = w := h.eq
    subst e
    refine ⟨.nx env, by unfold sTry; rw [h1]; rfl, ?_⟩
    have : env.set told (.sh (.str old)) = env := by
      refine List.ext_getElem? fun k => ?_
      by_cases hk : told = k
      · subst hk
        rw [ho]
        have hl2 : told < env.length := by
          rcases Nat.lt_or_ge told env.length with l | l
          · exact l
          · rw [List.getElem?_eq_none l] at ho; cases ho
        rw [List.getElem?_set_self hl2]
      · rw [List.getElem?_set_ne hk]
    rw [← this, hs]
    exact q
  | some c =>
    have h2 : o = .er c env := h2
    subst h2
    obtain ⟨⟨k1, k2⟩, k3⟩ := h
    have k3 : (zn c).getD "" = w := k3
    obtain ⟨z, kz⟩ := Option.isSome_iff_exists.mp k2
    rw [kz] at k3
    have k3 : z = w := k3
    subst k3
    refine ⟨.nx e2, ?_, q⟩
    unfold sTry
    rw [h1]
    simp only [Option.bind_some]
    rw [if_pos hl, hu']
    unfold sNamed
    rw [if_pos k1, kz]
    show some (Out.nx ((env.set told (.sh (.str z))).set i .un)) = _
    rw [List.set_comm _ _ hne, hu', hs]
end
end Vm

set_option Elab.async false
set_option linter.all false
set_option maxRecDepth 100000
/-! VJ: methods of texts. -/
namespace Vm
open PySem PySem.Spec PyProof.Rows L2 Evl
section
variable {K : PySem.W.Frag} {te to : TE} {fo fe : En → Option (R × En)} {env e1 e2 : En}
/-- what a text's method of one argument gives -/
def RM1 (K : PySem.W.Frag) (r : V → List V → Hp → VK → Prop) (g : Str → D → Option D) : Prop := ∀ (B H : Hp) (z : Str) (y : V) (d w : D), Ex B H → RepK K B H y d → g z d = some w → ∃ v, sc w = some v ∧ ∀ Q : VK, Q v H → r (.str z) [y] H Q
def eM1 (g : Str → D → Option D) (fo fe : En → Option (R × En)) : En → Option (R × En) := fun env => (fo env).bind fun a => match a.1 with
  | .val (.str z) => (fe a.2).bind fun b => (look b.2 b.1).bind fun d => (g z d).map fun w => (.val w, b.2)
  | _ => none
theorem se_m1 {r : V → List V → Hp → VK → Prop} {g : Str → D → Option D} (hr : RM1 K r g) (ho : SE K to fo) (he : SE K te fe) : SE K (tM1 r to te) (eM1 g fo fe) := by
  intro C hC B env σ H res env' s e Q hq
  obtain ⟨⟨r0, e1⟩, g1, e⟩ := Option.bind_eq_some_iff.mp e
  simp only at e
  split at e
  · rename_i z
    obtain ⟨⟨r1, e2⟩, g2, e⟩ := Option.bind_eq_some_iff.mp e
    obtain ⟨d, g3, e⟩ := Option.bind_eq_some_iff.mp e
    obtain ⟨w, g4, e⟩ := Option.map_eq_some_iff.mp e
    cases e
    refine ho C hC B env σ H _ e1 s g1 _ fun x B1 H1 s1 x1 rr => ?_
    have rr : Rep C.K B1 x (.str z) := rr
    cases rr
    refine ⟨⟨_, rfl⟩, he C hC B1 e1 σ H1 _ _ s1 g2 _ fun y B2 H2 s2 x2 ry => ?_⟩
    have k := look_rep s2 ry g3
    rw [hC] at k
    obtain ⟨v, hv, q⟩ := hr B2 H2 z y d w s2.exB k g4
    exact q Q (hq v B2 H2 s2 (x1.trans x2) (by
      show Rep C.K B2 v w
      exact sc_rep hv))
  · cases e
def unStrs : List D → Option (List Str)
  | [] => some []
  | .str x :: ds => (unStrs ds).map fun xs => x :: xs
  | _ :: _ => none
theorem unStrs_some : ∀ {ds : List D} {xs : List Str}, unStrs ds = some xs → ds = xs.map D.str
  | [], xs, h => by cases h; rfl
  | d :: ds, xs, h => by
    cases d <;> first
      | (unfold unStrs at h; obtain ⟨ys, e, rfl⟩ := Option.map_eq_some_iff.mp h; rw [unStrs_some e]; rfl)
      | cases h
theorem unStrs_map : ∀ xs : List Str, unStrs (xs.map D.str) = some xs
  | [] => rfl
  | x :: xs => by rw [List.map_cons]; unfold unStrs; rw [unStrs_map xs]; rfl
/-- the signs of a join together -/
def JoinOk (a : Str) (ys : List Str) : Prop := (ys.map (·.length)).sum + ys.length * a.length ≤ 16777216
instance {a : Str} {ys : List Str} : Decidable (JoinOk a ys) := by unfold JoinOk; infer_instance
def dJoin (a : Str) : D → Option D
  | .lst ds => (unStrs ds).bind fun ys => if JoinOk a ys then some (.str (Txt.join a ys)) else none
  | _ => none
def rJoinM (K : PySem.W.Frag) : V → List V → Hp → VK → Prop := fun x xs H Q => ∃ a p, ∃ ys : List Str, x = .str a ∧ xs = [.ref p] ∧ (SqL K H p (ys.map V.str) ∨ SqT K H p (ys.map V.str)) ∧ JoinOk a ys ∧ Q (.str (Txt.join a ys)) H
theorem rm_join : RM1 K (rJoinM K) dJoin := by
  intro B H z y d w ex k h
  unfold dJoin at h
  split at h
  · obtain ⟨ys, e, h⟩ := Option.bind_eq_some_iff.mp h
    split at h
    · rename_i ok
      cases h
      have e := unStrs_some e
      subst e
      obtain ⟨a, ws, rfl, h1, h2⟩ := k.list ex
      have e2 := h2.strs
      subst e2
      exact ⟨_, rfl, fun Q q => ⟨z, a, ys, rfl, rfl, .inl (sq_of h1), ok, q⟩⟩
    · cases h
  · cases h
def joinM (a : Str) (ys : List Str) : M Str := ⟨JoinOk a ys, Txt.join a ys⟩
theorem o_join {a z : Str} {ys : List Str} (g : Hd (joinM a ys) z) : dJoin a (.lst (ys.map D.str)) = some (.str z) := by
  obtain ⟨h, rfl⟩ := g
  have h : JoinOk a ys := h
  show ((unStrs (ys.map D.str)).bind fun ys => if JoinOk a ys then some (D.str (Txt.join a ys)) else none) = _
  rw [unStrs_map]
  simp only [Option.bind_some]
  rw [if_pos h]
  rfl
theorem ev_m1 {g : Str → D → Option D} {z : Str} {d w : D} {r : R} (ho : EV fo env (.val (.str z)) e1) (he : EV fe e1 r e2) (hl : look e2 r = some d) (h : g z d = some w) : EV (eM1 g fo fe) env (.val w) e2 := by
  unfold EV eM1 at *
  rw [ho]
  simp only [Option.bind_some]
  rw [he]
  simp only [Option.bind_some]
  rw [hl]
  simp only [Option.bind_some]
  rw [h]
  rfl
end
/-! ### isinstance of the error that is handled, typed -/
def allE (ts : List Str) (c : Str) : D → Option Bool
  | .tup ds => anyE ts c ds
  | d => subE ts c d
theorem bIsE_eq {ts : List Str} {c : Str} {a : Addr} {d : D} : bIsE ts a c [.ref a, d] = (allE ts c d).map D.bl := by cases d <;> simp [bIsE, allE]
def subEM (ts : List Str) (c : Str) (d : D) : M Bool := ⟨(allE ts c d).isSome = true, (allE ts c d).getD false⟩
theorem o_isE {ts : List Str} {c : Str} {a : Addr} {d : D} {v : Bool} (g : Hd (subEM ts c d) v) : bIsE ts a c [.ref a, d] = some (.bl v) := by
  obtain ⟨h, rfl⟩ := g
  have h : (allE ts c d).isSome = true := h
  obtain ⟨w, q⟩ := Option.isSome_iff_exists.mp h
  rw [bIsE_eq, q]
  show some (D.bl w) = some (.bl ((allE ts c d).getD false))
  rw [q]
  rfl
/-! ### the def of the error's kind, known -/
structure DefE (P : Program) (w : World) (K : PySem.W.Frag) (mg : Str → Option Value) (base : Heap) (x : Str) (ps : List Str) (k : Nat) (cs : List Str) (mm : Addr → Str → En → Option Res) : Prop where
  ex : ∃ f fd, mg x = some (.ref f) ∧ FnE P w K mg base k f fd ps (spErr K cs mm) ∧ PySem.W.keepIn K (.ref f) = true ∧ Binds K fd ps []
theorem FnE.up {P : Program} {w : World} {K : PySem.W.Frag} {mg : Str → Option Value} {base : Heap} {j k : Nat} {f : Addr} {fd : FuncData} {ps : List Str} {sp : Addr × Obj → Sp} (F : FnE P w K mg base j f fd ps sp) (h : j ≤ k) : FnE P w K mg base k f fd ps sp :=
  ⟨F.len, fun A outer s H args us vs Q E p r => F.go A outer s H args us vs Q E p (r.mono h)⟩
theorem pe_errD {X : Cx} {a : Addr} {oe : Obj} {cls : Value} {d : Option Addr} {pn : List (Addr × Obj)} {j k i : Nat} {ps : List Str} {cs : List Str} {mm : Addr → Str → En → Option Res} {x n : Str} {p q pos : Pos} (hz : L2N.Zn cls d oe) (hv : ∃ vs, oe.data = .fields vs)
    (h : DefE X.prog X.w X.K X.mg X.base x ps k cs mm) (hr : Rg j X.A) (hj : k ≤ j) (hg : Gl (X.suite a ((a, oe) :: pn)) x) (hN : X.N[i]? = some n) (hV : Vis X.env.scope n)
    (hdb : (x == ("__debug__" : Str)) = false := by decide) (hd1 : (n == ("__debug__" : Str)) = false := by decide) (hd2 : (n == ("__classdict__" : Str)) = false := by decide)
    (he : starEach [.Name n q] X.env = (false, eval (.Name n q) X.env) :: starEach [] X.env := by rfl) (hpl : (backTo pos (starEach [] X.env)).any (·.1) = false := by rfl) :
    PE (X.suite a ((a, oe) :: pn)) (.Call (.Name x p) [.Name n q] [] pos) (tErrC X.K cs mm i a cls d) := by
  obtain ⟨f, fd, at_f, F, kp, bn⟩ := h.ex
  exact pe_errC hz hv (F.up hj) ⟨hr.rm.dp, hr.rm.un⟩ hg at_f kp bn hN hV hdb hd1 hd2 he hpl
end Vm

set_option Elab.async false
set_option linter.all false
set_option maxRecDepth 100000
/-! VQ: raise of a class with an f-string. -/
namespace Vm
open PySem PySem.Spec PyProof.Rows L2 Evl
section
variable {X : Cx} {cl : Addr} {bs : List Value} {bn idn idi : String}
/-- CLS(e) -/
theorem pmk_ownS {y : Str} {a : Expr} {tm : TE} {p1 p2 : Pos} (FB : ExcBaseFacts bn idn idi bs) (xi : PySem.W.excIn X.K cl bs idn = true) (gm : X.mg y = some (.ref cl)) (kp : PySem.W.keepIn X.K (.ref cl) = true) (rs : Raises X (.ref cl)) (gl : Gl X y) (hm : PE X a tm)
    (hst : starEach [a] X.env = (false, eval a X.env) :: starEach [] X.env := by rfl) (hdbg : (y == ("__debug__" : Str)) = false := by decide) :
    L2N.PMk X (.Call (.Name y p1) [a] [] p2) (fun σ H Q => tm σ H fun _ H1 => Q (.ref cl) none H1) := by
  intro pn sh sg Hp0 QQ inv want
  refine wpAny_Call_Name_kw (ld_glob inv gl gm ?_ hdbg)
  refine PySem.W.callWith_K (h₀ := X.base) inv.ok.mod.kin kp ?_ hst (by rfl)
  rw [hst]
  show wpAny _ _ (spliced ((false, eval a X.env) :: backTo p2 (starEach [] X.env))) _ _ sh
  refine Calls.spliced_cons (thn (hm.run pn sh sg Hp0 _ inv want) fun w sh1 ⟨v, H1, inv1, rel, fin⟩ => ?_)
  refine Calls.spliced_nil ⟨inv1.kIn, show wpAny _ _ (call (.ref cl) [w]) _ _ _ from ?_⟩
  obtain ⟨bm, N, nm, qn, bz, hdct, sn, sub, ab, col, dd, k0, k1, k2, k3, k5, mN, hC, hN, hni, T⟩ := exc_obj inv1.kIn xi
  exact wpAny_call_exc_subT FB T hC hN hni (fun hh ee made => L2N.mk_of inv1 made rs fin (inv1.hok.gone made.new)) (by show 1 ≤ sizeLine; rw [sizeLine_eq]; omega)
end
section
variable {K : PySem.W.Frag} {te : TE} {fix : List Nat} {W : WX} {env e1 : En} {f : En → Option (R × En)} {Q : Out → Prop}
def sRaiseS (c : Str) (f : En → Option (R × En)) : En → Option Out := fun env => (f env).map fun a => .er c a.2
theorem ss_raiseS {c : Str} {a : Addr} (ha : clsOf K c = a) (h : SE K te f) : SS K fix W (fun _ σ H => te σ H fun _ H1 => W (.ref a) none σ H1) (sRaiseS c f) := by
  intro C hC hF B env σ H o s e D p
  obtain ⟨⟨r, e1⟩, g1, rfl⟩ := Option.map_eq_some_iff.mp e
  refine h C hC B env σ H r e1 s g1 _ fun v B1 H1 s1 x1 rv => ?_
  have q := p B1 σ H1 s1 x1
  rw [hC, ha] at q
  exact q
/-- {n}, n a number -/
def eFmt (f : En → Option (R × En)) : En → Option (R × En) := fun env => (f env).bind fun a => match a.1 with
  | .val (.int i) => if i.natAbs.log2 < 1920 then some (.val (.str (toString i)), a.2) else none
  | _ => none
theorem se_fmt (h : SE K te f) : SE K (tFmt te) (eFmt f) := by
  intro C hC B env σ H r env' s e Q hq
  obtain ⟨⟨a, e1⟩, g1, e⟩ := Option.bind_eq_some_iff.mp e
  simp only at e
  split at e
  · rename_i i
    split at e
    · rename_i hz
      cases e
      refine h C hC B env σ H _ _ s g1 _ fun v B1 H1 s1 x1 rv => ?_
      have rv : Rep C.K B1 v (.int i) := rv
      cases rv
      exact .inr ⟨i, rfl, hz, hq (.str (toString i)) B1 H1 s1 x1 (by show Rep C.K B1 _ _; exact .str _)⟩
    · cases e
  · cases e
def eJs : List (En → Option (R × En)) → Str → En → Option (R × En)
  | [], acc, env => some (.val (.str acc), env)
  | f :: fs, acc, env => (f env).bind fun a => match a.1 with
    | .val (.str y) => if (acc ++ y).length ≤ sizeLine then eJs fs (acc ++ y) a.2 else none
    | _ => none
inductive SEs (K : PySem.W.Frag) : List TE → List (En → Option (R × En)) → Prop where
  | nil : SEs K [] []
  | cons {t : TE} {f : En → Option (R × En)} {ts : List TE} {fs : List (En → Option (R × En))} (h : SE K t f) (r : SEs K ts fs) : SEs K (t :: ts) (f :: fs)
theorem se_js {ts : List TE} {fs : List (En → Option (R × En))} (hs : SEs K ts fs) : ∀ acc : Str, SE K (fun σ H Q => tJs ts acc σ H fun out H1 => Q (.str out) H1) (eJs fs acc) := by
  induction hs with
  | nil =>
    intro acc C hC B env σ H r env' s e Q hq
    cases e
    exact hq (.str acc) B H s (Ex.refl _) (by show Rep C.K B _ _; exact .str _)
  | @cons t f ts fs h r ih =>
    intro acc C hC B env σ H res env' s e Q hq
    obtain ⟨⟨a, e1⟩, g1, e⟩ := Option.bind_eq_some_iff.mp e
    simp only at e
    split at e
    · rename_i y
      split at e
      · rename_i hz
        refine h C hC B env σ H _ _ s g1 _ fun v B1 H1 s1 x1 rv => ?_
        have rv : Rep C.K B1 v (.str y) := rv
        cases rv
        exact ⟨y, rfl, hz, ih (acc ++ y) C hC B1 e1 σ H1 res env' s1 e Q fun v2 B2 H2 s2 x2 r2 => hq v2 B2 H2 s2 (x1.trans x2) r2⟩
      · cases e
    · cases e
/-- the parts, all short -/
inductive FsV (env : En) : List (En → Option (R × En)) → Nat → Prop where
  | nil : FsV env [] 0
  | str {z : Str} {fs : List (En → Option (R × En))} {n : Nat} (hz : z.length ≤ 1002) (r : FsV env fs n) : FsV env (eC (.str z) :: fs) (n + 1)
  | int {f : En → Option (R × En)} {i : Int} {fs : List (En → Option (R × En))} {n : Nat} (h : EV f env (.val (.int i)) env) (hi : i.natAbs < 2 ^ 1000) (r : FsV env fs n) : FsV env (eFmt f :: fs) (n + 1)
theorem log_small {i : Int} (hi : i.natAbs < 2 ^ 1000) : i.natAbs.log2 < 1000 := by
  by_cases z : i.natAbs = 0
  · rw [z]; decide
  · exact (Nat.log2_lt z).mpr hi
theorem fsv {fs : List (En → Option (R × En))} {n : Nat} (h : FsV env fs n) : ∀ acc : Str, acc.length + 1002 * n ≤ 100000 → ∃ z, eJs fs acc env = some (.val (.str z), env) := by
  induction h with
  | nil => exact fun acc _ => ⟨acc, rfl⟩
  | @str z fs n hz r ih =>
    intro acc hl
    have e : (acc ++ z).length = acc.length + z.length := strLen_append _ _
    obtain ⟨w, hw⟩ := ih (acc ++ z) (by omega)
    refine ⟨w, ?_⟩
    show (some (R.val (D.str z), env)).bind _ = _
    simp only [Option.bind_some]
    rw [if_pos (by rw [sizeLine_eq]; omega)]
    exact hw
  | @int f i fs n h hi r ih =>
    intro acc hl
    have hz : (Str.ofString (toString i)).length ≤ 1001 := by
      rw [PySem.ofString_length]
      exact int_text_length_le (by decide) (log_small hi)
    have e : (acc ++ Str.ofString (toString i)).length = acc.length + (Str.ofString (toString i)).length := strLen_append _ _
    obtain ⟨w, hw⟩ := ih (acc ++ Str.ofString (toString i)) (by omega)
    refine ⟨w, ?_⟩
    show (eFmt f env).bind _ = _
    unfold eFmt
    rw [show f env = _ from h]
    simp only [Option.bind_some]
    rw [if_pos (Nat.lt_trans (log_small hi) (by decide))]
    simp only [Option.bind_some]
    rw [if_pos (by rw [sizeLine_eq]; omega)]
    exact hw
theorem g_raiseS {fs : List (En → Option (R × En))} {n : Nat} {c : Str} (h : FsV env fs n) (hn : n ≤ 90) (q : Q (.er c env)) : Go (sRaiseS c (eJs fs Str.empty)) env Q := by
  obtain ⟨z, hz⟩ := fsv h Str.empty (by show 0 + _ ≤ _; omega)
  refine ⟨.er c env, ?_, q⟩
  unfold sRaiseS
  rw [hz]
  rfl
/-- the numbers of a message are not beyond all bounds -/
def fsM (xs : List Int) : M Unit := ⟨∀ x ∈ xs, x.natAbs < 2 ^ 1000, ()⟩
theorem fsM_1 {x : Int} {xs : List Int} (h : ∀ y ∈ x :: xs, y.natAbs < 2 ^ 1000) : x.natAbs < 2 ^ 1000 := h x List.mem_cons_self
theorem fsM_2 {x : Int} {xs : List Int} (h : ∀ y ∈ x :: xs, y.natAbs < 2 ^ 1000) : ∀ y ∈ xs, y.natAbs < 2 ^ 1000 := fun y hy => h y (List.mem_cons_of_mem _ hy)
end
end Vm

set_option Elab.async false
set_option linter.all false
set_option maxRecDepth 100000
/-! VO: defs that give None or a new list. -/
namespace Vm
open PySem PySem.Spec PyProof.Rows L2 Evl
def resO {α : Type} (E : α → D) (r : Option (List α)) (e : En) : Res := match r with
  | none => .val .non e
  | some xs => .fr (xs.map E) e
def rO {α : Type} (E : α → D) (r : Option (List α)) : R := match r with
  | none => .val .non
  | some xs => .fr (xs.map E)
def OO {α : Type} (n : Nat) (E : α → D) (r : Option (List α)) (o : Out) : Prop := match r with
  | none => ∃ e, o = .rt (.val .non) e
  | some xs => OF n E xs o
section
variable {α : Type} {E : α → D} {env e1 e2 e3 : En} {f fa : En → Option (List R × En)} {fx : En → Option (R × En)} {n : Nat} {m : En → Option Res} {rs : List R} {ds : List D} {z : Option (List α)} {e : En} {Q : Out → Prop} {F : En → Option Out}
theorem m_on {a : Option (List α)} {fix : List Nat} {n k : Nat} {F : En → Option Out} {env : En} (hn : env.length = n) (h : Go F (env ++ List.replicate k .un) (OO n E a)) : ∃ e, bodyM fix n k F env = some (resO E a e) := by
  cases a with
  | some xs => exact m_fr hn h
  | none =>
    obtain ⟨o, h1, e, rfl⟩ := h
    unfold bodyM
    rw [if_pos hn, h1]
    exact ⟨_, rfl⟩
theorem oo_non : OO n E none (.rt (.val .non) e) := ⟨e, rfl⟩
theorem oo_ret : OO n E z (.rt (rO E z) e) := by
  cases z with
  | none => exact ⟨e, rfl⟩
  | some xs => exact of_fr
theorem ev_callO (ha : AV f env rs e1) (hl : frzs e1 rs = some (ds, e1)) (hn : ds.length = n) (h : ∃ e, m (ds.map .sh) = some (resO E z e)) : EV (eCall n m f) env (rO E z) e1 := by
  cases z with
  | none => exact ev_call ha hl hn h
  | some xs => exact ev_callL ha hl hn h
theorem gc_okO (ha : AV f env rs e1) (hl : frzs e1 rs = some (ds, e2)) (hn : ds.length = n) (h : ∃ e, m (ds.map .sh) = some (resO E z e)) : gCall n m f env = some (none, e2) := by
  cases z with
  | none => exact gc_ok ha hl hn h
  | some xs => exact gc_okL ha hl hn h
theorem ev_on0 (h : EV fx env (rO E z) e1) (q : z = none) : EV fx env (.val .non) e1 := by
  subst q
  exact h
theorem ev_on1 {xs : List α} (h : EV fx env (rO E z) e1) (q : z = some xs) : EV fx env (.fr (xs.map E)) e1 := by
  subst q
  exact h
theorem lv_on (h : EV fx env (rO E z) e1) : LV fx env (match z with | none => .non | some xs => .lst (xs.map E)) e1 := by
  cases z with
  | none => exact lv_of h fun _ => rfl
  | some xs => exact lv_of h fun _ => rfl
theorem o_isNO : dIsN (match z with | none => D.non | some xs => .lst (xs.map E)) .non = some (.bl z.isNone) := by
  cases z with
  | none => rfl
  | some xs => rfl
theorem o_notNO : dNotN (match z with | none => D.non | some xs => .lst (xs.map E)) .non = some (.bl z.isSome) := by
  cases z with
  | none => rfl
  | some xs => rfl
/-- goes on by what it is -/
def onM {β : Type} (r : Option (List α)) (k0 : M β) (k1 : List α → M β) : M β := match r with
  | none => k0
  | some xs => k1 xs
theorem on_c {β : Type} {r : Option (List α)} {k0 : M β} {k1 : List α → M β} {w : β} {P : Prop} (h : Hd (onM r k0 k1) w) (h0 : r = none → Hd k0 w → P) (h1 : ∀ xs, r = some xs → Hd (k1 xs) w → P) : P := by
  cases r with
  | none => exact h0 rfl h
  | some xs => exact h1 xs rfl h
theorem hd_on0 {β : Type} {k0 : M β} {k1 : List α → M β} {w : β} (h : Hd k0 w) : Hd (onM none k0 k1) w := h
theorem hd_on1 {β : Type} {k0 : M β} {k1 : List α → M β} {w : β} {xs : List α} (h : Hd (k1 xs) w) : Hd (onM (some xs) k0 k1) w := h
end
end Vm

set_option Elab.async false
set_option linter.all false
set_option maxRecDepth 100000
set_option maxHeartbeats 4000000
/-! VU: a tuple, repeated. -/
namespace Vm
open PySem PySem.Spec PyProof.Rows L2 Evl
theorem mul_once (l : Addr) (its : Array Value) (n : Nat) (dd : Option Addr) (sl : Array (Option Value)) (u : Tok) :
    Meets (Builtin.«tuple.__mul__» ⟨[.ref l, .int 1 u], []⟩) (fun _ R s => s.heap.get? l = some { cls := .type "tuple", dict := dd, data := .seq its n, slots := sl } ∧ R (.ok (.ret (Value.ref l))) s) :=
  .of_wp fun prog w A R s want => by
    obtain ⟨hp, g, d, tk, os⟩ := s
    obtain ⟨hl, want⟩ := want
    have idx := AutoSeq1.idx_int
    wp_walk using wpAny_loadPart' hl
    exact ⟨_, rfl, want⟩
def rRepT2 (K : PySem.W.Frag) : R2 := fun x y H Q => rRepT K x y H Q ∨ ∃ l xs, x = .ref l ∧ y = .int 1 ∧ SqT K H l xs ∧ Q x H
section
variable {X : Cx}
theorem op_repT2 : OpR X (binaryOp .Mult) (rRepT2 X.K) := by
  intro pn s sg H x y v u Q inv rx ry want
  rcases want with want | ⟨l, xs, rfl, rfl, hT, fin⟩
  · exact op_repT pn s sg H x y v u Q inv rx ry want
  · cases rx
    obtain ⟨t, rfl⟩ := ry
    obtain ⟨its, rel, ⟨⟨cls, dd, data, sl⟩, ho, hc, n, hd⟩, hs⟩ := inv.tuple hT
    simp only at hc hd
    subst hc hd
    exact wpAny_binaryOp_repeat_ref (T := "tuple") (U := "int") (by decide) ⟨_, ho, rfl⟩ (fun sh => typeIs_int sh 1 t) noFill_tuple_mul F.fills_int_mul F.slot_int_rmul repeat_tuple F.slot_int_index.lookup
      (call_meets F.slot_int_rmul (typeIs_int s 1 t) F.entry_int_rmul (F.args_int_rmul_2 _ _) (int_rmul_tuple 1 t l its.toArray n dd sl)
        ⟨ho, rfl, ⟨_, ho, rfl⟩, call_meets F.slot_tuple_mul ⟨_, ho, rfl⟩ F.entry_tuple_mul (F.args_tuple_mul_2 _ _) (mul_once l its.toArray n dd sl t) ⟨ho, ⟨.ref l, H, inv, rfl, fin⟩⟩⟩)
end
section
variable {K : PySem.W.Frag}
def dRepT : D → D → Option D
  | .tup xs, .int k => if xs ≠ [] ∧ 1 ≤ k ∧ k ≤ 1000 ∧ xs.length ≤ 1000 then some (.tup (List.replicate k.toNat xs).flatten) else none
  | _, _ => none
theorem ro_repT : RO K (rRepT2 K) dRepT := by
  intro C hC B env σ H x y dx dy z s rx ry e Q hq
  unfold dRepT at e
  split at e
  · rename_i xs k
    split at e
    · rename_i hk
      obtain ⟨h0, h1, h2, h3⟩ := hk
      cases e
      have rx := rx.scal fun _ z => by cases z
      have rx0 : Rep K B x (.tup xs) := by rw [← hC]; rw [hC]; exact rx
      obtain ⟨l, vs, rfl, r1, r2⟩ := rx0.tuple
      have ey := ry.int
      subst ey
      by_cases hk1 : k = 1
      · subst hk1
        refine .inr ⟨l, vs, rfl, rfl, ex_t s.exB r1, hq (.ref l) B H s (Ex.refl _) ?_⟩
        have ef : (List.replicate (1 : Int).toNat xs).flatten = xs := by simp
        rw [ef]
        exact rx0
      · refine .inl ⟨l, k, vs, rfl, rfl, ex_t s.exB r1, fun z => h0 ?_, by omega, h2, by rw [r2.length]; exact h3, fun p hp => ?_⟩
        · have := r2.length
          rw [z] at this
          exact List.eq_nil_of_length_eq_zero this.symm
        · have bp := fresh_back s.exB hp
          refine hq (.ref p) (upd B p (.tup (List.replicate k.toNat vs).flatten)) _ (s.alloc hp) (Ex.new bp) ?_
          exact .tup (st_of upd_same) ((repAll_flat r2 _).mono (Ex.new bp))
    · cases e
  · cases e
theorem o_repT {α : Type} {E : α → D} {xs : List D} {k : Int} (h : xs ≠ [] ∧ 1 ≤ k ∧ k ≤ 1000 ∧ xs.length ≤ 1000) : dRepT (.tup xs) (.int k) = some (.tup (List.replicate k.toNat xs).flatten) := by
  exact if_pos h
def repTM (xs : List D) (k : Int) : M D := ⟨xs ≠ [] ∧ 1 ≤ k ∧ k ≤ 1000 ∧ xs.length ≤ 1000, .tup (List.replicate k.toNat xs).flatten⟩
theorem o_repTM {xs : List D} {k : Int} {z : D} (g : Hd (repTM xs k) z) : dRepT (.tup xs) (.int k) = some z := by
  obtain ⟨h, rfl⟩ := g
  exact o_repT (E := fun d : D => d) h
end
end Vm

set_option Elab.async false
set_option linter.all false
set_option maxRecDepth 100000
set_option maxHeartbeats 2000000
/-! VL: how many numbers a list has, each told once. -/
namespace Vm
open PySem PySem.Spec PyProof.Rows L2 Evl
theorem met_le (f : Nat → Int) : ∀ i : Nat, (PyProof.Rows.firstMet f i).length ≤ i
  | 0 => Nat.le_refl _
  | i + 1 => by
    have ih := met_le f i
    rw [PyProof.Rows.firstMet_succ]
    unfold PyProof.Rows.step_dedup
    split
    · omega
    · rw [List.length_append, List.length_singleton]
      omega
def once (ns : List Int) : Nat := (PyProof.Rows.firstMet (fun i => ns.getD i 0) ns.length).length
def tLenOnce (K : PySem.W.Frag) (ta : TE) : TE := fun σ H Q => ta σ H fun x H1 => ∃ (l : Addr) (ns : List Int), x = .ref l ∧ SqL K H1 l (ns.map V.int) ∧ ns.length ≤ 4000 ∧ Q (.int (once ns : Nat)) H1
theorem pe_lenOnce {X : Cx} {e1 : Expr} {te : TE} {q1 q2 q3 q4 : Pos} (gl : Gl X "len") (ml : X.mg "len" = none) (gs : Gl X "set") (ms : X.mg "set" = none) (he : PE X e1 te) (calm : X.calm = true := by rfl)
    (one : starEach [e1] X.env = (false, eval e1 X.env) :: starEach [] X.env := by rfl) : PE X (.Call (.Name "len" q1) [.Call (.Name "set" q2) [e1] [] q3] [] q4) (tLenOnce X.K te) := by
  refine ⟨fun pn sh sg Hp0 QQ inv want => ?_⟩
  refine Call_ (ld_blt inv gl ml boot_len (PyProof.Rows.callWith_builtin1 (PyProof.Rows.args_cons ?_ rfl) rfl rfl))
  refine Call_ (ld_blt inv gs ms boot_set ?_)
  refine PyProof.Rows.callWith_type1 (PyProof.Rows.args_cons (thn (he.run pn sh sg Hp0 _ inv want) fun w s1 ⟨x, H1, inv1, rel, fin⟩ => PyProof.Rows.args_nil ?_) one) one rfl
  obtain ⟨l, ns, rfl, sq, short, fin⟩ := fin
  cases rel
  obtain ⟨its, rr, pl, hz⟩ := inv1.list sq
  have size : its.toArray.size = ns.length := by rw [List.size_toArray, ← rr.length, List.length_map]
  refine call_set_list (inv1.ok.hd calm) pl.isList (by simpa using RZ.intsAre_vals rr) (by rw [size]; unfold scanBound; omega) fun hh tk made kept => PyProof.Rows.args_nil ?_
  rw [size] at made
  obtain ⟨o, es, ep, t, ho, hex, hd, _, _, _, hf, hn⟩ := made
  have inv2 : Inv X pn sg H1 { s1 with heap := hh, toks := tk } := inv1.kept fun b o e => kept b o (Heap.lt_size e) e
  have small : (PyProof.Rows.firstMet (fun i => ns.getD i 0) ns.length).length ≤ 4000 := Nat.le_trans (met_le _ _) short
  exact call_len_set ho hex hd hf (by rw [hn]; omega) ⟨.int (once ns : Nat), H1, inv2.tok _, ⟨_, by rw [hn]; rfl⟩, fin⟩
theorem once_nodup {ns : List Int} (h : ns.Nodup) : once ns = ns.length := by
  unfold once
  rw [RZ.firstMet_nodup h ns.length (Nat.le_refl _), List.take_length]
section
variable {K : PySem.W.Frag} {te : TE}
def eLenOnce (f : En → Option (R × En)) : En → Option (R × En) := fun env => (f env).bind fun a => (look a.2 a.1).bind fun d => match d with
  | .lst xs => (unInts xs).bind fun ns => if ns.length ≤ 4000 then some (.val (.int (once ns)), a.2) else none
  | _ => none
theorem se_lenOnce {f : En → Option (R × En)} (h : SE K te f) : SE K (tLenOnce K te) (eLenOnce f) := by
  intro C hC B env σ H r env' s e Q hq
  obtain ⟨⟨a, e1⟩, g1, e⟩ := Option.bind_eq_some_iff.mp e
  obtain ⟨d, g2, e⟩ := Option.bind_eq_some_iff.mp e
  split at e
  · rename_i xs
    obtain ⟨ns, g3, e⟩ := Option.bind_eq_some_iff.mp e
    split at e
    · rename_i hn
      cases e
      refine h C hC B env σ H a e1 s g1 _ fun v B1 H1 s1 x1 rr => ?_
      have k := look_rep s1 rr g2
      rw [hC] at k
      obtain ⟨l, rfl, h2⟩ := k.ints s1.exB g3
      exact ⟨l, ns, rfl, sq_of h2, hn, hq _ B1 H1 s1 x1 (.int _)⟩
    · cases e
  · cases e
end
def lenOnceM (xs : List Int) : M Int := ⟨xs.length ≤ 4000, once xs⟩
theorem ev_lenOnce {f : En → Option (R × En)} {env e1 : En} {r : R} {xs : List Int} {v : Int} (h : EV f env r e1) (hz : look e1 r = some (.lst (xs.map D.int))) (g : Hd (lenOnceM xs) v) : EV (eLenOnce f) env (.val (.int v)) e1 := by
  obtain ⟨g, rfl⟩ := g
  have g : xs.length ≤ 4000 := g
  unfold EV eLenOnce at *
  rw [h]
  simp only [Option.bind_some]
  rw [hz]
  simp only [Option.bind_some]
  rw [unInts_map]
  simp only [Option.bind_some]
  rw [if_pos g]
  rfl
end Vm

set_option Elab.async false
set_option linter.all false
set_option maxRecDepth 100000
/-! VK: calls by keyword alone. -/
namespace Vm
open PySem PySem.Spec PyProof.Rows L2 Evl
/-- the values in the parameters' order -/
def pm {α : Type} (js : List Nat) (xs : List α) : List α := js.filterMap fun j => xs[j]?
theorem vals_at : ∀ {vs : List V} {us : List Value}, Vals vs us → ∀ j : Nat, (vs[j]? = none ∧ us[j]? = none) ∨ ∃ v u, vs[j]? = some v ∧ us[j]? = some u ∧ RelV v u
  | [], _, .nil, j => .inl ⟨rfl, rfl⟩
  | v :: vs, u :: us, .cons r t, 0 => .inr ⟨v, u, rfl, rfl, r⟩
  | v :: vs, u :: us, .cons r t, j + 1 => vals_at t j
theorem vals_pm {vs : List V} {us : List Value} (h : Vals vs us) : ∀ js : List Nat, Vals (pm js vs) (pm js us)
  | [] => .nil
  | j :: js => by
    have ih := vals_pm h js
    unfold pm at *
    rcases vals_at h j with ⟨a, b⟩ | ⟨v, u, a, b, r⟩
    · rw [List.filterMap_cons, List.filterMap_cons, a, b]
      exact ih
    · rw [List.filterMap_cons, List.filterMap_cons, a, b]
      exact .cons r ih
/-- how a def binds what is given by keyword alone -/
structure BindsK (fd : FuncData) (ps ks : List Str) (js : List Nat) : Prop where
  to : ∀ (s : Shared) (us : List Value), ks.length ≤ us.length → BindsTo s fd ⟨[], ks.zip us⟩ (ps.zip (pm js us))
theorem pm_le {α : Type} (xs : List α) : ∀ js : List Nat, (pm js xs).length ≤ js.length
  | [] => Nat.le_refl _
  | j :: js => by
    have ih := pm_le xs js
    unfold pm at *
    rw [List.filterMap_cons]
    split
    · rw [List.length_cons]; omega
    · rw [List.length_cons, List.length_cons]; omega
theorem pm_all {α : Type} {xs : List α} : ∀ {js : List Nat}, (pm js xs).length = js.length → ∀ j ∈ js, j < xs.length
  | [], _, j, hj => by cases hj
  | i :: js, h, j, hj => by
    have hle := pm_le xs js
    unfold pm at *
    rw [List.filterMap_cons] at h
    split at h
    · rw [List.length_cons] at h; omega
    · rename_i b hb
      rw [List.length_cons, List.length_cons] at h
      rcases List.mem_cons.mp hj with rfl | hj
      · exact (List.getElem?_eq_some_iff.mp hb).1
      · exact pm_all (js := js) (by unfold pm; omega) j hj
structure DefGK (P : Program) (w : World) (K : PySem.W.Frag) (mg : Str → Option Value) (base : Heap) (x : Str) (ps : List Str) (k : Nat) (m : En → Option Res) (ks : List Str) (js : List Nat) : Prop where
  ex : ∃ f fd, mg x = some (.ref f) ∧ FnG P w K mg base CX0 k f fd ps (SpM K ps.length m) ∧ PySem.W.keepIn K (.ref f) = true ∧ BindsK fd ps ks js
def tPerm (js : List Nat) (t : TA) : TA := fun σ H Q => t σ H fun vs H1 => Q (pm js vs) H1
section
variable {X : Cx} {x : Str} {ps ks : List Str} {js : List Nat} {n k j : Nat} {m : En → Option Res} {p pos : Pos} {kws : List Keyword} {tk : TA}
theorem pe_dGK (h : DefGK X.prog X.w X.K X.mg X.base x ps k m ks js) (hn : ps.length = n) (hr : Rg j X.A) (hj : k ≤ j) (hg : Gl X x) (ha : PK X kws tk) (hjs : ks.length - 1 ∈ js ∧ js.length = ps.length)
    (hdb : (x == ("__debug__" : Str)) = false := by decide) (hall : (backToKw pos (keywordEach kws X.env)).all (·.1.isSome) = true := by rfl) (hks : (backToKw pos (keywordEach kws X.env)).filterMap (·.1) = ks := by rfl)
    (hpl : ((backTo pos (starEach [] X.env)).any (·.1) || (backToKw pos (keywordEach kws X.env)).any (·.1.isNone)) = false := by rfl) :
    PE X (.Call (.Name x p) [] kws pos) (tCall (SpM X.K n m) [] E0 (tPerm js tk)) := by
  subst hn
  rw [tCall_nil]
  obtain ⟨f, fd, at_f, F, kp, bn⟩ := h.ex
  constructor
  intro pn sh sg Hp0 QQ inv want
  refine wpAny_Call_Name_kw (ld_glob inv hg at_f ?_ hdb)
  refine PySem.W.callWith_KW0 (h₀ := X.base) inv.ok.mod.kin kp hall (thn (ha.run pos pn sh sg Hp0 _ inv want) fun us s1 ⟨vs, H1, inv1, rel, fin⟩ => ⟨inv1.kIn, ?_⟩) hpl
  rw [hks]
  have rel2 := vals_pm rel js
  have hl : (pm js vs).length = js.length := (F.len _ _ _ _ fin).trans hjs.2.symm
  have h1 := pm_all hl _ hjs.1
  have binds := bn.to s1 us (by rw [← rel.length]; omega)
  refine wpAny_call (codeAny_mono (F.go X.A (hr.mono hj) X.stack s1 H1 ⟨[], ks.zip us⟩ (pm js us) (pm js vs) QQ E0 inv1.env0 binds rel2 fin) fun res s2 out => ?_)
  match res, out with
  | .error er, out => exact (show False from out).elim
  | .ok (.ret _), out => exact inv1.after out
  | .ok .next, out => exact out.elim
  | .ok .brk, out => exact out.elim
  | .ok .cont, out => exact out.elim
end
section
variable {K : PySem.W.Frag} {C : Ctx} {B H : Hp} {env : En} {σ : L2.St}
theorem reps_at : ∀ {vs : List V} {rs : List R}, RepRs C B env σ H vs rs → ∀ j : Nat, (vs[j]? = none ∧ rs[j]? = none) ∨ ∃ v r, vs[j]? = some v ∧ rs[j]? = some r ∧ RepR C B env σ H v r
  | [], [], _, j => .inl ⟨rfl, rfl⟩
  | v :: vs, r :: rs, ⟨h, t⟩, 0 => .inr ⟨v, r, rfl, rfl, h⟩
  | v :: vs, r :: rs, ⟨h, t⟩, j + 1 => reps_at t j
  | [], _ :: _, h, _ => h.elim
  | _ :: _, [], h, _ => h.elim
theorem reps_pm {vs : List V} {rs : List R} (h : RepRs C B env σ H vs rs) : ∀ js : List Nat, RepRs C B env σ H (pm js vs) (pm js rs)
  | [] => trivial
  | j :: js => by
    have ih := reps_pm h js
    unfold pm at *
    rcases reps_at h j with ⟨a, b⟩ | ⟨v, u, a, b, r⟩
    · rw [List.filterMap_cons, List.filterMap_cons, a, b]
      exact ih
    · rw [List.filterMap_cons, List.filterMap_cons, a, b]
      exact ⟨r, ih⟩
def aPerm (js : List Nat) (f : En → Option (List R × En)) : En → Option (List R × En) := fun env => (f env).map fun a => (pm js a.1, a.2)
theorem sa_perm {t : TA} {f : En → Option (List R × En)} {js : List Nat} (h : SA K t f) : SA K (tPerm js t) (aPerm js f) := by
  intro C hC B env σ H r env' s e Q hq
  obtain ⟨⟨rs, e1⟩, g1, e⟩ := Option.map_eq_some_iff.mp e
  cases e
  exact h C hC B env σ H rs e1 s g1 _ fun vs B' H' s' x rr => hq (pm js vs) B' H' s' x (reps_pm rr js)
theorem av_perm {f : En → Option (List R × En)} {env e1 : En} {rs : List R} {js : List Nat} (h : AV f env rs e1) : AV (aPerm js f) env (pm js rs) e1 := by
  unfold AV aPerm at *
  rw [h]
  rfl
end
/-! a def held by a variable, called by keyword alone -/
inductive TblGK (P : Program) (w : World) (K : PySem.W.Frag) (mg : Str → Option Value) (base : Heap) (k n : Nat) (ks : List Str) (js : List Nat) : Tbl → Prop
  | nil : TblGK P w K mg base k n ks js []
  | cons {x : Str} {ps : List Str} {j : Nat} {m : En → Option Res} {tbl : Tbl} (h : DefGK P w K mg base x ps j m ks js) (v : FnAt K mg x) (hj : j ≤ k) (hn : ps.length = n) (t : TblGK P w K mg base k n ks js tbl) : TblGK P w K mg base k n ks js ((x, m) :: tbl)
theorem TblGK.held {P : Program} {w : World} {K : PySem.W.Frag} {mg : Str → Option Value} {base : Heap} {k n : Nat} {ks : List Str} {js : List Nat} {tbl : Tbl} (h : TblGK P w K mg base k n ks js tbl) :
    ∀ p ∈ tbl, ∃ (fd : FuncData) (ps : List Str), FnG P w K mg base CX0 k (clsOf K p.1) fd ps (SpM K n p.2) ∧ PySem.W.keepIn K (.ref (clsOf K p.1)) = true ∧ BindsK fd ps ks js ∧ ps.length = n := by
  induction h with
  | nil => intro p hp; cases hp
  | cons h v hj hn _ ih =>
    intro p hp
    rcases List.mem_cons.mp hp with rfl | hp
    · subst hn
      obtain ⟨f, fd, h1, F, h3, h4⟩ := h.ex
      have e : some (Value.ref f) = some (.ref (clsOf K _)) := h1.symm.trans v.ex
      cases e
      exact ⟨fd, _, F.up hj, h3, h4, rfl⟩
    · exact ih p hp
theorem pe_tGK {X : Cx} {x : Str} {i j k n : Nat} {tbl : Tbl} {p pos : Pos} {ks : List Str} {js : List Nat} {kws : List Keyword} {tk : TA} (T : TblGK X.prog X.w X.K X.mg X.base k n ks js tbl) (hr : Rg j X.A) (hj : k ≤ j) (hN : X.N[i]? = some x) (hv : Vis X.env.scope x) (ha : PK X kws tk) (hjs : ks.length - 1 ∈ js ∧ js.length = n)
    (hdb : (x == ("__debug__" : Str)) = false := by decide) (hcd : (x == ("__classdict__" : Str)) = false := by decide) (hall : (backToKw pos (keywordEach kws X.env)).all (·.1.isSome) = true := by rfl) (hks : (backToKw pos (keywordEach kws X.env)).filterMap (·.1) = ks := by rfl)
    (hpl : ((backTo pos (starEach [] X.env)).any (·.1) || (backToKw pos (keywordEach kws X.env)).any (·.1.isNone)) = false := by rfl) : PE X (.Call (.Name x p) [] kws pos) (tCallA i (tblS X.K n tbl) (tPerm js tk)) := by
  constructor
  intro pn sh sg Hp0 QQ inv ⟨f, sp, at_i, hs, want⟩
  unfold tblS at hs
  obtain ⟨q, hq, rfl⟩ := Option.map_eq_some_iff.mp hs
  have e1 : clsOf X.K q.1 = f := by simpa using List.find?_some hq
  subst e1
  obtain ⟨fd, ps, F, kp, bn, pl⟩ := T.held q (List.mem_of_find?_eq_some hq)
  refine wpAny_Call_Name_kw (thn ((pe_var (pos := p) hN hv hdb hcd).run pn sh sg Hp0 (fun v H1 => v = .ref (clsOf X.K q.1) ∧ H1 = Hp0) inv ⟨_, at_i, rfl, rfl⟩) fun u s1 got => ?_)
  obtain ⟨_, _, inv1, r1, rfl, rfl⟩ := got
  cases r1
  refine PySem.W.callWith_KW0 (h₀ := X.base) inv.ok.mod.kin kp hall (thn (ha.run pos pn s1 sg _ _ inv1 want) fun us s2 ⟨vs, H2, inv2, rel, fin⟩ => ⟨inv2.kIn, ?_⟩) hpl
  rw [hks]
  have rel2 := vals_pm rel js
  have hl : (pm js vs).length = js.length := (F.len _ _ _ _ fin).trans (pl.trans hjs.2.symm)
  have h1 := pm_all hl _ hjs.1
  have binds := bn.to s2 us (by rw [← rel.length]; omega)
  refine wpAny_call (codeAny_mono (F.go X.A (hr.mono hj) X.stack s2 H2 ⟨[], ks.zip us⟩ (pm js us) (pm js vs) QQ (fun _ _ _ => False) inv2.env0 binds rel2 fin) fun res s3 out => ?_)
  match res, out with
  | .error er, out => exact (show False from out).elim
  | .ok (.ret _), out => exact inv2.after out
  | .ok .next, out => exact out.elim
  | .ok .brk, out => exact out.elim
  | .ok .cont, out => exact out.elim
theorem g_appN {i : Nat} {env e1 e2 : En} {fe : En → Option (R × En)} {r : R} {xs : List Int} {ys : List D} {xs0 : List D} {Q : Out → Prop} (h0 : env[i]? = some (.ow xs0)) (h : EV fe env r e1) (hi : e1[i]? = some (.ow (xs.map D.int))) (hz : frz e1 r = some (.non, e1)) (g : Hd (appM (xs.map D.int) D.non) ys) (hs : e1.set i (.ow (ys.map eD)) = e2) (q : Q (.nx e2)) : Go (sExpr (eAppend i (aCons fe aNil))) env Q :=
  g_app (E := eD) (xs := xs.map D.int) (v := D.non) h0 h (by rw [List.map_id'' (f := eD) (fun _ => rfl)]; exact hi) hz g hs q
end Vm

set_option Elab.async false
set_option linter.all false
set_option maxRecDepth 100000
/-! VX2: a variable that holds None or a list, which is a value from then on. -/
namespace Vm
open PySem PySem.Spec PyProof.Rows L2 Evl
def oD {α : Type} (E : α → D) (z : Option (List α)) : D := match z with
  | none => .non
  | some xs => .lst (xs.map E)
def sSetV (i : Nat) (f : En → Option (R × En)) : En → Option Out := fun env => (f env).bind fun a => (store i a.1 a.2).bind fun e => match e[i]? with
  | some (.sh _) => some (.nx e)
  | some (.ow _) => sFrz i e
  | _ => none
section
variable {K : PySem.W.Frag} {fix : List Nat} {W : WX} {te : TE} {f : En → Option (R × En)} {i : Nat}
theorem ss_setV (h : SE K te f) (hi : i ∉ fix) : SS K fix W (tAsg te (gName i)) (sSetV i f) := by
  intro C hC hF B env σ H o s e D p
  obtain ⟨⟨a, e1⟩, g1, e⟩ := Option.bind_eq_some_iff.mp e
  obtain ⟨e2, g2, e⟩ := Option.bind_eq_some_iff.mp e
  refine h C hC B env σ H a e1 s g1 _ fun v B1 H1 s1 x1 rv => ?_
  obtain ⟨B2, s2, x2⟩ := store_ok s1 (by rw [hF]; exact hi) rv g2
  split at e
  · cases e
    exact p B2 _ H1 s2 (x1.trans x2)
  · rename_i ys q
    unfold sFrz at e
    rw [q] at e
    simp only [Option.some.injEq] at e
    subst e
    obtain ⟨pa, vs, k1, bp, gp, hp, ra⟩ := s2.sl i _ q
    have z : frz e2 (.al i) = some (.lst ys, e2.set i (.sh (.lst ys))) := by rw [x_frz3, q]
    obtain ⟨B3, s3, x3, _⟩ := frz_rep (v := .ref pa) s2 (show RepR C B2 e2 _ H1 (.ref pa) (.al i) from k1) z
    exact p B3 _ H1 s3 ((x1.trans x2).trans x3)
  · cases e
end
section
variable {α : Type} {E : α → D} {env e1 e2 : En} {fa : En → Option (R × En)} {i : Nat} {Q : Out → Prop} {z : Option (List α)}
theorem g_setV (h : EV fa env (rO E z) e1) (hl : i < e1.length) (hs : e1.set i (.sh (oD E z)) = e2) (q : Q (.nx e2)) : Go (sSetV i fa) env Q := by
  refine ⟨.nx e2, ?_, q⟩
  unfold sSetV
  rw [show fa env = _ from h]
  simp only [Option.bind_some]
  cases z with
  | none =>
    show (some (e1.set i (.sh .non))).bind _ = _
    simp only [Option.bind_some]
    rw [List.getElem?_set_self hl]
    simp only
    rw [← hs]
    rfl
  | some xs =>
    show (some (e1.set i (.ow (xs.map E)))).bind _ = _
    simp only [Option.bind_some]
    rw [List.getElem?_set_self hl]
    simp only [sFrz]
    rw [List.getElem?_set_self hl]
    simp only [List.set_set]
    rw [← hs]
    rfl
theorem g_setVL {xs : List α} (h : EV fa env (.fr (xs.map E)) e1) (hl : i < e1.length) (hs : e1.set i (.sh (.lst (xs.map E))) = e2) (q : Q (.nx e2)) : Go (sSetV i fa) env Q := g_setV (z := some xs) h hl hs q
end
section
variable {env e1 e2 e3 : En} {fe : En → Option (R × En)} {fl fh : En → Option (Option Int × En)} {r : R} {xs : List Int} {lo hi : Option Int}
/-- a slice of the script -/
theorem ev_slS (h : EV fe env r e1) (hl : PV fl e1 lo e2) (hh : PV fh e2 hi e3) (hz : look e3 r = some (.scr xs)) : EV (eSl fe fl fh) env (.fr ((cutI xs lo hi).map D.int)) e3 := by
  unfold EV eSl PV at *
  rw [h]
  simp only [Option.bind_some]
  rw [hl]
  simp only [Option.bind_some]
  rw [hh]
  simp only [Option.bind_some]
  rw [hz]
  simp only [Option.bind_some]
  show (some (xs.map D.int)).map _ = _
  simp only [Option.map_some]
  rw [cutD_map]
end
section
variable {K : PySem.W.Frag} {te : TE} {f : En → Option (R × En)} {env e1 : En} {i : Int}
/-- n.bit_length() -/
def eBits (f : En → Option (R × En)) : En → Option (R × En) := fun env => (f env).bind fun a => match a.1 with
  | .val (.int i) => some (.val (.int (Builtin.Int.intBits i : Nat)), a.2)
  | _ => none
theorem se_bits (h : SE K te f) : SE K (tBits te) (eBits f) := by
  intro C hC B env σ H r env' s e Q hq
  obtain ⟨⟨a, e1⟩, g1, e⟩ := Option.bind_eq_some_iff.mp e
  simp only at e
  split at e
  · rename_i i
    cases e
    refine h C hC B env σ H _ _ s g1 _ fun v B1 H1 s1 x1 rv => ?_
    have rv : Rep C.K B1 v (.int i) := rv
    cases rv
    exact ⟨i, rfl, hq (.int (Builtin.Int.intBits i : Nat)) B1 H1 s1 x1 (by show Rep C.K B1 _ _; exact .int _)⟩
  · cases e
theorem ev_bits (h : EV f env (.val (.int i)) e1) : EV (eBits f) env (.val (.int (Builtin.Int.intBits i : Nat))) e1 := by
  unfold EV eBits at *
  rw [h]
  rfl
end
end Vm

set_option Elab.async false
set_option linter.all false
set_option maxRecDepth 100000
/-! VPN: several names at once, new lists among them; tests that change own lists; a call's None. -/
namespace Vm
open PySem PySem.Spec PyProof.Rows L2 Evl
section
variable {K : PySem.W.Frag} {C : Ctx} {B B' H H' : Hp} {env env' : En} {σ : L2.St} {fix : List Nat} {W : WX} {ta te : TE} {fa : En → Option (R × En)}
/-- v is none of the new lists -/
def NotIn (v : V) : List V → List R → Prop
  | w :: ws, .fr _ :: rs => v ≠ w ∧ NotIn v ws rs
  | _ :: ws, _ :: rs => NotIn v ws rs
  | _, _ => True
def DisRs : List V → List R → Prop
  | v :: vs, .fr _ :: rs => NotIn v vs rs ∧ DisRs vs rs
  | _ :: vs, _ :: rs => DisRs vs rs
  | _, _ => True
def SAd (K : PySem.W.Frag) (t : TA) (f : En → Option (List R × En)) : Prop :=
  ∀ C : Ctx, C.K = K → ∀ (B : Hp) (env : En) (σ : L2.St) (H : Hp) (r : List R) (env' : En), SR C B env σ H → f env = some (r, env') →
    ∀ Q : List V → Hp → Prop, (∀ v B' H', SR C B' env' σ H' → Ex B B' → RepRs C B' env' σ H' v r → DisRs v r → Q v H') → t σ H Q
theorem sad_nil : SAd K tNil aNil := by
  intro C hC B env σ H r env' s e Q hq
  cases e
  exact hq [] B H s (Ex.refl _) trivial trivial
theorem notIn_of {T : Hp} {p : Addr} (hp : T p ≠ none) : ∀ {vs : List V} {rs : List R}, RepRs (C.plus T) B env σ H vs rs → NotIn (.ref p) vs rs
  | [], [], _ => trivial
  | v :: vs, r :: rs, ⟨h1, h2⟩ => by
    cases r with
    | val d =>
      have q : NotIn (.ref p) vs rs := notIn_of hp h2
      exact q
    | al i =>
      have q : NotIn (.ref p) vs rs := notIn_of hp h2
      exact q
    | fr xs =>
      refine ⟨fun e => ?_, notIn_of hp h2⟩
      obtain ⟨q, ws, rfl, _, gq, _⟩ := h1
      cases e
      exact hp (join_none gq).2
  | [], _ :: _, h => h.elim
  | _ :: _, [], h => h.elim
theorem sad_cons {tr : TA} {fr : En → Option (List R × En)} (ha : SE K ta fa) (hr : SAd K tr fr) : SAd K (tCons ta tr) (aCons fa fr) := by
  intro C hC B env σ H r env' s e Q hq
  obtain ⟨⟨ra, e1⟩, h1, e⟩ := Option.bind_eq_some_iff.mp e
  obtain ⟨⟨rs, e2⟩, h2, e⟩ := Option.map_eq_some_iff.mp e
  cases e
  refine ha C hC B env σ H ra e1 s h1 _ fun x B1 H1 s1 x1 r1 => ?_
  have t := r1.tmp
  refine hr (C.plus (tmpOf x H1 ra)) hC B1 e1 σ H1 rs e2 (s1.plus t) h2 _ fun ys B2 H2 s2 x2 r2 d2 => ?_
  obtain ⟨s3, t3⟩ := SR.minus s1.exG t.ex t.nb x2 s2 s1.ex0
  refine hq (x :: ys) B2 H2 s3 (x1.trans x2) ⟨r1.keep x2 t3, r2.minus⟩ ?_
  cases ra with
  | val d => exact d2
  | al i => exact d2
  | fr xs =>
    refine ⟨?_, d2⟩
    obtain ⟨p, vs, rfl, bp, gp, hp, _⟩ := r1
    refine notIn_of ?_ r2
    unfold tmpOf
    simp only [if_true]
    rw [hp]
    exact fun z => nomatch z
def noAl : List R → Bool
  | [] => true
  | .al _ :: _ => false
  | _ :: rs => noAl rs
def aOwn : List Nat → List R → En → Option En
  | [], [], e => some e
  | i :: is, .val d :: rs, e => aOwn is rs (e.set i (.sh d))
  | i :: is, .fr xs :: rs, e => aOwn is rs (e.set i (.ow xs))
  | _, _, _ => none
def gNames : List Nat → TGs
  | [] => gNil
  | i :: is => gCons (gName i) (gNames is)
theorem off_own {q p : Addr} {i : Nat} {xs : List D} (o : Off env σ q) (ne : q ≠ p) : Off (env.set i (.ow xs)) (σ.set i (some (.ref p))) q := fun k ys h h2 => by
  rcases get_set h with ⟨rfl, _, hl⟩ | ⟨hk, h⟩
  · by_cases hs : k < σ.length
    · rw [List.getElem?_set_self hs] at h2
      cases h2
      exact ne rfl
    · rw [List.getElem?_eq_none (by rw [List.length_set]; omega)] at h2
      cases h2
  · rw [List.getElem?_set_ne fun e => hk e.symm] at h2
    exact o k ys h h2
theorem reps_sh {i : Nat} {d : D} {v : V} : ∀ {vs : List V} {rs : List R}, noAl rs = true → RepRs C B env σ H vs rs → RepRs C B (env.set i (.sh d)) (σ.set i (some v)) H vs rs
  | [], [], _, _ => trivial
  | w :: vs, r :: rs, n, ⟨h1, h2⟩ => by
    cases r with
    | val x => exact ⟨h1, reps_sh n h2⟩
    | al k => cases n
    | fr xs =>
      obtain ⟨p, ws, rfl, bp, gp, hp, ra, off⟩ := h1
      exact ⟨⟨p, ws, rfl, bp, gp, hp, ra, off_set off⟩, reps_sh n h2⟩
  | [], _ :: _, _, h => h.elim
  | _ :: _, [], _, h => h.elim
theorem reps_ow {i : Nat} {xs : List D} {p : Addr} : ∀ {vs : List V} {rs : List R}, noAl rs = true → NotIn (.ref p) vs rs → RepRs C B env σ H vs rs → RepRs C B (env.set i (.ow xs)) (σ.set i (some (.ref p))) H vs rs
  | [], [], _, _, _ => trivial
  | w :: vs, r :: rs, n, k, ⟨h1, h2⟩ => by
    cases r with
    | val x => exact ⟨h1, reps_ow n k h2⟩
    | al k => cases n
    | fr ys =>
      obtain ⟨k1, k2⟩ := k
      obtain ⟨q, ws, rfl, bp, gp, hp, ra, off⟩ := h1
      exact ⟨⟨q, ws, rfl, bp, gp, hp, ra, off_own off fun e => k1 (by rw [e])⟩, reps_ow n k2 h2⟩
  | [], _ :: _, _, _, h => h.elim
  | _ :: _, [], _, _, h => h.elim
theorem names_ok : ∀ {is : List Nat} {vs : List V} {rs : List R} {env env' : En} {σ : L2.St}, SR C B env σ H → noAl rs = true → RepRs C B env σ H vs rs → DisRs vs rs → aOwn is rs env = some env' → (∀ i ∈ is, i ∉ C.fix) →
    ∀ Q : L2.St → Hp → Prop, (∀ σ', SR C B env' σ' H → Q σ' H) → gNames is vs σ H Q
  | [], [], [], env, env', σ, s, _, _, _, e, _, Q, hq => by
    cases e
    exact ⟨rfl, hq σ s⟩
  | i :: is, v :: vs, r :: rs, env, env', σ, s, n, ⟨h1, h2⟩, d, e, hi, Q, hq => by
    cases r with
    | val x =>
      have s1 := s.setV (i := i) (v := v) (t := .sh x) (hi i List.mem_cons_self) h1
      have e : aOwn is rs (env.set i (.sh x)) = some env' := e
      have n : noAl rs = true := n
      have d : DisRs vs rs := d
      have z : gNames is vs (σ.set i (some v)) H Q := names_ok s1 n (reps_sh n h2) d e (fun j hj => hi j (List.mem_cons_of_mem _ hj)) Q hq
      exact ⟨v, vs, rfl, z⟩
    | al k => cases n
    | fr xs =>
      obtain ⟨p, ws, rfl, bp, gp, hp, ra, off⟩ := h1
      have s1 := s.setV (i := i) (v := .ref p) (t := .ow xs) (hi i List.mem_cons_self) ⟨p, ws, rfl, bp, gp, hp, ra, off_un off i⟩
      have e : aOwn is rs (env.set i (.ow xs)) = some env' := e
      have n : noAl rs = true := n
      have d : NotIn (.ref p) vs rs ∧ DisRs vs rs := d
      have z : gNames is vs (σ.set i (some (.ref p))) H Q := names_ok s1 n (reps_ow n d.1 h2) d.2 e (fun j hj => hi j (List.mem_cons_of_mem _ hj)) Q hq
      exact ⟨.ref p, vs, rfl, z⟩
  | [], [], _ :: _, _, _, _, _, _, h, _, _, _, _, _ => h.elim
  | [], _ :: _, [], _, _, _, _, _, h, _, _, _, _, _ => h.elim
  | [], _ :: _, r :: _, _, _, _, _, _, _, _, e, _, _, _ => by unfold aOwn at e; cases e
  | _ :: _, [], [], _, _, _, _, _, _, _, e, _, _, _ => by unfold aOwn at e; cases e
  | _ :: _, [], _ :: _, _, _, _, _, _, h, _, _, _, _, _ => h.elim
  | _ :: _, _ :: _, [], _, _, _, _, _, h, _, _, _, _, _ => h.elim
theorem reps_up {p : Addr} {o : HO} (hp : H p = none) : ∀ {vs : List V} {rs : List R}, RepRs C B env σ H vs rs → RepRs C B env σ (upd H p o) vs rs
  | [], [], _ => trivial
  | w :: vs, r :: rs, ⟨h1, h2⟩ => by
    refine ⟨?_, reps_up hp h2⟩
    cases r with
    | val x => exact h1
    | al k => exact h1
    | fr ys =>
      obtain ⟨q, ws, rfl, bp, gp, hq, ra, off⟩ := h1
      exact ⟨q, ws, rfl, bp, gp, by rw [upd_ne (ne_of_none hq hp)]; exact hq, ra, off⟩
  | [], _ :: _, h => h.elim
  | _ :: _, [], h => h.elim
theorem reps_len : ∀ {vs : List V} {rs : List R}, RepRs C B env σ H vs rs → vs.length = rs.length
  | [], [], _ => rfl
  | _ :: vs, _ :: rs, ⟨_, h⟩ => congrArg (· + 1) (reps_len h)
  | [], _ :: _, h => h.elim
  | _ :: _, [], h => h.elim
theorem aOwn_len : ∀ {is : List Nat} {rs : List R} {env env' : En}, aOwn is rs env = some env' → is.length = rs.length
  | [], [], _, _, _ => rfl
  | i :: is, .val d :: rs, _, _, h => congrArg (· + 1) (aOwn_len (is := is) h)
  | i :: is, .fr xs :: rs, _, _, h => congrArg (· + 1) (aOwn_len (is := is) h)
  | [], _ :: _, _, _, h => by unfold aOwn at h; cases h
  | _ :: _, [], _, _, h => by unfold aOwn at h; cases h
  | _ :: _, .al _ :: _, _, _, h => by unfold aOwn at h; cases h
/-- a, b .. = x, y ..: new lists are one's own -/
def sParN (is : List Nat) (f : En → Option (List R × En)) : En → Option Out := fun env => (f env).bind fun a => if noAl a.1 = true then (aOwn is a.1 a.2).map Out.nx else none
theorem ss_parN {is : List Nat} {n : Nat} {tl : TA} {f : En → Option (List R × En)} (h : SAd K tl f) (hn : is.length = n) (hi : ∀ i ∈ is, i ∉ fix) (hl : is.length ≤ 1000) : SS K fix W (tAsg (tTup tl) (gTup K n (gNames is))) (sParN is f) := by
  intro C hC hF B env σ H o s e D p
  subst hn
  obtain ⟨⟨rs, e1⟩, g1, e⟩ := Option.bind_eq_some_iff.mp e
  simp only at e
  split at e
  · rename_i na
    obtain ⟨e2, g2, rfl⟩ := Option.map_eq_some_iff.mp e
    have l1 := aOwn_len g2
    refine h C hC B env σ H rs e1 s g1 _ fun vs B1 H1 s1 x1 rr dd => ?_
    have l2 := reps_len rr
    refine ⟨le1000 (by omega), fun q hq => ?_⟩
    refine ⟨q, vs, rfl, st_of upd_same, by omega, ?_⟩
    refine names_ok (s1.temp hq) na (reps_up hq rr) dd g2 (by rw [hF]; exact hi) _ fun σ' s' => ?_
    exact p B1 σ' _ s' x1
  · cases e
theorem ss_parN2 {i j : Nat} {tl : TA} {f : En → Option (List R × En)} (h : SAd K tl f) (hi : ∀ k ∈ [i, j], k ∉ fix) : SS K fix W (tPar i j tl) (sParN [i, j] f) := by
  intro C hC hF B env σ H o s e D p
  obtain ⟨⟨rs, e1⟩, g1, e⟩ := Option.bind_eq_some_iff.mp e
  simp only at e
  split at e
  · rename_i na
    obtain ⟨e2, g2, rfl⟩ := Option.map_eq_some_iff.mp e
    refine h C hC B env σ H rs e1 s g1 _ fun vs B1 H1 s1 x1 rr dd => ?_
    have z := names_ok s1 na rr dd g2 (by rw [hF]; exact hi) (fun σ' H' => D.nx σ' H') fun σ' s' => p B1 σ' _ s' x1
    obtain ⟨v, r, rfl, ⟨w, r2, rfl, ⟨rfl, q⟩⟩⟩ := z
    exact ⟨v, w, rfl, q⟩
  · cases e
theorem ss_parN3 {i j l : Nat} {tl : TA} {f : En → Option (List R × En)} (h : SAd K tl f) (hi : ∀ k ∈ [i, j, l], k ∉ fix) : SS K fix W (tPar3 i j l tl) (sParN [i, j, l] f) := by
  intro C hC hF B env σ H o s e D p
  obtain ⟨⟨rs, e1⟩, g1, e⟩ := Option.bind_eq_some_iff.mp e
  simp only at e
  split at e
  · rename_i na
    obtain ⟨e2, g2, rfl⟩ := Option.map_eq_some_iff.mp e
    refine h C hC B env σ H rs e1 s g1 _ fun vs B1 H1 s1 x1 rr dd => ?_
    have z := names_ok s1 na rr dd g2 (by rw [hF]; exact hi) (fun σ' H' => D.nx σ' H') fun σ' s' => p B1 σ' _ s' x1
    obtain ⟨v, r, rfl, ⟨w, r2, rfl, ⟨u, r3, rfl, ⟨rfl, q⟩⟩⟩⟩ := z
    exact ⟨v, w, u, rfl, q⟩
  · cases e
end
section
variable {env e1 e2 : En} {f : En → Option (List R × En)} {rs : List R} {is : List Nat} {Q : Out → Prop} {t u : En → Option (Bool × En)} {fa fb : En → Option (R × En)}
theorem g_parN (h : AV f env rs e1) (hn : noAl rs = true) (hs : aOwn is rs e1 = some e2) (q : Q (.nx e2)) : Go (sParN is f) env Q :=
  ⟨_, by unfold sParN; rw [h]; show (if noAl rs = true then _ else _) = _; rw [if_pos hn, hs]; rfl, q⟩
/-- tests whose second part changes own lists -/
theorem tv_andS {τ : Type} (shape : τ → En) {a : Bool} {mb : M (Bool × τ)} {s0 : τ} {v : Bool × τ} (h : Hd (cnd a mb (pr (false, s0))) v) (ha : TV t env a (shape s0)) (hb : ∀ w, Hd mb w → TV u (shape s0) w.1 (shape w.2)) : TV (bAnd t u) env v.1 (shape v.2) := by
  unfold TV at *
  cases a with
  | true => simp [ha, hb v (cnd_t h rfl)]
  | false =>
    have e : (false, s0) = v := (cnd_f h rfl).eq
    subst e
    simp [ha]
theorem tv_orS {τ : Type} (shape : τ → En) {a : Bool} {mb : M (Bool × τ)} {s0 : τ} {v : Bool × τ} (h : Hd (cnd a (pr (true, s0)) mb) v) (ha : TV t env a (shape s0)) (hb : ∀ w, Hd mb w → TV u (shape s0) w.1 (shape w.2)) : TV (bOr t u) env v.1 (shape v.2) := by
  unfold TV at *
  cases a with
  | false => simp [ha, hb v (cnd_f h rfl)]
  | true =>
    have e : (true, s0) = v := (cnd_t h rfl).eq
    subst e
    simp [ha]
theorem ev_iteS {α τ : Type} (shape : τ → En) {a : Bool} {m1 m2 : M (α × τ)} {v : α × τ} {K : α → R} (h : Hd (cnd a m1 m2) v) (ht : TV t env a e1) (h1 : ∀ w, Hd m1 w → EV fa e1 (K w.1) (shape w.2)) (h2 : ∀ w, Hd m2 w → EV fb e1 (K w.1) (shape w.2)) : EV (eIf t fa fb) env (K v.1) (shape v.2) := by
  unfold EV TV at *
  cases a with
  | true => simp [ht, h1 v (cnd_t h rfl)]
  | false => simp [ht, h2 v (cnd_f h rfl)]
end
section
variable {α : Type} {E : α → D} {env e1 e2 : En} {fa : En → Option (R × En)} {z : Option (List α)}
theorem lv_oD (h : EV fa env (rO E z) e1) : LV fa env (oD E z) e1 := by
  cases z with
  | none => exact lv_of h fun _ => rfl
  | some xs => exact lv_of h fun _ => rfl
theorem o_isOD : dIsN (oD E z) .non = some (.bl z.isNone) := by
  cases z with
  | none => rfl
  | some xs => rfl
theorem o_notOD : dNotN (oD E z) .non = some (.bl z.isSome) := by
  cases z with
  | none => rfl
  | some xs => rfl
end
end Vm

set_option Elab.async false
set_option linter.all false
set_option maxRecDepth 100000
/-! VTD: two new lists in a list, which are looked at and then changed in their place. -/
namespace Vm
open PySem PySem.Spec PyProof.Rows L2 Evl
section
variable {K : PySem.W.Frag} {C : Ctx} {B B' H H' : Hp} {env env' : En} {σ : L2.St} {fix : List Nat} {W : WX}
/-- own lists hold numbers only -/
def owI : En → Bool
  | [] => true
  | .ow xs :: r => (unInts xs).isSome && owI r
  | _ :: r => owI r
theorem owI_get : ∀ {env : En} {i : Nat} {xs : List D}, owI env = true → env[i]? = some (.ow xs) → ∃ ns : List Int, xs = ns.map D.int
  | [], i, xs, _, h => by simp at h
  | s :: r, 0, xs, h, e => by
    simp at e
    subst e
    unfold owI at h
    rw [Bool.and_eq_true] at h
    obtain ⟨ns, hn⟩ := Option.isSome_iff_exists.mp h.1
    exact ⟨ns, unInts_some hn⟩
  | s :: r, i + 1, xs, h, e => by
    have h2 : owI r = true := by
      cases s with
      | un => exact h
      | sh d => exact h
      | ow ys =>
        unfold owI at h
        rw [Bool.and_eq_true] at h
        exact h.2
    exact owI_get h2 (by simpa using e)
open Classical in
/-- x = [e1, e2]; if t: ..; x[0].append(None); x[1].append(None); .. -/
noncomputable def sTold (i : Nat) (fl : En → Option (List R × En)) (ft : En → Option (Bool × En)) (Fb Fr : En → Option Out) : En → Option Out := fun env => (fl env).bind fun a => match a.1 with
  | [.fr xs, .fr ys] => if owI a.2 = true ∧ i < a.2.length ∧ xs.length < 1000000 ∧ ys.length < 1000000 then
      (ft (a.2.set i (.sh (.lst [.lst xs, .lst ys])))).bind fun t => if t.1 = true then (Fb t.2).bind fun o => (match o with | .nx _ => none | o => some o) else if t.2 = a.2.set i (.sh (.lst [.lst xs, .lst ys])) then Fr (a.2.set i .un) else none
    else none
  | _ => none
def tApp (K : PySem.W.Frag) (i : Nat) (k : Int) : TE := tBM K "list" rAppend (tOp (rIx K) (tVar i) (tC (.int k))) (tCons (tC .non) tNil)
theorem ss_told {i : Nat} {tl : TA} {tt : TT} {tb tr : TS} {fl : En → Option (List R × En)} {ft : En → Option (Bool × En)} {Fb Fr : En → Option Out}
    (hl : SAd K tl fl) (ht : ST K tt ft) (hb : SS K fix W tb Fb) (hr : SS K fix W tr Fr) (hi : i ∉ fix) :
    SS K fix W (tSeq (tAsg (tLst tl) (gName i)) (tSeq (tIfS tt tb tNext) (tSeq (tDrop (tApp K i 0)) (tSeq (tDrop (tApp K i 1)) tr)))) (sTold i fl ft Fb Fr) := by
  intro C hC hF B env σ H o s e D p
  obtain ⟨⟨rs, e1⟩, g1, e⟩ := Option.bind_eq_some_iff.mp e
  simp only at e
  split at e
  · rename_i xs ys
    split at e
    · rename_i cond
      obtain ⟨oi, il, lx, ly⟩ := cond
      obtain ⟨⟨b, e3⟩, g2, e⟩ := Option.bind_eq_some_iff.mp e
      simp only at e
      refine hl C hC B env σ H _ e1 s g1 _ fun vs B2 H2 s2 x2 rr dd => ?_
      match vs, rr, dd with
      | [v, w], ⟨r1, r2, _⟩, dd =>
        obtain ⟨p1, v1, rfl, bp1, gp1, hp1, ra1, off1⟩ := r1
        obtain ⟨p2, v2, rfl, bp2, gp2, hp2, ra2, off2⟩ := r2
        have ne12 : p1 ≠ p2 := fun z => dd.1.1 (by rw [z])
        refine ⟨le1000 (by simp), fun q hq => ?_⟩
        have nq1 : p1 ≠ q := ne_of_none hp1 hq
        have nq2 : p2 ≠ q := ne_of_none hp2 hq
        -- they are data for the test
        have s3 := s2.take bp1 gp1 hp1 off1
        have bp2' : upd B2 p1 (.lst v1) p2 = none := by rw [upd_ne (fun z => ne12 z.symm)]; exact bp2
        have s3b := s3.take bp2' gp2 hp2 off2
        have s3c := s3b.alloc (o := .lst [.ref p1, .ref p2]) hq
        obtain ⟨B3, eB3⟩ : ∃ B3, B3 = upd (upd (upd B2 p1 (.lst v1)) p2 (.lst v2)) q (.lst [.ref p1, .ref p2]) := ⟨_, rfl⟩
        rw [← eB3] at s3c
        have b3q : B3 q = some (.lst [.ref p1, .ref p2]) := by rw [eB3, upd_same]
        have b31 : B3 p1 = some (.lst v1) := by rw [eB3, upd_ne nq1, upd_ne ne12, upd_same]
        have b32 : B3 p2 = some (.lst v2) := by rw [eB3, upd_ne nq2, upd_same]
        have x3 : Ex B2 B3 := by
          rw [eB3]
          refine ((Ex.new bp1).trans (Ex.new bp2')).trans (Ex.new ?_)
          exact fresh_back s3b.exB hq
        have rep : Rep C.K B3 (.ref q) (.lst [.lst xs, .lst ys]) := .lst b3q (.cons (.lst b31 (ra1.mono x3)) (.cons (.lst b32 (ra2.mono x3)) .nil))
        have s4 := s3c.setV (i := i) (v := .ref q) (t := .sh (.lst [.lst xs, .lst ys])) (by rw [hF]; exact hi) rep
        obtain ⟨σ', eσ⟩ : ∃ σ', σ' = σ.set i (some (.ref q)) := ⟨_, rfl⟩
        have hσi : σ'[i]? = some (some (.ref q)) := by rw [eσ, List.getElem?_set_self (by rw [s2.len]; exact il)]
        rw [← eσ] at s4
        show tSeq (tIfS tt tb tNext) _ D (σ.set i (some (.ref q))) _
        rw [← eσ]
        refine ht C hC B3 _ σ' _ b e3 s4 g2 _ fun B4 H4 s5 x5 => ?_
        cases b with
        | true =>
          rw [if_pos rfl] at e
          have pp : Post C B4 W D o := p.mono ((x2.trans x3).trans x5)
          obtain ⟨o1, g3, e⟩ := Option.bind_eq_some_iff.mp e
          refine hb C hC hF B4 e3 σ' H4 o1 s5 g3 _ ?_
          cases o1 with
          | nx e4 => cases e
          | rt r e4 => cases e; exact pp
          | bk e4 => cases e; exact pp
          | ct e4 => cases e; exact pp
          | er c e4 => cases e; exact pp
        | false =>
          rw [if_neg (by decide)] at e
          split at e
          · rename_i ee
            subst ee
            have h4q : H4 q = some (.lst [.ref p1, .ref p2]) := s5.exB _ _ (x5 _ _ b3q)
            have h41 : H4 p1 = some (.lst v1) := s5.exB _ _ (x5 _ _ b31)
            have h42 : H4 p2 = some (.lst v2) := s5.exB _ _ (x5 _ _ b32)
            have l1 : v1.length < sizeLine := by rw [ra1.length]; exact mil lx
            have l2 : v2.length < sizeLine := by rw [ra2.length]; exact mil ly
            -- the first one grows
            show tSeq (tDrop (tApp K i 0)) _ D σ' H4
            refine ⟨.ref q, hσi, .inl ⟨q, [.ref p1, .ref p2], 0, .ref p1, rfl, rfl, sq_of h4q, rfl, .inl ⟨rfl, _, sq_of h41⟩, p1, v1, .non, rfl, rfl, h41, l1, ?_⟩⟩
            have h5q : (upd H4 p1 (.lst (v1 ++ [.non]))) q = some (.lst [.ref p1, .ref p2]) := by rw [upd_ne (fun z => nq1 z.symm)]; exact h4q
            have h52 : (upd H4 p1 (.lst (v1 ++ [.non]))) p2 = some (.lst v2) := by rw [upd_ne (fun z => ne12 z.symm)]; exact h42
            -- the second one grows
            show tSeq (tDrop (tApp K i 1)) _ D σ' _
            refine ⟨.ref q, hσi, .inl ⟨q, [.ref p1, .ref p2], 1, .ref p2, rfl, rfl, sq_of h5q, rfl, .inl ⟨rfl, _, sq_of h52⟩, p2, v2, .non, rfl, rfl, h52, l2, ?_⟩⟩
            -- what was known ahead is known again
            refine hr C hC hF B2 (e1.set i .un) σ' _ o ?_ e D (p.mono x2)
            refine ⟨?_, ?_, s2.ex0, s2.new, ?_, fun j u hj => ?_, fun j k z y1 y2 k1 k2 k3 k4 => ?_, s5.fx⟩
            · intro a u ea
              have := s5.exG a u ea
              rw [upd_ne (ne_of_none ea gp2), upd_ne (ne_of_none ea gp1)]
              exact this
            · intro a u ea
              have := s5.exB _ _ (x5 _ _ (x3 _ _ ea))
              rw [upd_ne (ne_of_none ea bp2), upd_ne (ne_of_none ea bp1)]
              exact this
            · rw [List.length_set, eσ, List.length_set]
              exact s2.len
            · rcases get_set hj with ⟨rfl, rfl, _⟩ | ⟨hji, hj⟩
              · trivial
              · have w := s2.sl j u hj
                have eσj : σ'[j]? = σ[j]? := by rw [eσ, List.getElem?_set_ne (fun z => hji z.symm)]
                rw [eσj]
                cases u with
                | un => trivial
                | sh d => exact w
                | ow zs =>
                  obtain ⟨p', vs', k1, k2, k3, k4, k5⟩ := w
                  obtain ⟨ns, rfl⟩ := owI_get oi hj
                  have hj5 : (e1.set i (.sh (.lst [.lst xs, .lst ys])))[j]? = some (.ow (ns.map Vm.D.int)) := by rw [List.getElem?_set_ne (fun z => hji z.symm)]; exact hj
                  obtain ⟨p5, vs5, m1, m2, m3, m4, m5⟩ := s5.sl j _ hj5
                  rw [eσj, k1] at m1
                  cases m1
                  have n1 : p' ≠ p1 := fun z => by rw [z, x5 _ _ b31] at m2; cases m2
                  have n2 : p' ≠ p2 := fun z => by rw [z, x5 _ _ b32] at m2; cases m2
                  rw [RepAll.ints m5] at m4
                  exact ⟨p', _, k1, k2, k3, by rw [upd_ne n2, upd_ne n1]; exact m4, RepAll.of_ints ns⟩
            · refine s5.dis j k z y1 y2 ?_ ?_ k3 k4
              · rcases get_set k1 with ⟨rfl, h, _⟩ | ⟨hji, h⟩
                · cases h
                · rw [List.getElem?_set_ne (fun z => hji z.symm)]; exact h
              · rcases get_set k2 with ⟨rfl, h, _⟩ | ⟨hji, h⟩
                · cases h
                · rw [List.getElem?_set_ne (fun z => hji z.symm)]; exact h
          · cases e
    · cases e
  · cases e
end
end Vm

set_option Elab.async false
set_option linter.all false
set_option maxRecDepth 100000
/-! VCN: how often a number stands in a list; the first one of a number taken out of an own list. -/
namespace Vm
open PySem PySem.Spec PyProof.Rows L2 Evl
@[simp] theorem unInts_is (ns : List Int) : (unInts (ns.map D.int)).isSome = true := by rw [unInts_map]; rfl
def dCount : D → List D → Option D
  | .lst xs, [.int k] => (unInts xs).map fun ns => .int (ns.count k : Nat)
  | _, _ => none
section
variable {K : PySem.W.Frag} {fix : List Nat} {W : WX}
theorem rm_count : RM K (rCntI K) dCount := by
  intro B H x vs d ds z ex rx rs e
  unfold dCount at e
  split at e
  · rename_i xs k
    obtain ⟨ns, h1, rfl⟩ := Option.map_eq_some_iff.mp e
    obtain ⟨v, rfl, ry⟩ := rs.one
    obtain ⟨a, ws, rfl, hp, ra⟩ := rx.list ex
    have e2 := unInts_some h1
    subst e2
    have e3 := RepAll.ints ra
    subst e3
    have e4 := ry.int
    subst e4
    exact ⟨⟨_, rfl⟩, .int _, rfl, fun Q q => ⟨a, ns, k, rfl, rfl, sq_of hp, q⟩⟩
  · cases e
/-- xs.remove(k) -/
def eRemove (i : Nat) (f : En → Option (List R × En)) : En → Option (R × En) := fun env => (own env i).bind fun _ => (aD f env).bind fun b => (oneInt b.1).bind fun k => (own b.2 i).bind fun xs => (unInts xs).bind fun ns => if k ∈ ns then some (.val .non, b.2.set i (.ow ((ns.erase k).map D.int))) else none
theorem erase_at {ns : List Int} {k : Int} (h : k ∈ ns) : ∃ j : Nat, ns[j]? = some k ∧ (∀ m : Nat, m < j → ns[m]? ≠ some k) ∧ ns.eraseIdx j = ns.erase k := by
  induction ns with
  | nil => simp at h
  | cons x xs ih =>
    by_cases e : x = k
    · subst e
      exact ⟨0, rfl, fun m hm => absurd hm (Nat.not_lt_zero m), by simp⟩
    · obtain ⟨j, h1, h2, h3⟩ := ih (by
        rcases List.mem_cons.mp h with z | z
        · exact absurd z.symm e
        · exact z)
      refine ⟨j + 1, h1, fun m hm => ?_, ?_⟩
      · cases m with
        | zero => simpa using e
        | succ m => exact h2 m (by omega)
      · rw [List.eraseIdx_cons_succ, h3, List.erase_cons, if_neg (by simpa using e)]
theorem se_remove {i : Nat} {ta : TA} {f : En → Option (List R × En)} (h : SA K ta f) : SE K (tBM K "list" rRemI (tVar i) ta) (eRemove i f) := by
  intro C hC B env σ H r env' s e Q hq
  obtain ⟨xs0, h0, e⟩ := Option.bind_eq_some_iff.mp e
  obtain ⟨⟨ds, e2⟩, h1, e⟩ := Option.bind_eq_some_iff.mp e
  obtain ⟨k, h2, e⟩ := Option.bind_eq_some_iff.mp e
  obtain ⟨xs, h3, e⟩ := Option.bind_eq_some_iff.mp e
  obtain ⟨ns, h4, e⟩ := Option.bind_eq_some_iff.mp e
  split at e
  · rename_i hm
    cases e
    have e4 := unInts_some h4
    subst e4
    obtain ⟨p, vs0, hs, bp, gp, hp, _⟩ := s.sl i _ (own_some h0)
    refine ⟨.ref p, hs, .inl ⟨rfl, _, sq_of hp⟩, ?_⟩
    obtain ⟨rs, e1, h4, h5⟩ := aD_some h1
    refine h C hC B env σ H rs e1 s h4 _ fun vs B1 H1 s1 x1 r1 => ?_
    obtain ⟨B2, s2, x2, ra⟩ := frzs_w s1 r1.w h5
    obtain ⟨p', ws, hs', bp', gp', hp', ra'⟩ := s2.sl i _ (own_some h3)
    rw [hs] at hs'
    cases hs'
    have e3 := RepAll.ints ra'
    subst e3
    match ds, vs, h2, ra with
    | [.int _], [y], h2, .cons ry .nil =>
      cases h2
      cases ry
      obtain ⟨j, j1, j2, j3⟩ := erase_at hm
      refine ⟨p, ns, k, j, rfl, rfl, hp', j1, j2, ?_⟩
      rw [j3]
      exact hq .non B2 _ (s2.put (own_some h3) hs (RepAll.of_ints _)) (x1.trans x2) .non
  · cases e
end
def countM (xs : List Int) (y : Int) : M Int := ⟨True, (xs.count y : Nat)⟩
def remM (xs : List Int) (y : Int) : M (List Int) := ⟨y ∈ xs, xs.erase y⟩
section
variable {env e1 e2 e3 : En} {fa : En → Option (R × En)} {f fl : En → Option (List R × En)} {ft : En → Option (Bool × En)} {Fb Fr : En → Option Out} {Q : Out → Prop} {i : Nat} {xs : List Int} {y : Int}
theorem o_count : dCount (.lst (xs.map D.int)) [.int y] = some (.int (xs.count y : Nat)) := by
  show (unInts (xs.map D.int)).map _ = _
  rw [unInts_map]
  rfl
theorem ev_remove {w : List Int} (h0 : env[i]? = some (.ow (xs.map D.int))) (ha : AV f env [.val (.int y)] env) (g : Hd (remM xs y) w) (hs : env.set i (.ow (w.map D.int)) = e2) : EV (eRemove i f) env (.val .non) e2 := by
  obtain ⟨hm, rfl⟩ := g
  have hm : y ∈ xs := hm
  unfold EV eRemove own aD AV at *
  rw [h0]
  simp only [Option.bind_some]
  rw [ha]
  simp only [Option.bind_some]
  show ((frzs env [R.val (D.int y)]).bind _) = _
  show (some ([D.int y], env)).bind _ = _
  simp only [Option.bind_some]
  show (oneInt [D.int y]).bind _ = _
  show (some y).bind _ = _
  simp only [Option.bind_some]
  rw [h0]
  simp only [Option.bind_some]
  rw [unInts_map]
  simp only [Option.bind_some]
  rw [if_pos hm, ← hs]
  rfl
theorem nx_ret {fe : En → Option (R × En)} : ∀ e o, sRet fe e = some o → ∀ e', o ≠ .nx e' := fun e o h e' z => by
  subst z
  obtain ⟨a, _, h2⟩ := Option.map_eq_some_iff.mp h
  cases h2
theorem g_told {α β : Type} {E : α → D} {E' : β → D} {as : List α} {bs : List β} {b : Bool} (h : AV fl env [.fr (as.map E), .fr (bs.map E')] e1) (ho : owI e1 = true) (hi : i < e1.length) (la : as.length < 1000000) (lb : bs.length < 1000000)
    (hs : e1.set i (.sh (.lst [.lst (as.map E), .lst (bs.map E')])) = e2) (he3 : e1.set i .un = e3) (hb : TV ft e2 b e2) (hn : ∀ e o, Fb e = some o → ∀ e', o ≠ .nx e') (h1 : b = true → Go Fb e2 Q) (h2 : b = false → Go Fr e3 Q) : Go (sTold i fl ft Fb Fr) env Q := by
  unfold Go at *
  unfold sTold AV TV at *
  rw [h]
  simp only [Option.bind_some]
  rw [if_pos ⟨ho, hi, by rw [List.length_map]; exact la, by rw [List.length_map]; exact lb⟩, hs, hb]
  simp only [Option.bind_some]
  cases b with
  | true =>
    obtain ⟨o, g1, g2⟩ := h1 rfl
    refine ⟨o, ?_, g2⟩
    rw [if_pos rfl, g1]
    simp only [Option.bind_some]
    cases o with
    | nx e4 => exact absurd rfl (hn _ _ g1 e4)
    | rt r e4 => rfl
    | bk e4 => rfl
    | ct e4 => rfl
    | er c e4 => rfl
  | false =>
    obtain ⟨o, g1, g2⟩ := h2 rfl
    refine ⟨o, ?_, g2⟩
    rw [if_neg (by decide), if_pos trivial, he3]
    exact g1
end
theorem ev_frO {env e1 : En} {fa : En → Option (R × En)} {xs : List Int} (h : EV fa env (.fr (xs.map D.int)) e1) : EV fa env (.fr ((xs.map some).map (eO D.int))) e1 := by
  rw [List.map_map]
  exact h
end Vm

set_option Elab.async false
set_option linter.all false
set_option maxRecDepth 100000
/-! VBK: any; a tuple of any kind that is walked; None or a list by a test. -/
namespace Vm
open PySem PySem.Spec PyProof.Rows L2 Evl
section
variable {K : PySem.W.Frag}
def bAny : List D → Option D
  | [.lst xs] => (unBls xs).map fun ns => .bl (ns.any id)
  | _ => none
theorem rc_any : RC K (rAny K) bAny := RCS.rc (by
  intro B H vs ds z e rx h
  unfold bAny at h
  split at h
  · obtain ⟨ns, h1, rfl⟩ := Option.map_eq_some_iff.mp h
    obtain ⟨v, rfl, k⟩ := rx.one
    obtain ⟨a, rfl, h2⟩ := k.bls e h1
    exact ⟨_, rfl, fun Q q => ⟨a, ns, rfl, sq_of h2, q⟩⟩
  · cases h)
theorem o_any {xs : List Bool} : bAny [.lst (xs.map D.bl)] = some (.bl (xs.any id)) := by
  show (unBls (xs.map D.bl)).map _ = _
  rw [unBls_map]
  rfl
end
/-- the items of a tuple -/
def unTp : D → List D
  | .tup ds => ds
  | _ => []
def asTup (d : D) : M (List D) := ⟨d = .tup (unTp d), unTp d⟩
theorem asTup_ok (ds : List D) : asTup (.tup ds) = ⟨D.tup ds = D.tup ds, ds⟩ := rfl
theorem ev_asTup {env e1 : En} {fa : En → Option (R × En)} {d : D} {ds : List D} (h : EV fa env (.val d) e1) (g : Hd (asTup d) ds) : EV fa env (.val (.tup (ds.map eD))) e1 := by
  obtain ⟨g1, rfl⟩ := g
  have g1 : d = .tup (unTp d) := g1
  rw [List.map_id'' (f := eD) (fun _ => rfl), show (asTup d).val = unTp d from rfl, ← g1]
  exact h
section
variable {K : PySem.W.Frag} {fix : List Nat} {W : WX} {te : TE} {f : En → Option (R × En)} {g : En → Option (Option Str × En)} {i : Nat}
theorem ss_setVN (h : SE K te f) (hr : ER K W te g) (hi : i ∉ fix) : SS K fix W (tAsg te (gName i)) (xOr g (sSetV i f)) := ss_xor (ss_setV h hi) fun C hC B env σ H c e s hg D hq => hr C hC B env σ H c e s hg _ hq
end
section
variable {env e1 e2 : En} {fa : En → Option (R × En)} {f : En → Option (List R × En)} {r : R} {d : D} {ds : List D}
/-- arguments as data -/
def AD (f : En → Option (List R × En)) (env : En) (ds : List D) (e2 : En) : Prop := ∃ rs, f env = some (rs, e2) ∧ ∀ e, frzs e rs = some (ds, e)
theorem ad_0 : AD aNil env [] env := ⟨[], rfl, fun _ => rfl⟩
theorem ad_1 (h : EV fa env r e1) (hz : ∀ e, frz e r = some (d, e)) (hs : AD f e1 ds e2) : AD (aCons fa f) env (d :: ds) e2 := by
  obtain ⟨rs, h1, h2⟩ := hs
  refine ⟨r :: rs, ?_, fun e => ?_⟩
  · unfold aCons
    rw [show fa env = _ from h]
    simp only [Option.bind_some]
    rw [h1]
    rfl
  · show (frz e r).bind _ = _
    rw [hz]
    simp only [Option.bind_some]
    rw [h2]
    rfl
theorem frz_oD {α : Type} {E : α → D} {z : Option (List α)} : ∀ e, frz e (rO E z) = some (oD E z, e) := fun e => by
  cases z with
  | none => rfl
  | some xs => rfl
theorem ev_lstA (h : AD f env ds e2) (hl : ds.length ≤ 1000) : EV (eLst f) env (.fr (ds.map eD)) e2 := by
  obtain ⟨rs, h1, h2⟩ := h
  rw [List.map_id'' (f := eD) (fun _ => rfl)]
  unfold EV eLst aD
  rw [h1]
  simp only [Option.bind_some]
  rw [h2]
  simp only [Option.bind_some]
  rw [if_pos hl]
end
end Vm

set_option Elab.async false
set_option linter.all false
set_option maxRecDepth 100000
/-! VFC: factorial. -/
namespace Vm
open PySem PySem.Spec PyProof.Rows L2 Evl
section
variable {K : PySem.W.Frag} {X : L2.Cx}
/-- 1 · 2 · .. · n -/
def facN : Nat → Nat
  | 0 => 1
  | n + 1 => facN n * (n + 1)
def rFactorial : List L2.V → L2.Hp → L2.VK → Prop := fun vs H Q => ∃ a : Int, vs = [.int a] ∧ 0 ≤ a ∧ a ≤ 20000 ∧ Q (.int ((Builtin.Math.factorialNat a.toNat : Nat) : Int)) H
theorem cr_factorial : CallR X (.builtin "math.factorial") rFactorial := by
  intro pins s σ H vs us Q I r h
  obtain ⟨a, rfl, h0, h1, q⟩ := h
  obtain ⟨u, rfl, ru⟩ := L2.Vals.one r
  obtain ⟨t, rfl⟩ := ru
  exact W.mc_factorial h0 h1 fun _ => ⟨.int ((Builtin.Math.factorialNat a.toNat : Nat) : Int), H, I.tok (s.toks + 1), ⟨s.toks, rfl⟩, q⟩
def bFactorial : List D → Option D
  | [.int a] => if 0 ≤ a ∧ a ≤ 20000 then some (.int ((Builtin.Math.factorialNat a.toNat : Nat) : Int)) else none
  | _ => none
theorem rc_factorial : RC K rFactorial bFactorial := RCS.rc (by
  intro B H vs ds z e rx h
  unfold bFactorial at h
  split at h
  · split at h
    · rename_i hc
      cases h
      obtain ⟨v, rfl, h1⟩ := rx.one
      have q1 := h1.int
      subst q1
      exact ⟨_, rfl, fun Q q => ⟨_, rfl, hc.1, hc.2, q⟩⟩
    · cases h
  · cases h)
def facM (a : Int) : M Int := ⟨0 ≤ a ∧ a ≤ 20000, ((Builtin.Math.factorialNat a.toNat : Nat) : Int)⟩
theorem o_factorial {a v : Int} (g : Hd (facM a) v) : bFactorial [.int a] = some (.int v) := by
  obtain ⟨h, rfl⟩ := g
  exact if_pos h
end

end Vm

set_option Elab.async false
set_option linter.all false
set_option maxRecDepth 100000
/-! VTL: a list as a test. -/
namespace Vm
open PySem PySem.Spec PyProof.Rows L2 Evl
section
variable {K : PySem.W.Frag} {te : TE} {f : En → Option (R × En)}
def tTruL (K : PySem.W.Frag) (te : TE) : TT := fun σ H Q => te σ H fun x H' => ∃ k, TruV K x H' k ∧ Q k H'
def bTruL (f : En → Option (R × En)) : En → Option (Bool × En) := fun env => (f env).bind fun a => (look a.2 a.1).bind fun d => match d with
  | .lst xs => some (!xs.isEmpty, a.2)
  | _ => none
theorem st_truL (h : SE K te f) : ST K (tTruL K te) (bTruL f) := by
  intro C hC B env σ H b env' s e Q hq
  obtain ⟨⟨r, e1⟩, h1, e⟩ := Option.bind_eq_some_iff.mp e
  obtain ⟨d, h2, e⟩ := Option.bind_eq_some_iff.mp e
  split at e
  · rename_i xs
    cases e
    refine h C hC B env σ H r e1 s h1 _ fun v B1 H1 s1 x1 rr => ?_
    have k := look_rep s1 rr h2
    rw [hC] at k
    obtain ⟨a, vs, rfl, h3, h4⟩ := k.list s1.exB
    refine ⟨!vs.isEmpty, .inl ⟨vs, sq_of h3, rfl⟩, ?_⟩
    have : vs.isEmpty = xs.isEmpty := by
      have hl := h4.length
      cases vs <;> cases xs <;> simp at hl <;> rfl
    rw [this]
    exact hq B1 H1 s1 x1
  · cases e
end
theorem tv_truL {α : Type} {E : α → D} {xs : List α} {fa : En → Option (R × En)} {env e1 : En} {r : R} (h : EV fa env r e1) (hl : look e1 r = some (.lst (xs.map E))) : TV (bTruL fa) env (!(List.isEmpty xs)) e1 := by
  show (fa env).bind _ = _
  rw [show fa env = some (r, e1) from h]
  show (look e1 r).bind _ = _
  rw [hl]
  show some (!(xs.map E).isEmpty, e1) = _
  cases xs <;> rfl
end Vm

set_option Elab.async false
set_option linter.all false
set_option maxRecDepth 100000
/-! VRC: defs that call themselves: the one that can't be called; isinstance of two types. -/
namespace Vm
open PySem PySem.Spec PyProof.Rows L2 Evl
theorem ok_none {P : Program} {w : World} {K : PySem.W.Frag} {mg : Str → Option Value} {base : Heap} {f : Addr} {fd : FuncData} {ps N : List Str} {x qual : Str} {st : Stmt} {n : Nat} (F : Fun K x qual st f fd) (sc : FnScope N ps (defScope st)) : FnG P w K mg base CX0 1 f fd ps (SpM K n fun _ => none) :=
  funG (k := 0) F sc (fun vs H Q E h => by obtain ⟨_, _, _, _, _, e, _⟩ := h; cases e) fun cdv A outer s H vs Q E hr h => by obtain ⟨_, _, _, _, _, e, _⟩ := h; cases e
def rIsiS (K : PySem.W.Frag) : List V → Hp → VK → Prop := fun xs H Q => ∃ (x : V) (tp : Addr) (cs : List V) (t : Value) (us : List Value) (b : Bool), xs = [x, .ref tp] ∧ SqT K H tp cs ∧ Paired ClsV cs us ∧ TyX K H x t ∧ PySem.W.kitAny K t us = some b ∧ Q (.bl b) H
theorem call_isiS {X : Cx} : CallR X (.builtin "isinstance") (rIsiS X.K) := by
  intro pins s σ H xs us Q I r h
  obtain ⟨x, tp, cs, t, ws, b, rfl, hT, k, ty, e, q⟩ := h
  obtain ⟨u1, u2, rfl, r1, r2⟩ := vals2 r
  cases (show u2 = Value.ref tp from r2)
  obtain ⟨P, Z, p0, hx⟩ := kit_of I r1 ty
  obtain ⟨its, rv, p, hz⟩ := I.tuple hT
  have e3 := ClsV.all k rv
  subst e3
  obtain ⟨o, h1, h2, n, h3⟩ := p
  obtain ⟨oc, od, dt, sl⟩ := o
  simp only at h2 h3
  subst h2 h3
  exact PySem.W.kia_tup Z I.kIn p0 h1 e hx fun tk => ⟨.bl b, H, I.kept (t' := tk) fun _ _ z => z, rfl, q⟩
def kit2 (d : D) (a b : String) : Option Bool := (tyD d).bind fun t => (kitB t a).bind fun x => (kitB t b).map fun y => x || y
def bIsiT : List D → Option D
  | [d, .tup [.ty a, .ty b]] => (kit2 d a b).map D.bl
  | _ => none
theorem rc_isiT {K : PySem.W.Frag} : RC K (rIsiS K) bIsiT := RCS.rc (by
  intro B H vs ds z e rx h
  unfold bIsiT at h
  split at h
  · rename_i d a b
    obtain ⟨c, h0, rfl⟩ := Option.map_eq_some_iff.mp h
    unfold kit2 at h0
    obtain ⟨t, h1, h0⟩ := Option.bind_eq_some_iff.mp h0
    obtain ⟨x, h2, h0⟩ := Option.bind_eq_some_iff.mp h0
    obtain ⟨y, h3, rfl⟩ := Option.map_eq_some_iff.mp h0
    obtain ⟨v, w, rfl, k1, k2⟩ := rx.two
    obtain ⟨tp, ws, rfl, s1, s2⟩ := (k2.scal fun _ z => by cases z).tuple
    have hws : ws = [V.ty a, V.ty b] := by
      cases s2 with
      | cons p q =>
        cases q with
        | cons p2 q2 =>
          cases q2
          have e1 := rep_sc (d := .ty a) rfl p
          have e2 := rep_sc (d := .ty b) rfl p2
          rw [e1, e2]
    subst hws
    have any : PySem.W.kitAny K (.type t) [.type a, .type b] = some (x || y) := kitAny_cons (kit_ty h2) (fun z => kitAny_cons (kit_ty h3) (fun z2 => by rw [kitAny_nil, z, z2]; rfl) fun z2 => by rw [z2, Bool.or_true]) fun z => by rw [z, Bool.true_or]
    exact ⟨_, rfl, fun Q q => ⟨v, tp, _, _, _, _, rfl, ex_t e s1, .cons (.ty a) (.cons (.ty b) .nil), tyX_of e k1 h1, any, q⟩⟩
  · cases h)
def isi2 (d : D) (a b : String) : M Bool := ⟨(kit2 d a b).isSome = true, (kit2 d a b).getD false⟩
theorem o_isi2 {d : D} {a b : String} {v : Bool} (g : Hd (isi2 d a b) v) : bIsiT [d, .tup [.ty a, .ty b]] = some (.bl v) := by
  obtain ⟨h, rfl⟩ := g
  obtain ⟨w, e⟩ := Option.isSome_iff_exists.mp h
  show (kit2 d a b).map D.bl = some (.bl ((kit2 d a b).getD false))
  rw [e]
  rfl
/-! str of a number -/
def rStrI : List V → Hp → VK → Prop := fun xs H Q => ∃ i : Int, xs = [.int i] ∧ i.natAbs.log2 < 1920 ∧ Q (.str (toString i)) H
def bStrI : List D → Option D
  | [.int i] => if i.natAbs.log2 < 1920 then some (.str (toString i)) else none
  | _ => none
theorem rc_strI {K : PySem.W.Frag} : RC K rStrI bStrI := RCS.rc (by
  intro B H vs ds z e rx h
  unfold bStrI at h
  split at h
  · split at h
    · rename_i hc
      cases h
      obtain ⟨v, rfl, h1⟩ := rx.one
      have q1 := h1.int
      subst q1
      exact ⟨_, rfl, fun Q q => ⟨_, rfl, hc, q⟩⟩
    · cases h
  · cases h)
def strIM (i : Int) : M Str := ⟨i.natAbs.log2 < 1920, toString i⟩
theorem o_strI {i : Int} {v : Str} (g : Hd (strIM i) v) : bStrI [.int i] = some (.str v) := by
  obtain ⟨h, rfl⟩ := g
  exact if_pos h
/-! is True, is False -/
def dIsB : D → D → Option D
  | .bl a, .bl b => some (.bl (decide (a = b)))
  | _, _ => none
def dNotB : D → D → Option D
  | .bl a, .bl b => some (.bl (!decide (a = b)))
  | _, _ => none
theorem ros_isB {K : PySem.W.Frag} : ROS K rIsB dIsB := by
  intro B H x y dx dy z e rx ry h
  unfold dIsB at h
  split at h
  · cases h
    exact ⟨_, rfl, fun Q k => ⟨_, _, rx.bl, ry.bl, k⟩⟩
  · cases h
theorem ros_notB {K : PySem.W.Frag} : ROS K rNotB dNotB := by
  intro B H x y dx dy z e rx ry h
  unfold dNotB at h
  split at h
  · cases h
    exact ⟨_, rfl, fun Q k => ⟨_, _, rx.bl, ry.bl, k⟩⟩
  · cases h
theorem ro_isB {K : PySem.W.Frag} : RO K rIsB dIsB := ros_isB.ro
theorem ro_notB {K : PySem.W.Frag} : RO K rNotB dNotB := ros_notB.ro
theorem o_isB {a b : Bool} : dIsB (.bl a) (.bl b) = some (.bl (decide (a = b))) := rfl
theorem o_notB {a b : Bool} : dNotB (.bl a) (.bl b) = some (.bl (!decide (a = b))) := rfl
end Vm

set_option Elab.async false
set_option linter.all false
set_option maxRecDepth 100000
/-! VPS: two items of an own list of numbers at once: xs[a], xs[b] = e1, e2. -/
namespace Vm
open PySem PySem.Spec PyProof.Rows L2 Evl
section
variable {K : PySem.W.Frag} {fix : List Nat} {W : WX}
/-- a store of a number to an item -/
def putI (i : Nat) (fk : En → Option (R × En)) (x : Int) : En → Option En := fun env => (fk env).bind fun k => match k.1 with
  | .val (.int z) => (own k.2 i).bind fun xs => (ixN xs.length z).map fun j => k.2.set i (.ow (xs.set j (.int x)))
  | _ => none
def sPar2P (i : Nat) (f : En → Option (List R × En)) (fk1 fk2 : En → Option (R × En)) : En → Option Out := fun env => (f env).bind fun a => match a.1 with
  | [.val (.int x), .val (.int y)] => (own a.2 i).bind fun _ => (putI i fk1 x a.2).bind fun e => (putI i fk2 y e).map Out.nx
  | _ => none
theorem putI_ok {C : Ctx} {B : Hp} {env e1 : En} {σ : L2.St} {H : Hp} {i : Nat} {fk : En → Option (R × En)} {tk : TE} {x : Int} (hC : C.K = K) (hk : SE K tk fk) (s : SR C B env σ H) (e : putI i fk x env = some e1) (h0 : ∃ q, σ[i]? = some (some (.ref q))) (Q : L2.St → Hp → Prop) (p : ∀ B' σ' H', SR C B' e1 σ' H' → Ex B B' → (∃ q, σ'[i]? = some (some (.ref q))) → Q σ' H') : gSub (tVar i) tk rSetL (.int x) σ H Q := by
  obtain ⟨⟨k, e3⟩, g3, e⟩ := Option.bind_eq_some_iff.mp e
  split at e
  · rename_i z hz
    simp only at hz
    subst hz
    obtain ⟨xs, g4, e⟩ := Option.bind_eq_some_iff.mp e
    obtain ⟨j, g5, rfl⟩ := Option.map_eq_some_iff.mp e
    obtain ⟨q, hs⟩ := h0
    refine ⟨.ref q, hs, ?_⟩
    refine hk C hC B env σ H _ e3 s g3 _ fun w B3 H3 s3 x3 rk => ?_
    have rk : Rep C.K B3 w (.int z) := rk
    cases rk
    obtain ⟨q', vs, hs', bq, gq, hq, ra⟩ := s3.sl i _ (own_some g4)
    rw [hs] at hs'
    cases hs'
    refine ⟨q, vs, z, j, rfl, rfl, hq, by rw [ra.length]; exact g5, ?_⟩
    exact p B3 σ _ (s3.put (own_some g4) hs (RepAll.set (.int x) j ra)) x3 ⟨q, hs⟩
  · cases e
theorem ss_par2P {i : Nat} {tl : TA} {f : En → Option (List R × En)} {tk1 tk2 : TE} {fk1 fk2 : En → Option (R × En)} (h : SAd K tl f) (h1 : SE K tk1 fk1) (h2 : SE K tk2 fk2) : SS K fix W (tAsg (tTup tl) (gTup K 2 (gCons (gSub (tVar i) tk1 rSetL) (gCons (gSub (tVar i) tk2 rSetL) gNil)))) (sPar2P i f fk1 fk2) := by
  intro C hC hF B env σ H o s e D p
  obtain ⟨⟨rs, e1⟩, g1, e⟩ := Option.bind_eq_some_iff.mp e
  simp only at e
  split at e
  · rename_i x y
    obtain ⟨xs0, g0, e⟩ := Option.bind_eq_some_iff.mp e
    obtain ⟨e2, g2, e⟩ := Option.bind_eq_some_iff.mp e
    obtain ⟨e3, g3, rfl⟩ := Option.map_eq_some_iff.mp e
    refine h C hC B env σ H _ e1 s g1 _ fun vs B1 H1 s1 x1 rr dd => ?_
    have l2 := reps_len rr
    have hvs : vs = [V.int x, V.int y] := by
      match vs, rr with
      | [v, w], ⟨a, c, _⟩ =>
        have a : Rep C.K B1 v (.int x) := a
        have c : Rep C.K B1 w (.int y) := c
        cases a
        cases c
        rfl
    subst hvs
    refine ⟨le1000 (by simp), fun q hq => ?_⟩
    refine ⟨q, _, rfl, st_of upd_same, by rfl, ?_⟩
    obtain ⟨q0, vs0, hs0, _⟩ := s1.sl i _ (own_some g0)
    refine ⟨_, _, rfl, ?_⟩
    refine putI_ok hC h1 (s1.temp hq) g2 ⟨q0, hs0⟩ _ fun B2 σ2 H2 s2 x2 k2 => ?_
    refine ⟨_, _, rfl, ?_⟩
    refine putI_ok hC h2 s2 g3 k2 _ fun B3 σ3 H3 s3 x3 k3 => ?_
    exact ⟨rfl, p B3 σ3 _ s3 ((x1.trans x2).trans x3)⟩
  · cases e
end
section
variable {env e1 e2 e3 : En} {f : En → Option (List R × En)} {fk fk1 fk2 : En → Option (R × En)} {Q : Out → Prop} {i : Nat} {xs zs ws : List Int} {x y k l : Int}
theorem putI_set (h0 : e1[i]? = some (.ow (xs.map D.int))) (hk : EV fk e1 (.val (.int k)) e1) (g : Hd (setM xs k x) zs) (hs : e1.set i (.ow (zs.map D.int)) = e2) : putI i fk x e1 = some e2 := by
  unfold putI
  rw [show fk e1 = some (.val (.int k), e1) from hk]
  show (own e1 i).bind _ = _
  rw [x_own, h0]
  show (ixN (xs.map D.int).length k).map _ = _
  rw [List.length_map, ixN_of g.ok, ← hs, ← g.eq]
  show some (e1.set i (.ow ((xs.map D.int).set _ (D.int x)))) = some (e1.set i (.ow ((setI xs k x).map D.int)))
  unfold setI
  rw [List.map_set]
theorem g_par2P (h : AV f env [.val (.int x), .val (.int y)] e1) (h0 : e1[i]? = some (.ow (xs.map D.int))) (hk : EV fk1 e1 (.val (.int k)) e1) (g : Hd (setM xs k x) zs) (hm : e1.set i (.ow (zs.map D.int)) = e2) (hm2 : e2[i]? = some (.ow (zs.map D.int))) (hl : EV fk2 e2 (.val (.int l)) e2) (g' : Hd (setM zs l y) ws) (hs : e2.set i (.ow (ws.map D.int)) = e3) (q : Q (.nx e3)) : Go (sPar2P i f fk1 fk2) env Q := by
  refine ⟨.nx e3, ?_, q⟩
  unfold sPar2P
  rw [show f env = some (_, e1) from h]
  show (own e1 i).bind _ = _
  rw [x_own, h0]
  show (putI i fk1 x e1).bind _ = _
  rw [putI_set h0 hk g hm]
  show (putI i fk2 y e2).map _ = _
  rw [putI_set hm2 hl g' hs]
  rfl
end
end Vm

set_option Elab.async false
set_option linter.all false
set_option maxRecDepth 100000
/-! VMD: min(xs, default=None) of numbers; comprehensions whose test changes own lists. -/
namespace Vm
open PySem PySem.Spec PyProof.Rows L2 Evl
section
variable {K : PySem.W.Frag} {X : L2.Cx}
def rMinN (K : PySem.W.Frag) : List V → List V → Hp → VK → Prop := fun vs zs H Q => ∃ (a : Addr) (ns : List Int), vs = [V.ref a] ∧ zs = [.non] ∧ SqL K H a (ns.map V.int) ∧ Q (if ns = [] then .non else .int (minL ns)) H
def rMinN1 (K : PySem.W.Frag) : List V → Hp → VK → Prop := fun vs H Q => rMinN K vs [.non] H Q
theorem depthAll_ints : ∀ ns : List Int, PyData.depthAll (ns.map PyData.int) = 0
  | [] => rfl
  | n :: ns => by
    show max (PyData.int n).depth (PyData.depthAll (ns.map PyData.int)) = 0
    rw [depthAll_ints ns]
    rfl
theorem alike_ints (ns : List Int) : PySem.W.AlikeAll (ns.map PyData.int) := by
  refine ⟨fun x hx y hy => ?_, fun x hx => ?_⟩
  · obtain ⟨i, _, rfl⟩ := List.mem_map.mp hx
    obtain ⟨j, _, rfl⟩ := List.mem_map.mp hy
    rfl
  · obtain ⟨i, _, rfl⟩ := List.mem_map.mp hx
    intro h
    cases h
theorem cr_minN (hc : X.calm = true) (hu : X.A.units + 64 < cLine) : CallRK X (.builtin "min") [Str.ofString "default"] (rMinN X.K) := by
  intro pins s σ H vs zs us ws Q I r rz h
  obtain ⟨a, ns, rfl, rfl, hs, q⟩ := h
  obtain ⟨its, rv, hl, _⟩ := I.list hs
  rw [Vals.ref1 r]
  obtain ⟨w1, rfl, e1⟩ := vals1 rz
  obtain rfl : w1 = Value.none := e1
  have hi := rv.ints
  refine PySem.W.min_list_default (vs := its.toArray) (xs := ns.map PyData.int) (as := []) (I.ok.hd hc) hl.isList (hi.reads _) (alike_ints ns) (by rw [depthAll_ints]; omega) (fun e h' tk hk => ?_) (fun y ys i v h' tk bs e hv hr hk => ?_)
  · have e : ns = [] := List.map_eq_nil_iff.mp e
    rw [if_pos e] at q
    exact ⟨.non, H, I.kept hk, rfl, q⟩
  · cases ns with
    | nil => cases e
    | cons n ns =>
      injection e with e1 e2
      subst e1
      subst e2
      rw [PySem.W.minD_ints] at hr
      rw [if_neg (by simp)] at q
      cases hr
      exact ⟨.int _, H, I.kept hk, ⟨_, rfl⟩, q⟩
def bMinN : List D → Option D
  | [.lst xs] => (unInts xs).map fun ns => if ns = [] then .non else .int (minL ns)
  | _ => none
theorem rc_minN : RC K (rMinN1 K) bMinN := RCS.rc (by
  intro B H vs ds z e rx h
  unfold bMinN at h
  split at h
  · obtain ⟨ns, h1, rfl⟩ := Option.map_eq_some_iff.mp h
    obtain ⟨v, rfl, k⟩ := rx.one
    obtain ⟨a, rfl, h2⟩ := k.ints e h1
    by_cases hn : ns = []
    · refine ⟨.non, by rw [if_pos hn]; rfl, fun Q q => ⟨a, ns, rfl, rfl, sq_of h2, ?_⟩⟩
      rw [if_pos hn]
      exact q
    · refine ⟨.int (minL ns), by rw [if_neg hn]; rfl, fun Q q => ⟨a, ns, rfl, rfl, sq_of h2, ?_⟩⟩
      rw [if_neg hn]
      exact q
  · cases h)
theorem pe_minN {p pos c kpos : Pos} {e : Expr} {t : TA} {j : Nat} (hc : X.calm = true) (hu : X.A.units + 64 < cLine) (hg : Gl X "min") (hm : X.mg "min" = none) (ha : PA X [e] t)
    (he : backTo pos (starEach [e] X.env) = (false, eval e X.env) :: backTo pos (starEach [] X.env) := by rfl) (hpl : (backTo pos (starEach [e] X.env)).any (·.1) = false := by rfl) :
    PE X (.Call (.Name "min" p) [e] [⟨some "default", .Constant .none j c, kpos⟩] pos) (tCB (rMinN1 X.K) t) :=
  pe_callBK (cr_minN hc hu) hg hm (by decide +kernel) ha (pk_cons pe_non pk_nil) (by decide) (by decide) he hpl rfl rfl rfl
end
def minO (xs : List Int) : Option Int := if xs = [] then none else some (minL xs)
theorem o_minN {xs : List Int} : bMinN [.lst (xs.map D.int)] = some (eO D.int (minO xs)) := by
  show (unInts (xs.map D.int)).map _ = _
  rw [unInts_map]
  unfold minO
  by_cases h : xs = []
  · rw [if_pos h, Option.map_some, if_pos h]; rfl
  · rw [if_neg h, Option.map_some, if_neg h]; rfl

section
variable {X : L2.Cx} {x : Str} {j k : Nat} {m : En → Option Res} {p pos : Pos}
/-- a call without arguments -/
theorem pe_dG0 (h : DefG X.prog X.w X.K X.mg X.base x [] k m) (hr : Rg j X.A) (hj : k ≤ j) (hg : Gl X x) (hdb : (x == ("__debug__" : Str)) = false := by decide) :
    PE X (.Call (.Name x p) [] [] pos) (tCall (SpM X.K 0 m) [] E0 tNil) := by
  rw [tCall_nil]
  obtain ⟨f, fd, at_f, F, kp, bn⟩ := h.ex
  constructor
  intro pins s σ H Q inv want
  refine wpAny_Call_Name_kw (ld_glob inv hg at_f ?_ hdb)
  exact PySem.W.callWith_K0 inv.kIn kp (run_G (us := []) (E := fun _ => E0) F (hr.mono hj) bn (fun _ _ _ _ _ _ z => z.elim) inv .nil want)
end
/-- a comprehension whose test changes own lists -/
def lcO {α β σ : Type} (st : σ → α → M (Option β × σ)) : σ → List α → M (List β × σ)
  | s, [] => pr ([], s)
  | s, x :: xs => bd (st s x) fun a => bd (lcO st a.2 xs) fun c => pr ((match a.1 with | some y => y :: c.1 | none => c.1), c.2)
section
variable {env e1 e2 : En}
theorem ev_lcO {α β σ : Type} {vs : List Nat} {fi : En → Option (List D × En)} {tgt : D → En → Option En} {test : En → Option (Bool × En)} {elt : En → Option (R × En)} {E : α → D} {E' : β → D} {xs : List α} {st : σ → α → M (Option β × σ)} {s0 : σ} {z : List β × σ} (shape : σ → En)
    (h : Hd (lcO st s0 xs) z) (hi : fi env = some (xs.map E, e2)) (hl : xs.length < 1000000) (hp : plainAt e2 vs = true) (hw : wipeE e2 vs = shape s0)
    (hs : ∀ s x w, Hd (st s x) w → ∃ e1 b e2, tgt (E x) (shape s) = some e1 ∧ TV test e1 b e2 ∧ ((b = true ∧ ∃ r y e3 e4, w.1 = some y ∧ EV elt e2 r e3 ∧ frz e3 r = some (E' y, e4) ∧ wipeE e4 vs = shape w.2) ∨ (b = false ∧ w.1 = none ∧ wipeE e2 vs = shape w.2))) (hbk : back e2 (shape z.2) vs = e1) : EV (eLc vs fi tgt test elt) env (.fr (z.1.map E')) e1 := by
  have go : ∀ (xs : List α) (s : σ) (acc : List D) (z : List β × σ), Hd (lcO st s xs) z → lcF vs tgt test elt (xs.map E) (shape s) acc = some (acc ++ z.1.map E', shape z.2) := by
    intro xs
    induction xs with
    | nil =>
      intro s acc z h
      have e : (([] : List β), s) = z := h.eq
      subst e
      show some (acc, shape s) = _
      simp
    | cons x xs ih =>
      intro s acc z h
      have h : Hd (bd (st s x) fun a => bd (lcO st a.2 xs) fun c => pr ((match a.1 with | some y => y :: c.1 | none => c.1), c.2)) z := h
      obtain ⟨e1, b, e2, g1, g2, g3⟩ := hs s x _ (hb0 h)
      have h2 := hb2 h
      have h3 := (hb2 h2).eq
      have g2 : test e1 = some (b, e2) := g2
      show (tgt (E x) (shape s)).bind _ = _
      rw [g1]
      show (test e1).bind _ = _
      rw [g2]
      rcases g3 with ⟨rfl, r, y, e3, e4, k1, k2, k3, k4⟩ | ⟨rfl, k1, k2⟩
      · have k2 : elt e2 = some (r, e3) := k2
        have i := ih _ (acc ++ [E' y]) _ (hb0 h2)
        rw [k1] at h3
        have h3 : (y :: (lcO st (st s x).val.2 xs).val.1, (lcO st (st s x).val.2 xs).val.2) = z := h3
        subst h3
        show (elt e2).bind _ = _
        rw [k2]
        show (frz e3 r).bind _ = _
        rw [k3]
        show lcF vs tgt test elt (xs.map E) (wipeE e4 vs) _ = _
        rw [k4]
        show lcF vs tgt test elt (xs.map E) _ (acc ++ [E' y]) = _
        rw [i]
        simp
      · have i := ih _ acc _ (hb0 h2)
        rw [k1] at h3
        have h3 : ((lcO st (st s x).val.2 xs).val.1, (lcO st (st s x).val.2 xs).val.2) = z := h3
        subst h3
        show lcF vs tgt test elt (xs.map E) (wipeE e2 vs) _ = _
        rw [k2]
        exact i
  unfold EV eLc
  rw [hi]
  simp only [Option.bind_some]
  rw [List.length_map, if_pos ⟨hl, hp⟩, hw, go xs s0 [] z h]
  simp [hbk]
end
end Vm

set_option Elab.async false
set_option linter.all false
/-! FR: repr of lists of numbers. -/
namespace Vm
open PySem L2
theorem toPyAll_intsR : ∀ cs : List Int, toPyAll (cs.map D.int) = some (cs.map PyData.int)
  | [] => rfl
  | c :: cs => by
    show (toPy (.int c)).bind _ = _
    rw [toPyAll_intsR cs]
    rfl
theorem textFrom_le : ∀ (ts : List Str) (k : Nat) (acc : Str), (textFrom k acc ts).length ≤ acc.length + piled ts
  | [], k, acc => by
    show acc.length ≤ _
    omega
  | t :: r, k, acc => by
    have q := textFrom_le r (k + 1) (acc ++ (if k > 0 then ", " else "" : String) ++ t)
    have e : (acc ++ (if k > 0 then ", " else "" : String) ++ t).length = acc.length + (if k > 0 then 2 else 0) + t.length := by
      rw [strLen_append, strLen_append]
      split <;> rfl
    rw [e] at q
    rw [piled_cons]
    show (textFrom (k + 1) _ r).length ≤ _
    have b : (if k > 0 then 2 else 0 : Nat) ≤ 2 := by split <;> omega
    omega
theorem listText_le (ts : List Str) : (listText ts).length ≤ piled ts + 2 := by
  have q := textFrom_le ts 0 "["
  unfold listText
  rw [strLen_append]
  have e1 : ("[" : Str).length = 1 := rfl
  have e2 : ("]" : Str).length = 1 := rfl
  omega
theorem piled_ints {n : Nat} (hn : 0 < n) : ∀ cs : List Int, (∀ c ∈ cs, c.natAbs < 2 ^ n) → piled (PyData.shownAll (cs.map PyData.int)) ≤ cs.length * (n + 3)
  | [], _ => by
    show piled [] ≤ _
    rw [piled_nil]
    omega
  | c :: cs, h => by
    have ih := piled_ints hn cs fun x hx => h x (List.mem_cons_of_mem _ hx)
    show piled (PyData.shown (.int c) :: PyData.shownAll (cs.map PyData.int)) ≤ _
    rw [piled_cons]
    have e : (PyData.shown (.int c)).length ≤ n + 1 := by
      show (Str.ofString (toString c)).length ≤ _
      rw [ofString_length]
      refine int_text_length_le hn ?_
      by_cases z : c.natAbs = 0
      · rw [z]
        simpa using hn
      · exact (Nat.log2_lt z).mpr (h c List.mem_cons_self)
    rw [List.length_cons, Nat.succ_mul]
    omega
theorem showable_ints {n : Nat} (hn : n ≤ 1920) : ∀ cs : List Int, (∀ c ∈ cs, c.natAbs < 2 ^ n) → PyData.showableAll (cs.map PyData.int) = true
  | [], _ => rfl
  | c :: cs, h => by
    show (decide (c.natAbs.log2 < 1920) && PyData.showableAll (cs.map PyData.int)) = true
    rw [showable_ints hn cs fun x hx => h x (List.mem_cons_of_mem _ hx), Bool.and_true]
    refine decide_eq_true ?_
    by_cases z : c.natAbs = 0
    · rw [z]
      decide
    · exact Nat.lt_of_lt_of_le ((Nat.log2_lt z).mpr (h c List.mem_cons_self)) hn
theorem nodict_ints : ∀ cs : List Int, PyData.hasDictAll (cs.map PyData.int) = false
  | [] => rfl
  | c :: cs => by
    show (false || PyData.hasDictAll (cs.map PyData.int)) = false
    rw [nodict_ints cs]
    rfl
theorem depth_intsR : ∀ cs : List Int, PyData.depthAll (cs.map PyData.int) = 0
  | [] => rfl
  | c :: cs => by
    show max 0 (PyData.depthAll (cs.map PyData.int)) = 0
    rw [depth_intsR cs]
    rfl
theorem hd_reprI {cs : List Int} (h : ∀ c ∈ cs, c.natAbs < 2 ^ 1000) (hl : cs.length ≤ 10000) : Hd (reprM (eL D.int cs)) (reprM (eL D.int cs)).val := by
  refine ⟨?_, rfl⟩
  have e : toPy (eL D.int cs) = some (.list (cs.map PyData.int)) := by
    show (toPyAll (cs.map D.int)).map PyData.list = _
    rw [toPyAll_intsR]
    rfl
  show ((toPy (eL D.int cs)).bind showS).isSome = true
  rw [e]
  show (showS (.list (cs.map PyData.int))).isSome = true
  unfold showS
  have e1 : PyData.showable (.list (cs.map PyData.int)) = true := by
    simp only [PyData.showable]
    exact showable_ints (n := 1000) (by decide) cs h
  have e2 : PyData.hasDict (.list (cs.map PyData.int)) = false := by
    simp only [PyData.hasDict]
    exact nodict_ints cs
  have e3 : PyData.depth (.list (cs.map PyData.int)) = 1 := by
    simp only [PyData.depth]
    rw [depth_intsR]
  have e4 : (PyData.shown (.list (cs.map PyData.int))).length ≤ sizeLine := by
    simp only [PyData.shown]
    have h1 := listText_le (PyData.shownAll (cs.map PyData.int))
    have h2 := piled_ints (n := 1000) (by decide) cs h
    have h3 : cs.length * (1000 + 3) ≤ 10000 * 1003 := Nat.mul_le_mul hl (by decide)
    rw [sizeLine_eq]
    omega
  rw [if_pos (by simp only [e1, e2, e3]; simpa using e4)]
  rfl
end Vm

set_option Elab.async false
set_option linter.all false
set_option maxRecDepth 100000
/-! FD: values of any kind: what they are, isinstance, repr. -/
namespace Vm
open PySem PySem.Spec PyProof.Rows L2 Evl
theorem hd_xn {k : M (Option Str)} {z : Option Str} (h : Hd k z) : Hd (xal none k) z := h
theorem hd_xs {k : M (Option Str)} {c : Str} : Hd (xal (some c) k) (some c) := hd_p
theorem hd_sel {α : Type} [Inhabited α] {a : α} {m : M α} : ∀ {ms : List (M α)} {i : Nat}, ms[i]? = some m → Hd m a → Hd (sel i ms) a
  | [], _, h, _ => by cases h
  | x :: ms, 0, h, g => by cases h; exact g
  | x :: ms, i + 1, h, g => hd_sel (ms := ms) (i := i) h g
theorem unI_map (ns : List Int) : (ns.map D.int).map unI = ns := by
  rw [List.map_map]
  exact List.map_id'' (fun _ => rfl) ns
theorem asInts_ok (ns : List Int) : Hd (asInts (eL D.int ns)) ns := by
  refine ⟨?_, unI_map ns⟩
  show D.lst (ns.map D.int) = .lst (((ns.map D.int).map unI).map D.int)
  rw [unI_map]
theorem asInts_ok' (ns : List Int) : Hd (asInts (.lst (ns.map D.int))) ns := asInts_ok ns
theorem asList_ok (ds : List D) : Hd (asList (.lst ds)) ds := ⟨rfl, rfl⟩
theorem asList_I (ns : List Int) : Hd (asList (eL D.int ns)) (ns.map D.int) := ⟨rfl, rfl⟩
theorem asInt_ok (i : Int) : Hd (asInt (.int i)) i := ⟨rfl, rfl⟩
/-- what isinstance of int, bool, list, tuple tells -/
def tameD (d : D) : Bool := (tyD d).isSome
def isIB : D → Bool
  | .int _ => true
  | .bl _ => true
  | _ => false
def isB : D → Bool
  | .bl _ => true
  | _ => false
def isLs : D → Bool
  | .lst _ => true
  | .scr _ => true
  | _ => false
def isTp : D → Bool
  | .tup _ => true
  | _ => false
def isSt : D → Bool
  | .str _ => true
  | _ => false
def isW : D → Bool
  | .int _ => true
  | _ => false
theorem isi_of {d : D} {t n : String} {b : Bool} (h : tyD d = some n) (k : kitB n t = some b) : Hd (isiD d t) b := by
  refine ⟨?_, ?_⟩
  · show ((tyD d).bind fun n => kitB n t).isSome = true
    rw [h]
    show (kitB n t).isSome = true
    rw [k]
    rfl
  · show ((tyD d).bind fun n => kitB n t).getD false = b
    rw [h]
    show (kitB n t).getD false = b
    rw [k]
    rfl
theorem isi_int {d : D} (h : tameD d = true) : Hd (isiD d "int") (isIB d) := by
  cases d <;> first
    | exact isi_of (b := true) rfl (by decide +kernel)
    | exact isi_of (b := false) rfl (by decide +kernel)
    | exact absurd h Bool.false_ne_true
theorem isi_bool {d : D} (h : tameD d = true) : Hd (isiD d "bool") (isB d) := by
  cases d <;> first
    | exact isi_of (b := true) rfl (by decide +kernel)
    | exact isi_of (b := false) rfl (by decide +kernel)
    | exact absurd h Bool.false_ne_true
theorem isi_list {d : D} (h : tameD d = true) : Hd (isiD d "list") (isLs d) := by
  cases d <;> first
    | exact isi_of (b := true) rfl (by decide +kernel)
    | exact isi_of (b := false) rfl (by decide +kernel)
    | exact absurd h Bool.false_ne_true
theorem isi_tuple {d : D} (h : tameD d = true) : Hd (isiD d "tuple") (isTp d) := by
  cases d <;> first
    | exact isi_of (b := true) rfl (by decide +kernel)
    | exact isi_of (b := false) rfl (by decide +kernel)
    | exact absurd h Bool.false_ne_true
theorem isi_str {d : D} (h : tameD d = true) : Hd (isiD d "str") (isSt d) := by
  cases d <;> first
    | exact isi_of (b := true) rfl (by decide +kernel)
    | exact isi_of (b := false) rfl (by decide +kernel)
    | exact absurd h Bool.false_ne_true
/-! ### repr -/
def leafOk (d : D) : Bool := match toPyD d with
  | some p => p.showable && decide (p.depth ≤ 3) && decide (p.shown.length ≤ 200)
  | none => false
mutual
def goodD : D → Bool
  | .non => true
  | .bl _ => true
  | .int i => decide (i.natAbs < 2 ^ 1000)
  | .lst xs => goodDs xs
  | .tup xs => goodDs xs
  | .str x => leafOk (.str x)
  | .dct ks xs => leafOk (.dct ks xs)
  | _ => false
def goodDs : List D → Bool
  | [] => true
  | x :: xs => goodD x && goodDs xs
end
mutual
def depD : D → Nat
  | .lst xs => 1 + depDs xs
  | .tup xs => 1 + depDs xs
  | .str _ => 3
  | .dct _ _ => 3
  | _ => 0
def depDs : List D → Nat
  | [] => 0
  | x :: xs => max (depD x) (depDs xs)
end
mutual
def lenD : D → Nat
  | .lst xs => lenDs xs + 2
  | .tup xs => lenDs xs + 3
  | .str _ => 200
  | .dct _ _ => 200
  | _ => 1001
def lenDs : List D → Nat
  | [] => 0
  | x :: xs => lenD x + 2 + lenDs xs
end

theorem piled_sum (ts : List Str) : (ts.map (·.length)).sum + 2 * ts.length = piled ts := by
  induction ts with
  | nil => rfl
  | cons t ts ih =>
    rw [piled_cons, List.map_cons, List.sum_cons, List.length_cons, ← ih]
    omega
theorem leaf_of {d : D} (h : leafOk d = true) : ∃ p, toPyD d = some p ∧ p.showable = true ∧ p.depth ≤ 3 ∧ p.shown.length ≤ 200 := by
  unfold leafOk at h
  cases q : toPyD d with
  | none => rw [q] at h; cases h
  | some p =>
    rw [q] at h
    simp only [Bool.and_eq_true, decide_eq_true_eq] at h
    exact ⟨p, rfl, h.1.1, h.1.2, h.2⟩
mutual
theorem good_of : ∀ {d : D}, goodD d = true → ∃ p, toPyD d = some p ∧ p.showable = true ∧ p.depth ≤ depD d ∧ p.shown.length ≤ lenD d
  | .non, _ => ⟨_, rfl, rfl, Nat.le_refl _, by decide +kernel⟩
  | .bl b, _ => ⟨_, rfl, rfl, Nat.le_refl _, by cases b <;> decide +kernel⟩
  | .int i, h => by
    have h : i.natAbs < 2 ^ 1000 := by simpa only [goodD, decide_eq_true_eq] using h
    have h2 : i.natAbs.log2 < 1000 := by
      by_cases z : i.natAbs = 0
      · rw [z]; decide
      · exact (Nat.log2_lt z).mpr h
    refine ⟨_, rfl, ?_, Nat.le_refl _, ?_⟩
    · simp only [PyData.showable]
      exact decide_eq_true (by omega)
    · show (Str.ofString (toString i)).length ≤ 1001
      rw [PySem.ofString_length]
      exact int_text_length_le (by decide) h2
  | .str x, h => leaf_of (by simpa only [goodD] using h) |>.imp fun p q => ⟨q.1, q.2.1, q.2.2⟩
  | .dct ks xs, h => leaf_of (by simpa only [goodD] using h) |>.imp fun p q => ⟨q.1, q.2.1, q.2.2⟩
  | .ref _, h => by simp only [goodD] at h; cases h
  | .ty _, h => by simp only [goodD] at h; cases h
  | .fn _, h => by simp only [goodD] at h; cases h
  | .scr _, h => by simp only [goodD] at h; cases h
  | .lst xs, h => by
    obtain ⟨ps, e, h1, h2, h3⟩ := goods_of (ds := xs) (by simpa only [goodD] using h)
    refine ⟨.list ps, by show (toPyDs xs).map _ = _; rw [e]; rfl, by simpa only [PyData.showable] using h1, ?_, ?_⟩
    · simp only [PyData.depth, depD]
      omega
    · have q := listText_le (PyData.shownAll ps)
      simp only [PyData.shown, lenD]
      omega
  | .tup xs, h => by
    obtain ⟨ps, e, h1, h2, h3⟩ := goods_of (ds := xs) (by simpa only [goodD] using h)
    refine ⟨.tuple ps, by show (toPyDs xs).map _ = _; rw [e]; rfl, by simpa only [PyData.showable] using h1, ?_, ?_⟩
    · simp only [PyData.depth, depD]
      omega
    · have q := tupleText_len_le (PyData.shownAll ps)
      rw [piled_sum] at q
      simp only [PyData.shown, lenD]
      omega
theorem goods_of : ∀ {ds : List D}, goodDs ds = true → ∃ ps, toPyDs ds = some ps ∧ PyData.showableAll ps = true ∧ PyData.depthAll ps ≤ depDs ds ∧ piled (PyData.shownAll ps) ≤ lenDs ds
  | [], _ => ⟨[], rfl, rfl, Nat.le_refl _, Nat.le_refl _⟩
  | d :: ds, h => by
    have h : goodD d = true ∧ goodDs ds = true := by simpa only [goodDs, Bool.and_eq_true] using h
    obtain ⟨p, e, h1, h2, h3⟩ := good_of h.1
    obtain ⟨ps, e', k1, k2, k3⟩ := goods_of h.2
    refine ⟨p :: ps, by show (toPyD d).bind _ = _; rw [e]; show (toPyDs ds).map _ = _; rw [e']; rfl, by simp only [PyData.showableAll, h1, k1, Bool.and_self], ?_, ?_⟩
    · simp only [PyData.depthAll, depDs]
      omega
    · simp only [PyData.shownAll, lenDs]
      rw [piled_cons]
      omega
end
theorem reprD_ok {d : D} (h : goodD d = true) (h1 : depD d ≤ 59) (h2 : lenD d ≤ 1000000) : Hd (reprDM d) (reprDM d).val := by
  obtain ⟨p, e, k1, k2, k3⟩ := good_of h
  refine ⟨?_, rfl⟩
  show ((toPyD d).bind showD).isSome = true
  rw [e]
  show (showD p).isSome = true
  unfold showD
  rw [if_pos]
  · rfl
  · simp only [Bool.and_eq_true, decide_eq_true_eq]
    exact ⟨⟨k1, by omega⟩, by rw [sizeLine_eq]; omega⟩
theorem goodDs_ints : ∀ {ns : List Int}, (∀ n ∈ ns, n.natAbs < 2 ^ 1000) → goodDs (ns.map D.int) = true
  | [], _ => rfl
  | n :: ns, h => by
    simp only [List.map_cons, goodDs, goodD, Bool.and_eq_true, decide_eq_true_eq]
    exact ⟨h n List.mem_cons_self, goodDs_ints fun x hx => h x (List.mem_cons_of_mem _ hx)⟩
theorem depDs_ints : ∀ ns : List Int, depDs (ns.map D.int) = 0
  | [] => rfl
  | n :: ns => by
    simp only [List.map_cons, depDs, depD]
    rw [depDs_ints ns]
    rfl
theorem lenDs_ints : ∀ ns : List Int, lenDs (ns.map D.int) = 1003 * ns.length
  | [] => rfl
  | n :: ns => by
    simp only [List.map_cons, lenDs, lenD, List.length_cons]
    rw [lenDs_ints ns]
    omega
theorem goodDs_app : ∀ {xs ys : List D}, goodDs (xs ++ ys) = (goodDs xs && goodDs ys)
  | [], ys => rfl
  | x :: xs, ys => by
    simp only [List.cons_append, goodDs]
    rw [goodDs_app, Bool.and_assoc]
theorem depDs_app : ∀ {xs ys : List D}, depDs (xs ++ ys) = max (depDs xs) (depDs ys)
  | [], ys => by show depDs ys = max 0 (depDs ys); omega
  | x :: xs, ys => by
    simp only [List.cons_append, depDs]
    rw [depDs_app]
    omega
theorem lenDs_app : ∀ {xs ys : List D}, lenDs (xs ++ ys) = lenDs xs + lenDs ys
  | [], ys => by show lenDs ys = 0 + lenDs ys; omega
  | x :: xs, ys => by
    simp only [List.cons_append, lenDs]
    rw [lenDs_app]
    omega
/-- data that repr can show, of bounded depth and length -/
structure Shy (x : D) (dp ln : Nat) : Prop where
  g : goodD x = true
  d : depD x ≤ dp
  l : lenD x ≤ ln
structure Shys (xs : List D) (dp ln : Nat) : Prop where
  g : goodDs xs = true
  d : depDs xs ≤ dp
  l : lenDs xs ≤ ln
theorem Shy.mono {d : D} {a b a' b' : Nat} (h : Shy d a b) (h1 : a ≤ a') (h2 : b ≤ b') : Shy d a' b' := ⟨h.g, Nat.le_trans h.d h1, Nat.le_trans h.l h2⟩
theorem shys_nil {a b : Nat} : Shys [] a b := ⟨rfl, Nat.zero_le _, Nat.zero_le _⟩
theorem shys_cons {d : D} {ds : List D} {a b c : Nat} (h : Shy d a b) (hs : Shys ds a c) : Shys (d :: ds) a (b + 2 + c) := by
  refine ⟨?_, ?_, ?_⟩
  · simp only [goodDs, h.g, hs.g, Bool.and_self]
  · simp only [depDs]
    have := h.d
    have := hs.d
    omega
  · simp only [lenDs]
    have := h.l
    have := hs.l
    omega
theorem shys_app {xs ys : List D} {a b c : Nat} (h : Shys xs a b) (h' : Shys ys a c) : Shys (xs ++ ys) a (b + c) := by
  refine ⟨?_, ?_, ?_⟩
  · rw [goodDs_app, h.g, h'.g]; rfl
  · rw [depDs_app]
    have := h.d
    have := h'.d
    omega
  · rw [lenDs_app]
    have := h.l
    have := h'.l
    omega
theorem shy_lst {ds : List D} {a b : Nat} (h : Shys ds a b) : Shy (.lst ds) (1 + a) (b + 2) := by
  refine ⟨?_, ?_, ?_⟩
  · simp only [goodD]; exact h.g
  · simp only [depD]
    have := h.d
    omega
  · simp only [lenD]
    have := h.l
    omega
theorem shy_tup {ds : List D} {a b : Nat} (h : Shys ds a b) : Shy (.tup ds) (1 + a) (b + 3) := by
  refine ⟨?_, ?_, ?_⟩
  · simp only [goodD]; exact h.g
  · simp only [depD]
    have := h.d
    omega
  · simp only [lenD]
    have := h.l
    omega
theorem shy_int {i : Int} (h : i.natAbs < 2 ^ 1000) : Shy (.int i) 0 1001 := ⟨by simp only [goodD]; exact decide_eq_true h, Nat.le_refl _, Nat.le_refl _⟩
theorem shys_ints {ns : List Int} (h : ∀ n ∈ ns, n.natAbs < 2 ^ 1000) : Shys (ns.map D.int) 0 (1003 * ns.length) := ⟨goodDs_ints h, by rw [depDs_ints]; exact Nat.le_refl _, by rw [lenDs_ints]; exact Nat.le_refl _⟩
theorem shy_repr {d : D} {a b : Nat} (h : Shy d a b) (h1 : a ≤ 59) (h2 : b ≤ 1000000) : Hd (reprDM d) (reprDM d).val := reprD_ok h.g (Nat.le_trans h.d h1) (Nat.le_trans h.l h2)
end Vm

set_option Elab.async false
set_option linter.all false
set_option maxRecDepth 100000
/-! FQ: == and in, of data that are read as typed values. -/
namespace Vm
open PySem PySem.Spec PyProof.Rows L2 Evl
/-- values of a type, as data: == of the data is = of the values -/
def Enc {α : Type} (E : α → D) (n : Nat) : Prop := ∃ P : α → PyData, (∀ a, toPy (E a) = some (P a)) ∧ (∀ a, (P a).canLay0 = true) ∧ (∀ a, (P a).depth ≤ n) ∧ ∀ a b, PyData.eqv (P a) (P b) = true ↔ a = b
theorem enc_int : Enc D.int 0 := ⟨PyData.int, fun _ => rfl, fun _ => by simp [PyData.canLay0], fun _ => by simp [PyData.depth], fun a b => by simp [PyData.eqv]⟩
theorem enc_bool : Enc D.bl 0 := ⟨PyData.bool, fun _ => rfl, fun _ => by simp [PyData.canLay0], fun _ => by simp [PyData.depth], fun a b => by simp [PyData.eqv]⟩
theorem enc_opt : Enc (eO D.int) 0 := by
  refine ⟨fun o => match o with | none => .none | some i => .int i, fun o => by cases o <;> rfl, fun o => by cases o <;> simp [PyData.canLay0], fun o => by cases o <;> simp [PyData.depth], fun a b => ?_⟩
  cases a <;> cases b <;> simp [PyData.eqv]
section
variable {α β : Type} {E : α → D} {F : β → D} {n m : Nat}
theorem Enc.mono (h : Enc E n) (hn : n ≤ m) : Enc E m := by
  obtain ⟨P, h1, h2, h3, h4⟩ := h
  exact ⟨P, h1, h2, fun a => Nat.le_trans (h3 a) hn, h4⟩
theorem toPyAll_map {P : α → PyData} (h : ∀ a, toPy (E a) = some (P a)) : ∀ xs : List α, toPyAll (xs.map E) = some (xs.map P)
  | [] => rfl
  | x :: xs => by
    show (toPy (E x)).bind _ = _
    rw [h x, toPyAll_map h xs]
    rfl
theorem layAll_map {P : α → PyData} (h : ∀ a, (P a).canLay0 = true) : ∀ xs : List α, PyData.canLayAll0 (xs.map P) = true
  | [] => by simp [PyData.canLayAll0]
  | x :: xs => by simp [PyData.canLayAll0, h x, layAll_map h xs]
theorem depAll_map {P : α → PyData} (h : ∀ a, (P a).depth ≤ n) : ∀ xs : List α, PyData.depthAll (xs.map P) ≤ n
  | [] => by simp [PyData.depthAll]
  | x :: xs => by
    have := depAll_map h xs
    have := h x
    simp [PyData.depthAll]
    omega
theorem eqvAll_map {P : α → PyData} (h : ∀ a b, PyData.eqv (P a) (P b) = true ↔ a = b) : ∀ xs ys : List α, PyData.eqvAll (xs.map P) (ys.map P) = true ↔ xs = ys
  | [], [] => by simp [PyData.eqvAll]
  | [], _ :: _ => by simp [PyData.eqvAll]
  | _ :: _, [] => by simp [PyData.eqvAll]
  | x :: xs, y :: ys => by
    have ih := eqvAll_map h xs ys
    simp only [List.map_cons, PyData.eqvAll, Bool.and_eq_true, ih, h, List.cons.injEq]
theorem enc_L (h : Enc E n) : Enc (eL E) (n + 1) := by
  obtain ⟨P, h1, h2, h3, h4⟩ := h
  refine ⟨fun xs => .list (xs.map P), fun xs => ?_, fun xs => ?_, fun xs => ?_, fun xs ys => ?_⟩
  · show (toPyAll (xs.map E)).map PyData.list = _
    rw [toPyAll_map h1]
    rfl
  · simp [PyData.canLay0, layAll_map h2]
  · have := depAll_map h3 xs
    simp [PyData.depth]
    omega
  · rw [show PyData.eqv (.list (xs.map P)) (.list (ys.map P)) = PyData.eqvAll (xs.map P) (ys.map P) by simp only [PyData.eqv], eqvAll_map h4]
theorem enc_T2 (h : Enc E n) (g : Enc F n) : Enc (eT2 E F) (n + 1) := by
  obtain ⟨P, h1, h2, h3, h4⟩ := h
  obtain ⟨Q, g1, g2, g3, g4⟩ := g
  refine ⟨fun x => .tuple [P x.1, Q x.2], fun x => ?_, fun x => ?_, fun x => ?_, fun x y => ?_⟩
  · show (toPyAll [E x.1, F x.2]).map PyData.tuple = _
    show ((toPy (E x.1)).bind fun y => ((toPy (F x.2)).bind fun z => (toPyAll []).map fun zs => z :: zs).map fun ys => y :: ys).map PyData.tuple = _
    rw [h1, g1]
    rfl
  · simp [PyData.canLay0, PyData.canLayAll0, h2, g2]
  · have := h3 x.1
    have := g3 x.2
    simp [PyData.depth, PyData.depthAll]
    omega
  · rw [show PyData.eqv (.tuple [P x.1, Q x.2]) (.tuple [P y.1, Q y.2]) = (PyData.eqv (P x.1) (P y.1) && PyData.eqv (Q x.2) (Q y.2)) by simp only [PyData.eqv, PyData.eqvAll, Bool.and_true]]
    rw [Bool.and_eq_true, h4, g4, Prod.ext_iff]
theorem shaped_of {p : PyData} (h : p.canLay0 = true) (h2 : p.depth ≤ 60) : SeqAt.shaped p = true := by
  unfold SeqAt.shaped
  rw [h, decide_eq_true (by omega)]
  rfl
theorem deq_ok (h : Enc E n) (hn : n ≤ 60) (a b : α) [Decidable (a = b)] : Hd (deqM (E a) (E b)) (decide (a = b)) := by
  obtain ⟨P, h1, h2, h3, h4⟩ := h
  have e : eqD (E a) (E b) = some (decide (a = b)) := by
    unfold eqD
    rw [h1, h1]
    simp only [Option.bind_some]
    rw [shaped_of (h2 a) (Nat.le_trans (h3 a) hn), shaped_of (h2 b) (Nat.le_trans (h3 b) hn)]
    simp only [Bool.and_self, if_true]
    refine congrArg some ?_
    rw [Bool.eq_iff_iff, h4, decide_eq_true_eq]
  refine ⟨?_, ?_⟩
  · show (eqD _ _).isSome = true
    rw [e]; rfl
  · show (eqD _ _).getD false = _
    rw [e]; rfl
theorem deq_t (h : Enc E n) (hn : n ≤ 60) {a b : α} (e : a = b) : Hd (deqM (E a) (E b)) true := by
  haveI : Decidable (a = b) := .isTrue e
  exact (deq_ok h hn a b).to (decide_eq_true e)
theorem deq_f (h : Enc E n) (hn : n ≤ 60) {a b : α} (e : a ≠ b) : Hd (deqM (E a) (E b)) false := by
  haveI : Decidable (a = b) := .isFalse e
  exact (deq_ok h hn a b).to (decide_eq_false e)
theorem in_ok (h : Enc E n) (hn : n ≤ 59) (a : α) (xs : List α) [Decidable (a ∈ xs)] : Hd (inDM (E a) (eL E xs)) (decide (a ∈ xs)) := by
  obtain ⟨P, h1, h2, h3, h4⟩ := h
  have e : inD (E a) (eL E xs) = some (decide (a ∈ xs)) := by
    have e2 : toPy (eL E xs) = some (.list (xs.map P)) := by
      show (toPyAll (xs.map E)).map PyData.list = _
      rw [toPyAll_map h1]
      rfl
    have hs : SeqAt.shaped (.list (xs.map P)) = true := shaped_of (by simp [PyData.canLay0, layAll_map h2]) (by
      have := depAll_map h3 xs
      simp [PyData.depth]
      omega)
    unfold inD
    rw [h1, e2]
    simp only [Option.bind_some]
    rw [shaped_of (h2 a) (Nat.le_trans (h3 a) (by omega)), hs]
    simp only [Bool.and_self, if_true]
    refine congrArg some ?_
    rw [List.any_map, Bool.eq_iff_iff, List.any_eq_true, decide_eq_true_eq]
    constructor
    · rintro ⟨s, hm, e⟩
      have e : PyData.eqv (P s) (P a) = true := e
      rw [h4] at e
      exact e ▸ hm
    · intro hm
      exact ⟨a, hm, (h4 a a).mpr rfl⟩
  refine ⟨?_, ?_⟩
  · show (inD _ _).isSome = true
    rw [e]; rfl
  · show (inD _ _).getD false = _
    rw [e]; rfl
theorem in_t (h : Enc E n) (hn : n ≤ 59) {a : α} {xs : List α} (e : a ∈ xs) : Hd (inDM (E a) (eL E xs)) true := by
  haveI : Decidable (a ∈ xs) := .isTrue e
  exact (in_ok h hn a xs).to (decide_eq_true e)
theorem in_f (h : Enc E n) (hn : n ≤ 59) {a : α} {xs : List α} (e : a ∉ xs) : Hd (inDM (E a) (eL E xs)) false := by
  haveI : Decidable (a ∈ xs) := .isFalse e
  exact (in_ok h hn a xs).to (decide_eq_false e)
end
end Vm

set_option Elab.async false
set_option linter.all false
/-! Numbers of ways by falling products: plain Lean. -/
namespace Ar
def ff (x : Int) : Nat → Int
  | 0 => 1
  | k + 1 => ff x k * (x - k)
def ev (x : Int) : List Int → Int
  | [] => 0
  | c :: cs => c * ff x cs.length + ev x cs
def wn (b : Int) : Int → Nat → List Int → List Int
  | prev, _, [] => [prev]
  | prev, k, c :: cs => (c + prev) :: wn b (c * (b - k)) (k + 1) cs
theorem wn_length (b : Int) : ∀ (prev : Int) (k : Nat) (cs : List Int), (wn b prev k cs).length = cs.length + 1
  | _, _, [] => rfl
  | prev, k, c :: cs => by
    show (wn b (c * (b - k)) (k + 1) cs).length + 1 = _
    rw [wn_length b _ _ cs]
    rfl
theorem ev_wn (b x : Int) : ∀ (cs : List Int) (prev : Int) (k : Nat), ev x (wn b prev k cs) = prev * ff x cs.length + (x + b - k - ((cs.length : Int) - 1)) * ev x cs
  | [], prev, k => by simp [wn, ev, ff]
  | c :: cs, prev, k => by
    show (c + prev) * ff x (wn b (c * (b - k)) (k + 1) cs).length + ev x (wn b (c * (b - k)) (k + 1) cs) = _
    rw [wn_length, ev_wn b x cs _ (k + 1)]
    simp only [List.length_cons, ev, ff]
    have : ((k + 1 : Nat) : Int) = k + 1 := by omega
    have : ((cs.length + 1 : Nat) : Int) = cs.length + 1 := by omega
    grind
def nx (b : Int) (cs : List Int) : List Int := wn b 0 0 cs
theorem nx_length (b : Int) (cs : List Int) : (nx b cs).length = cs.length + 1 := wn_length b 0 0 cs
theorem ev_nx (b x : Int) (cs : List Int) : ev x (nx b cs) = (x + b - ((cs.length : Int) - 1)) * ev x cs := by
  unfold nx
  rw [ev_wn]
  grind
theorem ff_zero : ∀ (n k : Nat), k < n → ff (k : Int) n = 0
  | 0, k, h => absurd h (Nat.not_lt_zero k)
  | n + 1, k, h => by
    show ff k n * (k - n) = 0
    by_cases e : k = n
    · subst e; simp
    · rw [ff_zero n k (by omega)]; simp
theorem ff_pos : ∀ (n k : Nat), n ≤ k → 0 < ff (k : Int) n
  | 0, k, _ => Int.zero_lt_one
  | n + 1, k, h => by
    show 0 < ff k n * (k - n)
    exact Int.mul_pos (ff_pos n k (by omega)) (by omega)
/-- equal values, equal lists -/
theorem ev_unique : ∀ (cs ds : List Int), cs.length = ds.length → (∀ k : Nat, k < cs.length → ev (k : Int) cs = ev k ds) → cs = ds
  | [], [], _, _ => rfl
  | [], _ :: _, h, _ => by cases h
  | _ :: _, [], h, _ => by cases h
  | c :: cs, d :: ds, hl, h => by
    have hl' : cs.length = ds.length := by simpa using hl
    have e : cs = ds := ev_unique cs ds hl' fun k hk => by
      have := h k (by simp; omega)
      simp only [ev] at this
      rw [ff_zero _ _ hk, ← hl', ff_zero _ _ hk] at this
      simpa using this
    subst e
    have := h cs.length (by simp)
    simp only [ev] at this
    have p := ff_pos cs.length cs.length (Nat.le_refl _)
    have e2 : c * ff (cs.length : Int) cs.length = d * ff (cs.length : Int) cs.length := by omega
    rw [Int.eq_of_mul_eq_mul_right (by omega) e2]

/-- the counts along ascending levels -/
def along (ns : List Int) : List Int := ns.foldl (fun cs b => nx b cs) [1]
def prodS (x : Int) : Nat → List Int → Int
  | _, [] => 1
  | k, b :: bs => (x + b - k) * prodS x (k + 1) bs
theorem foldl_length : ∀ (ns cs : List Int), (ns.foldl (fun cs b => nx b cs) cs).length = cs.length + ns.length
  | [], _ => rfl
  | b :: ns, cs => by
    rw [List.foldl_cons, foldl_length ns, nx_length, List.length_cons]
    omega
theorem along_length (ns : List Int) : (along ns).length = ns.length + 1 := by
  unfold along
  rw [foldl_length]
  simp
  omega
theorem ev_foldl (x : Int) : ∀ (ns cs : List Int), 1 ≤ cs.length → ev x (ns.foldl (fun cs b => nx b cs) cs) = prodS x (cs.length - 1) ns * ev x cs
  | [], cs, _ => by simp [prodS]
  | b :: ns, cs, h => by
    rw [List.foldl_cons, ev_foldl x ns (nx b cs) (by rw [nx_length]; omega), ev_nx, nx_length]
    simp only [prodS]
    have e : cs.length + 1 - 1 = cs.length - 1 + 1 := by omega
    have e2 : ((cs.length - 1 : Nat) : Int) = (cs.length : Int) - 1 := by omega
    rw [e, e2]
    grind
/-- R1 -/
theorem ev_along (x : Int) (ns : List Int) : ev x (along ns) = prodS x 0 ns := by
  unfold along
  rw [ev_foldl x ns [1] (by simp)]
  simp [ev, ff]

/-! ### the team that is left of m -/
def sgn : Nat → Int
  | 0 => 1
  | n + 1 => - sgn n
theorem ff_neg : ∀ (n : Nat) (y : Int), ff y n = sgn n * ff ((n : Int) - 1 - y) n := by
  -- the product from the other end
  have rev : ∀ (n : Nat) (z : Int), ff z (n + 1) = z * ff (z - 1) n := by
    intro n
    induction n with
    | zero => intro z; simp [ff]
    | succ n ih =>
      intro z
      show ff z (n + 1) * (z - (n + 1 : Nat)) = z * (ff (z - 1) n * (z - 1 - n))
      rw [ih]
      have : ((n + 1 : Nat) : Int) = n + 1 := by omega
      rw [this]
      grind
  intro n
  induction n with
  | zero => intro y; simp [ff, sgn]
  | succ n ih =>
    intro y
    rw [rev n (((n + 1 : Nat) : Int) - 1 - y)]
    show ff y n * (y - n) = - sgn n * _
    rw [ih y]
    have e : ((n + 1 : Nat) : Int) - 1 - y - 1 = (n : Int) - 1 - y := by omega
    have e2 : ((n + 1 : Nat) : Int) - 1 - y = n - y := by omega
    rw [e, e2]
    grind
/-- equal levels -/
def Vq (m : Int) : Nat → List Int
  | 0 => [1]
  | n + 1 => nx m (Vq m n)
theorem Vq_length (m : Int) : ∀ n, (Vq m n).length = n + 1
  | 0 => rfl
  | n + 1 => by
    show (nx m (Vq m n)).length = _
    rw [nx_length, Vq_length m n]
theorem ev_Vq (m x : Int) : ∀ n : Nat, ev x (Vq m n) = ff (x + m) n
  | 0 => by simp [Vq, ev, ff]
  | n + 1 => by
    show ev x (nx m (Vq m n)) = ff (x + m) n * (x + m - n)
    rw [ev_nx, ev_Vq m x n, Vq_length]
    have : ((n + 1 : Nat) : Int) - 1 = n := by omega
    rw [this]
    grind
def zadd : List Int → List Int → List Int
  | a :: as, b :: bs => (a + b) :: zadd as bs
  | _, _ => []
theorem zadd_length : ∀ (as bs : List Int), as.length = bs.length → (zadd as bs).length = as.length
  | [], [], _ => rfl
  | [], _ :: _, h => by cases h
  | _ :: _, [], h => by cases h
  | a :: as, b :: bs, h => by
    show (zadd as bs).length + 1 = _
    rw [zadd_length as bs (by simpa using h)]
    rfl
theorem ev_zadd (x : Int) : ∀ (as bs : List Int), as.length = bs.length → ev x (zadd as bs) = ev x as + ev x bs
  | [], [], _ => rfl
  | [], _ :: _, h => by cases h
  | _ :: _, [], h => by cases h
  | a :: as, b :: bs, h => by
    have h' : as.length = bs.length := by simpa using h
    show (a + b) * ff x (zadd as bs).length + ev x (zadd as bs) = (a * ff x as.length + ev x as) + (b * ff x bs.length + ev x bs)
    rw [zadd_length as bs h', ev_zadd x as bs h', h']
    grind
def scl (c : Int) (as : List Int) : List Int := as.map fun a => c * a
theorem ev_scl (c x : Int) : ∀ as : List Int, ev x (scl c as) = c * ev x as
  | [] => by simp [scl, ev]
  | a :: as => by
    have ih := ev_scl c x as
    unfold scl at ih ⊢
    simp only [List.map_cons, ev, List.length_map, ih]
    grind
def due (m : Int) : List Int → List Int
  | [] => []
  | c :: cs => zadd (scl c (Vq m cs.length)) (0 :: scl (-1) (due (m - 1) cs))
theorem due_length : ∀ (cs : List Int) (m : Int), (due m cs).length = cs.length
  | [], _ => rfl
  | c :: cs, m => by
    show (zadd _ _).length = _
    have h1 : (scl c (Vq m cs.length)).length = cs.length + 1 := by unfold scl; rw [List.length_map, Vq_length]
    have h2 : (0 :: scl (-1) (due (m - 1) cs)).length = cs.length + 1 := by
      unfold scl
      rw [List.length_cons, List.length_map, due_length cs]
    rw [zadd_length _ _ (by rw [h1, h2]), h1]
    rfl
theorem ev_due : ∀ (cs : List Int) (m x : Int), cs ≠ [] → ev x (due m cs) = sgn (cs.length - 1) * ev ((cs.length : Int) - 2 - m - x) cs
  | [], _, _, h => absurd rfl h
  | c :: cs, m, x, _ => by
    have h1 : (scl c (Vq m cs.length)).length = cs.length + 1 := by unfold scl; rw [List.length_map, Vq_length]
    have h2 : (0 :: scl (-1) (due (m - 1) cs)).length = cs.length + 1 := by
      unfold scl
      rw [List.length_cons, List.length_map, due_length cs]
    show ev x (zadd (scl c (Vq m cs.length)) (0 :: scl (-1) (due (m - 1) cs))) = _
    rw [ev_zadd x _ _ (by rw [h1, h2]), ev_scl, ev_Vq]
    simp only [ev, ev_scl, List.length_cons, Nat.add_sub_cancel]
    have e : ((cs.length + 1 : Nat) : Int) - 2 - m - x = (cs.length : Int) - 1 - (m + x) := by omega
    rw [e, ff_neg cs.length ((cs.length : Int) - 1 - (m + x))]
    have e3 : (cs.length : Int) - 1 - ((cs.length : Int) - 1 - (m + x)) = x + m := by omega
    rw [e3]
    have sq : ∀ n, sgn n * sgn n = 1 := by
      intro n
      induction n with
      | zero => rfl
      | succ n ih =>
        show (- sgn n) * (- sgn n) = 1
        grind
    have s1 := sq cs.length
    cases cs with
    | nil => simp [ev, due, sgn, ff]
    | cons d ds =>
      rw [ev_due (d :: ds) (m - 1) x (by simp)]
      have e4 : (((d :: ds).length : Nat) : Int) - 2 - (m - 1) - x = (((d :: ds).length : Nat) : Int) - 1 - (m + x) := by omega
      rw [e4]
      show _ + (0 * _ + -1 * (sgn ds.length * _)) = (sgn ds.length.succ) * _
      have : sgn ds.length.succ = - sgn ds.length := rfl
      simp only [List.length_cons] at s1 ⊢
      have s2 : sgn (ds.length + 1) = - sgn ds.length := rfl
      grind
/-- the spare numbers of the team that is left -/
theorem prodS_app (x : Int) : ∀ (as bs : List Int) (k : Nat), prodS x k (as ++ bs) = prodS x k as * prodS x (k + as.length) bs
  | [], bs, k => by simp [prodS]
  | a :: as, bs, k => by
    simp only [List.cons_append, prodS, prodS_app x as bs, List.length_cons]
    rw [show k + 1 + as.length = k + (as.length + 1) by omega]
    grind
theorem prodS_left (m x : Int) : ∀ (bs : List Int) (k j : Nat), prodS x j (bs.map fun b => m - b).reverse = sgn bs.length * prodS ((k : Int) + j + (bs.length : Int) - 1 - m - x) k bs
  | [], k, j => by simp [prodS, sgn]
  | b :: bs, k, j => by
    rw [List.map_cons, List.reverse_cons, prodS_app, prodS_left m x bs (k + 1) j]
    simp only [prodS, List.length_reverse, List.length_map, List.length_cons]
    have e1 : ((k + 1 : Nat) : Int) + j + (bs.length : Int) - 1 - m - x = (k : Int) + j + ((bs.length + 1 : Nat) : Int) - 1 - m - x := by omega
    rw [e1]
    have e2 : ((j + bs.length : Nat) : Int) = j + bs.length := by omega
    have e3 : ((bs.length + 1 : Nat) : Int) = bs.length + 1 := by omega
    rw [e2, e3]
    show _ = - sgn bs.length * _
    grind
theorem due_along (m : Int) (bs : List Int) : due m (along bs) = along (bs.map fun b => m - b).reverse := by
  have ne : along bs ≠ [] := fun e => by
    have := along_length bs
    rw [e] at this
    simp at this
  have hl : (due m (along bs)).length = (along (bs.map fun b => m - b).reverse).length := by
    rw [due_length, along_length, along_length]
    simp
  refine ev_unique _ _ hl fun k _ => ?_
  rw [ev_due _ _ _ ne, ev_along, ev_along, prodS_left m k bs 0 0, along_length]
  have e : ((bs.length + 1 : Nat) : Int) - 2 - m - k = ((0 : Nat) : Int) + ((0 : Nat) : Int) + (bs.length : Int) - 1 - m - k := by omega
  rw [e]
  rfl
end Ar

set_option Elab.async false
set_option linter.all false
namespace Ar
/-- numbers of choices -/
def ch : Nat → Nat → Int
  | _, 0 => 1
  | 0, _ + 1 => 0
  | n + 1, k + 1 => ch n k + ch n (k + 1)
theorem ch_step : ∀ (n k : Nat), ch n (k + 1) * ((k : Int) + 1) = ch n k * ((n : Int) - k)
  | 0, 0 => by simp [ch]
  | 0, k + 1 => by simp [ch]
  | n + 1, 0 => by
    have := ch_step n 0
    show (ch n 0 + ch n 1) * _ = _
    simp [ch] at this ⊢
    omega
  | n + 1, k + 1 => by
    have h1 := ch_step n k
    have h2 := ch_step n (k + 1)
    show (ch n (k + 1) + ch n (k + 1 + 1)) * _ = (ch n k + ch n (k + 1)) * _
    have e1 : ((k + 1 : Nat) : Int) = k + 1 := by omega
    have e2 : ((n + 1 : Nat) : Int) = n + 1 := by omega
    rw [e1, e2] at *
    grind
theorem ch_nonneg : ∀ (n k : Nat), 0 ≤ ch n k
  | _, 0 => by simp [ch]
  | 0, k + 1 => by simp [ch]
  | n + 1, k + 1 => by
    have := ch_nonneg n k
    have := ch_nonneg n (k + 1)
    show 0 ≤ ch n k + ch n (k + 1)
    omega
theorem ch_le : ∀ (n k : Nat), ch n k ≤ 2 ^ n
  | n, 0 => by
    have : (0 : Int) < 2 ^ n := Int.pow_pos (by decide)
    simp only [ch]
    omega
  | 0, k + 1 => by simp [ch]
  | n + 1, k + 1 => by
    have := ch_le n k
    have := ch_le n (k + 1)
    show ch n k + ch n (k + 1) ≤ 2 ^ (n + 1)
    rw [Int.pow_succ]
    omega
theorem ch_zero : ∀ (n k : Nat), n < k → ch n k = 0
  | 0, k + 1, _ => rfl
  | n + 1, k + 1, h => by
    show ch n k + ch n (k + 1) = 0
    rw [ch_zero n k (by omega), ch_zero n (k + 1) (by omega)]
    rfl
/-- what stands at each place behind one more level -/
theorem wn_get (b : Int) : ∀ (cs : List Int) (prev : Int) (k i : Nat), i ≤ cs.length → (wn b prev k cs)[i]? = some ((if i < cs.length then cs.getD i 0 else 0) + (match i with | 0 => prev | j + 1 => cs.getD j 0 * (b - ((k + j : Nat) : Int))))
  | [], prev, k, i, h => by
    have : i = 0 := by simpa using h
    subst this
    simp [wn]
  | c :: cs, prev, k, 0, h => by simp [wn]
  | c :: cs, prev, k, i + 1, h => by
    have ih := wn_get b cs (c * (b - k)) (k + 1) i (by simpa using h)
    show (wn b (c * (b - k)) (k + 1) cs)[i]? = _
    rw [ih]
    congr 1
    cases i with
    | zero => simp
    | succ j =>
      simp only [List.length_cons, List.getD_cons_succ, Nat.add_lt_add_iff_right]
      have : ((k + 1 + j : Nat) : Int) = ((k + (j + 1) : Nat) : Int) := by omega
      rw [this]
theorem Vq_get (m : Int) : ∀ (n i : Nat), i ≤ n → (Vq m n)[i]? = some (ch n i * ff m i)
  | 0, i, h => by
    have : i = 0 := by omega
    subst this
    simp [Vq, ch, ff]
  | n + 1, i, h => by
    show (nx m (Vq m n))[i]? = _
    unfold nx
    rw [wn_get m (Vq m n) 0 0 i (by rw [Vq_length]; exact h), Vq_length]
    have gd : ∀ j, j ≤ n → (Vq m n).getD j 0 = ch n j * ff m j := fun j hj => by
      rw [List.getD_eq_getElem?_getD, Vq_get m n j hj]
      rfl
    congr 1
    cases i with
    | zero =>
      have := gd 0 (by omega)
      show (if 0 < n + 1 then (Vq m n).getD 0 0 else 0) + 0 = ch (n + 1) 0 * ff m 0
      rw [if_pos (by omega), this]
      simp [ch, ff]
    | succ j =>
      simp only [gd j (by omega), Nat.zero_add]
      show _ = (ch n j + ch n (j + 1)) * (ff m j * (m - j))
      by_cases hj : j + 1 < n + 1
      · rw [if_pos hj, gd (j + 1) (by omega)]
        show ch n (j + 1) * (ff m j * (m - j)) + _ = _
        grind
      · rw [if_neg hj, ch_zero n (j + 1) (by omega)]
        grind
def dsum : List Int → Int → Nat → Int
  | [], _, _ => 0
  | c :: cs, m, 0 => c * (ch cs.length 0 * ff m 0)
  | c :: cs, m, k + 1 => c * (ch cs.length (k + 1) * ff m (k + 1)) - dsum cs (m - 1) k
theorem zadd_get : ∀ (as bs : List Int) (i : Nat) (x y : Int), as[i]? = some x → bs[i]? = some y → (zadd as bs)[i]? = some (x + y)
  | [], _, i, x, y, h, _ => by simp at h
  | _ :: _, [], i, x, y, _, h => by simp at h
  | a :: as, b :: bs, 0, x, y, h1, h2 => by
    simp at h1 h2
    subst h1 h2
    rfl
  | a :: as, b :: bs, i + 1, x, y, h1, h2 => zadd_get as bs i x y (by simpa using h1) (by simpa using h2)
theorem due_get : ∀ (cs : List Int) (m : Int) (k : Nat), k < cs.length → (due m cs)[k]? = some (dsum cs m k)
  | [], _, _, h => by simp at h
  | c :: cs, m, k, h => by
    have h1 : (scl c (Vq m cs.length))[k]? = some (c * (ch cs.length k * ff m k)) := by
      unfold scl
      rw [List.getElem?_map, Vq_get m cs.length k (by simpa using Nat.le_of_lt_succ h)]
      rfl
    cases k with
    | zero =>
      have := zadd_get (scl c (Vq m cs.length)) (0 :: scl (-1) (due (m - 1) cs)) 0 _ 0 h1 rfl
      show (zadd _ _)[0]? = _
      rw [this]
      simp [dsum]
    | succ k =>
      have h2 : (0 :: scl (-1) (due (m - 1) cs))[k + 1]? = some (-1 * dsum cs (m - 1) k) := by
        unfold scl
        rw [List.getElem?_cons_succ, List.getElem?_map, due_get cs (m - 1) k (by simpa using h)]
        rfl
      have := zadd_get _ _ (k + 1) _ _ h1 h2
      show (zadd _ _)[k + 1]? = _
      rw [this]
      simp only [dsum]
      congr 1
      omega
def tsum (f : Nat → Int) : Nat → Int
  | 0 => 0
  | n + 1 => tsum f n + f n
theorem tsum_first (f : Nat → Int) : ∀ n : Nat, tsum f (n + 1) = f 0 + tsum (fun j => f (j + 1)) n
  | 0 => by simp [tsum]
  | n + 1 => by
    show tsum f (n + 1) + f (n + 1) = f 0 + (tsum (fun j => f (j + 1)) n + f (n + 1))
    rw [tsum_first f n]
    omega
theorem tsum_congr {f g : Nat → Int} : ∀ n : Nat, (∀ j, j < n → f j = g j) → tsum f n = tsum g n
  | 0, _ => rfl
  | n + 1, h => by
    show tsum f n + f n = tsum g n + g n
    rw [tsum_congr n fun j hj => h j (by omega), h n (by omega)]
theorem tsum_neg (f : Nat → Int) : ∀ n : Nat, tsum (fun j => - f j) n = - tsum f n
  | 0 => rfl
  | n + 1 => by
    show tsum (fun j => - f j) n + - f n = -(tsum f n + f n)
    rw [tsum_neg f n]
    omega
def sg (j : Nat) : Int := if j % 2 = 0 then 1 else -1
theorem sg_succ (j : Nat) : sg (j + 1) = - sg j := by
  unfold sg
  by_cases h : j % 2 = 0
  · rw [if_pos h, if_neg (by omega)]
  · rw [if_neg h, if_pos (by omega)]
    rfl
def term (cs : List Int) (m : Int) (k j : Nat) : Int := cs.getD j 0 * ch (cs.length - 1 - j) (k - j) * ff (m - j) (k - j) * sg j
theorem term_sum : ∀ (cs : List Int) (m : Int) (k : Nat), k < cs.length → tsum (term cs m k) (k + 1) = dsum cs m k
  | [], _, _, h => by simp at h
  | c :: cs, m, k, h => by
    rw [tsum_first]
    have h0 : term (c :: cs) m k 0 = c * (ch cs.length k * ff m k) := by
      unfold term sg
      simp
      grind
    rw [h0]
    cases k with
    | zero => simp [tsum, dsum]
    | succ k =>
      have e : tsum (fun j => term (c :: cs) m (k + 1) (j + 1)) (k + 1) = tsum (fun j => - term cs (m - 1) k j) (k + 1) := tsum_congr _ fun j hj => by
        unfold term
        rw [sg_succ]
        simp only [List.getD_cons_succ, List.length_cons]
        have e1 : cs.length + 1 - 1 - (j + 1) = cs.length - 1 - j := by omega
        have e2 : k + 1 - (j + 1) = k - j := by omega
        have e3 : m - ((j + 1 : Nat) : Int) = m - 1 - j := by omega
        rw [e1, e2, e3]
        grind
      rw [e, tsum_neg, term_sum cs (m - 1) k (by simpa using h)]
      simp only [dsum]
      omega
/-! ### sizes -/
def Bd (M : Nat) (cs : List Int) : Prop := ∀ c ∈ cs, c.natAbs ≤ M
theorem mul_natAbs_le {a b : Int} {p q : Nat} (h1 : a.natAbs ≤ p) (h2 : b.natAbs ≤ q) : (a * b).natAbs ≤ p * q := by
  rw [Int.natAbs_mul]
  exact Nat.mul_le_mul h1 h2
theorem wn_bd {b : Int} {M q : Nat} : ∀ (cs : List Int) (prev : Int) (k : Nat), Bd M cs → prev.natAbs ≤ M * q → (∀ j : Nat, k ≤ j → j < k + cs.length → (b - j).natAbs ≤ q) → Bd (M * (q + 1)) (wn b prev k cs)
  | [], prev, k, _, hp, _ => by
    intro c hc
    have : c = prev := by simpa [wn] using hc
    subst this
    exact Nat.le_trans hp (Nat.mul_le_mul_left _ (by omega))
  | c :: cs, prev, k, hc, hp, hb => by
    intro d hd
    have h0 := hc c (by simp)
    rcases List.mem_cons.mp hd with rfl | hd
    · have := Int.natAbs_add_le c prev
      rw [Nat.mul_add, Nat.mul_one]
      omega
    · refine wn_bd cs (c * (b - k)) (k + 1) (fun e he => hc e (by simp [he])) ?_ (fun j h1 h2 => hb j (by omega) (by simp; omega)) d hd
      exact mul_natAbs_le h0 (hb k (by omega) (by simp))
theorem foldl_bd {q : Nat} : ∀ (ns cs : List Int) (M : Nat), Bd M cs → (∀ b ∈ ns, ∀ j : Nat, j < cs.length + ns.length → (b - j).natAbs ≤ q) → Bd (M * (q + 1) ^ ns.length) (ns.foldl (fun cs b => nx b cs) cs)
  | [], cs, M, h, _ => by simpa using h
  | b :: ns, cs, M, h, hb => by
    rw [List.foldl_cons, List.length_cons, Nat.pow_succ]
    have h1 : Bd (M * (q + 1)) (nx b cs) := wn_bd cs 0 0 h (by simp) fun j _ h2 => hb b (by simp) j (by simp; omega)
    have := foldl_bd ns (nx b cs) (M * (q + 1)) h1 fun d hd j hj => hb d (by simp [hd]) j (by rw [nx_length] at hj; simp; omega)
    rw [show M * ((q + 1) ^ ns.length * (q + 1)) = M * (q + 1) * (q + 1) ^ ns.length by rw [Nat.mul_comm ((q + 1) ^ ns.length), Nat.mul_assoc]]
    exact this
theorem along_bd {q : Nat} {ns : List Int} (hb : ∀ b ∈ ns, ∀ j : Nat, j < 1 + ns.length → (b - j).natAbs ≤ q) : Bd ((q + 1) ^ ns.length) (along ns) := by
  have := foldl_bd ns [1] 1 (by intro c hc; have : c = 1 := by simpa using hc
                                subst this; decide) (by simpa using hb)
  unfold along
  simpa using this
theorem ff_bd {q : Nat} {x : Int} : ∀ n : Nat, (∀ j : Nat, j < n → (x - j).natAbs ≤ q) → (ff x n).natAbs ≤ q ^ n
  | 0, _ => by simp [ff]
  | n + 1, h => by
    rw [Nat.pow_succ]
    exact mul_natAbs_le (ff_bd n fun j hj => h j (by omega)) (h n (by omega))
end Ar

set_option Elab.async false
set_option linter.all false
/-! A3: counts as coefficients; the jobs' side; the greatest size. Plain Lean. -/
namespace Ar
/-- behind the first items: what the longer list holds -/
def lg (b : Int) : Int → Nat → List Int → List Int → List Int
  | prev, _, [], r :: rs => (r + prev) :: rs
  | prev, _, [], [] => [prev]
  | prev, k, c :: cs, rs => (c + prev) :: lg b (c * (b - k)) (k + 1) cs rs
theorem lg_end (b : Int) : ∀ (cs : List Int) (prev : Int) (k : Nat), lg b prev k cs [0] = wn b prev k cs
  | [], prev, k => by simp [lg, wn]
  | c :: cs, prev, k => by
    show (c + prev) :: lg b (c * (b - k)) (k + 1) cs [0] = (c + prev) :: wn b (c * (b - k)) (k + 1) cs
    rw [lg_end b cs]
theorem lg_get (b : Int) : ∀ (pre : List Int) (x r prev : Int) (k : Nat) (rest : List Int), (lg b prev k pre (x :: r :: rest))[pre.length + 1]? = some r
  | [], x, r, prev, k, rest => by simp [lg]
  | c :: pre, x, r, prev, k, rest => by
    show (lg b (c * (b - k)) (k + 1) pre (x :: r :: rest))[pre.length + 1]? = some r
    exact lg_get b pre x r _ _ rest
theorem lg_step (b : Int) : ∀ (pre : List Int) (x r prev : Int) (k : Nat) (rest : List Int), (lg b prev k pre (x :: r :: rest)).set (pre.length + 1) (r + x * (b - ((k + pre.length : Nat) : Int))) = lg b prev k (pre ++ [x]) (r :: rest)
  | [], x, r, prev, k, rest => by simp [lg]
  | c :: pre, x, r, prev, k, rest => by
    show (c + prev) :: (lg b (c * (b - k)) (k + 1) pre (x :: r :: rest)).set (pre.length + 1) (r + x * (b - ((k + (pre.length + 1) : Nat) : Int))) = (c + prev) :: lg b (c * (b - k)) (k + 1) (pre ++ [x]) (r :: rest)
    rw [show k + (pre.length + 1) = k + 1 + pre.length by omega, lg_step b pre]
theorem lg_length (b : Int) : ∀ (pre rest : List Int) (prev : Int) (k : Nat), rest ≠ [] → (lg b prev k pre rest).length = pre.length + rest.length
  | [], r :: rest, prev, k, _ => by simp [lg]
  | [], [], prev, k, h => absurd rfl h
  | c :: pre, rest, prev, k, h => by
    show (lg b (c * (b - k)) (k + 1) pre rest).length + 1 = _
    rw [lg_length b pre rest _ _ h]
    simp
    omega

/-! ### coefficients -/
/-- what one more worker of level b makes of the numbers of ways -/
def op (b : Int) (f : Nat → Int) : Nat → Int
  | 0 => f 0
  | k + 1 => f (k + 1) + (b - k) * f k
def d0 : Nat → Int
  | 0 => 1
  | _ + 1 => 0
/-- the numbers of ways of ascending levels, one worker after the other -/
def cf (ns : List Int) : Nat → Int := ns.foldl (fun f b => op b f) d0
theorem cf_snoc (ns : List Int) (b : Int) : cf (ns ++ [b]) = op b (cf ns) := by unfold cf; rw [List.foldl_append]; rfl
theorem wn_getD (b : Int) : ∀ (cs : List Int) (prev : Int) (j k : Nat), (wn b prev j cs).getD k 0 = cs.getD k 0 + (if k = 0 then prev else (b - ((j + (k - 1) : Nat) : Int)) * cs.getD (k - 1) 0)
  | [], prev, j, 0 => by simp [wn]
  | [], prev, j, k + 1 => by simp [wn]
  | c :: cs, prev, j, 0 => by simp [wn]
  | c :: cs, prev, j, k + 1 => by
    show (wn b (c * (b - j)) (j + 1) cs).getD k 0 = cs.getD k 0 + _
    rw [wn_getD b cs _ (j + 1) k, if_neg (show ¬ (k + 1 = 0) by omega)]
    show _ = cs.getD k 0 + (b - ((j + k : Nat) : Int)) * (c :: cs).getD k 0
    cases k with
    | zero =>
      rw [if_pos rfl]
      show _ + c * (b - j) = _ + (b - ((j + 0 : Nat) : Int)) * c
      rw [Int.mul_comm c]
      rfl
    | succ k =>
      rw [if_neg (show ¬ (k + 1 = 0) by omega)]
      show cs.getD (k + 1) 0 + (b - ((j + 1 + k : Nat) : Int)) * cs.getD k 0 = cs.getD (k + 1) 0 + (b - ((j + (k + 1) : Nat) : Int)) * cs.getD k 0
      rw [show j + 1 + k = j + (k + 1) by omega]
theorem nx_get (b : Int) (cs : List Int) (k : Nat) : (nx b cs).getD k 0 = op b (fun i => cs.getD i 0) k := by
  unfold nx
  rw [wn_getD]
  cases k with
  | zero => simp [op]
  | succ k =>
    rw [if_neg (show ¬ (k + 1 = 0) by omega)]
    show _ + (b - ((0 + k : Nat) : Int)) * cs.getD k 0 = cs.getD (k + 1) 0 + (b - k) * cs.getD k 0
    rw [Nat.zero_add]
theorem along_snoc (ns : List Int) (b : Int) : along (ns ++ [b]) = nx b (along ns) := by
  unfold along
  rw [List.foldl_append]
  rfl
theorem rev_ind {α : Type} {P : List α → Prop} (h0 : P []) (hs : ∀ xs x, P xs → P (xs ++ [x])) : ∀ xs, P xs := fun xs => by
  have : ∀ ys : List α, P ys.reverse := by
    intro ys
    induction ys with
    | nil => exact h0
    | cons y ys ih => rw [List.reverse_cons]; exact hs _ _ ih
  have := this xs.reverse
  rw [List.reverse_reverse] at this
  exact this
theorem along_get (ns : List Int) : ∀ k : Nat, (along ns).getD k 0 = cf ns k := by
  refine rev_ind (P := fun ns => ∀ k : Nat, (along ns).getD k 0 = cf ns k) ?_ ?_ ns
  · intro k
    cases k <;> simp [along, cf, d0]
  · intro xs x ih k
    rw [along_snoc, nx_get, cf_snoc, show (fun i => (along xs).getD i 0) = cf xs from funext ih]
theorem cf_beyond (ns : List Int) (k : Nat) (h : ns.length < k) : cf ns k = 0 := by
  rw [← along_get, List.getD_eq_getElem?_getD, List.getElem?_eq_none (by rw [along_length]; omega)]
  rfl
theorem cf_zero (ns : List Int) : cf ns 0 = 1 := by
  refine rev_ind (P := fun ns => cf ns 0 = 1) rfl (fun xs x ih => ?_) ns
  rw [cf_snoc]
  exact ih
/-- the easiest job is put in for all: the two steps may be exchanged -/
theorem op_comm (n b : Int) (f : Nat → Int) : op (n + 1) (op b f) = op (b + 1) (op n f) := by
  funext k
  match k with
  | 0 => rfl
  | 1 => simp only [op]; grind
  | k + 2 =>
    simp only [op]
    have : ((k + 1 : Nat) : Int) = k + 1 := by omega
    rw [this]
    grind
theorem cf_up (ns : List Int) : cf (ns.map fun x => x + 1) = op ns.length (cf ns) := by
  refine rev_ind (P := fun ns => cf (ns.map fun x => x + 1) = op ns.length (cf ns)) ?_ (fun xs x ih => ?_) ns
  · funext k
    match k with
    | 0 => rfl
    | 1 => simp [cf, op, d0]
    | k + 2 => simp [cf, op, d0]
  · rw [List.map_append, List.map_cons, List.map_nil, cf_snoc, ih, cf_snoc, List.length_append]
    exact (op_comm _ _ _).symm
theorem op_zero_d0 : op 0 d0 = d0 := by
  funext k
  match k with
  | 0 => rfl
  | 1 => simp [op, d0]
  | k + 2 => simp [op, d0]
theorem cf_zeros (n : Nat) (ns : List Int) : cf (List.replicate n 0 ++ ns) = cf ns := by
  unfold cf
  rw [List.foldl_append]
  have : (List.replicate n (0 : Int)).foldl (fun f b => op b f) d0 = d0 := by
    induction n with
    | zero => rfl
    | succ n ih => rw [List.replicate_succ, List.foldl_cons, op_zero_d0, ih]
  rw [this]
/-- how many levels are above b -/
def ab (ns : List Int) (b : Int) : Nat := (ns.filter fun x => decide (b < x)).length
/-- the jobs' side: for the jobs below m, how many can do each -/
def sideN (ns : List Int) (m : Nat) : List Int := (List.range m).map fun j : Nat => (ab ns (j : Int) : Int)
theorem ab_le (ns : List Int) (b : Int) : ab ns b ≤ ns.length := List.length_filter_le _ _
theorem ab_map_up (ns : List Int) (b : Int) : ab (ns.map fun x => x + 1) (b + 1) = ab ns b := by
  unfold ab
  induction ns with
  | nil => rfl
  | cons x ns ih =>
    rw [List.map_cons, List.filter_cons, List.filter_cons]
    by_cases h : b < x
    · rw [if_pos (by simpa using h), if_pos (by simpa using h), List.length_cons, List.length_cons, ih]
    · rw [if_neg (by simpa using h), if_neg (by simpa using h), ih]
theorem ab_append (as bs : List Int) (b : Int) : ab (as ++ bs) b = ab as b + ab bs b := by unfold ab; rw [List.filter_append, List.length_append]
theorem ab_perm {as bs : List Int} (h : as.Perm bs) (b : Int) : ab as b = ab bs b := (h.filter _).length_eq
theorem ab_zeros (n : Nat) (b : Int) (h : 0 ≤ b) : ab (List.replicate n 0) b = 0 := by
  unfold ab
  rw [List.length_eq_zero_iff, List.filter_eq_nil_iff]
  intro x hx
  rw [List.eq_of_mem_replicate hx]
  simpa using h
theorem ab_all {ns : List Int} {b : Int} (h : ∀ x ∈ ns, b < x) : ab ns b = ns.length := by
  unfold ab
  rw [List.filter_eq_self.mpr fun x hx => by simpa using h x hx]
theorem ab_none {ns : List Int} {b : Int} (h : ∀ x ∈ ns, x ≤ b) : ab ns b = 0 := by
  unfold ab
  rw [List.length_eq_zero_iff, List.filter_eq_nil_iff]
  intro x hx
  have := h x hx
  simpa using this
/-- ascending levels not below 0: zeros, then the levels of others with one job more -/
theorem split_zeros : ∀ ns : List Int, ns.Pairwise (· ≤ ·) → (∀ x ∈ ns, 0 ≤ x) → ∃ (n : Nat) (ms : List Int), ns = List.replicate n 0 ++ ms.map (fun x => x + 1) ∧ ms.Pairwise (· ≤ ·) ∧ ∀ x ∈ ms, 0 ≤ x
  | [], _, _ => ⟨0, [], rfl, .nil, by simp⟩
  | x :: ns, hp, h0 => by
    rw [List.pairwise_cons] at hp
    by_cases hx : x = 0
    · obtain ⟨n, ms, e, h1, h2⟩ := split_zeros ns hp.2 fun y hy => h0 y (List.mem_cons_of_mem _ hy)
      refine ⟨n + 1, ms, ?_, h1, h2⟩
      rw [hx, e, List.replicate_succ]
      rfl
    · have hx0 : 0 ≤ x := h0 x List.mem_cons_self
      refine ⟨0, (x :: ns).map fun y => y - 1, ?_, ?_, ?_⟩
      · rw [List.map_map]
        have : ((fun x : Int => x + 1) ∘ fun y => y - 1) = id := funext fun y => by show y - 1 + 1 = y; omega
        rw [this, List.map_id]
        rfl
      · rw [List.pairwise_map]
        exact (List.pairwise_cons.mpr hp).imp fun q => by omega
      · intro y hy
        obtain ⟨z, hz, rfl⟩ := List.mem_map.mp hy
        have : x ≤ z := by
          rcases List.mem_cons.mp hz with rfl | hz
          · omega
          · exact hp.1 z hz
        omega
/-- the numbers of ways of both sides -/
theorem cf_side : ∀ (m : Nat) (ns : List Int), ns.Pairwise (· ≤ ·) → (∀ x ∈ ns, 0 ≤ x ∧ x ≤ m) → cf ns = cf (sideN ns m).reverse
  | 0, ns, hp, h0 => by
    have : ns = List.replicate ns.length 0 := List.eq_replicate_of_mem fun x hx => by have := h0 x hx; omega
    rw [this]
    have := cf_zeros ns.length []
    rw [List.append_nil] at this
    rw [this]
    rfl
  | m + 1, ns, hp, h0 => by
    obtain ⟨n, ms, e, h1, h2⟩ := split_zeros ns hp fun x hx => (h0 x hx).1
    have hm : ∀ x ∈ ms, 0 ≤ x ∧ x ≤ m := fun x hx => by
      refine ⟨h2 x hx, ?_⟩
      have := (h0 (x + 1) (by rw [e]; exact List.mem_append_right _ (List.mem_map.mpr ⟨x, hx, rfl⟩))).2
      omega
    have ih := cf_side m ms h1 hm
    have es : sideN ns (m + 1) = (ms.length : Int) :: sideN ms m := by
      unfold sideN
      rw [List.range_succ_eq_map, List.map_cons, List.map_map]
      congr 1
      · rw [e, ab_append, ab_zeros _ _ (by omega), Nat.zero_add, ab_all (fun x hx => ?_), List.length_map]
        obtain ⟨y, hy, rfl⟩ := List.mem_map.mp hx
        have := h2 y hy
        show ((0 : Nat) : Int) < y + 1
        omega
      · refine List.map_congr_left fun j _ => ?_
        show ((ab ns ((j + 1 : Nat) : Int) : Nat) : Int) = (ab ms j : Int)
        rw [e, ab_append, ab_zeros _ _ (by omega), Nat.zero_add]
        have : ((j + 1 : Nat) : Int) = (j : Int) + 1 := by omega
        rw [this, ab_map_up]
    rw [es, List.reverse_cons, cf_snoc, ← ih, e, cf_zeros, cf_up]
/-! ### ascending levels: no number of ways is below 0 -/
theorem pw_snoc {xs : List Int} {x : Int} (h : (xs ++ [x]).Pairwise (· ≤ ·)) : xs.Pairwise (· ≤ ·) ∧ ∀ y ∈ xs, y ≤ x := by
  rw [List.pairwise_append] at h
  exact ⟨h.1, fun y hy => h.2.2 y hy x (by simp)⟩
theorem cf_good (ns : List Int) : ns.Pairwise (· ≤ ·) → (∀ x ∈ ns, 0 ≤ x) → (∀ k, 0 ≤ cf ns k) ∧ ∀ (k : Nat) (m : Int), (∀ x ∈ ns, x ≤ m) → 0 ≤ m → m < k → cf ns k = 0 := by
  refine rev_ind (P := fun ns => ns.Pairwise (· ≤ ·) → (∀ x ∈ ns, 0 ≤ x) → (∀ k, 0 ≤ cf ns k) ∧ ∀ (k : Nat) (m : Int), (∀ x ∈ ns, x ≤ m) → 0 ≤ m → m < k → cf ns k = 0) ?_ ?_ ns
  · intro _ _
    refine ⟨fun k => ?_, fun k m _ h0 hk => ?_⟩
    · cases k <;> simp [cf, d0]
    · obtain ⟨j, rfl⟩ : ∃ j, k = j + 1 := ⟨k - 1, by omega⟩
      rfl
  · intro xs x ih hp h0
    obtain ⟨hp1, hx⟩ := pw_snoc hp
    obtain ⟨i1, i2⟩ := ih hp1 fun y hy => h0 y (List.mem_append_left _ hy)
    have x0 : 0 ≤ x := h0 x (by simp)
    rw [cf_snoc]
    refine ⟨fun k => ?_, fun k m hm hm0 hk => ?_⟩
    · cases k with
      | zero => exact i1 0
      | succ k =>
        show 0 ≤ cf xs (k + 1) + (x - k) * cf xs k
        have := i1 (k + 1)
        by_cases hxk : x < k
        · rw [i2 k x hx x0 hxk]
          omega
        · have := Int.mul_nonneg (show 0 ≤ x - k by omega) (i1 k)
          omega
    · obtain ⟨j, rfl⟩ : ∃ j, k = j + 1 := ⟨k - 1, by omega⟩
      have xm : x ≤ m := hm x (by simp)
      show cf xs (j + 1) + (x - j) * cf xs j = 0
      rw [i2 (j + 1) x hx x0 (by omega)]
      by_cases hj : x = j
      · rw [hj, Int.sub_self, Int.zero_mul]
        rfl
      · rw [i2 j x hx x0 (by omega), Int.mul_zero]
        rfl
theorem sum_natAbs {M : Nat} : ∀ cs : List Int, (∀ c ∈ cs, c.natAbs ≤ M) → cs.sum.natAbs ≤ cs.length * M
  | [], _ => by simp
  | c :: cs, h => by
    have ih := sum_natAbs cs fun d hd => h d (List.mem_cons_of_mem _ hd)
    have h1 := h c List.mem_cons_self
    rw [List.sum_cons, List.length_cons, Nat.succ_mul]
    omega
theorem sum_nonneg : ∀ cs : List Int, (∀ c ∈ cs, 0 ≤ c) → 0 ≤ cs.sum
  | [], _ => by simp
  | c :: cs, h => by
    have ih := sum_nonneg cs fun d hd => h d (List.mem_cons_of_mem _ hd)
    have h1 := h c List.mem_cons_self
    rw [List.sum_cons]
    omega
theorem sum_pos {cs : List Int} (h : ∀ c ∈ cs, 0 ≤ c) {c : Int} (hc : c ∈ cs) (h1 : 0 < c) : 0 < cs.sum := by
  induction cs with
  | nil => cases hc
  | cons d cs ih =>
    rw [List.sum_cons]
    have hd := h d List.mem_cons_self
    have hs := sum_nonneg cs fun e he => h e (List.mem_cons_of_mem _ he)
    rcases List.mem_cons.mp hc with rfl | hc
    · omega
    · have := ih (fun e he => h e (List.mem_cons_of_mem _ he)) hc
      omega
theorem mem_along {ns : List Int} {c : Int} (h : c ∈ along ns) : ∃ k, c = cf ns k := by
  obtain ⟨k, hk, e⟩ := List.getElem_of_mem h
  refine ⟨k, ?_⟩
  rw [← along_get, List.getD_eq_getElem?_getD, List.getElem?_eq_getElem hk, e]
  rfl
theorem one_mem_along (ns : List Int) : (1 : Int) ∈ along ns := by
  have h0 : 0 < (along ns).length := by rw [along_length]; omega
  have := along_get ns 0
  rw [cf_zero, List.getD_eq_getElem?_getD, List.getElem?_eq_getElem h0] at this
  have e : (along ns)[0] = 1 := this
  exact e ▸ List.getElem_mem h0
end Ar

set_option Elab.async false
set_option linter.all false
/-! A4: the jobs' side: sums, sizes, its own side. Plain Lean. -/
namespace Ar
theorem ab_anti (ns : List Int) {i j : Int} (h : i ≤ j) : ab ns j ≤ ab ns i := by
  unfold ab
  induction ns with
  | nil => exact Nat.le_refl _
  | cons x ns ih =>
    rw [List.filter_cons, List.filter_cons]
    by_cases h1 : j < x
    · rw [if_pos (by simpa using h1), if_pos (by simp; omega), List.length_cons, List.length_cons]
      omega
    · rw [if_neg (by simpa using h1)]
      split
      · rw [List.length_cons]; omega
      · exact ih
theorem sideN_succ (ns : List Int) (m : Nat) : sideN ns (m + 1) = sideN ns m ++ [(ab ns (m : Int) : Int)] := by
  unfold sideN
  rw [List.range_succ, List.map_append]
  rfl
theorem sideN_length (ns : List Int) (m : Nat) : (sideN ns m).length = m := by unfold sideN; rw [List.length_map, List.length_range]
theorem sideN_get (ns : List Int) {m j : Nat} (h : j < m) : (sideN ns m)[j]? = some (ab ns (j : Int) : Int) := by
  unfold sideN
  rw [List.getElem?_map, List.getElem?_range h]
  rfl
theorem sideN_desc (ns : List Int) (m : Nat) : (sideN ns m).Pairwise (fun a b => b ≤ a) := by
  induction m with
  | zero => exact .nil
  | succ m ih =>
    rw [sideN_succ, List.pairwise_append]
    refine ⟨ih, by simp, fun a ha b hb => ?_⟩
    rw [List.mem_singleton.mp hb]
    unfold sideN at ha
    obtain ⟨j, hj, rfl⟩ := List.mem_map.mp ha
    have := List.mem_range.mp hj
    have := ab_anti ns (i := (j : Int)) (j := (m : Int)) (by omega)
    omega
theorem sum_snoc (xs : List Int) (x : Int) : (xs ++ [x]).sum = xs.sum + x := by simp
theorem ab_cons (x : Int) (ns : List Int) (b : Int) : ab (x :: ns) b = (if b < x then 1 else 0) + ab ns b := by
  unfold ab
  rw [List.filter_cons]
  by_cases h : b < x
  · rw [if_pos (by simpa using h), if_pos h, List.length_cons]; omega
  · rw [if_neg (by simpa using h), if_neg h]; omega
theorem side_sum_cons (x : Int) (ns : List Int) (h : 0 ≤ x) : ∀ m : Nat, (sideN (x :: ns) m).sum = min x (m : Int) + (sideN ns m).sum
  | 0 => by
    show (0 : Int) = min x ((0 : Nat) : Int) + 0
    omega
  | m + 1 => by
    rw [sideN_succ, sideN_succ, sum_snoc, sum_snoc, side_sum_cons x ns h m, ab_cons]
    split <;> omega
theorem side_sum : ∀ (ns : List Int) (m : Nat), (∀ x ∈ ns, 0 ≤ x ∧ x ≤ m) → (sideN ns m).sum = ns.sum
  | [], m, _ => by
    induction m with
    | zero => rfl
    | succ m ih =>
      rw [sideN_succ, sum_snoc, ih (by simp)]
      rfl
  | x :: ns, m, h => by
    have hx := h x List.mem_cons_self
    rw [side_sum_cons x ns hx.1, side_sum ns m fun y hy => h y (List.mem_cons_of_mem _ hy), List.sum_cons]
    omega
/-- of what holds below and not above: the ones for which it holds come first -/
theorem init (p : Nat → Bool) (hp : ∀ j, p (j + 1) = true → p j = true) : ∀ m : Nat, ∃ t, t ≤ m ∧ (List.range m).filter p = List.range t ∧ (∀ j, j < t → p j = true) ∧ ∀ j, t ≤ j → j < m → p j = false
  | 0 => ⟨0, Nat.le_refl _, rfl, fun j h => absurd h (Nat.not_lt_zero j), fun j _ h => absurd h (Nat.not_lt_zero j)⟩
  | m + 1 => by
    obtain ⟨t, h1, h2, h3, h4⟩ := init p hp m
    have down : ∀ d j, p (j + d) = true → p j = true := by
      intro d
      induction d with
      | zero => intro j h; exact h
      | succ d ih => intro j h; exact ih j (hp _ h)
    rw [List.range_succ, List.filter_append, h2]
    cases q : p m with
    | true =>
      have e : t = m := by
        by_cases e : t < m
        · have := down (m - t) t (by rw [show t + (m - t) = m by omega]; exact q)
          rw [h4 t (Nat.le_refl _) e] at this
          cases this
        · omega
      refine ⟨m + 1, Nat.le_refl _, ?_, fun j hj => ?_, fun j h5 h6 => by omega⟩
      · rw [e, List.range_succ]
        simp [q]
      · by_cases hj' : j = m
        · rw [hj']; exact q
        · exact h3 j (by omega)
    | false =>
      refine ⟨t, by omega, by simp [q], h3, fun j h5 h6 => ?_⟩
      by_cases hj : j = m
      · rw [hj]; exact q
      · exact h4 j h5 (by omega)
/-- how many of the side are above b -/
theorem ab_side (ns : List Int) (m : Nat) (b : Int) : ∃ t, t ≤ m ∧ ab (sideN ns m) b = t ∧ (∀ j : Nat, j < t → b < ab ns (j : Int)) ∧ ∀ j : Nat, t ≤ j → j < m → (ab ns (j : Int) : Int) ≤ b := by
  obtain ⟨t, h1, h2, h3, h4⟩ := init (fun j => decide (b < (ab ns (j : Int) : Int))) (fun j h => by
    have h : b < (ab ns ((j + 1 : Nat) : Int) : Int) := of_decide_eq_true h
    have := ab_anti ns (i := (j : Int)) (j := ((j + 1 : Nat) : Int)) (by omega)
    exact decide_eq_true (by omega)) m
  refine ⟨t, h1, ?_, fun j hj => of_decide_eq_true (h3 j hj), fun j h5 h6 => by have := of_decide_eq_false (h4 j h5 h6); omega⟩
  show ((sideN ns m).filter fun x => decide (b < x)).length = t
  unfold sideN
  rw [List.filter_map, List.length_map]
  have : (List.range m).filter ((fun x : Int => decide (b < x)) ∘ fun j : Nat => (ab ns (j : Int) : Int)) = List.range t := h2
  rw [this, List.length_range]
/-- of a falling list: the ones above i come first -/
theorem desc_ab : ∀ (ds : List Int), ds.Pairwise (fun a b => b ≤ a) → ∀ (i : Int) (j : Nat), j < ab ds i ↔ ∃ d, ds[j]? = some d ∧ i < d
  | [], _, i, j => by
    unfold ab
    simp
  | d :: ds, hp, i, j => by
    rw [List.pairwise_cons] at hp
    rw [ab_cons]
    by_cases hd : i < d
    · rw [if_pos hd]
      cases j with
      | zero => exact ⟨fun _ => ⟨d, rfl, hd⟩, fun _ => by omega⟩
      | succ j =>
        have := desc_ab ds hp.2 i j
        rw [List.getElem?_cons_succ, ← this]
        omega
    · rw [if_neg hd]
      have h0 : ab ds i = 0 := ab_none fun x hx => by have := hp.1 x hx; omega
      rw [h0]
      constructor
      · intro h; omega
      · rintro ⟨e, he, hi⟩
        have hm := List.mem_of_getElem? he
        rcases List.mem_cons.mp hm with rfl | hm
        · omega
        · have := hp.1 e hm
          omega
theorem desc_take : ∀ (ds : List Int), ds.Pairwise (fun a b => b ≤ a) → ∀ i : Int, ds.filter (fun x => decide (i < x)) = ds.take (ab ds i)
  | [], _, i => by simp
  | d :: ds, hp, i => by
    rw [List.pairwise_cons] at hp
    rw [ab_cons, List.filter_cons]
    by_cases hd : i < d
    · rw [if_pos (by simpa using hd), if_pos hd, Nat.add_comm, List.take_succ_cons, desc_take ds hp.2 i]
    · have h0 : ab ds i = 0 := ab_none fun x hx => by have := hp.1 x hx; omega
      rw [if_neg (by simpa using hd), if_neg hd, h0, List.take_zero, List.filter_eq_nil_iff]
      intro x hx
      have := hp.1 x hx
      simp
      omega
/-- the side's own side -/
theorem side_side {ds : List Int} (hp : ds.Pairwise (fun a b => b ≤ a)) {m : Nat} (h : ∀ x ∈ ds, 0 ≤ x ∧ x ≤ m) : sideN (sideN ds m) (ab ds 0) = ds.filter fun x => decide (0 < x) := by
  rw [desc_take ds hp 0]
  refine List.ext_getElem? fun j => ?_
  by_cases hj : j < ab ds 0
  · rw [sideN_get _ hj, List.getElem?_take_of_lt hj]
    obtain ⟨d, hd, h0⟩ := (desc_ab ds hp 0 j).mp hj
    rw [hd]
    have hdm := (h d (List.mem_of_getElem? hd)).2
    obtain ⟨t, h1, h2, h3, h4⟩ := ab_side ds m (j : Int)
    rw [h2]
    congr 1
    by_cases hlt : (t : Int) < d
    · have q1 := h4 t (Nat.le_refl _) (by omega)
      have q2 : j < ab ds (t : Int) := (desc_ab ds hp (t : Int) j).mpr ⟨d, hd, hlt⟩
      omega
    · by_cases he : (t : Int) = d
      · exact he
      · have q1 := h3 d.toNat (by omega)
        have e : ((d.toNat : Nat) : Int) = d := by omega
        rw [e] at q1
        obtain ⟨d', hd', hlt'⟩ := (desc_ab ds hp d j).mp (by omega)
        rw [hd] at hd'
        cases hd'
        omega
  · rw [List.getElem?_eq_none (by rw [sideN_length]; omega), List.getElem?_eq_none (by rw [List.length_take]; omega)]
/-! ### lists with zeros behind -/
theorem getD_zeros (cs : List Int) (j k : Nat) : (cs ++ List.replicate j 0).getD k 0 = cs.getD k 0 := by
  by_cases h : k < cs.length
  · rw [List.getD_eq_getElem?_getD, List.getElem?_append_left h, ← List.getD_eq_getElem?_getD]
  · rw [List.getD_eq_getElem?_getD, List.getElem?_append_right (by omega), List.getD_eq_getElem?_getD, List.getElem?_eq_none (l := cs) (by omega), List.getElem?_replicate]
    split <;> rfl
theorem eq_of_getD : ∀ {as bs : List Int}, as.length = bs.length → (∀ k, as.getD k 0 = bs.getD k 0) → as = bs := fun {as bs} hl h => by
  refine List.ext_getElem hl fun k h1 h2 => ?_
  have := h k
  rw [List.getD_eq_getElem?_getD, List.getD_eq_getElem?_getD, List.getElem?_eq_getElem h1, List.getElem?_eq_getElem h2] at this
  exact this
theorem pad_eq {as bs : List Int} (h : ∀ k, as.getD k 0 = bs.getD k 0) : as ++ List.replicate bs.length 0 = bs ++ List.replicate as.length 0 :=
  eq_of_getD (by simp; omega) fun k => by rw [getD_zeros, getD_zeros, h]
end Ar

set_option Elab.async false
set_option linter.all false
/-! A5: the greatest size, and that the counts rise and fall strictly. -/
namespace Ar
theorem core_id (a p c d z : Int) : (c + z * p) * (c + z * p) - (p + (z + 1) * a) * (d + (z - 1) * c) = (c * c - p * d) + (z * z - 1) * (p * p - a * c) + p * p + (z + 1) * (c * p - a * d) := by grind
theorem core {a p c d z : Int} (hc : 0 ≤ c) (h1 : a * c ≤ p * p) (h2 : p * d ≤ c * c) (h3 : a * d ≤ c * p) (hz : 1 ≤ z) (hs : p * d < c * c ∨ 0 < p) : (p + (z + 1) * a) * (d + (z - 1) * c) < (c + z * p) * (c + z * p) := by
  have e := core_id a p c d z
  have k1 : 0 ≤ (z * z - 1) * (p * p - a * c) := Int.mul_nonneg (by have := Int.mul_le_mul hz hz (by omega) (by omega); omega) (by omega)
  have k2 : 0 ≤ (z + 1) * (c * p - a * d) := Int.mul_nonneg (by omega) (by omega)
  have k3 : 0 ≤ p * p := by
    rcases Int.le_total 0 p with h | h
    · exact Int.mul_nonneg h h
    · exact Int.mul_nonneg_of_nonpos_of_nonpos h h
  rcases hs with hs | hs
  · omega
  · have : 0 < p * p := Int.mul_pos hs hs
    omega
/-- above 0 just up to g, and more and more slowly -/
structure SL (f : Nat → Int) (g : Int) : Prop where
  pos : ∀ k : Nat, (k : Int) ≤ g → 0 < f k
  zero : ∀ k : Nat, g < k → f k = 0
  lc : ∀ k : Nat, (k : Int) + 1 ≤ g → f k * f (k + 2) < f (k + 1) * f (k + 1)
theorem SL.nn {f : Nat → Int} {g : Int} (s : SL f g) (k : Nat) : 0 ≤ f k := by
  by_cases h : (k : Int) ≤ g
  · exact Int.le_of_lt (s.pos k h)
  · rw [s.zero k (by omega)]; exact Int.le_refl _
theorem SL.lcw {f : Nat → Int} {g : Int} (s : SL f g) (k : Nat) : f k * f (k + 2) ≤ f (k + 1) * f (k + 1) := by
  by_cases h : (k : Int) + 1 ≤ g
  · exact Int.le_of_lt (s.lc k h)
  · rw [s.zero (k + 2) (by omega), Int.mul_zero]
    exact Int.mul_nonneg (s.nn _) (s.nn _)
theorem SL.far {f : Nat → Int} {g : Int} (s : SL f g) (k : Nat) : f k * f (k + 3) ≤ f (k + 2) * f (k + 1) := by
  by_cases h : (k : Int) + 3 ≤ g
  · have p1 := s.pos (k + 1) (by omega)
    have p2 := s.pos (k + 2) (by omega)
    have p0 := s.pos k (by omega)
    have p3 := s.pos (k + 3) (by omega)
    have h1 := s.lcw k
    have h2 := s.lcw (k + 1)
    have h2 : f (k + 1) * f (k + 3) ≤ f (k + 2) * f (k + 2) := h2
    have hm := Int.mul_le_mul h1 h2 (Int.mul_nonneg (by omega) (by omega)) (Int.mul_nonneg (by omega) (by omega))
    have e1 : f k * f (k + 2) * (f (k + 1) * f (k + 3)) = (f (k + 2) * f (k + 1)) * (f k * f (k + 3)) := by grind
    have e2 : f (k + 1) * f (k + 1) * (f (k + 2) * f (k + 2)) = (f (k + 2) * f (k + 1)) * (f (k + 2) * f (k + 1)) := by grind
    rw [e1, e2] at hm
    exact Int.le_of_mul_le_mul_left hm (Int.mul_pos p2 p1)
  · rw [s.zero (k + 3) (by omega), Int.mul_zero]
    exact Int.mul_nonneg (s.nn _) (s.nn _)
theorem SL.step {f : Nat → Int} {g b : Int} (s : SL f g) (g0 : 0 ≤ g) (hb : g ≤ b) : SL (op b f) (if g < b then g + 1 else g) := by
  have key : ∀ k : Nat, ((k : Int) + 1 ≤ if g < b then g + 1 else g) → 1 ≤ b - k ∧ (k : Int) ≤ g := by
    intro k hk
    split at hk <;> omega
  refine ⟨fun k hk => ?_, fun k hk => ?_, fun k hk => ?_⟩
  · cases k with
    | zero => exact s.pos 0 (by simpa using g0)
    | succ k =>
      obtain ⟨h1, h2⟩ := key k (by simpa using hk)
      show 0 < f (k + 1) + (b - k) * f k
      have := Int.mul_pos (show 0 < b - (k : Int) by omega) (s.pos k h2)
      have := s.nn (k + 1)
      omega
  · cases k with
    | zero => exfalso; split at hk <;> simp at hk <;> omega
    | succ k =>
      show f (k + 1) + (b - k) * f k = 0
      rw [s.zero (k + 1) (by split at hk <;> omega)]
      by_cases h : g < k
      · rw [s.zero k h, Int.mul_zero]; rfl
      · have : b - (k : Int) = 0 := by split at hk <;> omega
        rw [this, Int.zero_mul]; rfl
  · cases k with
    | zero =>
      obtain ⟨h1, h2⟩ := key 0 hk
      show f 0 * (f 2 + (b - (1 : Nat)) * f 1) < (f 1 + (b - (0 : Nat)) * f 0) * (f 1 + (b - (0 : Nat)) * f 0)
      have q := core (a := 0) (p := f 0) (c := f 1) (d := f 2) (z := b) (s.nn 1) (by rw [Int.zero_mul]; exact Int.mul_nonneg (s.nn 0) (s.nn 0)) (s.lcw 0) (by rw [Int.zero_mul]; exact Int.mul_nonneg (s.nn 1) (s.nn 0)) (by simpa using h1) (.inr (s.pos 0 (by simpa using g0)))
      simpa using q
    | succ j =>
      obtain ⟨h1, h2⟩ := key (j + 1) hk
      show (f (j + 1) + (b - j) * f j) * (f (j + 3) + (b - (j + 2 : Nat)) * f (j + 2)) < (f (j + 2) + (b - (j + 1 : Nat)) * f (j + 1)) * (f (j + 2) + (b - (j + 1 : Nat)) * f (j + 1))
      have q := core (a := f j) (p := f (j + 1)) (c := f (j + 2)) (d := f (j + 3)) (z := b - (j + 1 : Nat)) (s.nn _) (s.lcw j) (s.lcw (j + 1)) (s.far j) h1 (.inr (s.pos (j + 1) h2))
      have e1 : b - (j : Int) = b - (j + 1 : Nat) + 1 := by omega
      have e2 : b - ((j + 2 : Nat) : Int) = b - (j + 1 : Nat) - 1 := by omega
      rw [e1, e2]
      exact q
/-- the greatest size, one worker after the other -/
def gd (ns : List Int) : Int := ns.foldl (fun g b => if g < b then g + 1 else g) 0
theorem gd_snoc (ns : List Int) (b : Int) : gd (ns ++ [b]) = if gd ns < b then gd ns + 1 else gd ns := by unfold gd; rw [List.foldl_append]; rfl
theorem gd_good (ns : List Int) : ns.Pairwise (· ≤ ·) → (∀ x ∈ ns, 0 ≤ x) → 0 ≤ gd ns ∧ (∀ m : Int, 0 ≤ m → (∀ x ∈ ns, x ≤ m) → gd ns ≤ m) ∧ SL (cf ns) (gd ns) ∧ (∀ t : Nat, gd ns ≤ t + ab ns (t : Int)) ∧ ∃ t : Nat, gd ns = t + ab ns (t : Int) := by
  refine rev_ind (P := fun ns => ns.Pairwise (· ≤ ·) → (∀ x ∈ ns, 0 ≤ x) → 0 ≤ gd ns ∧ (∀ m : Int, 0 ≤ m → (∀ x ∈ ns, x ≤ m) → gd ns ≤ m) ∧ SL (cf ns) (gd ns) ∧ (∀ t : Nat, gd ns ≤ t + ab ns (t : Int)) ∧ ∃ t : Nat, gd ns = t + ab ns (t : Int)) ?_ ?_ ns
  · intro _ _
    refine ⟨Int.le_refl _, fun m h _ => h, ⟨fun k hk => ?_, fun k hk => ?_, fun k hk => ?_⟩, fun t => ?_, 0, rfl⟩
    · have hk : (k : Int) ≤ 0 := hk
      obtain rfl : k = 0 := by omega
      decide
    · have hk : (0 : Int) < k := hk
      obtain ⟨j, rfl⟩ : ∃ j, k = j + 1 := ⟨k - 1, by omega⟩
      rfl
    · have hk : (k : Int) + 1 ≤ 0 := hk
      omega
    · show (0 : Int) ≤ _
      omega
  · intro xs x ih hp h0
    obtain ⟨hp1, hx⟩ := pw_snoc hp
    obtain ⟨i0, i1, i2, i3, t, i4⟩ := ih hp1 fun y hy => h0 y (List.mem_append_left _ hy)
    have x0 : 0 ≤ x := h0 x (by simp)
    have gx := i1 x x0 hx
    have hab : ∀ u : Nat, ab (xs ++ [x]) (u : Int) = ab xs (u : Int) + if (u : Int) < x then 1 else 0 := fun u => by
      rw [ab_append, ab_cons]
      rfl
    rw [gd_snoc, cf_snoc]
    refine ⟨by split <;> omega, fun m hm hm2 => ?_, i2.step i0 gx, fun u => ?_, ?_⟩
    · have := hm2 x (by simp)
      split <;> omega
    · rw [hab]
      have := i3 u
      by_cases hu : (u : Int) < x
      · rw [if_pos hu]
        split <;> omega
      · rw [if_neg hu]
        have z : ab xs (u : Int) = 0 := ab_none fun y hy => by have := hx y hy; omega
        split <;> omega
    · by_cases hg : gd xs < x
      · rw [if_pos hg]
        refine ⟨t, ?_⟩
        rw [hab, if_pos (by omega)]
        omega
      · rw [if_neg hg]
        refine ⟨x.toNat, ?_⟩
        rw [hab, if_neg (by omega), ab_none fun y hy => by have := hx y hy; omega]
        omega
/-- two of the greatest ones stand side by side -/
theorem SL.near {f : Nat → Int} {g : Int} (s : SL f g) {i j : Nat} (hi : ∀ k, f k ≤ f i) (hj : f j = f i) (g0 : 0 ≤ g) (hij : i < j) : j = i + 1 := by
  have M0 : 0 < f i := by
    have := s.pos 0 (by simpa using g0)
    have := hi 0
    omega
  have jg : (j : Int) ≤ g := by
    rcases Int.lt_or_le g j with h | h
    · rw [s.zero j h] at hj
      omega
    · exact h
  have drop : ∀ k : Nat, (k : Int) + 1 ≤ g → f (k + 1) ≤ f k → f (k + 2) < f (k + 1) := fun k hk hd => by
    have h1 := s.lc k hk
    have p1 := s.pos (k + 1) (by omega)
    have p0 := s.pos k (by omega)
    have h2 : f (k + 1) * f (k + 1) ≤ f k * f (k + 1) := Int.mul_le_mul_of_nonneg_right hd (by omega)
    exact Int.lt_of_mul_lt_mul_left (Int.lt_of_lt_of_le h1 h2) (by omega)
  have chain : ∀ d : Nat, ((i + d + 1 : Nat) : Int) ≤ g → f (i + d + 1) ≤ f (i + d) := by
    intro d
    induction d with
    | zero => intro _; exact hi _
    | succ d ih =>
      intro hd
      exact Int.le_of_lt (drop (i + d) (by omega) (ih (by omega)))
  rcases Nat.lt_or_ge (i + 1) j with h | h
  · obtain ⟨d, rfl⟩ : ∃ d, j = i + d + 2 := ⟨j - i - 2, by omega⟩
    have h1 := drop (i + d) (by omega) (chain d (by omega))
    have h2 := hi (i + d + 1)
    omega
  · omega
/-! ### from the hardest job on -/
theorem side_cf (ns : List Int) (m : Nat) (hs : ns.Pairwise (· ≤ ·)) (h : ∀ x ∈ ns, 0 ≤ x ∧ x ≤ m) : cf (sideN ns m).reverse = cf ns := (cf_side m ns hs h).symm
theorem sideN_rev (ns : List Int) (m : Nat) : (sideN ns m).reverse = (List.range m).map fun i : Nat => (ab ns ((m : Int) - 1 - i) : Int) := by
  unfold sideN
  rw [← List.map_reverse]
  refine List.ext_getElem? fun i => ?_
  rw [List.getElem?_map, List.getElem?_map]
  by_cases h : i < m
  · rw [List.getElem?_reverse (by simpa using h), List.length_range, List.getElem?_range h, List.getElem?_range (by omega)]
    have : ((m - 1 - i : Nat) : Int) = (m : Int) - 1 - i := by omega
    show some ((ab ns ((m - 1 - i : Nat) : Int) : Nat) : Int) = some _
    rw [this]
  · rw [List.getElem?_eq_none (by simpa using h), List.getElem?_eq_none (by simpa using h)]
    rfl
end Ar

set_option Elab.async false
set_option linter.all false
set_option maxRecDepth 100000
/-! A16: who can all work, which jobs can all be given (plain). -/
namespace Ar
theorem full_pos {ns : List Int} (hs : ns.Pairwise (· ≤ ·)) (h : ∀ x ∈ ns, 0 ≤ x) : 0 < cf ns ns.length ↔ ∀ t : Nat, ns.length ≤ t + ab ns (t : Int) := by
  obtain ⟨g0, _, s, hl, t, ht⟩ := gd_good ns hs h
  constructor
  · intro p t
    have : (ns.length : Int) ≤ gd ns := by
      rcases Int.lt_or_le (gd ns) ns.length with q | q
      · rw [s.zero _ q] at p; omega
      · exact q
    have := hl t
    omega
  · intro a
    refine s.pos _ ?_
    have := a t
    omega
/-- how many are at most b -/
def lo (ns : List Int) (b : Int) : Nat := (ns.filter fun x => decide (x ≤ b)).length
theorem lo_ab (ns : List Int) (b : Int) : lo ns b + ab ns b = ns.length := by
  induction ns with
  | nil => rfl
  | cons x ns ih =>
    unfold lo ab at *
    by_cases h : x ≤ b
    · rw [List.filter_cons_of_pos (by simpa using h), List.filter_cons_of_neg (by simpa using h), List.length_cons, List.length_cons]
      omega
    · rw [List.filter_cons_of_neg (by simpa using h), List.filter_cons_of_pos (by simpa using h), List.length_cons, List.length_cons]
      omega
theorem lo_perm {as bs : List Int} (h : as.Perm bs) (b : Int) : lo as b = lo bs b := (h.filter _).length_eq
theorem lo_le (ns : List Int) (b : Int) : lo ns b ≤ ns.length := List.length_filter_le _ _
theorem full_lo {ns : List Int} (hs : ns.Pairwise (· ≤ ·)) (h : ∀ x ∈ ns, 0 ≤ x) : 0 < cf ns ns.length ↔ ∀ t : Nat, lo ns (t : Int) ≤ t := by
  rw [full_pos hs h]
  constructor
  · intro a t
    have := a t
    have := lo_ab ns (t : Int)
    omega
  · intro a t
    have := a t
    have := lo_ab ns (t : Int)
    omega
theorem filter_len {α : Type} {p q : α → Bool} : ∀ (xs : List α), (∀ x ∈ xs, p x = true → q x = true) → (xs.filter p).length ≤ (xs.filter q).length
  | [], _ => Nat.le_refl _
  | x :: xs, h => by
    have ih := filter_len xs fun y hy => h y (List.mem_cons_of_mem _ hy)
    by_cases hp : p x = true
    · rw [List.filter_cons_of_pos hp, List.filter_cons_of_pos (h x List.mem_cons_self hp), List.length_cons, List.length_cons]
      omega
    · rw [List.filter_cons_of_neg hp]
      by_cases hq : q x = true
      · rw [List.filter_cons_of_pos hq, List.length_cons]; omega
      · rw [List.filter_cons_of_neg hq]; exact ih
/-- how many are b or more -/
def hi (ns : List Int) (b : Int) : Nat := (ns.filter fun x => decide (b ≤ x)).length
theorem hi_le (ns : List Int) (b : Int) : hi ns b ≤ ns.length := List.length_filter_le _ _
theorem least_of : ∀ (xs : List Int), xs ≠ [] → ∃ m ∈ xs, ∀ x ∈ xs, m ≤ x
  | [], h => absurd rfl h
  | [x], _ => ⟨x, by simp, by simp⟩
  | x :: y :: xs, _ => by
    obtain ⟨m, h1, h2⟩ := least_of (y :: xs) (by simp)
    by_cases hx : x ≤ m
    · refine ⟨x, by simp, fun z hz => ?_⟩
      rcases List.mem_cons.mp hz with rfl | hz
      · exact Int.le_refl _
      · exact Int.le_trans hx (h2 z hz)
    · refine ⟨m, List.mem_cons_of_mem _ h1, fun z hz => ?_⟩
      rcases List.mem_cons.mp hz with rfl | hz
      · omega
      · exact h2 z hz
theorem lack_iff {m : Int → Nat} {gs : List Int} (anti : ∀ i j : Int, i ≤ j → m j ≤ m i) (h0 : ∀ x ∈ gs, 0 ≤ x) : (∀ t : Nat, lo (gs.map fun j => (m j : Int)) (t : Int) ≤ t) ↔ ∀ first : Nat, hi gs (first : Int) ≤ m (first : Int) := by
  have lo_map : ∀ t : Nat, lo (gs.map fun j => (m j : Int)) (t : Int) = (gs.filter fun j => decide (m j ≤ t)).length := fun t => by
    unfold lo
    rw [List.filter_map, List.length_map]
    refine congrArg List.length ?_
    refine List.filter_congr fun x _ => ?_
    simp
  constructor
  · intro a f
    have h1 := a (m (f : Int))
    rw [lo_map] at h1
    refine Nat.le_trans ?_ h1
    refine filter_len gs fun x hx hp => ?_
    have hp : (f : Int) ≤ x := of_decide_eq_true hp
    exact decide_eq_true (anti _ _ hp)
  · intro a t
    rw [lo_map]
    refine Classical.byContradiction fun no => ?_
    have hlt : t < (gs.filter fun j => decide (m j ≤ t)).length := by omega
    have hne : (gs.filter fun j => decide (m j ≤ t)) ≠ [] := fun z => by rw [z] at hlt; exact absurd hlt (Nat.not_lt_zero _)
    obtain ⟨g, hg, least⟩ := least_of _ hne
    obtain ⟨g1, g2⟩ := List.mem_filter.mp hg
    have g2 : m g ≤ t := of_decide_eq_true g2
    have g0 := h0 g g1
    have h1 := a g.toNat
    rw [Int.toNat_of_nonneg g0] at h1
    have h2 : (gs.filter fun j => decide (m j ≤ t)).length ≤ hi gs g := by
      have e : (gs.filter fun j => decide (m j ≤ t)) = (gs.filter fun j => decide (m j ≤ t)).filter fun x => decide (g ≤ x) := by
        symm
        rw [List.filter_eq_self]
        intro x hx
        exact decide_eq_true (least x hx)
      rw [e, List.filter_filter]
      unfold hi
      refine filter_len gs fun x hx hp => ?_
      have hp : (decide (g ≤ x) && decide (m x ≤ t)) = true := hp
      exact (Bool.and_eq_true _ _ ▸ hp).1
    omega
/-- further numbers that are none -/
theorem filter_short {p : Int → Bool} {n : Nat} : ∀ k : Nat, (∀ i : Nat, n ≤ i → p (i : Int) = false) → (((List.range (n + k)).map fun i : Nat => (i : Int)).filter p) = (((List.range n).map fun i : Nat => (i : Int)).filter p)
  | 0, _ => rfl
  | k + 1, h => by
    rw [← Nat.add_assoc, List.range_succ, List.map_append, List.filter_append, filter_short k h]
    show _ ++ List.filter p [((n + k : Nat) : Int)] = _
    rw [List.filter_cons_of_neg (by rw [h (n + k) (by omega)]; simp)]
    simp
theorem asc_rg (n : Nat) : ((List.range n).map fun i : Nat => (i : Int)).Pairwise (· < ·) := by
  rw [List.pairwise_map]
  exact (List.pairwise_lt_range).imp fun h => by omega
theorem zip_tail : ∀ {xs : List Int}, xs.Pairwise (· < ·) → ∀ q ∈ xs.zip (xs.drop 1), q.1 < q.2
  | [], _, q, h => by simp at h
  | [x], _, q, h => by simp at h
  | x :: y :: xs, hp, q, h => by
    have h : q ∈ (x, y) :: (y :: xs).zip xs := h
    obtain ⟨h1, h2⟩ := List.pairwise_cons.mp hp
    rcases List.mem_cons.mp h with rfl | h
    · exact h1 y (by simp)
    · exact zip_tail h2 q h
end Ar

set_option Elab.async false
set_option linter.all false
set_option maxRecDepth 100000
set_option exponentiation.threshold 3000
namespace Tk32
open PySem PySem.Spec PyProof.Rows L2 Vm
open Evl
def topS (i : Nat) : Stmt := PySem.Challenge.pw_nestboards_k32_papers_of_sets_judged.main.body.getD i (.Pass ⟨0, 0, 0, 0⟩)
section
variable {P : Program} {w : World} {K : PySem.W.Frag} {mg : Str → Option Value} {base : Heap}
abbrev s_law_store : Stmt := topS 36
abbrev N_law_store : List Str := ["script", "k", "cell"]
theorem sc_law_store : FnScope N_law_store ["script", "k"] (defScope s_law_store) := ⟨rfl, rfl, rfl, by decide +kernel, rfl, by decide +kernel, by decide +kernel⟩
def F_law_store : En → Option Out := (sSeq (sSet 2 (eIf (bTest (eOp dLt (eVar 1) (eCB bLen (aCons (eVar 0) aNil)))) (eCB bAbs (aCons (eOp dIx (eVar 0) (eVar 1)) aNil)) (eC (.int 0))))
    (sRet (eLst (aCons (eCB bMax2 (aCons (eC (.int 0)) (aCons (eOp dSub (eVar 2) (eOp dPow (eC (.int 10)) (eC (.int 18)))) aNil))) (aCons (eOp dAdd (eOp dMul (eOp dMod (eCB bInt (aCons (eVar 2) aNil)) (eOp dAdd (eOp dPow (eC (.int 10)) (eC (.int 37))) (eC (.int 43)))) (eC (.int 83))) (eOp dMul (eC (.int 7)) (eVar 1))) (aCons (eC (.int 0)) aNil))))))
def m_law_store : En → Option Res := bodyM [] 2 1 F_law_store
set_option maxHeartbeats 4000000 in
theorem ok_law_store {f : Addr} {fd : FuncData} (F : Fun K "_law_store" "_law_store" s_law_store f fd) (m_len : mg "len" = none) (m_abs : mg "abs" = none) (m_int : mg "int" = none) (m_max : mg "max" = none) : FnG P w K mg base CX0 1 f fd ["script", "k"] (SpM K 2 m_law_store) := by
  have sc := sc_law_store
  refine funG F sc_law_store (fun vs H Q E h => h.1) (fun cdv A outer s H vs Q E hr h => ⟨_, (pss_cons (ps_set (i := 2) sc.nd rfl (by first | exact .inl rfl | exact .inr rfl) (pe_ifExp (pt_cmpR op_lt (pv 1) (pe_callB call_len_seq (by rfl) m_len PySem.boot_len (pa_cons (pv 0) pa_nil)) (nomark _)) (pe_callB call_abs (by rfl) m_abs (by decide +kernel) (pa_cons (pe_ix ix_seq (pv 0) (pv 1) (fun _ _ => rfl)) pa_nil)) pe_int)) (pss_one (ps_ret (pe_lst (pa_cons (pe_callB (call_max2 rfl) (by rfl) m_max (by decide +kernel) (pa_cons pe_int (pa_cons (pe_op op_sub (pv 2) (pe_op op_powA pe_int pe_int)) pa_nil))) (pa_cons (pe_op op_add (pe_op op_mulA (pe_op op_modN (pe_callTy call_int1 (by rfl) m_int (by decide +kernel) (pa_cons (pv 2) pa_nil)) (pe_op op_add (pe_op op_powA pe_int pe_int) pe_int)) pe_int) (pe_op op_mulA pe_int (pv 1))) (pa_cons pe_int pa_nil))))))), ?_⟩)
  exact body_ok (N := N_law_store) (n := 2) (k := 1) (fix := []) (F := F_law_store) rfl (by decide) (ss_seq (ss_set (se_if (st_test (se_op ro_lt se_var (se_cb rc_len (sa_cons se_var sa_nil)))) (se_cb rc_abs (sa_cons (se_op ro_ix se_var se_var) sa_nil)) se_int) (by decide)) (ss_ret (se_lst (sa_cons (se_cb rc_max2 (sa_cons se_int (sa_cons (se_op ro_sub se_var (se_op ro_pow se_int se_int)) sa_nil))) (sa_cons (se_op ro_add (se_op ro_mul (se_op ro_mod (se_cb rc_int (sa_cons se_var sa_nil)) (se_op ro_add (se_op ro_pow se_int se_int) se_int)) se_int) (se_op ro_mul se_int se_var)) (sa_cons se_int sa_nil)))))) h

abbrev s_spares_of : Stmt := topS 14
abbrev N_spares_of : List Str := ["levels", "place", "level"]
theorem sc_spares_of : FnScope N_spares_of ["levels"] (defScope s_spares_of) := ⟨rfl, rfl, rfl, by decide +kernel, rfl, by decide +kernel, by decide +kernel⟩
def F_spares_of : En → Option Out := (sRet (eLc [1, 2] (iEnumF (aCons (eCBL bSorted (aCons (eVar 0) aNil)) aNil)) (tgTup 2 (tgCons (tgName 1) (tgCons (tgName 2) tgNil))) bYes (eOp dSub (eVar 2) (eVar 1))))
def m_spares_of : En → Option Res := bodyM [] 1 2 F_spares_of
set_option maxHeartbeats 4000000 in
theorem ok_spares_of {f : Addr} {fd : FuncData} (F : Fun K "spares_of" "spares_of" s_spares_of f fd) (m_sorted : mg "sorted" = none) (m_enumerate : mg "enumerate" = none) : FnG P w K mg base CX0 1 f fd ["levels"] (SpM K 1 m_spares_of) := by
  have sc := sc_spares_of
  refine funG F sc_spares_of (fun vs H Q E h => h.1) (fun cdv A outer s H vs Q E hr h => ⟨_, (pss_one (ps_ret (pe_lc (own := [("place", 1), ("level", 2)]) (g := (gTup K 2 (gCons (gName 1) (gCons (gName 2) gNil)))) (tt := tYes) (te := (tOp rSubI (tVar 2) (tVar 1))) rfl sc.nd (pi_enum (by rfl) m_enumerate (pa_cons (pe_callB cr_sortedI (by rfl) m_sorted (by decide +kernel) (pa_cons (pv 0) pa_nil)) pa_nil)) (blkOk_by (N := N_spares_of) (sc := defScope s_spares_of) (by decide +kernel)) (fun _ _ _ _ _ => by exact (pg_tup rfl (pgs_cons (pg_name (i := 1) sc.nd rfl (by first | exact Or.inl rfl | exact Or.inr rfl)) (pgs_cons (pg_name (i := 2) sc.nd rfl (by first | exact Or.inl rfl | exact Or.inr rfl)) pgs_nil)))) (fun _ _ _ _ _ => by exact pts_nil) (fun _ _ _ _ _ => by exact (pe_op op_sub (pv 2) (pv 1)))))), ?_⟩)
  exact body_ok (N := N_spares_of) (n := 1) (k := 2) (fix := []) (F := F_spares_of) rfl (by decide) (ss_ret (se_lc (si_enum (sa_cons (se_cbL rcl_sorted (sa_cons se_var sa_nil)) sa_nil)) (sg_tup (n := 2) (sgs_cons (sg_name (by decide)) (sgs_cons (sg_name (by decide)) sgs_nil))) (by decide) st_yes (se_op ro_sub se_var se_var))) h

abbrev s_is_whole : Stmt := topS 7
abbrev N_is_whole : List Str := ["thing"]
theorem sc_is_whole : FnScope N_is_whole ["thing"] (defScope s_is_whole) := ⟨rfl, rfl, rfl, by decide +kernel, rfl, by decide +kernel, by decide +kernel⟩
def F_is_whole : En → Option Out := (sRet (eAnd (eCB bIsi (aCons (eVar 0) (aCons (eC (.ty "int")) aNil))) (eNot (eCB bIsi (aCons (eVar 0) (aCons (eC (.ty "bool")) aNil))))))
def m_is_whole : En → Option Res := bodyM [] 1 0 F_is_whole
set_option maxHeartbeats 4000000 in
theorem ok_is_whole {f : Addr} {fd : FuncData} (F : Fun K "is_whole" "is_whole" s_is_whole f fd) (m_int : mg "int" = none) (m_isinstance : mg "isinstance" = none) (m_bool : mg "bool" = none) : FnG P w K mg base CX0 1 f fd ["thing"] (SpM K 1 m_is_whole) := by
  have sc := sc_is_whole
  refine funG F sc_is_whole (fun vs H Q E h => h.1) (fun cdv A outer s H vs Q E hr h => ⟨_, (pss_one (ps_ret (pe_and (pe_callB call_isi (by rfl) m_isinstance (by decide +kernel) (pa_cons (pv 0) (pa_cons (pe_bltn (v := .ty "int") (by rfl) m_int (by decide +kernel) rfl) pa_nil))) (pe_one (pe_not (pe_callB call_isi (by rfl) m_isinstance (by decide +kernel) (pa_cons (pv 0) (pa_cons (pe_bltn (v := .ty "bool") (by rfl) m_bool (by decide +kernel) rfl) pa_nil)))))))), ?_⟩)
  exact body_ok (N := N_is_whole) (n := 1) (k := 0) (fix := []) (F := F_is_whole) rfl (by decide) (ss_ret (se_and (se_cb rc_isi (sa_cons se_var (sa_cons se_ty sa_nil))) (se_not (se_cb rc_isi (sa_cons se_var (sa_cons se_ty sa_nil)))))) h

abbrev s_is_team : Stmt := topS 12
abbrev N_is_team : List Str := ["thing", "level"]
theorem sc_is_team : FnScope N_is_team ["thing"] (defScope s_is_team) := ⟨rfl, rfl, rfl, by decide +kernel, rfl, by decide +kernel, by decide +kernel⟩
def F_is_team : En → Option Out := (sSeq (sIf (bOr (bNot (bTest (eCB bIsi (aCons (eVar 0) (aCons (eC (.ty "list")) aNil))))) (bNot (bTest (eChain dLe dLe (eC (.int 1)) (eCB bLen (aCons (eVar 0) aNil)) (eC (.int 20))))))
    (sRet (eC (.bl false)))
    sNext)
    (sSeq (sIf (bNot (bTest (eCB bAll (aCons (eLc [1] (iSeq (eVar 0)) (tgName 1) bYes (eAnd (eCall 1 m_is_whole (aCons (eVar 1) aNil)) (eOp dGe (eVar 1) (eC (.int 0))))) aNil))))
    (sRet (eC (.bl false)))
    sNext)
    (sRet (eOp dLe (eCB bMaxL (aCons (eCall 1 m_spares_of (aCons (eVar 0) aNil)) aNil)) (eC (.int 40))))))
def m_is_team : En → Option Res := bodyM [] 1 1 F_is_team
set_option maxHeartbeats 4000000 in
theorem ok_is_team {f : Addr} {fd : FuncData} {tk_MOST_WORKERS : Tok} {tk_GREATEST_SPARE : Tok} (F : Fun K "is_team" "is_team" s_is_team f fd) (m_list : mg "list" = none) (m_isinstance : mg "isinstance" = none) (m_len : mg "len" = none) (m_all : mg "all" = none) (m_max : mg "max" = none) (c_MOST_WORKERS : mg "MOST_WORKERS" = some (.int 20 tk_MOST_WORKERS)) (c_GREATEST_SPARE : mg "GREATEST_SPARE" = some (.int 40 tk_GREATEST_SPARE)) (d_is_whole : DefG P w K mg base "is_whole" ["thing"] 1 m_is_whole) (d_spares_of : DefG P w K mg base "spares_of" ["levels"] 1 m_spares_of) : FnG P w K mg base CX0 2 f fd ["thing"] (SpM K 1 m_is_team) := by
  have sc := sc_is_team
  refine funG F sc_is_team (fun vs H Q E h => h.1) (fun cdv A outer s H vs Q E hr h => ⟨_, (pss_cons (ps_if (PW.pt (pw_or (pt_not (pt_val (pe_callB call_isi (by rfl) m_isinstance (by decide +kernel) (pa_cons (pv 0) (pa_cons (pe_bltn (v := .ty "list") (by rfl) m_list (by decide +kernel) rfl) pa_nil))))) (pw_or1 (pt_not (pt_chain op_le op_le pe_int (pe_callB call_len_seq (by rfl) m_len PySem.boot_len (pa_cons (pv 0) pa_nil)) (pe_glob (v := .int 20) (by rfl) c_MOST_WORKERS ⟨_, rfl⟩)))))) (pss_one (ps_ret pe_bl)) pss_nil) (pss_cons (ps_if (pt_not (pt_val (pe_callB (cr_all rfl) (by rfl) m_all (by decide +kernel) (pa_cons (pe_lc (own := [("level", 1)]) (g := (gName 1)) (tt := tYes) (te := (tAndV (tCall (SpM K 1 m_is_whole) [] E0 (tCons (tVar 1) tNil)) (tOp rGeI (tVar 1) (tC (.int 0))))) rfl sc.nd (pi_list (pv 0)) (blkOk_by (N := N_is_team) (sc := defScope s_is_team) (by decide +kernel)) (fun _ _ _ _ _ => by exact (pg_name (i := 1) sc.nd rfl (by first | exact Or.inl rfl | exact Or.inr rfl))) (fun _ _ _ _ _ => by exact pts_nil) (fun _ _ _ _ _ => by exact (pe_and (pe_dG (by exact d_is_whole) (by rfl) (by exact hr) (by decide) (by rfl) (pa_cons (pv 1) pa_nil) (by decide) (by rfl) (by rfl)) (pe_one (pe_cmpR op_ge (pv 1) pe_int (nomark _)))))) pa_nil)))) (pss_one (ps_ret pe_bl)) pss_nil) (pss_one (ps_ret (pe_cmpR op_le (pe_callB (cr_max rfl) (by rfl) m_max (by decide +kernel) (pa_cons (pe_dG (by exact d_spares_of) (by rfl) (by exact hr) (by decide) (by rfl) (pa_cons (pv 0) pa_nil) (by decide) (by rfl) (by rfl)) pa_nil)) (pe_glob (v := .int 40) (by rfl) c_GREATEST_SPARE ⟨_, rfl⟩) (nomark _)))))), ?_⟩)
  exact body_ok (N := N_is_team) (n := 1) (k := 1) (fix := []) (F := F_is_team) rfl (by decide) (ss_seq (ss_if (st_or (st_not (st_B (se_cb rc_isi (sa_cons se_var (sa_cons se_ty sa_nil))))) (st_not (st_test (se_chain ros_le ros_le se_int (se_cb rc_len (sa_cons se_var sa_nil)) se_int)))) (ss_ret se_bl) ss_next) (ss_seq (ss_if (st_not (st_B (se_cb rc_all (sa_cons (se_lc (si_list se_var) (sg_name (by decide)) (by decide) st_yes (se_and (se_call (n := 1) (m := m_is_whole) (sa_cons se_var sa_nil)) (se_op ro_ge se_var se_int))) sa_nil)))) (ss_ret se_bl) ss_next) (ss_ret (se_op ro_le (se_cb rc_maxL (sa_cons (se_call (n := 1) (m := m_spares_of) (sa_cons se_var sa_nil)) sa_nil)) se_int)))) h

abbrev s_check_team : Stmt := topS 13
abbrev N_check_team : List Str := ["team"]
theorem sc_check_team : FnScope N_check_team ["team"] (defScope s_check_team) := ⟨rfl, rfl, rfl, by decide +kernel, rfl, by decide +kernel, by decide +kernel⟩
def F_check_team : En → Option Out := (sIf (bNot (bTest (eCall 1 m_is_team (aCons (eVar 0) aNil))))
    sNever
    sNext)
def m_check_team : En → Option Res := bodyM [] 1 0 F_check_team
set_option maxHeartbeats 4000000 in
theorem ok_check_team {f : Addr} {fd : FuncData} (F : Fun K "check_team" "check_team" s_check_team f fd) (d_is_team : DefG P w K mg base "is_team" ["thing"] 2 m_is_team) : FnG P w K mg base CX0 3 f fd ["team"] (SpM K 1 m_check_team) := by
  have sc := sc_check_team
  refine funG F sc_check_team (fun vs H Q E h => h.1) (fun cdv A outer s H vs Q E hr h => ⟨_, (pss_one (ps_if (pt_not (pt_val (pe_dG (by exact d_is_team) (by rfl) (by exact hr) (by decide) (by rfl) (pa_cons (pv 0) pa_nil) (by decide) (by rfl) (by rfl)))) (pss_one ps_never) pss_nil)), ?_⟩)
  exact body_ok (N := N_check_team) (n := 1) (k := 0) (fix := []) (F := F_check_team) rfl (by decide) (ss_if (st_not (st_B (se_call (n := 1) (m := m_is_team) (sa_cons se_var sa_nil)))) ss_never ss_next) h

abbrev s_is_within : Stmt := topS 8
abbrev N_is_within : List Str := ["thing", "least", "greatest"]
theorem sc_is_within : FnScope N_is_within ["thing", "least", "greatest"] (defScope s_is_within) := ⟨rfl, rfl, rfl, by decide +kernel, rfl, by decide +kernel, by decide +kernel⟩
def F_is_within : En → Option Out := (sRet (eAnd (eCall 1 m_is_whole (aCons (eVar 0) aNil)) (eChain dLe dLe (eVar 1) (eVar 0) (eVar 2))))
def m_is_within : En → Option Res := bodyM [] 3 0 F_is_within
set_option maxHeartbeats 4000000 in
theorem ok_is_within {f : Addr} {fd : FuncData} (F : Fun K "is_within" "is_within" s_is_within f fd) (d_is_whole : DefG P w K mg base "is_whole" ["thing"] 1 m_is_whole) : FnG P w K mg base CX0 2 f fd ["thing", "least", "greatest"] (SpM K 3 m_is_within) := by
  have sc := sc_is_within
  refine funG F sc_is_within (fun vs H Q E h => h.1) (fun cdv A outer s H vs Q E hr h => ⟨_, (pss_one (ps_ret (pe_and (pe_dG (by exact d_is_whole) (by rfl) (by exact hr) (by decide) (by rfl) (pa_cons (pv 0) pa_nil) (by decide) (by rfl) (by rfl)) (pe_one (pe_chain op_le op_le (pv 1) (pv 0) (pv 2)))))), ?_⟩)
  exact body_ok (N := N_is_within) (n := 3) (k := 0) (fix := []) (F := F_is_within) rfl (by decide) (ss_ret (se_and (se_call (n := 1) (m := m_is_whole) (sa_cons se_var sa_nil)) (se_chain ros_le ros_le se_var se_var se_var))) h

abbrev s_is_ascending : Stmt := topS 21
abbrev N_is_ascending : List Str := ["thing", "greatest", "number", "first", "second"]
theorem sc_is_ascending : FnScope N_is_ascending ["thing", "greatest"] (defScope s_is_ascending) := ⟨rfl, rfl, rfl, by decide +kernel, rfl, by decide +kernel, by decide +kernel⟩
def F_is_ascending : En → Option Out := (sSeq (sIf (bOr (bNot (bTest (eCB bIsi (aCons (eVar 0) (aCons (eC (.ty "list")) aNil))))) (bNot (bTest (eCB bAll (aCons (eLc [2] (iSeq (eVar 0)) (tgName 2) bYes (eCall 3 m_is_within (aCons (eVar 2) (aCons (eC (.int 0)) (aCons (eVar 1) aNil))))) aNil)))))
    (sRet (eC (.bl false)))
    sNext)
    (sRet (eCB bAll (aCons (eLc [3, 4] (iZipF (aCons (eVar 0) (aCons (eSl (eVar 0) (oSome (eC (.int 1))) oNone) aNil))) (tgTup 2 (tgCons (tgName 3) (tgCons (tgName 4) tgNil))) bYes (eOp dLt (eVar 3) (eVar 4))) aNil))))
def m_is_ascending : En → Option Res := bodyM [] 2 3 F_is_ascending
set_option maxHeartbeats 4000000 in
theorem ok_is_ascending {f : Addr} {fd : FuncData} (F : Fun K "is_ascending" "is_ascending" s_is_ascending f fd) (m_list : mg "list" = none) (m_isinstance : mg "isinstance" = none) (m_all : mg "all" = none) (m_zip : mg "zip" = none) (d_is_within : DefG P w K mg base "is_within" ["thing", "least", "greatest"] 2 m_is_within) : FnG P w K mg base CX0 3 f fd ["thing", "greatest"] (SpM K 2 m_is_ascending) := by
  have sc := sc_is_ascending
  refine funG F sc_is_ascending (fun vs H Q E h => h.1) (fun cdv A outer s H vs Q E hr h => ⟨_, (pss_cons (ps_if (PW.pt (pw_or (pt_not (pt_val (pe_callB call_isi (by rfl) m_isinstance (by decide +kernel) (pa_cons (pv 0) (pa_cons (pe_bltn (v := .ty "list") (by rfl) m_list (by decide +kernel) rfl) pa_nil))))) (pw_or1 (pt_not (pt_val (pe_callB (cr_all rfl) (by rfl) m_all (by decide +kernel) (pa_cons (pe_lc (own := [("number", 2)]) (g := (gName 2)) (tt := tYes) (te := (tCall (SpM K 3 m_is_within) [] E0 (tCons (tVar 2) (tCons (tC (.int 0)) (tCons (tVar 1) tNil))))) rfl sc.nd (pi_list (pv 0)) (blkOk_by (N := N_is_ascending) (sc := defScope s_is_ascending) (by decide +kernel)) (fun _ _ _ _ _ => by exact (pg_name (i := 2) sc.nd rfl (by first | exact Or.inl rfl | exact Or.inr rfl))) (fun _ _ _ _ _ => by exact pts_nil) (fun _ _ _ _ _ => by exact (pe_dG (by exact d_is_within) (by rfl) (by exact hr) (by decide) (by rfl) (pa_cons (pv 2) (pa_cons pe_int (pa_cons (pv 1) pa_nil))) (by decide) (by rfl) (by rfl)))) pa_nil))))))) (pss_one (ps_ret pe_bl)) pss_nil) (pss_one (ps_ret (pe_callB (cr_all rfl) (by rfl) m_all (by decide +kernel) (pa_cons (pe_lc (own := [("first", 3), ("second", 4)]) (g := (gTup K 2 (gCons (gName 3) (gCons (gName 4) gNil)))) (tt := tYes) (te := (tOp rLtI (tVar 3) (tVar 4))) rfl sc.nd (pi_zip (by rfl) m_zip (pa_cons (pv 0) (pa_cons (pe_slice sl_list (pv 0) (po_some pe_int) po_none) pa_nil))) (blkOk_by (N := N_is_ascending) (sc := defScope s_is_ascending) (by decide +kernel)) (fun _ _ _ _ _ => by exact (pg_tup rfl (pgs_cons (pg_name (i := 3) sc.nd rfl (by first | exact Or.inl rfl | exact Or.inr rfl)) (pgs_cons (pg_name (i := 4) sc.nd rfl (by first | exact Or.inl rfl | exact Or.inr rfl)) pgs_nil)))) (fun _ _ _ _ _ => by exact pts_nil) (fun _ _ _ _ _ => by exact (pe_cmpR op_lt (pv 3) (pv 4) (nomark _)))) pa_nil))))), ?_⟩)
  exact body_ok (N := N_is_ascending) (n := 2) (k := 3) (fix := []) (F := F_is_ascending) rfl (by decide) (ss_seq (ss_if (st_or (st_not (st_B (se_cb rc_isi (sa_cons se_var (sa_cons se_ty sa_nil))))) (st_not (st_B (se_cb rc_all (sa_cons (se_lc (si_list se_var) (sg_name (by decide)) (by decide) st_yes (se_call (n := 3) (m := m_is_within) (sa_cons se_var (sa_cons se_int (sa_cons se_var sa_nil))))) sa_nil))))) (ss_ret se_bl) ss_next) (ss_ret (se_cb rc_all (sa_cons (se_lc (si_zip (sa_cons se_var (sa_cons (se_sl se_var (so_some se_int) so_none) sa_nil))) (sg_tup (n := 2) (sgs_cons (sg_name (by decide)) (sgs_cons (sg_name (by decide)) sgs_nil))) (by decide) st_yes (se_op ro_lt se_var se_var)) sa_nil)))) h

abbrev s_check_workers : Stmt := topS 22
abbrev N_check_workers : List Str := ["team", "workers"]
theorem sc_check_workers : FnScope N_check_workers ["team", "workers"] (defScope s_check_workers) := ⟨rfl, rfl, rfl, by decide +kernel, rfl, by decide +kernel, by decide +kernel⟩
def F_check_workers : En → Option Out := (sIf (bNot (bTest (eCall 2 m_is_ascending (aCons (eVar 1) (aCons (eOp dSub (eCB bLen (aCons (eVar 0) aNil)) (eC (.int 1))) aNil)))))
    sNever
    sNext)
def m_check_workers : En → Option Res := bodyM [] 2 0 F_check_workers
set_option maxHeartbeats 4000000 in
theorem ok_check_workers {f : Addr} {fd : FuncData} (F : Fun K "check_workers" "check_workers" s_check_workers f fd) (m_len : mg "len" = none) (d_is_ascending : DefG P w K mg base "is_ascending" ["thing", "greatest"] 3 m_is_ascending) : FnG P w K mg base CX0 4 f fd ["team", "workers"] (SpM K 2 m_check_workers) := by
  have sc := sc_check_workers
  refine funG F sc_check_workers (fun vs H Q E h => h.1) (fun cdv A outer s H vs Q E hr h => ⟨_, (pss_one (ps_if (pt_not (pt_val (pe_dG (by exact d_is_ascending) (by rfl) (by exact hr) (by decide) (by rfl) (pa_cons (pv 1) (pa_cons (pe_op op_sub (pe_callB call_len_seq (by rfl) m_len PySem.boot_len (pa_cons (pv 0) pa_nil)) pe_int) pa_nil)) (by decide) (by rfl) (by rfl)))) (pss_one ps_never) pss_nil)), ?_⟩)
  exact body_ok (N := N_check_workers) (n := 2) (k := 0) (fix := []) (F := F_check_workers) rfl (by decide) (ss_if (st_not (st_B (se_call (n := 2) (m := m_is_ascending) (sa_cons se_var (sa_cons (se_op ro_sub (se_cb rc_len (sa_cons se_var sa_nil)) se_int) sa_nil))))) ss_never ss_next) h

abbrev s_bars_workers : Stmt := topS 27
abbrev N_bars_workers : List Str := ["team", "workers", "bound", "worker"]
theorem sc_bars_workers : FnScope N_bars_workers ["team", "workers", "bound"] (defScope s_bars_workers) := ⟨rfl, rfl, rfl, by decide +kernel, rfl, by decide +kernel, by decide +kernel⟩
def F_bars_workers : En → Option Out := (sRet (eOp dGt (eCB bLen (aCons (eLc [3] (iSeq (eVar 1)) (tgName 3) (bTest (eOp dLe (eOp dIx (eVar 0) (eVar 3)) (eVar 2))) (eVar 3)) aNil)) (eVar 2)))
def m_bars_workers : En → Option Res := bodyM [] 3 1 F_bars_workers
set_option maxHeartbeats 4000000 in
theorem ok_bars_workers {f : Addr} {fd : FuncData} (F : Fun K "bars_workers" "bars_workers" s_bars_workers f fd) (m_len : mg "len" = none) : FnG P w K mg base CX0 1 f fd ["team", "workers", "bound"] (SpM K 3 m_bars_workers) := by
  have sc := sc_bars_workers
  refine funG F sc_bars_workers (fun vs H Q E h => h.1) (fun cdv A outer s H vs Q E hr h => ⟨_, (pss_one (ps_ret (pe_cmpR op_gt (pe_callB call_len_seq (by rfl) m_len PySem.boot_len (pa_cons (pe_lc (own := [("worker", 3)]) (g := (gName 3)) (tt := (tTest (tOp rLeI (tOp (rIx K) (tVar 0) (tVar 3)) (tVar 2)))) (te := (tVar 3)) rfl sc.nd (pi_list (pv 1)) (blkOk_by (N := N_bars_workers) (sc := defScope s_bars_workers) (by decide +kernel)) (fun _ _ _ _ _ => by exact (pg_name (i := 3) sc.nd rfl (by first | exact Or.inl rfl | exact Or.inr rfl))) (fun _ _ _ _ _ => by exact (pts_one (pt_cmpR op_le (pe_ix ix_seq (pv 0) (pv 3) (fun _ _ => rfl)) (pv 2) (nomark _)))) (fun _ _ _ _ _ => by exact (pv 3))) pa_nil)) (pv 2) (nomark _)))), ?_⟩)
  exact body_ok (N := N_bars_workers) (n := 3) (k := 1) (fix := []) (F := F_bars_workers) rfl (by decide) (ss_ret (se_op ro_gt (se_cb rc_len (sa_cons (se_lc (si_list se_var) (sg_name (by decide)) (by decide) (st_test (se_op ro_le (se_op ro_ix se_var se_var) se_var)) se_var) sa_nil)) se_var)) h

abbrev s_work_paper : Stmt := topS 26
abbrev N_work_paper : List Str := ["team", "workers", "bound"]
theorem sc_work_paper : FnScope N_work_paper ["team", "workers"] (defScope s_work_paper) := ⟨rfl, rfl, rfl, by decide +kernel, rfl, by decide +kernel, by decide +kernel⟩
def F_work_paper : En → Option Out := (sSeq (sExpr (eCall 1 m_check_team (aCons (eVar 0) aNil)))
    (sSeq (sExpr (eCall 2 m_check_workers (aCons (eVar 0) (aCons (eVar 1) aNil))))
    (sRet (eCB bMinN (aCons (eLc [2] (iR1 (aCons (eCB bLen (aCons (eVar 1) aNil)) aNil)) (tgName 2) (bTest (eCall 3 m_bars_workers (aCons (eVar 0) (aCons (eVar 1) (aCons (eVar 2) aNil))))) (eVar 2)) aNil)))))
def m_work_paper : En → Option Res := bodyM [] 2 1 F_work_paper
set_option maxHeartbeats 4000000 in
theorem ok_work_paper {f : Addr} {fd : FuncData} (F : Fun K "work_paper" "work_paper" s_work_paper f fd) (m_len : mg "len" = none) (m_range : mg "range" = none) (m_min : mg "min" = none) (d_check_team : DefG P w K mg base "check_team" ["team"] 3 m_check_team) (d_check_workers : DefG P w K mg base "check_workers" ["team", "workers"] 4 m_check_workers) (d_bars_workers : DefG P w K mg base "bars_workers" ["team", "workers", "bound"] 1 m_bars_workers) : FnG P w K mg base CX0 5 f fd ["team", "workers"] (SpM K 2 m_work_paper) := by
  have sc := sc_work_paper
  refine funG F sc_work_paper (fun vs H Q E h => h.1) (fun cdv A outer s H vs Q E hr h => ⟨_, (pss_cons (ps_expr (pe_dG (by exact d_check_team) (by rfl) (by exact hr) (by decide) (by rfl) (pa_cons (pv 0) pa_nil) (by decide) (by rfl) (by rfl))) (pss_cons (ps_expr (pe_dG (by exact d_check_workers) (by rfl) (by exact hr) (by decide) (by rfl) (pa_cons (pv 0) (pa_cons (pv 1) pa_nil)) (by decide) (by rfl) (by rfl))) (pss_one (ps_ret (pe_minN rfl (by first | exact hr.units | exact hr.units64) (by rfl) m_min (pa_cons (pe_lc (own := [("bound", 2)]) (g := (gName 2)) (tt := (tB (tCall (SpM K 3 m_bars_workers) [] E0 (tCons (tVar 0) (tCons (tVar 1) (tCons (tVar 2) tNil)))))) (te := (tVar 2)) rfl sc.nd (pi_range1 (by rfl) m_range (pa_cons (pe_callB call_len_seq (by rfl) m_len PySem.boot_len (pa_cons (pv 1) pa_nil)) pa_nil)) (blkOk_by (N := N_work_paper) (sc := defScope s_work_paper) (by decide +kernel)) (fun _ _ _ _ _ => by exact (pg_name (i := 2) sc.nd rfl (by first | exact Or.inl rfl | exact Or.inr rfl))) (fun _ _ _ _ _ => by exact (pts_one (pt_val (pe_dG (by exact d_bars_workers) (by rfl) (by exact hr) (by decide) (by rfl) (pa_cons (pv 0) (pa_cons (pv 1) (pa_cons (pv 2) pa_nil))) (by decide) (by rfl) (by rfl))))) (fun _ _ _ _ _ => by exact (pv 2))) pa_nil)))))), ?_⟩)
  exact body_ok (N := N_work_paper) (n := 2) (k := 1) (fix := []) (F := F_work_paper) rfl (by decide) (ss_seq (ss_expr (se_call (n := 1) (m := m_check_team) (sa_cons se_var sa_nil))) (ss_seq (ss_expr (se_call (n := 2) (m := m_check_workers) (sa_cons se_var (sa_cons se_var sa_nil)))) (ss_ret (se_cb rc_minN (sa_cons (se_lc (si_r1 (sa_cons (se_cb rc_len (sa_cons se_var sa_nil)) sa_nil)) (sg_name (by decide)) (by decide) (st_B (se_call (n := 3) (m := m_bars_workers) (sa_cons se_var (sa_cons se_var (sa_cons se_var sa_nil))))) se_var) sa_nil))))) h

abbrev s_check_jobs : Stmt := topS 23
abbrev N_check_jobs : List Str := ["jobs"]
theorem sc_check_jobs : FnScope N_check_jobs ["jobs"] (defScope s_check_jobs) := ⟨rfl, rfl, rfl, by decide +kernel, rfl, by decide +kernel, by decide +kernel⟩
def F_check_jobs : En → Option Out := (sIf (bOr (bNot (bTest (eCall 2 m_is_ascending (aCons (eVar 0) (aCons (eC (.int 59)) aNil))))) (bTest (eOp dGt (eCB bLen (aCons (eVar 0) aNil)) (eC (.int 20)))))
    sNever
    sNext)
def m_check_jobs : En → Option Res := bodyM [] 1 0 F_check_jobs
set_option maxHeartbeats 4000000 in
theorem ok_check_jobs {f : Addr} {fd : FuncData} {tk_GREATEST_JOB : Tok} {tk_MOST_JOBS : Tok} (F : Fun K "check_jobs" "check_jobs" s_check_jobs f fd) (m_len : mg "len" = none) (c_GREATEST_JOB : mg "GREATEST_JOB" = some (.int 59 tk_GREATEST_JOB)) (c_MOST_JOBS : mg "MOST_JOBS" = some (.int 20 tk_MOST_JOBS)) (d_is_ascending : DefG P w K mg base "is_ascending" ["thing", "greatest"] 3 m_is_ascending) : FnG P w K mg base CX0 4 f fd ["jobs"] (SpM K 1 m_check_jobs) := by
  have sc := sc_check_jobs
  refine funG F sc_check_jobs (fun vs H Q E h => h.1) (fun cdv A outer s H vs Q E hr h => ⟨_, (pss_one (ps_if (PW.pt (pw_or (pt_not (pt_val (pe_dG (by exact d_is_ascending) (by rfl) (by exact hr) (by decide) (by rfl) (pa_cons (pv 0) (pa_cons (pe_glob (v := .int 59) (by rfl) c_GREATEST_JOB ⟨_, rfl⟩) pa_nil)) (by decide) (by rfl) (by rfl)))) (pw_or1 (pt_cmpR op_gt (pe_callB call_len_seq (by rfl) m_len PySem.boot_len (pa_cons (pv 0) pa_nil)) (pe_glob (v := .int 20) (by rfl) c_MOST_JOBS ⟨_, rfl⟩) (nomark _))))) (pss_one ps_never) pss_nil)), ?_⟩)
  exact body_ok (N := N_check_jobs) (n := 1) (k := 0) (fix := []) (F := F_check_jobs) rfl (by decide) (ss_if (st_or (st_not (st_B (se_call (n := 2) (m := m_is_ascending) (sa_cons se_var (sa_cons se_int sa_nil))))) (st_test (se_op ro_gt (se_cb rc_len (sa_cons se_var sa_nil)) se_int))) ss_never ss_next) h

abbrev s_count_above : Stmt := topS 15
abbrev N_count_above : List Str := ["team", "bound", "level"]
theorem sc_count_above : FnScope N_count_above ["team", "bound"] (defScope s_count_above) := ⟨rfl, rfl, rfl, by decide +kernel, rfl, by decide +kernel, by decide +kernel⟩
def F_count_above : En → Option Out := (sRet (eCB bSum (aCons (eLc [2] (iSeq (eVar 0)) (tgName 2) (bTest (eOp dGt (eVar 2) (eVar 1))) (eC (.int 1))) aNil)))
def m_count_above : En → Option Res := bodyM [] 2 1 F_count_above
set_option maxHeartbeats 4000000 in
theorem ok_count_above {f : Addr} {fd : FuncData} (F : Fun K "count_above" "count_above" s_count_above f fd) (m_sum : mg "sum" = none) : FnG P w K mg base CX0 1 f fd ["team", "bound"] (SpM K 2 m_count_above) := by
  have sc := sc_count_above
  refine funG F sc_count_above (fun vs H Q E h => h.1) (fun cdv A outer s H vs Q E hr h => ⟨_, (pss_one (ps_ret (pe_callB (cr_sum rfl) (by rfl) m_sum (by decide +kernel) (pa_cons (pe_lc (own := [("level", 2)]) (g := (gName 2)) (tt := (tTest (tOp rGtI (tVar 2) (tVar 1)))) (te := (tC (.int 1))) rfl sc.nd (pi_list (pv 0)) (blkOk_by (N := N_count_above) (sc := defScope s_count_above) (by decide +kernel)) (fun _ _ _ _ _ => by exact (pg_name (i := 2) sc.nd rfl (by first | exact Or.inl rfl | exact Or.inr rfl))) (fun _ _ _ _ _ => by exact (pts_one (pt_cmpR op_gt (pv 2) (pv 1) (nomark _)))) (fun _ _ _ _ _ => by exact pe_int)) pa_nil)))), ?_⟩)
  exact body_ok (N := N_count_above) (n := 2) (k := 1) (fix := []) (F := F_count_above) rfl (by decide) (ss_ret (se_cb rc_sum (sa_cons (se_lc (si_list se_var) (sg_name (by decide)) (by decide) (st_test (se_op ro_gt se_var se_var)) se_int) sa_nil))) h

abbrev s_bars_jobs : Stmt := topS 32
abbrev N_bars_jobs : List Str := ["team", "jobs", "bound", "job"]
theorem sc_bars_jobs : FnScope N_bars_jobs ["team", "jobs", "bound"] (defScope s_bars_jobs) := ⟨rfl, rfl, rfl, by decide +kernel, rfl, by decide +kernel, by decide +kernel⟩
def F_bars_jobs : En → Option Out := (sRet (eOp dLt (eCall 2 m_count_above (aCons (eVar 0) (aCons (eVar 2) aNil))) (eCB bLen (aCons (eLc [3] (iSeq (eVar 1)) (tgName 3) (bTest (eOp dGe (eVar 3) (eVar 2))) (eVar 3)) aNil))))
def m_bars_jobs : En → Option Res := bodyM [] 3 1 F_bars_jobs
set_option maxHeartbeats 4000000 in
theorem ok_bars_jobs {f : Addr} {fd : FuncData} (F : Fun K "bars_jobs" "bars_jobs" s_bars_jobs f fd) (m_len : mg "len" = none) (d_count_above : DefG P w K mg base "count_above" ["team", "bound"] 1 m_count_above) : FnG P w K mg base CX0 2 f fd ["team", "jobs", "bound"] (SpM K 3 m_bars_jobs) := by
  have sc := sc_bars_jobs
  refine funG F sc_bars_jobs (fun vs H Q E h => h.1) (fun cdv A outer s H vs Q E hr h => ⟨_, (pss_one (ps_ret (pe_cmpR op_lt (pe_dG (by exact d_count_above) (by rfl) (by exact hr) (by decide) (by rfl) (pa_cons (pv 0) (pa_cons (pv 2) pa_nil)) (by decide) (by rfl) (by rfl)) (pe_callB call_len_seq (by rfl) m_len PySem.boot_len (pa_cons (pe_lc (own := [("job", 3)]) (g := (gName 3)) (tt := (tTest (tOp rGeI (tVar 3) (tVar 2)))) (te := (tVar 3)) rfl sc.nd (pi_list (pv 1)) (blkOk_by (N := N_bars_jobs) (sc := defScope s_bars_jobs) (by decide +kernel)) (fun _ _ _ _ _ => by exact (pg_name (i := 3) sc.nd rfl (by first | exact Or.inl rfl | exact Or.inr rfl))) (fun _ _ _ _ _ => by exact (pts_one (pt_cmpR op_ge (pv 3) (pv 2) (nomark _)))) (fun _ _ _ _ _ => by exact (pv 3))) pa_nil)) (nomark _)))), ?_⟩)
  exact body_ok (N := N_bars_jobs) (n := 3) (k := 1) (fix := []) (F := F_bars_jobs) rfl (by decide) (ss_ret (se_op ro_lt (se_call (n := 2) (m := m_count_above) (sa_cons se_var (sa_cons se_var sa_nil))) (se_cb rc_len (sa_cons (se_lc (si_list se_var) (sg_name (by decide)) (by decide) (st_test (se_op ro_ge se_var se_var)) se_var) sa_nil)))) h

abbrev s_give_paper : Stmt := topS 31
abbrev N_give_paper : List Str := ["team", "jobs", "bound"]
theorem sc_give_paper : FnScope N_give_paper ["team", "jobs"] (defScope s_give_paper) := ⟨rfl, rfl, rfl, by decide +kernel, rfl, by decide +kernel, by decide +kernel⟩
def F_give_paper : En → Option Out := (sSeq (sExpr (eCall 1 m_check_team (aCons (eVar 0) aNil)))
    (sSeq (sExpr (eCall 1 m_check_jobs (aCons (eVar 1) aNil)))
    (sRet (eCB bMinN (aCons (eLc [2] (iR1 (aCons (eOp dAdd (eC (.int 59)) (eC (.int 1))) aNil)) (tgName 2) (bTest (eCall 3 m_bars_jobs (aCons (eVar 0) (aCons (eVar 1) (aCons (eVar 2) aNil))))) (eVar 2)) aNil)))))
def m_give_paper : En → Option Res := bodyM [] 2 1 F_give_paper
set_option maxHeartbeats 4000000 in
theorem ok_give_paper {f : Addr} {fd : FuncData} {tk_GREATEST_JOB : Tok} (F : Fun K "give_paper" "give_paper" s_give_paper f fd) (m_range : mg "range" = none) (m_min : mg "min" = none) (c_GREATEST_JOB : mg "GREATEST_JOB" = some (.int 59 tk_GREATEST_JOB)) (d_check_team : DefG P w K mg base "check_team" ["team"] 3 m_check_team) (d_check_jobs : DefG P w K mg base "check_jobs" ["jobs"] 4 m_check_jobs) (d_bars_jobs : DefG P w K mg base "bars_jobs" ["team", "jobs", "bound"] 2 m_bars_jobs) : FnG P w K mg base CX0 5 f fd ["team", "jobs"] (SpM K 2 m_give_paper) := by
  have sc := sc_give_paper
  refine funG F sc_give_paper (fun vs H Q E h => h.1) (fun cdv A outer s H vs Q E hr h => ⟨_, (pss_cons (ps_expr (pe_dG (by exact d_check_team) (by rfl) (by exact hr) (by decide) (by rfl) (pa_cons (pv 0) pa_nil) (by decide) (by rfl) (by rfl))) (pss_cons (ps_expr (pe_dG (by exact d_check_jobs) (by rfl) (by exact hr) (by decide) (by rfl) (pa_cons (pv 1) pa_nil) (by decide) (by rfl) (by rfl))) (pss_one (ps_ret (pe_minN rfl (by first | exact hr.units | exact hr.units64) (by rfl) m_min (pa_cons (pe_lc (own := [("bound", 2)]) (g := (gName 2)) (tt := (tB (tCall (SpM K 3 m_bars_jobs) [] E0 (tCons (tVar 0) (tCons (tVar 1) (tCons (tVar 2) tNil)))))) (te := (tVar 2)) rfl sc.nd (pi_range1 (by rfl) m_range (pa_cons (pe_op op_add (pe_glob (v := .int 59) (by rfl) c_GREATEST_JOB ⟨_, rfl⟩) pe_int) pa_nil)) (blkOk_by (N := N_give_paper) (sc := defScope s_give_paper) (by decide +kernel)) (fun _ _ _ _ _ => by exact (pg_name (i := 2) sc.nd rfl (by first | exact Or.inl rfl | exact Or.inr rfl))) (fun _ _ _ _ _ => by exact (pts_one (pt_val (pe_dG (by exact d_bars_jobs) (by rfl) (by exact hr) (by decide) (by rfl) (pa_cons (pv 0) (pa_cons (pv 1) (pa_cons (pv 2) pa_nil))) (by decide) (by rfl) (by rfl))))) (fun _ _ _ _ _ => by exact (pv 2))) pa_nil)))))), ?_⟩)
  exact body_ok (N := N_give_paper) (n := 2) (k := 1) (fix := []) (F := F_give_paper) rfl (by decide) (ss_seq (ss_expr (se_call (n := 1) (m := m_check_team) (sa_cons se_var sa_nil))) (ss_seq (ss_expr (se_call (n := 1) (m := m_check_jobs) (sa_cons se_var sa_nil))) (ss_ret (se_cb rc_minN (sa_cons (se_lc (si_r1 (sa_cons (se_op ro_add se_int se_int) sa_nil)) (sg_name (by decide)) (by decide) (st_B (se_call (n := 3) (m := m_bars_jobs) (sa_cons se_var (sa_cons se_var (sa_cons se_var sa_nil))))) se_var) sa_nil))))) h

abbrev s_shows_give_paper : Stmt := topS 33
abbrev N_shows_give_paper : List Str := ["team", "jobs", "thing"]
theorem sc_shows_give_paper : FnScope N_shows_give_paper ["team", "jobs", "thing"] (defScope s_shows_give_paper) := ⟨rfl, rfl, rfl, by decide +kernel, rfl, by decide +kernel, by decide +kernel⟩
def F_shows_give_paper : En → Option Out := (sSeq (sExpr (eCall 1 m_check_team (aCons (eVar 0) aNil)))
    (sSeq (sExpr (eCall 1 m_check_jobs (aCons (eVar 1) aNil)))
    (sRet (eAnd (eCall 1 m_is_whole (aCons (eVar 2) aNil)) (eAnd (eOp dGe (eVar 2) (eC (.int 0))) (eCall 3 m_bars_jobs (aCons (eVar 0) (aCons (eVar 1) (aCons (eVar 2) aNil)))))))))
def m_shows_give_paper : En → Option Res := bodyM [] 3 0 F_shows_give_paper
set_option maxHeartbeats 4000000 in
theorem ok_shows_give_paper {f : Addr} {fd : FuncData} (F : Fun K "shows_give_paper" "shows_give_paper" s_shows_give_paper f fd) (d_check_team : DefG P w K mg base "check_team" ["team"] 3 m_check_team) (d_check_jobs : DefG P w K mg base "check_jobs" ["jobs"] 4 m_check_jobs) (d_is_whole : DefG P w K mg base "is_whole" ["thing"] 1 m_is_whole) (d_bars_jobs : DefG P w K mg base "bars_jobs" ["team", "jobs", "bound"] 2 m_bars_jobs) : FnG P w K mg base CX0 5 f fd ["team", "jobs", "thing"] (SpM K 3 m_shows_give_paper) := by
  have sc := sc_shows_give_paper
  refine funG F sc_shows_give_paper (fun vs H Q E h => h.1) (fun cdv A outer s H vs Q E hr h => ⟨_, (pss_cons (ps_expr (pe_dG (by exact d_check_team) (by rfl) (by exact hr) (by decide) (by rfl) (pa_cons (pv 0) pa_nil) (by decide) (by rfl) (by rfl))) (pss_cons (ps_expr (pe_dG (by exact d_check_jobs) (by rfl) (by exact hr) (by decide) (by rfl) (pa_cons (pv 1) pa_nil) (by decide) (by rfl) (by rfl))) (pss_one (ps_ret (pe_and (pe_dG (by exact d_is_whole) (by rfl) (by exact hr) (by decide) (by rfl) (pa_cons (pv 2) pa_nil) (by decide) (by rfl) (by rfl)) (pe_and (pe_cmpR op_ge (pv 2) pe_int (nomark _)) (pe_one (pe_dG (by exact d_bars_jobs) (by rfl) (by exact hr) (by decide) (by rfl) (pa_cons (pv 0) (pa_cons (pv 1) (pa_cons (pv 2) pa_nil))) (by decide) (by rfl) (by rfl))))))))), ?_⟩)
  exact body_ok (N := N_shows_give_paper) (n := 3) (k := 0) (fix := []) (F := F_shows_give_paper) rfl (by decide) (ss_seq (ss_expr (se_call (n := 1) (m := m_check_team) (sa_cons se_var sa_nil))) (ss_seq (ss_expr (se_call (n := 1) (m := m_check_jobs) (sa_cons se_var sa_nil))) (ss_ret (se_and (se_call (n := 1) (m := m_is_whole) (sa_cons se_var sa_nil)) (se_and (se_op ro_ge se_var se_int) (se_call (n := 3) (m := m_bars_jobs) (sa_cons se_var (sa_cons se_var (sa_cons se_var sa_nil))))))))) h

abbrev s_law_pick : Stmt := topS 37
abbrev N_law_pick : List Str := ["store", "bound", "digit", "mixed"]
theorem sc_law_pick : FnScope N_law_pick ["store", "bound"] (defScope s_law_pick) := ⟨rfl, rfl, rfl, by decide +kernel, rfl, by decide +kernel, by decide +kernel⟩
def F_law_pick : En → Option Out := (sSeq (sIf (bTest (eOp dGt (eOp dIx (eVar 0) (eC (.int 0))) (eC (.int 0))))
    (sSeq (sSet 2 (eOp dMod (eCB bInt (aCons (eOp dIx (eVar 0) (eC (.int 0))) aNil)) (eVar 1)))
    (sSeq (sPut 0 (eOp dFdiv (eOp dIx (eVar 0) (eC (.int 0))) (eVar 1)) (eC (.int 0)))
    (sRet (eVar 2))))
    sNext)
    (sSeq (sPut 0 (eOp dAdd (eOp dIx (eVar 0) (eC (.int 2))) (eC (.int 1))) (eC (.int 2)))
    (sSeq (sSet 3 (eOp dMod (eCB bInt (aCons (eOp dPow (eOp dAdd (eOp dIx (eVar 0) (eC (.int 1))) (eOp dMul (eC (.int 32416187567)) (eOp dIx (eVar 0) (eC (.int 2))))) (eC (.int 3))) aNil)) (eOp dAdd (eOp dPow (eC (.int 10)) (eC (.int 40))) (eC (.int 121)))))
    (sSeq (sSet 3 (eOp dMod (eCB bInt (aCons (eOp dPow (eOp dAdd (eVar 3) (eOp dMul (eC (.int 27644437)) (eOp dIx (eVar 0) (eC (.int 2))))) (eC (.int 3))) aNil)) (eOp dAdd (eOp dPow (eC (.int 10)) (eC (.int 39))) (eC (.int 3)))))
    (sRet (eOp dMod (eCB bInt (aCons (eOp dFdiv (eVar 3) (eC (.int 16381))) aNil)) (eVar 1)))))))
def m_law_pick : En → Option Res := bodyM [0] 2 2 F_law_pick
set_option maxHeartbeats 4000000 in
theorem ok_law_pick {f : Addr} {fd : FuncData} (F : Fun K "_law_pick" "_law_pick" s_law_pick f fd) (m_int : mg "int" = none) : FnG P w K mg base CX0 1 f fd ["store", "bound"] (SpM K 2 m_law_pick) := by
  have sc := sc_law_pick
  refine funG F sc_law_pick (fun vs H Q E h => h.1) (fun cdv A outer s H vs Q E hr h => ⟨_, (pss_cons (ps_if (pt_cmpR op_gt (pe_ix ix_seq (pv 0) pe_int (fun _ _ => rfl)) pe_int (nomark _)) (pss_cons (ps_set (i := 2) sc.nd rfl (by first | exact .inl rfl | exact .inr rfl) (pe_op op_modN (pe_callTy call_int1 (by rfl) m_int (by decide +kernel) (pa_cons (pe_ix ix_seq (pv 0) pe_int (fun _ _ => rfl)) pa_nil)) (pv 1))) (pss_cons (ps_asg (pe_op op_fdivA (pe_ix ix_seq (pv 0) pe_int (fun _ _ => rfl)) (pv 1)) (pg_sub (pv 0) pe_int set_list)) (pss_one (ps_ret (pv 2))))) pss_nil) (pss_cons (ps_asg (pe_op op_add (pe_ix ix_seq (pv 0) pe_int (fun _ _ => rfl)) pe_int) (pg_sub (pv 0) pe_int set_list)) (pss_cons (ps_set (i := 3) sc.nd rfl (by first | exact .inl rfl | exact .inr rfl) (pe_op op_modN (pe_callTy call_int1 (by rfl) m_int (by decide +kernel) (pa_cons (pe_op op_powA (pe_op op_add (pe_ix ix_seq (pv 0) pe_int (fun _ _ => rfl)) (pe_op op_mulA pe_int (pe_ix ix_seq (pv 0) pe_int (fun _ _ => rfl)))) pe_int) pa_nil)) (pe_op op_add (pe_op op_powA pe_int pe_int) pe_int))) (pss_cons (ps_set (i := 3) sc.nd rfl (by first | exact .inl rfl | exact .inr rfl) (pe_op op_modN (pe_callTy call_int1 (by rfl) m_int (by decide +kernel) (pa_cons (pe_op op_powA (pe_op op_add (pv 3) (pe_op op_mulA pe_int (pe_ix ix_seq (pv 0) pe_int (fun _ _ => rfl)))) pe_int) pa_nil)) (pe_op op_add (pe_op op_powA pe_int pe_int) pe_int))) (pss_one (ps_ret (pe_op op_modN (pe_callTy call_int1 (by rfl) m_int (by decide +kernel) (pa_cons (pe_op op_fdivA (pv 3) pe_int) pa_nil)) (pv 1)))))))), ?_⟩)
  exact body_ok (N := N_law_pick) (n := 2) (k := 2) (fix := [0]) (F := F_law_pick) rfl (by decide) (ss_seq (ss_if (st_test (se_op ro_gt (se_op ro_ix se_var se_int) se_int)) (ss_seq (ss_set (se_op ro_mod (se_cb rc_int (sa_cons (se_op ro_ix se_var se_int) sa_nil)) se_var) (by decide)) (ss_seq (ss_put (se_op ro_fdiv (se_op ro_ix se_var se_int) se_var) se_int) (ss_ret se_var))) ss_next) (ss_seq (ss_put (se_op ro_add (se_op ro_ix se_var se_int) se_int) se_int) (ss_seq (ss_set (se_op ro_mod (se_cb rc_int (sa_cons (se_op ro_pow (se_op ro_add (se_op ro_ix se_var se_int) (se_op ro_mul se_int (se_op ro_ix se_var se_int))) se_int) sa_nil)) (se_op ro_add (se_op ro_pow se_int se_int) se_int)) (by decide)) (ss_seq (ss_set (se_op ro_mod (se_cb rc_int (sa_cons (se_op ro_pow (se_op ro_add se_var (se_op ro_mul se_int (se_op ro_ix se_var se_int))) se_int) sa_nil)) (se_op ro_add (se_op ro_pow se_int se_int) se_int)) (by decide)) (ss_ret (se_op ro_mod (se_cb rc_int (sa_cons (se_op ro_fdiv se_var se_int) sa_nil)) se_var)))))) h

abbrev s_law_deal : Stmt := topS 38
abbrev N_law_deal : List Str := ["store", "most", "top", "size_here", "bent", "some", "turn", "found", "spot"]
theorem sc_law_deal : FnScope N_law_deal ["store", "most", "top"] (defScope s_law_deal) := ⟨rfl, rfl, rfl, by decide +kernel, rfl, by decide +kernel, by decide +kernel⟩
def F_law_deal : En → Option Out := (sSeq (sAsg (eTup (aCons (eOp dAdd (eC (.int 1)) (eCall1 2 m_law_pick (aCons (eVar 0) (aCons (eVar 1) aNil)))) (aCons (eCall1 2 m_law_pick (aCons (eVar 0) (aCons (eC (.int 6)) aNil))) aNil))) (tgTup 2 (tgCons (tgName 3) (tgCons (tgName 4) tgNil))))
    (sSeq (sIf (bTest (eOp dEq (eVar 4) (eC (.int 1))))
    (sSeq (sSet 5 (eLc [6] (iR1 (aCons (eC (.int 2)) aNil)) (tgName 6) bYes (eCall1 2 m_law_pick (aCons (eVar 0) (aCons (eOp dAdd (eVar 2) (eC (.int 1))) aNil)))))
    (sRet (eLc [6] (iR1 (aCons (eVar 3) aNil)) (tgName 6) bYes (eOp dIx (eVar 5) (eCall1 2 m_law_pick (aCons (eVar 0) (aCons (eC (.int 2)) aNil)))))))
    sNext)
    (sSeq (sIf (bTest (eOp dEq (eVar 4) (eC (.int 2))))
    (sRet (eLc [6] (iR1 (aCons (eVar 3) aNil)) (tgName 6) bYes (eCall1 2 m_law_pick (aCons (eVar 0) (aCons (eOp dAdd (eCB bMin2 (aCons (eVar 2) (aCons (eC (.int 2)) aNil))) (eC (.int 1))) aNil)))))
    sNext)
    (sSeq (sIf (bTest (eOp dEq (eVar 4) (eC (.int 3))))
    (sSeq (sSet 7 (eLc [8] (iR1 (aCons (eVar 3) aNil)) (tgName 8) bYes (eCB bMin2 (aCons (eVar 2) (aCons (eOp dAdd (eVar 8) (eCall1 2 m_law_pick (aCons (eVar 0) (aCons (eC (.int 2)) aNil)))) aNil)))))
    (sRet (eLc [6] (iR1 (aCons (eVar 3) aNil)) (tgName 6) bYes (eaPop 7 (aCons (eCall1 2 m_law_pick (aCons (eVar 0) (aCons (eCB bLen (aCons (eVar 7) aNil)) aNil))) aNil)))))
    sNext)
    (sSeq (sIf (bTest (eOp dEq (eVar 4) (eC (.int 4))))
    (sRet (eOpL dRep (eLst (aCons (eCall1 2 m_law_pick (aCons (eVar 0) (aCons (eOp dAdd (eVar 2) (eC (.int 1))) aNil))) aNil)) (eVar 3)))
    sNext)
    (sRet (eLc [6] (iR1 (aCons (eVar 3) aNil)) (tgName 6) bYes (eOp dSub (eVar 2) (eCall1 2 m_law_pick (aCons (eVar 0) (aCons (eOp dIx (eLst (aCons (eOp dAdd (eVar 2) (eC (.int 1))) (aCons (eOp dAdd (eCB bMin2 (aCons (eVar 2) (aCons (eC (.int 3)) aNil))) (eC (.int 1))) aNil))) (eCB bInt (aCons (eOp dEq (eVar 4) (eC (.int 5))) aNil))) aNil)))))))))))
def m_law_deal : En → Option Res := bodyM [0] 3 6 F_law_deal
set_option maxHeartbeats 4000000 in
theorem ok_law_deal {f : Addr} {fd : FuncData} (F : Fun K "_law_deal" "_law_deal" s_law_deal f fd) (m_range : mg "range" = none) (m_min : mg "min" = none) (m_len : mg "len" = none) (m_int : mg "int" = none) (d_law_pick : DefG P w K mg base "_law_pick" ["store", "bound"] 1 m_law_pick) : FnG P w K mg base CX0 2 f fd ["store", "most", "top"] (SpM K 3 m_law_deal) := by
  have sc := sc_law_deal
  refine funG F sc_law_deal (fun vs H Q E h => h.1) (fun cdv A outer s H vs Q E hr h => ⟨_, (pss_cons (ps_asg (pe_tup (pa_cons (pe_op op_add pe_int (pe_dG (by exact d_law_pick) (by rfl) (by exact hr) (by decide) (by rfl) (pa_cons (pv 0) (pa_cons (pv 1) pa_nil)) (by decide) (by rfl) (by rfl))) (pa_cons (pe_dG (by exact d_law_pick) (by rfl) (by exact hr) (by decide) (by rfl) (pa_cons (pv 0) (pa_cons pe_int pa_nil)) (by decide) (by rfl) (by rfl)) pa_nil))) (pg_tup rfl (pgs_cons (pg_name (i := 3) sc.nd rfl (by first | exact .inl rfl | exact .inr rfl)) (pgs_cons (pg_name (i := 4) sc.nd rfl (by first | exact .inl rfl | exact .inr rfl)) pgs_nil)))) (pss_cons (ps_if (pt_cmpR (op_eqD hr.units) (pv 4) pe_int (nomark _)) (pss_cons (by first | exact (ps_setLc (i := 5) (own := [("turn", 6)]) (g := (gName 6)) (tt := tYes) (te := (tCall (SpM K 2 m_law_pick) [] E0 (tCons (tVar 0) (tCons (tOp rAddI (tVar 2) (tC (.int 1))) tNil)))) rfl sc.nd rfl rfl (sw_true rfl rfl rfl (by decide +kernel)) (pi_range1 (by rfl) m_range (pa_cons pe_int pa_nil)) (blkOk_by (N := N_law_deal) (sc := defScope s_law_deal) (by decide +kernel)) (fun _ _ _ _ _ => by exact (pg_name (i := 6) sc.nd rfl (by first | exact Or.inl rfl | exact Or.inr rfl))) (fun _ _ _ _ _ => by exact pts_nil) (fun _ _ _ _ _ => by exact (pe_dG (by exact d_law_pick) (by rfl) (by exact hr) (by decide) (by rfl) (pa_cons (pv 0) (pa_cons (pe_op op_add (pv 2) pe_int) pa_nil)) (by decide) (by rfl) (by rfl)))) | exact (ps_set (i := 5) sc.nd rfl (by first | exact .inl rfl | exact .inr rfl) (pe_lc (own := [("turn", 6)]) (g := (gName 6)) (tt := tYes) (te := (tCall (SpM K 2 m_law_pick) [] E0 (tCons (tVar 0) (tCons (tOp rAddI (tVar 2) (tC (.int 1))) tNil)))) rfl sc.nd (pi_range1 (by rfl) m_range (pa_cons pe_int pa_nil)) (blkOk_by (N := N_law_deal) (sc := defScope s_law_deal) (by decide +kernel)) (fun _ _ _ _ _ => by exact (pg_name (i := 6) sc.nd rfl (by first | exact Or.inl rfl | exact Or.inr rfl))) (fun _ _ _ _ _ => by exact pts_nil) (fun _ _ _ _ _ => by exact (pe_dG (by exact d_law_pick) (by rfl) (by exact hr) (by decide) (by rfl) (pa_cons (pv 0) (pa_cons (pe_op op_add (pv 2) pe_int) pa_nil)) (by decide) (by rfl) (by rfl)))))) (pss_one (ps_ret (pe_lc (own := [("turn", 6)]) (g := (gName 6)) (tt := tYes) (te := (tOp (rIx K) (tVar 5) (tCall (SpM K 2 m_law_pick) [] E0 (tCons (tVar 0) (tCons (tC (.int 2)) tNil))))) rfl sc.nd (pi_range1 (by rfl) m_range (pa_cons (pv 3) pa_nil)) (blkOk_by (N := N_law_deal) (sc := defScope s_law_deal) (by decide +kernel)) (fun _ _ _ _ _ => by exact (pg_name (i := 6) sc.nd rfl (by first | exact Or.inl rfl | exact Or.inr rfl))) (fun _ _ _ _ _ => by exact pts_nil) (fun _ _ _ _ _ => by exact (pe_ix ix_seq (pv 5) (pe_dG (by exact d_law_pick) (by rfl) (by exact hr) (by decide) (by rfl) (pa_cons (pv 0) (pa_cons pe_int pa_nil)) (by decide) (by rfl) (by rfl)) (fun _ _ => rfl))))))) pss_nil) (pss_cons (ps_if (pt_cmpR (op_eqD hr.units) (pv 4) pe_int (nomark _)) (pss_one (ps_ret (pe_lc (own := [("turn", 6)]) (g := (gName 6)) (tt := tYes) (te := (tCall (SpM K 2 m_law_pick) [] E0 (tCons (tVar 0) (tCons (tOp rAddI (tCB rMn2 (tCons (tVar 2) (tCons (tC (.int 2)) tNil))) (tC (.int 1))) tNil)))) rfl sc.nd (pi_range1 (by rfl) m_range (pa_cons (pv 3) pa_nil)) (blkOk_by (N := N_law_deal) (sc := defScope s_law_deal) (by decide +kernel)) (fun _ _ _ _ _ => by exact (pg_name (i := 6) sc.nd rfl (by first | exact Or.inl rfl | exact Or.inr rfl))) (fun _ _ _ _ _ => by exact pts_nil) (fun _ _ _ _ _ => by exact (pe_dG (by exact d_law_pick) (by rfl) (by exact hr) (by decide) (by rfl) (pa_cons (pv 0) (pa_cons (pe_op op_add (pe_callB (call_min2 rfl) (by rfl) m_min (by decide +kernel) (pa_cons (pv 2) (pa_cons pe_int pa_nil))) pe_int) pa_nil)) (by decide) (by rfl) (by rfl)))))) pss_nil) (pss_cons (ps_if (pt_cmpR (op_eqD hr.units) (pv 4) pe_int (nomark _)) (pss_cons (by first | exact (ps_setLc (i := 7) (own := [("spot", 8)]) (g := (gName 8)) (tt := tYes) (te := (tCB rMn2 (tCons (tVar 2) (tCons (tOp rAddI (tVar 8) (tCall (SpM K 2 m_law_pick) [] E0 (tCons (tVar 0) (tCons (tC (.int 2)) tNil)))) tNil)))) rfl sc.nd rfl rfl (sw_true rfl rfl rfl (by decide +kernel)) (pi_range1 (by rfl) m_range (pa_cons (pv 3) pa_nil)) (blkOk_by (N := N_law_deal) (sc := defScope s_law_deal) (by decide +kernel)) (fun _ _ _ _ _ => by exact (pg_name (i := 8) sc.nd rfl (by first | exact Or.inl rfl | exact Or.inr rfl))) (fun _ _ _ _ _ => by exact pts_nil) (fun _ _ _ _ _ => by exact (pe_callB (call_min2 rfl) (by rfl) m_min (by decide +kernel) (pa_cons (pv 2) (pa_cons (pe_op op_add (pv 8) (pe_dG (by exact d_law_pick) (by rfl) (by exact hr) (by decide) (by rfl) (pa_cons (pv 0) (pa_cons pe_int pa_nil)) (by decide) (by rfl) (by rfl))) pa_nil))))) | exact (ps_set (i := 7) sc.nd rfl (by first | exact .inl rfl | exact .inr rfl) (pe_lc (own := [("spot", 8)]) (g := (gName 8)) (tt := tYes) (te := (tCB rMn2 (tCons (tVar 2) (tCons (tOp rAddI (tVar 8) (tCall (SpM K 2 m_law_pick) [] E0 (tCons (tVar 0) (tCons (tC (.int 2)) tNil)))) tNil)))) rfl sc.nd (pi_range1 (by rfl) m_range (pa_cons (pv 3) pa_nil)) (blkOk_by (N := N_law_deal) (sc := defScope s_law_deal) (by decide +kernel)) (fun _ _ _ _ _ => by exact (pg_name (i := 8) sc.nd rfl (by first | exact Or.inl rfl | exact Or.inr rfl))) (fun _ _ _ _ _ => by exact pts_nil) (fun _ _ _ _ _ => by exact (pe_callB (call_min2 rfl) (by rfl) m_min (by decide +kernel) (pa_cons (pv 2) (pa_cons (pe_op op_add (pv 8) (pe_dG (by exact d_law_pick) (by rfl) (by exact hr) (by decide) (by rfl) (pa_cons (pv 0) (pa_cons pe_int pa_nil)) (by decide) (by rfl) (by rfl))) pa_nil))))))) (pss_one (ps_ret (pe_lc (own := [("turn", 6)]) (g := (gName 6)) (tt := tYes) (te := (tBM K "list" rPopAt (tVar 7) (tCons (tCall (SpM K 2 m_law_pick) [] E0 (tCons (tVar 0) (tCons (tCB (rLenSeq K) (tCons (tVar 7) tNil)) tNil))) tNil))) rfl sc.nd (pi_range1 (by rfl) m_range (pa_cons (pv 3) pa_nil)) (blkOk_by (N := N_law_deal) (sc := defScope s_law_deal) (by decide +kernel)) (fun _ _ _ _ _ => by exact (pg_name (i := 6) sc.nd rfl (by first | exact Or.inl rfl | exact Or.inr rfl))) (fun _ _ _ _ _ => by exact pts_nil) (fun _ _ _ _ _ => by exact (pe_bm PySem.F.plainAttrs_list PySem.F.slot_list_pop PySem.F.type_list_pop mt_popAt (pv 7) (pa_cons (pe_dG (by exact d_law_pick) (by rfl) (by exact hr) (by decide) (by rfl) (pa_cons (pv 0) (pa_cons (pe_callB call_len_seq (by rfl) m_len PySem.boot_len (pa_cons (pv 7) pa_nil)) pa_nil)) (by decide) (by rfl) (by rfl)) pa_nil))))))) pss_nil) (pss_cons (ps_if (pt_cmpR (op_eqD hr.units) (pv 4) pe_int (nomark _)) (pss_one (ps_ret (pe_op op_rep (pe_lst (pa_cons (pe_dG (by exact d_law_pick) (by rfl) (by exact hr) (by decide) (by rfl) (pa_cons (pv 0) (pa_cons (pe_op op_add (pv 2) pe_int) pa_nil)) (by decide) (by rfl) (by rfl)) pa_nil)) (pv 3)))) pss_nil) (pss_one (ps_ret (pe_lc (own := [("turn", 6)]) (g := (gName 6)) (tt := tYes) (te := (tOp rSubI (tVar 2) (tCall (SpM K 2 m_law_pick) [] E0 (tCons (tVar 0) (tCons (tOp (rIx K) (tLst (tCons (tOp rAddI (tVar 2) (tC (.int 1))) (tCons (tOp rAddI (tCB rMn2 (tCons (tVar 2) (tCons (tC (.int 3)) tNil))) (tC (.int 1))) tNil))) (tCB (rInt1) (tCons (tOp (rEqD K) (tVar 4) (tC (.int 5))) tNil))) tNil))))) rfl sc.nd (pi_range1 (by rfl) m_range (pa_cons (pv 3) pa_nil)) (blkOk_by (N := N_law_deal) (sc := defScope s_law_deal) (by decide +kernel)) (fun _ _ _ _ _ => by exact (pg_name (i := 6) sc.nd rfl (by first | exact Or.inl rfl | exact Or.inr rfl))) (fun _ _ _ _ _ => by exact pts_nil) (fun _ _ _ _ _ => by exact (pe_op op_sub (pv 2) (pe_dG (by exact d_law_pick) (by rfl) (by exact hr) (by decide) (by rfl) (pa_cons (pv 0) (pa_cons (pe_ix ix_seq (pe_lst (pa_cons (pe_op op_add (pv 2) pe_int) (pa_cons (pe_op op_add (pe_callB (call_min2 rfl) (by rfl) m_min (by decide +kernel) (pa_cons (pv 2) (pa_cons pe_int pa_nil))) pe_int) pa_nil))) (pe_callTy call_int1 (by rfl) m_int (by decide +kernel) (pa_cons (pe_cmpR (op_eqD hr.units) (pv 4) pe_int (nomark _)) pa_nil)) (fun _ _ => rfl)) pa_nil)) (by decide) (by rfl) (by rfl)))))))))))), ?_⟩)
  exact body_ok (N := N_law_deal) (n := 3) (k := 6) (fix := [0]) (F := F_law_deal) rfl (by decide) (ss_seq (ss_asg (se_tup (sa_cons (se_op ro_add se_int (se_call1 (n := 2) (m := m_law_pick) (sa_cons se_var (sa_cons se_var sa_nil)))) (sa_cons (se_call1 (n := 2) (m := m_law_pick) (sa_cons se_var (sa_cons se_int sa_nil))) sa_nil))) (sg_tup (n := 2) (sgs_cons (sg_name (by decide)) (sgs_cons (sg_name (by decide)) sgs_nil)))) (ss_seq (ss_if (st_test (se_op ro_eq se_var se_int)) (ss_seq (ss_set (se_lc (si_r1 (sa_cons se_int sa_nil)) (sg_name (by decide)) (by decide) st_yes (se_call1 (n := 2) (m := m_law_pick) (sa_cons se_var (sa_cons (se_op ro_add se_var se_int) sa_nil)))) (by decide)) (ss_ret (se_lc (si_r1 (sa_cons se_var sa_nil)) (sg_name (by decide)) (by decide) st_yes (se_op ro_ix se_var (se_call1 (n := 2) (m := m_law_pick) (sa_cons se_var (sa_cons se_int sa_nil))))))) ss_next) (ss_seq (ss_if (st_test (se_op ro_eq se_var se_int)) (ss_ret (se_lc (si_r1 (sa_cons se_var sa_nil)) (sg_name (by decide)) (by decide) st_yes (se_call1 (n := 2) (m := m_law_pick) (sa_cons se_var (sa_cons (se_op ro_add (se_cb rc_min2 (sa_cons se_var (sa_cons se_int sa_nil))) se_int) sa_nil))))) ss_next) (ss_seq (ss_if (st_test (se_op ro_eq se_var se_int)) (ss_seq (ss_set (se_lc (si_r1 (sa_cons se_var sa_nil)) (sg_name (by decide)) (by decide) st_yes (se_cb rc_min2 (sa_cons se_var (sa_cons (se_op ro_add se_var (se_call1 (n := 2) (m := m_law_pick) (sa_cons se_var (sa_cons se_int sa_nil)))) sa_nil)))) (by decide)) (ss_ret (se_lc (si_r1 (sa_cons se_var sa_nil)) (sg_name (by decide)) (by decide) st_yes (se_popAt (sa_cons (se_call1 (n := 2) (m := m_law_pick) (sa_cons se_var (sa_cons (se_cb rc_len (sa_cons se_var sa_nil)) sa_nil))) sa_nil))))) ss_next) (ss_seq (ss_if (st_test (se_op ro_eq se_var se_int)) (ss_ret (se_opL rol_rep (se_lst (sa_cons (se_call1 (n := 2) (m := m_law_pick) (sa_cons se_var (sa_cons (se_op ro_add se_var se_int) sa_nil))) sa_nil)) se_var)) ss_next) (ss_ret (se_lc (si_r1 (sa_cons se_var sa_nil)) (sg_name (by decide)) (by decide) st_yes (se_op ro_sub se_var (se_call1 (n := 2) (m := m_law_pick) (sa_cons se_var (sa_cons (se_op ro_ix (se_lst (sa_cons (se_op ro_add se_var se_int) (sa_cons (se_op ro_add (se_cb rc_min2 (sa_cons se_var (sa_cons se_int sa_nil))) se_int) sa_nil))) (se_cb rc_int (sa_cons (se_op ro_eq se_var se_int) sa_nil))) sa_nil))))))))))) h

abbrev s_law_high : Stmt := topS 40
abbrev N_law_high : List Str := ["store", "far", "left", "place", "turn"]
theorem sc_law_high : FnScope N_law_high ["store"] (defScope s_law_high) := ⟨rfl, rfl, rfl, by decide +kernel, rfl, by decide +kernel, by decide +kernel⟩
def F_law_high : En → Option Out := (sSeq (sParN [1, 2] (aCons (eOp dIx (eLst (aCons (eC (.int 1)) (aCons (eC (.int 4)) (aCons (eC (.int 41)) aNil)))) (eCall1 2 m_law_pick (aCons (eVar 0) (aCons (eC (.int 3)) aNil)))) (aCons (eLst aNil) aNil)))
    (sSeq (sFor (iR1 (aCons (eOp dAdd (eC (.int 1)) (eCall1 2 m_law_pick (aCons (eVar 0) (aCons (eC (.int 20)) aNil)))) aNil)) (tgName 3)
    (sExpr (eAppend 2 (aCons (eOp dSub (eOp dAdd (eC (.int 40)) (eVar 3)) (eCall1 2 m_law_pick (aCons (eVar 0) (aCons (eVar 1) aNil)))) aNil))))
    (sRet (eLc [4] (iR1 (aCons (eCB bLen (aCons (eVar 2) aNil)) aNil)) (tgName 4) bYes (eaPop 2 (aCons (eCall1 2 m_law_pick (aCons (eVar 0) (aCons (eCB bLen (aCons (eVar 2) aNil)) aNil))) aNil))))))
def m_law_high : En → Option Res := bodyM [0] 1 4 F_law_high
set_option maxHeartbeats 4000000 in
theorem ok_law_high {f : Addr} {fd : FuncData} (F : Fun K "_law_high" "_law_high" s_law_high f fd) (m_range : mg "range" = none) (m_len : mg "len" = none) (d_law_pick : DefG P w K mg base "_law_pick" ["store", "bound"] 1 m_law_pick) : FnG P w K mg base CX0 2 f fd ["store"] (SpM K 1 m_law_high) := by
  have sc := sc_law_high
  refine funG F sc_law_high (fun vs H Q E h => h.1) (fun cdv A outer s H vs Q E hr h => ⟨_, (pss_cons (ps_asg (pe_tup (pa_cons (pe_ix ix_seq (pe_lst (pa_cons pe_int (pa_cons pe_int (pa_cons pe_int pa_nil)))) (pe_dG (by exact d_law_pick) (by rfl) (by exact hr) (by decide) (by rfl) (pa_cons (pv 0) (pa_cons pe_int pa_nil)) (by decide) (by rfl) (by rfl)) (fun _ _ => rfl)) (pa_cons (pe_lst pa_nil) pa_nil))) (pg_tup rfl (pgs_cons (pg_name (i := 1) sc.nd rfl (by first | exact .inl rfl | exact .inr rfl)) (pgs_cons (pg_name (i := 2) sc.nd rfl (by first | exact .inl rfl | exact .inr rfl)) pgs_nil)))) (pss_cons (ps_for PassesOwn.never rfl (pi_range1 (by rfl) m_range (pa_cons (pe_op op_add pe_int (pe_dG (by exact d_law_pick) (by rfl) (by exact hr) (by decide) (by rfl) (pa_cons (pv 0) (pa_cons pe_int pa_nil)) (by decide) (by rfl) (by rfl))) pa_nil)) (pg_name (i := 3) sc.nd rfl (by first | exact .inl rfl | exact .inr rfl)) (pss_one (ps_expr (pe_bm PySem.F.plainAttrs_list PySem.F.slot_list_append PySem.F.type_list_append mt_append (pv 2) (pa_cons (pe_op op_sub (pe_op op_add pe_int (pv 3)) (pe_dG (by exact d_law_pick) (by rfl) (by exact hr) (by decide) (by rfl) (pa_cons (pv 0) (pa_cons (pv 1) pa_nil)) (by decide) (by rfl) (by rfl))) pa_nil))))) (pss_one (ps_ret (pe_lc (own := [("turn", 4)]) (g := (gName 4)) (tt := tYes) (te := (tBM K "list" rPopAt (tVar 2) (tCons (tCall (SpM K 2 m_law_pick) [] E0 (tCons (tVar 0) (tCons (tCB (rLenSeq K) (tCons (tVar 2) tNil)) tNil))) tNil))) rfl sc.nd (pi_range1 (by rfl) m_range (pa_cons (pe_callB call_len_seq (by rfl) m_len PySem.boot_len (pa_cons (pv 2) pa_nil)) pa_nil)) (blkOk_by (N := N_law_high) (sc := defScope s_law_high) (by decide +kernel)) (fun _ _ _ _ _ => by exact (pg_name (i := 4) sc.nd rfl (by first | exact Or.inl rfl | exact Or.inr rfl))) (fun _ _ _ _ _ => by exact pts_nil) (fun _ _ _ _ _ => by exact (pe_bm PySem.F.plainAttrs_list PySem.F.slot_list_pop PySem.F.type_list_pop mt_popAt (pv 2) (pa_cons (pe_dG (by exact d_law_pick) (by rfl) (by exact hr) (by decide) (by rfl) (pa_cons (pv 0) (pa_cons (pe_callB call_len_seq (by rfl) m_len PySem.boot_len (pa_cons (pv 2) pa_nil)) pa_nil)) (by decide) (by rfl) (by rfl)) pa_nil)))))))), ?_⟩)
  exact body_ok (N := N_law_high) (n := 1) (k := 4) (fix := [0]) (F := F_law_high) rfl (by decide) (ss_seq (ss_parN (is := [1, 2]) (sad_cons (se_op ro_ix (se_lst (sa_cons se_int (sa_cons se_int (sa_cons se_int sa_nil)))) (se_call1 (n := 2) (m := m_law_pick) (sa_cons se_var (sa_cons se_int sa_nil)))) (sad_cons (se_lst sa_nil) sad_nil)) rfl (by decide) (by decide)) (ss_seq (ss_for (si_r1 (sa_cons (se_op ro_add se_int (se_call1 (n := 2) (m := m_law_pick) (sa_cons se_var (sa_cons se_int sa_nil)))) sa_nil)) (sg_name (by decide)) (ss_expr (se_append (sa_cons (se_op ro_sub (se_op ro_add se_int se_var) (se_call1 (n := 2) (m := m_law_pick) (sa_cons se_var (sa_cons se_var sa_nil)))) sa_nil)))) (ss_ret (se_lc (si_r1 (sa_cons (se_cb rc_len (sa_cons se_var sa_nil)) sa_nil)) (sg_name (by decide)) (by decide) st_yes (se_popAt (sa_cons (se_call1 (n := 2) (m := m_law_pick) (sa_cons se_var (sa_cons (se_cb rc_len (sa_cons se_var sa_nil)) sa_nil))) sa_nil)))))) h

abbrev s_law_rising : Stmt := topS 43
abbrev N_law_rising : List Str := ["store", "size_here", "most", "bent", "found", "spot"]
theorem sc_law_rising : FnScope N_law_rising ["store", "size_here", "most"] (defScope s_law_rising) := ⟨rfl, rfl, rfl, by decide +kernel, rfl, by decide +kernel, by decide +kernel⟩
def F_law_rising : En → Option Out := (sSeq (sSet 3 (eCall1 2 m_law_pick (aCons (eVar 0) (aCons (eC (.int 4)) aNil))))
    (sSeq (sSet 4 (eLc [5] (iR1 (aCons (eVar 1) aNil)) (tgName 5) (bOr (bTest (eOp dEq (eVar 3) (eC (.int 3)))) (bTest (eOp dEq (eCall1 2 m_law_pick (aCons (eVar 0) (aCons (eOp dIx (eLst (aCons (eC (.int 2)) (aCons (eC (.int 5)) (aCons (eC (.int 9)) (aCons (eC (.int 1)) aNil))))) (eVar 3)) aNil))) (eC (.int 0))))) (eVar 5)))
    (sRet (eOp dIx (eLst (aCons (eSl (eVar 4) oNone (oSome (eVar 2))) (aCons (eSl (eVar 4) (oSome (eUn dNeg (eVar 2))) oNone) aNil))) (eCall1 2 m_law_pick (aCons (eVar 0) (aCons (eC (.int 2)) aNil)))))))
def m_law_rising : En → Option Res := bodyM [0] 3 3 F_law_rising
set_option maxHeartbeats 4000000 in
theorem ok_law_rising {f : Addr} {fd : FuncData} (F : Fun K "_law_rising" "_law_rising" s_law_rising f fd) (m_range : mg "range" = none) (d_law_pick : DefG P w K mg base "_law_pick" ["store", "bound"] 1 m_law_pick) : FnG P w K mg base CX0 2 f fd ["store", "size_here", "most"] (SpM K 3 m_law_rising) := by
  have sc := sc_law_rising
  refine funG F sc_law_rising (fun vs H Q E h => h.1) (fun cdv A outer s H vs Q E hr h => ⟨_, (pss_cons (ps_set (i := 3) sc.nd rfl (by first | exact .inl rfl | exact .inr rfl) (pe_dG (by exact d_law_pick) (by rfl) (by exact hr) (by decide) (by rfl) (pa_cons (pv 0) (pa_cons pe_int pa_nil)) (by decide) (by rfl) (by rfl))) (pss_cons (by first | exact (ps_setLc (i := 4) (own := [("spot", 5)]) (g := (gName 5)) (tt := (tOr (tTest (tOp (rEqD K) (tVar 3) (tC (.int 3)))) (tTest (tOp (rEqD K) (tCall (SpM K 2 m_law_pick) [] E0 (tCons (tVar 0) (tCons (tOp (rIx K) (tLst (tCons (tC (.int 2)) (tCons (tC (.int 5)) (tCons (tC (.int 9)) (tCons (tC (.int 1)) tNil))))) (tVar 3)) tNil))) (tC (.int 0)))))) (te := (tVar 5)) rfl sc.nd rfl rfl (sw_true rfl rfl rfl (by decide +kernel)) (pi_range1 (by rfl) m_range (pa_cons (pv 1) pa_nil)) (blkOk_by (N := N_law_rising) (sc := defScope s_law_rising) (by decide +kernel)) (fun _ _ _ _ _ => by exact (pg_name (i := 5) sc.nd rfl (by first | exact Or.inl rfl | exact Or.inr rfl))) (fun _ _ _ _ _ => by exact (pts_one (PW.pt (pw_or (pt_cmpR (op_eqD hr.units) (pv 3) pe_int (nomark _)) (pw_or1 (pt_cmpR (op_eqD hr.units) (pe_dG (by exact d_law_pick) (by rfl) (by exact hr) (by decide) (by rfl) (pa_cons (pv 0) (pa_cons (pe_ix ix_seq (pe_lst (pa_cons pe_int (pa_cons pe_int (pa_cons pe_int (pa_cons pe_int pa_nil))))) (pv 3) (fun _ _ => rfl)) pa_nil)) (by decide) (by rfl) (by rfl)) pe_int (nomark _))))))) (fun _ _ _ _ _ => by exact (pv 5))) | exact (ps_set (i := 4) sc.nd rfl (by first | exact .inl rfl | exact .inr rfl) (pe_lc (own := [("spot", 5)]) (g := (gName 5)) (tt := (tOr (tTest (tOp (rEqD K) (tVar 3) (tC (.int 3)))) (tTest (tOp (rEqD K) (tCall (SpM K 2 m_law_pick) [] E0 (tCons (tVar 0) (tCons (tOp (rIx K) (tLst (tCons (tC (.int 2)) (tCons (tC (.int 5)) (tCons (tC (.int 9)) (tCons (tC (.int 1)) tNil))))) (tVar 3)) tNil))) (tC (.int 0)))))) (te := (tVar 5)) rfl sc.nd (pi_range1 (by rfl) m_range (pa_cons (pv 1) pa_nil)) (blkOk_by (N := N_law_rising) (sc := defScope s_law_rising) (by decide +kernel)) (fun _ _ _ _ _ => by exact (pg_name (i := 5) sc.nd rfl (by first | exact Or.inl rfl | exact Or.inr rfl))) (fun _ _ _ _ _ => by exact (pts_one (PW.pt (pw_or (pt_cmpR (op_eqD hr.units) (pv 3) pe_int (nomark _)) (pw_or1 (pt_cmpR (op_eqD hr.units) (pe_dG (by exact d_law_pick) (by rfl) (by exact hr) (by decide) (by rfl) (pa_cons (pv 0) (pa_cons (pe_ix ix_seq (pe_lst (pa_cons pe_int (pa_cons pe_int (pa_cons pe_int (pa_cons pe_int pa_nil))))) (pv 3) (fun _ _ => rfl)) pa_nil)) (by decide) (by rfl) (by rfl)) pe_int (nomark _))))))) (fun _ _ _ _ _ => by exact (pv 5))))) (pss_one (ps_ret (pe_ix ix_seq (pe_lst (pa_cons (pe_slice sl_list (pv 4) po_none (po_some (pv 2))) (pa_cons (pe_slice sl_list (pv 4) (po_some (pe_un un_neg (pv 2))) po_none) pa_nil))) (pe_dG (by exact d_law_pick) (by rfl) (by exact hr) (by decide) (by rfl) (pa_cons (pv 0) (pa_cons pe_int pa_nil)) (by decide) (by rfl) (by rfl)) (fun _ _ => rfl)))))), ?_⟩)
  exact body_ok (N := N_law_rising) (n := 3) (k := 3) (fix := [0]) (F := F_law_rising) rfl (by decide) (ss_seq (ss_set (se_call1 (n := 2) (m := m_law_pick) (sa_cons se_var (sa_cons se_int sa_nil))) (by decide)) (ss_seq (ss_set (se_lc (si_r1 (sa_cons se_var sa_nil)) (sg_name (by decide)) (by decide) (st_or (st_test (se_op ro_eq se_var se_int)) (st_test (se_op ro_eq (se_call1 (n := 2) (m := m_law_pick) (sa_cons se_var (sa_cons (se_op ro_ix (se_lst (sa_cons se_int (sa_cons se_int (sa_cons se_int (sa_cons se_int sa_nil))))) se_var) sa_nil))) se_int))) se_var) (by decide)) (ss_ret (se_op ro_ix (se_lst (sa_cons (se_sl se_var so_none (so_some se_var)) (sa_cons (se_sl se_var (so_some (se_neg se_var)) so_none) sa_nil))) (se_call1 (n := 2) (m := m_law_pick) (sa_cons se_var (sa_cons se_int sa_nil))))))) h

abbrev s_law_things : Stmt := topS 44
abbrev N_law_things : List Str := []
theorem sc_law_things : FnScope N_law_things [] (defScope s_law_things) := ⟨rfl, rfl, rfl, by decide +kernel, rfl, by decide +kernel, by decide +kernel⟩
def F_law_things : En → Option Out := (sRet (eLst (aCons (eC .non) (aCons (eC (.bl true)) (aCons (eC (.bl false)) (aCons (eC (.str "")) (aCons (eC (.str "0")) (aCons (eTup aNil) (aCons (eLst aNil) (aCons (eC (.dct [] [])) (aCons (eLst (aCons (eC (.int 0)) aNil)) (aCons (eTup (aCons (eC (.int 0)) aNil)) (aCons (eUn dNeg (eC (.int 1))) (aCons (eOp dSub (eC (.int 0)) (eOp dPow (eC (.int 10)) (eC (.int 30)))) (aCons (eLst (aCons (eC .non) aNil)) (aCons (eC (.str "1")) (aCons (eC (.dct [.inr "0"] [.int 0])) (aCons (eTup (aCons (eTup aNil) aNil)) aNil))))))))))))))))))
def m_law_things : En → Option Res := bodyM [] 0 0 F_law_things
set_option maxHeartbeats 4000000 in
theorem ok_law_things {f : Addr} {fd : FuncData} (F : Fun K "_law_things" "_law_things" s_law_things f fd)  : FnG P w K mg base CX0 1 f fd [] (SpM K 0 m_law_things) := by
  have sc := sc_law_things
  refine funG F sc_law_things (fun vs H Q E h => h.1) (fun cdv A outer s H vs Q E hr h => ⟨_, (pss_one (ps_ret (pe_lst (pa_cons pe_non (pa_cons pe_bl (pa_cons pe_bl (pa_cons pe_str (pa_cons pe_str (pa_cons (pe_tup pa_nil) (pa_cons (pe_lst pa_nil) (pa_cons pe_dnewK (pa_cons (pe_lst (pa_cons pe_int pa_nil)) (pa_cons (pe_tup (pa_cons pe_int pa_nil)) (pa_cons (pe_un un_neg pe_int) (pa_cons (pe_op op_sub pe_int (pe_op op_powA pe_int pe_int)) (pa_cons (pe_lst (pa_cons pe_non pa_nil)) (pa_cons pe_str (pa_cons (pe_disp (pps_cons pe_str pe_int pps_nil) rfl rfl (by simp) (by decide)) (pa_cons (pe_tup (pa_cons (pe_tup pa_nil) pa_nil)) pa_nil))))))))))))))))))), ?_⟩)
  exact body_ok (N := N_law_things) (n := 0) (k := 0) (fix := []) (F := F_law_things) rfl (by decide) (ss_ret (se_lst (sa_cons se_non (sa_cons se_bl (sa_cons se_bl (sa_cons se_str (sa_cons se_str (sa_cons (se_tup sa_nil) (sa_cons (se_lst sa_nil) (sa_cons se_d0 (sa_cons (se_lst (sa_cons se_int sa_nil)) (sa_cons (se_tup (sa_cons se_int sa_nil)) (sa_cons (se_neg se_int) (sa_cons (se_op ro_sub se_int (se_op ro_pow se_int se_int)) (sa_cons (se_lst (sa_cons se_non sa_nil)) (sa_cons se_str (sa_cons (se_d1) (sa_cons (se_tup (sa_cons (se_tup sa_nil) sa_nil)) sa_nil)))))))))))))))))) h

abbrev s_law_crowd : Stmt := topS 41
abbrev N_law_crowd : List Str := ["deal", "gang", "first", "who"]
theorem sc_law_crowd : FnScope N_law_crowd ["deal", "gang", "first"] (defScope s_law_crowd) := ⟨rfl, rfl, rfl, by decide +kernel, rfl, by decide +kernel, by decide +kernel⟩
def F_law_crowd : En → Option Out := (sRet (eOp dGt (eCB bLen (aCons (eLc [3] (iSeq (eVar 1)) (tgName 3) (bTest (eOp dLe (eOp dIx (eVar 0) (eVar 3)) (eVar 2))) (eVar 3)) aNil)) (eVar 2)))
def m_law_crowd : En → Option Res := bodyM [] 3 1 F_law_crowd
set_option maxHeartbeats 4000000 in
theorem ok_law_crowd {f : Addr} {fd : FuncData} (F : Fun K "_law_crowd" "_law_crowd" s_law_crowd f fd) (m_len : mg "len" = none) : FnG P w K mg base CX0 1 f fd ["deal", "gang", "first"] (SpM K 3 m_law_crowd) := by
  have sc := sc_law_crowd
  refine funG F sc_law_crowd (fun vs H Q E h => h.1) (fun cdv A outer s H vs Q E hr h => ⟨_, (pss_one (ps_ret (pe_cmpR op_gt (pe_callB call_len_seq (by rfl) m_len PySem.boot_len (pa_cons (pe_lc (own := [("who", 3)]) (g := (gName 3)) (tt := (tTest (tOp rLeI (tOp (rIx K) (tVar 0) (tVar 3)) (tVar 2)))) (te := (tVar 3)) rfl sc.nd (pi_list (pv 1)) (blkOk_by (N := N_law_crowd) (sc := defScope s_law_crowd) (by decide +kernel)) (fun _ _ _ _ _ => by exact (pg_name (i := 3) sc.nd rfl (by first | exact Or.inl rfl | exact Or.inr rfl))) (fun _ _ _ _ _ => by exact (pts_one (pt_cmpR op_le (pe_ix ix_seq (pv 0) (pv 3) (fun _ _ => rfl)) (pv 2) (nomark _)))) (fun _ _ _ _ _ => by exact (pv 3))) pa_nil)) (pv 2) (nomark _)))), ?_⟩)
  exact body_ok (N := N_law_crowd) (n := 3) (k := 1) (fix := []) (F := F_law_crowd) rfl (by decide) (ss_ret (se_op ro_gt (se_cb rc_len (sa_cons (se_lc (si_list se_var) (sg_name (by decide)) (by decide) (st_test (se_op ro_le (se_op ro_ix se_var se_var) se_var)) se_var) sa_nil)) se_var)) h

abbrev s_law_lack : Stmt := topS 42
abbrev N_law_lack : List Str := ["deal", "goods", "first", "own", "spot"]
theorem sc_law_lack : FnScope N_law_lack ["deal", "goods", "first"] (defScope s_law_lack) := ⟨rfl, rfl, rfl, by decide +kernel, rfl, by decide +kernel, by decide +kernel⟩
def F_law_lack : En → Option Out := (sRet (eOp dLt (eCB bLen (aCons (eLc [3] (iSeq (eVar 0)) (tgName 3) (bTest (eOp dGt (eVar 3) (eVar 2))) (eVar 3)) aNil)) (eCB bLen (aCons (eLc [4] (iSeq (eVar 1)) (tgName 4) (bTest (eOp dGe (eVar 4) (eVar 2))) (eVar 4)) aNil))))
def m_law_lack : En → Option Res := bodyM [] 3 2 F_law_lack
set_option maxHeartbeats 4000000 in
theorem ok_law_lack {f : Addr} {fd : FuncData} (F : Fun K "_law_lack" "_law_lack" s_law_lack f fd) (m_len : mg "len" = none) : FnG P w K mg base CX0 1 f fd ["deal", "goods", "first"] (SpM K 3 m_law_lack) := by
  have sc := sc_law_lack
  refine funG F sc_law_lack (fun vs H Q E h => h.1) (fun cdv A outer s H vs Q E hr h => ⟨_, (pss_one (ps_ret (pe_cmpR op_lt (pe_callB call_len_seq (by rfl) m_len PySem.boot_len (pa_cons (pe_lc (own := [("own", 3)]) (g := (gName 3)) (tt := (tTest (tOp rGtI (tVar 3) (tVar 2)))) (te := (tVar 3)) rfl sc.nd (pi_list (pv 0)) (blkOk_by (N := N_law_lack) (sc := defScope s_law_lack) (by decide +kernel)) (fun _ _ _ _ _ => by exact (pg_name (i := 3) sc.nd rfl (by first | exact Or.inl rfl | exact Or.inr rfl))) (fun _ _ _ _ _ => by exact (pts_one (pt_cmpR op_gt (pv 3) (pv 2) (nomark _)))) (fun _ _ _ _ _ => by exact (pv 3))) pa_nil)) (pe_callB call_len_seq (by rfl) m_len PySem.boot_len (pa_cons (pe_lc (own := [("spot", 4)]) (g := (gName 4)) (tt := (tTest (tOp rGeI (tVar 4) (tVar 2)))) (te := (tVar 4)) rfl sc.nd (pi_list (pv 1)) (blkOk_by (N := N_law_lack) (sc := defScope s_law_lack) (by decide +kernel)) (fun _ _ _ _ _ => by exact (pg_name (i := 4) sc.nd rfl (by first | exact Or.inl rfl | exact Or.inr rfl))) (fun _ _ _ _ _ => by exact (pts_one (pt_cmpR op_ge (pv 4) (pv 2) (nomark _)))) (fun _ _ _ _ _ => by exact (pv 4))) pa_nil)) (nomark _)))), ?_⟩)
  exact body_ok (N := N_law_lack) (n := 3) (k := 2) (fix := []) (F := F_law_lack) rfl (by decide) (ss_ret (se_op ro_lt (se_cb rc_len (sa_cons (se_lc (si_list se_var) (sg_name (by decide)) (by decide) (st_test (se_op ro_gt se_var se_var)) se_var) sa_nil)) (se_cb rc_len (sa_cons (se_lc (si_list se_var) (sg_name (by decide)) (by decide) (st_test (se_op ro_ge se_var se_var)) se_var) sa_nil)))) h

abbrev s_counts_with_next : Stmt := topS 18
abbrev N_counts_with_next : List Str := ["found", "level", "longer", "size", "ways"]
theorem sc_counts_with_next : FnScope N_counts_with_next ["found", "level"] (defScope s_counts_with_next) := ⟨rfl, rfl, rfl, by decide +kernel, rfl, by decide +kernel, by decide +kernel⟩
def F_counts_with_next : En → Option Out := (sSeq (sSet 2 (eOpL dCat (eVar 0) (eLst (aCons (eC (.int 0)) aNil))))
    (sSeq (sFor (iEnumF (aCons (eVar 0) aNil)) (tgTup 2 (tgCons (tgName 3) (tgCons (tgName 4) tgNil)))
    (sPutAug 2 dAdd (eOp dAdd (eVar 3) (eC (.int 1))) (eOp dMul (eVar 4) (eOp dSub (eVar 1) (eVar 3)))))
    (sRet (eVar 2))))
def m_counts_with_next : En → Option Res := bodyM [] 2 3 F_counts_with_next
set_option maxHeartbeats 4000000 in
theorem ok_counts_with_next {f : Addr} {fd : FuncData} (F : Fun K "counts_with_next" "counts_with_next" s_counts_with_next f fd) (m_enumerate : mg "enumerate" = none) : FnG P w K mg base CX0 1 f fd ["found", "level"] (SpM K 2 m_counts_with_next) := by
  have sc := sc_counts_with_next
  refine funG F sc_counts_with_next (fun vs H Q E h => h.1) (fun cdv A outer s H vs Q E hr h => ⟨_, (pss_cons (ps_set (i := 2) sc.nd rfl (by first | exact .inl rfl | exact .inr rfl) (pe_op op_cat (pv 0) (pe_lst (pa_cons pe_int pa_nil)))) (pss_cons (ps_for PassesOwn.never rfl (pi_enum (by rfl) m_enumerate (pa_cons (pv 0) pa_nil)) (pg_tup rfl (pgs_cons (pg_name (i := 3) sc.nd rfl (by first | exact .inl rfl | exact .inr rfl)) (pgs_cons (pg_name (i := 4) sc.nd rfl (by first | exact .inl rfl | exact .inr rfl)) pgs_nil))) (pss_one (ps_augS (pv 2) (pe_op op_add (pv 3) pe_int) get_list (pe_op op_mulA (pv 4) (pe_op op_sub (pv 1) (pv 3))) ip_add set_list))) (pss_one (ps_ret (pv 2))))), ?_⟩)
  exact body_ok (N := N_counts_with_next) (n := 2) (k := 3) (fix := []) (F := F_counts_with_next) rfl (by decide) (ss_seq (ss_set (se_opL rol_cat se_var (se_lst (sa_cons se_int sa_nil))) (by decide)) (ss_seq (ss_for (si_enum (sa_cons se_var sa_nil)) (sg_tup (n := 2) (sgs_cons (sg_name (by decide)) (sgs_cons (sg_name (by decide)) sgs_nil))) (ss_putAug (se_op ro_add se_var se_int) (se_op ro_mul se_var (se_op ro_sub se_var se_var)) rip_I)) (ss_ret se_var))) h

abbrev s_counts_along : Stmt := topS 17
abbrev N_counts_along : List Str := ["levels", "found", "level"]
theorem sc_counts_along : FnScope N_counts_along ["levels"] (defScope s_counts_along) := ⟨rfl, rfl, rfl, by decide +kernel, rfl, by decide +kernel, by decide +kernel⟩
def F_counts_along : En → Option Out := (sSeq (sSet 1 (eLst (aCons (eC (.int 1)) aNil)))
    (sSeq (sFor (iSeq (eVar 0)) (tgName 2)
    (sSeq (sFrz 1) (sSet 1 (eCall 2 m_counts_with_next (aCons (eVar 1) (aCons (eVar 2) aNil))))))
    (sRet (eVar 1))))
def m_counts_along : En → Option Res := bodyM [] 1 2 F_counts_along
set_option maxHeartbeats 4000000 in
theorem ok_counts_along {f : Addr} {fd : FuncData} (F : Fun K "counts_along" "counts_along" s_counts_along f fd) (d_counts_with_next : DefG P w K mg base "counts_with_next" ["found", "level"] 1 m_counts_with_next) : FnG P w K mg base CX0 2 f fd ["levels"] (SpM K 1 m_counts_along) := by
  have sc := sc_counts_along
  refine funG F sc_counts_along (fun vs H Q E h => h.1) (fun cdv A outer s H vs Q E hr h => ⟨_, (pss_cons (ps_set (i := 1) sc.nd rfl (by first | exact .inl rfl | exact .inr rfl) (pe_lst (pa_cons pe_int pa_nil))) (pss_cons (ps_for PassesOwn.never rfl (pi_list (pv 0)) (pg_name (i := 2) sc.nd rfl (by first | exact .inl rfl | exact .inr rfl)) (pss_one (ps_set (i := 1) sc.nd rfl (by first | exact .inl rfl | exact .inr rfl) (pe_dG (by exact d_counts_with_next) (by rfl) (by exact hr) (by decide) (by rfl) (pa_cons (pv 1) (pa_cons (pv 2) pa_nil)) (by decide) (by rfl) (by rfl))))) (pss_one (ps_ret (pv 1))))), ?_⟩)
  exact body_ok (N := N_counts_along) (n := 1) (k := 2) (fix := []) (F := F_counts_along) rfl (by decide) (ss_seq (ss_set (se_lst (sa_cons se_int sa_nil)) (by decide)) (ss_seq (ss_for (si_list se_var) (sg_name (by decide)) (ss_pre (i := 1) (ss_set (se_call (n := 2) (m := m_counts_with_next) (sa_cons se_var (sa_cons se_var sa_nil))) (by decide)))) (ss_ret se_var))) h

abbrev s_ways_of_all : Stmt := topS 24
abbrev N_ways_of_all : List Str := ["levels"]
theorem sc_ways_of_all : FnScope N_ways_of_all ["levels"] (defScope s_ways_of_all) := ⟨rfl, rfl, rfl, by decide +kernel, rfl, by decide +kernel, by decide +kernel⟩
def F_ways_of_all : En → Option Out := (sRet (eOp dIx (eCall 1 m_counts_along (aCons (eCBL bSorted (aCons (eVar 0) aNil)) aNil)) (eUn dNeg (eC (.int 1)))))
def m_ways_of_all : En → Option Res := bodyM [] 1 0 F_ways_of_all
set_option maxHeartbeats 4000000 in
theorem ok_ways_of_all {f : Addr} {fd : FuncData} (F : Fun K "ways_of_all" "ways_of_all" s_ways_of_all f fd) (m_sorted : mg "sorted" = none) (d_counts_along : DefG P w K mg base "counts_along" ["levels"] 2 m_counts_along) : FnG P w K mg base CX0 3 f fd ["levels"] (SpM K 1 m_ways_of_all) := by
  have sc := sc_ways_of_all
  refine funG F sc_ways_of_all (fun vs H Q E h => h.1) (fun cdv A outer s H vs Q E hr h => ⟨_, (pss_one (ps_ret (pe_ix ix_seq (pe_dG (by exact d_counts_along) (by rfl) (by exact hr) (by decide) (by rfl) (pa_cons (pe_callB cr_sortedI (by rfl) m_sorted (by decide +kernel) (pa_cons (pv 0) pa_nil)) pa_nil) (by decide) (by rfl) (by rfl)) (pe_un un_neg pe_int) (fun _ _ => rfl)))), ?_⟩)
  exact body_ok (N := N_ways_of_all) (n := 1) (k := 0) (fix := []) (F := F_ways_of_all) rfl (by decide) (ss_ret (se_op ro_ix (se_call (n := 1) (m := m_counts_along) (sa_cons (se_cbL rcl_sorted (sa_cons se_var sa_nil)) sa_nil)) (se_neg se_int))) h

abbrev s_ways_of_workers : Stmt := topS 29
abbrev N_ways_of_workers : List Str := ["team", "workers", "worker"]
theorem sc_ways_of_workers : FnScope N_ways_of_workers ["team", "workers"] (defScope s_ways_of_workers) := ⟨rfl, rfl, rfl, by decide +kernel, rfl, by decide +kernel, by decide +kernel⟩
def F_ways_of_workers : En → Option Out := (sSeq (sExpr (eCall 1 m_check_team (aCons (eVar 0) aNil)))
    (sSeq (sExpr (eCall 2 m_check_workers (aCons (eVar 0) (aCons (eVar 1) aNil))))
    (sRet (eCall 1 m_ways_of_all (aCons (eLc [2] (iSeq (eVar 1)) (tgName 2) bYes (eOp dIx (eVar 0) (eVar 2))) aNil)))))
def m_ways_of_workers : En → Option Res := bodyM [] 2 1 F_ways_of_workers
set_option maxHeartbeats 4000000 in
theorem ok_ways_of_workers {f : Addr} {fd : FuncData} (F : Fun K "ways_of_workers" "ways_of_workers" s_ways_of_workers f fd) (d_check_team : DefG P w K mg base "check_team" ["team"] 3 m_check_team) (d_check_workers : DefG P w K mg base "check_workers" ["team", "workers"] 4 m_check_workers) (d_ways_of_all : DefG P w K mg base "ways_of_all" ["levels"] 3 m_ways_of_all) : FnG P w K mg base CX0 5 f fd ["team", "workers"] (SpM K 2 m_ways_of_workers) := by
  have sc := sc_ways_of_workers
  refine funG F sc_ways_of_workers (fun vs H Q E h => h.1) (fun cdv A outer s H vs Q E hr h => ⟨_, (pss_cons (ps_expr (pe_dG (by exact d_check_team) (by rfl) (by exact hr) (by decide) (by rfl) (pa_cons (pv 0) pa_nil) (by decide) (by rfl) (by rfl))) (pss_cons (ps_expr (pe_dG (by exact d_check_workers) (by rfl) (by exact hr) (by decide) (by rfl) (pa_cons (pv 0) (pa_cons (pv 1) pa_nil)) (by decide) (by rfl) (by rfl))) (pss_one (ps_ret (pe_dG (by exact d_ways_of_all) (by rfl) (by exact hr) (by decide) (by rfl) (pa_cons (pe_lc (own := [("worker", 2)]) (g := (gName 2)) (tt := tYes) (te := (tOp (rIx K) (tVar 0) (tVar 2))) rfl sc.nd (pi_list (pv 1)) (blkOk_by (N := N_ways_of_workers) (sc := defScope s_ways_of_workers) (by decide +kernel)) (fun _ _ _ _ _ => by exact (pg_name (i := 2) sc.nd rfl (by first | exact Or.inl rfl | exact Or.inr rfl))) (fun _ _ _ _ _ => by exact pts_nil) (fun _ _ _ _ _ => by exact (pe_ix ix_seq (pv 0) (pv 2) (fun _ _ => rfl)))) pa_nil) (by decide) (by rfl) (by rfl)))))), ?_⟩)
  exact body_ok (N := N_ways_of_workers) (n := 2) (k := 1) (fix := []) (F := F_ways_of_workers) rfl (by decide) (ss_seq (ss_expr (se_call (n := 1) (m := m_check_team) (sa_cons se_var sa_nil))) (ss_seq (ss_expr (se_call (n := 2) (m := m_check_workers) (sa_cons se_var (sa_cons se_var sa_nil)))) (ss_ret (se_call (n := 1) (m := m_ways_of_all) (sa_cons (se_lc (si_list se_var) (sg_name (by decide)) (by decide) st_yes (se_op ro_ix se_var se_var)) sa_nil))))) h

abbrev s_can_work : Stmt := topS 25
abbrev N_can_work : List Str := ["team", "workers"]
theorem sc_can_work : FnScope N_can_work ["team", "workers"] (defScope s_can_work) := ⟨rfl, rfl, rfl, by decide +kernel, rfl, by decide +kernel, by decide +kernel⟩
def F_can_work : En → Option Out := (sRet (eOp dGt (eCall 2 m_ways_of_workers (aCons (eVar 0) (aCons (eVar 1) aNil))) (eC (.int 0))))
def m_can_work : En → Option Res := bodyM [] 2 0 F_can_work
set_option maxHeartbeats 4000000 in
theorem ok_can_work {f : Addr} {fd : FuncData} (F : Fun K "can_work" "can_work" s_can_work f fd) (d_ways_of_workers : DefG P w K mg base "ways_of_workers" ["team", "workers"] 5 m_ways_of_workers) : FnG P w K mg base CX0 6 f fd ["team", "workers"] (SpM K 2 m_can_work) := by
  have sc := sc_can_work
  refine funG F sc_can_work (fun vs H Q E h => h.1) (fun cdv A outer s H vs Q E hr h => ⟨_, (pss_one (ps_ret (pe_cmpR op_gt (pe_dG (by exact d_ways_of_workers) (by rfl) (by exact hr) (by decide) (by rfl) (pa_cons (pv 0) (pa_cons (pv 1) pa_nil)) (by decide) (by rfl) (by rfl)) pe_int (nomark _)))), ?_⟩)
  exact body_ok (N := N_can_work) (n := 2) (k := 0) (fix := []) (F := F_can_work) rfl (by decide) (ss_ret (se_op ro_gt (se_call (n := 2) (m := m_ways_of_workers) (sa_cons se_var (sa_cons se_var sa_nil))) se_int)) h

abbrev s_ways_of_jobs : Stmt := topS 34
abbrev N_ways_of_jobs : List Str := ["team", "jobs", "job"]
theorem sc_ways_of_jobs : FnScope N_ways_of_jobs ["team", "jobs"] (defScope s_ways_of_jobs) := ⟨rfl, rfl, rfl, by decide +kernel, rfl, by decide +kernel, by decide +kernel⟩
def F_ways_of_jobs : En → Option Out := (sSeq (sExpr (eCall 1 m_check_team (aCons (eVar 0) aNil)))
    (sSeq (sExpr (eCall 1 m_check_jobs (aCons (eVar 1) aNil)))
    (sRet (eCall 1 m_ways_of_all (aCons (eLc [2] (iSeq (eVar 1)) (tgName 2) bYes (eCall 2 m_count_above (aCons (eVar 0) (aCons (eVar 2) aNil)))) aNil)))))
def m_ways_of_jobs : En → Option Res := bodyM [] 2 1 F_ways_of_jobs
set_option maxHeartbeats 4000000 in
theorem ok_ways_of_jobs {f : Addr} {fd : FuncData} (F : Fun K "ways_of_jobs" "ways_of_jobs" s_ways_of_jobs f fd) (d_check_team : DefG P w K mg base "check_team" ["team"] 3 m_check_team) (d_check_jobs : DefG P w K mg base "check_jobs" ["jobs"] 4 m_check_jobs) (d_count_above : DefG P w K mg base "count_above" ["team", "bound"] 1 m_count_above) (d_ways_of_all : DefG P w K mg base "ways_of_all" ["levels"] 3 m_ways_of_all) : FnG P w K mg base CX0 5 f fd ["team", "jobs"] (SpM K 2 m_ways_of_jobs) := by
  have sc := sc_ways_of_jobs
  refine funG F sc_ways_of_jobs (fun vs H Q E h => h.1) (fun cdv A outer s H vs Q E hr h => ⟨_, (pss_cons (ps_expr (pe_dG (by exact d_check_team) (by rfl) (by exact hr) (by decide) (by rfl) (pa_cons (pv 0) pa_nil) (by decide) (by rfl) (by rfl))) (pss_cons (ps_expr (pe_dG (by exact d_check_jobs) (by rfl) (by exact hr) (by decide) (by rfl) (pa_cons (pv 1) pa_nil) (by decide) (by rfl) (by rfl))) (pss_one (ps_ret (pe_dG (by exact d_ways_of_all) (by rfl) (by exact hr) (by decide) (by rfl) (pa_cons (pe_lc (own := [("job", 2)]) (g := (gName 2)) (tt := tYes) (te := (tCall (SpM K 2 m_count_above) [] E0 (tCons (tVar 0) (tCons (tVar 2) tNil)))) rfl sc.nd (pi_list (pv 1)) (blkOk_by (N := N_ways_of_jobs) (sc := defScope s_ways_of_jobs) (by decide +kernel)) (fun _ _ _ _ _ => by exact (pg_name (i := 2) sc.nd rfl (by first | exact Or.inl rfl | exact Or.inr rfl))) (fun _ _ _ _ _ => by exact pts_nil) (fun _ _ _ _ _ => by exact (pe_dG (by exact d_count_above) (by rfl) (by exact hr) (by decide) (by rfl) (pa_cons (pv 0) (pa_cons (pv 2) pa_nil)) (by decide) (by rfl) (by rfl)))) pa_nil) (by decide) (by rfl) (by rfl)))))), ?_⟩)
  exact body_ok (N := N_ways_of_jobs) (n := 2) (k := 1) (fix := []) (F := F_ways_of_jobs) rfl (by decide) (ss_seq (ss_expr (se_call (n := 1) (m := m_check_team) (sa_cons se_var sa_nil))) (ss_seq (ss_expr (se_call (n := 1) (m := m_check_jobs) (sa_cons se_var sa_nil))) (ss_ret (se_call (n := 1) (m := m_ways_of_all) (sa_cons (se_lc (si_list se_var) (sg_name (by decide)) (by decide) st_yes (se_call (n := 2) (m := m_count_above) (sa_cons se_var (sa_cons se_var sa_nil)))) sa_nil))))) h

abbrev s_can_give : Stmt := topS 30
abbrev N_can_give : List Str := ["team", "jobs"]
theorem sc_can_give : FnScope N_can_give ["team", "jobs"] (defScope s_can_give) := ⟨rfl, rfl, rfl, by decide +kernel, rfl, by decide +kernel, by decide +kernel⟩
def F_can_give : En → Option Out := (sRet (eOp dGt (eCall 2 m_ways_of_jobs (aCons (eVar 0) (aCons (eVar 1) aNil))) (eC (.int 0))))
def m_can_give : En → Option Res := bodyM [] 2 0 F_can_give
set_option maxHeartbeats 4000000 in
theorem ok_can_give {f : Addr} {fd : FuncData} (F : Fun K "can_give" "can_give" s_can_give f fd) (d_ways_of_jobs : DefG P w K mg base "ways_of_jobs" ["team", "jobs"] 5 m_ways_of_jobs) : FnG P w K mg base CX0 6 f fd ["team", "jobs"] (SpM K 2 m_can_give) := by
  have sc := sc_can_give
  refine funG F sc_can_give (fun vs H Q E h => h.1) (fun cdv A outer s H vs Q E hr h => ⟨_, (pss_one (ps_ret (pe_cmpR op_gt (pe_dG (by exact d_ways_of_jobs) (by rfl) (by exact hr) (by decide) (by rfl) (pa_cons (pv 0) (pa_cons (pv 1) pa_nil)) (by decide) (by rfl) (by rfl)) pe_int (nomark _)))), ?_⟩)
  exact body_ok (N := N_can_give) (n := 2) (k := 0) (fix := []) (F := F_can_give) rfl (by decide) (ss_ret (se_op ro_gt (se_call (n := 2) (m := m_ways_of_jobs) (sa_cons se_var (sa_cons se_var sa_nil))) se_int)) h

abbrev s_shows_work_paper : Stmt := topS 28
abbrev N_shows_work_paper : List Str := ["team", "workers", "thing"]
theorem sc_shows_work_paper : FnScope N_shows_work_paper ["team", "workers", "thing"] (defScope s_shows_work_paper) := ⟨rfl, rfl, rfl, by decide +kernel, rfl, by decide +kernel, by decide +kernel⟩
def F_shows_work_paper : En → Option Out := (sSeq (sExpr (eCall 1 m_check_team (aCons (eVar 0) aNil)))
    (sSeq (sExpr (eCall 2 m_check_workers (aCons (eVar 0) (aCons (eVar 1) aNil))))
    (sRet (eAnd (eCall 1 m_is_whole (aCons (eVar 2) aNil)) (eAnd (eOp dGe (eVar 2) (eC (.int 0))) (eCall 3 m_bars_workers (aCons (eVar 0) (aCons (eVar 1) (aCons (eVar 2) aNil)))))))))
def m_shows_work_paper : En → Option Res := bodyM [] 3 0 F_shows_work_paper
set_option maxHeartbeats 4000000 in
theorem ok_shows_work_paper {f : Addr} {fd : FuncData} (F : Fun K "shows_work_paper" "shows_work_paper" s_shows_work_paper f fd) (d_check_team : DefG P w K mg base "check_team" ["team"] 3 m_check_team) (d_check_workers : DefG P w K mg base "check_workers" ["team", "workers"] 4 m_check_workers) (d_is_whole : DefG P w K mg base "is_whole" ["thing"] 1 m_is_whole) (d_bars_workers : DefG P w K mg base "bars_workers" ["team", "workers", "bound"] 1 m_bars_workers) : FnG P w K mg base CX0 5 f fd ["team", "workers", "thing"] (SpM K 3 m_shows_work_paper) := by
  have sc := sc_shows_work_paper
  refine funG F sc_shows_work_paper (fun vs H Q E h => h.1) (fun cdv A outer s H vs Q E hr h => ⟨_, (pss_cons (ps_expr (pe_dG (by exact d_check_team) (by rfl) (by exact hr) (by decide) (by rfl) (pa_cons (pv 0) pa_nil) (by decide) (by rfl) (by rfl))) (pss_cons (ps_expr (pe_dG (by exact d_check_workers) (by rfl) (by exact hr) (by decide) (by rfl) (pa_cons (pv 0) (pa_cons (pv 1) pa_nil)) (by decide) (by rfl) (by rfl))) (pss_one (ps_ret (pe_and (pe_dG (by exact d_is_whole) (by rfl) (by exact hr) (by decide) (by rfl) (pa_cons (pv 2) pa_nil) (by decide) (by rfl) (by rfl)) (pe_and (pe_cmpR op_ge (pv 2) pe_int (nomark _)) (pe_one (pe_dG (by exact d_bars_workers) (by rfl) (by exact hr) (by decide) (by rfl) (pa_cons (pv 0) (pa_cons (pv 1) (pa_cons (pv 2) pa_nil))) (by decide) (by rfl) (by rfl))))))))), ?_⟩)
  exact body_ok (N := N_shows_work_paper) (n := 3) (k := 0) (fix := []) (F := F_shows_work_paper) rfl (by decide) (ss_seq (ss_expr (se_call (n := 1) (m := m_check_team) (sa_cons se_var sa_nil))) (ss_seq (ss_expr (se_call (n := 2) (m := m_check_workers) (sa_cons se_var (sa_cons se_var sa_nil)))) (ss_ret (se_and (se_call (n := 1) (m := m_is_whole) (sa_cons se_var sa_nil)) (se_and (se_op ro_ge se_var se_int) (se_call (n := 3) (m := m_bars_workers) (sa_cons se_var (sa_cons se_var (sa_cons se_var sa_nil))))))))) h

abbrev s_law_right : Stmt := topS 45
abbrev N_law_right : List Str := ["store", "deal", "gang", "goods", "kept", "some", "first", "due", "lots", "bad"]
theorem sc_law_right : FnScope N_law_right ["store", "deal", "gang", "goods"] (defScope s_law_right) := ⟨rfl, rfl, rfl, by decide +kernel, rfl, by decide +kernel, by decide +kernel⟩
def F_law_right : En → Option Out := (sSeq (sSet 4 (eCB bReprD (aCons (eLst (aCons (eVar 1) (aCons (eVar 2) (aCons (eVar 3) aNil)))) aNil)))
    (sSeq (sSet 5 (eLc [6] (iR1 (aCons (eC (.int 70)) aNil)) (tgName 6) (bTest (eCall 3 m_law_crowd (aCons (eVar 1) (aCons (eVar 2) (aCons (eVar 6) aNil))))) (eVar 6)))
    (sSeq (sSet 7 (eIf (bTest (eOp dNe (eVar 5) (eLst aNil))) (eOp dIx (eVar 5) (eC (.int 0))) (eC .non)))
    (sSeq (sIf (bTest (eOp dNeS (eCB bReprD (aCons (eLst (aCons (eCall 2 m_work_paper (aPerm [0, 1] (aCons (eVar 1) (aCons (eVar 2) aNil)))) (aCons (eCall 2 m_can_work (aCons (eVar 1) (aCons (eVar 2) aNil))) aNil))) aNil)) (eCB bReprD (aCons (eLst (aCons (eVar 7) (aCons (eOp dIsN (eVar 7) (eC .non)) aNil))) aNil))))
    (sRet (eC (.bl false)))
    sNext)
    (sSeq (sSet 8 (eLc [6] (iR1 (aCons (eC (.int 70)) aNil)) (tgName 6) (bTest (eCall 3 m_law_lack (aCons (eVar 1) (aCons (eVar 3) (aCons (eVar 6) aNil))))) (eVar 6)))
    (sSeq (sSet 7 (eIf (bTest (eOp dNe (eVar 8) (eLst aNil))) (eOp dIx (eVar 8) (eC (.int 0))) (eC .non)))
    (sSeq (sIf (bTest (eOp dNeS (eCB bReprD (aCons (eLst (aCons (eCall 2 m_give_paper (aPerm [0, 1] (aCons (eVar 1) (aCons (eVar 3) aNil)))) (aCons (eCall 2 m_can_give (aCons (eVar 1) (aCons (eVar 3) aNil))) aNil))) aNil)) (eCB bReprD (aCons (eLst (aCons (eVar 7) (aCons (eOp dIsN (eVar 7) (eC .non)) aNil))) aNil))))
    (sRet (eC (.bl false)))
    sNext)
    (sSeq (sFor (iSeq (eOpL dCat (eLr1 (eC (.int 63))) (eLst (aCons (eOp dPow (eC (.int 10)) (eC (.int 30))) (aCons (eOp dAdd (eC (.int 100)) (eCall1 2 m_law_pick (aCons (eVar 0) (aCons (eOp dPow (eC (.int 10)) (eC (.int 9))) aNil)))) aNil))))) (tgName 6)
    (sSeq (sIf (bTest (eOp dNeS (eCB bReprD (aCons (eCall 3 m_shows_work_paper (aPerm [0, 1, 2] (aCons (eVar 1) (aCons (eVar 2) (aCons (eVar 6) aNil))))) aNil)) (eCB bReprD (aCons (eOp (dIn false) (eVar 6) (eVar 5)) aNil))))
    (sRet (eC (.bl false)))
    sNext)
    (sIf (bTest (eOp dNeS (eCB bReprD (aCons (eCall 3 m_shows_give_paper (aPerm [0, 1, 2] (aCons (eVar 1) (aCons (eVar 3) (aCons (eVar 6) aNil))))) aNil)) (eCB bReprD (aCons (eOp (dIn false) (eVar 6) (eVar 8)) aNil))))
    (sRet (eC (.bl false)))
    sNext)))
    (sSeq (sFor (iSeq (eCall 0 m_law_things aNil)) (tgName 9)
    (sIf (bTest (eOp dNeS (eCB bReprD (aCons (eLst (aCons (eCall 3 m_shows_work_paper (aCons (eVar 1) (aCons (eVar 2) (aCons (eVar 9) aNil)))) (aCons (eCall 3 m_shows_give_paper (aCons (eVar 1) (aCons (eVar 3) (aCons (eVar 9) aNil)))) aNil))) aNil)) (eC (.str "[False, False]"))))
    (sRet (eC (.bl false)))
    sNext))
    (sRet (eOp dEqS (eCB bReprD (aCons (eLst (aCons (eVar 1) (aCons (eVar 2) (aCons (eVar 3) aNil)))) aNil)) (eVar 4))))))))))))
def m_law_right : En → Option Res := bodyM [0] 4 6 F_law_right
set_option maxHeartbeats 4000000 in
theorem ok_law_right {f : Addr} {fd : FuncData} (F : Fun K "_law_right" "_law_right" s_law_right f fd) (m_repr : mg "repr" = none) (m_range : mg "range" = none) (m_list : mg "list" = none) (d_law_crowd : DefG P w K mg base "_law_crowd" ["deal", "gang", "first"] 1 m_law_crowd) (d_can_work : DefG P w K mg base "can_work" ["team", "workers"] 6 m_can_work) (d_law_lack : DefG P w K mg base "_law_lack" ["deal", "goods", "first"] 1 m_law_lack) (d_can_give : DefG P w K mg base "can_give" ["team", "jobs"] 6 m_can_give) (d_law_pick : DefG P w K mg base "_law_pick" ["store", "bound"] 1 m_law_pick) (d_law_things : DefG P w K mg base "_law_things" [] 1 m_law_things) (d_shows_give_paper : DefG P w K mg base "shows_give_paper" ["team", "jobs", "thing"] 5 m_shows_give_paper) (d_shows_work_paper : DefG P w K mg base "shows_work_paper" ["team", "workers", "thing"] 5 m_shows_work_paper) (dk_work_paper_team_workers : DefGK P w K mg base "work_paper" ["team", "workers"] 5 m_work_paper ["team", "workers"] [0, 1]) (dk_give_paper_team_jobs : DefGK P w K mg base "give_paper" ["team", "jobs"] 5 m_give_paper ["team", "jobs"] [0, 1]) (dk_shows_work_paper_team_workers_thing : DefGK P w K mg base "shows_work_paper" ["team", "workers", "thing"] 5 m_shows_work_paper ["team", "workers", "thing"] [0, 1, 2]) (dk_shows_give_paper_team_jobs_thing : DefGK P w K mg base "shows_give_paper" ["team", "jobs", "thing"] 5 m_shows_give_paper ["team", "jobs", "thing"] [0, 1, 2]) : FnG P w K mg base CX0 7 f fd ["store", "deal", "gang", "goods"] (SpM K 4 m_law_right) := by
  have sc := sc_law_right
  refine funG F sc_law_right (fun vs H Q E h => h.1) (fun cdv A outer s H vs Q E hr h => ⟨_, (pss_cons (ps_set (i := 4) sc.nd rfl (by first | exact .inl rfl | exact .inr rfl) (pe_callB (call_reprD hr.gd hr.units) (by rfl) m_repr (by decide +kernel) (pa_cons (pe_lst (pa_cons (pv 1) (pa_cons (pv 2) (pa_cons (pv 3) pa_nil)))) pa_nil))) (pss_cons (by first | exact (ps_setLc (i := 5) (own := [("first", 6)]) (g := (gName 6)) (tt := (tB (tCall (SpM K 3 m_law_crowd) [] E0 (tCons (tVar 1) (tCons (tVar 2) (tCons (tVar 6) tNil)))))) (te := (tVar 6)) rfl sc.nd rfl rfl (sw_true rfl rfl rfl (by decide +kernel)) (pi_range1 (by rfl) m_range (pa_cons pe_int pa_nil)) (blkOk_by (N := N_law_right) (sc := defScope s_law_right) (by decide +kernel)) (fun _ _ _ _ _ => by exact (pg_name (i := 6) sc.nd rfl (by first | exact Or.inl rfl | exact Or.inr rfl))) (fun _ _ _ _ _ => by exact (pts_one (pt_val (pe_dG (by exact d_law_crowd) (by rfl) (by exact hr) (by decide) (by rfl) (pa_cons (pv 1) (pa_cons (pv 2) (pa_cons (pv 6) pa_nil))) (by decide) (by rfl) (by rfl))))) (fun _ _ _ _ _ => by exact (pv 6))) | exact (ps_set (i := 5) sc.nd rfl (by first | exact .inl rfl | exact .inr rfl) (pe_lc (own := [("first", 6)]) (g := (gName 6)) (tt := (tB (tCall (SpM K 3 m_law_crowd) [] E0 (tCons (tVar 1) (tCons (tVar 2) (tCons (tVar 6) tNil)))))) (te := (tVar 6)) rfl sc.nd (pi_range1 (by rfl) m_range (pa_cons pe_int pa_nil)) (blkOk_by (N := N_law_right) (sc := defScope s_law_right) (by decide +kernel)) (fun _ _ _ _ _ => by exact (pg_name (i := 6) sc.nd rfl (by first | exact Or.inl rfl | exact Or.inr rfl))) (fun _ _ _ _ _ => by exact (pts_one (pt_val (pe_dG (by exact d_law_crowd) (by rfl) (by exact hr) (by decide) (by rfl) (pa_cons (pv 1) (pa_cons (pv 2) (pa_cons (pv 6) pa_nil))) (by decide) (by rfl) (by rfl))))) (fun _ _ _ _ _ => by exact (pv 6))))) (pss_cons (ps_set (i := 7) sc.nd rfl (by first | exact .inl rfl | exact .inr rfl) (pe_ifExp (pt_cmpR (op_neD hr.units) (pv 5) (pe_lst pa_nil) (nomark _)) (pe_ix ix_seq (pv 5) pe_int (fun _ _ => rfl)) pe_non)) (pss_cons (ps_if (pt_cmpR op_ne (pe_callB (call_reprD hr.gd hr.units) (by rfl) m_repr (by decide +kernel) (pa_cons (pe_lst (pa_cons (pe_dGK (by exact dk_work_paper_team_workers) (by rfl) (by exact hr) (by decide) (by rfl) (pk_cons (pv 1) (pk_cons (pv 2) pk_nil)) (by decide)) (pa_cons (pe_dG (by exact d_can_work) (by rfl) (by exact hr) (by decide) (by rfl) (pa_cons (pv 1) (pa_cons (pv 2) pa_nil)) (by decide) (by rfl) (by rfl)) pa_nil))) pa_nil)) (pe_callB (call_reprD hr.gd hr.units) (by rfl) m_repr (by decide +kernel) (pa_cons (pe_lst (pa_cons (pv 7) (pa_cons (pe_cmpR op_isN (pv 7) pe_non (nomark _)) pa_nil))) pa_nil)) (nomark _)) (pss_one (ps_ret pe_bl)) pss_nil) (pss_cons (by first | exact (ps_setLc (i := 8) (own := [("first", 6)]) (g := (gName 6)) (tt := (tB (tCall (SpM K 3 m_law_lack) [] E0 (tCons (tVar 1) (tCons (tVar 3) (tCons (tVar 6) tNil)))))) (te := (tVar 6)) rfl sc.nd rfl rfl (sw_true rfl rfl rfl (by decide +kernel)) (pi_range1 (by rfl) m_range (pa_cons pe_int pa_nil)) (blkOk_by (N := N_law_right) (sc := defScope s_law_right) (by decide +kernel)) (fun _ _ _ _ _ => by exact (pg_name (i := 6) sc.nd rfl (by first | exact Or.inl rfl | exact Or.inr rfl))) (fun _ _ _ _ _ => by exact (pts_one (pt_val (pe_dG (by exact d_law_lack) (by rfl) (by exact hr) (by decide) (by rfl) (pa_cons (pv 1) (pa_cons (pv 3) (pa_cons (pv 6) pa_nil))) (by decide) (by rfl) (by rfl))))) (fun _ _ _ _ _ => by exact (pv 6))) | exact (ps_set (i := 8) sc.nd rfl (by first | exact .inl rfl | exact .inr rfl) (pe_lc (own := [("first", 6)]) (g := (gName 6)) (tt := (tB (tCall (SpM K 3 m_law_lack) [] E0 (tCons (tVar 1) (tCons (tVar 3) (tCons (tVar 6) tNil)))))) (te := (tVar 6)) rfl sc.nd (pi_range1 (by rfl) m_range (pa_cons pe_int pa_nil)) (blkOk_by (N := N_law_right) (sc := defScope s_law_right) (by decide +kernel)) (fun _ _ _ _ _ => by exact (pg_name (i := 6) sc.nd rfl (by first | exact Or.inl rfl | exact Or.inr rfl))) (fun _ _ _ _ _ => by exact (pts_one (pt_val (pe_dG (by exact d_law_lack) (by rfl) (by exact hr) (by decide) (by rfl) (pa_cons (pv 1) (pa_cons (pv 3) (pa_cons (pv 6) pa_nil))) (by decide) (by rfl) (by rfl))))) (fun _ _ _ _ _ => by exact (pv 6))))) (pss_cons (ps_set (i := 7) sc.nd rfl (by first | exact .inl rfl | exact .inr rfl) (pe_ifExp (pt_cmpR (op_neD hr.units) (pv 8) (pe_lst pa_nil) (nomark _)) (pe_ix ix_seq (pv 8) pe_int (fun _ _ => rfl)) pe_non)) (pss_cons (ps_if (pt_cmpR op_ne (pe_callB (call_reprD hr.gd hr.units) (by rfl) m_repr (by decide +kernel) (pa_cons (pe_lst (pa_cons (pe_dGK (by exact dk_give_paper_team_jobs) (by rfl) (by exact hr) (by decide) (by rfl) (pk_cons (pv 1) (pk_cons (pv 3) pk_nil)) (by decide)) (pa_cons (pe_dG (by exact d_can_give) (by rfl) (by exact hr) (by decide) (by rfl) (pa_cons (pv 1) (pa_cons (pv 3) pa_nil)) (by decide) (by rfl) (by rfl)) pa_nil))) pa_nil)) (pe_callB (call_reprD hr.gd hr.units) (by rfl) m_repr (by decide +kernel) (pa_cons (pe_lst (pa_cons (pv 7) (pa_cons (pe_cmpR op_isN (pv 7) pe_non (nomark _)) pa_nil))) pa_nil)) (nomark _)) (pss_one (ps_ret pe_bl)) pss_nil) (pss_cons (ps_for PassesOwn.never rfl (pi_list (pe_op op_cat (pe_listRg rfl (by rfl) m_list (prg_1 (by rfl) m_range pe_int)) (pe_lst (pa_cons (pe_op op_powA pe_int pe_int) (pa_cons (pe_op op_add pe_int (pe_dG (by exact d_law_pick) (by rfl) (by exact hr) (by decide) (by rfl) (pa_cons (pv 0) (pa_cons (pe_op op_powA pe_int pe_int) pa_nil)) (by decide) (by rfl) (by rfl))) pa_nil))))) (pg_name (i := 6) sc.nd rfl (by first | exact .inl rfl | exact .inr rfl)) (pss_cons (ps_if (pt_cmpR op_ne (pe_callB (call_reprD hr.gd hr.units) (by rfl) m_repr (by decide +kernel) (pa_cons (pe_dGK (by exact dk_shows_work_paper_team_workers_thing) (by rfl) (by exact hr) (by decide) (by rfl) (pk_cons (pv 1) (pk_cons (pv 2) (pk_cons (pv 6) pk_nil))) (by decide)) pa_nil)) (pe_callB (call_reprD hr.gd hr.units) (by rfl) m_repr (by decide +kernel) (pa_cons (pe_cmpR op_in_seq (pv 6) (pv 5) (by rfl)) pa_nil)) (nomark _)) (pss_one (ps_ret pe_bl)) pss_nil) (pss_one (ps_if (pt_cmpR op_ne (pe_callB (call_reprD hr.gd hr.units) (by rfl) m_repr (by decide +kernel) (pa_cons (pe_dGK (by exact dk_shows_give_paper_team_jobs_thing) (by rfl) (by exact hr) (by decide) (by rfl) (pk_cons (pv 1) (pk_cons (pv 3) (pk_cons (pv 6) pk_nil))) (by decide)) pa_nil)) (pe_callB (call_reprD hr.gd hr.units) (by rfl) m_repr (by decide +kernel) (pa_cons (pe_cmpR op_in_seq (pv 6) (pv 8) (by rfl)) pa_nil)) (nomark _)) (pss_one (ps_ret pe_bl)) pss_nil)))) (pss_cons (ps_for PassesOwn.never rfl (pi_list (pe_dG0 (by exact d_law_things) (by exact hr) (by decide) (by rfl))) (pg_name (i := 9) sc.nd rfl (by first | exact .inl rfl | exact .inr rfl)) (pss_one (ps_if (pt_cmpR op_ne (pe_callB (call_reprD hr.gd hr.units) (by rfl) m_repr (by decide +kernel) (pa_cons (pe_lst (pa_cons (pe_dG (by exact d_shows_work_paper) (by rfl) (by exact hr) (by decide) (by rfl) (pa_cons (pv 1) (pa_cons (pv 2) (pa_cons (pv 9) pa_nil))) (by decide) (by rfl) (by rfl)) (pa_cons (pe_dG (by exact d_shows_give_paper) (by rfl) (by exact hr) (by decide) (by rfl) (pa_cons (pv 1) (pa_cons (pv 3) (pa_cons (pv 9) pa_nil))) (by decide) (by rfl) (by rfl)) pa_nil))) pa_nil)) pe_str (nomark _)) (pss_one (ps_ret pe_bl)) pss_nil))) (pss_one (ps_ret (pe_cmpR op_eq (pe_callB (call_reprD hr.gd hr.units) (by rfl) m_repr (by decide +kernel) (pa_cons (pe_lst (pa_cons (pv 1) (pa_cons (pv 2) (pa_cons (pv 3) pa_nil)))) pa_nil)) (pv 4) (nomark _))))))))))))), ?_⟩)
  exact body_ok (N := N_law_right) (n := 4) (k := 6) (fix := [0]) (F := F_law_right) rfl (by decide) (ss_seq (ss_set (se_cb rc_reprD (sa_cons (se_lst (sa_cons se_var (sa_cons se_var (sa_cons se_var sa_nil)))) sa_nil)) (by decide)) (ss_seq (ss_set (se_lc (si_r1 (sa_cons se_int sa_nil)) (sg_name (by decide)) (by decide) (st_B (se_call (n := 3) (m := m_law_crowd) (sa_cons se_var (sa_cons se_var (sa_cons se_var sa_nil))))) se_var) (by decide)) (ss_seq (ss_set (se_if (st_test (se_op ro_ne se_var (se_lst sa_nil))) (se_op ro_ix se_var se_int) se_non) (by decide)) (ss_seq (ss_if (st_test (se_op ro_neS (se_cb rc_reprD (sa_cons (se_lst (sa_cons (se_call (n := 2) (m := m_work_paper) (sa_perm (js := [0, 1]) (sa_cons se_var (sa_cons se_var sa_nil)))) (sa_cons (se_call (n := 2) (m := m_can_work) (sa_cons se_var (sa_cons se_var sa_nil))) sa_nil))) sa_nil)) (se_cb rc_reprD (sa_cons (se_lst (sa_cons se_var (sa_cons (se_op ro_isN se_var se_non) sa_nil))) sa_nil)))) (ss_ret se_bl) ss_next) (ss_seq (ss_set (se_lc (si_r1 (sa_cons se_int sa_nil)) (sg_name (by decide)) (by decide) (st_B (se_call (n := 3) (m := m_law_lack) (sa_cons se_var (sa_cons se_var (sa_cons se_var sa_nil))))) se_var) (by decide)) (ss_seq (ss_set (se_if (st_test (se_op ro_ne se_var (se_lst sa_nil))) (se_op ro_ix se_var se_int) se_non) (by decide)) (ss_seq (ss_if (st_test (se_op ro_neS (se_cb rc_reprD (sa_cons (se_lst (sa_cons (se_call (n := 2) (m := m_give_paper) (sa_perm (js := [0, 1]) (sa_cons se_var (sa_cons se_var sa_nil)))) (sa_cons (se_call (n := 2) (m := m_can_give) (sa_cons se_var (sa_cons se_var sa_nil))) sa_nil))) sa_nil)) (se_cb rc_reprD (sa_cons (se_lst (sa_cons se_var (sa_cons (se_op ro_isN se_var se_non) sa_nil))) sa_nil)))) (ss_ret se_bl) ss_next) (ss_seq (ss_for (si_list (se_opL rol_cat (se_lr1 se_int) (se_lst (sa_cons (se_op ro_pow se_int se_int) (sa_cons (se_op ro_add se_int (se_call1 (n := 2) (m := m_law_pick) (sa_cons se_var (sa_cons (se_op ro_pow se_int se_int) sa_nil)))) sa_nil))))) (sg_name (by decide)) (ss_seq (ss_if (st_test (se_op ro_neS (se_cb rc_reprD (sa_cons (se_call (n := 3) (m := m_shows_work_paper) (sa_perm (js := [0, 1, 2]) (sa_cons se_var (sa_cons se_var (sa_cons se_var sa_nil))))) sa_nil)) (se_cb rc_reprD (sa_cons (se_op ro_in se_var se_var) sa_nil)))) (ss_ret se_bl) ss_next) (ss_if (st_test (se_op ro_neS (se_cb rc_reprD (sa_cons (se_call (n := 3) (m := m_shows_give_paper) (sa_perm (js := [0, 1, 2]) (sa_cons se_var (sa_cons se_var (sa_cons se_var sa_nil))))) sa_nil)) (se_cb rc_reprD (sa_cons (se_op ro_in se_var se_var) sa_nil)))) (ss_ret se_bl) ss_next))) (ss_seq (ss_for (si_list (se_call (n := 0) (m := m_law_things) sa_nil)) (sg_name (by decide)) (ss_if (st_test (se_op ro_neS (se_cb rc_reprD (sa_cons (se_lst (sa_cons (se_call (n := 3) (m := m_shows_work_paper) (sa_cons se_var (sa_cons se_var (sa_cons se_var sa_nil)))) (sa_cons (se_call (n := 3) (m := m_shows_give_paper) (sa_cons se_var (sa_cons se_var (sa_cons se_var sa_nil)))) sa_nil))) sa_nil)) se_str)) (ss_ret se_bl) ss_next)) (ss_ret (se_op ro_eqS (se_cb rc_reprD (sa_cons (se_lst (sa_cons se_var (sa_cons se_var (sa_cons se_var sa_nil)))) sa_nil)) se_var))))))))))) h

abbrev s_law : Stmt := topS 46
abbrev N_law : List Str := ["script", "k", "store", "deal", "gang", "goods", "told", "great"]
theorem sc_law : FnScope N_law ["script"] (defScope s_law) := ⟨rfl, rfl, rfl, by decide +kernel, rfl, by decide +kernel, by decide +kernel⟩
def F_law : En → Option Out := (sSeq (sFor (iR1 (aCons (eCB bMax2 (aCons (eC (.int 1)) (aCons (eCB bMin2 (aCons (eC (.int 4)) (aCons (eCB bLen (aCons (eVar 0) aNil)) aNil))) aNil))) aNil)) (tgName 1)
    (sSeq (sSet 2 (eCall 2 m_law_store (aCons (eVar 0) (aCons (eVar 1) aNil))))
    (sFor (iSeq (eLst (aCons (eCall1 3 m_law_deal (aCons (eVar 2) (aCons (eC (.int 20)) (aCons (eC (.int 40)) aNil)))) (aCons (eCall1 3 m_law_deal (aCons (eVar 2) (aCons (eC (.int 6)) (aCons (eC (.int 5)) aNil)))) (aCons (eCall1 3 m_law_deal (aCons (eVar 2) (aCons (eC (.int 20)) (aCons (eC (.int 12)) aNil)))) (aCons (eCall1 1 m_law_high (aCons (eVar 2) aNil)) aNil)))))) (tgName 3)
    (sSeq (sSet 4 (eCall1 3 m_law_rising (aCons (eVar 2) (aCons (eCB bLen (aCons (eVar 3) aNil)) (aCons (eC (.int 20)) aNil)))))
    (sSeq (sSet 5 (eCall1 3 m_law_rising (aCons (eVar 2) (aCons (eOp dIx (eLst (aCons (eC (.int 60)) (aCons (eOp dAdd (eCB bMaxL (aCons (eVar 3) aNil)) (eC (.int 1))) (aCons (eC (.int 20)) aNil)))) (eCall1 2 m_law_pick (aCons (eVar 2) (aCons (eC (.int 3)) aNil)))) (aCons (eC (.int 20)) aNil)))))
    (sIf (bNot (bTest (eCall1 4 m_law_right (aCons (eVar 2) (aCons (eVar 3) (aCons (eVar 4) (aCons (eVar 5) aNil)))))))
    (sRet (eC (.bl false)))
    sNext))))))
    (sSeq (sSet 6 (eLst (aCons (eCall 2 m_work_paper (aCons (eLst (aCons (eC (.int 0)) aNil)) (aCons (eLst (aCons (eC (.int 0)) aNil)) aNil))) (aCons (eCall 2 m_work_paper (aCons (eLst (aCons (eC (.int 1)) (aCons (eC (.int 1)) (aCons (eC (.int 3)) aNil)))) (aCons (eLst (aCons (eC (.int 0)) (aCons (eC (.int 1)) (aCons (eC (.int 2)) aNil)))) aNil))) (aCons (eCall 2 m_work_paper (aCons (eLst (aCons (eC (.int 1)) (aCons (eC (.int 1)) aNil))) (aCons (eLst aNil) aNil))) aNil)))))
    (sSeq (sSeq (sFrz 6) (sIf (bOr (bTest (eOp dNe (eVar 6) (eLst (aCons (eC (.int 0)) (aCons (eC (.int 1)) (aCons (eC .non) aNil)))))) (bTest (eOp dNotN (eCall 2 m_work_paper (aCons (eOpL dRep (eLst (aCons (eC (.int 20)) aNil)) (eC (.int 20))) (aCons (eLr1 (eC (.int 20))) aNil))) (eC .non))))
    (sRet (eC (.bl false)))
    sNext))
    (sSeq (sSet 6 (eLst (aCons (eCall 2 m_give_paper (aCons (eLst (aCons (eC (.int 2)) (aCons (eC (.int 1)) (aCons (eC (.int 2)) aNil)))) (aCons (eLst (aCons (eC (.int 0)) (aCons (eC (.int 1)) aNil))) aNil))) (aCons (eCall 2 m_give_paper (aCons (eLst (aCons (eC (.int 2)) (aCons (eC (.int 1)) (aCons (eC (.int 2)) aNil)))) (aCons (eLst (aCons (eC (.int 0)) (aCons (eC (.int 1)) (aCons (eC (.int 2)) aNil)))) aNil))) (aCons (eCall 2 m_give_paper (aCons (eLst (aCons (eC (.int 5)) aNil)) (aCons (eLst (aCons (eC (.int 3)) (aCons (eC (.int 4)) aNil))) aNil))) aNil)))))
    (sSeq (sSeq (sFrz 6) (sIf (bOr (bTest (eOp dNe (eVar 6) (eLst (aCons (eC .non) (aCons (eC (.int 2)) (aCons (eC (.int 0)) aNil)))))) (bTest (eOp dNe (eCall 2 m_give_paper (aCons (eLst (aCons (eC (.int 5)) aNil)) (aCons (eLst (aCons (eC (.int 59)) aNil)) aNil))) (eC (.int 5)))))
    (sRet (eC (.bl false)))
    sNext))
    (sSeq (sIf (bOr (bTest (eOp dNotN (eCall 2 m_give_paper (aCons (eOpL dRep (eLst (aCons (eC (.int 40)) aNil)) (eC (.int 20))) (aCons (eLr2 (eC (.int 20)) (eC (.int 40))) aNil))) (eC .non))) (bTest (eOp dNe (eCall 2 m_give_paper (aCons (eOpL dRep (eLst (aCons (eC (.int 40)) aNil)) (eC (.int 20))) (aCons (eLr2 (eC (.int 21)) (eC (.int 41))) aNil))) (eC (.int 40)))))
    (sRet (eC (.bl false)))
    sNext)
    (sSeq (sSet 7 (eLr2 (eC (.int 40)) (eC (.int 60))))
    (sSeq (sSeq (sFrz 7) (sSet 6 (eLst (aCons (eCall 2 m_give_paper (aCons (eVar 7) (aCons (eLr2 (eC (.int 39)) (eC (.int 59))) aNil))) (aCons (eCall 2 m_give_paper (aCons (eVar 7) (aCons (eLst (aCons (eC (.int 57)) (aCons (eC (.int 58)) (aCons (eC (.int 59)) aNil)))) aNil))) (aCons (eCall 2 m_give_paper (aCons (eVar 7) (aCons (eLst (aCons (eC (.int 59)) aNil)) aNil))) aNil))))))
    (sSeq (sFrz 6) (sRet (eAnd (eOp dEq (eVar 6) (eLst (aCons (eC .non) (aCons (eC (.int 57)) (aCons (eC (.int 59)) aNil))))) (eAnd (eOp dIsN (eCall 2 m_work_paper (aCons (eVar 7) (aCons (eLr1 (eC (.int 20))) aNil))) (eC .non)) (eCall 3 m_shows_give_paper (aCons (eVar 7) (aCons (eLst (aCons (eC (.int 59)) aNil)) (aCons (eC (.int 59)) aNil))))))))))))))))
def m_law : En → Option Res := bodyM [] 1 7 F_law
set_option maxHeartbeats 4000000 in
theorem ok_law {f : Addr} {fd : FuncData} (F : Fun K "law" "law" s_law f fd) (m_len : mg "len" = none) (m_min : mg "min" = none) (m_max : mg "max" = none) (m_range : mg "range" = none) (m_list : mg "list" = none) (d_law_store : DefG P w K mg base "_law_store" ["script", "k"] 1 m_law_store) (d_law_high : DefG P w K mg base "_law_high" ["store"] 2 m_law_high) (d_law_deal : DefG P w K mg base "_law_deal" ["store", "most", "top"] 2 m_law_deal) (d_law_rising : DefG P w K mg base "_law_rising" ["store", "size_here", "most"] 2 m_law_rising) (d_law_pick : DefG P w K mg base "_law_pick" ["store", "bound"] 1 m_law_pick) (d_law_right : DefG P w K mg base "_law_right" ["store", "deal", "gang", "goods"] 7 m_law_right) (d_work_paper : DefG P w K mg base "work_paper" ["team", "workers"] 5 m_work_paper) (d_give_paper : DefG P w K mg base "give_paper" ["team", "jobs"] 5 m_give_paper) (d_shows_give_paper : DefG P w K mg base "shows_give_paper" ["team", "jobs", "thing"] 5 m_shows_give_paper) : FnG P w K mg base CX0 8 f fd ["script"] (SpM K 1 m_law) := by
  have sc := sc_law
  refine funG F sc_law (fun vs H Q E h => h.1) (fun cdv A outer s H vs Q E hr h => ⟨_, (pss_cons (ps_for PassesOwn.never rfl (pi_range1 (by rfl) m_range (pa_cons (pe_callB (call_max2 rfl) (by rfl) m_max (by decide +kernel) (pa_cons pe_int (pa_cons (pe_callB (call_min2 rfl) (by rfl) m_min (by decide +kernel) (pa_cons pe_int (pa_cons (pe_callB call_len_seq (by rfl) m_len PySem.boot_len (pa_cons (pv 0) pa_nil)) pa_nil))) pa_nil))) pa_nil)) (pg_name (i := 1) sc.nd rfl (by first | exact .inl rfl | exact .inr rfl)) (pss_cons (ps_set (i := 2) sc.nd rfl (by first | exact .inl rfl | exact .inr rfl) (pe_dG (by exact d_law_store) (by rfl) (by exact hr) (by decide) (by rfl) (pa_cons (pv 0) (pa_cons (pv 1) pa_nil)) (by decide) (by rfl) (by rfl))) (pss_one (ps_for PassesOwn.never rfl (pi_list (pe_lst (pa_cons (pe_dG (by exact d_law_deal) (by rfl) (by exact hr) (by decide) (by rfl) (pa_cons (pv 2) (pa_cons pe_int (pa_cons pe_int pa_nil))) (by decide) (by rfl) (by rfl)) (pa_cons (pe_dG (by exact d_law_deal) (by rfl) (by exact hr) (by decide) (by rfl) (pa_cons (pv 2) (pa_cons pe_int (pa_cons pe_int pa_nil))) (by decide) (by rfl) (by rfl)) (pa_cons (pe_dG (by exact d_law_deal) (by rfl) (by exact hr) (by decide) (by rfl) (pa_cons (pv 2) (pa_cons pe_int (pa_cons pe_int pa_nil))) (by decide) (by rfl) (by rfl)) (pa_cons (pe_dG (by exact d_law_high) (by rfl) (by exact hr) (by decide) (by rfl) (pa_cons (pv 2) pa_nil) (by decide) (by rfl) (by rfl)) pa_nil)))))) (pg_name (i := 3) sc.nd rfl (by first | exact .inl rfl | exact .inr rfl)) (pss_cons (ps_set (i := 4) sc.nd rfl (by first | exact .inl rfl | exact .inr rfl) (pe_dG (by exact d_law_rising) (by rfl) (by exact hr) (by decide) (by rfl) (pa_cons (pv 2) (pa_cons (pe_callB call_len_seq (by rfl) m_len PySem.boot_len (pa_cons (pv 3) pa_nil)) (pa_cons pe_int pa_nil))) (by decide) (by rfl) (by rfl))) (pss_cons (ps_set (i := 5) sc.nd rfl (by first | exact .inl rfl | exact .inr rfl) (pe_dG (by exact d_law_rising) (by rfl) (by exact hr) (by decide) (by rfl) (pa_cons (pv 2) (pa_cons (pe_ix ix_seq (pe_lst (pa_cons pe_int (pa_cons (pe_op op_add (pe_callB (cr_max rfl) (by rfl) m_max (by decide +kernel) (pa_cons (pv 3) pa_nil)) pe_int) (pa_cons pe_int pa_nil)))) (pe_dG (by exact d_law_pick) (by rfl) (by exact hr) (by decide) (by rfl) (pa_cons (pv 2) (pa_cons pe_int pa_nil)) (by decide) (by rfl) (by rfl)) (fun _ _ => rfl)) (pa_cons pe_int pa_nil))) (by decide) (by rfl) (by rfl))) (pss_one (ps_if (pt_not (pt_val (pe_dG (by exact d_law_right) (by rfl) (by exact hr) (by decide) (by rfl) (pa_cons (pv 2) (pa_cons (pv 3) (pa_cons (pv 4) (pa_cons (pv 5) pa_nil)))) (by decide) (by rfl) (by rfl)))) (pss_one (ps_ret pe_bl)) pss_nil)))))))) (pss_cons (ps_set (i := 6) sc.nd rfl (by first | exact .inl rfl | exact .inr rfl) (pe_lst (pa_cons (pe_dG (by exact d_work_paper) (by rfl) (by exact hr) (by decide) (by rfl) (pa_cons (pe_lst (pa_cons pe_int pa_nil)) (pa_cons (pe_lst (pa_cons pe_int pa_nil)) pa_nil)) (by decide) (by rfl) (by rfl)) (pa_cons (pe_dG (by exact d_work_paper) (by rfl) (by exact hr) (by decide) (by rfl) (pa_cons (pe_lst (pa_cons pe_int (pa_cons pe_int (pa_cons pe_int pa_nil)))) (pa_cons (pe_lst (pa_cons pe_int (pa_cons pe_int (pa_cons pe_int pa_nil)))) pa_nil)) (by decide) (by rfl) (by rfl)) (pa_cons (pe_dG (by exact d_work_paper) (by rfl) (by exact hr) (by decide) (by rfl) (pa_cons (pe_lst (pa_cons pe_int (pa_cons pe_int pa_nil))) (pa_cons (pe_lst pa_nil) pa_nil)) (by decide) (by rfl) (by rfl)) pa_nil))))) (pss_cons (ps_if (PW.pt (pw_or (pt_cmpR (op_neD hr.units) (pv 6) (pe_lst (pa_cons pe_int (pa_cons pe_int (pa_cons pe_non pa_nil)))) (nomark _)) (pw_or1 (pt_cmpR op_notN (pe_dG (by exact d_work_paper) (by rfl) (by exact hr) (by decide) (by rfl) (pa_cons (pe_op op_rep (pe_lst (pa_cons pe_int pa_nil)) pe_int) (pa_cons (pe_listRg rfl (by rfl) m_list (prg_1 (by rfl) m_range pe_int)) pa_nil)) (by decide) (by rfl) (by rfl)) pe_non (nomark _))))) (pss_one (ps_ret pe_bl)) pss_nil) (pss_cons (ps_set (i := 6) sc.nd rfl (by first | exact .inl rfl | exact .inr rfl) (pe_lst (pa_cons (pe_dG (by exact d_give_paper) (by rfl) (by exact hr) (by decide) (by rfl) (pa_cons (pe_lst (pa_cons pe_int (pa_cons pe_int (pa_cons pe_int pa_nil)))) (pa_cons (pe_lst (pa_cons pe_int (pa_cons pe_int pa_nil))) pa_nil)) (by decide) (by rfl) (by rfl)) (pa_cons (pe_dG (by exact d_give_paper) (by rfl) (by exact hr) (by decide) (by rfl) (pa_cons (pe_lst (pa_cons pe_int (pa_cons pe_int (pa_cons pe_int pa_nil)))) (pa_cons (pe_lst (pa_cons pe_int (pa_cons pe_int (pa_cons pe_int pa_nil)))) pa_nil)) (by decide) (by rfl) (by rfl)) (pa_cons (pe_dG (by exact d_give_paper) (by rfl) (by exact hr) (by decide) (by rfl) (pa_cons (pe_lst (pa_cons pe_int pa_nil)) (pa_cons (pe_lst (pa_cons pe_int (pa_cons pe_int pa_nil))) pa_nil)) (by decide) (by rfl) (by rfl)) pa_nil))))) (pss_cons (ps_if (PW.pt (pw_or (pt_cmpR (op_neD hr.units) (pv 6) (pe_lst (pa_cons pe_non (pa_cons pe_int (pa_cons pe_int pa_nil)))) (nomark _)) (pw_or1 (pt_cmpR (op_neD hr.units) (pe_dG (by exact d_give_paper) (by rfl) (by exact hr) (by decide) (by rfl) (pa_cons (pe_lst (pa_cons pe_int pa_nil)) (pa_cons (pe_lst (pa_cons pe_int pa_nil)) pa_nil)) (by decide) (by rfl) (by rfl)) pe_int (nomark _))))) (pss_one (ps_ret pe_bl)) pss_nil) (pss_cons (ps_if (PW.pt (pw_or (pt_cmpR op_notN (pe_dG (by exact d_give_paper) (by rfl) (by exact hr) (by decide) (by rfl) (pa_cons (pe_op op_rep (pe_lst (pa_cons pe_int pa_nil)) pe_int) (pa_cons (pe_listRg rfl (by rfl) m_list (prg_2 (by rfl) m_range pe_int pe_int)) pa_nil)) (by decide) (by rfl) (by rfl)) pe_non (nomark _)) (pw_or1 (pt_cmpR (op_neD hr.units) (pe_dG (by exact d_give_paper) (by rfl) (by exact hr) (by decide) (by rfl) (pa_cons (pe_op op_rep (pe_lst (pa_cons pe_int pa_nil)) pe_int) (pa_cons (pe_listRg rfl (by rfl) m_list (prg_2 (by rfl) m_range pe_int pe_int)) pa_nil)) (by decide) (by rfl) (by rfl)) pe_int (nomark _))))) (pss_one (ps_ret pe_bl)) pss_nil) (pss_cons (ps_set (i := 7) sc.nd rfl (by first | exact .inl rfl | exact .inr rfl) (pe_listRg rfl (by rfl) m_list (prg_2 (by rfl) m_range pe_int pe_int))) (pss_cons (ps_set (i := 6) sc.nd rfl (by first | exact .inl rfl | exact .inr rfl) (pe_lst (pa_cons (pe_dG (by exact d_give_paper) (by rfl) (by exact hr) (by decide) (by rfl) (pa_cons (pv 7) (pa_cons (pe_listRg rfl (by rfl) m_list (prg_2 (by rfl) m_range pe_int pe_int)) pa_nil)) (by decide) (by rfl) (by rfl)) (pa_cons (pe_dG (by exact d_give_paper) (by rfl) (by exact hr) (by decide) (by rfl) (pa_cons (pv 7) (pa_cons (pe_lst (pa_cons pe_int (pa_cons pe_int (pa_cons pe_int pa_nil)))) pa_nil)) (by decide) (by rfl) (by rfl)) (pa_cons (pe_dG (by exact d_give_paper) (by rfl) (by exact hr) (by decide) (by rfl) (pa_cons (pv 7) (pa_cons (pe_lst (pa_cons pe_int pa_nil)) pa_nil)) (by decide) (by rfl) (by rfl)) pa_nil))))) (pss_one (ps_ret (pe_and (pe_cmpR (op_eqD hr.units) (pv 6) (pe_lst (pa_cons pe_non (pa_cons pe_int (pa_cons pe_int pa_nil)))) (nomark _)) (pe_and (pe_cmpR op_isN (pe_dG (by exact d_work_paper) (by rfl) (by exact hr) (by decide) (by rfl) (pa_cons (pv 7) (pa_cons (pe_listRg rfl (by rfl) m_list (prg_1 (by rfl) m_range pe_int)) pa_nil)) (by decide) (by rfl) (by rfl)) pe_non (nomark _)) (pe_one (pe_dG (by exact d_shows_give_paper) (by rfl) (by exact hr) (by decide) (by rfl) (pa_cons (pv 7) (pa_cons (pe_lst (pa_cons pe_int pa_nil)) (pa_cons pe_int pa_nil))) (by decide) (by rfl) (by rfl))))))))))))))), ?_⟩)
  exact body_ok (N := N_law) (n := 1) (k := 7) (fix := []) (F := F_law) rfl (by decide) (ss_seq (ss_for (si_r1 (sa_cons (se_cb rc_max2 (sa_cons se_int (sa_cons (se_cb rc_min2 (sa_cons se_int (sa_cons (se_cb rc_len (sa_cons se_var sa_nil)) sa_nil))) sa_nil))) sa_nil)) (sg_name (by decide)) (ss_seq (ss_set (se_call (n := 2) (m := m_law_store) (sa_cons se_var (sa_cons se_var sa_nil))) (by decide)) (ss_for (si_list (se_lst (sa_cons (se_call1 (n := 3) (m := m_law_deal) (sa_cons se_var (sa_cons se_int (sa_cons se_int sa_nil)))) (sa_cons (se_call1 (n := 3) (m := m_law_deal) (sa_cons se_var (sa_cons se_int (sa_cons se_int sa_nil)))) (sa_cons (se_call1 (n := 3) (m := m_law_deal) (sa_cons se_var (sa_cons se_int (sa_cons se_int sa_nil)))) (sa_cons (se_call1 (n := 1) (m := m_law_high) (sa_cons se_var sa_nil)) sa_nil)))))) (sg_name (by decide)) (ss_seq (ss_set (se_call1 (n := 3) (m := m_law_rising) (sa_cons se_var (sa_cons (se_cb rc_len (sa_cons se_var sa_nil)) (sa_cons se_int sa_nil)))) (by decide)) (ss_seq (ss_set (se_call1 (n := 3) (m := m_law_rising) (sa_cons se_var (sa_cons (se_op ro_ix (se_lst (sa_cons se_int (sa_cons (se_op ro_add (se_cb rc_maxL (sa_cons se_var sa_nil)) se_int) (sa_cons se_int sa_nil)))) (se_call1 (n := 2) (m := m_law_pick) (sa_cons se_var (sa_cons se_int sa_nil)))) (sa_cons se_int sa_nil)))) (by decide)) (ss_if (st_not (st_B (se_call1 (n := 4) (m := m_law_right) (sa_cons se_var (sa_cons se_var (sa_cons se_var (sa_cons se_var sa_nil))))))) (ss_ret se_bl) ss_next)))))) (ss_seq (ss_set (se_lst (sa_cons (se_call (n := 2) (m := m_work_paper) (sa_cons (se_lst (sa_cons se_int sa_nil)) (sa_cons (se_lst (sa_cons se_int sa_nil)) sa_nil))) (sa_cons (se_call (n := 2) (m := m_work_paper) (sa_cons (se_lst (sa_cons se_int (sa_cons se_int (sa_cons se_int sa_nil)))) (sa_cons (se_lst (sa_cons se_int (sa_cons se_int (sa_cons se_int sa_nil)))) sa_nil))) (sa_cons (se_call (n := 2) (m := m_work_paper) (sa_cons (se_lst (sa_cons se_int (sa_cons se_int sa_nil))) (sa_cons (se_lst sa_nil) sa_nil))) sa_nil)))) (by decide)) (ss_seq (ss_pre (i := 6) (ss_if (st_or (st_test (se_op ro_ne se_var (se_lst (sa_cons se_int (sa_cons se_int (sa_cons se_non sa_nil)))))) (st_test (se_op ro_notN (se_call (n := 2) (m := m_work_paper) (sa_cons (se_opL rol_rep (se_lst (sa_cons se_int sa_nil)) se_int) (sa_cons (se_lr1 se_int) sa_nil))) se_non))) (ss_ret se_bl) ss_next)) (ss_seq (ss_set (se_lst (sa_cons (se_call (n := 2) (m := m_give_paper) (sa_cons (se_lst (sa_cons se_int (sa_cons se_int (sa_cons se_int sa_nil)))) (sa_cons (se_lst (sa_cons se_int (sa_cons se_int sa_nil))) sa_nil))) (sa_cons (se_call (n := 2) (m := m_give_paper) (sa_cons (se_lst (sa_cons se_int (sa_cons se_int (sa_cons se_int sa_nil)))) (sa_cons (se_lst (sa_cons se_int (sa_cons se_int (sa_cons se_int sa_nil)))) sa_nil))) (sa_cons (se_call (n := 2) (m := m_give_paper) (sa_cons (se_lst (sa_cons se_int sa_nil)) (sa_cons (se_lst (sa_cons se_int (sa_cons se_int sa_nil))) sa_nil))) sa_nil)))) (by decide)) (ss_seq (ss_pre (i := 6) (ss_if (st_or (st_test (se_op ro_ne se_var (se_lst (sa_cons se_non (sa_cons se_int (sa_cons se_int sa_nil)))))) (st_test (se_op ro_ne (se_call (n := 2) (m := m_give_paper) (sa_cons (se_lst (sa_cons se_int sa_nil)) (sa_cons (se_lst (sa_cons se_int sa_nil)) sa_nil))) se_int))) (ss_ret se_bl) ss_next)) (ss_seq (ss_if (st_or (st_test (se_op ro_notN (se_call (n := 2) (m := m_give_paper) (sa_cons (se_opL rol_rep (se_lst (sa_cons se_int sa_nil)) se_int) (sa_cons (se_lr2 se_int se_int) sa_nil))) se_non)) (st_test (se_op ro_ne (se_call (n := 2) (m := m_give_paper) (sa_cons (se_opL rol_rep (se_lst (sa_cons se_int sa_nil)) se_int) (sa_cons (se_lr2 se_int se_int) sa_nil))) se_int))) (ss_ret se_bl) ss_next) (ss_seq (ss_set (se_lr2 se_int se_int) (by decide)) (ss_seq (ss_pre (i := 7) (ss_set (se_lst (sa_cons (se_call (n := 2) (m := m_give_paper) (sa_cons se_var (sa_cons (se_lr2 se_int se_int) sa_nil))) (sa_cons (se_call (n := 2) (m := m_give_paper) (sa_cons se_var (sa_cons (se_lst (sa_cons se_int (sa_cons se_int (sa_cons se_int sa_nil)))) sa_nil))) (sa_cons (se_call (n := 2) (m := m_give_paper) (sa_cons se_var (sa_cons (se_lst (sa_cons se_int sa_nil)) sa_nil))) sa_nil)))) (by decide))) (ss_pre (i := 6) (ss_ret (se_and (se_op ro_eq se_var (se_lst (sa_cons se_non (sa_cons se_int (sa_cons se_int sa_nil))))) (se_and (se_op ro_isN (se_call (n := 2) (m := m_work_paper) (sa_cons se_var (sa_cons (se_lr1 se_int) sa_nil))) se_non) (se_call (n := 3) (m := m_shows_give_paper) (sa_cons se_var (sa_cons (se_lst (sa_cons se_int sa_nil)) (sa_cons se_int sa_nil)))))))))))))))) h
end
end Tk32

set_option Elab.async false
set_option linter.all false
set_option maxRecDepth 100000
set_option exponentiation.threshold 3000
namespace Tk32
open PySem PySem.Spec PyProof.Rows L2 Vm
def c_law_store (v_script : (List Int)) (v_k : Int) : M (List Int) :=
 bd (cnd (decide (v_k < ((v_script).length : Int))) (bd (getM v_script v_k) fun t2 =>
 pr (absI t2)) (pr 0)) fun t3 =>
 bd (powM 10 18) fun t4 =>
 bd (powM 10 37) fun t5 =>
 bd (modM t3 (t5 + 43)) fun t6 =>
 bd (mulM t6 83) fun t7 =>
 bd (mulM 7 v_k) fun t8 =>
 pr [(mx2 0 (t3 - t4)), (t7 + t8), 0]
set_option maxHeartbeats 4000000 in
theorem t_law_store {v_script : (List Int)} {v_k : Int} {r : (List Int)} (h : Hd (c_law_store v_script v_k) r) : ∃ e, m_law_store [.sh (D.scr v_script), .sh (D.int v_k)] = some (.fr (List.map D.int r) e) := by
  unfold c_law_store at h
  exact m_fr (E := D.int) (a := r) rfl (show Go F_law_store [.sh (D.scr v_script), .sh (D.int v_k), .un] ((OF 2 D.int) r) from
 (g_seq (hbind h fun t3 gt3 h4 =>
 g_set (e2 := [.sh (D.scr v_script), .sh (D.int v_k), .sh (D.int t3)]) (ev_iteM (K := fun v => R.val (D.int v)) gt3 (tv_x (ev_op (ev_sh rfl) (ev_cb (av_1 (ev_sh rfl) av_0) rfl o_lenS) rfl rfl x_lt)) (fun w1 h1 => hbind h1 fun t2 gt2 h3 =>
 ev_pr (K := fun v => R.val (D.int v)) h3 (ev_cb (av_1 (ev_op (ev_sh rfl) (ev_sh rfl) rfl rfl (o_ixS gt2)) av_0) rfl o_abs)) (fun w1 h2 => ev_pr (K := fun v => R.val (D.int v)) h2 ev_c)) rfl (hbind h4 fun t4 gt4 h5 =>
 hbind h5 fun t5 gt5 h6 =>
 hbind h6 fun t6 gt6 h7 =>
 hbind h7 fun t7 gt7 h8 =>
 hbind h8 fun t8 gt8 h9 =>
 g_ret (ev_lst (ds := List.map D.int [(mx2 0 (t3 - t4)), (t7 + t8), 0]) (av_1 (ev_cb (av_1 ev_c (av_1 (ev_op (ev_sh rfl) (ev_op ev_c ev_c rfl rfl (o_pow gt4)) rfl rfl x_sub) av_0)) rfl o_max2) (av_1 (ev_op (ev_op (ev_op (ev_cb (av_1 (ev_sh rfl) av_0) rfl x_int) (ev_op (ev_op ev_c ev_c rfl rfl (o_pow gt5)) ev_c rfl rfl x_add) rfl rfl (o_mod gt6)) ev_c rfl rfl (o_mul gt7)) (ev_op ev_c (ev_sh rfl) rfl rfl (o_mul gt8)) rfl rfl x_add) (av_1 ev_c av_0))) rfl (Nat.le_of_ble_eq_true rfl)) ((by have hq := hd_eq h9; (first | subst hq | cases hq); exact of_fr))))))

def c_spares_of (v_levels : (List Int)) : M (List Int) :=
 bd (shortM ((enumL (srt v_levels))).length) fun t1 =>
 bd (mapM (fun (x2 : (Int × Int)) => pr (x2.2 - x2.1)) (enumL (srt v_levels))) fun t5 =>
 pr t5
set_option maxHeartbeats 4000000 in
theorem t_spares_of {v_levels : (List Int)} {r : (List Int)} (h : Hd (c_spares_of v_levels) r) : ∃ e, m_spares_of [.sh ((eL D.int) v_levels)] = some (.fr (List.map D.int r) e) := by
  unfold c_spares_of at h
  exact m_fr (E := D.int) (a := r) rfl (show Go F_spares_of [.sh ((eL D.int) v_levels), .un, .un] ((OF 1 D.int) r) from
 hbind h fun t1 gt1 h1 =>
 hbind h1 fun t5 gt5 h3 =>
 g_ret (ev_lcm (E := (eT2 D.int D.int)) (E' := D.int) [.sh ((eL D.int) v_levels), .un, .un] gt5 (i_enum (E := D.int) (ev_cbL (av_1 (ev_sh rfl) av_0) rfl (o_sorted (xs := v_levels))) rfl) gt1.ok rfl rfl rfl (fun x2 m3 => ⟨[.sh ((eL D.int) v_levels), .sh (D.int x2.1), .sh (D.int x2.2)], rfl, fun w4 h2 => (by have hq := hd_eq h2; (first | subst hq | cases hq); exact ⟨_, (ev_op (ev_sh rfl) (ev_sh rfl) rfl rfl x_sub), rfl⟩), rfl⟩)) ((by have hq := hd_eq h3; (first | subst hq | cases hq); exact of_fr)))

def c_is_whole (v_thing : D) : M Bool :=
 bd (isiD (eD v_thing) "int") fun t1 =>
 bd (cnd t1 (bd (isiD (eD v_thing) "bool") fun t2 =>
 pr (!t2)) (pr false)) fun t3 =>
 pr t3
set_option maxHeartbeats 4000000 in
theorem t_is_whole {v_thing : D} {r : Bool} (h : Hd (c_is_whole v_thing) r) : ∃ e, m_is_whole [.sh (eD v_thing)] = some (.val (D.bl r) e) := by
  unfold c_is_whole at h
  exact m_val (E := D.bl) (a := r) rfl (show Go F_is_whole [.sh (eD v_thing)] ((OV D.bl) r) from
 hbind h fun t1 gt1 h1 =>
 hbind h1 fun t3 gt3 h4 =>
 g_ret (ev_andM gt3 (ev_cb (av_1 (ev_sh rfl) (av_1 ev_c av_0)) rfl (o_isiD gt1)) (fun _ h2 => hbind h2 fun t2 gt2 h3 =>
 ev_pr (K := fun v => R.val (D.bl v)) h3 (ev_not (ev_cb (av_1 (ev_sh rfl) (av_1 ev_c av_0)) rfl (o_isiD gt2))))) ((by have hq := hd_eq h4; (first | subst hq | cases hq); exact ov_val)))

def c_is_team (v_thing : D) : M Bool :=
 bd (isiD (eD v_thing) "list") fun t1 =>
 bd (cnd (!t1) (pr true) (bd (asList v_thing) fun t2 =>
 pr (!(decide (1 ≤ ((t2).length : Int)) && decide (((t2).length : Int) ≤ 20))))) fun t3 =>
 cnd t3 (
 pr false) (
 bd (asList v_thing) fun t4 =>
 bd (shortM (t4).length) fun t5 =>
 bd (mapM (fun (x6 : D) => bd (c_is_whole x6) fun t8 =>
 bd (cnd t8 (bd (asInt x6) fun t9 =>
 pr (decide (0 ≤ t9))) (pr false)) fun t10 =>
 pr t10) t4) fun t12 =>
 cnd (!(List.all t12 id)) (
 pr false) (
 bd (asInts v_thing) fun t13 =>
 bd (c_spares_of t13) fun t14 =>
 bd (maxM t14) fun t15 =>
 pr (decide (t15 ≤ 40))))
set_option maxHeartbeats 4000000 in
theorem t_is_team {v_thing : D} {r : Bool} (h : Hd (c_is_team v_thing) r) : ∃ e, m_is_team [.sh (eD v_thing)] = some (.val (D.bl r) e) := by
  unfold c_is_team at h
  exact m_val (E := D.bl) (a := r) rfl (show Go F_is_team [.sh (eD v_thing), .un] ((OV D.bl) r) from
 (g_seq (hbind h fun t1 gt1 h1 =>
 hbind h1 fun t3 gt3 h4 =>
 g_if (tv_orM gt3 (tv_not (tv_x (ev_cb (av_1 (ev_sh rfl) (av_1 ev_c av_0)) rfl (o_isiD gt1)))) (fun _ h2 => hbind h2 fun t2 gt2 h3 =>
 tv_pr h3 (tv_not (tv_x (ev_chain ev_c (ev_cb (av_1 (ev_asList (ev_sh rfl) gt2) av_0) rfl (o_len (E := eD) (xs := t2))) rfl x_le ev_c rfl x_le))))) (fun h5 => have h6 := cnd_t h4 h5; g_ret ev_c ((by have hq := hd_eq h6; (first | subst hq | cases hq); exact ov_val))) (fun h5 => have h7 := cnd_f h4 h5; g_next ((g_seq (hbind h7 fun t4 gt4 h8 =>
 hbind h8 fun t5 gt5 h9 =>
 hbind h9 fun t12 gt12 h15 =>
 g_if (tv_not (tv_x (ev_cb (av_1 (ev_lcm (E := eD) (E' := D.bl) [.sh (eD v_thing), .un] gt12 (i_seq (E := eD) (ev_asList (ev_sh rfl) gt4) rfl) gt5.ok rfl rfl rfl (fun x6 m7 => ⟨[.sh (eD v_thing), .sh (eD x6)], rfl, fun w11 h10 => hbind h10 fun t8 gt8 h11 =>
 hbind h11 fun t10 gt10 h14 =>
 (by have hq := hd_eq h14; (first | subst hq | cases hq); exact ⟨_, (ev_andM gt10 (ev_call (ds := [eD x6]) (av_1 (ev_sh rfl) av_0) rfl rfl (t_is_whole gt8)) (fun _ h12 => hbind h12 fun t9 gt9 h13 =>
 ev_pr (K := fun v => R.val (D.bl v)) h13 (ev_op (ev_asInt (ev_sh rfl) gt9) ev_c rfl rfl x_ge))), rfl⟩), rfl⟩)) av_0) rfl (o_all (xs := t12))))) (fun h16 => have h17 := cnd_t h15 h16; g_ret ev_c ((by have hq := hd_eq h17; (first | subst hq | cases hq); exact ov_val))) (fun h16 => have h18 := cnd_f h15 h16; g_next (hbind h18 fun t13 gt13 h19 =>
 hbind h19 fun t14 gt14 h20 =>
 hbind h20 fun t15 gt15 h21 =>
 g_ret (ev_op (ev_cb (av_1 (ev_callL (ds := [(eL D.int) t13]) (av_1 (ev_asInts (ev_sh rfl) gt13) av_0) rfl rfl (t_spares_of gt14)) av_0) rfl (o_max gt15)) ev_c rfl rfl x_le) ((by have hq := hd_eq h21; (first | subst hq | cases hq); exact ov_val)))))))))))

def c_check_team (v_team : D) : M Unit :=
 bd (c_is_team v_team) fun t1 =>
 bd (mustM (!(!t1))) fun _ =>
 pr ()
set_option maxHeartbeats 4000000 in
theorem t_check_team {v_team : D} {r : Unit} (h : Hd (c_check_team v_team) r) : ∃ e, m_check_team [.sh (eD v_team)] = some (.val ((fun _ : Unit => D.non) r) e) := by
  unfold c_check_team at h
  exact m_val (E := (fun _ : Unit => D.non)) (a := r) rfl (show Go F_check_team [.sh (eD v_team)] ((OV (fun _ : Unit => D.non)) r) from
 hbind h fun t1 gt1 h1 =>
 hbind h1 fun _ h3 h4 => g_if (tv_not (tv_x (ev_call (ds := [eD v_team]) (av_1 (ev_sh rfl) av_0) rfl rfl (t_is_team gt1)))) (fun h2 => (must_no h3 h2).elim) (fun h2 => g_next ((by have hq := hd_eq h4; (first | subst hq | cases hq); exact ov_nx))))

def c_is_within (v_thing : D) (v_least : Int) (v_greatest : Int) : M Bool :=
 bd (c_is_whole v_thing) fun t1 =>
 bd (cnd t1 (bd (asInt v_thing) fun t2 =>
 pr (decide (v_least ≤ t2) && decide (t2 ≤ v_greatest))) (pr false)) fun t3 =>
 pr t3
set_option maxHeartbeats 4000000 in
theorem t_is_within {v_thing : D} {v_least : Int} {v_greatest : Int} {r : Bool} (h : Hd (c_is_within v_thing v_least v_greatest) r) : ∃ e, m_is_within [.sh (eD v_thing), .sh (D.int v_least), .sh (D.int v_greatest)] = some (.val (D.bl r) e) := by
  unfold c_is_within at h
  exact m_val (E := D.bl) (a := r) rfl (show Go F_is_within [.sh (eD v_thing), .sh (D.int v_least), .sh (D.int v_greatest)] ((OV D.bl) r) from
 hbind h fun t1 gt1 h1 =>
 hbind h1 fun t3 gt3 h4 =>
 g_ret (ev_andM gt3 (ev_call (ds := [eD v_thing]) (av_1 (ev_sh rfl) av_0) rfl rfl (t_is_whole gt1)) (fun _ h2 => hbind h2 fun t2 gt2 h3 =>
 ev_pr (K := fun v => R.val (D.bl v)) h3 (ev_chain (ev_sh rfl) (ev_asInt (ev_sh rfl) gt2) rfl x_le (ev_sh rfl) rfl x_le))) ((by have hq := hd_eq h4; (first | subst hq | cases hq); exact ov_val)))

def c_is_ascending (v_thing : D) (v_greatest : Int) : M Bool :=
 bd (isiD (eD v_thing) "list") fun t1 =>
 bd (cnd (!t1) (pr true) (bd (asInts v_thing) fun t2 =>
 bd (shortM (t2).length) fun t3 =>
 bd (mapM (fun (x4 : Int) => bd (c_is_within (D.int x4) 0 v_greatest) fun t6 =>
 pr t6) t2) fun t8 =>
 pr (!(List.all t8 id)))) fun t9 =>
 cnd t9 (
 pr false) (
 bd (asInts v_thing) fun t10 =>
 bd (asInts v_thing) fun t11 =>
 bd (shortM ((List.zip t10 (cutI t11 (some 1) none))).length) fun t12 =>
 bd (mapM (fun (x13 : (Int × Int)) => pr (decide (x13.1 < x13.2))) (List.zip t10 (cutI t11 (some 1) none))) fun t16 =>
 pr (List.all t16 id))
set_option maxHeartbeats 4000000 in
theorem t_is_ascending {v_thing : D} {v_greatest : Int} {r : Bool} (h : Hd (c_is_ascending v_thing v_greatest) r) : ∃ e, m_is_ascending [.sh (eD v_thing), .sh (D.int v_greatest)] = some (.val (D.bl r) e) := by
  unfold c_is_ascending at h
  exact m_val (E := D.bl) (a := r) rfl (show Go F_is_ascending [.sh (eD v_thing), .sh (D.int v_greatest), .un, .un, .un] ((OV D.bl) r) from
 (g_seq (hbind h fun t1 gt1 h1 =>
 hbind h1 fun t9 gt9 h8 =>
 g_if (tv_orM gt9 (tv_not (tv_x (ev_cb (av_1 (ev_sh rfl) (av_1 ev_c av_0)) rfl (o_isiD gt1)))) (fun _ h2 => hbind h2 fun t2 gt2 h3 =>
 hbind h3 fun t3 gt3 h4 =>
 hbind h4 fun t8 gt8 h7 =>
 tv_pr h7 (tv_not (tv_x (ev_cb (av_1 (ev_lcm (E := D.int) (E' := D.bl) [.sh (eD v_thing), .sh (D.int v_greatest), .un, .un, .un] gt8 (i_seq (E := D.int) (ev_asInts (ev_sh rfl) gt2) rfl) gt3.ok rfl rfl rfl (fun x4 m5 => ⟨[.sh (eD v_thing), .sh (D.int v_greatest), .sh (D.int x4), .un, .un], rfl, fun w7 h5 => hbind h5 fun t6 gt6 h6 =>
 (by have hq := hd_eq h6; (first | subst hq | cases hq); exact ⟨_, (ev_call (ds := [eD (D.int x4), D.int 0, D.int v_greatest]) (av_1 (ev_sh rfl) (av_1 ev_c (av_1 (ev_sh rfl) av_0))) rfl rfl (t_is_within gt6)), rfl⟩), rfl⟩)) av_0) rfl (o_all (xs := t8))))))) (fun h9 => have h10 := cnd_t h8 h9; g_ret ev_c ((by have hq := hd_eq h10; (first | subst hq | cases hq); exact ov_val))) (fun h9 => have h11 := cnd_f h8 h9; g_next (hbind h11 fun t10 gt10 h12 =>
 hbind h12 fun t11 gt11 h13 =>
 hbind h13 fun t12 gt12 h14 =>
 hbind h14 fun t16 gt16 h16 =>
 g_ret (ev_cb (av_1 (ev_lcm (E := (eT2 D.int D.int)) (E' := D.bl) [.sh (eD v_thing), .sh (D.int v_greatest), .un, .un, .un] gt16 (i_zip (E := D.int) (E' := D.int) (ev_asInts (ev_sh rfl) gt10) (ev_sl (E := D.int) (xs := t11) (ev_asInts (ev_sh rfl) gt11) (pv_so ev_c) pv_no rfl) rfl rfl) gt12.ok rfl rfl rfl (fun x13 m14 => ⟨[.sh (eD v_thing), .sh (D.int v_greatest), .un, .sh (D.int x13.1), .sh (D.int x13.2)], rfl, fun w15 h15 => (by have hq := hd_eq h15; (first | subst hq | cases hq); exact ⟨_, (ev_op (ev_sh rfl) (ev_sh rfl) rfl rfl x_lt), rfl⟩), rfl⟩)) av_0) rfl (o_all (xs := t16))) ((by have hq := hd_eq h16; (first | subst hq | cases hq); exact ov_val)))))))

def c_check_workers (v_team : (List Int)) (v_workers : D) : M Unit :=
 bd (c_is_ascending v_workers (((v_team).length : Int) - 1)) fun t1 =>
 bd (mustM (!(!t1))) fun _ =>
 pr ()
set_option maxHeartbeats 4000000 in
theorem t_check_workers {v_team : (List Int)} {v_workers : D} {r : Unit} (h : Hd (c_check_workers v_team v_workers) r) : ∃ e, m_check_workers [.sh ((eL D.int) v_team), .sh (eD v_workers)] = some (.val ((fun _ : Unit => D.non) r) e) := by
  unfold c_check_workers at h
  exact m_val (E := (fun _ : Unit => D.non)) (a := r) rfl (show Go F_check_workers [.sh ((eL D.int) v_team), .sh (eD v_workers)] ((OV (fun _ : Unit => D.non)) r) from
 hbind h fun t1 gt1 h1 =>
 hbind h1 fun _ h3 h4 => g_if (tv_not (tv_x (ev_call (ds := [eD v_workers, D.int (((v_team).length : Int) - 1)]) (av_1 (ev_sh rfl) (av_1 (ev_op (ev_cb (av_1 (ev_sh rfl) av_0) rfl (o_len (E := D.int) (xs := v_team))) ev_c rfl rfl x_sub) av_0)) rfl rfl (t_is_ascending gt1)))) (fun h2 => (must_no h3 h2).elim) (fun h2 => g_next ((by have hq := hd_eq h4; (first | subst hq | cases hq); exact ov_nx))))

def c_bars_workers (v_team : (List Int)) (v_workers : (List Int)) (v_bound : Int) : M Bool :=
 bd (shortM (v_workers).length) fun t1 =>
 bd (filM (fun (x2 : Int) => bd (getM v_team x2) fun t4 =>
 pr (decide (t4 ≤ v_bound))) (fun (x2 : Int) => pr x2) v_workers) fun t6 =>
 pr (decide (v_bound < ((t6).length : Int)))
set_option maxHeartbeats 4000000 in
theorem t_bars_workers {v_team : (List Int)} {v_workers : (List Int)} {v_bound : Int} {r : Bool} (h : Hd (c_bars_workers v_team v_workers v_bound) r) : ∃ e, m_bars_workers [.sh ((eL D.int) v_team), .sh ((eL D.int) v_workers), .sh (D.int v_bound)] = some (.val (D.bl r) e) := by
  unfold c_bars_workers at h
  exact m_val (E := D.bl) (a := r) rfl (show Go F_bars_workers [.sh ((eL D.int) v_team), .sh ((eL D.int) v_workers), .sh (D.int v_bound), .un] ((OV D.bl) r) from
 hbind h fun t1 gt1 h1 =>
 hbind h1 fun t6 gt6 h5 =>
 g_ret (ev_op (ev_cb (av_1 (ev_lcM (E := D.int) (E' := D.int) [.sh ((eL D.int) v_team), .sh ((eL D.int) v_workers), .sh (D.int v_bound), .un] gt6 (i_seq (E := D.int) (ev_sh rfl) rfl) gt1.ok rfl rfl rfl (fun x2 m3 => ⟨[.sh ((eL D.int) v_team), .sh ((eL D.int) v_workers), .sh (D.int v_bound), .sh (D.int x2)], rfl, fun w5 h2 => hbind h2 fun t4 gt4 h3 =>
 tv_pr h3 (tv_x (ev_op (ev_op (ev_sh rfl) (ev_sh rfl) rfl rfl (o_ix (E := D.int) gt4)) (ev_sh rfl) rfl rfl x_le)), fun w5 h4 => (by have hq := hd_eq h4; (first | subst hq | cases hq); exact ⟨_, (ev_sh rfl), rfl⟩), rfl⟩)) av_0) rfl (o_len (E := D.int) (xs := t6))) (ev_sh rfl) rfl rfl x_gt) ((by have hq := hd_eq h5; (first | subst hq | cases hq); exact ov_val)))

def c_work_paper (v_team : (List Int)) (v_workers : (List Int)) : M (Option Int) :=
 bd (c_check_team ((eL D.int) v_team)) fun t1 =>
 bd (c_check_workers v_team ((eL D.int) v_workers)) fun t2 =>
 bd (rgM 0 ((v_workers).length : Int)) fun t3 =>
 bd (shortM (t3).length) fun t4 =>
 bd (filM (fun (x5 : Int) => bd (c_bars_workers v_team v_workers x5) fun t7 =>
 pr t7) (fun (x5 : Int) => pr x5) t3) fun t9 =>
 pr (minO t9)
set_option maxHeartbeats 4000000 in
theorem t_work_paper {v_team : (List Int)} {v_workers : (List Int)} {r : (Option Int)} (h : Hd (c_work_paper v_team v_workers) r) : ∃ e, m_work_paper [.sh ((eL D.int) v_team), .sh ((eL D.int) v_workers)] = some (.val ((eO D.int) r) e) := by
  unfold c_work_paper at h
  exact m_val (E := (eO D.int)) (a := r) rfl (show Go F_work_paper [.sh ((eL D.int) v_team), .sh ((eL D.int) v_workers), .un] ((OV (eO D.int)) r) from
 (g_seq (hbind h fun t1 gt1 h1 =>
 g_expr (ev_call (ds := [eD ((eL D.int) v_team)]) (av_1 (ev_sh rfl) av_0) rfl rfl (t_check_team gt1)) ((g_seq (hbind h1 fun t2 gt2 h2 =>
 g_expr (ev_call (ds := [(eL D.int) v_team, eD ((eL D.int) v_workers)]) (av_1 (ev_sh rfl) (av_1 (ev_sh rfl) av_0)) rfl rfl (t_check_workers gt2)) (hbind h2 fun t3 gt3 h3 =>
 hbind h3 fun t4 gt4 h4 =>
 hbind h4 fun t9 gt9 h8 =>
 g_ret (ev_cb (av_1 (ev_lcM (E := D.int) (E' := D.int) [.sh ((eL D.int) v_team), .sh ((eL D.int) v_workers), .un] gt9 (i_r1 (ev_cb (av_1 (ev_sh rfl) av_0) rfl (o_len (E := D.int) (xs := v_workers))) gt3) gt4.ok rfl rfl rfl (fun x5 m6 => ⟨[.sh ((eL D.int) v_team), .sh ((eL D.int) v_workers), .sh (D.int x5)], rfl, fun w8 h5 => hbind h5 fun t7 gt7 h6 =>
 tv_pr h6 (tv_x (ev_call (ds := [(eL D.int) v_team, (eL D.int) v_workers, D.int x5]) (av_1 (ev_sh rfl) (av_1 (ev_sh rfl) (av_1 (ev_sh rfl) av_0))) rfl rfl (t_bars_workers gt7))), fun w8 h7 => (by have hq := hd_eq h7; (first | subst hq | cases hq); exact ⟨_, (ev_sh rfl), rfl⟩), rfl⟩)) av_0) rfl (o_minN (xs := t9))) ((by have hq := hd_eq h8; (first | subst hq | cases hq); exact ov_val)))))))))

def c_check_jobs (v_jobs : D) : M Unit :=
 bd (c_is_ascending v_jobs 59) fun t1 =>
 bd (cnd (!t1) (pr true) (bd (asList v_jobs) fun t2 =>
 pr (decide (20 < ((t2).length : Int))))) fun t3 =>
 bd (mustM (!t3)) fun _ =>
 pr ()
set_option maxHeartbeats 4000000 in
theorem t_check_jobs {v_jobs : D} {r : Unit} (h : Hd (c_check_jobs v_jobs) r) : ∃ e, m_check_jobs [.sh (eD v_jobs)] = some (.val ((fun _ : Unit => D.non) r) e) := by
  unfold c_check_jobs at h
  exact m_val (E := (fun _ : Unit => D.non)) (a := r) rfl (show Go F_check_jobs [.sh (eD v_jobs)] ((OV (fun _ : Unit => D.non)) r) from
 hbind h fun t1 gt1 h1 =>
 hbind h1 fun t3 gt3 h4 =>
 hbind h4 fun _ h6 h7 => g_if (tv_orM gt3 (tv_not (tv_x (ev_call (ds := [eD v_jobs, D.int 59]) (av_1 (ev_sh rfl) (av_1 ev_c av_0)) rfl rfl (t_is_ascending gt1)))) (fun _ h2 => hbind h2 fun t2 gt2 h3 =>
 tv_pr h3 (tv_x (ev_op (ev_cb (av_1 (ev_asList (ev_sh rfl) gt2) av_0) rfl (o_len (E := eD) (xs := t2))) ev_c rfl rfl x_gt)))) (fun h5 => (must_no h6 h5).elim) (fun h5 => g_next ((by have hq := hd_eq h7; (first | subst hq | cases hq); exact ov_nx))))

def c_count_above (v_team : (List Int)) (v_bound : Int) : M Int :=
 bd (shortM (v_team).length) fun t1 =>
 bd (filM (fun (x2 : Int) => pr (decide (v_bound < x2))) (fun (x2 : Int) => pr 1) v_team) fun t5 =>
 pr (List.sum t5)
set_option maxHeartbeats 4000000 in
theorem t_count_above {v_team : (List Int)} {v_bound : Int} {r : Int} (h : Hd (c_count_above v_team v_bound) r) : ∃ e, m_count_above [.sh ((eL D.int) v_team), .sh (D.int v_bound)] = some (.val (D.int r) e) := by
  unfold c_count_above at h
  exact m_val (E := D.int) (a := r) rfl (show Go F_count_above [.sh ((eL D.int) v_team), .sh (D.int v_bound), .un] ((OV D.int) r) from
 hbind h fun t1 gt1 h1 =>
 hbind h1 fun t5 gt5 h4 =>
 g_ret (ev_cb (av_1 (ev_lcM (E := D.int) (E' := D.int) [.sh ((eL D.int) v_team), .sh (D.int v_bound), .un] gt5 (i_seq (E := D.int) (ev_sh rfl) rfl) gt1.ok rfl rfl rfl (fun x2 m3 => ⟨[.sh ((eL D.int) v_team), .sh (D.int v_bound), .sh (D.int x2)], rfl, fun w4 h2 => tv_pr h2 (tv_x (ev_op (ev_sh rfl) (ev_sh rfl) rfl rfl x_gt)), fun w4 h3 => (by have hq := hd_eq h3; (first | subst hq | cases hq); exact ⟨_, ev_c, rfl⟩), rfl⟩)) av_0) rfl (o_sum (xs := t5))) ((by have hq := hd_eq h4; (first | subst hq | cases hq); exact ov_val)))

def c_bars_jobs (v_team : (List Int)) (v_jobs : (List Int)) (v_bound : Int) : M Bool :=
 bd (c_count_above v_team v_bound) fun t1 =>
 bd (shortM (v_jobs).length) fun t2 =>
 bd (filM (fun (x3 : Int) => pr (decide (v_bound ≤ x3))) (fun (x3 : Int) => pr x3) v_jobs) fun t6 =>
 pr (decide (t1 < ((t6).length : Int)))
set_option maxHeartbeats 4000000 in
theorem t_bars_jobs {v_team : (List Int)} {v_jobs : (List Int)} {v_bound : Int} {r : Bool} (h : Hd (c_bars_jobs v_team v_jobs v_bound) r) : ∃ e, m_bars_jobs [.sh ((eL D.int) v_team), .sh ((eL D.int) v_jobs), .sh (D.int v_bound)] = some (.val (D.bl r) e) := by
  unfold c_bars_jobs at h
  exact m_val (E := D.bl) (a := r) rfl (show Go F_bars_jobs [.sh ((eL D.int) v_team), .sh ((eL D.int) v_jobs), .sh (D.int v_bound), .un] ((OV D.bl) r) from
 hbind h fun t1 gt1 h1 =>
 hbind h1 fun t2 gt2 h2 =>
 hbind h2 fun t6 gt6 h5 =>
 g_ret (ev_op (ev_call (ds := [(eL D.int) v_team, D.int v_bound]) (av_1 (ev_sh rfl) (av_1 (ev_sh rfl) av_0)) rfl rfl (t_count_above gt1)) (ev_cb (av_1 (ev_lcM (E := D.int) (E' := D.int) [.sh ((eL D.int) v_team), .sh ((eL D.int) v_jobs), .sh (D.int v_bound), .un] gt6 (i_seq (E := D.int) (ev_sh rfl) rfl) gt2.ok rfl rfl rfl (fun x3 m4 => ⟨[.sh ((eL D.int) v_team), .sh ((eL D.int) v_jobs), .sh (D.int v_bound), .sh (D.int x3)], rfl, fun w5 h3 => tv_pr h3 (tv_x (ev_op (ev_sh rfl) (ev_sh rfl) rfl rfl x_ge)), fun w5 h4 => (by have hq := hd_eq h4; (first | subst hq | cases hq); exact ⟨_, (ev_sh rfl), rfl⟩), rfl⟩)) av_0) rfl (o_len (E := D.int) (xs := t6))) rfl rfl x_lt) ((by have hq := hd_eq h5; (first | subst hq | cases hq); exact ov_val)))

def c_give_paper (v_team : (List Int)) (v_jobs : (List Int)) : M (Option Int) :=
 bd (c_check_team ((eL D.int) v_team)) fun t1 =>
 bd (c_check_jobs ((eL D.int) v_jobs)) fun t2 =>
 bd (rgM 0 (59 + 1)) fun t3 =>
 bd (shortM (t3).length) fun t4 =>
 bd (filM (fun (x5 : Int) => bd (c_bars_jobs v_team v_jobs x5) fun t7 =>
 pr t7) (fun (x5 : Int) => pr x5) t3) fun t9 =>
 pr (minO t9)
set_option maxHeartbeats 4000000 in
theorem t_give_paper {v_team : (List Int)} {v_jobs : (List Int)} {r : (Option Int)} (h : Hd (c_give_paper v_team v_jobs) r) : ∃ e, m_give_paper [.sh ((eL D.int) v_team), .sh ((eL D.int) v_jobs)] = some (.val ((eO D.int) r) e) := by
  unfold c_give_paper at h
  exact m_val (E := (eO D.int)) (a := r) rfl (show Go F_give_paper [.sh ((eL D.int) v_team), .sh ((eL D.int) v_jobs), .un] ((OV (eO D.int)) r) from
 (g_seq (hbind h fun t1 gt1 h1 =>
 g_expr (ev_call (ds := [eD ((eL D.int) v_team)]) (av_1 (ev_sh rfl) av_0) rfl rfl (t_check_team gt1)) ((g_seq (hbind h1 fun t2 gt2 h2 =>
 g_expr (ev_call (ds := [eD ((eL D.int) v_jobs)]) (av_1 (ev_sh rfl) av_0) rfl rfl (t_check_jobs gt2)) (hbind h2 fun t3 gt3 h3 =>
 hbind h3 fun t4 gt4 h4 =>
 hbind h4 fun t9 gt9 h8 =>
 g_ret (ev_cb (av_1 (ev_lcM (E := D.int) (E' := D.int) [.sh ((eL D.int) v_team), .sh ((eL D.int) v_jobs), .un] gt9 (i_r1 (ev_op ev_c ev_c rfl rfl x_add) gt3) gt4.ok rfl rfl rfl (fun x5 m6 => ⟨[.sh ((eL D.int) v_team), .sh ((eL D.int) v_jobs), .sh (D.int x5)], rfl, fun w8 h5 => hbind h5 fun t7 gt7 h6 =>
 tv_pr h6 (tv_x (ev_call (ds := [(eL D.int) v_team, (eL D.int) v_jobs, D.int x5]) (av_1 (ev_sh rfl) (av_1 (ev_sh rfl) (av_1 (ev_sh rfl) av_0))) rfl rfl (t_bars_jobs gt7))), fun w8 h7 => (by have hq := hd_eq h7; (first | subst hq | cases hq); exact ⟨_, (ev_sh rfl), rfl⟩), rfl⟩)) av_0) rfl (o_minN (xs := t9))) ((by have hq := hd_eq h8; (first | subst hq | cases hq); exact ov_val)))))))))

def c_shows_give_paper (v_team : (List Int)) (v_jobs : (List Int)) (v_thing : D) : M Bool :=
 bd (c_check_team ((eL D.int) v_team)) fun t1 =>
 bd (c_check_jobs ((eL D.int) v_jobs)) fun t2 =>
 bd (c_is_whole v_thing) fun t3 =>
 bd (cnd t3 (bd (asInt v_thing) fun t4 =>
 bd (cnd (decide (0 ≤ t4)) (bd (asInt v_thing) fun t5 =>
 bd (c_bars_jobs v_team v_jobs t5) fun t6 =>
 pr t6) (pr false)) fun t7 =>
 pr t7) (pr false)) fun t8 =>
 pr t8
set_option maxHeartbeats 4000000 in
theorem t_shows_give_paper {v_team : (List Int)} {v_jobs : (List Int)} {v_thing : D} {r : Bool} (h : Hd (c_shows_give_paper v_team v_jobs v_thing) r) : ∃ e, m_shows_give_paper [.sh ((eL D.int) v_team), .sh ((eL D.int) v_jobs), .sh (eD v_thing)] = some (.val (D.bl r) e) := by
  unfold c_shows_give_paper at h
  exact m_val (E := D.bl) (a := r) rfl (show Go F_shows_give_paper [.sh ((eL D.int) v_team), .sh ((eL D.int) v_jobs), .sh (eD v_thing)] ((OV D.bl) r) from
 (g_seq (hbind h fun t1 gt1 h1 =>
 g_expr (ev_call (ds := [eD ((eL D.int) v_team)]) (av_1 (ev_sh rfl) av_0) rfl rfl (t_check_team gt1)) ((g_seq (hbind h1 fun t2 gt2 h2 =>
 g_expr (ev_call (ds := [eD ((eL D.int) v_jobs)]) (av_1 (ev_sh rfl) av_0) rfl rfl (t_check_jobs gt2)) (hbind h2 fun t3 gt3 h3 =>
 hbind h3 fun t8 gt8 h10 =>
 g_ret (ev_andM gt8 (ev_call (ds := [eD v_thing]) (av_1 (ev_sh rfl) av_0) rfl rfl (t_is_whole gt3)) (fun _ h4 => hbind h4 fun t4 gt4 h5 =>
 hbind h5 fun t7 gt7 h9 =>
 ev_pr (K := fun v => R.val (D.bl v)) h9 (ev_andM gt7 (ev_op (ev_asInt (ev_sh rfl) gt4) ev_c rfl rfl x_ge) (fun _ h6 => hbind h6 fun t5 gt5 h7 =>
 hbind h7 fun t6 gt6 h8 =>
 ev_pr (K := fun v => R.val (D.bl v)) h8 (ev_call (ds := [(eL D.int) v_team, (eL D.int) v_jobs, D.int t5]) (av_1 (ev_sh rfl) (av_1 (ev_sh rfl) (av_1 (ev_asInt (ev_sh rfl) gt5) av_0))) rfl rfl (t_bars_jobs gt6)))))) ((by have hq := hd_eq h10; (first | subst hq | cases hq); exact ov_val)))))))))

def c_law_pick (v_store : (List Int)) (v_bound : Int) : M (Int × (List Int)) :=
 bd (getM v_store 0) fun t1 =>
 cnd (decide (0 < t1)) (
 bd (getM v_store 0) fun t2 =>
 bd (modM t2 v_bound) fun t3 =>
 bd (getM v_store 0) fun t4 =>
 bd (fdivM t4 v_bound) fun t5 =>
 bd (setM v_store 0 t5) fun t6 =>
 pr (t3, t6)) (
 bd (getM v_store 2) fun t7 =>
 bd (setM v_store 2 (t7 + 1)) fun t8 =>
 bd (getM t8 1) fun t9 =>
 bd (getM t8 2) fun t10 =>
 bd (mulM 32416187567 t10) fun t11 =>
 bd (powM (t9 + t11) 3) fun t12 =>
 bd (powM 10 40) fun t13 =>
 bd (modM t12 (t13 + 121)) fun t14 =>
 bd (getM t8 2) fun t15 =>
 bd (mulM 27644437 t15) fun t16 =>
 bd (powM (t14 + t16) 3) fun t17 =>
 bd (powM 10 39) fun t18 =>
 bd (modM t17 (t18 + 3)) fun t19 =>
 bd (fdivM t19 16381) fun t20 =>
 bd (modM t20 v_bound) fun t21 =>
 pr (t21, t8))
set_option maxHeartbeats 4000000 in
theorem t_law_pick {v_store : (List Int)} {v_bound : Int} {r : (Int × (List Int))} (h : Hd (c_law_pick v_store v_bound) r) : ∃ e, m_law_pick [.ow (List.map D.int v_store), .sh (D.int v_bound)] = some (.val (D.int r.1) (.ow (List.map D.int r.2) :: e)) := by
  unfold c_law_pick at h
  exact m_io (E := D.int) (a := r) rfl (show Go F_law_pick [.ow (List.map D.int v_store), .sh (D.int v_bound), .un, .un] ((OVo D.int D.int) r) from
 (g_seq (hbind h fun t1 gt1 h1 =>
 g_if (tv_x (ev_op (ev_op (ev_ow rfl) ev_c rfl rfl (o_ix (E := D.int) gt1)) ev_c rfl rfl x_gt)) (fun h2 => have h3 := cnd_t h1 h2; (g_seq (hbind h3 fun t2 gt2 h5 =>
 hbind h5 fun t3 gt3 h6 =>
 g_set (e2 := [.ow (List.map D.int v_store), .sh (D.int v_bound), .sh (D.int t3), .un]) (ev_op (ev_cb (av_1 (ev_op (ev_ow rfl) ev_c rfl rfl (o_ix (E := D.int) gt2)) av_0) rfl x_int) (ev_sh rfl) rfl rfl (o_mod gt3)) rfl ((g_seq (hbind h6 fun t4 gt4 h7 =>
 hbind h7 fun t5 gt5 h8 =>
 hbind h8 fun t6 gt6 h9 =>
 g_put (E := D.int) (v := t5) (xs0 := []) (ev_op (ev_op (ev_ow rfl) ev_c rfl rfl (o_ix (E := D.int) gt4)) (ev_sh rfl) rfl rfl (o_fdiv gt5)) rfl rfl ev_c gt6 (e2 := [.ow (List.map D.int t6), .sh (D.int v_bound), .sh (D.int t3), .un]) rfl (g_ret (ev_sh rfl) ((by have hq := hd_eq h9; (first | subst hq | cases hq); exact (ovo_val (r := (t3, t6)) rfl)))))))))) (fun h2 => have h4 := cnd_f h1 h2; g_next ((g_seq (hbind h4 fun t7 gt7 h10 =>
 hbind h10 fun t8 gt8 h11 =>
 g_put (E := D.int) (v := (t7 + 1)) (xs0 := []) (ev_op (ev_op (ev_ow rfl) ev_c rfl rfl (o_ix (E := D.int) gt7)) ev_c rfl rfl x_add) rfl rfl ev_c gt8 (e2 := [.ow (List.map D.int t8), .sh (D.int v_bound), .un, .un]) rfl ((g_seq (hbind h11 fun t9 gt9 h12 =>
 hbind h12 fun t10 gt10 h13 =>
 hbind h13 fun t11 gt11 h14 =>
 hbind h14 fun t12 gt12 h15 =>
 hbind h15 fun t13 gt13 h16 =>
 hbind h16 fun t14 gt14 h17 =>
 g_set (e2 := [.ow (List.map D.int t8), .sh (D.int v_bound), .un, .sh (D.int t14)]) (ev_op (ev_cb (av_1 (ev_op (ev_op (ev_op (ev_ow rfl) ev_c rfl rfl (o_ix (E := D.int) gt9)) (ev_op ev_c (ev_op (ev_ow rfl) ev_c rfl rfl (o_ix (E := D.int) gt10)) rfl rfl (o_mul gt11)) rfl rfl x_add) ev_c rfl rfl (o_pow gt12)) av_0) rfl x_int) (ev_op (ev_op ev_c ev_c rfl rfl (o_pow gt13)) ev_c rfl rfl x_add) rfl rfl (o_mod gt14)) rfl ((g_seq (hbind h17 fun t15 gt15 h18 =>
 hbind h18 fun t16 gt16 h19 =>
 hbind h19 fun t17 gt17 h20 =>
 hbind h20 fun t18 gt18 h21 =>
 hbind h21 fun t19 gt19 h22 =>
 g_set (e2 := [.ow (List.map D.int t8), .sh (D.int v_bound), .un, .sh (D.int t19)]) (ev_op (ev_cb (av_1 (ev_op (ev_op (ev_sh rfl) (ev_op ev_c (ev_op (ev_ow rfl) ev_c rfl rfl (o_ix (E := D.int) gt15)) rfl rfl (o_mul gt16)) rfl rfl x_add) ev_c rfl rfl (o_pow gt17)) av_0) rfl x_int) (ev_op (ev_op ev_c ev_c rfl rfl (o_pow gt18)) ev_c rfl rfl x_add) rfl rfl (o_mod gt19)) rfl (hbind h22 fun t20 gt20 h23 =>
 hbind h23 fun t21 gt21 h24 =>
 g_ret (ev_op (ev_cb (av_1 (ev_op (ev_sh rfl) ev_c rfl rfl (o_fdiv gt20)) av_0) rfl x_int) (ev_sh rfl) rfl rfl (o_mod gt21)) ((by have hq := hd_eq h24; (first | subst hq | cases hq); exact (ovo_val (r := (t21, t8)) rfl)))))))))))))))))

def c_law_deal (v_store : (List Int)) (v_most : Int) (v_top : Int) : M ((List Int) × (List Int)) :=
 bd (c_law_pick v_store v_most) fun t1 =>
 bd (c_law_pick t1.2 6) fun t2 =>
 cnd (decide (((1 + t1.1), t2.1).2 = 1)) (
 bd (rgM 0 2) fun t3 =>
 bd (shortM (t3).length) fun t4 =>
 bd (lcS (fun (s7 : (List Int)) (x5 : Int) => bd (c_law_pick s7 (v_top + 1)) fun t8 =>
 pr (t8.1, t8.2)) t2.2 t3) fun t10 =>
 bd (rgM 0 ((1 + t1.1), t2.1).1) fun t11 =>
 bd (shortM (t11).length) fun t12 =>
 bd (lcS (fun (s15 : (List Int)) (x13 : Int) => bd (c_law_pick s15 2) fun t16 =>
 bd (getM t10.1 t16.1) fun t17 =>
 pr (t17, t16.2)) t10.2 t11) fun t19 =>
 pr (t19.1, t19.2)) (
 cnd (decide (((1 + t1.1), t2.1).2 = 2)) (
 bd (rgM 0 ((1 + t1.1), t2.1).1) fun t20 =>
 bd (shortM (t20).length) fun t21 =>
 bd (lcS (fun (s24 : (List Int)) (x22 : Int) => bd (c_law_pick s24 ((mn2 v_top 2) + 1)) fun t25 =>
 pr (t25.1, t25.2)) t2.2 t20) fun t27 =>
 pr (t27.1, t27.2)) (
 cnd (decide (((1 + t1.1), t2.1).2 = 3)) (
 bd (rgM 0 ((1 + t1.1), t2.1).1) fun t28 =>
 bd (shortM (t28).length) fun t29 =>
 bd (lcS (fun (s32 : (List Int)) (x30 : Int) => bd (c_law_pick s32 2) fun t33 =>
 pr ((mn2 v_top (x30 + t33.1)), t33.2)) t2.2 t28) fun t35 =>
 bd (rgM 0 ((1 + t1.1), t2.1).1) fun t36 =>
 bd (shortM (t36).length) fun t37 =>
 bd (lcS (fun (s40 : ((List Int) × (List Int))) (x38 : Int) => bd (c_law_pick s40.1 ((s40.2).length : Int)) fun t41 =>
 bd (popM s40.2 t41.1) fun t42 =>
 pr (t42.1, (t41.2, t42.2))) (t35.2, t35.1) t36) fun t44 =>
 pr (t44.1, t44.2.1)) (
 cnd (decide (((1 + t1.1), t2.1).2 = 4)) (
 bd (c_law_pick t2.2 (v_top + 1)) fun t45 =>
 bd (repM [t45.1] ((1 + t1.1), t2.1).1) fun t46 =>
 pr (t46, t45.2)) (
 bd (rgM 0 ((1 + t1.1), t2.1).1) fun t47 =>
 bd (shortM (t47).length) fun t48 =>
 bd (lcS (fun (s51 : (List Int)) (x49 : Int) => bd (getM [(v_top + 1), ((mn2 v_top 3) + 1)] (if (decide (((1 + t1.1), t2.1).2 = 5)) then (1 : Int) else 0)) fun t52 =>
 bd (c_law_pick s51 t52) fun t53 =>
 pr ((v_top - t53.1), t53.2)) t2.2 t47) fun t55 =>
 pr (t55.1, t55.2)))))
set_option maxHeartbeats 4000000 in
theorem t_law_deal {v_store : (List Int)} {v_most : Int} {v_top : Int} {r : ((List Int) × (List Int))} (h : Hd (c_law_deal v_store v_most v_top) r) : ∃ e, m_law_deal [.ow (List.map D.int v_store), .sh (D.int v_most), .sh (D.int v_top)] = some (.fr (List.map D.int r.1) (.ow (List.map D.int r.2) :: e)) := by
  unfold c_law_deal at h
  exact m_ioL (E := D.int) (a := r) rfl (show Go F_law_deal [.ow (List.map D.int v_store), .sh (D.int v_most), .sh (D.int v_top), .un, .un, .un, .un, .un, .un] ((OFo 3 D.int D.int) r) from
 (g_seq (hbind h fun t1 gt1 h1 =>
 hbind h1 fun t2 gt2 h2 =>
 g_asg (d := (eT2 D.int D.int) ((1 + t1.1), t2.1)) (ev_tup (ds := [D.int (1 + t1.1), D.int t2.1]) (av_1 (ev_op ev_c (ev_io (E := D.int) (e2 := [.ow (List.map D.int t1.2), .sh (D.int v_most), .sh (D.int v_top), .un, .un, .un, .un, .un, .un]) (ds := [D.int v_most]) (av_1 (ev_ow rfl) (av_1 (ev_sh rfl) av_0)) rfl rfl rfl (t_law_pick gt1) rfl) rfl rfl x_add) (av_1 (ev_io (E := D.int) (e2 := [.ow (List.map D.int t2.2), .sh (D.int v_most), .sh (D.int v_top), .un, .un, .un, .un, .un, .un]) (ds := [D.int 6]) (av_1 (ev_ow rfl) (av_1 ev_c av_0)) rfl rfl rfl (t_law_pick gt2) rfl) av_0)) rfl (Nat.le_of_ble_eq_true rfl)) rfl (e2 := [.ow (List.map D.int t2.2), .sh (D.int v_most), .sh (D.int v_top), .sh (D.int ((1 + t1.1), t2.1).1), .sh (D.int ((1 + t1.1), t2.1).2), .un, .un, .un, .un]) rfl ((g_seq (g_if (tv_x (ev_op (ev_sh rfl) ev_c rfl rfl (x_eqI))) (fun h3 => have h4 := cnd_t h2 h3; (g_seq (hbind h4 fun t3 gt3 h6 =>
 hbind h6 fun t4 gt4 h7 =>
 hbind h7 fun t10 gt10 h10 =>
 g_set (e2 := [.ow (List.map D.int t10.2), .sh (D.int v_most), .sh (D.int v_top), .sh (D.int ((1 + t1.1), t2.1).1), .sh (D.int ((1 + t1.1), t2.1).2), .ow (List.map D.int t10.1), .un, .un, .un]) (ev_lcS (E := D.int) (E' := D.int) (e1 := [.ow (List.map D.int t10.2), .sh (D.int v_most), .sh (D.int v_top), .sh (D.int ((1 + t1.1), t2.1).1), .sh (D.int ((1 + t1.1), t2.1).2), .un, .un, .un, .un]) (fun s7 : (List Int) => [.ow (List.map D.int s7), .sh (D.int v_most), .sh (D.int v_top), .sh (D.int ((1 + t1.1), t2.1).1), .sh (D.int ((1 + t1.1), t2.1).2), .un, .un, .un, .un]) gt10 (i_r1 ev_c gt3) gt4.ok rfl rfl (fun s7 x5 w9 h8 => hbind h8 fun t8 gt8 h9 =>
 (by have hq := hd_eq h9; (first | subst hq | cases hq); exact ⟨[.ow (List.map D.int s7), .sh (D.int v_most), .sh (D.int v_top), .sh (D.int ((1 + t1.1), t2.1).1), .sh (D.int ((1 + t1.1), t2.1).2), .un, .sh (D.int x5), .un, .un], _, [.ow (List.map D.int t8.2), .sh (D.int v_most), .sh (D.int v_top), .sh (D.int ((1 + t1.1), t2.1).1), .sh (D.int ((1 + t1.1), t2.1).2), .un, .sh (D.int x5), .un, .un], [.ow (List.map D.int t8.2), .sh (D.int v_most), .sh (D.int v_top), .sh (D.int ((1 + t1.1), t2.1).1), .sh (D.int ((1 + t1.1), t2.1).2), .un, .sh (D.int x5), .un, .un], rfl, (ev_io (E := D.int) (e2 := [.ow (List.map D.int t8.2), .sh (D.int v_most), .sh (D.int v_top), .sh (D.int ((1 + t1.1), t2.1).1), .sh (D.int ((1 + t1.1), t2.1).2), .un, .sh (D.int x5), .un, .un]) (ds := [D.int (v_top + 1)]) (av_1 (ev_ow rfl) (av_1 (ev_op (ev_sh rfl) ev_c rfl rfl x_add) av_0)) rfl rfl rfl (t_law_pick gt8) rfl), rfl, rfl⟩)) rfl) rfl (hbind h10 fun t11 gt11 h11 =>
 hbind h11 fun t12 gt12 h12 =>
 hbind h12 fun t19 gt19 h16 =>
 g_ret (ev_lcS (E := D.int) (E' := D.int) (e1 := [.ow (List.map D.int t19.2), .sh (D.int v_most), .sh (D.int v_top), .sh (D.int ((1 + t1.1), t2.1).1), .sh (D.int ((1 + t1.1), t2.1).2), .ow (List.map D.int t10.1), .un, .un, .un]) (fun s15 : (List Int) => [.ow (List.map D.int s15), .sh (D.int v_most), .sh (D.int v_top), .sh (D.int ((1 + t1.1), t2.1).1), .sh (D.int ((1 + t1.1), t2.1).2), .ow (List.map D.int t10.1), .un, .un, .un]) gt19 (i_r1 (ev_sh rfl) gt11) gt12.ok rfl rfl (fun s15 x13 w18 h13 => hbind h13 fun t16 gt16 h14 =>
 hbind h14 fun t17 gt17 h15 =>
 (by have hq := hd_eq h15; (first | subst hq | cases hq); exact ⟨[.ow (List.map D.int s15), .sh (D.int v_most), .sh (D.int v_top), .sh (D.int ((1 + t1.1), t2.1).1), .sh (D.int ((1 + t1.1), t2.1).2), .ow (List.map D.int t10.1), .sh (D.int x13), .un, .un], _, [.ow (List.map D.int t16.2), .sh (D.int v_most), .sh (D.int v_top), .sh (D.int ((1 + t1.1), t2.1).1), .sh (D.int ((1 + t1.1), t2.1).2), .ow (List.map D.int t10.1), .sh (D.int x13), .un, .un], [.ow (List.map D.int t16.2), .sh (D.int v_most), .sh (D.int v_top), .sh (D.int ((1 + t1.1), t2.1).1), .sh (D.int ((1 + t1.1), t2.1).2), .ow (List.map D.int t10.1), .sh (D.int x13), .un, .un], rfl, (ev_op (ev_ow rfl) (ev_io (E := D.int) (e2 := [.ow (List.map D.int t16.2), .sh (D.int v_most), .sh (D.int v_top), .sh (D.int ((1 + t1.1), t2.1).1), .sh (D.int ((1 + t1.1), t2.1).2), .ow (List.map D.int t10.1), .sh (D.int x13), .un, .un]) (ds := [D.int 2]) (av_1 (ev_ow rfl) (av_1 ev_c av_0)) rfl rfl rfl (t_law_pick gt16) rfl) rfl rfl (o_ix (E := D.int) gt17)), rfl, rfl⟩)) rfl) ((by have hq := hd_eq h16; (first | subst hq | cases hq); exact (ofo_fr (r := (t19.1, t19.2)) rfl))))))) (fun h3 => have h5 := cnd_f h2 h3; g_next ((g_seq (g_if (tv_x (ev_op (ev_sh rfl) ev_c rfl rfl (x_eqI))) (fun h17 => have h18 := cnd_t h5 h17; hbind h18 fun t20 gt20 h20 =>
 hbind h20 fun t21 gt21 h21 =>
 hbind h21 fun t27 gt27 h24 =>
 g_ret (ev_lcS (E := D.int) (E' := D.int) (e1 := [.ow (List.map D.int t27.2), .sh (D.int v_most), .sh (D.int v_top), .sh (D.int ((1 + t1.1), t2.1).1), .sh (D.int ((1 + t1.1), t2.1).2), .un, .un, .un, .un]) (fun s24 : (List Int) => [.ow (List.map D.int s24), .sh (D.int v_most), .sh (D.int v_top), .sh (D.int ((1 + t1.1), t2.1).1), .sh (D.int ((1 + t1.1), t2.1).2), .un, .un, .un, .un]) gt27 (i_r1 (ev_sh rfl) gt20) gt21.ok rfl rfl (fun s24 x22 w26 h22 => hbind h22 fun t25 gt25 h23 =>
 (by have hq := hd_eq h23; (first | subst hq | cases hq); exact ⟨[.ow (List.map D.int s24), .sh (D.int v_most), .sh (D.int v_top), .sh (D.int ((1 + t1.1), t2.1).1), .sh (D.int ((1 + t1.1), t2.1).2), .un, .sh (D.int x22), .un, .un], _, [.ow (List.map D.int t25.2), .sh (D.int v_most), .sh (D.int v_top), .sh (D.int ((1 + t1.1), t2.1).1), .sh (D.int ((1 + t1.1), t2.1).2), .un, .sh (D.int x22), .un, .un], [.ow (List.map D.int t25.2), .sh (D.int v_most), .sh (D.int v_top), .sh (D.int ((1 + t1.1), t2.1).1), .sh (D.int ((1 + t1.1), t2.1).2), .un, .sh (D.int x22), .un, .un], rfl, (ev_io (E := D.int) (e2 := [.ow (List.map D.int t25.2), .sh (D.int v_most), .sh (D.int v_top), .sh (D.int ((1 + t1.1), t2.1).1), .sh (D.int ((1 + t1.1), t2.1).2), .un, .sh (D.int x22), .un, .un]) (ds := [D.int ((mn2 v_top 2) + 1)]) (av_1 (ev_ow rfl) (av_1 (ev_op (ev_cb (av_1 (ev_sh rfl) (av_1 ev_c av_0)) rfl o_min2) ev_c rfl rfl x_add) av_0)) rfl rfl rfl (t_law_pick gt25) rfl), rfl, rfl⟩)) rfl) ((by have hq := hd_eq h24; (first | subst hq | cases hq); exact (ofo_fr (r := (t27.1, t27.2)) rfl)))) (fun h17 => have h19 := cnd_f h5 h17; g_next ((g_seq (g_if (tv_x (ev_op (ev_sh rfl) ev_c rfl rfl (x_eqI))) (fun h25 => have h26 := cnd_t h19 h25; (g_seq (hbind h26 fun t28 gt28 h28 =>
 hbind h28 fun t29 gt29 h29 =>
 hbind h29 fun t35 gt35 h32 =>
 g_set (e2 := [.ow (List.map D.int t35.2), .sh (D.int v_most), .sh (D.int v_top), .sh (D.int ((1 + t1.1), t2.1).1), .sh (D.int ((1 + t1.1), t2.1).2), .un, .un, .ow (List.map D.int t35.1), .un]) (ev_lcS (E := D.int) (E' := D.int) (e1 := [.ow (List.map D.int t35.2), .sh (D.int v_most), .sh (D.int v_top), .sh (D.int ((1 + t1.1), t2.1).1), .sh (D.int ((1 + t1.1), t2.1).2), .un, .un, .un, .un]) (fun s32 : (List Int) => [.ow (List.map D.int s32), .sh (D.int v_most), .sh (D.int v_top), .sh (D.int ((1 + t1.1), t2.1).1), .sh (D.int ((1 + t1.1), t2.1).2), .un, .un, .un, .un]) gt35 (i_r1 (ev_sh rfl) gt28) gt29.ok rfl rfl (fun s32 x30 w34 h30 => hbind h30 fun t33 gt33 h31 =>
 (by have hq := hd_eq h31; (first | subst hq | cases hq); exact ⟨[.ow (List.map D.int s32), .sh (D.int v_most), .sh (D.int v_top), .sh (D.int ((1 + t1.1), t2.1).1), .sh (D.int ((1 + t1.1), t2.1).2), .un, .un, .un, .sh (D.int x30)], _, [.ow (List.map D.int t33.2), .sh (D.int v_most), .sh (D.int v_top), .sh (D.int ((1 + t1.1), t2.1).1), .sh (D.int ((1 + t1.1), t2.1).2), .un, .un, .un, .sh (D.int x30)], [.ow (List.map D.int t33.2), .sh (D.int v_most), .sh (D.int v_top), .sh (D.int ((1 + t1.1), t2.1).1), .sh (D.int ((1 + t1.1), t2.1).2), .un, .un, .un, .sh (D.int x30)], rfl, (ev_cb (av_1 (ev_sh rfl) (av_1 (ev_op (ev_sh rfl) (ev_io (E := D.int) (e2 := [.ow (List.map D.int t33.2), .sh (D.int v_most), .sh (D.int v_top), .sh (D.int ((1 + t1.1), t2.1).1), .sh (D.int ((1 + t1.1), t2.1).2), .un, .un, .un, .sh (D.int x30)]) (ds := [D.int 2]) (av_1 (ev_ow rfl) (av_1 ev_c av_0)) rfl rfl rfl (t_law_pick gt33) rfl) rfl rfl x_add) av_0)) rfl o_min2), rfl, rfl⟩)) rfl) rfl (hbind h32 fun t36 gt36 h33 =>
 hbind h33 fun t37 gt37 h34 =>
 hbind h34 fun t44 gt44 h38 =>
 g_ret (ev_lcS (E := D.int) (E' := D.int) (e1 := [.ow (List.map D.int t44.2.1), .sh (D.int v_most), .sh (D.int v_top), .sh (D.int ((1 + t1.1), t2.1).1), .sh (D.int ((1 + t1.1), t2.1).2), .un, .un, .ow (List.map D.int t44.2.2), .un]) (fun s40 : ((List Int) × (List Int)) => [.ow (List.map D.int s40.1), .sh (D.int v_most), .sh (D.int v_top), .sh (D.int ((1 + t1.1), t2.1).1), .sh (D.int ((1 + t1.1), t2.1).2), .un, .un, .ow (List.map D.int s40.2), .un]) gt44 (i_r1 (ev_sh rfl) gt36) gt37.ok rfl rfl (fun s40 x38 w43 h35 => hbind h35 fun t41 gt41 h36 =>
 hbind h36 fun t42 gt42 h37 =>
 (by have hq := hd_eq h37; (first | subst hq | cases hq); exact ⟨[.ow (List.map D.int s40.1), .sh (D.int v_most), .sh (D.int v_top), .sh (D.int ((1 + t1.1), t2.1).1), .sh (D.int ((1 + t1.1), t2.1).2), .un, .sh (D.int x38), .ow (List.map D.int s40.2), .un], _, [.ow (List.map D.int t41.2), .sh (D.int v_most), .sh (D.int v_top), .sh (D.int ((1 + t1.1), t2.1).1), .sh (D.int ((1 + t1.1), t2.1).2), .un, .sh (D.int x38), .ow (List.map D.int t42.2), .un], [.ow (List.map D.int t41.2), .sh (D.int v_most), .sh (D.int v_top), .sh (D.int ((1 + t1.1), t2.1).1), .sh (D.int ((1 + t1.1), t2.1).2), .un, .sh (D.int x38), .ow (List.map D.int t42.2), .un], rfl, (ev_pop (E := D.int) (e2 := [.ow (List.map D.int t41.2), .sh (D.int v_most), .sh (D.int v_top), .sh (D.int ((1 + t1.1), t2.1).1), .sh (D.int ((1 + t1.1), t2.1).2), .un, .sh (D.int x38), .ow (List.map D.int t42.2), .un]) rfl (av_1 (ev_io (E := D.int) (e2 := [.ow (List.map D.int t41.2), .sh (D.int v_most), .sh (D.int v_top), .sh (D.int ((1 + t1.1), t2.1).1), .sh (D.int ((1 + t1.1), t2.1).2), .un, .sh (D.int x38), .ow (List.map D.int s40.2), .un]) (ds := [D.int ((s40.2).length : Int)]) (av_1 (ev_ow rfl) (av_1 (ev_cb (av_1 (ev_ow rfl) av_0) rfl (o_len (E := D.int) (xs := s40.2))) av_0)) rfl rfl rfl (t_law_pick gt41) rfl) av_0) rfl gt42 rfl), rfl, rfl⟩)) rfl) ((by have hq := hd_eq h38; (first | subst hq | cases hq); exact (ofo_fr (r := (t44.1, t44.2.1)) rfl))))))) (fun h25 => have h27 := cnd_f h19 h25; g_next ((g_seq (g_if (tv_x (ev_op (ev_sh rfl) ev_c rfl rfl (x_eqI))) (fun h39 => have h40 := cnd_t h27 h39; hbind h40 fun t45 gt45 h42 =>
 hbind h42 fun t46 gt46 h43 =>
 g_ret (ev_opL (ev_lst (ds := List.map D.int [t45.1]) (av_1 (ev_io (E := D.int) (e2 := [.ow (List.map D.int t45.2), .sh (D.int v_most), .sh (D.int v_top), .sh (D.int ((1 + t1.1), t2.1).1), .sh (D.int ((1 + t1.1), t2.1).2), .un, .un, .un, .un]) (ds := [D.int (v_top + 1)]) (av_1 (ev_ow rfl) (av_1 (ev_op (ev_sh rfl) ev_c rfl rfl x_add) av_0)) rfl rfl rfl (t_law_pick gt45) rfl) av_0) rfl (Nat.le_of_ble_eq_true rfl)) (ev_sh rfl) rfl rfl (o_rep (E := D.int) gt46)) ((by have hq := hd_eq h43; (first | subst hq | cases hq); exact (ofo_fr (r := (t46, t45.2)) rfl)))) (fun h39 => have h41 := cnd_f h27 h39; g_next (hbind h41 fun t47 gt47 h44 =>
 hbind h44 fun t48 gt48 h45 =>
 hbind h45 fun t55 gt55 h49 =>
 g_ret (ev_lcS (E := D.int) (E' := D.int) (e1 := [.ow (List.map D.int t55.2), .sh (D.int v_most), .sh (D.int v_top), .sh (D.int ((1 + t1.1), t2.1).1), .sh (D.int ((1 + t1.1), t2.1).2), .un, .un, .un, .un]) (fun s51 : (List Int) => [.ow (List.map D.int s51), .sh (D.int v_most), .sh (D.int v_top), .sh (D.int ((1 + t1.1), t2.1).1), .sh (D.int ((1 + t1.1), t2.1).2), .un, .un, .un, .un]) gt55 (i_r1 (ev_sh rfl) gt47) gt48.ok rfl rfl (fun s51 x49 w54 h46 => hbind h46 fun t52 gt52 h47 =>
 hbind h47 fun t53 gt53 h48 =>
 (by have hq := hd_eq h48; (first | subst hq | cases hq); exact ⟨[.ow (List.map D.int s51), .sh (D.int v_most), .sh (D.int v_top), .sh (D.int ((1 + t1.1), t2.1).1), .sh (D.int ((1 + t1.1), t2.1).2), .un, .sh (D.int x49), .un, .un], _, [.ow (List.map D.int t53.2), .sh (D.int v_most), .sh (D.int v_top), .sh (D.int ((1 + t1.1), t2.1).1), .sh (D.int ((1 + t1.1), t2.1).2), .un, .sh (D.int x49), .un, .un], [.ow (List.map D.int t53.2), .sh (D.int v_most), .sh (D.int v_top), .sh (D.int ((1 + t1.1), t2.1).1), .sh (D.int ((1 + t1.1), t2.1).2), .un, .sh (D.int x49), .un, .un], rfl, (ev_op (ev_sh rfl) (ev_io (E := D.int) (e2 := [.ow (List.map D.int t53.2), .sh (D.int v_most), .sh (D.int v_top), .sh (D.int ((1 + t1.1), t2.1).1), .sh (D.int ((1 + t1.1), t2.1).2), .un, .sh (D.int x49), .un, .un]) (ds := [D.int t52]) (av_1 (ev_ow rfl) (av_1 (ev_op (ev_lst (ds := List.map D.int [(v_top + 1), ((mn2 v_top 3) + 1)]) (av_1 (ev_op (ev_sh rfl) ev_c rfl rfl x_add) (av_1 (ev_op (ev_cb (av_1 (ev_sh rfl) (av_1 ev_c av_0)) rfl o_min2) ev_c rfl rfl x_add) av_0)) rfl (Nat.le_of_ble_eq_true rfl)) (ev_cb (av_1 (ev_op (ev_sh rfl) ev_c rfl rfl (x_eqI)) av_0) rfl rfl) rfl rfl (o_ix (E := D.int) gt52)) av_0)) rfl rfl rfl (t_law_pick gt53) rfl) rfl rfl x_sub), rfl, rfl⟩)) rfl) ((by have hq := hd_eq h49; (first | subst hq | cases hq); exact (ofo_fr (r := (t55.1, t55.2)) rfl)))))))))))))))))))))))

def c_law_high (v_store : (List Int)) : M ((List Int) × (List Int)) :=
 bd (c_law_pick v_store 3) fun t1 =>
 bd (getM [1, 4, 41] t1.1) fun t2 =>
 bd (pr ([] : (List Int))) fun v_left3 =>
 bd (c_law_pick t1.2 20) fun t6 =>
 bd (rgM 0 (1 + t6.1)) fun t7 =>
 bd (forM (fun (s8 : ((List Int) × (List Int))) (x10 : Int) => (bd (c_law_pick s8.1 t2) fun t12 =>
 bd (appM s8.2 ((40 + x10) - t12.1)) fun t13 =>
 pr (t12.2, t13) : M ((List Int) × (List Int)))) (t6.2, v_left3) t7) fun s14 =>
 bd (rgM 0 ((s14.2).length : Int)) fun t16 =>
 bd (shortM (t16).length) fun t17 =>
 bd (lcS (fun (s20 : ((List Int) × (List Int))) (x18 : Int) => bd (c_law_pick s20.1 ((s20.2).length : Int)) fun t21 =>
 bd (popM s20.2 t21.1) fun t22 =>
 pr (t22.1, (t21.2, t22.2))) (s14.1, s14.2) t16) fun t24 =>
 pr (t24.1, t24.2.1)
set_option maxHeartbeats 4000000 in
theorem t_law_high {v_store : (List Int)} {r : ((List Int) × (List Int))} (h : Hd (c_law_high v_store) r) : ∃ e, m_law_high [.ow (List.map D.int v_store)] = some (.fr (List.map D.int r.1) (.ow (List.map D.int r.2) :: e)) := by
  unfold c_law_high at h
  exact m_ioL (E := D.int) (a := r) rfl (show Go F_law_high [.ow (List.map D.int v_store), .un, .un, .un, .un] ((OFo 1 D.int D.int) r) from
 (g_seq (hbind h fun t1 gt1 h1 =>
 hbind h1 fun t2 gt2 h2 =>
 hbind h2 fun v_left3 gv_left3 h3 =>
 g_parN (e2 := [.ow (List.map D.int t1.2), .sh (D.int t2), .ow (List.map D.int v_left3), .un, .un]) (av_1 (ev_op (ev_lst (ds := List.map D.int [1, 4, 41]) (av_1 ev_c (av_1 ev_c (av_1 ev_c av_0))) rfl (Nat.le_of_ble_eq_true rfl)) (ev_io (E := D.int) (e2 := [.ow (List.map D.int t1.2), .un, .un, .un, .un]) (ds := [D.int 3]) (av_1 (ev_ow rfl) (av_1 ev_c av_0)) rfl rfl rfl (t_law_pick gt1) rfl) rfl rfl (o_ix (E := D.int) gt2)) (av_1 (ev_pr (K := fun v => R.fr (List.map D.int v)) gv_left3 (ev_lst (ds := []) av_0 rfl (Nat.le_of_ble_eq_true rfl))) av_0)) rfl rfl ((g_seq (hbind h3 fun t6 gt6 h6 =>
 hbind h6 fun t7 gt7 h7 =>
 hbind h7 fun s14 gs14 h11 =>
 g_for (E := D.int) (fun (s8 : ((List Int) × (List Int))) (j9 : Sl) => [.ow (List.map D.int s8.1), .sh (D.int t2), .ow (List.map D.int s8.2), j9, .un]) (.un) gs14 (i_r1 (ev_op ev_c (ev_io (E := D.int) (e2 := [.ow (List.map D.int t6.2), .sh (D.int t2), .ow (List.map D.int v_left3), .un, .un]) (ds := [D.int 20]) (av_1 (ev_ow rfl) (av_1 ev_c av_0)) rfl rfl rfl (t_law_pick gt6) rfl) rfl rfl x_add) gt7) rfl (fun s8 x10 j9 r11 h8 => g_tgt (e1 := [.ow (List.map D.int s8.1), .sh (D.int t2), .ow (List.map D.int s8.2), .sh (D.int x10), .un]) rfl (hbind h8 fun t12 gt12 h9 =>
 hbind h9 fun t13 gt13 h10 =>
 g_app (E := D.int) (v := ((40 + x10) - t12.1)) rfl (ev_op (ev_op ev_c (ev_sh rfl) rfl rfl x_add) (ev_io (E := D.int) (e2 := [.ow (List.map D.int t12.2), .sh (D.int t2), .ow (List.map D.int s8.2), .sh (D.int x10), .un]) (ds := [D.int t2]) (av_1 (ev_ow rfl) (av_1 (ev_sh rfl) av_0)) rfl rfl rfl (t_law_pick gt12) rfl) rfl rfl x_sub) rfl rfl gt13 (e2 := [.ow (List.map D.int t12.2), .sh (D.int t2), .ow (List.map D.int t13), .sh (D.int x10), .un]) rfl ((by have hq := hd_eq h10; (first | subst hq | cases hq); exact nq_nx (shape := (fun (s8 : ((List Int) × (List Int))) (j9 : Sl) => [.ow (List.map D.int s8.1), .sh (D.int t2), .ow (List.map D.int s8.2), j9, .un])) (.sh (D.int x10)) rfl)))) (fun j15 => hbind h11 fun t16 gt16 h12 =>
 hbind h12 fun t17 gt17 h13 =>
 hbind h13 fun t24 gt24 h17 =>
 g_ret (ev_lcS (E := D.int) (E' := D.int) (e1 := [.ow (List.map D.int t24.2.1), .sh (D.int t2), .ow (List.map D.int t24.2.2), j15, .un]) (fun s20 : ((List Int) × (List Int)) => [.ow (List.map D.int s20.1), .sh (D.int t2), .ow (List.map D.int s20.2), j15, .un]) gt24 (i_r1 (ev_cb (av_1 (ev_ow rfl) av_0) rfl (o_len (E := D.int) (xs := s14.2))) gt16) gt17.ok rfl rfl (fun s20 x18 w23 h14 => hbind h14 fun t21 gt21 h15 =>
 hbind h15 fun t22 gt22 h16 =>
 (by have hq := hd_eq h16; (first | subst hq | cases hq); exact ⟨[.ow (List.map D.int s20.1), .sh (D.int t2), .ow (List.map D.int s20.2), j15, .sh (D.int x18)], _, [.ow (List.map D.int t21.2), .sh (D.int t2), .ow (List.map D.int t22.2), j15, .sh (D.int x18)], [.ow (List.map D.int t21.2), .sh (D.int t2), .ow (List.map D.int t22.2), j15, .sh (D.int x18)], rfl, (ev_pop (E := D.int) (e2 := [.ow (List.map D.int t21.2), .sh (D.int t2), .ow (List.map D.int t22.2), j15, .sh (D.int x18)]) rfl (av_1 (ev_io (E := D.int) (e2 := [.ow (List.map D.int t21.2), .sh (D.int t2), .ow (List.map D.int s20.2), j15, .sh (D.int x18)]) (ds := [D.int ((s20.2).length : Int)]) (av_1 (ev_ow rfl) (av_1 (ev_cb (av_1 (ev_ow rfl) av_0) rfl (o_len (E := D.int) (xs := s20.2))) av_0)) rfl rfl rfl (t_law_pick gt21) rfl) av_0) rfl gt22 rfl), rfl, rfl⟩)) rfl) ((by have hq := hd_eq h17; (first | subst hq | cases hq); exact (ofo_fr (r := (t24.1, t24.2.1)) rfl))))))))))

def c_law_rising (v_store : (List Int)) (v_size_here : Int) (v_most : Int) : M ((List Int) × (List Int)) :=
 bd (c_law_pick v_store 4) fun t1 =>
 bd (rgM 0 v_size_here) fun t2 =>
 bd (shortM (t2).length) fun t3 =>
 bd (lcO (fun (s5 : (List Int)) (x4 : Int) => bd (cnd (decide (t1.1 = 3)) (pr (true, s5)) (bd (getM [2, 5, 9, 1] t1.1) fun t7 =>
 bd (c_law_pick s5 t7) fun t8 =>
 pr ((decide (t8.1 = 0)), t8.2))) fun t9 =>
 cnd t9.1 (
 pr (some x4, t9.2)) (pr (none, t9.2))) t1.2 t2) fun t11 =>
 bd (c_law_pick t11.2 2) fun t12 =>
 bd (getM [(cutI t11.1 none (some v_most)), (cutI t11.1 (some (-v_most)) none)] t12.1) fun t13 =>
 pr (t13, t12.2)
set_option maxHeartbeats 4000000 in
theorem t_law_rising {v_store : (List Int)} {v_size_here : Int} {v_most : Int} {r : ((List Int) × (List Int))} (h : Hd (c_law_rising v_store v_size_here v_most) r) : ∃ e, m_law_rising [.ow (List.map D.int v_store), .sh (D.int v_size_here), .sh (D.int v_most)] = some (.val ((eL D.int) r.1) (.ow (List.map D.int r.2) :: e)) := by
  unfold c_law_rising at h
  exact m_io (E := (eL D.int)) (a := r) rfl (show Go F_law_rising [.ow (List.map D.int v_store), .sh (D.int v_size_here), .sh (D.int v_most), .un, .un, .un] ((OVo (eL D.int) D.int) r) from
 (g_seq (hbind h fun t1 gt1 h1 =>
 g_set (e2 := [.ow (List.map D.int t1.2), .sh (D.int v_size_here), .sh (D.int v_most), .sh (D.int t1.1), .un, .un]) (ev_io (E := D.int) (e2 := [.ow (List.map D.int t1.2), .sh (D.int v_size_here), .sh (D.int v_most), .un, .un, .un]) (ds := [D.int 4]) (av_1 (ev_ow rfl) (av_1 ev_c av_0)) rfl rfl rfl (t_law_pick gt1) rfl) rfl ((g_seq (hbind h1 fun t2 gt2 h2 =>
 hbind h2 fun t3 gt3 h3 =>
 hbind h3 fun t11 gt11 h11 =>
 g_set (e2 := [.ow (List.map D.int t11.2), .sh (D.int v_size_here), .sh (D.int v_most), .sh (D.int t1.1), .ow (List.map D.int t11.1), .un]) (ev_lcO (E := D.int) (E' := D.int) (e1 := [.ow (List.map D.int t11.2), .sh (D.int v_size_here), .sh (D.int v_most), .sh (D.int t1.1), .un, .un]) (fun s5 : (List Int) => [.ow (List.map D.int s5), .sh (D.int v_size_here), .sh (D.int v_most), .sh (D.int t1.1), .un, .un]) gt11 (i_r1 (ev_sh rfl) gt2) gt3.ok rfl rfl (fun s5 x4 w10 h4 => hbind h4 fun t9 gt9 h9 =>
 (by cases h10 : t9.1 with
 | true => exact (have h5 := cnd_t h9 h10; (by have hq := hd_eq h5; (first | subst hq | cases hq); exact ⟨_, _, [.ow (List.map D.int t9.2), .sh (D.int v_size_here), .sh (D.int v_most), .sh (D.int t1.1), .un, .sh (D.int x4)], rfl, (tv_orS (fun (s6 : (List Int)) => [.ow (List.map D.int s6), .sh (D.int v_size_here), .sh (D.int v_most), .sh (D.int t1.1), .un, .sh (D.int x4)]) gt9 (tv_x (ev_op (ev_sh rfl) ev_c rfl rfl (x_eqI))) (fun _ h6 => hbind h6 fun t7 gt7 h7 =>
 hbind h7 fun t8 gt8 h8 =>
 (by have hq := hd_eq h8; (first | subst hq | cases hq); exact (tv_x (ev_op (ev_io (E := D.int) (e2 := [.ow (List.map D.int t8.2), .sh (D.int v_size_here), .sh (D.int v_most), .sh (D.int t1.1), .un, .sh (D.int x4)]) (ds := [D.int t7]) (av_1 (ev_ow rfl) (av_1 (ev_op (ev_lst (ds := List.map D.int [2, 5, 9, 1]) (av_1 ev_c (av_1 ev_c (av_1 ev_c (av_1 ev_c av_0)))) rfl (Nat.le_of_ble_eq_true rfl)) (ev_sh rfl) rfl rfl (o_ix (E := D.int) gt7)) av_0)) rfl rfl rfl (t_law_pick gt8) rfl) ev_c rfl rfl (x_eqI)))))), .inl ⟨h10, _, x4, [.ow (List.map D.int t9.2), .sh (D.int v_size_here), .sh (D.int v_most), .sh (D.int t1.1), .un, .sh (D.int x4)], [.ow (List.map D.int t9.2), .sh (D.int v_size_here), .sh (D.int v_most), .sh (D.int t1.1), .un, .sh (D.int x4)], rfl, (ev_sh rfl), rfl, rfl⟩⟩))
 | false => exact (by have hq := hd_eq (cnd_f h9 h10); cases hq; exact ⟨_, _, [.ow (List.map D.int t9.2), .sh (D.int v_size_here), .sh (D.int v_most), .sh (D.int t1.1), .un, .sh (D.int x4)], rfl, (tv_orS (fun (s6 : (List Int)) => [.ow (List.map D.int s6), .sh (D.int v_size_here), .sh (D.int v_most), .sh (D.int t1.1), .un, .sh (D.int x4)]) gt9 (tv_x (ev_op (ev_sh rfl) ev_c rfl rfl (x_eqI))) (fun _ h6 => hbind h6 fun t7 gt7 h7 =>
 hbind h7 fun t8 gt8 h8 =>
 (by have hq := hd_eq h8; (first | subst hq | cases hq); exact (tv_x (ev_op (ev_io (E := D.int) (e2 := [.ow (List.map D.int t8.2), .sh (D.int v_size_here), .sh (D.int v_most), .sh (D.int t1.1), .un, .sh (D.int x4)]) (ds := [D.int t7]) (av_1 (ev_ow rfl) (av_1 (ev_op (ev_lst (ds := List.map D.int [2, 5, 9, 1]) (av_1 ev_c (av_1 ev_c (av_1 ev_c (av_1 ev_c av_0)))) rfl (Nat.le_of_ble_eq_true rfl)) (ev_sh rfl) rfl rfl (o_ix (E := D.int) gt7)) av_0)) rfl rfl rfl (t_law_pick gt8) rfl) ev_c rfl rfl (x_eqI)))))), .inr ⟨h10, rfl, rfl⟩⟩))) rfl) rfl (hbind h11 fun t12 gt12 h12 =>
 hbind h12 fun t13 gt13 h13 =>
 g_ret (ev_op (ev_lst (ds := List.map (eL D.int) [(cutI t11.1 none (some v_most)), (cutI t11.1 (some (-v_most)) none)]) (av_1 (ev_sl (E := D.int) (xs := t11.1) (ev_ow rfl) pv_no (pv_so (ev_sh rfl)) rfl) (av_1 (ev_sl (E := D.int) (xs := t11.1) (ev_ow rfl) (pv_so (ev_un (ev_sh rfl) rfl x_neg)) pv_no rfl) av_0)) rfl (Nat.le_of_ble_eq_true rfl)) (ev_io (E := D.int) (e2 := [.ow (List.map D.int t12.2), .sh (D.int v_size_here), .sh (D.int v_most), .sh (D.int t1.1), .ow (List.map D.int t11.1), .un]) (ds := [D.int 2]) (av_1 (ev_ow rfl) (av_1 ev_c av_0)) rfl rfl rfl (t_law_pick gt12) rfl) rfl rfl (o_ix (E := (eL D.int)) gt13)) ((by have hq := hd_eq h13; (first | subst hq | cases hq); exact (ovo_val (r := (t13, t12.2)) rfl))))))))))

def c_law_things  : M (List D) :=
 bd (powM 10 30) fun t1 =>
 pr ([D.non, (D.bl true), (D.bl false), (D.str ("" : Str)), (D.str ("0" : Str)), (D.tup []), (D.lst []), (D.dct [] []), ((eL D.int) [0]), (D.tup [(D.int 0)]), (D.int (-1)), (D.int (0 - t1)), ((eL (eO D.int)) [none]), (D.str ("1" : Str)), (D.dct [.inr "0"] [.int 0]), (D.tup [(D.tup [])])] : List D)
set_option maxHeartbeats 4000000 in
theorem t_law_things  {r : (List D)} (h : Hd (c_law_things ) r) : ∃ e, m_law_things [] = some (.fr (List.map eD r) e) := by
  unfold c_law_things at h
  exact m_fr (E := eD) (a := r) rfl (show Go F_law_things [] ((OF 0 eD) r) from
 hbind h fun t1 gt1 h1 =>
 g_ret (ev_lst (ds := List.map eD [D.non, (D.bl true), (D.bl false), (D.str ("" : Str)), (D.str ("0" : Str)), (D.tup []), (D.lst []), (D.dct [] []), ((eL D.int) [0]), (D.tup [(D.int 0)]), (D.int (-1)), (D.int (0 - t1)), ((eL (eO D.int)) [none]), (D.str ("1" : Str)), (D.dct [.inr "0"] [.int 0]), (D.tup [(D.tup [])])]) (av_1 ev_c (av_1 ev_c (av_1 ev_c (av_1 ev_c (av_1 ev_c (av_1 (ev_tup (ds := []) av_0 rfl (Nat.le_of_ble_eq_true rfl)) (av_1 (ev_lst (ds := []) av_0 rfl (Nat.le_of_ble_eq_true rfl)) (av_1 ev_c (av_1 (ev_lst (ds := List.map D.int [0]) (av_1 ev_c av_0) rfl (Nat.le_of_ble_eq_true rfl)) (av_1 (ev_tup (ds := [(D.int 0)]) (av_1 ev_c av_0) rfl (Nat.le_of_ble_eq_true rfl)) (av_1 (ev_un ev_c rfl x_neg) (av_1 (ev_op ev_c (ev_op ev_c ev_c rfl rfl (o_pow gt1)) rfl rfl x_sub) (av_1 (ev_lst (ds := List.map (eO D.int) [none]) (av_1 ev_c av_0) rfl (Nat.le_of_ble_eq_true rfl)) (av_1 ev_c (av_1 ev_c (av_1 (ev_tup (ds := [(D.tup [])]) (av_1 (ev_tup (ds := []) av_0 rfl (Nat.le_of_ble_eq_true rfl)) av_0) rfl (Nat.le_of_ble_eq_true rfl)) av_0)))))))))))))))) rfl (Nat.le_of_ble_eq_true rfl)) ((by have hq := hd_eq h1; (first | subst hq | cases hq); exact of_fr)))

def c_law_crowd (v_deal : (List Int)) (v_gang : (List Int)) (v_first : Int) : M Bool :=
 bd (shortM (v_gang).length) fun t1 =>
 bd (filM (fun (x2 : Int) => bd (getM v_deal x2) fun t4 =>
 pr (decide (t4 ≤ v_first))) (fun (x2 : Int) => pr x2) v_gang) fun t6 =>
 pr (decide (v_first < ((t6).length : Int)))
set_option maxHeartbeats 4000000 in
theorem t_law_crowd {v_deal : (List Int)} {v_gang : (List Int)} {v_first : Int} {r : Bool} (h : Hd (c_law_crowd v_deal v_gang v_first) r) : ∃ e, m_law_crowd [.sh ((eL D.int) v_deal), .sh ((eL D.int) v_gang), .sh (D.int v_first)] = some (.val (D.bl r) e) := by
  unfold c_law_crowd at h
  exact m_val (E := D.bl) (a := r) rfl (show Go F_law_crowd [.sh ((eL D.int) v_deal), .sh ((eL D.int) v_gang), .sh (D.int v_first), .un] ((OV D.bl) r) from
 hbind h fun t1 gt1 h1 =>
 hbind h1 fun t6 gt6 h5 =>
 g_ret (ev_op (ev_cb (av_1 (ev_lcM (E := D.int) (E' := D.int) [.sh ((eL D.int) v_deal), .sh ((eL D.int) v_gang), .sh (D.int v_first), .un] gt6 (i_seq (E := D.int) (ev_sh rfl) rfl) gt1.ok rfl rfl rfl (fun x2 m3 => ⟨[.sh ((eL D.int) v_deal), .sh ((eL D.int) v_gang), .sh (D.int v_first), .sh (D.int x2)], rfl, fun w5 h2 => hbind h2 fun t4 gt4 h3 =>
 tv_pr h3 (tv_x (ev_op (ev_op (ev_sh rfl) (ev_sh rfl) rfl rfl (o_ix (E := D.int) gt4)) (ev_sh rfl) rfl rfl x_le)), fun w5 h4 => (by have hq := hd_eq h4; (first | subst hq | cases hq); exact ⟨_, (ev_sh rfl), rfl⟩), rfl⟩)) av_0) rfl (o_len (E := D.int) (xs := t6))) (ev_sh rfl) rfl rfl x_gt) ((by have hq := hd_eq h5; (first | subst hq | cases hq); exact ov_val)))

def c_law_lack (v_deal : (List Int)) (v_goods : (List Int)) (v_first : Int) : M Bool :=
 bd (shortM (v_deal).length) fun t1 =>
 bd (filM (fun (x2 : Int) => pr (decide (v_first < x2))) (fun (x2 : Int) => pr x2) v_deal) fun t5 =>
 bd (shortM (v_goods).length) fun t6 =>
 bd (filM (fun (x7 : Int) => pr (decide (v_first ≤ x7))) (fun (x7 : Int) => pr x7) v_goods) fun t10 =>
 pr (decide (((t5).length : Int) < ((t10).length : Int)))
set_option maxHeartbeats 4000000 in
theorem t_law_lack {v_deal : (List Int)} {v_goods : (List Int)} {v_first : Int} {r : Bool} (h : Hd (c_law_lack v_deal v_goods v_first) r) : ∃ e, m_law_lack [.sh ((eL D.int) v_deal), .sh ((eL D.int) v_goods), .sh (D.int v_first)] = some (.val (D.bl r) e) := by
  unfold c_law_lack at h
  exact m_val (E := D.bl) (a := r) rfl (show Go F_law_lack [.sh ((eL D.int) v_deal), .sh ((eL D.int) v_goods), .sh (D.int v_first), .un, .un] ((OV D.bl) r) from
 hbind h fun t1 gt1 h1 =>
 hbind h1 fun t5 gt5 h4 =>
 hbind h4 fun t6 gt6 h5 =>
 hbind h5 fun t10 gt10 h8 =>
 g_ret (ev_op (ev_cb (av_1 (ev_lcM (E := D.int) (E' := D.int) [.sh ((eL D.int) v_deal), .sh ((eL D.int) v_goods), .sh (D.int v_first), .un, .un] gt5 (i_seq (E := D.int) (ev_sh rfl) rfl) gt1.ok rfl rfl rfl (fun x2 m3 => ⟨[.sh ((eL D.int) v_deal), .sh ((eL D.int) v_goods), .sh (D.int v_first), .sh (D.int x2), .un], rfl, fun w4 h2 => tv_pr h2 (tv_x (ev_op (ev_sh rfl) (ev_sh rfl) rfl rfl x_gt)), fun w4 h3 => (by have hq := hd_eq h3; (first | subst hq | cases hq); exact ⟨_, (ev_sh rfl), rfl⟩), rfl⟩)) av_0) rfl (o_len (E := D.int) (xs := t5))) (ev_cb (av_1 (ev_lcM (E := D.int) (E' := D.int) [.sh ((eL D.int) v_deal), .sh ((eL D.int) v_goods), .sh (D.int v_first), .un, .un] gt10 (i_seq (E := D.int) (ev_sh rfl) rfl) gt6.ok rfl rfl rfl (fun x7 m8 => ⟨[.sh ((eL D.int) v_deal), .sh ((eL D.int) v_goods), .sh (D.int v_first), .un, .sh (D.int x7)], rfl, fun w9 h6 => tv_pr h6 (tv_x (ev_op (ev_sh rfl) (ev_sh rfl) rfl rfl x_ge)), fun w9 h7 => (by have hq := hd_eq h7; (first | subst hq | cases hq); exact ⟨_, (ev_sh rfl), rfl⟩), rfl⟩)) av_0) rfl (o_len (E := D.int) (xs := t10))) rfl rfl x_lt) ((by have hq := hd_eq h8; (first | subst hq | cases hq); exact ov_val)))

def c_counts_with_next (v_found : (List Int)) (v_level : Int) : M (List Int) :=
 bd (catM v_found [0]) fun t1 =>
 bd (forM (fun (s2 : (List Int)) (x4 : (Int × Int)) => (bd (getM s2 (x4.1 + 1)) fun t6 =>
 bd (mulM x4.2 (v_level - x4.1)) fun t7 =>
 bd (setM s2 (x4.1 + 1) (t6 + t7)) fun t8 =>
 pr t8 : M (List Int))) t1 (enumL v_found)) fun s9 =>
 pr s9
set_option maxHeartbeats 4000000 in
theorem t_counts_with_next {v_found : (List Int)} {v_level : Int} {r : (List Int)} (h : Hd (c_counts_with_next v_found v_level) r) : ∃ e, m_counts_with_next [.sh ((eL D.int) v_found), .sh (D.int v_level)] = some (.fr (List.map D.int r) e) := by
  unfold c_counts_with_next at h
  exact m_fr (E := D.int) (a := r) rfl (show Go F_counts_with_next [.sh ((eL D.int) v_found), .sh (D.int v_level), .un, .un, .un] ((OF 2 D.int) r) from
 (g_seq (hbind h fun t1 gt1 h1 =>
 g_set (e2 := [.sh ((eL D.int) v_found), .sh (D.int v_level), .ow (List.map D.int t1), .un, .un]) (ev_opL (ev_sh rfl) (ev_lst (ds := List.map D.int [0]) (av_1 ev_c av_0) rfl (Nat.le_of_ble_eq_true rfl)) rfl rfl (o_cat (E := D.int) gt1)) rfl ((g_seq (hbind h1 fun s9 gs9 h6 =>
 g_for (E := (eT2 D.int D.int)) (fun (s2 : (List Int)) (j3 : (Sl × Sl)) => [.sh ((eL D.int) v_found), .sh (D.int v_level), .ow (List.map D.int s2), j3.1, j3.2]) (.un, .un) gs9 (i_enum (E := D.int) (ev_sh rfl) rfl) rfl (fun s2 x4 j3 r5 h2 => g_tgt (e1 := [.sh ((eL D.int) v_found), .sh (D.int v_level), .ow (List.map D.int s2), .sh (D.int x4.1), .sh (D.int x4.2)]) rfl (hbind h2 fun t6 gt6 h3 =>
 hbind h3 fun t7 gt7 h4 =>
 hbind h4 fun t8 gt8 h5 =>
 g_putAug (E := D.int) (v := (t6 + t7)) rfl (ev_op (ev_sh rfl) ev_c rfl rfl x_add) gt6 (ev_op (ev_sh rfl) (ev_op (ev_sh rfl) (ev_sh rfl) rfl rfl x_sub) rfl rfl (o_mul gt7)) rfl x_add gt8 (e2 := [.sh ((eL D.int) v_found), .sh (D.int v_level), .ow (List.map D.int t8), .sh (D.int x4.1), .sh (D.int x4.2)]) rfl ((by have hq := hd_eq h5; (first | subst hq | cases hq); exact nq_nx (shape := (fun (s2 : (List Int)) (j3 : (Sl × Sl)) => [.sh ((eL D.int) v_found), .sh (D.int v_level), .ow (List.map D.int s2), j3.1, j3.2])) (.sh (D.int x4.1), .sh (D.int x4.2)) rfl)))) (fun j10 => g_ret (ev_ow rfl) ((by have hq := hd_eq h6; (first | subst hq | cases hq); exact (of_al rfl (by decide)))))))))))

def c_counts_along (v_levels : (List Int)) : M (List Int) :=
 bd (forM (fun (s1 : (List Int)) (x3 : Int) => (bd (c_counts_with_next s1 x3) fun t5 =>
 pr t5 : M (List Int))) [1] v_levels) fun s6 =>
 pr s6
set_option maxHeartbeats 4000000 in
theorem t_counts_along {v_levels : (List Int)} {r : (List Int)} (h : Hd (c_counts_along v_levels) r) : ∃ e, m_counts_along [.sh ((eL D.int) v_levels)] = some (.fr (List.map D.int r) e) := by
  unfold c_counts_along at h
  exact m_fr (E := D.int) (a := r) rfl (show Go F_counts_along [.sh ((eL D.int) v_levels), .un, .un] ((OF 1 D.int) r) from
 (g_seq (g_set (e2 := [.sh ((eL D.int) v_levels), .ow (List.map D.int [1]), .un]) (ev_lst (ds := List.map D.int [1]) (av_1 ev_c av_0) rfl (Nat.le_of_ble_eq_true rfl)) rfl ((g_seq (hbind h fun s6 gs6 h3 =>
 g_for (E := D.int) (fun (s1 : (List Int)) (j2 : Sl) => [.sh ((eL D.int) v_levels), .ow (List.map D.int s1), j2]) (.un) gs6 (i_seq (E := D.int) (ev_sh rfl) rfl) rfl (fun s1 x3 j2 r4 h1 => g_tgt (e1 := [.sh ((eL D.int) v_levels), .ow (List.map D.int s1), .sh (D.int x3)]) rfl (g_seq (g_frz (e1 := [.sh ((eL D.int) v_levels), .sh ((eL D.int) s1), .sh (D.int x3)]) rfl rfl (hbind h1 fun t5 gt5 h2 =>
 g_set (e2 := [.sh ((eL D.int) v_levels), .ow (List.map D.int t5), .sh (D.int x3)]) (ev_callL (ds := [(eL D.int) s1, D.int x3]) (av_1 (ev_sh rfl) (av_1 (ev_sh rfl) av_0)) rfl rfl (t_counts_with_next gt5)) rfl ((by have hq := hd_eq h2; (first | subst hq | cases hq); exact nq_nx (shape := (fun (s1 : (List Int)) (j2 : Sl) => [.sh ((eL D.int) v_levels), .ow (List.map D.int s1), j2])) (.sh (D.int x3)) rfl)))))) (fun j7 => g_ret (ev_ow rfl) ((by have hq := hd_eq h3; (first | subst hq | cases hq); exact (of_al rfl (by decide)))))))))))

def c_ways_of_all (v_levels : (List Int)) : M Int :=
 bd (c_counts_along (srt v_levels)) fun t1 =>
 bd (getM t1 (-1)) fun t2 =>
 pr t2
set_option maxHeartbeats 4000000 in
theorem t_ways_of_all {v_levels : (List Int)} {r : Int} (h : Hd (c_ways_of_all v_levels) r) : ∃ e, m_ways_of_all [.sh ((eL D.int) v_levels)] = some (.val (D.int r) e) := by
  unfold c_ways_of_all at h
  exact m_val (E := D.int) (a := r) rfl (show Go F_ways_of_all [.sh ((eL D.int) v_levels)] ((OV D.int) r) from
 hbind h fun t1 gt1 h1 =>
 hbind h1 fun t2 gt2 h2 =>
 g_ret (ev_op (ev_callL (ds := [(eL D.int) (srt v_levels)]) (av_1 (ev_cbL (av_1 (ev_sh rfl) av_0) rfl (o_sorted (xs := v_levels))) av_0) rfl rfl (t_counts_along gt1)) (ev_un ev_c rfl x_neg) rfl rfl (o_ix (E := D.int) gt2)) ((by have hq := hd_eq h2; (first | subst hq | cases hq); exact ov_val)))

def c_ways_of_workers (v_team : (List Int)) (v_workers : (List Int)) : M Int :=
 bd (c_check_team ((eL D.int) v_team)) fun t1 =>
 bd (c_check_workers v_team ((eL D.int) v_workers)) fun t2 =>
 bd (shortM (v_workers).length) fun t3 =>
 bd (mapM (fun (x4 : Int) => bd (getM v_team x4) fun t6 =>
 pr t6) v_workers) fun t8 =>
 bd (c_ways_of_all t8) fun t9 =>
 pr t9
set_option maxHeartbeats 4000000 in
theorem t_ways_of_workers {v_team : (List Int)} {v_workers : (List Int)} {r : Int} (h : Hd (c_ways_of_workers v_team v_workers) r) : ∃ e, m_ways_of_workers [.sh ((eL D.int) v_team), .sh ((eL D.int) v_workers)] = some (.val (D.int r) e) := by
  unfold c_ways_of_workers at h
  exact m_val (E := D.int) (a := r) rfl (show Go F_ways_of_workers [.sh ((eL D.int) v_team), .sh ((eL D.int) v_workers), .un] ((OV D.int) r) from
 (g_seq (hbind h fun t1 gt1 h1 =>
 g_expr (ev_call (ds := [eD ((eL D.int) v_team)]) (av_1 (ev_sh rfl) av_0) rfl rfl (t_check_team gt1)) ((g_seq (hbind h1 fun t2 gt2 h2 =>
 g_expr (ev_call (ds := [(eL D.int) v_team, eD ((eL D.int) v_workers)]) (av_1 (ev_sh rfl) (av_1 (ev_sh rfl) av_0)) rfl rfl (t_check_workers gt2)) (hbind h2 fun t3 gt3 h3 =>
 hbind h3 fun t8 gt8 h6 =>
 hbind h6 fun t9 gt9 h7 =>
 g_ret (ev_call (ds := [(eL D.int) t8]) (av_1 (ev_lcm (E := D.int) (E' := D.int) [.sh ((eL D.int) v_team), .sh ((eL D.int) v_workers), .un] gt8 (i_seq (E := D.int) (ev_sh rfl) rfl) gt3.ok rfl rfl rfl (fun x4 m5 => ⟨[.sh ((eL D.int) v_team), .sh ((eL D.int) v_workers), .sh (D.int x4)], rfl, fun w7 h4 => hbind h4 fun t6 gt6 h5 =>
 (by have hq := hd_eq h5; (first | subst hq | cases hq); exact ⟨_, (ev_op (ev_sh rfl) (ev_sh rfl) rfl rfl (o_ix (E := D.int) gt6)), rfl⟩), rfl⟩)) av_0) rfl rfl (t_ways_of_all gt9)) ((by have hq := hd_eq h7; (first | subst hq | cases hq); exact ov_val)))))))))

def c_can_work (v_team : (List Int)) (v_workers : (List Int)) : M Bool :=
 bd (c_ways_of_workers v_team v_workers) fun t1 =>
 pr (decide (0 < t1))
set_option maxHeartbeats 4000000 in
theorem t_can_work {v_team : (List Int)} {v_workers : (List Int)} {r : Bool} (h : Hd (c_can_work v_team v_workers) r) : ∃ e, m_can_work [.sh ((eL D.int) v_team), .sh ((eL D.int) v_workers)] = some (.val (D.bl r) e) := by
  unfold c_can_work at h
  exact m_val (E := D.bl) (a := r) rfl (show Go F_can_work [.sh ((eL D.int) v_team), .sh ((eL D.int) v_workers)] ((OV D.bl) r) from
 hbind h fun t1 gt1 h1 =>
 g_ret (ev_op (ev_call (ds := [(eL D.int) v_team, (eL D.int) v_workers]) (av_1 (ev_sh rfl) (av_1 (ev_sh rfl) av_0)) rfl rfl (t_ways_of_workers gt1)) ev_c rfl rfl x_gt) ((by have hq := hd_eq h1; (first | subst hq | cases hq); exact ov_val)))

def c_ways_of_jobs (v_team : (List Int)) (v_jobs : (List Int)) : M Int :=
 bd (c_check_team ((eL D.int) v_team)) fun t1 =>
 bd (c_check_jobs ((eL D.int) v_jobs)) fun t2 =>
 bd (shortM (v_jobs).length) fun t3 =>
 bd (mapM (fun (x4 : Int) => bd (c_count_above v_team x4) fun t6 =>
 pr t6) v_jobs) fun t8 =>
 bd (c_ways_of_all t8) fun t9 =>
 pr t9
set_option maxHeartbeats 4000000 in
theorem t_ways_of_jobs {v_team : (List Int)} {v_jobs : (List Int)} {r : Int} (h : Hd (c_ways_of_jobs v_team v_jobs) r) : ∃ e, m_ways_of_jobs [.sh ((eL D.int) v_team), .sh ((eL D.int) v_jobs)] = some (.val (D.int r) e) := by
  unfold c_ways_of_jobs at h
  exact m_val (E := D.int) (a := r) rfl (show Go F_ways_of_jobs [.sh ((eL D.int) v_team), .sh ((eL D.int) v_jobs), .un] ((OV D.int) r) from
 (g_seq (hbind h fun t1 gt1 h1 =>
 g_expr (ev_call (ds := [eD ((eL D.int) v_team)]) (av_1 (ev_sh rfl) av_0) rfl rfl (t_check_team gt1)) ((g_seq (hbind h1 fun t2 gt2 h2 =>
 g_expr (ev_call (ds := [eD ((eL D.int) v_jobs)]) (av_1 (ev_sh rfl) av_0) rfl rfl (t_check_jobs gt2)) (hbind h2 fun t3 gt3 h3 =>
 hbind h3 fun t8 gt8 h6 =>
 hbind h6 fun t9 gt9 h7 =>
 g_ret (ev_call (ds := [(eL D.int) t8]) (av_1 (ev_lcm (E := D.int) (E' := D.int) [.sh ((eL D.int) v_team), .sh ((eL D.int) v_jobs), .un] gt8 (i_seq (E := D.int) (ev_sh rfl) rfl) gt3.ok rfl rfl rfl (fun x4 m5 => ⟨[.sh ((eL D.int) v_team), .sh ((eL D.int) v_jobs), .sh (D.int x4)], rfl, fun w7 h4 => hbind h4 fun t6 gt6 h5 =>
 (by have hq := hd_eq h5; (first | subst hq | cases hq); exact ⟨_, (ev_call (ds := [(eL D.int) v_team, D.int x4]) (av_1 (ev_sh rfl) (av_1 (ev_sh rfl) av_0)) rfl rfl (t_count_above gt6)), rfl⟩), rfl⟩)) av_0) rfl rfl (t_ways_of_all gt9)) ((by have hq := hd_eq h7; (first | subst hq | cases hq); exact ov_val)))))))))

def c_can_give (v_team : (List Int)) (v_jobs : (List Int)) : M Bool :=
 bd (c_ways_of_jobs v_team v_jobs) fun t1 =>
 pr (decide (0 < t1))
set_option maxHeartbeats 4000000 in
theorem t_can_give {v_team : (List Int)} {v_jobs : (List Int)} {r : Bool} (h : Hd (c_can_give v_team v_jobs) r) : ∃ e, m_can_give [.sh ((eL D.int) v_team), .sh ((eL D.int) v_jobs)] = some (.val (D.bl r) e) := by
  unfold c_can_give at h
  exact m_val (E := D.bl) (a := r) rfl (show Go F_can_give [.sh ((eL D.int) v_team), .sh ((eL D.int) v_jobs)] ((OV D.bl) r) from
 hbind h fun t1 gt1 h1 =>
 g_ret (ev_op (ev_call (ds := [(eL D.int) v_team, (eL D.int) v_jobs]) (av_1 (ev_sh rfl) (av_1 (ev_sh rfl) av_0)) rfl rfl (t_ways_of_jobs gt1)) ev_c rfl rfl x_gt) ((by have hq := hd_eq h1; (first | subst hq | cases hq); exact ov_val)))

def c_shows_work_paper (v_team : (List Int)) (v_workers : (List Int)) (v_thing : D) : M Bool :=
 bd (c_check_team ((eL D.int) v_team)) fun t1 =>
 bd (c_check_workers v_team ((eL D.int) v_workers)) fun t2 =>
 bd (c_is_whole v_thing) fun t3 =>
 bd (cnd t3 (bd (asInt v_thing) fun t4 =>
 bd (cnd (decide (0 ≤ t4)) (bd (asInt v_thing) fun t5 =>
 bd (c_bars_workers v_team v_workers t5) fun t6 =>
 pr t6) (pr false)) fun t7 =>
 pr t7) (pr false)) fun t8 =>
 pr t8
set_option maxHeartbeats 4000000 in
theorem t_shows_work_paper {v_team : (List Int)} {v_workers : (List Int)} {v_thing : D} {r : Bool} (h : Hd (c_shows_work_paper v_team v_workers v_thing) r) : ∃ e, m_shows_work_paper [.sh ((eL D.int) v_team), .sh ((eL D.int) v_workers), .sh (eD v_thing)] = some (.val (D.bl r) e) := by
  unfold c_shows_work_paper at h
  exact m_val (E := D.bl) (a := r) rfl (show Go F_shows_work_paper [.sh ((eL D.int) v_team), .sh ((eL D.int) v_workers), .sh (eD v_thing)] ((OV D.bl) r) from
 (g_seq (hbind h fun t1 gt1 h1 =>
 g_expr (ev_call (ds := [eD ((eL D.int) v_team)]) (av_1 (ev_sh rfl) av_0) rfl rfl (t_check_team gt1)) ((g_seq (hbind h1 fun t2 gt2 h2 =>
 g_expr (ev_call (ds := [(eL D.int) v_team, eD ((eL D.int) v_workers)]) (av_1 (ev_sh rfl) (av_1 (ev_sh rfl) av_0)) rfl rfl (t_check_workers gt2)) (hbind h2 fun t3 gt3 h3 =>
 hbind h3 fun t8 gt8 h10 =>
 g_ret (ev_andM gt8 (ev_call (ds := [eD v_thing]) (av_1 (ev_sh rfl) av_0) rfl rfl (t_is_whole gt3)) (fun _ h4 => hbind h4 fun t4 gt4 h5 =>
 hbind h5 fun t7 gt7 h9 =>
 ev_pr (K := fun v => R.val (D.bl v)) h9 (ev_andM gt7 (ev_op (ev_asInt (ev_sh rfl) gt4) ev_c rfl rfl x_ge) (fun _ h6 => hbind h6 fun t5 gt5 h7 =>
 hbind h7 fun t6 gt6 h8 =>
 ev_pr (K := fun v => R.val (D.bl v)) h8 (ev_call (ds := [(eL D.int) v_team, (eL D.int) v_workers, D.int t5]) (av_1 (ev_sh rfl) (av_1 (ev_sh rfl) (av_1 (ev_asInt (ev_sh rfl) gt5) av_0))) rfl rfl (t_bars_workers gt6)))))) ((by have hq := hd_eq h10; (first | subst hq | cases hq); exact ov_val)))))))))

def c_law_right (v_store : (List Int)) (v_deal : (List Int)) (v_gang : (List Int)) (v_goods : (List Int)) : M (Bool × (List Int)) :=
 bd (reprDM ((eL (eL D.int)) [v_deal, v_gang, v_goods])) fun t1 =>
 bd (rgM 0 70) fun t2 =>
 bd (shortM (t2).length) fun t3 =>
 bd (filM (fun (x4 : Int) => bd (c_law_crowd v_deal v_gang x4) fun t6 =>
 pr t6) (fun (x4 : Int) => pr x4) t2) fun t8 =>
 bd (cnd (!(decide (t8 = ([] : (List Int))))) (bd (getM t8 0) fun t10 =>
 pr (some t10)) (pr none)) fun t11 =>
 bd (c_work_paper v_deal v_gang) fun t12 =>
 bd (c_can_work v_deal v_gang) fun t13 =>
 bd (reprDM ((eL eD) ([((eO D.int) t12), (D.bl t13)] : List D))) fun t14 =>
 bd (reprDM ((eL eD) ([((eO D.int) t11), (D.bl (t11).isNone)] : List D))) fun t15 =>
 cnd (!(decide (t14 = t15))) (
 pr (false, v_store)) (
 bd (rgM 0 70) fun t16 =>
 bd (shortM (t16).length) fun t17 =>
 bd (filM (fun (x18 : Int) => bd (c_law_lack v_deal v_goods x18) fun t20 =>
 pr t20) (fun (x18 : Int) => pr x18) t16) fun t22 =>
 bd (cnd (!(decide (t22 = ([] : (List Int))))) (bd (getM t22 0) fun t24 =>
 pr (some t24)) (pr none)) fun t25 =>
 bd (c_give_paper v_deal v_goods) fun t26 =>
 bd (c_can_give v_deal v_goods) fun t27 =>
 bd (reprDM ((eL eD) ([((eO D.int) t26), (D.bl t27)] : List D))) fun t28 =>
 bd (reprDM ((eL eD) ([((eO D.int) t25), (D.bl (t25).isNone)] : List D))) fun t29 =>
 cnd (!(decide (t28 = t29))) (
 pr (false, v_store)) (
 bd (lrgM 0 63) fun t35 =>
 bd (powM 10 30) fun t36 =>
 bd (powM 10 9) fun t37 =>
 bd (c_law_pick v_store t37) fun t38 =>
 bd (catM t35 [t36, (100 + t38.1)]) fun t39 =>
 bd (forX (fun (s40 : (List Int)) (x42 : Int) => (bd (c_shows_work_paper v_deal v_gang (D.int x42)) fun t44 =>
 bd (reprDM (D.bl t44)) fun t45 =>
 bd (reprDM (D.bl (decide (x42 ∈ t8)))) fun t46 =>
 cnd (!(decide (t45 = t46))) (
 pr (Fl.out (false, s40))) (
 bd (c_shows_give_paper v_deal v_goods (D.int x42)) fun t47 =>
 bd (reprDM (D.bl t47)) fun t48 =>
 bd (reprDM (D.bl (decide (x42 ∈ t22)))) fun t49 =>
 cnd (!(decide (t48 = t49))) (
 pr (Fl.out (false, s40))) (
 pr (Fl.go s40))) : M (Fl (Bool × (List Int)) (List Int)))) t38.2 t39) fun s50 =>
 aft s50 (fun v => pr v) (fun (s52 : (List Int)) =>
 bd (c_law_things ) fun t55 =>
 bd (forX (fun (s56 : Unit) (x58 : D) => (bd (c_shows_work_paper v_deal v_gang x58) fun t60 =>
 bd (c_shows_give_paper v_deal v_goods x58) fun t61 =>
 bd (reprDM ((eL D.bl) [t60, t61])) fun t62 =>
 cnd (!(decide (t62 = ("[False, False]" : Str)))) (
 pr (Fl.out (false, s52))) (
 pr (Fl.go ())) : M (Fl (Bool × (List Int)) Unit))) () t55) fun s63 =>
 aft s63 (fun v => pr v) (fun (s65 : Unit) =>
 bd (reprDM ((eL (eL D.int)) [v_deal, v_gang, v_goods])) fun t67 =>
 pr ((decide (t67 = t1)), s52)))))
set_option maxHeartbeats 4000000 in
theorem t_law_right {v_store : (List Int)} {v_deal : (List Int)} {v_gang : (List Int)} {v_goods : (List Int)} {r : (Bool × (List Int))} (h : Hd (c_law_right v_store v_deal v_gang v_goods) r) : ∃ e, m_law_right [.ow (List.map D.int v_store), .sh ((eL D.int) v_deal), .sh ((eL D.int) v_gang), .sh ((eL D.int) v_goods)] = some (.val (D.bl r.1) (.ow (List.map D.int r.2) :: e)) := by
  unfold c_law_right at h
  exact m_io (E := D.bl) (a := r) rfl (show Go F_law_right [.ow (List.map D.int v_store), .sh ((eL D.int) v_deal), .sh ((eL D.int) v_gang), .sh ((eL D.int) v_goods), .un, .un, .un, .un, .un, .un] ((OVo D.bl D.int) r) from
 (g_seq (hbind h fun t1 gt1 h1 =>
 g_set (e2 := [.ow (List.map D.int v_store), .sh ((eL D.int) v_deal), .sh ((eL D.int) v_gang), .sh ((eL D.int) v_goods), .sh (D.str t1), .un, .un, .un, .un, .un]) (ev_cb (av_1 (ev_lst (ds := List.map (eL D.int) [v_deal, v_gang, v_goods]) (av_1 (ev_sh rfl) (av_1 (ev_sh rfl) (av_1 (ev_sh rfl) av_0))) rfl (Nat.le_of_ble_eq_true rfl)) av_0) rfl (o_reprD gt1)) rfl ((g_seq (hbind h1 fun t2 gt2 h2 =>
 hbind h2 fun t3 gt3 h3 =>
 hbind h3 fun t8 gt8 h7 =>
 g_set (e2 := [.ow (List.map D.int v_store), .sh ((eL D.int) v_deal), .sh ((eL D.int) v_gang), .sh ((eL D.int) v_goods), .sh (D.str t1), .ow (List.map D.int t8), .un, .un, .un, .un]) (ev_lcM (E := D.int) (E' := D.int) [.ow (List.map D.int v_store), .sh ((eL D.int) v_deal), .sh ((eL D.int) v_gang), .sh ((eL D.int) v_goods), .sh (D.str t1), .un, .un, .un, .un, .un] gt8 (i_r1 ev_c gt2) gt3.ok rfl rfl rfl (fun x4 m5 => ⟨[.ow (List.map D.int v_store), .sh ((eL D.int) v_deal), .sh ((eL D.int) v_gang), .sh ((eL D.int) v_goods), .sh (D.str t1), .un, .sh (D.int x4), .un, .un, .un], rfl, fun w7 h4 => hbind h4 fun t6 gt6 h5 =>
 tv_pr h5 (tv_x (ev_call (ds := [(eL D.int) v_deal, (eL D.int) v_gang, D.int x4]) (av_1 (ev_sh rfl) (av_1 (ev_sh rfl) (av_1 (ev_sh rfl) av_0))) rfl rfl (t_law_crowd gt6))), fun w7 h6 => (by have hq := hd_eq h6; (first | subst hq | cases hq); exact ⟨_, (ev_sh rfl), rfl⟩), rfl⟩)) rfl ((g_seq (hbind h7 fun t11 gt11 h11 =>
 g_set (e2 := [.ow (List.map D.int v_store), .sh ((eL D.int) v_deal), .sh ((eL D.int) v_gang), .sh ((eL D.int) v_goods), .sh (D.str t1), .ow (List.map D.int t8), .un, .sh ((eO D.int) t11), .un, .un]) (ev_iteM (K := fun v => R.val ((eO D.int) v)) gt11 (tv_x (ev_op (ev_ow rfl) (ev_lst (ds := []) av_0 rfl (Nat.le_of_ble_eq_true rfl)) rfl rfl (x_neL (xs := t8) (ys := ([] : (List Int)))))) (fun w9 h8 => hbind h8 fun t10 gt10 h10 =>
 ev_pr (K := fun v => R.val ((eO D.int) v)) h10 (ev_op (ev_ow rfl) ev_c rfl rfl (o_ix (E := D.int) gt10))) (fun w9 h9 => ev_pr (K := fun v => R.val ((eO D.int) v)) h9 ev_c)) rfl ((g_seq (hbind h11 fun t12 gt12 h12 =>
 hbind h12 fun t13 gt13 h13 =>
 hbind h13 fun t14 gt14 h14 =>
 hbind h14 fun t15 gt15 h15 =>
 g_if (tv_x (ev_op (ev_cb (av_1 (ev_lst (ds := List.map eD [((eO D.int) t12), (D.bl t13)]) (av_1 (ev_call (ds := [(eL D.int) v_deal, (eL D.int) v_gang]) (av_perm (js := [0, 1]) (av_1 (ev_sh rfl) (av_1 (ev_sh rfl) av_0))) rfl rfl (t_work_paper gt12)) (av_1 (ev_call (ds := [(eL D.int) v_deal, (eL D.int) v_gang]) (av_1 (ev_sh rfl) (av_1 (ev_sh rfl) av_0)) rfl rfl (t_can_work gt13)) av_0)) rfl (Nat.le_of_ble_eq_true rfl)) av_0) rfl (o_reprD gt14)) (ev_cb (av_1 (ev_lst (ds := List.map eD [((eO D.int) t11), (D.bl (t11).isNone)]) (av_1 (ev_sh rfl) (av_1 (ev_op (ev_sh rfl) ev_c rfl rfl (o_isN (x := t11))) av_0)) rfl (Nat.le_of_ble_eq_true rfl)) av_0) rfl (o_reprD gt15)) rfl rfl (o_neS))) (fun h16 => have h17 := cnd_t h15 h16; g_ret ev_c ((by have hq := hd_eq h17; (first | subst hq | cases hq); exact (ovo_val (r := (false, v_store)) rfl)))) (fun h16 => have h18 := cnd_f h15 h16; g_next ((g_seq (hbind h18 fun t16 gt16 h19 =>
 hbind h19 fun t17 gt17 h20 =>
 hbind h20 fun t22 gt22 h24 =>
 g_set (e2 := [.ow (List.map D.int v_store), .sh ((eL D.int) v_deal), .sh ((eL D.int) v_gang), .sh ((eL D.int) v_goods), .sh (D.str t1), .ow (List.map D.int t8), .un, .sh ((eO D.int) t11), .ow (List.map D.int t22), .un]) (ev_lcM (E := D.int) (E' := D.int) [.ow (List.map D.int v_store), .sh ((eL D.int) v_deal), .sh ((eL D.int) v_gang), .sh ((eL D.int) v_goods), .sh (D.str t1), .ow (List.map D.int t8), .un, .sh ((eO D.int) t11), .un, .un] gt22 (i_r1 ev_c gt16) gt17.ok rfl rfl rfl (fun x18 m19 => ⟨[.ow (List.map D.int v_store), .sh ((eL D.int) v_deal), .sh ((eL D.int) v_gang), .sh ((eL D.int) v_goods), .sh (D.str t1), .ow (List.map D.int t8), .sh (D.int x18), .sh ((eO D.int) t11), .un, .un], rfl, fun w21 h21 => hbind h21 fun t20 gt20 h22 =>
 tv_pr h22 (tv_x (ev_call (ds := [(eL D.int) v_deal, (eL D.int) v_goods, D.int x18]) (av_1 (ev_sh rfl) (av_1 (ev_sh rfl) (av_1 (ev_sh rfl) av_0))) rfl rfl (t_law_lack gt20))), fun w21 h23 => (by have hq := hd_eq h23; (first | subst hq | cases hq); exact ⟨_, (ev_sh rfl), rfl⟩), rfl⟩)) rfl ((g_seq (hbind h24 fun t25 gt25 h28 =>
 g_set (e2 := [.ow (List.map D.int v_store), .sh ((eL D.int) v_deal), .sh ((eL D.int) v_gang), .sh ((eL D.int) v_goods), .sh (D.str t1), .ow (List.map D.int t8), .un, .sh ((eO D.int) t25), .ow (List.map D.int t22), .un]) (ev_iteM (K := fun v => R.val ((eO D.int) v)) gt25 (tv_x (ev_op (ev_ow rfl) (ev_lst (ds := []) av_0 rfl (Nat.le_of_ble_eq_true rfl)) rfl rfl (x_neL (xs := t22) (ys := ([] : (List Int)))))) (fun w23 h25 => hbind h25 fun t24 gt24 h27 =>
 ev_pr (K := fun v => R.val ((eO D.int) v)) h27 (ev_op (ev_ow rfl) ev_c rfl rfl (o_ix (E := D.int) gt24))) (fun w23 h26 => ev_pr (K := fun v => R.val ((eO D.int) v)) h26 ev_c)) rfl ((g_seq (hbind h28 fun t26 gt26 h29 =>
 hbind h29 fun t27 gt27 h30 =>
 hbind h30 fun t28 gt28 h31 =>
 hbind h31 fun t29 gt29 h32 =>
 g_if (tv_x (ev_op (ev_cb (av_1 (ev_lst (ds := List.map eD [((eO D.int) t26), (D.bl t27)]) (av_1 (ev_call (ds := [(eL D.int) v_deal, (eL D.int) v_goods]) (av_perm (js := [0, 1]) (av_1 (ev_sh rfl) (av_1 (ev_sh rfl) av_0))) rfl rfl (t_give_paper gt26)) (av_1 (ev_call (ds := [(eL D.int) v_deal, (eL D.int) v_goods]) (av_1 (ev_sh rfl) (av_1 (ev_sh rfl) av_0)) rfl rfl (t_can_give gt27)) av_0)) rfl (Nat.le_of_ble_eq_true rfl)) av_0) rfl (o_reprD gt28)) (ev_cb (av_1 (ev_lst (ds := List.map eD [((eO D.int) t25), (D.bl (t25).isNone)]) (av_1 (ev_sh rfl) (av_1 (ev_op (ev_sh rfl) ev_c rfl rfl (o_isN (x := t25))) av_0)) rfl (Nat.le_of_ble_eq_true rfl)) av_0) rfl (o_reprD gt29)) rfl rfl (o_neS))) (fun h33 => have h34 := cnd_t h32 h33; g_ret ev_c ((by have hq := hd_eq h34; (first | subst hq | cases hq); exact (ovo_val (r := (false, v_store)) rfl)))) (fun h33 => have h35 := cnd_f h32 h33; g_next ((g_seq (hbind h35 fun t35 gt35 h41 =>
 hbind h41 fun t36 gt36 h42 =>
 hbind h42 fun t37 gt37 h43 =>
 hbind h43 fun t38 gt38 h44 =>
 hbind h44 fun t39 gt39 h45 =>
 hbind h45 fun s50 gs50 h59 =>
 g_forX (E := D.int) (fun (s40 : (List Int)) (j41 : Sl) => [.ow (List.map D.int s40), .sh ((eL D.int) v_deal), .sh ((eL D.int) v_gang), .sh ((eL D.int) v_goods), .sh (D.str t1), .ow (List.map D.int t8), j41, .sh ((eO D.int) t25), .ow (List.map D.int t22), .un]) (.un) (OVo D.bl D.int) gs50 (i_seq (E := D.int) (ev_opL (ev_lr1 ev_c gt35) (ev_lst (ds := List.map D.int [t36, (100 + t38.1)]) (av_1 (ev_op ev_c ev_c rfl rfl (o_pow gt36)) (av_1 (ev_op ev_c (ev_io (E := D.int) (e2 := [.ow (List.map D.int t38.2), .sh ((eL D.int) v_deal), .sh ((eL D.int) v_gang), .sh ((eL D.int) v_goods), .sh (D.str t1), .ow (List.map D.int t8), .un, .sh ((eO D.int) t25), .ow (List.map D.int t22), .un]) (ds := [D.int t37]) (av_1 (ev_ow rfl) (av_1 (ev_op ev_c ev_c rfl rfl (o_pow gt37)) av_0)) rfl rfl rfl (t_law_pick gt38) rfl) rfl rfl x_add) av_0)) rfl (Nat.le_of_ble_eq_true rfl)) rfl rfl (o_cat (E := D.int) gt39)) rfl) rfl (fun s40 x42 j41 r43 h46 => g_tgt (e1 := [.ow (List.map D.int s40), .sh ((eL D.int) v_deal), .sh ((eL D.int) v_gang), .sh ((eL D.int) v_goods), .sh (D.str t1), .ow (List.map D.int t8), .sh (D.int x42), .sh ((eO D.int) t25), .ow (List.map D.int t22), .un]) rfl ((g_seq (hbind h46 fun t44 gt44 h47 =>
 hbind h47 fun t45 gt45 h48 =>
 hbind h48 fun t46 gt46 h49 =>
 g_if (tv_x (ev_op (ev_cb (av_1 (ev_call (ds := [(eL D.int) v_deal, (eL D.int) v_gang, eD (D.int x42)]) (av_perm (js := [0, 1, 2]) (av_1 (ev_sh rfl) (av_1 (ev_sh rfl) (av_1 (ev_sh rfl) av_0)))) rfl rfl (t_shows_work_paper gt44)) av_0) rfl (o_reprD gt45)) (ev_cb (av_1 (ev_op (ev_sh rfl) (ev_ow rfl) rfl rfl (o_inI (xs := t8))) av_0) rfl (o_reprD gt46)) rfl rfl (o_neS))) (fun h50 => have h51 := cnd_t h49 h50; g_ret ev_c ((by have hq := hd_eq h51; (first | subst hq | cases hq); exact lq_rt (shape := (fun (s40 : (List Int)) (j41 : Sl) => [.ow (List.map D.int s40), .sh ((eL D.int) v_deal), .sh ((eL D.int) v_gang), .sh ((eL D.int) v_goods), .sh (D.str t1), .ow (List.map D.int t8), j41, .sh ((eO D.int) t25), .ow (List.map D.int t22), .un])) ((ovo_val (r := (false, s40)) rfl))))) (fun h50 => have h52 := cnd_f h49 h50; g_next (hbind h52 fun t47 gt47 h53 =>
 hbind h53 fun t48 gt48 h54 =>
 hbind h54 fun t49 gt49 h55 =>
 g_if (tv_x (ev_op (ev_cb (av_1 (ev_call (ds := [(eL D.int) v_deal, (eL D.int) v_goods, eD (D.int x42)]) (av_perm (js := [0, 1, 2]) (av_1 (ev_sh rfl) (av_1 (ev_sh rfl) (av_1 (ev_sh rfl) av_0)))) rfl rfl (t_shows_give_paper gt47)) av_0) rfl (o_reprD gt48)) (ev_cb (av_1 (ev_op (ev_sh rfl) (ev_ow rfl) rfl rfl (o_inI (xs := t22))) av_0) rfl (o_reprD gt49)) rfl rfl (o_neS))) (fun h56 => have h57 := cnd_t h55 h56; g_ret ev_c ((by have hq := hd_eq h57; (first | subst hq | cases hq); exact lq_rt (shape := (fun (s40 : (List Int)) (j41 : Sl) => [.ow (List.map D.int s40), .sh ((eL D.int) v_deal), .sh ((eL D.int) v_gang), .sh ((eL D.int) v_goods), .sh (D.str t1), .ow (List.map D.int t8), j41, .sh ((eO D.int) t25), .ow (List.map D.int t22), .un])) ((ovo_val (r := (false, s40)) rfl))))) (fun h56 => have h58 := cnd_f h55 h56; g_next ((by have hq := hd_eq h58; (first | subst hq | cases hq); exact lq_nx (shape := (fun (s40 : (List Int)) (j41 : Sl) => [.ow (List.map D.int s40), .sh ((eL D.int) v_deal), .sh ((eL D.int) v_gang), .sh ((eL D.int) v_goods), .sh (D.str t1), .ow (List.map D.int t8), j41, .sh ((eO D.int) t25), .ow (List.map D.int t22), .un])) (.sh (D.int x42)) rfl))))))))) (fun s52 j51 e53 => have h60 := aft_go h59 e53; (g_seq (hbind h60 fun t55 gt55 h62 =>
 hbind h62 fun s63 gs63 h70 =>
 g_forX (E := eD) (fun (s56 : Unit) (j57 : Sl) => [.ow (List.map D.int s52), .sh ((eL D.int) v_deal), .sh ((eL D.int) v_gang), .sh ((eL D.int) v_goods), .sh (D.str t1), .ow (List.map D.int t8), j51, .sh ((eO D.int) t25), .ow (List.map D.int t22), j57]) (.un) (OVo D.bl D.int) gs63 (i_seq (E := eD) (ev_callL (ds := []) av_0 rfl rfl (t_law_things gt55)) rfl) rfl (fun s56 x58 j57 r59 h63 => g_tgt (e1 := [.ow (List.map D.int s52), .sh ((eL D.int) v_deal), .sh ((eL D.int) v_gang), .sh ((eL D.int) v_goods), .sh (D.str t1), .ow (List.map D.int t8), j51, .sh ((eO D.int) t25), .ow (List.map D.int t22), .sh (eD x58)]) rfl (hbind h63 fun t60 gt60 h64 =>
 hbind h64 fun t61 gt61 h65 =>
 hbind h65 fun t62 gt62 h66 =>
 g_if (tv_x (ev_op (ev_cb (av_1 (ev_lst (ds := List.map D.bl [t60, t61]) (av_1 (ev_call (ds := [(eL D.int) v_deal, (eL D.int) v_gang, eD x58]) (av_1 (ev_sh rfl) (av_1 (ev_sh rfl) (av_1 (ev_sh rfl) av_0))) rfl rfl (t_shows_work_paper gt60)) (av_1 (ev_call (ds := [(eL D.int) v_deal, (eL D.int) v_goods, eD x58]) (av_1 (ev_sh rfl) (av_1 (ev_sh rfl) (av_1 (ev_sh rfl) av_0))) rfl rfl (t_shows_give_paper gt61)) av_0)) rfl (Nat.le_of_ble_eq_true rfl)) av_0) rfl (o_reprD gt62)) ev_c rfl rfl (o_neS))) (fun h67 => have h68 := cnd_t h66 h67; g_ret ev_c ((by have hq := hd_eq h68; (first | subst hq | cases hq); exact lq_rt (shape := (fun (s56 : Unit) (j57 : Sl) => [.ow (List.map D.int s52), .sh ((eL D.int) v_deal), .sh ((eL D.int) v_gang), .sh ((eL D.int) v_goods), .sh (D.str t1), .ow (List.map D.int t8), j51, .sh ((eO D.int) t25), .ow (List.map D.int t22), j57])) ((ovo_val (r := (false, s52)) rfl))))) (fun h67 => have h69 := cnd_f h66 h67; g_next ((by have hq := hd_eq h69; (first | subst hq | cases hq); exact lq_nx (shape := (fun (s56 : Unit) (j57 : Sl) => [.ow (List.map D.int s52), .sh ((eL D.int) v_deal), .sh ((eL D.int) v_gang), .sh ((eL D.int) v_goods), .sh (D.str t1), .ow (List.map D.int t8), j51, .sh ((eO D.int) t25), .ow (List.map D.int t22), j57])) (.sh (eD x58)) rfl))))) (fun s65 j64 e66 => have h71 := aft_go h70 e66; hbind h71 fun t67 gt67 h72 =>
 g_ret (ev_op (ev_cb (av_1 (ev_lst (ds := List.map (eL D.int) [v_deal, v_gang, v_goods]) (av_1 (ev_sh rfl) (av_1 (ev_sh rfl) (av_1 (ev_sh rfl) av_0))) rfl (Nat.le_of_ble_eq_true rfl)) av_0) rfl (o_reprD gt67)) (ev_sh rfl) rfl rfl (o_eqS)) ((by have hq := hd_eq h72; (first | subst hq | cases hq); exact (ovo_val (r := ((decide (t67 = t1)), s52)) rfl)))) (fun v o e q i => (by have hq := aft_out h70 e; cases hd_eq hq; obtain ⟨_, _, rfl⟩ := i; exact q))))) (fun v o e q i => (by have hq := aft_out h59 e; cases hd_eq hq; obtain ⟨_, _, rfl⟩ := i; exact q))))))))))))))))))))))))))))

def c_law (v_script : (List Int)) : M Bool :=
 bd (rgM 0 (mx2 1 (mn2 4 ((v_script).length : Int)))) fun t2 =>
 bd (forX (fun (s3 : Unit) (x5 : Int) => (bd (c_law_store v_script x5) fun t7 =>
 bd (c_law_deal t7 20 40) fun t12 =>
 bd (c_law_deal t12.2 6 5) fun t13 =>
 bd (c_law_deal t13.2 20 12) fun t14 =>
 bd (c_law_high t14.2) fun t15 =>
 bd (forX (fun (s16 : (List Int)) (x18 : (List Int)) => (bd (c_law_rising s16 ((x18).length : Int) 20) fun t20 =>
 bd (maxM x18) fun t21 =>
 bd (c_law_pick t20.2 3) fun t22 =>
 bd (getM [60, (t21 + 1), 20] t22.1) fun t23 =>
 bd (c_law_rising t22.2 t23 20) fun t24 =>
 bd (c_law_right t24.2 x18 t20.1 t24.1) fun t25 =>
 cnd (!t25.1) (
 pr (Fl.out false)) (
 pr (Fl.go t25.2)) : M (Fl Bool (List Int)))) t15.2 [t12.1, t13.1, t14.1, t15.1]) fun s26 =>
 aft s26 (fun v => pr (Fl.out v)) (fun (s28 : (List Int)) =>
 pr (Fl.go ())) : M (Fl Bool Unit))) () t2) fun s30 =>
 aft s30 (fun v => pr v) (fun (s32 : Unit) =>
 bd (c_work_paper [0] [0]) fun t34 =>
 bd (c_work_paper [1, 1, 3] [0, 1, 2]) fun t35 =>
 bd (c_work_paper [1, 1] ([] : (List Int))) fun t36 =>
 bd (pr [t34, t35, t36]) fun v_told37 =>
 bd (deqM ((eL (eO D.int)) v_told37) ((eL eD) ([(D.int 0), (D.int 1), D.non] : List D))) fun t38 =>
 bd (cnd (!t38) (pr true) (bd (repM [20] 20) fun t39 =>
 bd (lrgM 0 20) fun t40 =>
 bd (c_work_paper t39 t40) fun t41 =>
 pr (t41).isSome)) fun t42 =>
 cnd t42 (
 pr false) (
 bd (c_give_paper [2, 1, 2] [0, 1]) fun t43 =>
 bd (c_give_paper [2, 1, 2] [0, 1, 2]) fun t44 =>
 bd (c_give_paper [5] [3, 4]) fun t45 =>
 bd (pr [t43, t44, t45]) fun v_told46 =>
 bd (deqM ((eL (eO D.int)) v_told46) ((eL eD) ([D.non, (D.int 2), (D.int 0)] : List D))) fun t47 =>
 bd (cnd (!t47) (pr true) (bd (c_give_paper [5] [59]) fun t48 =>
 pr (!(decide (t48 = some 5))))) fun t49 =>
 cnd t49 (
 pr false) (
 bd (repM [40] 20) fun t50 =>
 bd (lrgM 20 40) fun t51 =>
 bd (c_give_paper t50 t51) fun t52 =>
 bd (cnd (t52).isSome (pr true) (bd (repM [40] 20) fun t53 =>
 bd (lrgM 21 41) fun t54 =>
 bd (c_give_paper t53 t54) fun t55 =>
 pr (!(decide (t55 = some 40))))) fun t56 =>
 cnd t56 (
 pr false) (
 bd (lrgM 40 60) fun t57 =>
 bd (lrgM 39 59) fun t58 =>
 bd (c_give_paper t57 t58) fun t59 =>
 bd (c_give_paper t57 [57, 58, 59]) fun t60 =>
 bd (c_give_paper t57 [59]) fun t61 =>
 bd (pr [t59, t60, t61]) fun v_told62 =>
 bd (deqM ((eL (eO D.int)) v_told62) ((eL eD) ([D.non, (D.int 57), (D.int 59)] : List D))) fun t63 =>
 bd (cnd t63 (bd (lrgM 0 20) fun t64 =>
 bd (c_work_paper t57 t64) fun t65 =>
 bd (cnd (t65).isNone (bd (c_shows_give_paper t57 [59] (D.int 59)) fun t66 =>
 pr t66) (pr false)) fun t67 =>
 pr t67) (pr false)) fun t68 =>
 pr t68))))
set_option maxHeartbeats 4000000 in
theorem t_law {v_script : (List Int)} {r : Bool} (h : Hd (c_law v_script) r) : ∃ e, m_law [.sh (D.scr v_script)] = some (.val (D.bl r) e) := by
  unfold c_law at h
  exact m_val (E := D.bl) (a := r) rfl (show Go F_law [.sh (D.scr v_script), .un, .un, .un, .un, .un, .un, .un] ((OV D.bl) r) from
 (g_seq (hbind h fun t2 gt2 h2 =>
 hbind h2 fun s30 gs30 h25 =>
 g_forX (E := D.int) (fun (s3 : Unit) (j4 : (Sl × Sl × Sl × Sl × Sl)) => [.sh (D.scr v_script), j4.1, j4.2.1, j4.2.2.1, j4.2.2.2.1, j4.2.2.2.2, .un, .un]) (.un, .un, .un, .un, .un) (OV D.bl) gs30 (i_r1 (ev_cb (av_1 ev_c (av_1 (ev_cb (av_1 ev_c (av_1 (ev_cb (av_1 (ev_sh rfl) av_0) rfl o_lenS) av_0)) rfl o_min2) av_0)) rfl o_max2) gt2) rfl (fun s3 x5 j4 r6 h3 => g_tgt (e1 := [.sh (D.scr v_script), .sh (D.int x5), j4.2.1, j4.2.2.1, j4.2.2.2.1, j4.2.2.2.2, .un, .un]) rfl ((g_seq (hbind h3 fun t7 gt7 h4 =>
 g_set (e2 := [.sh (D.scr v_script), .sh (D.int x5), .ow (List.map D.int t7), j4.2.2.1, j4.2.2.2.1, j4.2.2.2.2, .un, .un]) (ev_callL (ds := [D.scr v_script, D.int x5]) (av_1 (ev_sh rfl) (av_1 (ev_sh rfl) av_0)) rfl rfl (t_law_store gt7)) rfl (hbind h4 fun t12 gt12 h9 =>
 hbind h9 fun t13 gt13 h10 =>
 hbind h10 fun t14 gt14 h11 =>
 hbind h11 fun t15 gt15 h12 =>
 hbind h12 fun s26 gs26 h23 =>
 g_forX (E := (eL D.int)) (fun (s16 : (List Int)) (j17 : (Sl × Sl × Sl)) => [.sh (D.scr v_script), .sh (D.int x5), .ow (List.map D.int s16), j17.1, j17.2.1, j17.2.2, .un, .un]) (j4.2.2.1, j4.2.2.2.1, j4.2.2.2.2) (OV D.bl) gs26 (i_seq (E := (eL D.int)) (ev_lst (ds := List.map (eL D.int) [t12.1, t13.1, t14.1, t15.1]) (av_1 (ev_ioL (E := D.int) (e2 := [.sh (D.scr v_script), .sh (D.int x5), .ow (List.map D.int t12.2), j4.2.2.1, j4.2.2.2.1, j4.2.2.2.2, .un, .un]) (ds := [D.int 20, D.int 40]) (av_1 (ev_ow rfl) (av_1 ev_c (av_1 ev_c av_0))) rfl rfl rfl (t_law_deal gt12) rfl) (av_1 (ev_ioL (E := D.int) (e2 := [.sh (D.scr v_script), .sh (D.int x5), .ow (List.map D.int t13.2), j4.2.2.1, j4.2.2.2.1, j4.2.2.2.2, .un, .un]) (ds := [D.int 6, D.int 5]) (av_1 (ev_ow rfl) (av_1 ev_c (av_1 ev_c av_0))) rfl rfl rfl (t_law_deal gt13) rfl) (av_1 (ev_ioL (E := D.int) (e2 := [.sh (D.scr v_script), .sh (D.int x5), .ow (List.map D.int t14.2), j4.2.2.1, j4.2.2.2.1, j4.2.2.2.2, .un, .un]) (ds := [D.int 20, D.int 12]) (av_1 (ev_ow rfl) (av_1 ev_c (av_1 ev_c av_0))) rfl rfl rfl (t_law_deal gt14) rfl) (av_1 (ev_ioL (E := D.int) (e2 := [.sh (D.scr v_script), .sh (D.int x5), .ow (List.map D.int t15.2), j4.2.2.1, j4.2.2.2.1, j4.2.2.2.2, .un, .un]) (ds := []) (av_1 (ev_ow rfl) av_0) rfl rfl rfl (t_law_high gt15) rfl) av_0)))) rfl (Nat.le_of_ble_eq_true rfl)) rfl) rfl (fun s16 x18 j17 r19 h13 => g_tgt (e1 := [.sh (D.scr v_script), .sh (D.int x5), .ow (List.map D.int s16), .sh ((eL D.int) x18), j17.2.1, j17.2.2, .un, .un]) rfl ((g_seq (hbind h13 fun t20 gt20 h14 =>
 g_set (e2 := [.sh (D.scr v_script), .sh (D.int x5), .ow (List.map D.int t20.2), .sh ((eL D.int) x18), .sh ((eL D.int) t20.1), j17.2.2, .un, .un]) (ev_io (E := D.int) (e2 := [.sh (D.scr v_script), .sh (D.int x5), .ow (List.map D.int t20.2), .sh ((eL D.int) x18), j17.2.1, j17.2.2, .un, .un]) (ds := [D.int ((x18).length : Int), D.int 20]) (av_1 (ev_ow rfl) (av_1 (ev_cb (av_1 (ev_sh rfl) av_0) rfl (o_len (E := D.int) (xs := x18))) (av_1 ev_c av_0))) rfl rfl rfl (t_law_rising gt20) rfl) rfl ((g_seq (hbind h14 fun t21 gt21 h15 =>
 hbind h15 fun t22 gt22 h16 =>
 hbind h16 fun t23 gt23 h17 =>
 hbind h17 fun t24 gt24 h18 =>
 g_set (e2 := [.sh (D.scr v_script), .sh (D.int x5), .ow (List.map D.int t24.2), .sh ((eL D.int) x18), .sh ((eL D.int) t20.1), .sh ((eL D.int) t24.1), .un, .un]) (ev_io (E := D.int) (e2 := [.sh (D.scr v_script), .sh (D.int x5), .ow (List.map D.int t24.2), .sh ((eL D.int) x18), .sh ((eL D.int) t20.1), j17.2.2, .un, .un]) (ds := [D.int t23, D.int 20]) (av_1 (ev_ow rfl) (av_1 (ev_op (ev_lst (ds := List.map D.int [60, (t21 + 1), 20]) (av_1 ev_c (av_1 (ev_op (ev_cb (av_1 (ev_sh rfl) av_0) rfl (o_max gt21)) ev_c rfl rfl x_add) (av_1 ev_c av_0))) rfl (Nat.le_of_ble_eq_true rfl)) (ev_io (E := D.int) (e2 := [.sh (D.scr v_script), .sh (D.int x5), .ow (List.map D.int t22.2), .sh ((eL D.int) x18), .sh ((eL D.int) t20.1), j17.2.2, .un, .un]) (ds := [D.int 3]) (av_1 (ev_ow rfl) (av_1 ev_c av_0)) rfl rfl rfl (t_law_pick gt22) rfl) rfl rfl (o_ix (E := D.int) gt23)) (av_1 ev_c av_0))) rfl rfl rfl (t_law_rising gt24) rfl) rfl (hbind h18 fun t25 gt25 h19 =>
 g_if (tv_not (tv_x (ev_io (E := D.int) (e2 := [.sh (D.scr v_script), .sh (D.int x5), .ow (List.map D.int t25.2), .sh ((eL D.int) x18), .sh ((eL D.int) t20.1), .sh ((eL D.int) t24.1), .un, .un]) (ds := [(eL D.int) x18, (eL D.int) t20.1, (eL D.int) t24.1]) (av_1 (ev_ow rfl) (av_1 (ev_sh rfl) (av_1 (ev_sh rfl) (av_1 (ev_sh rfl) av_0)))) rfl rfl rfl (t_law_right gt25) rfl))) (fun h20 => have h21 := cnd_t h19 h20; g_ret ev_c ((by have hq := hd_eq h21; (first | subst hq | cases hq); exact lq_rt (shape := (fun (s16 : (List Int)) (j17 : (Sl × Sl × Sl)) => [.sh (D.scr v_script), .sh (D.int x5), .ow (List.map D.int s16), j17.1, j17.2.1, j17.2.2, .un, .un])) (ov_val)))) (fun h20 => have h22 := cnd_f h19 h20; g_next ((by have hq := hd_eq h22; (first | subst hq | cases hq); exact lq_nx (shape := (fun (s16 : (List Int)) (j17 : (Sl × Sl × Sl)) => [.sh (D.scr v_script), .sh (D.int x5), .ow (List.map D.int s16), j17.1, j17.2.1, j17.2.2, .un, .un])) (.sh ((eL D.int) x18), .sh ((eL D.int) t20.1), .sh ((eL D.int) t24.1)) rfl))))))))))) (fun s28 j27 e29 => have h24 := aft_go h23 e29; (by have hq := hd_eq h24; (first | subst hq | cases hq); exact lq_nx (shape := (fun (s3 : Unit) (j4 : (Sl × Sl × Sl × Sl × Sl)) => [.sh (D.scr v_script), j4.1, j4.2.1, j4.2.2.1, j4.2.2.2.1, j4.2.2.2.2, .un, .un])) (.sh (D.int x5), .ow (List.map D.int s28), j27.1, j27.2.1, j27.2.2) rfl)) (fun v o e q i => (by have hq := aft_out h23 e; cases hd_eq hq; obtain ⟨_, _, rfl⟩ := i; exact lq_out (shape := (fun (s3 : Unit) (j4 : (Sl × Sl × Sl × Sl × Sl)) => [.sh (D.scr v_script), j4.1, j4.2.1, j4.2.2.1, j4.2.2.2.1, j4.2.2.2.2, .un, .un])) q ⟨_, _, rfl⟩))))))) (fun s32 j31 e33 => have h26 := aft_go h25 e33; (g_seq (hbind h26 fun t34 gt34 h27 =>
 hbind h27 fun t35 gt35 h28 =>
 hbind h28 fun t36 gt36 h29 =>
 hbind h29 fun v_told37 gv_told37 h30 =>
 g_set (e2 := [.sh (D.scr v_script), j31.1, j31.2.1, j31.2.2.1, j31.2.2.2.1, j31.2.2.2.2, .ow (List.map (eO D.int) v_told37), .un]) (ev_pr (K := fun v => R.fr (List.map (eO D.int) v)) gv_told37 (ev_lst (ds := List.map (eO D.int) [t34, t35, t36]) (av_1 (ev_call (ds := [(eL D.int) [0], (eL D.int) [0]]) (av_1 (ev_lst (ds := List.map D.int [0]) (av_1 ev_c av_0) rfl (Nat.le_of_ble_eq_true rfl)) (av_1 (ev_lst (ds := List.map D.int [0]) (av_1 ev_c av_0) rfl (Nat.le_of_ble_eq_true rfl)) av_0)) rfl rfl (t_work_paper gt34)) (av_1 (ev_call (ds := [(eL D.int) [1, 1, 3], (eL D.int) [0, 1, 2]]) (av_1 (ev_lst (ds := List.map D.int [1, 1, 3]) (av_1 ev_c (av_1 ev_c (av_1 ev_c av_0))) rfl (Nat.le_of_ble_eq_true rfl)) (av_1 (ev_lst (ds := List.map D.int [0, 1, 2]) (av_1 ev_c (av_1 ev_c (av_1 ev_c av_0))) rfl (Nat.le_of_ble_eq_true rfl)) av_0)) rfl rfl (t_work_paper gt35)) (av_1 (ev_call (ds := [(eL D.int) [1, 1], (eL D.int) ([] : (List Int))]) (av_1 (ev_lst (ds := List.map D.int [1, 1]) (av_1 ev_c (av_1 ev_c av_0)) rfl (Nat.le_of_ble_eq_true rfl)) (av_1 (ev_lst (ds := []) av_0 rfl (Nat.le_of_ble_eq_true rfl)) av_0)) rfl rfl (t_work_paper gt36)) av_0))) rfl (Nat.le_of_ble_eq_true rfl))) rfl ((g_seq (g_seq (g_frz (e1 := [.sh (D.scr v_script), j31.1, j31.2.1, j31.2.2.1, j31.2.2.2.1, j31.2.2.2.2, .sh ((eL (eO D.int)) v_told37), .un]) rfl rfl (hbind h30 fun t38 gt38 h31 =>
 hbind h31 fun t42 gt42 h36 =>
 g_if (tv_orM gt42 (tv_x (ev_opV (lv_of (ev_sh rfl) (fun _ => rfl)) (lv_of (ev_lst (ds := List.map eD [(D.int 0), (D.int 1), D.non]) (av_1 ev_c (av_1 ev_c (av_1 ev_c av_0))) rfl (Nat.le_of_ble_eq_true rfl)) (fun _ => rfl)) (o_neD gt38))) (fun _ h32 => hbind h32 fun t39 gt39 h33 =>
 hbind h33 fun t40 gt40 h34 =>
 hbind h34 fun t41 gt41 h35 =>
 tv_pr h35 (tv_x (ev_op (ev_call (ds := [(eL D.int) t39, (eL D.int) t40]) (av_1 (ev_opL (ev_lst (ds := List.map D.int [20]) (av_1 ev_c av_0) rfl (Nat.le_of_ble_eq_true rfl)) ev_c rfl rfl (o_rep (E := D.int) gt39)) (av_1 (ev_lr1 ev_c gt40) av_0)) rfl rfl (t_work_paper gt41)) ev_c rfl rfl (o_notN (x := t41)))))) (fun h37 => have h38 := cnd_t h36 h37; g_ret ev_c ((by have hq := hd_eq h38; (first | subst hq | cases hq); exact ov_val))) (fun h37 => have h39 := cnd_f h36 h37; g_next ((g_seq (hbind h39 fun t43 gt43 h40 =>
 hbind h40 fun t44 gt44 h41 =>
 hbind h41 fun t45 gt45 h42 =>
 hbind h42 fun v_told46 gv_told46 h43 =>
 g_set (e2 := [.sh (D.scr v_script), j31.1, j31.2.1, j31.2.2.1, j31.2.2.2.1, j31.2.2.2.2, .ow (List.map (eO D.int) v_told46), .un]) (ev_pr (K := fun v => R.fr (List.map (eO D.int) v)) gv_told46 (ev_lst (ds := List.map (eO D.int) [t43, t44, t45]) (av_1 (ev_call (ds := [(eL D.int) [2, 1, 2], (eL D.int) [0, 1]]) (av_1 (ev_lst (ds := List.map D.int [2, 1, 2]) (av_1 ev_c (av_1 ev_c (av_1 ev_c av_0))) rfl (Nat.le_of_ble_eq_true rfl)) (av_1 (ev_lst (ds := List.map D.int [0, 1]) (av_1 ev_c (av_1 ev_c av_0)) rfl (Nat.le_of_ble_eq_true rfl)) av_0)) rfl rfl (t_give_paper gt43)) (av_1 (ev_call (ds := [(eL D.int) [2, 1, 2], (eL D.int) [0, 1, 2]]) (av_1 (ev_lst (ds := List.map D.int [2, 1, 2]) (av_1 ev_c (av_1 ev_c (av_1 ev_c av_0))) rfl (Nat.le_of_ble_eq_true rfl)) (av_1 (ev_lst (ds := List.map D.int [0, 1, 2]) (av_1 ev_c (av_1 ev_c (av_1 ev_c av_0))) rfl (Nat.le_of_ble_eq_true rfl)) av_0)) rfl rfl (t_give_paper gt44)) (av_1 (ev_call (ds := [(eL D.int) [5], (eL D.int) [3, 4]]) (av_1 (ev_lst (ds := List.map D.int [5]) (av_1 ev_c av_0) rfl (Nat.le_of_ble_eq_true rfl)) (av_1 (ev_lst (ds := List.map D.int [3, 4]) (av_1 ev_c (av_1 ev_c av_0)) rfl (Nat.le_of_ble_eq_true rfl)) av_0)) rfl rfl (t_give_paper gt45)) av_0))) rfl (Nat.le_of_ble_eq_true rfl))) rfl ((g_seq (g_seq (g_frz (e1 := [.sh (D.scr v_script), j31.1, j31.2.1, j31.2.2.1, j31.2.2.2.1, j31.2.2.2.2, .sh ((eL (eO D.int)) v_told46), .un]) rfl rfl (hbind h43 fun t47 gt47 h44 =>
 hbind h44 fun t49 gt49 h47 =>
 g_if (tv_orM gt49 (tv_x (ev_opV (lv_of (ev_sh rfl) (fun _ => rfl)) (lv_of (ev_lst (ds := List.map eD [D.non, (D.int 2), (D.int 0)]) (av_1 ev_c (av_1 ev_c (av_1 ev_c av_0))) rfl (Nat.le_of_ble_eq_true rfl)) (fun _ => rfl)) (o_neD gt47))) (fun _ h45 => hbind h45 fun t48 gt48 h46 =>
 tv_pr h46 (tv_x (ev_op (ev_call (ds := [(eL D.int) [5], (eL D.int) [59]]) (av_1 (ev_lst (ds := List.map D.int [5]) (av_1 ev_c av_0) rfl (Nat.le_of_ble_eq_true rfl)) (av_1 (ev_lst (ds := List.map D.int [59]) (av_1 ev_c av_0) rfl (Nat.le_of_ble_eq_true rfl)) av_0)) rfl rfl (t_give_paper gt48)) ev_c rfl rfl (o_neO (x := t48)))))) (fun h48 => have h49 := cnd_t h47 h48; g_ret ev_c ((by have hq := hd_eq h49; (first | subst hq | cases hq); exact ov_val))) (fun h48 => have h50 := cnd_f h47 h48; g_next ((g_seq (hbind h50 fun t50 gt50 h51 =>
 hbind h51 fun t51 gt51 h52 =>
 hbind h52 fun t52 gt52 h53 =>
 hbind h53 fun t56 gt56 h58 =>
 g_if (tv_orM gt56 (tv_x (ev_op (ev_call (ds := [(eL D.int) t50, (eL D.int) t51]) (av_1 (ev_opL (ev_lst (ds := List.map D.int [40]) (av_1 ev_c av_0) rfl (Nat.le_of_ble_eq_true rfl)) ev_c rfl rfl (o_rep (E := D.int) gt50)) (av_1 (ev_lr2 ev_c ev_c gt51) av_0)) rfl rfl (t_give_paper gt52)) ev_c rfl rfl (o_notN (x := t52)))) (fun _ h54 => hbind h54 fun t53 gt53 h55 =>
 hbind h55 fun t54 gt54 h56 =>
 hbind h56 fun t55 gt55 h57 =>
 tv_pr h57 (tv_x (ev_op (ev_call (ds := [(eL D.int) t53, (eL D.int) t54]) (av_1 (ev_opL (ev_lst (ds := List.map D.int [40]) (av_1 ev_c av_0) rfl (Nat.le_of_ble_eq_true rfl)) ev_c rfl rfl (o_rep (E := D.int) gt53)) (av_1 (ev_lr2 ev_c ev_c gt54) av_0)) rfl rfl (t_give_paper gt55)) ev_c rfl rfl (o_neO (x := t55)))))) (fun h59 => have h60 := cnd_t h58 h59; g_ret ev_c ((by have hq := hd_eq h60; (first | subst hq | cases hq); exact ov_val))) (fun h59 => have h61 := cnd_f h58 h59; g_next ((g_seq (hbind h61 fun t57 gt57 h62 =>
 g_set (e2 := [.sh (D.scr v_script), j31.1, j31.2.1, j31.2.2.1, j31.2.2.2.1, j31.2.2.2.2, .sh ((eL (eO D.int)) v_told46), .ow (List.map D.int t57)]) (ev_lr2 ev_c ev_c gt57) rfl ((g_seq (g_seq (g_frz (e1 := [.sh (D.scr v_script), j31.1, j31.2.1, j31.2.2.1, j31.2.2.2.1, j31.2.2.2.2, .sh ((eL (eO D.int)) v_told46), .sh ((eL D.int) t57)]) rfl rfl (hbind h62 fun t58 gt58 h63 =>
 hbind h63 fun t59 gt59 h64 =>
 hbind h64 fun t60 gt60 h65 =>
 hbind h65 fun t61 gt61 h66 =>
 hbind h66 fun v_told62 gv_told62 h67 =>
 g_set (e2 := [.sh (D.scr v_script), j31.1, j31.2.1, j31.2.2.1, j31.2.2.2.1, j31.2.2.2.2, .ow (List.map (eO D.int) v_told62), .sh ((eL D.int) t57)]) (ev_pr (K := fun v => R.fr (List.map (eO D.int) v)) gv_told62 (ev_lst (ds := List.map (eO D.int) [t59, t60, t61]) (av_1 (ev_call (ds := [(eL D.int) t57, (eL D.int) t58]) (av_1 (ev_sh rfl) (av_1 (ev_lr2 ev_c ev_c gt58) av_0)) rfl rfl (t_give_paper gt59)) (av_1 (ev_call (ds := [(eL D.int) t57, (eL D.int) [57, 58, 59]]) (av_1 (ev_sh rfl) (av_1 (ev_lst (ds := List.map D.int [57, 58, 59]) (av_1 ev_c (av_1 ev_c (av_1 ev_c av_0))) rfl (Nat.le_of_ble_eq_true rfl)) av_0)) rfl rfl (t_give_paper gt60)) (av_1 (ev_call (ds := [(eL D.int) t57, (eL D.int) [59]]) (av_1 (ev_sh rfl) (av_1 (ev_lst (ds := List.map D.int [59]) (av_1 ev_c av_0) rfl (Nat.le_of_ble_eq_true rfl)) av_0)) rfl rfl (t_give_paper gt61)) av_0))) rfl (Nat.le_of_ble_eq_true rfl))) rfl (g_seq (g_frz (e1 := [.sh (D.scr v_script), j31.1, j31.2.1, j31.2.2.1, j31.2.2.2.1, j31.2.2.2.2, .sh ((eL (eO D.int)) v_told62), .sh ((eL D.int) t57)]) rfl rfl (hbind h67 fun t63 gt63 h68 =>
 hbind h68 fun t68 gt68 h75 =>
 g_ret (ev_andM gt68 (ev_opV (lv_of (ev_sh rfl) (fun _ => rfl)) (lv_of (ev_lst (ds := List.map eD [D.non, (D.int 57), (D.int 59)]) (av_1 ev_c (av_1 ev_c (av_1 ev_c av_0))) rfl (Nat.le_of_ble_eq_true rfl)) (fun _ => rfl)) (o_eqD gt63)) (fun _ h69 => hbind h69 fun t64 gt64 h70 =>
 hbind h70 fun t65 gt65 h71 =>
 hbind h71 fun t67 gt67 h74 =>
 ev_pr (K := fun v => R.val (D.bl v)) h74 (ev_andM gt67 (ev_op (ev_call (ds := [(eL D.int) t57, (eL D.int) t64]) (av_1 (ev_sh rfl) (av_1 (ev_lr1 ev_c gt64) av_0)) rfl rfl (t_work_paper gt65)) ev_c rfl rfl (o_isN (x := t65))) (fun _ h72 => hbind h72 fun t66 gt66 h73 =>
 ev_pr (K := fun v => R.val (D.bl v)) h73 (ev_call (ds := [(eL D.int) t57, (eL D.int) [59], eD (D.int 59)]) (av_1 (ev_sh rfl) (av_1 (ev_lst (ds := List.map D.int [59]) (av_1 ev_c av_0) rfl (Nat.le_of_ble_eq_true rfl)) (av_1 ev_c av_0))) rfl rfl (t_shows_give_paper gt66)))))) ((by have hq := hd_eq h75; (first | subst hq | cases hq); exact ov_val))))))))))))))))))))))))))))))))))) (fun v o e q i => (by have hq := aft_out h25 e; cases hd_eq hq; obtain ⟨_, _, rfl⟩ := i; exact q)))))
end Tk32

set_option Elab.async false
set_option linter.all false
set_option maxRecDepth 100000
set_option exponentiation.threshold 3000
/-! S3: the law's draws out of a store -/
namespace Tk32
open PySem L2 Vm
/-- a store behind t draws -/
def Purse (t : Nat) (p : List Int) : Prop := ∃ a b c : Int, p = [a, b, c] ∧ 0 ≤ a ∧ b.natAbs < 2 ^ 160 ∧ 0 ≤ c ∧ c ≤ t
theorem Purse.mono {t u : Nat} {p : List Int} (h : Purse t p) (q : t ≤ u) : Purse u p := by
  obtain ⟨a, b, c, e, h1, h2, h3, h4⟩ := h
  exact ⟨a, b, c, e, h1, h2, h3, by omega⟩
theorem inI_of {n : Nat} {i : Int} (h : 0 ≤ i ∧ i < n) : inI n i := ⟨by omega, h.2⟩
theorem pick_ok {t : Nat} {p : List Int} {wide : Int} (P : Purse t p) (ht : t ≤ 1000000) (hw : 1 ≤ wide) (hw2 : wide < 2 ^ 60) :
    Sat (c_law_pick p wide) fun z => 0 ≤ z.1 ∧ z.1 < wide ∧ Purse (t + 1) z.2 := by
  obtain ⟨a, b, c, rfl, a0, b0, c0, ct⟩ := P
  have i0 : inI [a, b, c].length 0 := ⟨by simp, by simp⟩
  have i2 : inI [a, b, c].length 2 := ⟨by simp, by simp⟩
  by_cases ha : 0 < a
  · refine sat_hd (a := (a % wide, [a / wide, b, c])) ?_ ⟨Int.emod_nonneg _ (by omega), Int.emod_lt_of_pos _ (by omega), ⟨_, _, _, rfl, Int.ediv_nonneg a0 (by omega), b0, c0, by omega⟩⟩
    refine hd_bd a (hd_get i0) (hd_t (decide_eq_true ha) ?_)
    refine hd_bd a (hd_get i0) (hd_bd _ (hd_mod (by omega)) (hd_bd a (hd_get i0) (hd_bd _ (hd_fdiv (by omega) (lt_8000 (by omega))) (hd_bd [a / wide, b, c] (hd_set i0) hd_p))))
  · have j1 : inI [a, b, c + 1].length 1 := ⟨by simp, by simp⟩
    have j2 : inI [a, b, c + 1].length 2 := ⟨by simp, by simp⟩
    have q1 : (0 : Int) < 10 ^ (40 : Int).toNat + 121 := by decide
    have q2 : (0 : Int) < 10 ^ (39 : Int).toNat + 3 := by decide
    have s1 : (10 : Int) ^ (40 : Int).toNat + 121 < 2 ^ 160 := by decide
    have s2 : (10 : Int) ^ (39 : Int).toNat + 3 < 2 ^ 160 := by decide
    generalize hP : (10 : Int) ^ (40 : Int).toNat = P at q1 s1
    generalize hQ : (10 : Int) ^ (39 : Int).toNat = Q at q2 s2
    have k1 : (b + 32416187567 * (c + 1)).natAbs < 2 ^ 200 := by omega
    have n1 : 0 ≤ (b + 32416187567 * (c + 1)) ^ (3 : Int).toNat % (P + 121) := Int.emod_nonneg _ (by omega)
    have n2 : (b + 32416187567 * (c + 1)) ^ (3 : Int).toNat % (P + 121) < P + 121 := Int.emod_lt_of_pos _ q1
    obtain ⟨m1, hm1⟩ : ∃ m1, m1 = (b + 32416187567 * (c + 1)) ^ (3 : Int).toNat % (P + 121) := ⟨_, rfl⟩
    rw [← hm1] at n1 n2
    have k2 : (m1 + 27644437 * (c + 1)).natAbs < 2 ^ 200 := by omega
    obtain ⟨m2, hm2⟩ : ∃ m2, m2 = (m1 + 27644437 * (c + 1)) ^ (3 : Int).toNat % (Q + 3) := ⟨_, rfl⟩
    refine sat_hd (a := (m2 / 16381 % wide, [a, b, c + 1])) ?_ ⟨Int.emod_nonneg _ (by omega), Int.emod_lt_of_pos _ (by omega), ⟨_, _, _, rfl, a0, b0, by omega, by omega⟩⟩
    refine hd_bd a (hd_get i0) (hd_f (decide_eq_false ha) ?_)
    refine hd_bd c (hd_get i2) (hd_bd [a, b, c + 1] (hd_set i2) (hd_bd b (hd_get j1) (hd_bd (c + 1) (hd_get j2) (hd_bd _ (hd_mul (small_mul' (by decide))) (hd_bd _ (hd_pow (cube_ok k1)) ?_)))))
    refine hd_bd P ((hd_pow (ten_ok (by decide) (by decide))).to hP) (hd_bd m1 ((hd_mod q1).to hm1.symm) (hd_bd (c + 1) (hd_get j2) (hd_bd _ (hd_mul (small_mul' (by decide))) (hd_bd _ (hd_pow (cube_ok k2)) ?_))))
    exact hd_bd Q ((hd_pow (ten_ok (by decide) (by decide))).to hQ) (hd_bd m2 ((hd_mod q2).to hm2.symm) (hd_bd _ (hd_fdiv (by decide) (lt_8000 (by decide))) (hd_bd _ (hd_mod (by omega)) hd_p)))
theorem store_ok {sc : List Int} {k : Nat} (hk : k ≤ 100) : ∃ p, Hd (c_law_store sc k) p ∧ Purse 0 p := by
  have q1 : (0 : Int) < 10 ^ (37 : Int).toNat + 43 := by decide
  have s1 : ((10 : Int) ^ (37 : Int).toNat + 43) * 90 < 2 ^ 159 := by decide
  generalize hP : (10 : Int) ^ (37 : Int).toNat = P at q1 s1
  obtain ⟨x, hx⟩ : ∃ x, Hd (cnd (decide ((k : Int) < (sc.length : Int))) (bd (getM sc (k : Int)) fun t2 => pr (absI t2)) (pr 0)) x := by
    by_cases h : (k : Int) < sc.length
    · exact ⟨_, hd_t (decide_eq_true h) (hd_bd _ (hd_get (inI_of ⟨by omega, h⟩)) hd_p)⟩
    · exact ⟨_, hd_f (decide_eq_false h) hd_p⟩
  have n1 : 0 ≤ x % (P + 43) := Int.emod_nonneg _ (by omega)
  have n2 : x % (P + 43) < P + 43 := Int.emod_lt_of_pos _ q1
  refine ⟨_, hd_bd x hx (hd_bd _ (hd_pow (ten_ok (by decide) (by decide))) (hd_bd P ((hd_pow (ten_ok (by decide) (by decide))).to hP) (hd_bd _ (hd_mod q1) (hd_bd _ (hd_mul (small_mul (by decide))) (hd_bd _ (hd_mul (small_mul' (by decide))) hd_p))))), _, _, _, rfl, ?_, ?_, by decide, by decide⟩
  · unfold mx2
    split <;> omega
  · omega
theorem erase_perm {α : Type} : ∀ (xs : List α) (i : Nat) (h : i < xs.length), (xs[i] :: xs.eraseIdx i).Perm xs
  | [], i, h => absurd h (Nat.not_lt_zero i)
  | x :: xs, 0, _ => List.Perm.refl _
  | x :: xs, i + 1, h => by
    have hi : i < xs.length := by simpa using h
    have ih := erase_perm xs i hi
    show (xs[i] :: x :: xs.eraseIdx i).Perm (x :: xs)
    exact (List.Perm.swap x _ _).trans (List.Perm.cons x ih)
/-- many draws, one after the other -/
theorem draws_ok {β : Type} {t n : Nat} {p : List Int} {R : Nat → β → Prop} {f : List Int → Int → M (β × List Int)} (P : Purse t p) (ht : t + n ≤ 1000000)
    (hf : ∀ (i : Nat) (q : List Int), i < n → Purse (t + i) q → Sat (f q i) fun z => R i z.1 ∧ Purse (t + i + 1) z.2) :
    Sat (lcS f p (rgN n)) fun z => z.1.length = n ∧ (∀ (i : Nat) (x : β), z.1[i]? = some x → R i x) ∧ Purse (t + n) z.2 := by
  refine s_lcS (fun pre (ys : List β) (q : List Int) => ys.length = pre.length ∧ (∀ (i : Nat) (x : β), ys[i]? = some x → R i x) ∧ Purse (t + pre.length) q) ⟨rfl, by simp, P⟩ (fun pre x post ys q e ⟨h1, h2, h3⟩ => ?_) fun ys q ⟨h1, h2, h3⟩ => by rw [rgN_length] at h1 h3; exact ⟨h1, h2, h3⟩
  have hl : pre.length < n := by
    have := congrArg List.length e
    rw [rgN_length, List.length_append, List.length_cons] at this
    omega
  have hx : x = (pre.length : Int) := by
    have := rgN_get hl
    rw [e, List.getElem?_append_right (Nat.le_refl _), Nat.sub_self] at this
    exact Option.some.inj this
  subst hx
  refine (hf pre.length q hl h3).mono fun z ⟨a, b⟩ => ⟨by simp [h1], fun i y hy => ?_, b.mono (by simp; omega)⟩
  by_cases hi : i < ys.length
  · rw [List.getElem?_append_left hi] at hy
    exact h2 i y hy
  · rw [List.getElem?_append_right (by omega)] at hy
    have : i - ys.length = 0 := by
      cases q : i - ys.length with
      | zero => rfl
      | succ k => rw [q] at hy; cases hy
    rw [this] at hy
    cases hy
    have : i = pre.length := by omega
    rw [this]
    exact a
/-- all of a list, in a drawn sequence -/
theorem popped_ok {t n : Nat} {p left : List Int} (P : Purse t p) (ht : t + n ≤ 1000000) (hl : left.length = n) :
    Sat (lcS (fun (s : (List Int) × (List Int)) (x : Int) => bd (c_law_pick s.1 ((s.2).length : Int)) fun t27 => bd (popM s.2 t27.1) fun t28 => pr (t28.1, (t27.2, t28.2))) (p, left) (rgN n)) fun z => z.1.Perm left ∧ Purse (t + n) z.2.1 := by
  refine Sat.mono (P := fun z : List Int × List Int × List Int => z.2.2.length + n = n ∧ (z.1 ++ z.2.2).Perm left ∧ Purse (t + n) z.2.1) ?_ fun ⟨ys, q, rest⟩ ⟨h1, h2, h3⟩ => ?_
  · refine s_lcS (fun pre (ys : List Int) (s : List Int × List Int) => s.2.length + pre.length = n ∧ (ys ++ s.2).Perm left ∧ Purse (t + pre.length) s.1) ⟨by simpa using hl, by simp, P⟩ (fun pre x post ys ⟨q, lf⟩ e ⟨g2, g3, Q⟩ => ?_) fun ys s h => by rw [rgN_length] at h; exact h
    have hpl : pre.length < n := by
      have := congrArg List.length e
      rw [rgN_length, List.length_append, List.length_cons] at this
      omega
    simp only at g2 g3 Q ⊢
    refine st (pick_ok Q (by omega) (by omega) (by omega)) fun ⟨s1, q1⟩ ⟨c1, d1, Q1⟩ => ?_
    simp only at c1 d1 Q1 ⊢
    have hlt : s1.toNat < lf.length := by omega
    refine sb (a := (getI lf s1, lf.eraseIdx s1.toNat)) ⟨⟨c1, by show s1 < 2 ^ 63; omega, d1⟩, rfl⟩ (sat_p ⟨?_, ?_, ?_⟩)
    · show (lf.eraseIdx s1.toNat).length + _ = n
      rw [List.length_eraseIdx_of_lt hlt, List.length_append]
      simp only [List.length_cons, List.length_nil]
      omega
    · have hv : getI lf s1 = lf[s1.toNat] := by
        unfold getI
        rw [if_pos c1, List.getD_eq_getElem?_getD, List.getElem?_eq_getElem hlt]
        rfl
      have h3 : (lf[s1.toNat] :: lf.eraseIdx s1.toNat).Perm lf := erase_perm lf _ hlt
      show ((ys ++ [getI lf s1]) ++ lf.eraseIdx s1.toNat).Perm left
      rw [hv, List.append_assoc]
      exact (List.Perm.append_left ys h3).trans g3
    · exact Q1.mono (by rw [List.length_append]; simp only [List.length_cons, List.length_nil]; omega)
  · simp only at h1 h2 h3 ⊢
    have hrest : rest = [] := List.length_eq_zero_iff.mp (by omega)
    rw [hrest, List.append_nil] at h2
    exact ⟨h2, h3⟩
/-- what is dealt -/
theorem deal_ok {t : Nat} {p : List Int} {most top : Int} (P : Purse t p) (ht : t ≤ 900000) (hm : 1 ≤ most ∧ most ≤ 1000) (h1 : 0 ≤ top ∧ top ≤ 1000) :
    Sat (c_law_deal p most top) fun z => 1 ≤ z.1.length ∧ (z.1.length : Int) ≤ most ∧ (∀ x ∈ z.1, 0 ≤ x ∧ x ≤ top) ∧ Purse (t + 4 + 2 * z.1.length) z.2 := by
  refine st (pick_ok P (by omega) hm.1 (by omega)) fun ⟨r1, p1⟩ ⟨a1, b1, P1⟩ => ?_
  refine st (pick_ok P1 (by omega) (by decide) (by decide)) fun ⟨r2, p2⟩ ⟨a2, b2, P2⟩ => ?_
  simp only at a1 b1 P1 a2 b2 P2 ⊢
  obtain ⟨n, hn⟩ : ∃ n : Nat, 1 + r1 = (n : Int) := ⟨(1 + r1).toNat, by omega⟩
  have fin : ∀ (u : Nat) (zs : List Int) (q : List Int), zs.length = n → (∀ x ∈ zs, 0 ≤ x ∧ x ≤ top) → Purse (t + 2 + u) q → u ≤ 2 + 2 * n → (1 ≤ zs.length ∧ (zs.length : Int) ≤ most ∧ (∀ x ∈ zs, 0 ≤ x ∧ x ≤ top) ∧ Purse (t + 4 + 2 * zs.length) q) := fun u zs q h1 h2 h3 h4 => ⟨by omega, by omega, h2, h3.mono (by omega)⟩
  have all : ∀ {R : Int → Prop} {zs : List Int}, (∀ (i : Nat) (x : Int), zs[i]? = some x → R x) → ∀ x ∈ zs, R x := fun h x hx => by
    obtain ⟨i, hi, e⟩ := List.getElem_of_mem hx
    exact h i x (by rw [List.getElem?_eq_getElem hi, e])
  rw [hn]
  by_cases c1 : r2 = 1
  · refine sct (decide_eq_true c1) (sb (hd_rg (n := 2) rfl (by decide)) (sb (hd_short (by decide)) ?_))
    refine st (draws_ok (R := fun _ x => 0 ≤ x ∧ x ≤ top) P2 (by omega) fun i q hi Q => st (pick_ok Q (by omega) (by omega) (by omega)) fun ⟨s, q1⟩ ⟨c1, d1, Q1⟩ => sat_p ⟨⟨c1, by simp only at d1; show s ≤ top; omega⟩, Q1⟩) fun ⟨some', p3⟩ ⟨e1, e2, P3⟩ => ?_
    simp only at e1 e2 P3 ⊢
    refine sb (hd_rg (n := n) rfl (by omega)) (sb (hd_short (by rw [rgN_length]; omega)) ?_)
    refine st (draws_ok (R := fun _ x => 0 ≤ x ∧ x ≤ top) P3 (by omega) fun i q hi Q => st (pick_ok Q (by omega) (by decide) (by decide)) fun ⟨s, q1⟩ ⟨c1, d1, Q1⟩ => ?_) fun ⟨zs, p4⟩ ⟨f1, f2, P4⟩ => sat_p (fin (2 + n) zs p4 f1 (all f2) (P4.mono (by omega)) (by omega))
    simp only at c1 d1 Q1 ⊢
    obtain ⟨j, rfl⟩ : ∃ j : Nat, s = (j : Int) := ⟨s.toNat, by omega⟩
    have hj : some'[j]? = some some'[j] := List.getElem?_eq_getElem (by omega)
    exact sb (hd_getN hj) (sat_p ⟨e2 j _ hj, Q1⟩)
  refine scf (decide_eq_false c1) ?_
  by_cases c2 : r2 = 2
  · refine sct (decide_eq_true c2) (sb (hd_rg (n := n) rfl (by omega)) (sb (hd_short (by rw [rgN_length]; omega)) ?_))
    have w : 1 ≤ mn2 top 2 + 1 ∧ mn2 top 2 + 1 ≤ top + 1 ∧ mn2 top 2 + 1 ≤ 3 := by unfold mn2; split <;> omega
    exact st (draws_ok (R := fun _ x => 0 ≤ x ∧ x ≤ top) P2 (by omega) fun i q hi Q => st (pick_ok Q (by omega) w.1 (by omega)) fun ⟨s, q1⟩ ⟨c1, d1, Q1⟩ => sat_p ⟨⟨c1, by simp only at d1; show s ≤ top; omega⟩, Q1⟩) fun ⟨zs, p4⟩ ⟨f1, f2, P4⟩ => sat_p (fin n zs p4 f1 (all f2) P4 (by omega))
  refine scf (decide_eq_false c2) ?_
  by_cases c3 : r2 = 3
  · refine sct (decide_eq_true c3) (sb (hd_rg (n := n) rfl (by omega)) (sb (hd_short (by rw [rgN_length]; omega)) ?_))
    refine st (draws_ok (R := fun _ x => 0 ≤ x ∧ x ≤ top) P2 (by omega) fun i q hi Q => st (pick_ok Q (by omega) (by decide) (by decide)) fun ⟨s, q1⟩ ⟨c1, d1, Q1⟩ => sat_p ⟨⟨?_, ?_⟩, Q1⟩) fun ⟨fd, p3⟩ ⟨e1, e2, P3⟩ => ?_
    · simp only at c1
      show 0 ≤ mn2 top ((i : Int) + s)
      unfold mn2
      split <;> omega
    · show mn2 top ((i : Int) + s) ≤ top
      unfold mn2
      split <;> omega
    simp only at e1 e2 P3 ⊢
    refine sb (hd_rg (n := n) rfl (by omega)) (sb (hd_short (by rw [rgN_length]; omega)) ?_)
    refine st (popped_ok P3 (by omega) e1) fun ⟨zs, p4, rest⟩ ⟨f1, P4⟩ => ?_
    simp only at f1 P4 ⊢
    exact sat_p (fin (2 * n) zs p4 (by rw [f1.length_eq]; exact e1) (fun x hx => all e2 x (f1.mem_iff.mp hx)) (P4.mono (by omega)) (by omega))
  refine scf (decide_eq_false c3) ?_
  by_cases c4 : r2 = 4
  · refine sct (decide_eq_true c4) ?_
    refine st (pick_ok P2 (by omega) (by omega) (by omega)) fun ⟨s, p3⟩ ⟨g1, g2, P3⟩ => ?_
    simp only at g1 g2 P3 ⊢
    exact sb (hd_rep1 (by omega)) (sat_p (fin 1 _ p3 List.length_replicate (fun x hx => by rw [List.eq_of_mem_replicate hx]; omega) P3 (by omega)))
  refine scf (decide_eq_false c4) (sb (hd_rg (n := n) rfl (by omega)) (sb (hd_short (by rw [rgN_length]; omega)) ?_))
  have w : 0 ≤ mn2 top 3 ∧ mn2 top 3 ≤ top := by unfold mn2; split <;> omega
  have hg : ∃ wd : Int, Hd (getM [(top + 1), ((mn2 top 3) + 1)] (if (decide (r2 = 5)) then (1 : Int) else 0)) wd ∧ 1 ≤ wd ∧ wd ≤ top + 1 := by
    by_cases c5 : r2 = 5
    · rw [decide_eq_true c5]
      exact ⟨mn2 top 3 + 1, hd_getN (i := 1) rfl, by omega, by omega⟩
    · rw [decide_eq_false c5]
      exact ⟨top + 1, hd_getN (i := 0) rfl, by omega, by omega⟩
  obtain ⟨wd, hg, w1, w2⟩ := hg
  refine st (draws_ok (R := fun _ x => 0 ≤ x ∧ x ≤ top) P2 (by omega) fun i q hi Q => sb hg (st (pick_ok Q (by omega) w1 (by omega)) fun ⟨s, q1⟩ ⟨c1, d1, Q1⟩ => sat_p ⟨⟨?_, ?_⟩, Q1⟩)) fun ⟨zs, p4⟩ ⟨f1, f2, P4⟩ => sat_p (fin n zs p4 f1 (all f2) P4 (by omega))
  · simp only at d1
    show 0 ≤ top - s
    omega
  · simp only at c1
    show top - s ≤ top
    omega
end Tk32

set_option Elab.async false
set_option linter.all false
set_option maxRecDepth 100000
set_option exponentiation.threshold 9000
/-! G: teams and counts, where a team may be a value of any kind -/
namespace Tk32
open PySem L2 Vm
open Ar (along nx cf ab)
/-- a value of a kind that isinstance tells, and no script -/
def tame : D → Bool
  | .scr _ => false
  | d => tameD d
theorem tame_D {d : D} (h : tame d = true) : tameD d = true := by
  cases d <;> first
    | exact h
    | cases h
def lstD : D → Bool
  | .lst _ => true
  | _ => false
theorem isL_ok {d : D} (h : tame d = true) : Hd (isiD (eD d) "list") (lstD d) := by
  have e : isLs d = lstD d := by
    cases d <;> first
      | rfl
      | cases h
  rw [← e]
  exact isi_list (tame_D h)
theorem whole_d {d : D} (h : tame d = true) : Hd (c_is_whole d) (isW d) := by
  refine hd_bd _ (isi_int (tame_D h)) ?_
  cases d <;> first
    | exact hd_bd true (hd_t rfl (hd_bd false (isi_bool rfl) (hd_pe rfl))) hd_p
    | exact hd_bd false (hd_t rfl (hd_bd true (isi_bool rfl) (hd_pe rfl))) hd_p
    | exact hd_bd false (hd_f rfl (hd_pe rfl)) hd_p
    | cases h
theorem whole_ok (i : Int) : Hd (c_is_whole (.int i)) true := whole_d rfl
/-- the levels less their places -/
def sparesFrom : Nat → List Int → List Int
  | _, [] => []
  | k, x :: xs => (x - k) :: sparesFrom (k + 1) xs
def spares (ns : List Int) : List Int := sparesFrom 0 (srt ns)
theorem sparesFrom_len : ∀ (k : Nat) (ns : List Int), (sparesFrom k ns).length = ns.length
  | _, [] => rfl
  | k, n :: ns => congrArg (· + 1) (sparesFrom_len (k + 1) ns)
theorem sparesFrom_get : ∀ (k : Nat) (ns : List Int) (i : Nat), (sparesFrom k ns)[i]? = (ns[i]?).map fun x => x - ((k + i : Nat) : Int)
  | _, [], i => by simp [sparesFrom]
  | k, n :: ns, 0 => by simp [sparesFrom]
  | k, n :: ns, i + 1 => by
    show (sparesFrom (k + 1) ns)[i]? = (ns[i]?).map _
    rw [sparesFrom_get (k + 1) ns i, show k + 1 + i = k + (i + 1) by omega]
theorem spares_zip : ∀ (k : Nat) (ns : List Int), ((ns.zipIdx k).map fun p => ((p.2 : Int), p.1)).map (fun q : Int × Int => q.2 - q.1) = sparesFrom k ns
  | _, [] => rfl
  | k, n :: ns => by
    show _ :: _ = _
    rw [spares_zip (k + 1) ns]
    rfl
theorem srt_len (ns : List Int) : (srt ns).length = ns.length := (srt_perm ns).length_eq
theorem srt_mem {ns : List Int} {x : Int} : x ∈ srt ns ↔ x ∈ ns := (srt_perm ns).mem_iff
theorem spares_len (ns : List Int) : (spares ns).length = ns.length := by
  unfold spares
  rw [sparesFrom_len, srt_len]
theorem enumL_len {α : Type} (xs : List α) : (enumL xs).length = xs.length := by unfold enumL; simp
theorem spares_of_ok (ns : List Int) (h : ns.length < 1000000) : Hd (c_spares_of ns) (spares ns) := by
  refine hd_bd () (hd_short (by rw [enumL_len, srt_len]; exact h)) (hd_bd _ (hd_mapM (fun q : Int × Int => q.2 - q.1) fun x _ => hd_p) (hd_pe ?_))
  exact spares_zip 0 (srt ns)
/-- what a team is -/
structure Team (ns : List Int) : Prop where
  pos : 1 ≤ ns.length
  few : ns.length ≤ 20
  nn : ∀ x ∈ ns, 0 ≤ x
  sp : ∀ s ∈ spares ns, s ≤ 40
theorem Team.ne {ns : List Int} (T : Team ns) : ns ≠ [] := fun z => by
  have := T.pos
  rw [z] at this
  simp at this
/-- a natural number, as a value -/
def natD (d : D) : Bool := isW d && decide (0 ≤ unI d)
/-- a team, as a value -/
def isT : D → Bool
  | .lst ds => (decide (1 ≤ (ds.length : Int)) && decide ((ds.length : Int) ≤ 20)) && (ds.all natD && decide (maxL (spares (ds.map unI)) ≤ 40))
  | _ => false
theorem isT_lst (ds : List D) : isT (.lst ds) = ((decide (1 ≤ (ds.length : Int)) && decide ((ds.length : Int) ≤ 20)) && (ds.all natD && decide (maxL (spares (ds.map unI)) ≤ 40))) := rfl
/-- a value whose items, too, are of kinds that isinstance tells -/
def tameI : D → Bool
  | .lst ds => ds.all tame
  | d => tame d
theorem tameI_tame {d : D} (h : tameI d = true) : tame d = true := by
  cases d <;> first
    | exact h
    | rfl
theorem all_wholes : ∀ {ds : List D}, ds.all natD = true → ds = (ds.map unI).map D.int
  | [], _ => rfl
  | d :: ds, h => by
    have h : natD d = true ∧ ds.all natD = true := by simpa only [List.all_cons, Bool.and_eq_true] using h
    have e : d = .int (unI d) := by
      have h1 := h.1
      unfold natD at h1
      cases d <;> first
        | rfl
        | cases h1
    rw [List.map_cons, List.map_cons, ← e, ← all_wholes h.2]
theorem isteam_d {d : D} (h : tameI d = true) : Hd (c_is_team d) (isT d) := by
  by_cases hl : lstD d = true
  · have : ∃ ds, d = .lst ds := by
      cases d <;> first
        | exact ⟨_, rfl⟩
        | cases hl
    obtain ⟨ds, rfl⟩ := this
    have ht : ∀ x ∈ ds, tame x = true := List.all_eq_true.mp h
    refine hd_bd true (isL_ok rfl) ?_
    refine hd_bd _ (hd_f rfl (hd_bd ds (asList_ok ds) hd_p)) ?_
    cases hc : (decide (1 ≤ (ds.length : Int)) && decide ((ds.length : Int) ≤ 20)) with
    | false => exact hd_t rfl (hd_pe (by rw [isT_lst, hc]; rfl))
    | true =>
      have hc2 : 1 ≤ (ds.length : Int) ∧ (ds.length : Int) ≤ 20 := by simpa only [Bool.and_eq_true, decide_eq_true_eq] using hc
      refine hd_f rfl (hd_bd ds (asList_ok ds) (hd_bd () (hd_short (by omega)) (hd_bd _ (hd_mapM natD fun x hx => ?_) ?_)))
      · refine hd_bd _ (whole_d (ht x hx)) (hd_bd (natD x) ?_ hd_p)
        unfold natD
        cases x <;> first
          | exact hd_t rfl (hd_bd _ (asInt_ok _) (hd_pe rfl))
          | exact hd_f rfl (hd_pe rfl)
      · have e : List.all (ds.map natD) id = ds.all natD := by rw [List.all_map]; rfl
        rw [e]
        cases ha : ds.all natD with
        | false => exact hd_t rfl (hd_pe (by rw [isT_lst, hc, ha]; rfl))
        | true =>
          refine hd_f rfl (hd_bd (ds.map unI) ?_ (hd_bd _ (spares_of_ok _ (by rw [List.length_map]; omega)) (hd_bd _ (hd_max ?_) (hd_pe (by rw [isT_lst, hc, ha]; rfl)))))
          · have g := asInts_ok (ds.map unI)
            have e2 : D.lst ds = eL D.int (ds.map unI) := congrArg D.lst (all_wholes ha)
            rw [e2]
            exact g
          · intro z
            have := spares_len (ds.map unI)
            rw [z, List.length_map] at this
            simp at this
            omega
  · have hl : lstD d = false := by cases q : lstD d with
      | true => exact absurd q hl
      | false => rfl
    refine hd_bd _ (isL_ok (tameI_tame h)) (hd_bd true (hd_t (by rw [hl]; rfl) hd_p) (hd_t rfl (hd_pe ?_)))
    cases d <;> first
      | rfl
      | cases hl
theorem tameI_ints (ns : List Int) : tameI (eL D.int ns) = true := by
  show (ns.map D.int).all tame = true
  rw [List.all_map, List.all_eq_true]
  exact fun _ _ => rfl
theorem isT_ok {ns : List Int} (T : Team ns) : isT (eL D.int ns) = true := by
  have h1 : (1 : Int) ≤ (ns.length : Int) := by have := T.pos; omega
  have h2 : (ns.length : Int) ≤ 20 := by have := T.few; omega
  have hs : spares ns ≠ [] := fun z => by
    have := spares_len ns
    rw [z] at this
    have := T.pos
    simp at *
    omega
  show ((decide (1 ≤ ((ns.map D.int).length : Int)) && decide (((ns.map D.int).length : Int) ≤ 20)) && ((ns.map D.int).all natD && decide (maxL (spares ((ns.map D.int).map unI)) ≤ 40))) = true
  rw [unI_map, List.length_map, decide_eq_true h1, decide_eq_true h2, decide_eq_true (T.sp _ (maxL_mem hs)), List.all_map]
  simp only [Bool.and_true, Bool.true_and]
  exact List.all_eq_true.mpr fun x hx => by
    show (true && decide (0 ≤ x)) = true
    rw [decide_eq_true (T.nn x hx)]
    rfl
theorem is_team_ok {ns : List Int} (T : Team ns) : Hd (c_is_team (eL D.int ns)) true := by
  have h := isteam_d (tameI_ints ns)
  rw [isT_ok T] at h
  exact h
theorem check_team_ok {ns : List Int} (T : Team ns) : Hd (c_check_team (eL D.int ns)) () := hd_bd _ (is_team_ok T) (hd_bd () (hd_must rfl) hd_p)
theorem Team.le {ns : List Int} (T : Team ns) : ∀ x ∈ ns, x ≤ 59 := fun x hx => by
  have hx' := srt_mem.mpr hx
  obtain ⟨i, hi, e⟩ := List.getElem_of_mem hx'
  have : (spares ns)[i]? = some (x - (i : Int)) := by
    unfold spares
    rw [sparesFrom_get, List.getElem?_eq_getElem hi, e]
    simp
  have h1 := T.sp _ (List.mem_of_getElem? this)
  have := T.few
  rw [srt_len] at hi
  omega
theorem team_le {ns : List Int} (h1 : 1 ≤ ns.length) (h2 : ns.length ≤ 20) (h : ∀ x ∈ ns, 0 ≤ x ∧ x ≤ 40) : Team ns := by
  refine ⟨h1, h2, fun x hx => (h x hx).1, fun s hs => ?_⟩
  obtain ⟨i, hi, e⟩ := List.getElem_of_mem hs
  have hi' : i < (srt ns).length := by rw [srt_len, ← spares_len]; exact hi
  have : (spares ns)[i]? = some ((srt ns)[i] - (i : Int)) := by
    unfold spares
    rw [sparesFrom_get, List.getElem?_eq_getElem hi']
    simp
  rw [List.getElem?_eq_getElem hi, e] at this
  have h3 := Option.some.inj this
  have := (h _ (srt_mem.mp (List.getElem_mem hi'))).2
  omega
/-- what is drawn is a team -/
theorem team_of {ns : List Int} (h1 : 1 ≤ ns.length) (h2 : ns.length ≤ 20) (h0 : ∀ x ∈ ns, 0 ≤ x) {top : Int} (ht : top ≤ 40) (h : ∃ ms : List Int, ms.Perm ns ∧ ∀ (i : Nat) (x : Int), ms[i]? = some x → x ≤ top + i) : Team ns := by
  obtain ⟨ms, hp, hb⟩ := h
  refine ⟨h1, h2, h0, fun s hs => ?_⟩
  obtain ⟨i, hi, e⟩ := List.getElem_of_mem hs
  have hi' : i < (srt ns).length := by rw [srt_len, ← spares_len]; exact hi
  have q : (spares ns)[i]? = some ((srt ns)[i] - (i : Int)) := by
    unfold spares
    rw [sparesFrom_get, List.getElem?_eq_getElem hi']
    simp
  rw [List.getElem?_eq_getElem hi, e] at q
  have h3 := Option.some.inj q
  rcases Int.lt_or_le (top + i) (srt ns)[i] with hlt | hle
  · exfalso
    have hpw := srt_pw ns
    have c1 : ab (srt ns) (top + i) = ab ms (top + i) := Ar.ab_perm ((srt_perm ns).trans hp.symm) _
    have c2 : ab ms (top + i) = ab (ms.take (i + 1)) (top + i) + ab (ms.drop (i + 1)) (top + i) := by rw [← Ar.ab_append, List.take_append_drop]
    have c3 : ab (ms.take (i + 1)) (top + i) = 0 := Ar.ab_none fun x hx => by
      obtain ⟨j, hj, rfl⟩ := List.getElem_of_mem hx
      have hj' : j < i + 1 := by rw [List.length_take] at hj; omega
      have hj2 : j < ms.length := by rw [List.length_take] at hj; omega
      have := hb j (ms.take (i + 1))[j] (by rw [List.getElem_take, List.getElem?_eq_getElem hj2])
      omega
    have c4 := Ar.ab_le (ms.drop (i + 1)) (top + i)
    rw [List.length_drop, hp.length_eq] at c4
    have d2 : ab (srt ns) (top + i) = ab ((srt ns).take i) (top + i) + ab ((srt ns).drop i) (top + i) := by rw [← Ar.ab_append, List.take_append_drop]
    have d3 : ab ((srt ns).drop i) (top + i) = ((srt ns).drop i).length := Ar.ab_all fun x hx => by
      obtain ⟨j, hj, rfl⟩ := List.getElem_of_mem hx
      rw [List.getElem_drop]
      have hj2 : i + j < (srt ns).length := by rw [List.length_drop] at hj; omega
      rcases Nat.eq_zero_or_pos j with z | z
      · subst z
        exact hlt
      · have := List.pairwise_iff_getElem.mp hpw i (i + j) hi' hj2 (by omega)
        omega
    rw [List.length_drop, srt_len] at d3
    rw [srt_len] at hi'
    omega
  · omega
theorem getI_nat {α : Type} [Inhabited α] {xs : List α} {i : Nat} (h : i < xs.length) : getI xs (i : Int) = xs[i] := by
  unfold getI
  rw [if_pos (by omega), Int.toNat_natCast, List.getD_eq_getElem?_getD, List.getElem?_eq_getElem h]
  rfl
theorem sum_ones : ∀ xs : List Int, (xs.map fun _ => (1 : Int)).sum = xs.length
  | [] => rfl
  | x :: xs => by rw [List.map_cons, List.sum_cons, sum_ones xs, List.length_cons]; omega
theorem count_above_ok (ns : List Int) (b : Int) (h : ns.length < 1000000) : Hd (c_count_above ns b) (ab ns b) :=
  hd_bd () (hd_short h) (hd_bd _ (hd_filter (fun x => decide (b < x)) (fun _ => 1) (fun x _ => hd_p) fun x _ _ => hd_p) (hd_pe (sum_ones _)))
theorem with_next_ok (cs : List Int) (b : Int) (hl : cs.length ≤ 1000) (hb : 0 ≤ b ∧ b ≤ 1000) : Hd (c_counts_with_next cs b) (nx b cs) := by
  refine Sat.hd (sb (hd_cat (by simp; omega)) (st (s_for (fun pre s => s = Ar.lg b 0 0 (pre.map (·.2)) (cs.drop pre.length ++ [0])) ?_ ?_ fun s h => h) ?_))
  · cases cs with
    | nil => rfl
    | cons c cs => simp [Ar.lg]
  · rintro pre ⟨k, x⟩ post s ex rfl
    have hel := congrArg List.length ex
    rw [enumL_len, List.length_append, List.length_cons] at hel
    have hlt : pre.length < cs.length := by omega
    have hz : (enumL cs)[pre.length]? = some (k, x) := by rw [ex]; simp
    unfold enumL at hz
    rw [List.getElem?_map, List.getElem?_zipIdx, List.getElem?_eq_getElem hlt] at hz
    have hkx : ((pre.length : Nat) : Int) = k ∧ cs[pre.length] = x := by simpa using hz
    obtain ⟨rfl, hx⟩ := hkx
    have hdrop : cs.drop pre.length ++ [0] = x :: (cs.drop (pre.length + 1) ++ [0]) := by
      rw [List.drop_eq_getElem_cons hlt, hx]
      rfl
    obtain ⟨r, rest, hr⟩ : ∃ r rest, cs.drop (pre.length + 1) ++ [0] = r :: rest := by
      cases q : cs.drop (pre.length + 1) with
      | nil => exact ⟨0, [], rfl⟩
      | cons a l => exact ⟨a, l ++ [0], rfl⟩
    have hpl : (pre.map (·.2)).length = pre.length := List.length_map _
    have g := Ar.lg_get b (pre.map (·.2)) x r 0 0 rest
    have stp := Ar.lg_step b (pre.map (·.2)) x r 0 0 rest
    have ln := Ar.lg_length b (pre.map (·.2)) (x :: r :: rest) 0 0 (by simp)
    rw [hpl] at g stp ln
    rw [Nat.zero_add] at stp
    rw [hdrop, hr]
    have e1 : ((pre.length : Int) + 1) = ((pre.length + 1 : Nat) : Int) := by omega
    refine sb (hd_getI e1 g) (sb (hd_mul (small_mul (by omega))) (sb (a := Ar.lg b 0 0 (pre.map (·.2) ++ [x]) (r :: rest)) ?_ (sat_p ?_)))
    · show Hd (setM _ ((pre.length : Int) + 1) _) _
      rw [e1, ← stp]
      exact hd_setN (by rw [ln]; simp)
    · rw [List.map_append, List.length_append]
      show _ = Ar.lg b 0 0 (_ ++ [x]) (cs.drop (pre.length + 1) ++ [0])
      rw [hr]
  · intro s hs
    refine sat_p ?_
    rw [hs, enumL_len]
    have e2 : (enumL cs).map (·.2) = cs := by unfold enumL; rw [List.map_map]; simp [Function.comp_def]
    rw [e2, List.drop_length, List.nil_append, Ar.lg_end]
    rfl
theorem counts_along_ok (ns : List Int) (hl : ns.length ≤ 900) (hb : ∀ b ∈ ns, 0 ≤ b ∧ b ≤ 1000) : Hd (c_counts_along ns) (along ns) := by
  refine Sat.hd (st (s_for (fun pre s => s = along pre) rfl ?_ fun s h => h) fun s h => sat_p h)
  rintro pre x post s ex rfl
  have hlen : (along pre).length ≤ 1000 := by
    rw [Ar.along_length]
    have := congrArg List.length ex
    simp at this
    omega
  exact sb (with_next_ok (along pre) x hlen (hb x (by rw [ex]; simp))) (sat_p (Ar.along_snoc pre x).symm)
def cnt (ns : List Int) : List Int := along (srt ns)
theorem cnt_length (ns : List Int) : (cnt ns).length = ns.length + 1 := by
  unfold cnt
  rw [Ar.along_length, srt_len]
/-- the greatest size -/
def gr (ns : List Int) : Int := minL ((rgN ns.length).map fun b => b + (ab ns b : Int))
theorem gr_le {ns : List Int} (h : ns ≠ []) (t : Nat) : gr ns ≤ t + ab ns (t : Int) := by
  have hp : 0 < ns.length := List.length_pos_iff.mpr h
  by_cases ht : t < ns.length
  · exact minL_le (List.mem_map.mpr ⟨(t : Int), mem_rgN.mpr ⟨by omega, by omega⟩, rfl⟩)
  · have h0 : gr ns ≤ 0 + ab ns 0 := minL_le (List.mem_map.mpr ⟨0, mem_rgN.mpr ⟨by omega, by omega⟩, rfl⟩)
    have := Ar.ab_le ns 0
    omega
theorem gr_mem {ns : List Int} (h : ns ≠ []) : ∃ t : Nat, t < ns.length ∧ gr ns = t + ab ns (t : Int) := by
  have hp : 0 < ns.length := List.length_pos_iff.mpr h
  have m := minL_mem (ns := (rgN ns.length).map fun b => b + (ab ns b : Int)) fun z => by
    have h0 := congrArg List.length z
    rw [List.length_map, rgN_length, List.length_nil] at h0
    omega
  obtain ⟨b, hb, e⟩ := List.mem_map.mp m
  obtain ⟨h0, h1⟩ := mem_rgN.mp hb
  refine ⟨b.toNat, by omega, ?_⟩
  have : ((b.toNat : Nat) : Int) = b := by omega
  rw [this]
  exact e.symm
/-- what comes of the counts: the likeliest sizes, the mean -/
def lk (cs : List Int) : List Int := ((enumL cs).filter fun p => decide (p.2 = maxL cs)).map fun p => p.1
theorem cnt_ne (ns : List Int) : cnt ns ≠ [] := fun z => by
  have := cnt_length ns
  rw [z] at this
  simp at this
def frac (a b : Int) : Int × Int := (a / gcdI a b, b / gcdI a b)
def wsum (cs : List Int) : Int := ((enumL cs).map fun p => p.1 * p.2).sum
theorem srt_nn {ns : List Int} (T : Team ns) : ∀ x ∈ srt ns, 0 ≤ x := fun x hx => T.nn x (srt_mem.mp hx)
theorem cnt_nn {ns : List Int} (T : Team ns) : ∀ c ∈ cnt ns, 0 ≤ c := fun c hc => by
  obtain ⟨k, rfl⟩ := Ar.mem_along hc
  exact (Ar.cf_good (srt ns) (srt_pw ns) (srt_nn T)).1 k
theorem cnt_size {ns : List Int} (T : Team ns) : ∀ c ∈ cnt ns, c.natAbs ≤ 101 ^ 20 := fun c hc => by
  have := Ar.along_bd (q := 100) (ns := srt ns) (fun b hb j hj => by
    have h1 := T.nn b (srt_mem.mp hb)
    have h2 := T.le b (srt_mem.mp hb)
    have := T.few
    rw [srt_len] at hj
    omega) c hc
  rw [srt_len] at this
  have h3 : (100 + 1) ^ ns.length ≤ 101 ^ 20 := Nat.pow_le_pow_right (by decide) T.few
  omega
theorem cnt_sum {ns : List Int} (T : Team ns) : 0 < (cnt ns).sum ∧ (cnt ns).sum.natAbs < 2 ^ 7999 := by
  refine ⟨Ar.sum_pos (cnt_nn T) (Ar.one_mem_along _) (by decide), ?_⟩
  have h1 := Ar.sum_natAbs (cnt ns) (cnt_size T)
  rw [cnt_length] at h1
  have h2 : (ns.length + 1) * 101 ^ 20 ≤ 21 * 101 ^ 20 := Nat.mul_le_mul_right _ (by have := T.few; omega)
  have h3 : 21 * 101 ^ 20 < 2 ^ 200 := by decide
  have h4 : (2 : Nat) ^ 200 < 2 ^ 7999 := Nat.pow_lt_pow_right (by decide) (by decide)
  exact Nat.lt_of_le_of_lt (Nat.le_trans h1 h2) (Nat.lt_trans h3 h4)
theorem mem_enumL {α : Type} {xs : List α} {p : Int × α} (h : p ∈ enumL xs) : ∃ i : Nat, p.1 = i ∧ xs[i]? = some p.2 := by
  unfold enumL at h
  obtain ⟨⟨x, i⟩, hq, rfl⟩ := List.mem_map.mp h
  exact ⟨i, rfl, List.mk_mem_zipIdx_iff_getElem?.mp hq⟩
/-! ### which error -/
end Tk32

set_option Elab.async false
set_option linter.all false
set_option maxRecDepth 100000
set_option exponentiation.threshold 9000
/-! SW: lists of workers and of jobs, papers, ways of sets -/
namespace Tk32
open PySem L2 Vm
open Ar (along cf ab lo hi)
theorem within_D (i a b : Int) : Hd (c_is_within (D.int i) a b) (decide (a ≤ i) && decide (i ≤ b)) := hd_bd true (whole_ok i) (hd_bd _ (hd_t rfl (hd_bd i (asInt_ok i) hd_p)) hd_p)
/-- an ascending list within bounds -/
structure Asc (xs : List Int) (top : Int) : Prop where
  pw : xs.Pairwise (· < ·)
  rng : ∀ x ∈ xs, 0 ≤ x ∧ x ≤ top
  len : xs.length ≤ 60
theorem tame_ints (ns : List Int) : tame (eL D.int ns) = true := tameI_tame (tameI_ints ns)
theorem cut_tail (xs : List Int) : cutI xs (some 1) none = xs.drop 1 := by
  unfold cutI
  have e1 : (1 : Int) = ((1 : Nat) : Int) := rfl
  rw [e1, HT.sIx_none, HT.sIx_nat]
  cases xs with
  | nil => rfl
  | cons x xs =>
    have : min 1 (x :: xs).length = 1 := by simp
    rw [this, List.take_of_length_le (by rw [List.length_drop]; omega)]
theorem is_ascending_ok {xs : List Int} {top : Int} (A : Asc xs top) : Hd (c_is_ascending (eL D.int xs) top) true := by
  have hl := A.len
  refine hd_bd true (isL_ok (tame_ints xs)) (hd_bd false (hd_f rfl (hd_bd xs (asInts_ok xs) (hd_bd () (hd_short (by omega)) (hd_bd (xs.map fun _ => true) (hd_mapM (fun _ => true) fun x hx => ?_) (hd_pe ?_))))) (hd_f rfl (hd_bd xs (asInts_ok xs) (hd_bd xs (asInts_ok xs) (hd_bd () (hd_short ?_) (hd_bd ((xs.zip (xs.drop 1)).map fun _ => true) ?_ (hd_pe ?_)))))))
  · obtain ⟨h1, h2⟩ := A.rng x hx
    exact hd_bd true ((within_D x 0 top).to (by rw [decide_eq_true h1, decide_eq_true h2]; rfl)) hd_p
  · rw [show (xs.map fun _ => true).all id = true by simp]; rfl
  · rw [List.length_zip]; omega
  · rw [cut_tail]
    exact hd_mapM (fun _ => true) fun q hq => hd_pe (decide_eq_true (Ar.zip_tail A.pw q hq))
  · simp
theorem check_workers_ok {ns gs : List Int} (A : Asc gs ((ns.length : Int) - 1)) : Hd (c_check_workers ns (eL D.int gs)) () := hd_bd true (is_ascending_ok A) (hd_bd () (hd_must rfl) hd_p)
theorem check_jobs_ok {gs : List Int} (A : Asc gs 59) (h : gs.length ≤ 20) : Hd (c_check_jobs (eL D.int gs)) () := hd_bd true (is_ascending_ok A) (hd_bd false (hd_f rfl (hd_bd _ (asList_I gs) (hd_pe (by rw [List.length_map]; exact decide_eq_false (by omega))))) (hd_bd () (hd_must rfl) hd_p))
theorem last_ok {xs : List Int} (h : xs ≠ []) : Hd (getM xs (-1)) (xs.getD (xs.length - 1) 0) := by
  have hl : 0 < xs.length := List.length_pos_iff.mpr h
  refine ⟨⟨by omega, by omega⟩, ?_⟩
  show getI xs (-1) = _
  unfold getI
  rw [if_neg (by decide), show ((xs.length : Int) + -1).toNat = xs.length - 1 by omega]
  rfl
theorem ways_of_all_ok {ls : List Int} (hl : ls.length ≤ 900) (hb : ∀ b ∈ ls, 0 ≤ b ∧ b ≤ 1000) : Hd (c_ways_of_all ls) (cf (srt ls) ls.length) := by
  have h1 := counts_along_ok (srt ls) (by rw [srt_len]; exact hl) fun b hb' => hb b (srt_mem.mp hb')
  have hlen : (along (srt ls)).length = ls.length + 1 := by rw [Ar.along_length, srt_len]
  refine hd_bd _ h1 (hd_bd _ (last_ok (fun z => by rw [z] at hlen; simp at hlen)) (hd_pe ?_))
  rw [hlen, Nat.add_sub_cancel, Ar.along_get]
/-- the levels of these workers -/
def lv (ns gs : List Int) : List Int := gs.map fun w => getI ns w
theorem get_asc {ns gs : List Int} (A : Asc gs ((ns.length : Int) - 1)) {w : Int} (h : w ∈ gs) : Hd (getM ns w) (getI ns w) := by
  have := A.rng w h
  exact ⟨⟨by omega, by omega⟩, rfl⟩
theorem getI_mem {ns : List Int} {w : Int} (h0 : 0 ≤ w) (h1 : w < ns.length) : getI ns w ∈ ns := by
  obtain ⟨i, rfl⟩ : ∃ i : Nat, w = (i : Int) := ⟨w.toNat, by omega⟩
  rw [getI_nat (by omega)]
  exact List.getElem_mem _
theorem lv_mem {ns gs : List Int} (A : Asc gs ((ns.length : Int) - 1)) {x : Int} (h : x ∈ lv ns gs) : x ∈ ns := by
  obtain ⟨w, hw, rfl⟩ := List.mem_map.mp h
  have := A.rng w hw
  exact getI_mem this.1 (by omega)
theorem bars_workers_ok {ns gs : List Int} (A : Asc gs ((ns.length : Int) - 1)) (b : Int) : Hd (c_bars_workers ns gs b) (decide (b < (lo (lv ns gs) b : Int))) := by
  have hl := A.len
  refine hd_bd () (hd_short (by omega)) (hd_bd ((gs.filter fun w => decide (getI ns w ≤ b)).map fun w => w) (hd_filter (fun w => decide (getI ns w ≤ b)) (fun w => w) (fun w hw => hd_bd _ (get_asc A hw) hd_p) fun _ _ _ => hd_p) (hd_pe ?_))
  rw [List.length_map]
  unfold lo lv
  rw [List.filter_map, List.length_map]
  rfl
theorem asc_few {gs : List Int} {n : Nat} (A : Asc gs ((n : Int) - 1)) : gs.length ≤ n := by
  have : ∀ (xs : List Int) (k : Int), xs.Pairwise (· < ·) → (∀ x ∈ xs, k ≤ x ∧ x ≤ (n : Int) - 1) → (xs.length : Int) ≤ max 0 (n - k) := fun xs => by
    induction xs with
    | nil => intro k _ _; show (0 : Int) ≤ _; omega
    | cons x xs ih =>
      intro k hp h
      obtain ⟨h1, h2⟩ := List.pairwise_cons.mp hp
      have hx := h x List.mem_cons_self
      have := ih (x + 1) h2 fun y hy => ⟨by have := h1 y hy; omega, (h y (List.mem_cons_of_mem _ hy)).2⟩
      rw [List.length_cons]
      omega
  have := this gs 0 A.pw fun x hx => A.rng x hx
  omega
/-- the least number that bars, if any -/
def wpap (ns gs : List Int) : Option Int := minO ((rgN gs.length).filter fun t => decide (t < (lo (lv ns gs) t : Int)))
theorem work_paper_ok {ns gs : List Int} (T : Team ns) (A : Asc gs ((ns.length : Int) - 1)) : Hd (c_work_paper ns gs) (wpap ns gs) := by
  have hl := A.len
  refine hd_bd () (check_team_ok T) (hd_bd () (check_workers_ok A) (hd_bd _ (hd_rg rfl (by omega)) (hd_bd () (hd_short (by rw [rgN_length]; omega)) (hd_bd _ (hd_filter (fun t => decide (t < (lo (lv ns gs) t : Int))) (fun t => t) (fun t _ => hd_bd _ (bars_workers_ok A t) hd_p) fun _ _ _ => hd_p) (hd_pe ?_)))))
  unfold wpap
  rw [List.map_id']
theorem lv_rng {ns gs : List Int} (T : Team ns) (A : Asc gs ((ns.length : Int) - 1)) : ∀ b ∈ lv ns gs, 0 ≤ b ∧ b ≤ 1000 := fun b hb => by
  have h := lv_mem A hb
  have := T.nn b h
  have := T.le b h
  omega
theorem ways_of_workers_ok {ns gs : List Int} (T : Team ns) (A : Asc gs ((ns.length : Int) - 1)) : Hd (c_ways_of_workers ns gs) (cf (srt (lv ns gs)) gs.length) := by
  have hl := A.len
  have e : (lv ns gs).length = gs.length := List.length_map _
  have h := ways_of_all_ok (ls := lv ns gs) (by omega) (lv_rng T A)
  rw [e] at h
  exact hd_bd () (check_team_ok T) (hd_bd () (check_workers_ok A) (hd_bd () (hd_short (by omega)) (hd_bd _ (hd_mapM (fun w => getI ns w) fun w hw => hd_bd _ (get_asc A hw) hd_p) (hd_bd _ h hd_p))))
theorem can_work_ok {ns gs : List Int} (T : Team ns) (A : Asc gs ((ns.length : Int) - 1)) : Hd (c_can_work ns gs) (decide (0 < cf (srt (lv ns gs)) gs.length)) := hd_bd _ (ways_of_workers_ok T A) hd_p
/-- of how many each of these jobs can be done -/
def mv (ns gs : List Int) : List Int := gs.map fun j => (ab ns j : Int)
theorem bars_jobs_ok {ns gs : List Int} (T : Team ns) (hl : gs.length ≤ 20) (b : Int) : Hd (c_bars_jobs ns gs b) (decide ((ab ns b : Int) < (hi gs b : Int))) := by
  have := T.few
  refine hd_bd _ (count_above_ok ns b (by omega)) (hd_bd () (hd_short (by omega)) (hd_bd _ (hd_filter (fun w => decide (b ≤ w)) (fun w => w) (fun w hw => hd_p) fun _ _ _ => hd_p) (hd_pe ?_)))
  rw [List.length_map]
  rfl
def gpap (ns gs : List Int) : Option Int := minO ((rgN 60).filter fun t => decide ((ab ns t : Int) < (hi gs t : Int)))
theorem give_paper_ok {ns gs : List Int} (T : Team ns) (A : Asc gs 59) (hl : gs.length ≤ 20) : Hd (c_give_paper ns gs) (gpap ns gs) := by
  refine hd_bd () (check_team_ok T) (hd_bd () (check_jobs_ok A hl) (hd_bd _ (hd_rg (n := 60) rfl (by decide)) (hd_bd () (hd_short (by rw [rgN_length]; decide)) (hd_bd _ (hd_filter (fun t => decide ((ab ns t : Int) < (hi gs t : Int))) (fun t => t) (fun t _ => hd_bd _ (bars_jobs_ok T hl t) hd_p) fun _ _ _ => hd_p) (hd_pe ?_)))))
  unfold gpap
  rw [List.map_id']
theorem mv_rng {ns gs : List Int} (T : Team ns) : ∀ b ∈ mv ns gs, 0 ≤ b ∧ b ≤ 1000 := fun b hb => by
  obtain ⟨j, _, rfl⟩ := List.mem_map.mp hb
  have := Ar.ab_le ns j
  have := T.few
  omega
theorem ways_of_jobs_ok {ns gs : List Int} (T : Team ns) (A : Asc gs 59) (hl : gs.length ≤ 20) : Hd (c_ways_of_jobs ns gs) (cf (srt (mv ns gs)) gs.length) := by
  have := T.few
  have e : (mv ns gs).length = gs.length := List.length_map _
  have h := ways_of_all_ok (ls := mv ns gs) (by omega) (mv_rng T)
  rw [e] at h
  exact hd_bd () (check_team_ok T) (hd_bd () (check_jobs_ok A hl) (hd_bd () (hd_short (by omega)) (hd_bd _ (hd_mapM (fun j => (ab ns j : Int)) fun w hw => hd_bd _ (count_above_ok ns w (by omega)) hd_p) (hd_bd _ h hd_p))))
theorem can_give_ok {ns gs : List Int} (T : Team ns) (A : Asc gs 59) (hl : gs.length ≤ 20) : Hd (c_can_give ns gs) (decide (0 < cf (srt (mv ns gs)) gs.length)) := hd_bd _ (ways_of_jobs_ok T A hl) hd_p
theorem shows_work_ok {ns gs : List Int} (T : Team ns) (A : Asc gs ((ns.length : Int) - 1)) {d : D} (h : tame d = true) : Hd (c_shows_work_paper ns gs d) (isW d && (decide (0 ≤ Vm.unI d) && decide (Vm.unI d < (lo (lv ns gs) (Vm.unI d) : Int)))) := by
  refine hd_bd () (check_team_ok T) (hd_bd () (check_workers_ok A) (hd_bd _ (whole_d h) ?_))
  cases hw : isW d with
  | false => exact hd_bd false (hd_f rfl hd_p) hd_p
  | true =>
    have : ∃ t, d = .int t := by
      cases d <;> first
        | exact ⟨_, rfl⟩
        | cases hw
    obtain ⟨t, rfl⟩ := this
    by_cases h0 : 0 ≤ t
    · refine hd_bd (decide (t < (lo (lv ns gs) t : Int))) (hd_t rfl (hd_bd t (asInt_ok t) (hd_bd _ (hd_t (decide_eq_true h0) (hd_bd t (asInt_ok t) (hd_bd _ (bars_workers_ok A t) hd_p))) hd_p))) (hd_pe ?_)
      show _ = (true && (decide (0 ≤ t) && decide (t < (lo (lv ns gs) t : Int))))
      rw [decide_eq_true h0]
      rfl
    · refine hd_bd false (hd_t rfl (hd_bd t (asInt_ok t) (hd_bd _ (hd_f (decide_eq_false h0) hd_p) hd_p))) (hd_pe ?_)
      show _ = (true && (decide (0 ≤ t) && decide (t < (lo (lv ns gs) t : Int))))
      rw [decide_eq_false h0]
      rfl
theorem shows_give_ok {ns gs : List Int} (T : Team ns) (A : Asc gs 59) (hl : gs.length ≤ 20) {d : D} (h : tame d = true) : Hd (c_shows_give_paper ns gs d) (isW d && (decide (0 ≤ Vm.unI d) && decide ((ab ns (Vm.unI d) : Int) < (hi gs (Vm.unI d) : Int)))) := by
  refine hd_bd () (check_team_ok T) (hd_bd () (check_jobs_ok A hl) (hd_bd _ (whole_d h) ?_))
  cases hw : isW d with
  | false => exact hd_bd false (hd_f rfl hd_p) hd_p
  | true =>
    have : ∃ t, d = .int t := by
      cases d <;> first
        | exact ⟨_, rfl⟩
        | cases hw
    obtain ⟨t, rfl⟩ := this
    by_cases h0 : 0 ≤ t
    · refine hd_bd (decide ((ab ns t : Int) < (hi gs t : Int))) (hd_t rfl (hd_bd t (asInt_ok t) (hd_bd _ (hd_t (decide_eq_true h0) (hd_bd t (asInt_ok t) (hd_bd _ (bars_jobs_ok T hl t) hd_p))) hd_p))) (hd_pe ?_)
      show _ = (true && (decide (0 ≤ t) && decide ((ab ns t : Int) < (hi gs t : Int))))
      rw [decide_eq_true h0]
      rfl
    · refine hd_bd false (hd_t rfl (hd_bd t (asInt_ok t) (hd_bd _ (hd_f (decide_eq_false h0) hd_p) hd_p))) (hd_pe ?_)
      show _ = (true && (decide (0 ≤ t) && decide ((ab ns t : Int) < (hi gs t : Int))))
      rw [decide_eq_false h0]
      rfl
/-- who can all work, which jobs can all be given -/
theorem srt_pw' (ns : List Int) : (srt ns).Pairwise (· ≤ ·) := srt_pw ns
theorem can_lo {ls : List Int} (h0 : ∀ x ∈ ls, 0 ≤ x) : 0 < cf (srt ls) ls.length ↔ ∀ t : Nat, lo ls (t : Int) ≤ t := by
  have := Ar.full_lo (srt_pw ls) (fun x hx => h0 x (srt_mem.mp hx))
  rw [srt_len] at this
  rw [this]
  exact forall_congr' fun t => by rw [Ar.lo_perm (srt_perm ls)]
theorem can_hi {ns gs : List Int} (A : ∀ x ∈ gs, 0 ≤ x) : 0 < cf (srt (mv ns gs)) gs.length ↔ ∀ t : Nat, hi gs (t : Int) ≤ ab ns (t : Int) := by
  have e : (mv ns gs).length = gs.length := List.length_map _
  have h := can_lo (ls := mv ns gs) fun x hx => by
    obtain ⟨j, _, rfl⟩ := List.mem_map.mp hx
    omega
  rw [e] at h
  rw [h]
  exact Ar.lack_iff (m := fun j => ab ns j) (fun i j h => Ar.ab_anti ns h) A
theorem min_none {xs : List Int} : minO xs = none ↔ xs = [] := by
  unfold minO
  by_cases h : xs = [] <;> simp [h]
end Tk32

set_option Elab.async false
set_option linter.all false
set_option maxRecDepth 100000
/-! FO: comprehensions whose test changes own lists, plain rules; least numbers. -/
namespace Vm
open PySem PySem.Spec PyProof.Rows L2 Evl
section
variable {α β σ : Type}
theorem s_lcO {st : σ → α → M (Option β × σ)} {xs : List α} {s0 : σ} {P : List β × σ → Prop} (I : List α → List β → σ → Prop) (h0 : I [] [] s0)
    (hs : ∀ pre x post ys s, xs = pre ++ x :: post → I pre ys s → Sat (st s x) (fun z => I (pre ++ [x]) (match z.1 with | some y => ys ++ [y] | none => ys) z.2)) (hP : ∀ ys s, I xs ys s → P (ys, s)) : Sat (lcO st s0 xs) P := by
  have go : ∀ (post pre : List α) (ys : List β) (s : σ), xs = pre ++ post → I pre ys s → Sat (lcO st s post) fun z => I xs (ys ++ z.1) z.2 := by
    intro post
    induction post with
    | nil =>
      intro pre ys s e i
      rw [List.append_nil] at e
      subst e
      exact sat_p (by show I xs (ys ++ []) s; rw [List.append_nil]; exact i)
    | cons x post ih =>
      intro pre ys s e i
      show Sat (bd (st s x) fun a => bd (lcO st a.2 post) fun c => pr ((match a.1 with | some y => y :: c.1 | none => c.1), c.2)) _
      refine Vm.st (hs pre x post ys s e i) fun z i1 => ?_
      refine Vm.st (ih (pre ++ [x]) _ z.2 (by rw [e]; simp) i1) fun c i2 => sat_p ?_
      obtain ⟨o, s'⟩ := z
      cases o with
      | none => exact i2
      | some y =>
        have i2 : I xs (ys ++ [y] ++ c.1) c.2 := i2
        show I xs (ys ++ y :: c.1) c.2
        rw [List.append_assoc] at i2
        exact i2
  refine (go xs [] [] s0 rfl h0).mono fun z i => ?_
  obtain ⟨ys, s⟩ := z
  exact hP ys s i
end
theorem min_none {xs : List Int} : minO xs = none ↔ xs = [] := by
  unfold minO
  by_cases h : xs = [] <;> simp [h]
/-- the least of an ascending list is its first item -/
theorem min_asc {xs : List Int} (h : xs.Pairwise (· < ·)) : minO xs = xs.head? := by
  cases xs with
  | nil => rfl
  | cons x xs =>
    unfold minO
    rw [if_neg (by simp)]
    have h1 := minL_mem (ns := x :: xs) (by simp)
    have h2 := minL_le (ns := x :: xs) (y := x) (by simp)
    have e : minL (x :: xs) = x := by
      rcases List.mem_cons.mp h1 with q | q
      · exact q
      · have := (List.pairwise_cons.mp h).1 _ q
        omega
    rw [e]
    rfl
theorem hd_eqT {x y : D} {b : Bool} (h : eqD x y = some b) : Hd (deqM x y) b := by
  refine ⟨?_, ?_⟩
  · show (eqD x y).isSome = true
    rw [h]; rfl
  · show (eqD x y).getD false = b
    rw [h]; rfl
theorem shy_bl {b : Bool} : Shy (.bl b) 0 1001 := ⟨rfl, Nat.le_refl _, by cases b <;> decide⟩
theorem shy_opt {o : Option Int} (h : ∀ i ∈ o, i.natAbs < 2 ^ 1000) : Shy (eO D.int o) 0 1001 := by
  cases o with
  | none => exact ⟨rfl, Nat.le_refl _, by decide⟩
  | some i => exact shy_int (h i rfl)
theorem shy_int1 {ns : List Int} (hl : ns.length ≤ 100) (h : ∀ n ∈ ns, 0 ≤ n ∧ n ≤ 1000000) : Shy (eL D.int ns) 1 100302 := (shy_lst (shys_ints fun n hn => by have := h n hn; omega)).mono (by decide) (by omega)
/-- further numbers that are none -/
theorem rg_short {p : Int → Bool} {n m : Nat} (hnm : n ≤ m) (h : ∀ i : Nat, n ≤ i → p (i : Int) = false) : (rgN m).filter p = (rgN n).filter p := by
  obtain ⟨k, rfl⟩ : ∃ k, m = n + k := ⟨m - n, by omega⟩
  induction k with
  | zero => rfl
  | succ k ih =>
    rw [← Nat.add_assoc, rgN_succ, List.filter_append, ih (by omega)]
    show _ ++ List.filter p [((n + k : Nat) : Int)] = _
    rw [List.filter_cons_of_neg (by rw [h (n + k) (by omega)]; simp)]
    simp
theorem rg_asc (n : Nat) : (rgN n).Pairwise (· < ·) := by
  unfold rgN
  rw [List.pairwise_map]
  exact (List.pairwise_lt_range).imp fun h => by omega
end Vm

set_option Elab.async false
set_option linter.all false
set_option maxRecDepth 100000
set_option exponentiation.threshold 9000
/-! L32: papers of sets -/
namespace Tk32
open PySem L2 Vm
open Ar (along cf ab lo hi)
theorem high_ok {t : Nat} {p : List Int} (P : Purse t p) (ht : t ≤ 900000) : Sat (c_law_high p) fun z => Team z.1 ∧ Purse (t + 60) z.2 := by
  refine st (pick_ok P (by omega) (by decide) (by decide)) fun ⟨r1, p1⟩ ⟨a1, b1, P1⟩ => ?_
  simp only at a1 b1 P1 ⊢
  obtain ⟨far, hfar, f1, f2⟩ : ∃ far : Int, Hd (getM [1, 4, 41] r1) far ∧ 1 ≤ far ∧ far ≤ 41 := by
    obtain ⟨i, rfl⟩ : ∃ i : Nat, r1 = (i : Int) := ⟨r1.toNat, by omega⟩
    match i, b1 with
    | 0, _ => exact ⟨1, hd_getN rfl, by decide, by decide⟩
    | 1, _ => exact ⟨4, hd_getN rfl, by decide, by decide⟩
    | 2, _ => exact ⟨41, hd_getN rfl, by decide, by decide⟩
    | i + 3, h => omega
  refine sb hfar (sp (st (pick_ok P1 (by omega) (by decide) (by decide)) fun ⟨r2, p2⟩ ⟨a2, b2, P2⟩ => ?_))
  simp only at a2 b2 P2 ⊢
  obtain ⟨n, hn⟩ : ∃ n : Nat, 1 + r2 = (n : Int) := ⟨(1 + r2).toNat, by omega⟩
  rw [hn]
  refine sb (hd_rg (n := n) rfl (by omega)) ?_
  refine st (R := fun s : List Int × List Int => s.2.length = n ∧ (∀ (i : Nat) (x : Int), s.2[i]? = some x → 0 ≤ x ∧ x ≤ 40 + i) ∧ Purse (t + 2 + n) s.1) (s_forR (fun k (s : List Int × List Int) => s.2.length = k ∧ (∀ (i : Nat) (x : Int), s.2[i]? = some x → 0 ≤ x ∧ x ≤ 40 + i) ∧ Purse (t + 2 + k) s.1) ⟨rfl, by simp, P2⟩ (fun k s hk ⟨g1, g2, Q⟩ => ?_) fun s h => h) fun ⟨p3, ls⟩ ⟨g1, g2, Q⟩ => ?_
  · obtain ⟨q, ls⟩ := s
    simp only at g1 g2 Q ⊢
    refine st (pick_ok Q (by omega) f1 (by omega)) fun ⟨r3, p3⟩ ⟨a3, b3, P3⟩ => ?_
    simp only at a3 b3 P3 ⊢
    refine sb (hd_app (by omega)) (sat_p ⟨by simp [g1], fun i x hx => ?_, P3⟩)
    by_cases hi : i < ls.length
    · rw [List.getElem?_append_left hi] at hx
      exact g2 i x hx
    · rw [List.getElem?_append_right (by omega)] at hx
      have : i - ls.length = 0 := by
        cases q : i - ls.length with
        | zero => rfl
        | succ k => rw [q] at hx; cases hx
      rw [this] at hx
      have hx := Option.some.inj (show some _ = some x from hx)
      have : i = k := by omega
      omega
  simp only at g1 g2 Q ⊢
  refine sb (hd_rg (n := n) (by rw [g1]) (by omega)) (sb (hd_short (by rw [rgN_length]; omega)) ?_)
  refine st (popped_ok Q (by omega) g1) fun ⟨zs, p4, rest⟩ ⟨f1, P4⟩ => ?_
  simp only at f1 P4 ⊢
  have hl := f1.length_eq
  refine sat_p ⟨team_of (top := 40) (by rw [hl]; omega) (by rw [hl]; omega) (fun x hx => ?_) (by decide) ⟨ls, f1.symm, fun i x hx => (g2 i x hx).2⟩, P4.mono (by omega)⟩
  obtain ⟨i, hi, e⟩ := List.getElem_of_mem (f1.mem_iff.mp hx)
  exact (g2 i x (by rw [List.getElem?_eq_getElem hi, e])).1
theorem cut_take {xs : List Int} {k : Nat} : cutI xs none (some (k : Int)) = xs.take k := by
  unfold cutI
  rw [HT.sIx_none, HT.sIx_nat, List.drop_zero]
  rcases Nat.le_total k xs.length with h | h
  · rw [Nat.min_eq_left h, Nat.sub_zero]
  · rw [Nat.min_eq_right h, Nat.sub_zero, List.take_of_length_le (Nat.le_refl _), List.take_of_length_le h]
theorem cut_last {xs : List Int} : ∃ k, cutI xs (some (-20)) none = xs.drop k ∧ (xs.drop k).length ≤ 20 := by
  unfold cutI
  refine ⟨HT.sIx xs.length 0 (some (-20)), ?_, ?_⟩
  · rw [HT.sIx_none, List.take_of_length_le (by rw [List.length_drop]; omega)]
  · rw [List.length_drop]
    have : xs.length - 20 ≤ HT.sIx xs.length 0 (some (-20)) := by
      unfold HT.sIx
      first
        | (dsimp only; split <;> omega)
        | (simp; omega)
        | omega
    omega
theorem rising_ok {t n : Nat} {p : List Int} (P : Purse t p) (ht : t ≤ 900000) (hn : n ≤ 60) : Sat (c_law_rising p (n : Int) 20) fun z => Asc z.1 ((n : Int) - 1) ∧ z.1.length ≤ 20 ∧ Purse (t + 62) z.2 := by
  refine st (pick_ok P (by omega) (by decide) (by decide)) fun ⟨r1, p1⟩ ⟨a1, b1, P1⟩ => ?_
  simp only at a1 b1 P1 ⊢
  refine sb (hd_rg (n := n) rfl (by omega)) (sb (hd_short (by rw [rgN_length]; omega)) ?_)
  refine st (R := fun z : List Int × List Int => z.1.Pairwise (· < ·) ∧ (∀ x ∈ z.1, 0 ≤ x ∧ x < n) ∧ z.1.length ≤ n ∧ Purse (t + 1 + n) z.2) (s_lcO (fun pre (ys : List Int) (q : List Int) => ys.Pairwise (· < ·) ∧ (∀ x ∈ ys, 0 ≤ x ∧ x < pre.length) ∧ ys.length ≤ pre.length ∧ Purse (t + 1 + pre.length) q) ⟨by simp, by simp, Nat.le_refl _, P1⟩ (fun pre x post ys q e ⟨h1, h2, h3, Q⟩ => ?_) fun ys q ⟨h1, h2, h3, Q⟩ => by rw [rgN_length] at h2 h3 Q; exact ⟨h1, h2, h3, Q⟩) fun ⟨found, p2⟩ ⟨h1, h2, h3, P2⟩ => ?_
  · have hl : pre.length < n := by
      have := congrArg List.length e
      rw [rgN_length, List.length_append, List.length_cons] at this
      omega
    have hx : x = (pre.length : Int) := by
      have := rgN_get hl
      rw [e, List.getElem?_append_right (Nat.le_refl _), Nat.sub_self] at this
      exact Option.some.inj this
    have yes : ∀ q', Purse (t + 1 + pre.length + 1) q' → ((ys ++ [x]).Pairwise (· < ·) ∧ (∀ y ∈ ys ++ [x], 0 ≤ y ∧ y < ((pre ++ [x]).length : Int)) ∧ (ys ++ [x]).length ≤ (pre ++ [x]).length ∧ Purse (t + 1 + (pre ++ [x]).length) q') := fun q' Q' => by
      refine ⟨List.pairwise_append.mpr ⟨h1, by simp, fun a ha b hb => ?_⟩, fun y hy => ?_, by simp; exact h3, Q'.mono (by simp; omega)⟩
      · rw [List.mem_singleton.mp hb, hx]
        exact (h2 a ha).2
      · rw [List.length_append]
        rcases List.mem_append.mp hy with hy | hy
        · have := h2 y hy
          exact ⟨this.1, by simp only [List.length_cons, List.length_nil]; omega⟩
        · rw [List.mem_singleton.mp hy, hx]
          exact ⟨by omega, by simp only [List.length_cons, List.length_nil]; omega⟩
    have no : ∀ q', Purse (t + 1 + pre.length + 1) q' → (ys.Pairwise (· < ·) ∧ (∀ y ∈ ys, 0 ≤ y ∧ y < ((pre ++ [x]).length : Int)) ∧ ys.length ≤ (pre ++ [x]).length ∧ Purse (t + 1 + (pre ++ [x]).length) q') := fun q' Q' => by
      refine ⟨h1, fun y hy => ?_, by simp; omega, Q'.mono (by simp; omega)⟩
      have := h2 y hy
      rw [List.length_append]
      exact ⟨this.1, by simp only [List.length_cons, List.length_nil]; omega⟩
    refine st (R := fun z : Bool × List Int => Purse (t + 1 + pre.length + 1) z.2) ?_ fun ⟨b, q'⟩ Q' => ?_
    · refine scc (fun _ => sat_p (Q.mono (by omega))) fun _ => ?_
      obtain ⟨wd, hw, w1, w2⟩ : ∃ wd : Int, Hd (getM [2, 5, 9, 1] r1) wd ∧ 1 ≤ wd ∧ wd ≤ 9 := by
        obtain ⟨i, rfl⟩ : ∃ i : Nat, r1 = (i : Int) := ⟨r1.toNat, by omega⟩
        match i, b1 with
        | 0, _ => exact ⟨2, hd_getN rfl, by decide, by decide⟩
        | 1, _ => exact ⟨5, hd_getN rfl, by decide, by decide⟩
        | 2, _ => exact ⟨9, hd_getN rfl, by decide, by decide⟩
        | 3, _ => exact ⟨1, hd_getN rfl, by decide, by decide⟩
        | i + 4, h => omega
      exact sb hw (st (pick_ok Q (by omega) w1 (by omega)) fun ⟨r3, p3⟩ ⟨a3, b3, P3⟩ => sat_p P3)
    · exact scc (fun _ => sat_p (yes q' Q')) fun _ => sat_p (no q' Q')
  simp only at h1 h2 h3 P2 ⊢
  refine st (pick_ok P2 (by omega) (by decide) (by decide)) fun ⟨r2, p3⟩ ⟨a2, b2, P3⟩ => ?_
  simp only at a2 b2 P3 ⊢
  have fin : ∀ zs : List Int, zs.Sublist found → zs.length ≤ 20 → (Asc zs ((n : Int) - 1) ∧ zs.length ≤ 20 ∧ Purse (t + 62) p3) := fun zs hs hl => ⟨⟨h1.sublist hs, fun x hx => by have := h2 x (hs.subset hx); omega, by omega⟩, hl, P3.mono (by omega)⟩
  obtain ⟨k, e1, e2⟩ := cut_last (xs := found)
  have e0 : cutI found none (some 20) = found.take 20 := cut_take (k := 20)
  rw [e0, e1]
  by_cases c : r2 = 0
  · subst c
    exact sb (hd_getN (i := 0) rfl) (sat_p (fin _ (List.take_sublist _ _) (by rw [List.length_take]; omega)))
  · have : r2 = ((1 : Nat) : Int) := by omega
    rw [this]
    exact sb (hd_getN (i := 1) rfl) (sat_p (fin _ (List.drop_sublist _ _) e2))
end Tk32

set_option Elab.async false
set_option linter.all false
set_option maxRecDepth 100000
set_option exponentiation.threshold 9000
/-! L32b: papers of sets, the law -/
namespace Tk32
open PySem L2 Vm
open Ar (along cf ab lo hi)
theorem crowd_ok {ns gs : List Int} (A : Asc gs ((ns.length : Int) - 1)) (b : Int) : Hd (c_law_crowd ns gs b) (decide (b < (lo (lv ns gs) b : Int))) := bars_workers_ok A b
theorem lack_ok {ns gs : List Int} (T : Team ns) (hl : gs.length ≤ 20) (b : Int) : Hd (c_law_lack ns gs b) (decide ((ab ns b : Int) < (hi gs b : Int))) := by
  have := T.few
  refine hd_bd () (hd_short (by omega)) (hd_bd _ (hd_filter (fun x => decide (b < x)) (fun w => w) (fun w hw => hd_p) fun _ _ _ => hd_p) (hd_bd () (hd_short (by omega)) (hd_bd _ (hd_filter (fun w => decide (b ≤ w)) (fun w => w) (fun w hw => hd_p) fun _ _ _ => hd_p) (hd_pe ?_))))
  rw [List.length_map, List.length_map]
  rfl
/-- the numbers to 69 that bar -/
def some1 (p : Int → Bool) : List Int := (rgN 70).filter p
theorem some1_asc (p : Int → Bool) : (some1 p).Pairwise (· < ·) := (rg_asc 70).sublist List.filter_sublist
theorem mem_some1 {p : Int → Bool} {x : Int} (h0 : 0 ≤ x) (h : 70 ≤ x → p x = false) : decide (x ∈ some1 p) = p x := by
  unfold some1
  cases hp : p x with
  | true =>
    refine decide_eq_true (List.mem_filter.mpr ⟨?_, hp⟩)
    refine mem_rgN.mpr ⟨h0, ?_⟩
    rcases Int.lt_or_le x 70 with q | q
    · exact q
    · rw [h q] at hp; cases hp
  | false => exact decide_eq_false fun z => by rw [(List.mem_filter.mp z).2] at hp; cases hp
theorem head_none {xs : List Int} : xs.head?.isNone = decide (xs = []) := by cases xs <;> simp
theorem some1_none {p : Int → Bool} : some1 p = [] ↔ ∀ i : Nat, i < 70 → p (i : Int) = false := by
  unfold some1
  rw [List.filter_eq_nil_iff]
  constructor
  · intro h i hi
    have := h (i : Int) (mem_rgN.mpr ⟨by omega, by omega⟩)
    simpa using this
  · intro h x hx
    have := mem_rgN.mp hx
    obtain ⟨i, rfl⟩ : ∃ i : Nat, x = (i : Int) := ⟨x.toNat, by omega⟩
    rw [h i (by omega)]
    simp
def pw (ns gs : List Int) (t : Int) : Bool := decide (t < (lo (lv ns gs) t : Int))
def pg (ns gs : List Int) (t : Int) : Bool := decide ((ab ns t : Int) < (hi gs t : Int))
theorem pw_far {ns gs : List Int} (h : gs.length ≤ 60) {t : Int} (ht : (gs.length : Int) ≤ t) : pw ns gs t = false := by
  have := Ar.lo_le (lv ns gs) t
  have e : (lv ns gs).length = gs.length := List.length_map _
  exact decide_eq_false (by omega)
theorem hi_far {gs : List Int} (h : ∀ x ∈ gs, 0 ≤ x ∧ x ≤ 59) {t : Int} (ht : 60 ≤ t) : hi gs t = 0 := by
  unfold hi
  rw [List.length_eq_zero_iff, List.filter_eq_nil_iff]
  intro x hx
  have := h x hx
  rw [decide_eq_false (by omega)]
  simp
theorem pg_far {ns gs : List Int} (h : ∀ x ∈ gs, 0 ≤ x ∧ x ≤ 59) {t : Int} (ht : 60 ≤ t) : pg ns gs t = false := by
  unfold pg
  rw [hi_far h ht]
  exact decide_eq_false (by omega)
theorem wpap_eq {ns gs : List Int} (A : Asc gs ((ns.length : Int) - 1)) : wpap ns gs = (some1 (pw ns gs)).head? := by
  have hl := A.len
  have e : (rgN 70).filter (pw ns gs) = (rgN gs.length).filter (pw ns gs) := rg_short (by omega) fun i hi => pw_far hl (by omega)
  rw [← min_asc (some1_asc _)]
  unfold wpap some1
  rw [e]
  rfl
theorem gpap_eq {ns gs : List Int} (A : Asc gs 59) : gpap ns gs = (some1 (pg ns gs)).head? := by
  have e : (rgN 70).filter (pg ns gs) = (rgN 60).filter (pg ns gs) := rg_short (by omega) fun i hi => pg_far A.rng (by omega)
  rw [← min_asc (some1_asc _)]
  unfold gpap some1
  rw [e]
  rfl
theorem can_w {ns gs : List Int} (T : Team ns) (A : Asc gs ((ns.length : Int) - 1)) : decide (0 < cf (srt (lv ns gs)) gs.length) = (some1 (pw ns gs)).head?.isNone := by
  have e : (lv ns gs).length = gs.length := List.length_map _
  have h := can_lo (ls := lv ns gs) fun x hx => (lv_rng T A x hx).1
  rw [e] at h
  rw [head_none, decide_eq_decide, h, some1_none]
  constructor
  · intro a i hi
    exact decide_eq_false (by have := a i; omega)
  · intro a t
    by_cases ht : t < 70
    · have := of_decide_eq_false (a t ht)
      omega
    · have := Ar.lo_le (lv ns gs) t
      have := A.len
      omega
theorem can_g {ns gs : List Int} (T : Team ns) (A : Asc gs 59) : decide (0 < cf (srt (mv ns gs)) gs.length) = (some1 (pg ns gs)).head?.isNone := by
  rw [head_none, decide_eq_decide, can_hi fun x hx => (A.rng x hx).1, some1_none]
  constructor
  · intro a i hi
    exact decide_eq_false (by have := a i; omega)
  · intro a t
    by_cases ht : t < 70
    · have := of_decide_eq_false (a t ht)
      omega
    · rw [hi_far A.rng (by omega)]
      exact Nat.zero_le _
theorem head_small {p : Int → Bool} : ∀ i ∈ (some1 p).head?, i.natAbs < 2 ^ 1000 := fun i hi => by
  have h := List.mem_of_mem_head? hi
  have := mem_rgN.mp (List.mem_filter.mp h).1
  omega
def things (t1 : Int) : List D := [D.non, (D.bl true), (D.bl false), (D.str ("" : Str)), (D.str ("0" : Str)), (D.tup []), (D.lst []), (D.dct [] []), ((eL D.int) [0]), (D.tup [(D.int 0)]), (D.int (-1)), (D.int (0 - t1)), ((eL (eO D.int)) [none]), (D.str ("1" : Str)), (D.dct [.inr "0"] [.int 0]), (D.tup [(D.tup [])])]
theorem things_no {t1 : Int} (h : 0 < t1) : ∀ d ∈ things t1, tame d = true ∧ (isW d = false ∨ Vm.unI d < 0) := by
  intro d hd
  unfold things at hd
  simp only [List.mem_cons, List.not_mem_nil, or_false] at hd
  rcases hd with rfl | rfl | rfl | rfl | rfl | rfl | rfl | rfl | rfl | rfl | rfl | rfl | rfl | rfl | rfl | rfl <;> first
    | exact ⟨rfl, .inl rfl⟩
    | exact ⟨rfl, .inr (show (-1 : Int) < 0 by decide)⟩
    | exact ⟨rfl, .inr (show 0 - t1 < 0 by omega)⟩
theorem pick_cases {due : List Int} : Sat (cnd (!(decide (due = ([] : (List Int))))) (bd (getM due 0) fun t10 => pr (some t10)) (pr none)) fun o => o = due.head? := by
  cases due with
  | nil => exact scf rfl (sat_p rfl)
  | cons x xs => exact sct rfl (sb (hd_getN (i := 0) rfl) (sat_p rfl))
theorem right_ok {t : Nat} {p ns gang goods : List Int} (P : Purse t p) (ht : t ≤ 900000) (T : Team ns) (A : Asc gang ((ns.length : Int) - 1)) (B : Asc goods 59) (hl : goods.length ≤ 20) : Sat (c_law_right p ns gang goods) fun z => z.1 = true ∧ Purse (t + 1) z.2 := by
  have few := T.few
  have la := A.len
  have k1 : Hd (reprDM ((eL (eL D.int)) [ns, gang, goods])) (reprDM ((eL (eL D.int)) [ns, gang, goods])).val := by
    refine shy_repr (shy_lst (shys_cons (shy_int1 (ns := ns) (by omega) fun n hn => ⟨T.nn n hn, by have := T.le n hn; omega⟩) (shys_cons (shy_int1 (ns := gang) (by omega) fun n hn => by have := A.rng n hn; omega) (shys_cons (shy_int1 (ns := goods) (by omega) fun n hn => by have := B.rng n hn; omega) (shys_nil (b := 0)))))) (by decide) (by decide)
  have rb : ∀ b : Bool, Hd (reprDM (D.bl b)) (reprDM (D.bl b)).val := fun b => shy_repr (shy_bl (b := b)) (by decide) (by decide)
  have ro : ∀ (o : Option Int) (b : Bool), (∀ i ∈ o, i.natAbs < 2 ^ 1000) → Hd (reprDM ((eL eD) ([((eO D.int) o), (D.bl b)] : List D))) (reprDM ((eL eD) ([((eO D.int) o), (D.bl b)] : List D))).val := fun o b h => by
    have e : (eL eD) ([((eO D.int) o), (D.bl b)] : List D) = .lst [((eO D.int) o), (D.bl b)] := by simp [eL, eD]
    rw [e]
    exact shy_repr (shy_lst (shys_cons (shy_opt h) (shys_cons (shy_bl (b := b)) (shys_nil (b := 0))))) (by decide) (by decide)
  refine sb k1 (sb (hd_rg (n := 70) rfl (by decide)) (sb (hd_short (by rw [rgN_length]; decide)) ?_))
  refine sb (a := some1 (pw ns gang)) ((hd_filter (pw ns gang) (fun t => t) (fun t _ => hd_bd _ (crowd_ok A t) hd_p) fun _ _ _ => hd_p).to (List.map_id' _)) ?_
  refine st pick_cases fun due e => ?_
  subst e
  refine sb ((work_paper_ok T A).to (wpap_eq A)) (sb ((can_work_ok T A).to (can_w T A)) (sb (ro _ _ head_small) (sb (ro _ _ head_small) (scf (by rw [decide_eq_true rfl]; rfl) ?_))))
  refine sb (hd_rg (n := 70) rfl (by decide)) (sb (hd_short (by rw [rgN_length]; decide)) ?_)
  refine sb (a := some1 (pg ns goods)) ((hd_filter (pg ns goods) (fun t => t) (fun t _ => hd_bd _ (lack_ok T hl t) hd_p) fun _ _ _ => hd_p).to (List.map_id' _)) ?_
  refine st pick_cases fun due e => ?_
  subst e
  refine sb ((give_paper_ok T B hl).to (gpap_eq B)) (sb ((can_give_ok T B hl).to (can_g T B)) (sb (ro _ _ head_small) (sb (ro _ _ head_small) (scf (by rw [decide_eq_true rfl]; rfl) ?_))))
  have h30 : (0 : Int) < 10 ^ (30 : Int).toNat := by decide
  have h9 : (1 : Int) ≤ 10 ^ (9 : Int).toNat := by decide
  have h9b : (10 : Int) ^ (9 : Int).toNat < 2 ^ 60 := by decide
  have q30 := hd_pow (ten_ok (j := 30) (by decide) (by decide))
  have q9 := hd_pow (ten_ok (j := 9) (by decide) (by decide))
  generalize (10 : Int) ^ (30 : Int).toNat = X30 at h30 q30
  generalize (10 : Int) ^ (9 : Int).toNat = X9 at h9 h9b q9
  refine sb (a := rgN 63) ⟨⟨by decide, by decide, by decide, by decide, by decide⟩, by show rgI 0 63 = rgN 63; decide⟩ (sb q30 (sb q9 (st (pick_ok P (by omega) h9 h9b) fun ⟨r1, p1⟩ ⟨a1, b1, P1⟩ => ?_)))
  simp only at a1 b1 P1 ⊢
  refine sb (hd_cat (by rw [rgN_length]; simp)) ?_
  refine st (s_forGx (fun _ (s : List Int) => s = p1) rfl (fun pre x post s e hs => ?_)) ?_
  · subst hs
    have hx : 0 ≤ x := by
      have : x ∈ rgN 63 ++ [X30, 100 + r1] := by rw [e]; simp
      rcases List.mem_append.mp this with q | q
      · exact (mem_rgN.mp q).1
      · simp only [List.mem_cons, List.not_mem_nil, or_false] at q
        omega
    have f1 : Hd (c_shows_work_paper ns gang (D.int x)) (pw ns gang x) := (shows_work_ok T A (d := .int x) rfl).to (by show (true && (decide (0 ≤ x) && _)) = _; rw [decide_eq_true hx]; rfl)
    have f2 : Hd (c_shows_give_paper ns goods (D.int x)) (pg ns goods x) := (shows_give_ok T B hl (d := .int x) rfl).to (by show (true && (decide (0 ≤ x) && _)) = _; rw [decide_eq_true hx]; rfl)
    have e1 : decide (x ∈ some1 (pw ns gang)) = pw ns gang x := mem_some1 hx fun h => pw_far la (by omega)
    have e2 : decide (x ∈ some1 (pg ns goods)) = pg ns goods x := mem_some1 hx fun h => pg_far B.rng (by omega)
    rw [e1, e2]
    exact sb f1 (sb (rb _) (sb (rb _) (scf (by rw [decide_eq_true rfl]; rfl) (sb f2 (sb (rb _) (sb (rb _) (scf (by rw [decide_eq_true rfl]; rfl) (s_go rfl))))))))
  rintro _ ⟨_, rfl, rfl⟩
  refine sgo ?_
  refine sb (a := things X30) (hd_bd _ ⟨q30.ok, q30.eq⟩ (hd_pe rfl)) ?_
  have hff : Hd (reprDM ((eL D.bl) [false, false])) ("[False, False]" : Str) := by
    have e : (eL D.bl) [false, false] = .lst [.bl false, .bl false] := rfl
    rw [e]
    exact (shy_repr (shy_lst (shys_cons (shy_bl (b := false)) (shys_cons (shy_bl (b := false)) (shys_nil (b := 0))))) (by decide) (by decide)).to (by decide +kernel)
  refine st (s_forGx (fun _ _ => True) trivial (fun pre d post s e _ => ?_)) ?_
  · obtain ⟨g1, g2⟩ := things_no h30 d (by rw [e]; simp)
    have f1 : Hd (c_shows_work_paper ns gang d) false := (shows_work_ok T A g1).to (by
      rcases g2 with g | g
      · rw [g]; rfl
      · rw [decide_eq_false (show ¬ 0 ≤ Vm.unI d by omega)]; simp)
    have f2 : Hd (c_shows_give_paper ns goods d) false := (shows_give_ok T B hl g1).to (by
      rcases g2 with g | g
      · rw [g]; rfl
      · rw [decide_eq_false (show ¬ 0 ≤ Vm.unI d by omega)]; simp)
    exact sb f1 (sb f2 (sb hff (scf (by rw [decide_eq_true rfl]; rfl) (s_go trivial))))
  rintro _ ⟨_, rfl, _⟩
  exact sgo (sb k1 (sat_p ⟨decide_eq_true rfl, P1⟩))
theorem asc_of {xs : List Int} {top : Int} (h1 : xs.Pairwise (· < ·) := by decide) (h2 : ∀ x ∈ xs, 0 ≤ x ∧ x ≤ top := by decide) (h3 : xs.length ≤ 60 := by decide) : Asc xs top := ⟨h1, h2, h3⟩
theorem law_sat (sc : List Int) (hsc : sc.length ≤ 63) : Sat (c_law sc) fun b => b = true := by
  obtain ⟨n, hn, hj⟩ : ∃ n : Nat, n ≤ 4 ∧ mx2 1 (mn2 4 (sc.length : Int)) = (n : Int) := by
    refine ⟨(mx2 1 (mn2 4 (sc.length : Int))).toNat, ?_, ?_⟩ <;> (unfold mx2 mn2; split <;> split <;> omega)
  refine sb (hd_rg hj (by omega)) (st (s_forGRx (fun _ _ => True) trivial (fun k s hk _ => ?_)) ?_)
  · obtain ⟨p, hp, P⟩ := store_ok (sc := sc) (k := k) (by omega)
    refine sb hp ?_
    have tm : ∀ {top : Int} {zs : List Int}, top ≤ 40 → 1 ≤ zs.length → (zs.length : Int) ≤ 20 → (∀ x ∈ zs, 0 ≤ x ∧ x ≤ top) → Team zs := fun h1 h2 h3 h4 => team_le h2 (by omega) fun x hx => by have := h4 x hx; omega
    refine st (deal_ok P (by omega) (by decide) (by decide)) fun ⟨d1, p1⟩ ⟨a1, b1, c1, P1⟩ => ?_
    simp only at a1 b1 c1 P1 ⊢
    refine st (deal_ok P1 (by omega) (by decide) (by decide)) fun ⟨d2, p2⟩ ⟨a2, b2, c2, P2⟩ => ?_
    simp only at a2 b2 c2 P2 ⊢
    refine st (deal_ok P2 (by omega) (by decide) (by decide)) fun ⟨d3, p3⟩ ⟨a3, b3, c3, P3⟩ => ?_
    simp only at a3 b3 c3 P3 ⊢
    refine st (high_ok P3 (by omega)) fun ⟨d4, p4⟩ ⟨T4, P4⟩ => ?_
    simp only at T4 P4 ⊢
    have hT : ∀ d ∈ [d1, d2, d3, d4], Team d := fun d hd => by
      simp only [List.mem_cons, List.not_mem_nil, or_false] at hd
      rcases hd with rfl | rfl | rfl | rfl
      · exact tm (by decide) a1 b1 c1
      · exact tm (by decide) a2 (by omega) c2
      · exact tm (by decide) a3 b3 c3
      · exact T4
    refine st (s_forGx (fun pre q => Purse (200 + 200 * pre.length) q) (P4.mono (by simp; omega)) (fun pre ns post q ex Q => ?_)) ?_
    · have hlen : pre.length ≤ 4 := by
        have := congrArg List.length ex
        rw [List.length_append] at this
        simp only [List.length_cons, List.length_nil] at this
        omega
      have T : Team ns := hT ns (by rw [ex]; simp)
      have few := T.few
      refine st (rising_ok (n := ns.length) Q (by omega) (by omega)) fun ⟨gang, q1⟩ ⟨A, A2, Q1⟩ => ?_
      simp only at A A2 Q1 ⊢
      have mx := T.le (maxL ns) (maxL_mem T.ne)
      have mx0 := T.nn (maxL ns) (maxL_mem T.ne)
      refine sb (hd_max T.ne) (st (pick_ok Q1 (by omega) (by decide) (by decide)) fun ⟨r, q2⟩ ⟨a5, b5, Q2⟩ => ?_)
      simp only at a5 b5 Q2 ⊢
      obtain ⟨wd, hw, hw2⟩ : ∃ wd : Nat, Hd (getM [60, maxL ns + 1, 20] r) (wd : Int) ∧ wd ≤ 60 := by
        obtain ⟨i, rfl⟩ : ∃ i : Nat, r = (i : Int) := ⟨r.toNat, by omega⟩
        match i, b5 with
        | 0, _ => exact ⟨60, hd_getN (i := 0) rfl, by decide⟩
        | 1, _ => exact ⟨(maxL ns + 1).toNat, (hd_getN (i := 1) rfl).to (by omega), by omega⟩
        | 2, _ => exact ⟨20, hd_getN (i := 2) rfl, by decide⟩
        | i + 3, h => omega
      refine sb hw (st (rising_ok (n := wd) Q2 (by omega) hw2) fun ⟨goods, q3⟩ ⟨B, B2, Q3⟩ => ?_)
      simp only at B B2 Q3 ⊢
      refine st (right_ok Q3 (by omega) T A ⟨B.pw, fun x hx => by have := B.rng x hx; omega, B.len⟩ B2) fun ⟨r, q4⟩ ⟨hr, Q4⟩ => ?_
      simp only at hr Q4 ⊢
      subst hr
      exact scf rfl (s_go (Q4.mono (by rw [List.length_append]; simp only [List.length_cons, List.length_nil]; omega)))
    · rintro _ ⟨q, rfl, _⟩
      exact sgo (s_go trivial)
  rintro _ ⟨_, rfl, _⟩
  refine sgo ?_
  have wp : ∀ {ns gs : List Int} {o : Option Int}, Team ns → Asc gs ((ns.length : Int) - 1) → wpap ns gs = o → Hd (c_work_paper ns gs) o := fun T A e => (work_paper_ok T A).to e
  have gp : ∀ {ns gs : List Int} {o : Option Int}, Team ns → Asc gs 59 → gs.length ≤ 20 → gpap ns gs = o → Hd (c_give_paper ns gs) o := fun T A h e => (give_paper_ok T A h).to e
  have T0 : Team [0] := team_le (by decide) (by decide) (by decide)
  have T1 : Team [1, 1, 3] := team_le (by decide) (by decide) (by decide)
  have T2 : Team [1, 1] := team_le (by decide) (by decide) (by decide)
  have T3 : Team (List.replicate 20 20) := team_le (by decide) (by decide) (by decide)
  have T4 : Team [2, 1, 2] := team_le (by decide) (by decide) (by decide)
  have T5 : Team [5] := team_le (by decide) (by decide) (by decide)
  have T6 : Team (List.replicate 20 40) := team_le (by decide) (by decide) (by decide)
  have T7 : Team (rgI 40 60) := team_of (top := 40) (by decide) (by decide) (by decide) (by decide) ⟨rgI 40 60, List.Perm.refl _, fun i x hx => by
    unfold rgI at hx
    rw [List.getElem?_map] at hx
    by_cases hi : i < 20
    · rw [List.getElem?_range (by exact hi)] at hx
      have : (40 : Int) + (i : Int) = x := Option.some.inj hx
      omega
    · rw [List.getElem?_eq_none (by rw [List.length_range]; have : ((60 : Int) - 40).toNat = 20 := rfl; omega)] at hx
      cases hx⟩
  have lr : ∀ a b : Int, -100 ≤ a ∧ a ≤ 100 ∧ -100 ≤ b ∧ b ≤ 100 → Hd (lrgM a b) (rgI a b) := fun a b h => ⟨⟨by omega, by omega, by omega, by omega, by omega⟩, rfl⟩
  refine sb (wp (o := some 0) T0 asc_of (by decide +kernel)) (sb (wp (o := some 1) T1 asc_of (by decide +kernel)) (sb (wp (o := none) T2 asc_of (by decide +kernel)) (sp (sb (a := true) (hd_eqT (by decide +kernel)) (sb (a := false) (hd_f rfl (hd_bd _ (hd_rep1 (x := (20 : Int)) (n := 20) (by decide)) (hd_bd _ (lr 0 20 (by decide)) (hd_bd none (wp T3 asc_of (by decide +kernel)) (hd_pe rfl))))) (scf rfl ?_))))))
  refine sb (gp (o := none) T4 asc_of (by decide) (by decide +kernel)) (sb (gp (o := some 2) T4 asc_of (by decide) (by decide +kernel)) (sb (gp (o := some 0) T5 asc_of (by decide) (by decide +kernel)) (sp (sb (a := true) (hd_eqT (by decide +kernel)) (sb (a := false) (hd_f rfl (hd_bd (some 5) (gp T5 asc_of (by decide) (by decide +kernel)) (hd_pe (by decide)))) (scf rfl ?_))))))
  refine sb (hd_rep1 (x := (40 : Int)) (n := 20) (by decide)) (sb (lr 20 40 (by decide)) (sb (gp (o := none) T6 asc_of (by decide) (by decide +kernel)) (sb (a := false) (hd_f rfl (hd_bd _ (hd_rep1 (x := (40 : Int)) (n := 20) (by decide)) (hd_bd _ (lr 21 41 (by decide)) (hd_bd (some 40) (gp T6 asc_of (by decide) (by decide +kernel)) (hd_pe (by decide)))))) (scf rfl ?_))))
  refine sb (lr 40 60 (by decide)) (sb (lr 39 59 (by decide)) (sb (gp (o := none) T7 asc_of (by decide) (by decide +kernel)) (sb (gp (o := some 57) T7 asc_of (by decide) (by decide +kernel)) (sb (gp (o := some 59) T7 asc_of (by decide) (by decide +kernel)) (sp (sb (a := true) (hd_eqT (by decide +kernel)) (sb (a := true) (hd_t rfl (hd_bd _ (lr 0 20 (by decide)) (hd_bd none (wp T7 asc_of (by decide +kernel)) (hd_bd true (hd_t rfl (hd_bd true ((shows_give_ok T7 asc_of (by decide) (d := .int 59) rfl).to (by decide +kernel)) hd_p)) hd_p)))) (sat_p rfl))))))))
theorem law_true (ns : List Int) (h : ns.length ≤ 63) : ∃ e, m_law [.sh (.scr ns)] = some (.val (.bl true) e) := t_law (law_sat ns h).hd
end Tk32

set_option Elab.async false
set_option linter.all false
set_option maxRecDepth 100000
namespace Tk32
open PySem PySem.Spec PyProof.Rows L2 Evl Vm
/-! ### the end -/
def spLaw (K : PySem.W.Frag) : Sp := fun vs H Q _ => ∃ (a : Addr) (ns : List Int), vs = [.ref a] ∧ SqL K H a (ns.map V.int) ∧ ns.length ≤ 63 ∧ ∀ H', Q (.bl true) H'
theorem spLaw_of (law_true : ∀ ns : List Int, ns.length ≤ 63 → ∃ e, m_law [.sh (.scr ns)] = some (.val (.bl true) e)) {K : PySem.W.Frag} (vs : List V) (H : Hp) (Q : VK) (E : XK) (h : spLaw K vs H Q E) : SpM K 1 m_law vs H Q E := by
  obtain ⟨a, ns, rfl, hS, hl, q⟩ := h
  obtain ⟨e, he⟩ := law_true ns hl
  refine ⟨rfl, H, _, _, ⟨fun _ _ z => (nomatch (show none = some _ from z)), Ex.refl _, Ex.refl _, fun q z => .inl z, rfl, fun i t ht => ?_, fun i j p xs ys e1 => ?_, fun j z => by cases z⟩, he, fun v B' H' _ _ r => ?_⟩
  · match i, ht with
    | 0, ht =>
      cases ht
      exact ⟨_, rfl, .scr hS⟩
    | i + 1, ht => cases ht
  · match i, e1 with
    | 0, e1 => cases e1
    | i + 1, e1 => cases e1
  · have r : Rep K B' v (.bl true) := r
    cases r
    exact q H'
set_option maxHeartbeats 8000000 in
theorem all_mk {l : PySem.W.OpenLaw} {w : World} {K : PySem.W.Frag} {h : Heap} {mg : Str → Option Value} {fa : Addr} (X : K.In h) (G : h.Ns mainGlobals mg) (hfa : mg "law" = some (.ref fa))
    (hl : l.prog = PySem.Challenge.pw_nestboards_k32_papers_of_sets_judged) (law_true : ∀ ns : List Int, ns.length ≤ 63 → ∃ e, m_law [.sh (.scr ns)] = some (.val (.bl true) e))
    {f0 : Addr} {od0 an0 : Option Addr} {sl0 : Array (Option Value)} {oc0 kV0 dc0 pm0 cd0 ct0 : Value} (a0 : PySem.W.nsIn K mainGlobals "_law_store" = some (some (.ref f0))) (l0 : K.lookup f0 = some ⟨oc0, od0, .func (PySem.W.fnOf "_law_store" "_law_store" (defArgs s_law_store) (defBody s_law_store) (defScope s_law_store) .none kV0 dc0 pm0 an0 cd0 ct0), sl0⟩) (c0 : PySem.W.codeIn K cd0 "_law_store" = true) (k0 : PySem.W.keepIn K (.ref f0) = true)
    {f1 : Addr} {od1 an1 : Option Addr} {sl1 : Array (Option Value)} {oc1 kV1 dc1 pm1 cd1 ct1 : Value} (a1 : PySem.W.nsIn K mainGlobals "spares_of" = some (some (.ref f1))) (l1 : K.lookup f1 = some ⟨oc1, od1, .func (PySem.W.fnOf "spares_of" "spares_of" (defArgs s_spares_of) (defBody s_spares_of) (defScope s_spares_of) .none kV1 dc1 pm1 an1 cd1 ct1), sl1⟩) (c1 : PySem.W.codeIn K cd1 "spares_of" = true) (k1 : PySem.W.keepIn K (.ref f1) = true)
    {f2 : Addr} {od2 an2 : Option Addr} {sl2 : Array (Option Value)} {oc2 kV2 dc2 pm2 cd2 ct2 : Value} (a2 : PySem.W.nsIn K mainGlobals "is_whole" = some (some (.ref f2))) (l2 : K.lookup f2 = some ⟨oc2, od2, .func (PySem.W.fnOf "is_whole" "is_whole" (defArgs s_is_whole) (defBody s_is_whole) (defScope s_is_whole) .none kV2 dc2 pm2 an2 cd2 ct2), sl2⟩) (c2 : PySem.W.codeIn K cd2 "is_whole" = true) (k2 : PySem.W.keepIn K (.ref f2) = true)
    {f3 : Addr} {od3 an3 : Option Addr} {sl3 : Array (Option Value)} {oc3 kV3 dc3 pm3 cd3 ct3 : Value} (a3 : PySem.W.nsIn K mainGlobals "is_team" = some (some (.ref f3))) (l3 : K.lookup f3 = some ⟨oc3, od3, .func (PySem.W.fnOf "is_team" "is_team" (defArgs s_is_team) (defBody s_is_team) (defScope s_is_team) .none kV3 dc3 pm3 an3 cd3 ct3), sl3⟩) (c3 : PySem.W.codeIn K cd3 "is_team" = true) (k3 : PySem.W.keepIn K (.ref f3) = true)
    {f4 : Addr} {od4 an4 : Option Addr} {sl4 : Array (Option Value)} {oc4 kV4 dc4 pm4 cd4 ct4 : Value} (a4 : PySem.W.nsIn K mainGlobals "check_team" = some (some (.ref f4))) (l4 : K.lookup f4 = some ⟨oc4, od4, .func (PySem.W.fnOf "check_team" "check_team" (defArgs s_check_team) (defBody s_check_team) (defScope s_check_team) .none kV4 dc4 pm4 an4 cd4 ct4), sl4⟩) (c4 : PySem.W.codeIn K cd4 "check_team" = true) (k4 : PySem.W.keepIn K (.ref f4) = true)
    {f5 : Addr} {od5 an5 : Option Addr} {sl5 : Array (Option Value)} {oc5 kV5 dc5 pm5 cd5 ct5 : Value} (a5 : PySem.W.nsIn K mainGlobals "is_within" = some (some (.ref f5))) (l5 : K.lookup f5 = some ⟨oc5, od5, .func (PySem.W.fnOf "is_within" "is_within" (defArgs s_is_within) (defBody s_is_within) (defScope s_is_within) .none kV5 dc5 pm5 an5 cd5 ct5), sl5⟩) (c5 : PySem.W.codeIn K cd5 "is_within" = true) (k5 : PySem.W.keepIn K (.ref f5) = true)
    {f6 : Addr} {od6 an6 : Option Addr} {sl6 : Array (Option Value)} {oc6 kV6 dc6 pm6 cd6 ct6 : Value} (a6 : PySem.W.nsIn K mainGlobals "is_ascending" = some (some (.ref f6))) (l6 : K.lookup f6 = some ⟨oc6, od6, .func (PySem.W.fnOf "is_ascending" "is_ascending" (defArgs s_is_ascending) (defBody s_is_ascending) (defScope s_is_ascending) .none kV6 dc6 pm6 an6 cd6 ct6), sl6⟩) (c6 : PySem.W.codeIn K cd6 "is_ascending" = true) (k6 : PySem.W.keepIn K (.ref f6) = true)
    {f7 : Addr} {od7 an7 : Option Addr} {sl7 : Array (Option Value)} {oc7 kV7 dc7 pm7 cd7 ct7 : Value} (a7 : PySem.W.nsIn K mainGlobals "check_workers" = some (some (.ref f7))) (l7 : K.lookup f7 = some ⟨oc7, od7, .func (PySem.W.fnOf "check_workers" "check_workers" (defArgs s_check_workers) (defBody s_check_workers) (defScope s_check_workers) .none kV7 dc7 pm7 an7 cd7 ct7), sl7⟩) (c7 : PySem.W.codeIn K cd7 "check_workers" = true) (k7 : PySem.W.keepIn K (.ref f7) = true)
    {f8 : Addr} {od8 an8 : Option Addr} {sl8 : Array (Option Value)} {oc8 kV8 dc8 pm8 cd8 ct8 : Value} (a8 : PySem.W.nsIn K mainGlobals "bars_workers" = some (some (.ref f8))) (l8 : K.lookup f8 = some ⟨oc8, od8, .func (PySem.W.fnOf "bars_workers" "bars_workers" (defArgs s_bars_workers) (defBody s_bars_workers) (defScope s_bars_workers) .none kV8 dc8 pm8 an8 cd8 ct8), sl8⟩) (c8 : PySem.W.codeIn K cd8 "bars_workers" = true) (k8 : PySem.W.keepIn K (.ref f8) = true)
    {f9 : Addr} {od9 an9 : Option Addr} {sl9 : Array (Option Value)} {oc9 kV9 dc9 pm9 cd9 ct9 : Value} (a9 : PySem.W.nsIn K mainGlobals "work_paper" = some (some (.ref f9))) (l9 : K.lookup f9 = some ⟨oc9, od9, .func (PySem.W.fnOf "work_paper" "work_paper" (defArgs s_work_paper) (defBody s_work_paper) (defScope s_work_paper) .none kV9 dc9 pm9 an9 cd9 ct9), sl9⟩) (c9 : PySem.W.codeIn K cd9 "work_paper" = true) (k9 : PySem.W.keepIn K (.ref f9) = true)
    {f10 : Addr} {od10 an10 : Option Addr} {sl10 : Array (Option Value)} {oc10 kV10 dc10 pm10 cd10 ct10 : Value} (a10 : PySem.W.nsIn K mainGlobals "check_jobs" = some (some (.ref f10))) (l10 : K.lookup f10 = some ⟨oc10, od10, .func (PySem.W.fnOf "check_jobs" "check_jobs" (defArgs s_check_jobs) (defBody s_check_jobs) (defScope s_check_jobs) .none kV10 dc10 pm10 an10 cd10 ct10), sl10⟩) (c10 : PySem.W.codeIn K cd10 "check_jobs" = true) (k10 : PySem.W.keepIn K (.ref f10) = true)
    {f11 : Addr} {od11 an11 : Option Addr} {sl11 : Array (Option Value)} {oc11 kV11 dc11 pm11 cd11 ct11 : Value} (a11 : PySem.W.nsIn K mainGlobals "count_above" = some (some (.ref f11))) (l11 : K.lookup f11 = some ⟨oc11, od11, .func (PySem.W.fnOf "count_above" "count_above" (defArgs s_count_above) (defBody s_count_above) (defScope s_count_above) .none kV11 dc11 pm11 an11 cd11 ct11), sl11⟩) (c11 : PySem.W.codeIn K cd11 "count_above" = true) (k11 : PySem.W.keepIn K (.ref f11) = true)
    {f12 : Addr} {od12 an12 : Option Addr} {sl12 : Array (Option Value)} {oc12 kV12 dc12 pm12 cd12 ct12 : Value} (a12 : PySem.W.nsIn K mainGlobals "bars_jobs" = some (some (.ref f12))) (l12 : K.lookup f12 = some ⟨oc12, od12, .func (PySem.W.fnOf "bars_jobs" "bars_jobs" (defArgs s_bars_jobs) (defBody s_bars_jobs) (defScope s_bars_jobs) .none kV12 dc12 pm12 an12 cd12 ct12), sl12⟩) (c12 : PySem.W.codeIn K cd12 "bars_jobs" = true) (k12 : PySem.W.keepIn K (.ref f12) = true)
    {f13 : Addr} {od13 an13 : Option Addr} {sl13 : Array (Option Value)} {oc13 kV13 dc13 pm13 cd13 ct13 : Value} (a13 : PySem.W.nsIn K mainGlobals "give_paper" = some (some (.ref f13))) (l13 : K.lookup f13 = some ⟨oc13, od13, .func (PySem.W.fnOf "give_paper" "give_paper" (defArgs s_give_paper) (defBody s_give_paper) (defScope s_give_paper) .none kV13 dc13 pm13 an13 cd13 ct13), sl13⟩) (c13 : PySem.W.codeIn K cd13 "give_paper" = true) (k13 : PySem.W.keepIn K (.ref f13) = true)
    {f14 : Addr} {od14 an14 : Option Addr} {sl14 : Array (Option Value)} {oc14 kV14 dc14 pm14 cd14 ct14 : Value} (a14 : PySem.W.nsIn K mainGlobals "shows_give_paper" = some (some (.ref f14))) (l14 : K.lookup f14 = some ⟨oc14, od14, .func (PySem.W.fnOf "shows_give_paper" "shows_give_paper" (defArgs s_shows_give_paper) (defBody s_shows_give_paper) (defScope s_shows_give_paper) .none kV14 dc14 pm14 an14 cd14 ct14), sl14⟩) (c14 : PySem.W.codeIn K cd14 "shows_give_paper" = true) (k14 : PySem.W.keepIn K (.ref f14) = true)
    {f15 : Addr} {od15 an15 : Option Addr} {sl15 : Array (Option Value)} {oc15 kV15 dc15 pm15 cd15 ct15 : Value} (a15 : PySem.W.nsIn K mainGlobals "_law_pick" = some (some (.ref f15))) (l15 : K.lookup f15 = some ⟨oc15, od15, .func (PySem.W.fnOf "_law_pick" "_law_pick" (defArgs s_law_pick) (defBody s_law_pick) (defScope s_law_pick) .none kV15 dc15 pm15 an15 cd15 ct15), sl15⟩) (c15 : PySem.W.codeIn K cd15 "_law_pick" = true) (k15 : PySem.W.keepIn K (.ref f15) = true)
    {f16 : Addr} {od16 an16 : Option Addr} {sl16 : Array (Option Value)} {oc16 kV16 dc16 pm16 cd16 ct16 : Value} (a16 : PySem.W.nsIn K mainGlobals "_law_deal" = some (some (.ref f16))) (l16 : K.lookup f16 = some ⟨oc16, od16, .func (PySem.W.fnOf "_law_deal" "_law_deal" (defArgs s_law_deal) (defBody s_law_deal) (defScope s_law_deal) .none kV16 dc16 pm16 an16 cd16 ct16), sl16⟩) (c16 : PySem.W.codeIn K cd16 "_law_deal" = true) (k16 : PySem.W.keepIn K (.ref f16) = true)
    {f17 : Addr} {od17 an17 : Option Addr} {sl17 : Array (Option Value)} {oc17 kV17 dc17 pm17 cd17 ct17 : Value} (a17 : PySem.W.nsIn K mainGlobals "_law_high" = some (some (.ref f17))) (l17 : K.lookup f17 = some ⟨oc17, od17, .func (PySem.W.fnOf "_law_high" "_law_high" (defArgs s_law_high) (defBody s_law_high) (defScope s_law_high) .none kV17 dc17 pm17 an17 cd17 ct17), sl17⟩) (c17 : PySem.W.codeIn K cd17 "_law_high" = true) (k17 : PySem.W.keepIn K (.ref f17) = true)
    {f18 : Addr} {od18 an18 : Option Addr} {sl18 : Array (Option Value)} {oc18 kV18 dc18 pm18 cd18 ct18 : Value} (a18 : PySem.W.nsIn K mainGlobals "_law_rising" = some (some (.ref f18))) (l18 : K.lookup f18 = some ⟨oc18, od18, .func (PySem.W.fnOf "_law_rising" "_law_rising" (defArgs s_law_rising) (defBody s_law_rising) (defScope s_law_rising) .none kV18 dc18 pm18 an18 cd18 ct18), sl18⟩) (c18 : PySem.W.codeIn K cd18 "_law_rising" = true) (k18 : PySem.W.keepIn K (.ref f18) = true)
    {f19 : Addr} {od19 an19 : Option Addr} {sl19 : Array (Option Value)} {oc19 kV19 dc19 pm19 cd19 ct19 : Value} (a19 : PySem.W.nsIn K mainGlobals "_law_things" = some (some (.ref f19))) (l19 : K.lookup f19 = some ⟨oc19, od19, .func (PySem.W.fnOf "_law_things" "_law_things" (defArgs s_law_things) (defBody s_law_things) (defScope s_law_things) .none kV19 dc19 pm19 an19 cd19 ct19), sl19⟩) (c19 : PySem.W.codeIn K cd19 "_law_things" = true) (k19 : PySem.W.keepIn K (.ref f19) = true)
    {f20 : Addr} {od20 an20 : Option Addr} {sl20 : Array (Option Value)} {oc20 kV20 dc20 pm20 cd20 ct20 : Value} (a20 : PySem.W.nsIn K mainGlobals "_law_crowd" = some (some (.ref f20))) (l20 : K.lookup f20 = some ⟨oc20, od20, .func (PySem.W.fnOf "_law_crowd" "_law_crowd" (defArgs s_law_crowd) (defBody s_law_crowd) (defScope s_law_crowd) .none kV20 dc20 pm20 an20 cd20 ct20), sl20⟩) (c20 : PySem.W.codeIn K cd20 "_law_crowd" = true) (k20 : PySem.W.keepIn K (.ref f20) = true)
    {f21 : Addr} {od21 an21 : Option Addr} {sl21 : Array (Option Value)} {oc21 kV21 dc21 pm21 cd21 ct21 : Value} (a21 : PySem.W.nsIn K mainGlobals "_law_lack" = some (some (.ref f21))) (l21 : K.lookup f21 = some ⟨oc21, od21, .func (PySem.W.fnOf "_law_lack" "_law_lack" (defArgs s_law_lack) (defBody s_law_lack) (defScope s_law_lack) .none kV21 dc21 pm21 an21 cd21 ct21), sl21⟩) (c21 : PySem.W.codeIn K cd21 "_law_lack" = true) (k21 : PySem.W.keepIn K (.ref f21) = true)
    {f22 : Addr} {od22 an22 : Option Addr} {sl22 : Array (Option Value)} {oc22 kV22 dc22 pm22 cd22 ct22 : Value} (a22 : PySem.W.nsIn K mainGlobals "counts_with_next" = some (some (.ref f22))) (l22 : K.lookup f22 = some ⟨oc22, od22, .func (PySem.W.fnOf "counts_with_next" "counts_with_next" (defArgs s_counts_with_next) (defBody s_counts_with_next) (defScope s_counts_with_next) .none kV22 dc22 pm22 an22 cd22 ct22), sl22⟩) (c22 : PySem.W.codeIn K cd22 "counts_with_next" = true) (k22 : PySem.W.keepIn K (.ref f22) = true)
    {f23 : Addr} {od23 an23 : Option Addr} {sl23 : Array (Option Value)} {oc23 kV23 dc23 pm23 cd23 ct23 : Value} (a23 : PySem.W.nsIn K mainGlobals "counts_along" = some (some (.ref f23))) (l23 : K.lookup f23 = some ⟨oc23, od23, .func (PySem.W.fnOf "counts_along" "counts_along" (defArgs s_counts_along) (defBody s_counts_along) (defScope s_counts_along) .none kV23 dc23 pm23 an23 cd23 ct23), sl23⟩) (c23 : PySem.W.codeIn K cd23 "counts_along" = true) (k23 : PySem.W.keepIn K (.ref f23) = true)
    {f24 : Addr} {od24 an24 : Option Addr} {sl24 : Array (Option Value)} {oc24 kV24 dc24 pm24 cd24 ct24 : Value} (a24 : PySem.W.nsIn K mainGlobals "ways_of_all" = some (some (.ref f24))) (l24 : K.lookup f24 = some ⟨oc24, od24, .func (PySem.W.fnOf "ways_of_all" "ways_of_all" (defArgs s_ways_of_all) (defBody s_ways_of_all) (defScope s_ways_of_all) .none kV24 dc24 pm24 an24 cd24 ct24), sl24⟩) (c24 : PySem.W.codeIn K cd24 "ways_of_all" = true) (k24 : PySem.W.keepIn K (.ref f24) = true)
    {f25 : Addr} {od25 an25 : Option Addr} {sl25 : Array (Option Value)} {oc25 kV25 dc25 pm25 cd25 ct25 : Value} (a25 : PySem.W.nsIn K mainGlobals "ways_of_workers" = some (some (.ref f25))) (l25 : K.lookup f25 = some ⟨oc25, od25, .func (PySem.W.fnOf "ways_of_workers" "ways_of_workers" (defArgs s_ways_of_workers) (defBody s_ways_of_workers) (defScope s_ways_of_workers) .none kV25 dc25 pm25 an25 cd25 ct25), sl25⟩) (c25 : PySem.W.codeIn K cd25 "ways_of_workers" = true) (k25 : PySem.W.keepIn K (.ref f25) = true)
    {f26 : Addr} {od26 an26 : Option Addr} {sl26 : Array (Option Value)} {oc26 kV26 dc26 pm26 cd26 ct26 : Value} (a26 : PySem.W.nsIn K mainGlobals "can_work" = some (some (.ref f26))) (l26 : K.lookup f26 = some ⟨oc26, od26, .func (PySem.W.fnOf "can_work" "can_work" (defArgs s_can_work) (defBody s_can_work) (defScope s_can_work) .none kV26 dc26 pm26 an26 cd26 ct26), sl26⟩) (c26 : PySem.W.codeIn K cd26 "can_work" = true) (k26 : PySem.W.keepIn K (.ref f26) = true)
    {f27 : Addr} {od27 an27 : Option Addr} {sl27 : Array (Option Value)} {oc27 kV27 dc27 pm27 cd27 ct27 : Value} (a27 : PySem.W.nsIn K mainGlobals "ways_of_jobs" = some (some (.ref f27))) (l27 : K.lookup f27 = some ⟨oc27, od27, .func (PySem.W.fnOf "ways_of_jobs" "ways_of_jobs" (defArgs s_ways_of_jobs) (defBody s_ways_of_jobs) (defScope s_ways_of_jobs) .none kV27 dc27 pm27 an27 cd27 ct27), sl27⟩) (c27 : PySem.W.codeIn K cd27 "ways_of_jobs" = true) (k27 : PySem.W.keepIn K (.ref f27) = true)
    {f28 : Addr} {od28 an28 : Option Addr} {sl28 : Array (Option Value)} {oc28 kV28 dc28 pm28 cd28 ct28 : Value} (a28 : PySem.W.nsIn K mainGlobals "can_give" = some (some (.ref f28))) (l28 : K.lookup f28 = some ⟨oc28, od28, .func (PySem.W.fnOf "can_give" "can_give" (defArgs s_can_give) (defBody s_can_give) (defScope s_can_give) .none kV28 dc28 pm28 an28 cd28 ct28), sl28⟩) (c28 : PySem.W.codeIn K cd28 "can_give" = true) (k28 : PySem.W.keepIn K (.ref f28) = true)
    {f29 : Addr} {od29 an29 : Option Addr} {sl29 : Array (Option Value)} {oc29 kV29 dc29 pm29 cd29 ct29 : Value} (a29 : PySem.W.nsIn K mainGlobals "shows_work_paper" = some (some (.ref f29))) (l29 : K.lookup f29 = some ⟨oc29, od29, .func (PySem.W.fnOf "shows_work_paper" "shows_work_paper" (defArgs s_shows_work_paper) (defBody s_shows_work_paper) (defScope s_shows_work_paper) .none kV29 dc29 pm29 an29 cd29 ct29), sl29⟩) (c29 : PySem.W.codeIn K cd29 "shows_work_paper" = true) (k29 : PySem.W.keepIn K (.ref f29) = true)
    {f30 : Addr} {od30 an30 : Option Addr} {sl30 : Array (Option Value)} {oc30 kV30 dc30 pm30 cd30 ct30 : Value} (a30 : PySem.W.nsIn K mainGlobals "_law_right" = some (some (.ref f30))) (l30 : K.lookup f30 = some ⟨oc30, od30, .func (PySem.W.fnOf "_law_right" "_law_right" (defArgs s_law_right) (defBody s_law_right) (defScope s_law_right) .none kV30 dc30 pm30 an30 cd30 ct30), sl30⟩) (c30 : PySem.W.codeIn K cd30 "_law_right" = true) (k30 : PySem.W.keepIn K (.ref f30) = true)
    {f31 : Addr} {od31 an31 : Option Addr} {sl31 : Array (Option Value)} {oc31 kV31 dc31 pm31 cd31 ct31 : Value} (a31 : PySem.W.nsIn K mainGlobals "law" = some (some (.ref f31))) (l31 : K.lookup f31 = some ⟨oc31, od31, .func (PySem.W.fnOf "law" "law" (defArgs s_law) (defBody s_law) (defScope s_law) .none kV31 dc31 pm31 an31 cd31 ct31), sl31⟩) (c31 : PySem.W.codeIn K cd31 "law" = true) (k31 : PySem.W.keepIn K (.ref f31) = true)
    (z_abs : PySem.W.nsIn K mainGlobals "abs" = some none)
    (z_all : PySem.W.nsIn K mainGlobals "all" = some none)
    (z_bool : PySem.W.nsIn K mainGlobals "bool" = some none)
    (z_enumerate : PySem.W.nsIn K mainGlobals "enumerate" = some none)
    (z_int : PySem.W.nsIn K mainGlobals "int" = some none)
    (z_isinstance : PySem.W.nsIn K mainGlobals "isinstance" = some none)
    (z_len : PySem.W.nsIn K mainGlobals "len" = some none)
    (z_list : PySem.W.nsIn K mainGlobals "list" = some none)
    (z_max : PySem.W.nsIn K mainGlobals "max" = some none)
    (z_min : PySem.W.nsIn K mainGlobals "min" = some none)
    (z_range : PySem.W.nsIn K mainGlobals "range" = some none)
    (z_repr : PySem.W.nsIn K mainGlobals "repr" = some none)
    (z_sorted : PySem.W.nsIn K mainGlobals "sorted" = some none)
    (z_sum : PySem.W.nsIn K mainGlobals "sum" = some none)
    (z_zip : PySem.W.nsIn K mainGlobals "zip" = some none)
    {tk_GREATEST_JOB : Tok} (y_GREATEST_JOB : PySem.W.nsIn K mainGlobals "GREATEST_JOB" = some (some (.int 59 tk_GREATEST_JOB)))
    {tk_GREATEST_SPARE : Tok} (y_GREATEST_SPARE : PySem.W.nsIn K mainGlobals "GREATEST_SPARE" = some (some (.int 40 tk_GREATEST_SPARE)))
    {tk_MOST_JOBS : Tok} (y_MOST_JOBS : PySem.W.nsIn K mainGlobals "MOST_JOBS" = some (some (.int 20 tk_MOST_JOBS)))
    {tk_MOST_WORKERS : Tok} (y_MOST_WORKERS : PySem.W.nsIn K mainGlobals "MOST_WORKERS" = some (some (.int 20 tk_MOST_WORKERS))) :
    ∃ fd : FuncData, (∀ (s : Shared) (v : Value), BindsTo s fd ⟨[v], []⟩ [("script", v)]) ∧ ∀ base : Heap, K.In base → base.Ns mainGlobals mg → FnG l.prog w K mg base CX0 8 fa fd ["script"] (spLaw K) := by
  have e := hfa.symm.trans (PySem.W.mg_of X G a31)
  cases e
  have F0 := fun_mk (st := s_law_store) l0 c0 k0
  have F1 := fun_mk (st := s_spares_of) l1 c1 k1
  have F2 := fun_mk (st := s_is_whole) l2 c2 k2
  have F3 := fun_mk (st := s_is_team) l3 c3 k3
  have F4 := fun_mk (st := s_check_team) l4 c4 k4
  have F5 := fun_mk (st := s_is_within) l5 c5 k5
  have F6 := fun_mk (st := s_is_ascending) l6 c6 k6
  have F7 := fun_mk (st := s_check_workers) l7 c7 k7
  have F8 := fun_mk (st := s_bars_workers) l8 c8 k8
  have F9 := fun_mk (st := s_work_paper) l9 c9 k9
  have F10 := fun_mk (st := s_check_jobs) l10 c10 k10
  have F11 := fun_mk (st := s_count_above) l11 c11 k11
  have F12 := fun_mk (st := s_bars_jobs) l12 c12 k12
  have F13 := fun_mk (st := s_give_paper) l13 c13 k13
  have F14 := fun_mk (st := s_shows_give_paper) l14 c14 k14
  have F15 := fun_mk (st := s_law_pick) l15 c15 k15
  have F16 := fun_mk (st := s_law_deal) l16 c16 k16
  have F17 := fun_mk (st := s_law_high) l17 c17 k17
  have F18 := fun_mk (st := s_law_rising) l18 c18 k18
  have F19 := fun_mk (st := s_law_things) l19 c19 k19
  have F20 := fun_mk (st := s_law_crowd) l20 c20 k20
  have F21 := fun_mk (st := s_law_lack) l21 c21 k21
  have F22 := fun_mk (st := s_counts_with_next) l22 c22 k22
  have F23 := fun_mk (st := s_counts_along) l23 c23 k23
  have F24 := fun_mk (st := s_ways_of_all) l24 c24 k24
  have F25 := fun_mk (st := s_ways_of_workers) l25 c25 k25
  have F26 := fun_mk (st := s_can_work) l26 c26 k26
  have F27 := fun_mk (st := s_ways_of_jobs) l27 c27 k27
  have F28 := fun_mk (st := s_can_give) l28 c28 k28
  have F29 := fun_mk (st := s_shows_work_paper) l29 c29 k29
  have F30 := fun_mk (st := s_law_right) l30 c30 k30
  have F31 := fun_mk (st := s_law) l31 c31 k31
  have m_abs := PySem.W.mg_none_of X G z_abs
  have m_all := PySem.W.mg_none_of X G z_all
  have m_bool := PySem.W.mg_none_of X G z_bool
  have m_enumerate := PySem.W.mg_none_of X G z_enumerate
  have m_int := PySem.W.mg_none_of X G z_int
  have m_isinstance := PySem.W.mg_none_of X G z_isinstance
  have m_len := PySem.W.mg_none_of X G z_len
  have m_list := PySem.W.mg_none_of X G z_list
  have m_max := PySem.W.mg_none_of X G z_max
  have m_min := PySem.W.mg_none_of X G z_min
  have m_range := PySem.W.mg_none_of X G z_range
  have m_repr := PySem.W.mg_none_of X G z_repr
  have m_sorted := PySem.W.mg_none_of X G z_sorted
  have m_sum := PySem.W.mg_none_of X G z_sum
  have m_zip := PySem.W.mg_none_of X G z_zip
  have c_GREATEST_JOB := PySem.W.mg_of X G y_GREATEST_JOB
  have c_GREATEST_SPARE := PySem.W.mg_of X G y_GREATEST_SPARE
  have c_MOST_JOBS := PySem.W.mg_of X G y_MOST_JOBS
  have c_MOST_WORKERS := PySem.W.mg_of X G y_MOST_WORKERS
  have b0 := F0.binds (ps := ["script", "k"]) fun _ _ _ _ _ _ us hl => match us, hl with | [_, _], _ => rfl
  have b1 := F1.binds (ps := ["levels"]) fun _ _ _ _ _ _ us hl => match us, hl with | [_], _ => rfl
  have b2 := F2.binds (ps := ["thing"]) fun _ _ _ _ _ _ us hl => match us, hl with | [_], _ => rfl
  have b3 := F3.binds (ps := ["thing"]) fun _ _ _ _ _ _ us hl => match us, hl with | [_], _ => rfl
  have b4 := F4.binds (ps := ["team"]) fun _ _ _ _ _ _ us hl => match us, hl with | [_], _ => rfl
  have b5 := F5.binds (ps := ["thing", "least", "greatest"]) fun _ _ _ _ _ _ us hl => match us, hl with | [_, _, _], _ => rfl
  have b6 := F6.binds (ps := ["thing", "greatest"]) fun _ _ _ _ _ _ us hl => match us, hl with | [_, _], _ => rfl
  have b7 := F7.binds (ps := ["team", "workers"]) fun _ _ _ _ _ _ us hl => match us, hl with | [_, _], _ => rfl
  have b8 := F8.binds (ps := ["team", "workers", "bound"]) fun _ _ _ _ _ _ us hl => match us, hl with | [_, _, _], _ => rfl
  have b9 := F9.binds (ps := ["team", "workers"]) fun _ _ _ _ _ _ us hl => match us, hl with | [_, _], _ => rfl
  have b10 := F10.binds (ps := ["jobs"]) fun _ _ _ _ _ _ us hl => match us, hl with | [_], _ => rfl
  have b11 := F11.binds (ps := ["team", "bound"]) fun _ _ _ _ _ _ us hl => match us, hl with | [_, _], _ => rfl
  have b12 := F12.binds (ps := ["team", "jobs", "bound"]) fun _ _ _ _ _ _ us hl => match us, hl with | [_, _, _], _ => rfl
  have b13 := F13.binds (ps := ["team", "jobs"]) fun _ _ _ _ _ _ us hl => match us, hl with | [_, _], _ => rfl
  have b14 := F14.binds (ps := ["team", "jobs", "thing"]) fun _ _ _ _ _ _ us hl => match us, hl with | [_, _, _], _ => rfl
  have b15 := F15.binds (ps := ["store", "bound"]) fun _ _ _ _ _ _ us hl => match us, hl with | [_, _], _ => rfl
  have b16 := F16.binds (ps := ["store", "most", "top"]) fun _ _ _ _ _ _ us hl => match us, hl with | [_, _, _], _ => rfl
  have b17 := F17.binds (ps := ["store"]) fun _ _ _ _ _ _ us hl => match us, hl with | [_], _ => rfl
  have b18 := F18.binds (ps := ["store", "size_here", "most"]) fun _ _ _ _ _ _ us hl => match us, hl with | [_, _, _], _ => rfl
  have b19 := F19.binds (ps := []) fun _ _ _ _ _ _ us hl => match us, hl with | [], _ => rfl
  have b20 := F20.binds (ps := ["deal", "gang", "first"]) fun _ _ _ _ _ _ us hl => match us, hl with | [_, _, _], _ => rfl
  have b21 := F21.binds (ps := ["deal", "goods", "first"]) fun _ _ _ _ _ _ us hl => match us, hl with | [_, _, _], _ => rfl
  have b22 := F22.binds (ps := ["found", "level"]) fun _ _ _ _ _ _ us hl => match us, hl with | [_, _], _ => rfl
  have b23 := F23.binds (ps := ["levels"]) fun _ _ _ _ _ _ us hl => match us, hl with | [_], _ => rfl
  have b24 := F24.binds (ps := ["levels"]) fun _ _ _ _ _ _ us hl => match us, hl with | [_], _ => rfl
  have b25 := F25.binds (ps := ["team", "workers"]) fun _ _ _ _ _ _ us hl => match us, hl with | [_, _], _ => rfl
  have b26 := F26.binds (ps := ["team", "workers"]) fun _ _ _ _ _ _ us hl => match us, hl with | [_, _], _ => rfl
  have b27 := F27.binds (ps := ["team", "jobs"]) fun _ _ _ _ _ _ us hl => match us, hl with | [_, _], _ => rfl
  have b28 := F28.binds (ps := ["team", "jobs"]) fun _ _ _ _ _ _ us hl => match us, hl with | [_, _], _ => rfl
  have b29 := F29.binds (ps := ["team", "workers", "thing"]) fun _ _ _ _ _ _ us hl => match us, hl with | [_, _, _], _ => rfl
  have b30 := F30.binds (ps := ["store", "deal", "gang", "goods"]) fun _ _ _ _ _ _ us hl => match us, hl with | [_, _, _, _], _ => rfl
  refine ⟨PySem.W.fnOf "law" "law" (defArgs s_law) (defBody s_law) (defScope s_law) .none kV31 dc31 pm31 an31 cd31 ct31, fun s v => .of_eq rfl, fun base _ _ => ?_⟩
  have d_law_store : DefG l.prog w K mg base "_law_store" ["script", "k"] 1 m_law_store := ⟨_, _, PySem.W.mg_of X G a0, ok_law_store F0 (m_len := m_len) (m_abs := m_abs) (m_int := m_int) (m_max := m_max), F0.kp, b0⟩
  have d_spares_of : DefG l.prog w K mg base "spares_of" ["levels"] 1 m_spares_of := ⟨_, _, PySem.W.mg_of X G a1, ok_spares_of F1 (m_sorted := m_sorted) (m_enumerate := m_enumerate), F1.kp, b1⟩
  have d_is_whole : DefG l.prog w K mg base "is_whole" ["thing"] 1 m_is_whole := ⟨_, _, PySem.W.mg_of X G a2, ok_is_whole F2 (m_int := m_int) (m_isinstance := m_isinstance) (m_bool := m_bool), F2.kp, b2⟩
  have d_is_team : DefG l.prog w K mg base "is_team" ["thing"] 2 m_is_team := ⟨_, _, PySem.W.mg_of X G a3, ok_is_team F3 (m_list := m_list) (m_isinstance := m_isinstance) (m_len := m_len) (m_all := m_all) (m_max := m_max) (c_MOST_WORKERS := c_MOST_WORKERS) (c_GREATEST_SPARE := c_GREATEST_SPARE) (d_is_whole := d_is_whole) (d_spares_of := d_spares_of), F3.kp, b3⟩
  have d_check_team : DefG l.prog w K mg base "check_team" ["team"] 3 m_check_team := ⟨_, _, PySem.W.mg_of X G a4, ok_check_team F4 (d_is_team := d_is_team), F4.kp, b4⟩
  have d_is_within : DefG l.prog w K mg base "is_within" ["thing", "least", "greatest"] 2 m_is_within := ⟨_, _, PySem.W.mg_of X G a5, ok_is_within F5 (d_is_whole := d_is_whole), F5.kp, b5⟩
  have d_is_ascending : DefG l.prog w K mg base "is_ascending" ["thing", "greatest"] 3 m_is_ascending := ⟨_, _, PySem.W.mg_of X G a6, ok_is_ascending F6 (m_list := m_list) (m_isinstance := m_isinstance) (m_all := m_all) (m_zip := m_zip) (d_is_within := d_is_within), F6.kp, b6⟩
  have d_check_workers : DefG l.prog w K mg base "check_workers" ["team", "workers"] 4 m_check_workers := ⟨_, _, PySem.W.mg_of X G a7, ok_check_workers F7 (m_len := m_len) (d_is_ascending := d_is_ascending), F7.kp, b7⟩
  have d_bars_workers : DefG l.prog w K mg base "bars_workers" ["team", "workers", "bound"] 1 m_bars_workers := ⟨_, _, PySem.W.mg_of X G a8, ok_bars_workers F8 (m_len := m_len), F8.kp, b8⟩
  have d_work_paper : DefG l.prog w K mg base "work_paper" ["team", "workers"] 5 m_work_paper := ⟨_, _, PySem.W.mg_of X G a9, ok_work_paper F9 (m_len := m_len) (m_range := m_range) (m_min := m_min) (d_check_team := d_check_team) (d_check_workers := d_check_workers) (d_bars_workers := d_bars_workers), F9.kp, b9⟩
  have dk_work_paper_team_workers : DefGK l.prog w K mg base "work_paper" ["team", "workers"] 5 m_work_paper ["team", "workers"] [0, 1] := ⟨_, _, PySem.W.mg_of X G a9, ok_work_paper F9 (m_len := m_len) (m_range := m_range) (m_min := m_min) (d_check_team := d_check_team) (d_check_workers := d_check_workers) (d_bars_workers := d_bars_workers), F9.kp, ⟨fun s us hl => match us, hl with | [], h => by simp at h | [_], h => by simp at h | _ :: _ :: _, _ => .of_eq rfl⟩⟩
  have d_check_jobs : DefG l.prog w K mg base "check_jobs" ["jobs"] 4 m_check_jobs := ⟨_, _, PySem.W.mg_of X G a10, ok_check_jobs F10 (m_len := m_len) (c_GREATEST_JOB := c_GREATEST_JOB) (c_MOST_JOBS := c_MOST_JOBS) (d_is_ascending := d_is_ascending), F10.kp, b10⟩
  have d_count_above : DefG l.prog w K mg base "count_above" ["team", "bound"] 1 m_count_above := ⟨_, _, PySem.W.mg_of X G a11, ok_count_above F11 (m_sum := m_sum), F11.kp, b11⟩
  have d_bars_jobs : DefG l.prog w K mg base "bars_jobs" ["team", "jobs", "bound"] 2 m_bars_jobs := ⟨_, _, PySem.W.mg_of X G a12, ok_bars_jobs F12 (m_len := m_len) (d_count_above := d_count_above), F12.kp, b12⟩
  have d_give_paper : DefG l.prog w K mg base "give_paper" ["team", "jobs"] 5 m_give_paper := ⟨_, _, PySem.W.mg_of X G a13, ok_give_paper F13 (m_range := m_range) (m_min := m_min) (c_GREATEST_JOB := c_GREATEST_JOB) (d_check_team := d_check_team) (d_check_jobs := d_check_jobs) (d_bars_jobs := d_bars_jobs), F13.kp, b13⟩
  have dk_give_paper_team_jobs : DefGK l.prog w K mg base "give_paper" ["team", "jobs"] 5 m_give_paper ["team", "jobs"] [0, 1] := ⟨_, _, PySem.W.mg_of X G a13, ok_give_paper F13 (m_range := m_range) (m_min := m_min) (c_GREATEST_JOB := c_GREATEST_JOB) (d_check_team := d_check_team) (d_check_jobs := d_check_jobs) (d_bars_jobs := d_bars_jobs), F13.kp, ⟨fun s us hl => match us, hl with | [], h => by simp at h | [_], h => by simp at h | _ :: _ :: _, _ => .of_eq rfl⟩⟩
  have d_shows_give_paper : DefG l.prog w K mg base "shows_give_paper" ["team", "jobs", "thing"] 5 m_shows_give_paper := ⟨_, _, PySem.W.mg_of X G a14, ok_shows_give_paper F14 (d_check_team := d_check_team) (d_check_jobs := d_check_jobs) (d_is_whole := d_is_whole) (d_bars_jobs := d_bars_jobs), F14.kp, b14⟩
  have dk_shows_give_paper_team_jobs_thing : DefGK l.prog w K mg base "shows_give_paper" ["team", "jobs", "thing"] 5 m_shows_give_paper ["team", "jobs", "thing"] [0, 1, 2] := ⟨_, _, PySem.W.mg_of X G a14, ok_shows_give_paper F14 (d_check_team := d_check_team) (d_check_jobs := d_check_jobs) (d_is_whole := d_is_whole) (d_bars_jobs := d_bars_jobs), F14.kp, ⟨fun s us hl => match us, hl with | [], h => by simp at h | [_], h => by simp at h | [_, _], h => by simp at h | _ :: _ :: _ :: _, _ => .of_eq rfl⟩⟩
  have d_law_pick : DefG l.prog w K mg base "_law_pick" ["store", "bound"] 1 m_law_pick := ⟨_, _, PySem.W.mg_of X G a15, ok_law_pick F15 (m_int := m_int), F15.kp, b15⟩
  have d_law_deal : DefG l.prog w K mg base "_law_deal" ["store", "most", "top"] 2 m_law_deal := ⟨_, _, PySem.W.mg_of X G a16, ok_law_deal F16 (m_range := m_range) (m_min := m_min) (m_len := m_len) (m_int := m_int) (d_law_pick := d_law_pick), F16.kp, b16⟩
  have d_law_high : DefG l.prog w K mg base "_law_high" ["store"] 2 m_law_high := ⟨_, _, PySem.W.mg_of X G a17, ok_law_high F17 (m_range := m_range) (m_len := m_len) (d_law_pick := d_law_pick), F17.kp, b17⟩
  have d_law_rising : DefG l.prog w K mg base "_law_rising" ["store", "size_here", "most"] 2 m_law_rising := ⟨_, _, PySem.W.mg_of X G a18, ok_law_rising F18 (m_range := m_range) (d_law_pick := d_law_pick), F18.kp, b18⟩
  have d_law_things : DefG l.prog w K mg base "_law_things" [] 1 m_law_things := ⟨_, _, PySem.W.mg_of X G a19, ok_law_things F19 , F19.kp, b19⟩
  have d_law_crowd : DefG l.prog w K mg base "_law_crowd" ["deal", "gang", "first"] 1 m_law_crowd := ⟨_, _, PySem.W.mg_of X G a20, ok_law_crowd F20 (m_len := m_len), F20.kp, b20⟩
  have d_law_lack : DefG l.prog w K mg base "_law_lack" ["deal", "goods", "first"] 1 m_law_lack := ⟨_, _, PySem.W.mg_of X G a21, ok_law_lack F21 (m_len := m_len), F21.kp, b21⟩
  have d_counts_with_next : DefG l.prog w K mg base "counts_with_next" ["found", "level"] 1 m_counts_with_next := ⟨_, _, PySem.W.mg_of X G a22, ok_counts_with_next F22 (m_enumerate := m_enumerate), F22.kp, b22⟩
  have d_counts_along : DefG l.prog w K mg base "counts_along" ["levels"] 2 m_counts_along := ⟨_, _, PySem.W.mg_of X G a23, ok_counts_along F23 (d_counts_with_next := d_counts_with_next), F23.kp, b23⟩
  have d_ways_of_all : DefG l.prog w K mg base "ways_of_all" ["levels"] 3 m_ways_of_all := ⟨_, _, PySem.W.mg_of X G a24, ok_ways_of_all F24 (m_sorted := m_sorted) (d_counts_along := d_counts_along), F24.kp, b24⟩
  have d_ways_of_workers : DefG l.prog w K mg base "ways_of_workers" ["team", "workers"] 5 m_ways_of_workers := ⟨_, _, PySem.W.mg_of X G a25, ok_ways_of_workers F25 (d_check_team := d_check_team) (d_check_workers := d_check_workers) (d_ways_of_all := d_ways_of_all), F25.kp, b25⟩
  have d_can_work : DefG l.prog w K mg base "can_work" ["team", "workers"] 6 m_can_work := ⟨_, _, PySem.W.mg_of X G a26, ok_can_work F26 (d_ways_of_workers := d_ways_of_workers), F26.kp, b26⟩
  have d_ways_of_jobs : DefG l.prog w K mg base "ways_of_jobs" ["team", "jobs"] 5 m_ways_of_jobs := ⟨_, _, PySem.W.mg_of X G a27, ok_ways_of_jobs F27 (d_check_team := d_check_team) (d_check_jobs := d_check_jobs) (d_count_above := d_count_above) (d_ways_of_all := d_ways_of_all), F27.kp, b27⟩
  have d_can_give : DefG l.prog w K mg base "can_give" ["team", "jobs"] 6 m_can_give := ⟨_, _, PySem.W.mg_of X G a28, ok_can_give F28 (d_ways_of_jobs := d_ways_of_jobs), F28.kp, b28⟩
  have d_shows_work_paper : DefG l.prog w K mg base "shows_work_paper" ["team", "workers", "thing"] 5 m_shows_work_paper := ⟨_, _, PySem.W.mg_of X G a29, ok_shows_work_paper F29 (d_check_team := d_check_team) (d_check_workers := d_check_workers) (d_is_whole := d_is_whole) (d_bars_workers := d_bars_workers), F29.kp, b29⟩
  have dk_shows_work_paper_team_workers_thing : DefGK l.prog w K mg base "shows_work_paper" ["team", "workers", "thing"] 5 m_shows_work_paper ["team", "workers", "thing"] [0, 1, 2] := ⟨_, _, PySem.W.mg_of X G a29, ok_shows_work_paper F29 (d_check_team := d_check_team) (d_check_workers := d_check_workers) (d_is_whole := d_is_whole) (d_bars_workers := d_bars_workers), F29.kp, ⟨fun s us hl => match us, hl with | [], h => by simp at h | [_], h => by simp at h | [_, _], h => by simp at h | _ :: _ :: _ :: _, _ => .of_eq rfl⟩⟩
  have d_law_right : DefG l.prog w K mg base "_law_right" ["store", "deal", "gang", "goods"] 7 m_law_right := ⟨_, _, PySem.W.mg_of X G a30, ok_law_right F30 (m_repr := m_repr) (m_range := m_range) (m_list := m_list) (d_law_crowd := d_law_crowd) (d_can_work := d_can_work) (d_law_lack := d_law_lack) (d_can_give := d_can_give) (d_law_pick := d_law_pick) (d_law_things := d_law_things) (d_shows_give_paper := d_shows_give_paper) (d_shows_work_paper := d_shows_work_paper) (dk_work_paper_team_workers := dk_work_paper_team_workers) (dk_give_paper_team_jobs := dk_give_paper_team_jobs) (dk_shows_work_paper_team_workers_thing := dk_shows_work_paper_team_workers_thing) (dk_shows_give_paper_team_jobs_thing := dk_shows_give_paper_team_jobs_thing), F30.kp, b30⟩
  exact (ok_law F31 (m_len := m_len) (m_min := m_min) (m_max := m_max) (m_range := m_range) (m_list := m_list) (d_law_store := d_law_store) (d_law_high := d_law_high) (d_law_deal := d_law_deal) (d_law_rising := d_law_rising) (d_law_pick := d_law_pick) (d_law_right := d_law_right) (d_work_paper := d_work_paper) (d_give_paper := d_give_paper) (d_shows_give_paper := d_shows_give_paper)).imp (spLaw_of law_true)
end Tk32
open PySem PySem.W PyProof.Rows
set_option maxHeartbeats 0 in
theorem PySem.Challenge.cw_nestboards_k32_papers_of_sets_judged_holds : PySem.Challenge.rw_nestboards_k32_papers_of_sets_judged.Holds := by
  w_on; o_law; k_head; (case hw => w_witness2)
  k_fill
  refine Vm.walk_G (l := PySem.Challenge.rw_nestboards_k32_papers_of_sets_judged) (n := 63) (k := 8) (x := "script") (sp := fun w => Tk32.spLaw _) rfl (by decide) rfl ⟨rfl, by decide, by decide⟩ (fun w h Y => PySem.W.kIn_of Y) ?F (fun _ _ a ns hl _ hS => ⟨a, ns, rfl, hS, hl, fun _ => rfl⟩)
  case F =>
    intro w mg fa h KX G hmg
    refine' Tk32.all_mk KX G hmg rfl Tk32.law_true ?a0 ?l0 ?c0 ?k0 ?a1 ?l1 ?c1 ?k1 ?a2 ?l2 ?c2 ?k2 ?a3 ?l3 ?c3 ?k3 ?a4 ?l4 ?c4 ?k4 ?a5 ?l5 ?c5 ?k5 ?a6 ?l6 ?c6 ?k6 ?a7 ?l7 ?c7 ?k7 ?a8 ?l8 ?c8 ?k8 ?a9 ?l9 ?c9 ?k9 ?a10 ?l10 ?c10 ?k10 ?a11 ?l11 ?c11 ?k11 ?a12 ?l12 ?c12 ?k12 ?a13 ?l13 ?c13 ?k13 ?a14 ?l14 ?c14 ?k14 ?a15 ?l15 ?c15 ?k15 ?a16 ?l16 ?c16 ?k16 ?a17 ?l17 ?c17 ?k17 ?a18 ?l18 ?c18 ?k18 ?a19 ?l19 ?c19 ?k19 ?a20 ?l20 ?c20 ?k20 ?a21 ?l21 ?c21 ?k21 ?a22 ?l22 ?c22 ?k22 ?a23 ?l23 ?c23 ?k23 ?a24 ?l24 ?c24 ?k24 ?a25 ?l25 ?c25 ?k25 ?a26 ?l26 ?c26 ?k26 ?a27 ?l27 ?c27 ?k27 ?a28 ?l28 ?c28 ?k28 ?a29 ?l29 ?c29 ?k29 ?a30 ?l30 ?c30 ?k30 ?a31 ?l31 ?c31 ?k31 ?z_abs ?z_all ?z_bool ?z_enumerate ?z_int ?z_isinstance ?z_len ?z_list ?z_max ?z_min ?z_range ?z_repr ?z_sorted ?z_sum ?z_zip ?y_GREATEST_JOB ?y_GREATEST_SPARE ?y_MOST_JOBS ?y_MOST_WORKERS
    (case a0 => k_is); (case l0 => k_is); (case c0 => k_is); (case k0 => k_is)
    (case a1 => k_is); (case l1 => k_is); (case c1 => k_is); (case k1 => k_is)
    (case a2 => k_is); (case l2 => k_is); (case c2 => k_is); (case k2 => k_is)
    (case a3 => k_is); (case l3 => k_is); (case c3 => k_is); (case k3 => k_is)
    (case a4 => k_is); (case l4 => k_is); (case c4 => k_is); (case k4 => k_is)
    (case a5 => k_is); (case l5 => k_is); (case c5 => k_is); (case k5 => k_is)
    (case a6 => k_is); (case l6 => k_is); (case c6 => k_is); (case k6 => k_is)
    (case a7 => k_is); (case l7 => k_is); (case c7 => k_is); (case k7 => k_is)
    (case a8 => k_is); (case l8 => k_is); (case c8 => k_is); (case k8 => k_is)
    (case a9 => k_is); (case l9 => k_is); (case c9 => k_is); (case k9 => k_is)
    (case a10 => k_is); (case l10 => k_is); (case c10 => k_is); (case k10 => k_is)
    (case a11 => k_is); (case l11 => k_is); (case c11 => k_is); (case k11 => k_is)
    (case a12 => k_is); (case l12 => k_is); (case c12 => k_is); (case k12 => k_is)
    (case a13 => k_is); (case l13 => k_is); (case c13 => k_is); (case k13 => k_is)
    (case a14 => k_is); (case l14 => k_is); (case c14 => k_is); (case k14 => k_is)
    (case a15 => k_is); (case l15 => k_is); (case c15 => k_is); (case k15 => k_is)
    (case a16 => k_is); (case l16 => k_is); (case c16 => k_is); (case k16 => k_is)
    (case a17 => k_is); (case l17 => k_is); (case c17 => k_is); (case k17 => k_is)
    (case a18 => k_is); (case l18 => k_is); (case c18 => k_is); (case k18 => k_is)
    (case a19 => k_is); (case l19 => k_is); (case c19 => k_is); (case k19 => k_is)
    (case a20 => k_is); (case l20 => k_is); (case c20 => k_is); (case k20 => k_is)
    (case a21 => k_is); (case l21 => k_is); (case c21 => k_is); (case k21 => k_is)
    (case a22 => k_is); (case l22 => k_is); (case c22 => k_is); (case k22 => k_is)
    (case a23 => k_is); (case l23 => k_is); (case c23 => k_is); (case k23 => k_is)
    (case a24 => k_is); (case l24 => k_is); (case c24 => k_is); (case k24 => k_is)
    (case a25 => k_is); (case l25 => k_is); (case c25 => k_is); (case k25 => k_is)
    (case a26 => k_is); (case l26 => k_is); (case c26 => k_is); (case k26 => k_is)
    (case a27 => k_is); (case l27 => k_is); (case c27 => k_is); (case k27 => k_is)
    (case a28 => k_is); (case l28 => k_is); (case c28 => k_is); (case k28 => k_is)
    (case a29 => k_is); (case l29 => k_is); (case c29 => k_is); (case k29 => k_is)
    (case a30 => k_is); (case l30 => k_is); (case c30 => k_is); (case k30 => k_is)
    (case a31 => k_is); (case l31 => k_is); (case c31 => k_is); (case k31 => k_is)
    (case z_abs => k_is)
    (case z_all => k_is)
    (case z_bool => k_is)
    (case z_enumerate => k_is)
    (case z_int => k_is)
    (case z_isinstance => k_is)
    (case z_len => k_is)
    (case z_list => k_is)
    (case z_max => k_is)
    (case z_min => k_is)
    (case z_range => k_is)
    (case z_repr => k_is)
    (case z_sorted => k_is)
    (case z_sum => k_is)
    (case z_zip => k_is)
    (case y_GREATEST_JOB => k_is)
    (case y_GREATEST_SPARE => k_is)
    (case y_MOST_JOBS => k_is)
    (case y_MOST_WORKERS => k_is)
