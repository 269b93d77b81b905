import PyProof.Rows.All
import Wide.All
import OpenK.AllK
import Wide.FinOn
import PySem.Challenge.RW_nestboards_k29_hits_of_great_teams
import HandS.Ends
import HandS.Evl
import HandS.Wide
import HandS.WideBits
import HandS.ForMost
import HandS.ForExc
import HandS.Style
import HandS.IsInst
import HandS.SortInts
import HandS.Conv
import HandS.CallLocal
import HandS.WordsExc
import HandS.Words
import HandS.ExcOwn
import HandS.Exc
import HandS.Dict
import HandS.Gcd
import PyProof.ReprRoads
import PyProof.StrLaws
import HandS.SortRule
import HandS.SortKw
import HandS.Zip
import HandS.Deep
import HandS.HotCalls
import HandS.ExcIs
import HandS.Text
import HandS.FStr
import HandS.TupMul
import HandS.SetFor
import KE.KMathGC

set_option Elab.async false
set_option linter.all false
set_option maxRecDepth 100000
/-! VmA: a layer of my own over HandS: expressions and statements as plain functions on environments of deep values. -/
namespace Vm
open PySem PySem.Spec PyProof.Rows L2 Evl

/-! ### deep values -/
inductive D where
  | non | bl (b : Bool) | int (i : Int) | str (s : Str) | ref (a : Addr) | ty (n : String)
  | lst (xs : List D) | tup (xs : List D) | dct (ks : List Key) (xs : List D) | scr (ns : List Int) | fn (x : Str)

/-- where the module's name c leads -/
def clsOf (K : PySem.W.Frag) (c : Str) : Addr := match PySem.W.nsIn K mainGlobals c with
  | some (some (.ref a)) => a
  | _ => mainGlobals

mutual
inductive Rep (K : PySem.W.Frag) (B : Hp) : V → D → Prop
  | non : Rep K B .non .non
  | bl (b : Bool) : Rep K B (.bl b) (.bl b)
  | int (i : Int) : Rep K B (.int i) (.int i)
  | str (x : Str) : Rep K B (.str x) (.str x)
  | ref (a : Addr) : Rep K B (.ref a) (.ref a)
  | ty (n : String) : Rep K B (.ty n) (.ty n)
  | fn (x : Str) : Rep K B (.ref (clsOf K x)) (.fn x)
  | lst {a : Addr} {vs : List V} {xs : List D} : B a = some (.lst vs) → RepAll K B vs xs → Rep K B (.ref a) (.lst xs)
  | scr {a : Addr} {ns : List Int} : SqL K B a (ns.map V.int) → Rep K B (.ref a) (.scr ns)
  | tup {a : Addr} {vs : List V} {xs : List D} : SqT K B a vs → RepAll K B vs xs → Rep K B (.ref a) (.tup xs)
  | dct {a : Addr} {kvs : List (Key × V)} {xs : List D} : B a = some (.dK kvs) → RepAll K B (kvs.map (·.2)) xs → Rep K B (.ref a) (.dct (kvs.map (·.1)) xs)
inductive RepAll (K : PySem.W.Frag) (B : Hp) : List V → List D → Prop
  | nil : RepAll K B [] []
  | cons {v : V} {vs : List V} {d : D} {xs : List D} : Rep K B v d → RepAll K B vs xs → RepAll K B (v :: vs) (d :: xs)
end

section
variable {K : PySem.W.Frag} {B B' H H' : Hp}
mutual
theorem Rep.mono (e : Ex B B') {v : V} {d : D} (h : Rep K B v d) : Rep K B' v d := by
  cases h with
  | non => exact .non
  | bl b => exact .bl b
  | int i => exact .int i
  | str x => exact .str x
  | ref a => exact .ref a
  | ty n => exact .ty n
  | fn x => exact .fn x
  | lst h1 h2 => exact .lst (e _ _ h1) (RepAll.mono e h2)
  | scr h1 => exact .scr (ex_l e h1)
  | tup h1 h2 => exact .tup (ex_t e h1) (RepAll.mono e h2)
  | dct h1 h2 => exact .dct (e _ _ h1) (RepAll.mono e h2)
theorem RepAll.mono (e : Ex B B') {vs : List V} {xs : List D} (h : RepAll K B vs xs) : RepAll K B' vs xs := by
  cases h with
  | nil => exact .nil
  | cons h1 h2 => exact .cons (Rep.mono e h1) (RepAll.mono e h2)
end
theorem RepAll.length : ∀ {vs : List V} {xs : List D}, RepAll K B vs xs → vs.length = xs.length
  | _, _, .nil => rfl
  | _, _, .cons _ t => congrArg (· + 1) (RepAll.length t)
theorem RepAll.get : ∀ {vs : List V} {xs : List D} {i : Nat} {d : D}, RepAll K B vs xs → xs[i]? = some d → ∃ v, vs[i]? = some v ∧ Rep K B v d
  | _, _, _, _, .nil, h => by simp at h
  | _, _, 0, d, .cons (v := v) h t, e => by
    simp at e
    subst e
    exact ⟨v, rfl, h⟩
  | _, _, i + 1, d, .cons h t, e => by
    obtain ⟨v, e1, r⟩ := RepAll.get (i := i) t (by simpa using e)
    exact ⟨v, by simpa using e1, r⟩
theorem RepAll.getV : ∀ {vs : List V} {xs : List D} {i : Nat} {v : V}, RepAll K B vs xs → vs[i]? = some v → ∃ d, xs[i]? = some d ∧ Rep K B v d
  | _, _, _, _, .nil, h => by simp at h
  | _, _, 0, v, .cons (d := d) h t, e => by
    simp at e
    subst e
    exact ⟨d, rfl, h⟩
  | _, _, i + 1, v, .cons h t, e => by
    obtain ⟨d, e1, r⟩ := RepAll.getV (i := i) t (by simpa using e)
    exact ⟨d, by simpa using e1, r⟩
theorem RepAll.append : ∀ {vs ws : List V} {xs ys : List D}, RepAll K B vs xs → RepAll K B ws ys → RepAll K B (vs ++ ws) (xs ++ ys)
  | _, _, _, _, .nil, h => h
  | _, _, _, _, .cons a t, h => .cons a (RepAll.append t h)
theorem RepAll.one {v : V} {d : D} (h : Rep K B v d) : RepAll K B [v] [d] := .cons h .nil
theorem RepAll.set {v : V} {d : D} (h : Rep K B v d) : ∀ {vs : List V} {xs : List D} (i : Nat), RepAll K B vs xs → RepAll K B (vs.set i v) (xs.set i d)
  | _, _, _, .nil => .nil
  | _, _, 0, .cons a t => .cons h t
  | _, _, i + 1, .cons a t => .cons a (RepAll.set h i t)
theorem RepAll.take : ∀ {vs : List V} {xs : List D} (i : Nat), RepAll K B vs xs → RepAll K B (vs.take i) (xs.take i)
  | _, _, 0, _ => .nil
  | _, _, _ + 1, .nil => .nil
  | _, _, i + 1, .cons a t => .cons a (RepAll.take i t)
theorem RepAll.drop : ∀ {vs : List V} {xs : List D} (i : Nat), RepAll K B vs xs → RepAll K B (vs.drop i) (xs.drop i)
  | _, _, 0, h => h
  | _, _, _ + 1, .nil => .nil
  | _, _, i + 1, .cons a t => RepAll.drop i t
theorem RepAll.eraseIdx : ∀ {vs : List V} {xs : List D} (i : Nat), RepAll K B vs xs → RepAll K B (vs.eraseIdx i) (xs.eraseIdx i)
  | _, _, _, .nil => .nil
  | _, _, 0, .cons a t => t
  | _, _, i + 1, .cons a t => .cons a (RepAll.eraseIdx i t)
theorem RepAll.reverse : ∀ {vs : List V} {xs : List D}, RepAll K B vs xs → RepAll K B vs.reverse xs.reverse
  | _, _, .nil => .nil
  | _, _, .cons a t => by
    rw [List.reverse_cons, List.reverse_cons]
    exact RepAll.append (RepAll.reverse t) (.one a)
theorem RepAll.ints : ∀ {vs : List V} {ns : List Int}, RepAll K B vs (ns.map D.int) → vs = ns.map V.int
  | _, [], h => by cases h; rfl
  | _, n :: ns, h => by
    cases h with
    | cons a t =>
      cases a
      rw [RepAll.ints t]
      rfl
theorem RepAll.of_ints : ∀ (ns : List Int), RepAll K B (ns.map V.int) (ns.map D.int)
  | [] => .nil
  | n :: ns => .cons (.int n) (RepAll.of_ints ns)
theorem RepAll.bls : ∀ {vs : List V} {ns : List Bool}, RepAll K B vs (ns.map D.bl) → vs = ns.map V.bl
  | _, [], h => by cases h; rfl
  | _, n :: ns, h => by
    cases h with
    | cons a t =>
      cases a
      rw [RepAll.bls t]
      rfl
theorem RepAll.strs : ∀ {vs : List V} {ns : List Str}, RepAll K B vs (ns.map D.str) → vs = ns.map V.str
  | _, [], h => by cases h; rfl
  | _, n :: ns, h => by
    cases h with
    | cons a t =>
      cases a
      rw [RepAll.strs t]
      rfl
theorem Rep.list {v : V} {xs : List D} (h : Rep K B v (.lst xs)) : ∃ a vs, v = .ref a ∧ B a = some (.lst vs) ∧ RepAll K B vs xs := by
  cases h with
  | lst h1 h2 => exact ⟨_, _, rfl, h1, h2⟩
theorem Rep.tuple {v : V} {xs : List D} (h : Rep K B v (.tup xs)) : ∃ a vs, v = .ref a ∧ SqT K B a vs ∧ RepAll K B vs xs := by
  cases h with
  | tup h1 h2 => exact ⟨_, _, rfl, h1, h2⟩
end

/-! ### environments -/
/-- a slot: nothing known; a value that is never changed; a list of the function's own -/
inductive Sl where
  | un | sh (d : D) | ow (xs : List D)
abbrev En := List Sl

structure Ctx where
  K : PySem.W.Frag
  G : Hp
  B0 : Hp
  fix : List Nat
  σ0 : L2.St

def SlOk (K : PySem.W.Frag) (G B H : Hp) : Sl → Option (Option V) → Prop
  | .un, _ => True
  | .sh d, o => ∃ v, o = some (some v) ∧ Rep K B v d
  | .ow xs, o => ∃ p vs, o = some (some (.ref p)) ∧ B p = none ∧ G p = none ∧ H p = some (.lst vs) ∧ RepAll K B vs xs

/-- no own slot stands at q -/
def Off (env : En) (σ : L2.St) (q : Addr) : Prop := ∀ (i : Nat) (ys : List D), env[i]? = some (.ow ys) → σ[i]? ≠ some (some (.ref q))

structure SR (C : Ctx) (B : Hp) (env : En) (σ : L2.St) (H : Hp) : Prop where
  exG : Ex C.G H
  exB : Ex B H
  ex0 : Ex C.B0 B
  new : ∀ q, B q ≠ none → C.B0 q ≠ none ∨ C.G q = none
  len : σ.length = env.length
  sl : ∀ (i : Nat) (s : Sl), env[i]? = some s → SlOk C.K C.G B H s σ[i]?
  dis : ∀ (i j : Nat) (p : Addr) (xs ys : List D), env[i]? = some (.ow xs) → env[j]? = some (.ow ys) → σ[i]? = some (some (.ref p)) → σ[j]? = some (some (.ref p)) → i = j
  fx : ∀ j ∈ C.fix, σ[j]? = C.σ0[j]?

/-- results: a value; the own list of a slot; a new list -/
inductive R where
  | val (d : D) | al (i : Nat) | fr (xs : List D)

def RepR (C : Ctx) (B : Hp) (env : En) (σ : L2.St) (H : Hp) (v : V) : R → Prop
  | .val d => Rep C.K B v d
  | .al i => σ[i]? = some (some v)
  | .fr xs => ∃ p vs, v = .ref p ∧ B p = none ∧ C.G p = none ∧ H p = some (.lst vs) ∧ RepAll C.K B vs xs ∧ Off env σ p

/-- an expression: its reading t goes as f says -/
def SE (K : PySem.W.Frag) (t : TE) (f : En → Option (R × En)) : Prop :=
  ∀ C : Ctx, C.K = K → ∀ (B : Hp) (env : En) (σ : L2.St) (H : Hp) (r : R) (env' : En), SR C B env σ H → f env = some (r, env') →
    ∀ Q : VK, (∀ v B' H', SR C B' env' σ H' → Ex B B' → RepR C B' env' σ H' v r → Q v H') → t σ H Q

/-- a test -/
def ST (K : PySem.W.Frag) (t : TT) (f : En → Option (Bool × En)) : Prop :=
  ∀ C : Ctx, C.K = K → ∀ (B : Hp) (env : En) (σ : L2.St) (H : Hp) (r : Bool) (env' : En), SR C B env σ H → f env = some (r, env') →
    ∀ Q : Bool → Hp → Prop, (∀ B' H', SR C B' env' σ H' → Ex B B' → Q r H') → t σ H Q

/-- what a result holds, read now -/
def look (env : En) : R → Option D
  | .val d => some d
  | .fr xs => some (.lst xs)
  | .al i => match env[i]? with
    | some (.ow xs) => some (.lst xs)
    | some (.sh d) => some d
    | _ => none
/-- a result as a value that is never changed -/
def frz (env : En) : R → Option (D × En)
  | .val d => some (d, env)
  | .fr xs => some (.lst xs, env)
  | .al i => match env[i]? with
    | some (.ow xs) => some (.lst xs, env.set i (.sh (.lst xs)))
    | some (.sh d) => some (d, env)
    | _ => none

/-- to be read now -/
def RepK (K : PySem.W.Frag) (B H : Hp) (v : V) (d : D) : Prop := Rep K B v d ∨ ∃ p vs xs, v = .ref p ∧ d = .lst xs ∧ H p = some (.lst vs) ∧ RepAll K B vs xs

section
variable {K : PySem.W.Frag} {C : Ctx} {B B' G H H' : Hp} {env env' : En} {σ : L2.St} {v : V} {r : R} {d : D}

theorem RepK.list {xs : List D} (e : Ex B H) (h : RepK K B H v (.lst xs)) : ∃ a vs, v = .ref a ∧ H a = some (.lst vs) ∧ RepAll K B vs xs := by
  rcases h with h | ⟨p, vs, ys, rfl, e1, hp, ra⟩
  · obtain ⟨a, vs, rfl, h1, h2⟩ := h.list
    exact ⟨a, vs, rfl, e _ _ h1, h2⟩
  · cases e1
    exact ⟨p, vs, rfl, hp, ra⟩
theorem RepK.scal (h : RepK K B H v d) (hd : ∀ xs, d ≠ .lst xs) : Rep K B v d := by
  rcases h with h | ⟨p, vs, ys, rfl, e1, hp, ra⟩
  · exact h
  · exact absurd e1 (hd _)
theorem RepK.rep (e : Ex B H) (h : RepK K B H v d) : Rep K H v d := by
  rcases h with h | ⟨p, vs, ys, rfl, rfl, hp, ra⟩
  · exact h.mono e
  · exact .lst hp (ra.mono e)
theorem RepK.int {i : Int} (h : RepK K B H v (.int i)) : v = .int i := by
  rcases h with h | ⟨p, vs, ys, rfl, e1, _⟩
  · cases h; rfl
  · cases e1
theorem RepK.bl {i : Bool} (h : RepK K B H v (.bl i)) : v = .bl i := by
  rcases h with h | ⟨p, vs, ys, rfl, e1, _⟩
  · cases h; rfl
  · cases e1
theorem RepK.str {i : Str} (h : RepK K B H v (.str i)) : v = .str i := by
  rcases h with h | ⟨p, vs, ys, rfl, e1, _⟩
  · cases h; rfl
  · cases e1
theorem RepK.non (h : RepK K B H v .non) : v = .non := by
  rcases h with h | ⟨p, vs, ys, rfl, e1, _⟩
  · cases h; rfl
  · cases e1

theorem look_rep (s : SR C B env σ H) (h : RepR C B env σ H v r) (e : look env r = some d) : RepK C.K B H v d := by
  cases r with
  | val x =>
    cases e
    exact .inl h
  | fr xs =>
    cases e
    obtain ⟨p, vs, rfl, _, _, hp, ra, _⟩ := h
    exact .inr ⟨p, vs, xs, rfl, rfl, hp, ra⟩
  | al i =>
    have h : σ[i]? = some (some v) := h
    unfold look at e
    cases q : env[i]? with
    | none => simp only [q] at e; cases e
    | some t =>
      have w := s.sl i t q
      simp only [q] at e
      cases t with
      | un => cases e
      | sh x =>
        cases e
        obtain ⟨u, e1, ru⟩ := w
        rw [h] at e1
        cases e1
        exact .inl ru
      | ow xs =>
        cases e
        obtain ⟨p, vs, e1, _, _, hp, ra⟩ := w
        rw [h] at e1
        cases e1
        exact .inr ⟨p, vs, xs, rfl, rfl, hp, ra⟩

theorem SlOk.mono {s : Sl} {o : Option (Option V)} (e : Ex B B') (k : ∀ p, o = some (some (.ref p)) → (∃ xs, s = .ow xs) → B' p = none ∧ H' p = H p) (h : SlOk K G B H s o) : SlOk K G B' H' s o := by
  cases s with
  | un => trivial
  | sh d =>
    obtain ⟨v, e1, r⟩ := h
    exact ⟨v, e1, r.mono e⟩
  | ow xs =>
    obtain ⟨p, vs, e1, hb, hg, hp, ra⟩ := h
    obtain ⟨k1, k2⟩ := k p e1 ⟨xs, rfl⟩
    exact ⟨p, vs, e1, k1, hg, by rw [k2]; exact hp, ra.mono e⟩

/-- a new object of any kind is tracked, and is data from now on -/
theorem SR.alloc (s : SR C B env σ H) {p : Addr} {o : HO} (hp : H p = none) : SR C (upd B p o) env σ (upd H p o) := by
  have bp : B p = none := fresh_back s.exB hp
  have gp : C.G p = none := fresh_back s.exG hp
  refine ⟨s.exG.trans (Ex.new hp), fun a u e => ?_, s.ex0.trans (Ex.new bp), fun q hq => ?_, s.len, fun i t h => ?_, s.dis, s.fx⟩
  · by_cases h : a = p
    · subst h
      rw [upd_same] at e ⊢
      exact e
    · rw [upd_ne h] at e ⊢
      exact s.exB a u e
  · by_cases h : q = p
    · subst h
      exact .inr gp
    · rw [upd_ne h] at hq
      exact s.new q hq
  · refine (s.sl i t h).mono (Ex.new bp) fun q e ⟨xs, ex⟩ => ?_
    subst ex
    obtain ⟨p', vs, e1, hb, _, hh, _⟩ := s.sl i _ h
    rw [e] at e1
    cases e1
    have ne : q ≠ p := ne_of_none hh hp
    exact ⟨by rw [upd_ne ne]; exact hb, upd_ne ne⟩
/-- a new object is made that is nobody's data -/
theorem SR.temp (s : SR C B env σ H) {p : Addr} {o : HO} (hp : H p = none) : SR C B env σ (upd H p o) := by
  refine ⟨s.exG.trans (Ex.new hp), s.exB.trans (Ex.new hp), s.ex0, s.new, s.len, fun i t h => ?_, s.dis, s.fx⟩
  refine (s.sl i t h).mono (Ex.refl _) fun q e ⟨xs, ex⟩ => ?_
  subst ex
  obtain ⟨p', vs, e1, hb, _, hh, _⟩ := s.sl i _ h
  rw [e] at e1
  cases e1
  exact ⟨hb, upd_ne (ne_of_none hh hp)⟩
theorem SR.off (s : SR C B env σ H) {p : Addr} (hp : H p = none) : Off env σ p := fun i ys h e => by
  obtain ⟨p', vs, e1, hb, _, hh, _⟩ := s.sl i _ h
  rw [e] at e1
  cases e1
  rw [hp] at hh
  cases hh
/-- a new list as a result -/
theorem SR.newL (s : SR C B env σ H) {p : Addr} {vs : List V} {xs : List D} (hp : H p = none) (ra : RepAll C.K B vs xs) : RepR C B env σ (upd H p (.lst vs)) (.ref p) (.fr xs) :=
  ⟨p, vs, rfl, fresh_back s.exB hp, fresh_back s.exG hp, upd_same, ra, s.off hp⟩
/-- a list that is nobody's becomes data -/
theorem SR.take (s : SR C B env σ H) {p : Addr} {vs : List V} (bp : B p = none) (gp : C.G p = none) (hp : H p = some (.lst vs)) (off : Off env σ p) : SR C (upd B p (.lst vs)) env σ H := by
  refine ⟨s.exG, fun a u e => ?_, s.ex0.trans (Ex.new bp), fun q hq => ?_, s.len, fun i t h => ?_, s.dis, s.fx⟩
  · by_cases h : a = p
    · subst h
      rw [upd_same] at e
      cases e
      exact hp
    · rw [upd_ne h] at e
      exact s.exB a u e
  · by_cases h : q = p
    · subst h
      exact .inr gp
    · rw [upd_ne h] at hq
      exact s.new q hq
  · refine (s.sl i t h).mono (Ex.new bp) fun q e ⟨xs, ex⟩ => ?_
    subst ex
    obtain ⟨p', vs', e1, hb, _, hh, _⟩ := s.sl i _ h
    rw [e] at e1
    cases e1
    have ne : q ≠ p := fun z => off i _ h (by rw [e, z])
    exact ⟨by rw [upd_ne ne]; exact hb, rfl⟩
/-- the slot i is told otherwise -/
theorem SR.reslot (s : SR C B env σ H) {i : Nat} {t : Sl} (ht : ∀ xs, t ≠ .ow xs) (h : SlOk C.K C.G B H t σ[i]?) : SR C B (env.set i t) σ H := by
  refine ⟨s.exG, s.exB, s.ex0, s.new, by rw [List.length_set]; exact s.len, fun j u e => ?_, fun j k p xs ys e1 e2 => ?_, s.fx⟩
  · by_cases hj : i = j
    · subst hj
      by_cases hl : i < env.length
      · rw [List.getElem?_set_self hl] at e
        cases e
        exact h
      · rw [List.getElem?_eq_none (by rw [List.length_set]; omega)] at e
        cases e
    · rw [List.getElem?_set_ne hj] at e
      exact s.sl j u e
  · have k1 : env[j]? = some (.ow xs) := by
      by_cases hj : i = j
      · subst hj
        by_cases hl : i < env.length
        · rw [List.getElem?_set_self hl] at e1
          exact absurd (Option.some.inj e1) (ht _)
        · rw [List.getElem?_eq_none (by rw [List.length_set]; omega)] at e1
          cases e1
      · rw [List.getElem?_set_ne hj] at e1
        exact e1
    have k2 : env[k]? = some (.ow ys) := by
      by_cases hj : i = k
      · subst hj
        by_cases hl : i < env.length
        · rw [List.getElem?_set_self hl] at e2
          exact absurd (Option.some.inj e2) (ht _)
        · rw [List.getElem?_eq_none (by rw [List.length_set]; omega)] at e2
          cases e2
      · rw [List.getElem?_set_ne hj] at e2
        exact e2
    exact s.dis j k p xs ys k1 k2
theorem frz_rep (s : SR C B env σ H) (h : RepR C B env σ H v r) (e : frz env r = some (d, env')) : ∃ B', SR C B' env' σ H ∧ Ex B B' ∧ Rep C.K B' v d := by
  cases r with
  | val x =>
    cases e
    exact ⟨B, s, Ex.refl _, h⟩
  | fr xs =>
    cases e
    obtain ⟨p, vs, rfl, bp, gp, hp, ra, off⟩ := h
    exact ⟨_, s.take bp gp hp off, Ex.new bp, .lst upd_same (ra.mono (Ex.new bp))⟩
  | al i =>
    have h : σ[i]? = some (some v) := h
    unfold frz at e
    cases q : env[i]? with
    | none => simp only [q] at e; cases e
    | some t =>
      have w := s.sl i t q
      simp only [q] at e
      cases t with
      | un => cases e
      | sh x =>
        cases e
        obtain ⟨u, e1, ru⟩ := w
        rw [h] at e1
        cases e1
        exact ⟨B, s, Ex.refl _, ru⟩
      | ow xs =>
        cases e
        obtain ⟨p, vs, e1, bp, gp, hp, ra⟩ := w
        rw [h] at e1
        cases e1
        have s1 : SR C B (env.set i .un) σ H := s.reslot (fun xs z => by cases z) trivial
        have off : Off (env.set i .un) σ p := fun j ys e2 e3 => by
          by_cases hj : i = j
          · subst hj
            by_cases hl : i < env.length
            · rw [List.getElem?_set_self hl] at e2
              cases e2
            · rw [List.getElem?_eq_none (by rw [List.length_set]; omega)] at e2
              cases e2
          · rw [List.getElem?_set_ne hj] at e2
            exact hj (s.dis i j p xs ys q e2 h e3)
        have s2 := s1.take bp gp hp off
        have rr : Rep C.K (upd B p (.lst vs)) (.ref p) (.lst xs) := .lst upd_same (ra.mono (Ex.new bp))
        have s3 := s2.reslot (i := i) (t := .sh (.lst xs)) (fun xs z => by cases z) ⟨_, h, rr⟩
        rw [List.set_set] at s3
        exact ⟨_, s3, Ex.new bp, rr⟩
end
end Vm

set_option Elab.async false
set_option linter.all false
set_option maxRecDepth 100000
namespace Vm
open PySem PySem.Spec PyProof.Rows L2 Evl
section
variable {K : PySem.W.Frag} {C : Ctx} {B B' G H H' : Hp} {env env' : En} {σ : L2.St} {v : V} {r : R} {d : D} {ta tb te : TE} {fa fb fe : En → Option (R × En)} {f : En → Option (R × En)}

/-! ### what else stands is kept: the frame -/
def join (G T : Hp) : Hp := fun q => match G q with
  | some o => some o
  | none => T q
theorem join_none {G T : Hp} {q : Addr} (h : join G T q = none) : G q = none ∧ T q = none := by
  unfold join at h
  cases e : G q with
  | none => simp only [e] at h; exact ⟨rfl, h⟩
  | some o => simp only [e] at h; cases h
theorem join_of {G T : Hp} {q : Addr} (h : G q = none) (h2 : T q = none) : join G T q = none := by
  unfold join
  simp only [h]
  exact h2
theorem ex_join {G T H : Hp} (a : Ex G H) (b : Ex T H) : Ex (join G T) H := fun q o e => by
  unfold join at e
  cases z : G q with
  | none => simp only [z] at e; exact b q o e
  | some u => simp only [z] at e; cases e; exact a q _ z
theorem join_ex1 {G T H : Hp} (a : Ex (join G T) H) : Ex G H := fun q o e => a q o (by unfold join; simp only [e])
theorem join_ex2 {G T H : Hp} (g : Ex G H') (t : Ex T H') (a : Ex (join G T) H) : Ex T H := fun q o e => by
  cases z : G q with
  | none => exact a q o (by unfold join; simp only [z]; exact e)
  | some u =>
    have h1 := g q u z
    have h2 := t q o e
    rw [h1] at h2
    cases h2
    exact a q _ (by unfold join; simp only [z])
/-- T: temporary lists, nobody's data -/
structure Tmp (B : Hp) (env : En) (σ : L2.St) (H T : Hp) : Prop where
  ex : Ex T H
  nb : ∀ q, T q ≠ none → B q = none
  off : ∀ q, T q ≠ none → Off env σ q
def Ctx.plus (C : Ctx) (T : Hp) : Ctx := { C with G := join C.G T }
theorem SR.plus (s : SR C B env σ H) {T : Hp} (t : Tmp B env σ H T) : SR (C.plus T) B env σ H := by
  refine ⟨ex_join s.exG t.ex, s.exB, s.ex0, fun q hq => ?_, s.len, fun i u h => ?_, s.dis, s.fx⟩
  · rcases s.new q hq with z | z
    · exact .inl z
    · refine .inr (join_of z ?_)
      cases e : T q with
      | none => rfl
      | some o => exact absurd (t.nb q (by rw [e]; exact fun z => nomatch z)) hq
  · have w := s.sl i u h
    cases u with
    | un => trivial
    | sh d => exact w
    | ow xs =>
      obtain ⟨p, vs, e1, hb, hg, hp, ra⟩ := w
      refine ⟨p, vs, e1, hb, join_of hg ?_, hp, ra⟩
      cases e : T p with
      | none => rfl
      | some o => exact absurd e1 (t.off p (by rw [e]; exact fun z => nomatch z) i xs h)
theorem SR.minus {T H0 : Hp} (g : Ex C.G H0) (e : Ex T H0) (nb : ∀ q, T q ≠ none → B q = none) (ex : Ex B B') (s : SR (C.plus T) B' env σ H) (hb0 : Ex C.B0 B) : SR C B' env σ H ∧ Tmp B' env σ H T := by
  refine ⟨⟨join_ex1 s.exG, s.exB, s.ex0, fun q hq => ?_, s.len, fun i u h => ?_, s.dis, s.fx⟩, join_ex2 g e s.exG, fun q hq => ?_, fun q hq i ys h1 h2 => ?_⟩
  · rcases s.new q hq with z | z
    · exact .inl z
    · exact .inr (join_none z).1
  · have w := s.sl i u h
    cases u with
    | un => trivial
    | sh d => exact w
    | ow xs =>
      obtain ⟨p, vs, e1, hb, hg, hp, ra⟩ := w
      exact ⟨p, vs, e1, hb, (join_none hg).1, hp, ra⟩
  · cases z : B' q with
    | none => rfl
    | some o =>
      rcases s.new q (by rw [z]; exact fun q => nomatch q) with y | y
      · have b := nb q hq
        cases w : C.B0 q with
        | none => exact absurd w y
        | some u => rw [hb0 q u w] at b; cases b
      · exact absurd (join_none y).2 hq
  · obtain ⟨p, vs, e1, hb, hg, hp, ra⟩ := s.sl i _ h1
    rw [h2] at e1
    cases e1
    exact hq (join_none hg).2
theorem SE.temp (h : SE K te f) (hC : C.K = K) (s : SR C B env σ H) (e : f env = some (r, env')) {T : Hp} (t : Tmp B env σ H T) {Q : VK}
    (hq : ∀ v B' H', SR C B' env' σ H' → Ex B B' → RepR C B' env' σ H' v r → Tmp B' env' σ H' T → (∀ p, r = .fr [] ∨ True → v = .ref p → (∃ xs, r = .fr xs) → T p = none) → Q v H') : te σ H Q := by
  refine h (C.plus T) hC B env σ H r env' (s.plus t) e Q fun v B' H' s' x rr => ?_
  obtain ⟨s1, t1⟩ := SR.minus s.exG t.ex t.nb x s' s.ex0
  refine hq v B' H' s1 x ?_ t1 fun p _ ev ⟨xs, er⟩ => ?_
  · cases r with
    | val d => exact rr
    | al i => exact rr
    | fr xs =>
      obtain ⟨p, vs, rfl, bp, gp, hp, ra, off⟩ := rr
      exact ⟨p, vs, rfl, bp, (join_none gp).1, hp, ra, off⟩
  · subst er
    obtain ⟨p', vs, e2, bp, gp, _⟩ := rr
    rw [ev] at e2
    cases e2
    exact (join_none gp).2
theorem ST.temp {t : TT} {g : En → Option (Bool × En)} {b : Bool} (h : ST K t g) (hC : C.K = K) (s : SR C B env σ H) (e : g env = some (b, env')) {T : Hp} (tm : Tmp B env σ H T) {Q : Bool → Hp → Prop}
    (hq : ∀ B' H', SR C B' env' σ H' → Ex B B' → Tmp B' env' σ H' T → Q b H') : t σ H Q := by
  refine h (C.plus T) hC B env σ H b env' (s.plus tm) e Q fun B' H' s' x => ?_
  obtain ⟨s1, t1⟩ := SR.minus s.exG tm.ex tm.nb x s' s.ex0
  exact hq B' H' s1 x t1
/-- a result as a temporary -/
def tmpOf (v : V) (H : Hp) : R → Hp
  | .fr _ => fun q => if v = .ref q then H q else none
  | _ => fun _ => none
theorem RepR.tmp (rr : RepR C B env σ H v r) : Tmp B env σ H (tmpOf v H r) := by
  cases r with
  | val d => exact ⟨fun _ _ h => (nomatch h), fun _ h => absurd rfl h, fun _ h => absurd rfl h⟩
  | al i => exact ⟨fun _ _ h => (nomatch h), fun _ h => absurd rfl h, fun _ h => absurd rfl h⟩
  | fr xs =>
    obtain ⟨p, vs, rfl, bp, gp, hp, ra, off⟩ := rr
    refine ⟨fun q o h => ?_, fun q h => ?_, fun q h => ?_⟩
    · unfold tmpOf at h
      by_cases z : V.ref p = .ref q
      · simp only [z, if_true] at h; exact h
      · simp only [z, if_false] at h; cases h
    · unfold tmpOf at h
      by_cases z : V.ref p = .ref q
      · cases z; exact bp
      · simp only [z, if_false] at h; exact absurd rfl h
    · unfold tmpOf at h
      by_cases z : V.ref p = .ref q
      · cases z; exact off
      · simp only [z, if_false] at h; exact absurd rfl h
theorem RepR.keep {H1 : Hp} (rr : RepR C B env σ H v r) (x : Ex B B') (t : Tmp B' env' σ H1 (tmpOf v H r)) : RepR C B' env' σ H1 v r := by
  cases r with
  | val d => exact Rep.mono x rr
  | al i => exact rr
  | fr xs =>
    obtain ⟨p, vs, rfl, bp, gp, hp, ra, off⟩ := rr
    have hT : tmpOf (.ref p) H (.fr xs) p = some (.lst vs) := by unfold tmpOf; simp only [if_true]; exact hp
    have hn : tmpOf (.ref p) H (.fr xs) p ≠ none := by rw [hT]; exact fun z => nomatch z
    exact ⟨p, vs, rfl, t.nb p hn, gp, t.ex p _ hT, ra.mono x, t.off p hn⟩

/-! ### expressions -/
def eVar (i : Nat) : En → Option (R × En) := fun env => match env[i]? with
  | some (.sh d) => some (.val d, env)
  | some (.ow _) => some (.al i, env)
  | _ => none
theorem se_var {i : Nat} : SE K (tVar i) (eVar i) := by
  intro C hC B env σ H r env' s e Q hq
  unfold eVar at e
  cases q : env[i]? with
  | none => simp only [q] at e; cases e
  | some t =>
    have w := s.sl i t q
    simp only [q] at e
    cases t with
    | un => cases e
    | sh d =>
      cases e
      obtain ⟨v, e1, rv⟩ := w
      exact ⟨v, e1, hq v B H s (Ex.refl _) rv⟩
    | ow xs =>
      cases e
      obtain ⟨p, vs, e1, _⟩ := w
      exact ⟨.ref p, e1, hq _ B H s (Ex.refl _) e1⟩
def eC (d : D) : En → Option (R × En) := fun env => some (.val d, env)
theorem se_c {v : V} {d : D} (h : ∀ B, Rep K B v d) : SE K (tC v) (eC d) := by
  intro C hC B env σ H r env' s e Q hq
  cases e
  exact hq v B H s (Ex.refl _) (by rw [show RepR C B env σ H v (.val d) = Rep C.K B v d from rfl, hC]; exact h B)
theorem se_int {i : Int} : SE K (tC (.int i)) (eC (.int i)) := se_c fun _ => .int i
theorem se_str {i : Str} : SE K (tC (.str i)) (eC (.str i)) := se_c fun _ => .str i
theorem se_bl {b : Bool} : SE K (tC (.bl b)) (eC (.bl b)) := se_c fun _ => .bl b
theorem se_non : SE K (tC .non) (eC .non) := se_c fun _ => .non
theorem se_ref {a : Addr} : SE K (tC (.ref a)) (eC (.ref a)) := se_c fun _ => .ref a
theorem se_ty {a : String} : SE K (tC (.ty a)) (eC (.ty a)) := se_c fun _ => .ty a

/-- an operator on two values that are read: the answer a value of its own -/
def RO (K : PySem.W.Frag) (r2 : R2) (g : D → D → Option D) : Prop := ∀ (C : Ctx), C.K = K → ∀ (B : Hp) (env : En) (σ : L2.St) (H : Hp) (x y : V) (dx dy z : D), SR C B env σ H → RepK K B H x dx → RepK K B H y dy → g dx dy = some z → ∀ Q : VK, (∀ v B' H', SR C B' env σ H' → Ex B B' → Rep K B' v z → Q v H') → r2 x y H Q
/-- .. the answer a new list -/
def ROL (K : PySem.W.Frag) (r2 : R2) (g : D → D → Option (List D)) : Prop := ∀ (B H : Hp) (x y : V) (dx dy : D) (zs : List D), Ex B H → RepK K B H x dx → RepK K B H y dy → g dx dy = some zs → ∀ Q : VK, (∀ p vs, H p = none → RepAll K B vs zs → Q (.ref p) (upd H p (.lst vs))) → r2 x y H Q
/-- .. the answer a scalar, nothing made -/
def sc : D → Option V
  | .non => some .non
  | .bl b => some (.bl b)
  | .int i => some (.int i)
  | .str s => some (.str s)
  | .ref a => some (.ref a)
  | .ty n => some (.ty n)
  | _ => none
theorem sc_rep {v : V} {d : D} (h : sc d = some v) : Rep K B v d := by
  cases d <;> cases h <;> constructor
theorem rep_sc {v w : V} {d : D} (h : sc d = some v) (r : Rep K B w d) : w = v := by
  cases r <;> cases h <;> rfl
theorem repK_sc {v w : V} {d : D} (h : sc d = some v) (r : RepK K B H w d) : w = v := by
  rcases r with r | ⟨p, vs, xs, _, e, _⟩
  · exact rep_sc h r
  · subst e; cases h
def ROS (K : PySem.W.Frag) (r2 : R2) (g : D → D → Option D) : Prop := ∀ (B H : Hp) (x y : V) (dx dy z : D), Ex B H → RepK K B H x dx → RepK K B H y dy → g dx dy = some z → ∃ v, sc z = some v ∧ ∀ Q : VK, Q v H → r2 x y H Q
theorem ROS.ro {r2 : R2} {g : D → D → Option D} (h : ROS K r2 g) : RO K r2 g := by
  intro C hC B env σ H x y dx dy z s rx ry e Q hq
  obtain ⟨v, hz, k⟩ := h B H x y dx dy z s.exB rx ry e
  exact k Q (hq v B H s (Ex.refl _) (sc_rep hz))

/-- two operands, read at the end -/
theorem se_two (ha : SE K ta fa) (hb : SE K tb fb) (hC : C.K = K) (s : SR C B env σ H) {ra rb : R} {e1 e2 : En} (h1 : fa env = some (ra, e1)) (h2 : fb e1 = some (rb, e2)) {W : V → V → Hp → Prop}
    (hq : ∀ x y B' H', SR C B' e2 σ H' → Ex B B' → RepR C B' e2 σ H' x ra → RepR C B' e2 σ H' y rb → W x y H') : ta σ H fun x H1 => tb σ H1 fun y H2 => W x y H2 := by
  refine ha C hC B env σ H ra e1 s h1 _ fun x B1 H1 s1 x1 r1 => ?_
  refine hb.temp hC s1 h2 r1.tmp fun y B2 H2 s2 x2 r2 t2 _ => ?_
  exact hq x y B2 H2 s2 (x1.trans x2) (r1.keep x2 t2) r2

def eOp (g : D → D → Option D) (fa fb : En → Option (R × En)) : En → Option (R × En) := fun env =>
  (fa env).bind fun a => (fb a.2).bind fun b => (look b.2 a.1).bind fun x => (look b.2 b.1).bind fun y => (g x y).map fun z => (R.val z, b.2)
theorem se_op {r2 : R2} {g : D → D → Option D} (hr : RO K r2 g) (ha : SE K ta fa) (hb : SE K tb fb) : SE K (tOp r2 ta tb) (eOp g fa fb) := by
  intro C hC B env σ H r env' s e Q hq
  unfold eOp at e
  obtain ⟨⟨ra, e1⟩, h1, e⟩ := Option.bind_eq_some_iff.mp e
  obtain ⟨⟨rb, e2⟩, h2, e⟩ := Option.bind_eq_some_iff.mp e
  obtain ⟨dx, hx, e⟩ := Option.bind_eq_some_iff.mp e
  obtain ⟨dy, hy, e⟩ := Option.bind_eq_some_iff.mp e
  obtain ⟨z, hz, e⟩ := Option.map_eq_some_iff.mp e
  cases e
  refine se_two ha hb hC s h1 h2 fun x y B' H' s' x' r1 r2' => ?_
  have k1 := look_rep s' r1 hx
  have k2 := look_rep s' r2' hy
  rw [hC] at k1 k2
  refine hr C hC B' _ σ H' x y dx dy z s' k1 k2 hz Q fun v B2 H2 s2 x2 rv => hq v B2 H2 s2 (x'.trans x2) ?_
  rw [show RepR C B2 e2 σ H2 v (.val z) = Rep C.K B2 v z from rfl, hC]
  exact rv
def eOpL (g : D → D → Option (List D)) (fa fb : En → Option (R × En)) : En → Option (R × En) := fun env =>
  (fa env).bind fun a => (fb a.2).bind fun b => (look b.2 a.1).bind fun x => (look b.2 b.1).bind fun y => (g x y).map fun z => (R.fr z, b.2)
theorem se_opL {r2 : R2} {g : D → D → Option (List D)} (hr : ROL K r2 g) (ha : SE K ta fa) (hb : SE K tb fb) : SE K (tOp r2 ta tb) (eOpL g fa fb) := by
  intro C hC B env σ H r env' s e Q hq
  unfold eOpL at e
  obtain ⟨⟨ra, e1⟩, h1, e⟩ := Option.bind_eq_some_iff.mp e
  obtain ⟨⟨rb, e2⟩, h2, e⟩ := Option.bind_eq_some_iff.mp e
  obtain ⟨dx, hx, e⟩ := Option.bind_eq_some_iff.mp e
  obtain ⟨dy, hy, e⟩ := Option.bind_eq_some_iff.mp e
  obtain ⟨z, hz, e⟩ := Option.map_eq_some_iff.mp e
  cases e
  refine se_two ha hb hC s h1 h2 fun x y B' H' s' x' r1 r2' => ?_
  have k1 := look_rep s' r1 hx
  have k2 := look_rep s' r2' hy
  rw [hC] at k1 k2
  refine hr B' H' x y dx dy z s'.exB k1 k2 hz Q fun p vs hp ra => ?_
  refine hq (.ref p) B' _ (s'.temp hp) x' (s'.newL hp (by rw [hC]; exact ra))
/-- one operand -/
def eUn (g : D → Option D) (fa : En → Option (R × En)) : En → Option (R × En) := fun env =>
  (fa env).bind fun a => (look a.2 a.1).bind fun x => (g x).map fun z => (R.val z, a.2)
def RUS (K : PySem.W.Frag) (r1 : V → Hp → VK → Prop) (g : D → Option D) : Prop := ∀ (B H : Hp) (x : V) (dx z : D), Ex B H → RepK K B H x dx → g dx = some z → ∃ v, sc z = some v ∧ ∀ Q : VK, Q v H → r1 x H Q
theorem se_un {r1 : V → Hp → VK → Prop} {g : D → Option D} (hr : RUS K r1 g) (ha : SE K ta fa) : SE K (tUn r1 ta) (eUn g fa) := by
  intro C hC B env σ H r env' s e Q hq
  unfold eUn at e
  obtain ⟨⟨ra, e1⟩, h1, e⟩ := Option.bind_eq_some_iff.mp e
  obtain ⟨dx, hx, e⟩ := Option.bind_eq_some_iff.mp e
  obtain ⟨z, hz, e⟩ := Option.map_eq_some_iff.mp e
  cases e
  refine ha C hC B env σ H ra e1 s h1 _ fun x B1 H1 s1 x1 rr => ?_
  have k1 := look_rep s1 rr hx
  rw [hC] at k1
  obtain ⟨v, hv, k⟩ := hr B1 H1 x dx z s1.exB k1 hz
  exact k Q (hq v B1 H1 s1 x1 (sc_rep hv))
end
end Vm

set_option Elab.async false
set_option linter.all false
set_option maxRecDepth 100000
namespace Vm
open PySem PySem.Spec PyProof.Rows L2 Evl
section
variable {K : PySem.W.Frag} {C : Ctx} {B B' G H H' : Hp} {env env' : En} {σ : L2.St} {v : V} {r : R} {d : D} {ta tb te : TE} {fa fb fe : En → Option (R × En)} {f : En → Option (R × En)} {X : Cx}

/-! ### operators on ints -/
def dI (c : Int → Int → Bool) (g : Int → Int → D) : D → D → Option D
  | .int i, .int j => if c i j then some (g i j) else none
  | _, _ => none
theorem dI_some {c : Int → Int → Bool} {g : Int → Int → D} {x y z : D} (h : dI c g x y = some z) : ∃ i j, x = .int i ∧ y = .int j ∧ c i j = true ∧ z = g i j := by
  unfold dI at h
  split at h
  · split at h
    · cases h
      exact ⟨_, _, rfl, rfl, by assumption, rfl⟩
    · cases h
  · cases h
theorem ros_I {Cd : Int → Int → Prop} {gv : Int → Int → V} {c : Int → Int → Bool} {g : Int → Int → D} (hc : ∀ i j, c i j = true → Cd i j) (hs : ∀ i j, sc (g i j) = some (gv i j)) : ROS K (rI Cd gv) (dI c g) := by
  intro B H x y dx dy z e rx ry h
  obtain ⟨i, j, rfl, rfl, hcc, rfl⟩ := dI_some h
  exact ⟨_, hs i j, fun Q q => ⟨i, j, rx.int, ry.int, hc i j hcc, q⟩⟩
theorem ros_I0 {gv : Int → Int → V} {g : Int → Int → D} (hs : ∀ i j, sc (g i j) = some (gv i j)) : ROS K (rI0 gv) (dI (fun _ _ => true) g) := by
  intro B H x y dx dy z e rx ry h
  obtain ⟨i, j, rfl, rfl, hcc, rfl⟩ := dI_some h
  exact ⟨_, hs i j, fun Q q => ⟨i, j, rx.int, ry.int, q⟩⟩
def yes2 : Int → Int → Bool := fun _ _ => true
def dAdd : D → D → Option D := dI yes2 fun i j => .int (i + j)
def dSub : D → D → Option D := dI yes2 fun i j => .int (i - j)
instance (i j : Int) : Decidable (CMul i j) := by unfold CMul; infer_instance
instance (i j : Int) : Decidable (CMulX i j) := by unfold CMulX; infer_instance
def CMulA (i j : Int) : Prop := CMul i j ∨ CMulX i j
instance (i j : Int) : Decidable (CMulA i j) := by unfold CMulA; infer_instance
def dMul : D → D → Option D := dI (fun i j => decide (CMulA i j)) fun i j => .int (i * j)
instance (i j : Int) : Decidable (CDivN i j) := by unfold CDivN; infer_instance
instance (i j : Int) : Decidable (CDivW i j) := by unfold CDivW; infer_instance
def CDivA (i j : Int) : Prop := CDivN i j ∨ CDivW i j
instance (i j : Int) : Decidable (CDivA i j) := by unfold CDivA; infer_instance
def dFdiv : D → D → Option D := dI (fun i j => decide (CDivA i j)) fun i j => .int (i.fdiv j)
def dMod : D → D → Option D := dI (fun _ j => decide (j ≠ 0)) fun i j => .int (i.fmod j)
def CPowA (i j : Int) : Prop := 0 ≤ j ∧ (Builtin.Int.intBits i : Int) * j ≤ 2 ^ 27
instance (i j : Int) : Decidable (CPowA i j) := by unfold CPowA; infer_instance
def dPow : D → D → Option D := dI (fun i j => decide (CPowA i j)) fun i j => .int (i ^ j.toNat)
def dLt : D → D → Option D := dI yes2 fun i j => .bl (decide (i < j))
def dLe : D → D → Option D := dI yes2 fun i j => .bl (decide (i ≤ j))
def dGt : D → D → Option D := dI yes2 fun i j => .bl (decide (j < i))
def dGe : D → D → Option D := dI yes2 fun i j => .bl (decide (j ≤ i))
theorem op_mulA : OpR X (binaryOp .Mult) (rI CMulA fun i j => .int (i * j)) := opI fun _ _ _ _ _ _ _ hc q => mul_int q (by
  rcases hc with h | h
  · exact CMul.ok h
  · exact CMulX.ok h)
theorem op_powA : OpR X (binaryOp .Pow) (rI CPowA fun i j => .int (i ^ j.toNat)) := opI fun _ _ _ _ _ _ _ hc q => PyProof.Rows.pow_int hc.1 hc.2 q
theorem ro_add : RO K (rI0 fun i j => .int (i + j)) dAdd := (ros_I0 fun _ _ => rfl).ro
theorem ro_sub : RO K (rI0 fun i j => .int (i - j)) dSub := (ros_I0 fun _ _ => rfl).ro
theorem ro_mul : RO K (rI CMulA fun i j => .int (i * j)) dMul := (ros_I (fun _ _ h => of_decide_eq_true h) fun _ _ => rfl).ro
theorem op_fdivA : OpR X (binaryOp .FloorDiv) (rI CDivA fun i j => .int (i.fdiv j)) := opI fun i j _ _ _ _ _ hd q => by
  rcases hd with hd | hd
  · exact floordiv_int hd.1 q (.inl (PyProof.noPylong_small hd.2))
  · have pos : (0 : Int) < j := hd.1
    exact floordiv_int (fun z => by rw [z] at pos; cases pos) q (.inl (PyProof.noPylong_of_log2 hd.2))
theorem ro_fdiv : RO K (rI CDivA fun i j => .int (i.fdiv j)) dFdiv := (ros_I (fun _ _ h => of_decide_eq_true h) fun _ _ => rfl).ro
theorem ro_mod : RO K (rI (fun _ j => j ≠ 0) fun i j => .int (i.fmod j)) dMod := (ros_I (fun _ _ h => of_decide_eq_true h) fun _ _ => rfl).ro
theorem ro_pow : RO K (rI CPowA fun i j => .int (i ^ j.toNat)) dPow := (ros_I (fun _ _ h => of_decide_eq_true h) fun _ _ => rfl).ro
theorem ro_lt : RO K (rI0 fun i j => .bl (decide (i < j))) dLt := (ros_I0 fun _ _ => rfl).ro
theorem ro_le : RO K (rI0 fun i j => .bl (decide (i ≤ j))) dLe := (ros_I0 fun _ _ => rfl).ro
theorem ro_gt : RO K (rI0 fun i j => .bl (decide (j < i))) dGt := (ros_I0 fun _ _ => rfl).ro
theorem ro_ge : RO K (rI0 fun i j => .bl (decide (j ≤ i))) dGe := (ros_I0 fun _ _ => rfl).ro

/-! ### lists and texts by + and * -/
def dCat : D → D → Option (List D)
  | .lst xs, .lst ys => if xs.length + ys.length ≤ sizeLine then some (xs ++ ys) else none
  | _, _ => none
theorem rol_cat : ROL K rCat dCat := by
  intro B H x y dx dy zs e rx ry h Q q
  unfold dCat at h
  split at h
  · split at h
    · cases h
      obtain ⟨a, vs, rfl, h1, h2⟩ := rx.list e
      obtain ⟨b, ws, rfl, h3, h4⟩ := ry.list e
      refine ⟨a, b, vs, ws, rfl, rfl, h1, h3, ?_, fun p hp => q p _ hp (h2.append h4)⟩
      rw [h2.length, h4.length]
      assumption
    · cases h
  · cases h
def dRep : D → D → Option (List D)
  | .lst xs, .int k => if k < 2 ^ 63 ∧ -(2 ^ 63) ≤ k ∧ xs.length * k.toNat ≤ sizeLine then some (List.replicate k.toNat xs).flatten else none
  | _, _ => none
theorem repAll_flat {vs : List V} {xs : List D} (h : RepAll K B vs xs) : ∀ n : Nat, RepAll K B (List.replicate n vs).flatten (List.replicate n xs).flatten
  | 0 => .nil
  | n + 1 => by
    rw [List.replicate_succ, List.replicate_succ, List.flatten_cons, List.flatten_cons]
    exact h.append (repAll_flat h n)
theorem rol_rep : ROL K rRep dRep := by
  intro B H x y dx dy zs e rx ry h Q q
  unfold dRep at h
  split at h
  · split at h
    · cases h
      obtain ⟨a, vs, rfl, h1, h2⟩ := rx.list e
      rename_i k hk
      obtain ⟨k1, k2, k3⟩ := hk
      exact ⟨a, k, vs, rfl, ry.int, h1, k2, k1, by rw [h2.length]; exact k3, fun p hp => q p _ hp (repAll_flat h2 _)⟩
    · cases h
  · cases h
def rAddS : R2 := fun x y H Q => ∃ i j, x = .str i ∧ y = .str j ∧ i.length + j.length ≤ sizeLine ∧ Q (.str (i ++ j)) H
def dAddS : D → D → Option D
  | .str i, .str j => if i.length + j.length ≤ sizeLine then some (.str (i ++ j)) else none
  | _, _ => none
theorem ro_addS : RO K rAddS dAddS := ROS.ro (by
  intro B H x y dx dy z e rx ry h
  unfold dAddS at h
  split at h
  · split at h
    · cases h
      exact ⟨_, rfl, fun Q q => ⟨_, _, rx.str, ry.str, by assumption, q⟩⟩
    · cases h
  · cases h)

/-! ### subscripts -/
def ixD {α : Type} (xs : List α) (i : Int) : Option α := atI xs i
theorem repAll_at {vs : List V} {xs : List D} {i : Int} {d : D} (h : RepAll K B vs xs) (e : atI xs i = some d) : ∃ v, atI vs i = some v ∧ Rep K B v d := by
  unfold atI at e ⊢
  rw [h.length]
  cases q : ixN xs.length i with
  | none => rw [q] at e; cases e
  | some j =>
    rw [q] at e
    exact h.get e
def dIx : D → D → Option D
  | .lst xs, .int i => atI xs i
  | .tup xs, .int i => atI xs i
  | .scr ns, .int i => (atI ns i).map D.int
  | .str z, .int i => if z.length ≤ sizeLine then (atI z.cps.toList i).map fun c => .str ⟨#[c]⟩ else none
  | _, _ => none
theorem atI_map {α β : Type} (g : α → β) (xs : List α) (i : Int) : atI (xs.map g) i = (atI xs i).map g := by
  unfold atI
  rw [List.length_map]
  cases ixN xs.length i with
  | none => rfl
  | some j =>
    show (xs.map g)[j]? = (xs[j]?).map g
    rw [List.getElem?_map]
theorem Rep.script {v : V} {ns : List Int} (h : Rep K B v (.scr ns)) : ∃ a, v = .ref a ∧ SqL K B a (ns.map V.int) := by
  cases h with
  | scr h => exact ⟨_, rfl, h⟩
theorem ro_ix : RO K (rIx K) dIx := by
  intro C hC B env σ H x y dx dy z s rx ry h Q hq
  subst hC
  unfold dIx at h
  split at h
  · obtain ⟨a, vs, rfl, h1, h2⟩ := rx.list s.exB
    obtain ⟨w, e1, r1⟩ := repAll_at h2 h
    exact .inl ⟨a, vs, _, w, rfl, ry.int, sq_of h1, e1, hq w B H s (Ex.refl _) r1⟩
  · obtain ⟨a, vs, rfl, h1, h2⟩ := (rx.scal fun _ z => by cases z).tuple
    obtain ⟨w, e1, r1⟩ := repAll_at h2 h
    exact .inr (.inl ⟨a, vs, _, w, rfl, ry.int, ex_t s.exB h1, e1, hq w B H s (Ex.refl _) r1⟩)
  · obtain ⟨a, rfl, h1⟩ := (rx.scal fun _ z => by cases z).script
    obtain ⟨n, e1, rfl⟩ := Option.map_eq_some_iff.mp h
    exact .inl ⟨a, _, _, .int n, rfl, ry.int, ex_l s.exB h1, by rw [atI_map, e1]; rfl, hq _ B H s (Ex.refl _) (.int n)⟩
  · split at h
    · obtain ⟨n, e1, rfl⟩ := Option.map_eq_some_iff.mp h
      exact .inr (.inr ⟨_, _, n, rx.str, ry.int, by assumption, e1, hq _ B H s (Ex.refl _) (.str _)⟩)
    · cases h
  · cases h

/-! ### is None, in, == -/
def dIsN : D → D → Option D
  | .non, .non => some (.bl true)
  | _, .non => some (.bl false)
  | _, _ => none
theorem rep_non {v : V} {d : D} (h : RepK K B H v d) : decide (v = .non) = match d with | .non => true | _ => false := by
  rcases h with h | ⟨p, vs, xs, rfl, rfl, _⟩
  · cases h <;> rfl
  · rfl
def rIsNone : R2 := fun x y H Q => y = .non ∧ Q (.bl (decide (x = .non))) H
def rNotNone : R2 := fun x y H Q => y = .non ∧ Q (.bl (!decide (x = .non))) H
theorem ros_isN : ROS K rIsNone dIsN := by
  intro B H x y dx dy z e rx ry h
  unfold dIsN at h
  have q := rep_non rx
  split at h
  · cases h
    exact ⟨_, rfl, fun Q k => ⟨ry.non, by rw [q]; exact k⟩⟩
  · cases h
    rename_i hne
    refine ⟨_, rfl, fun Q k => ⟨ry.non, ?_⟩⟩
    have : decide (x = V.non) = false := by
      rw [q]
      cases dx with
      | non => exact absurd rfl (fun z => hne z)
      | _ => rfl
    rw [this]
    exact k
  · cases h
def dNotN : D → D → Option D
  | .non, .non => some (.bl false)
  | _, .non => some (.bl true)
  | _, _ => none
theorem ros_notN : ROS K rNotNone dNotN := by
  intro B H x y dx dy z e rx ry h
  unfold dNotN at h
  have q := rep_non rx
  split at h
  · cases h
    exact ⟨_, rfl, fun Q k => ⟨ry.non, by rw [q]; exact k⟩⟩
  · cases h
    rename_i hne
    refine ⟨_, rfl, fun Q k => ⟨ry.non, ?_⟩⟩
    have : decide (x = V.non) = false := by
      rw [q]
      cases dx with
      | non => exact absurd rfl (fun z => hne z)
      | _ => rfl
    rw [this]
    exact k
  · cases h
theorem ro_isN : RO K rIsNone dIsN := ros_isN.ro
theorem ro_notN : RO K rNotNone dNotN := ros_notN.ro

def flatD : D → Bool
  | .non => true | .bl _ => true | .int _ => true | .str _ => true
  | _ => false
/-- == of flat values -/
def eqF : D → D → Bool
  | .non, .non => true
  | .bl a, .bl b => a == b
  | .bl a, .int b => (if a then 1 else 0) == b
  | .int a, .bl b => a == (if b then 1 else 0)
  | .int a, .int b => a == b
  | .str a, .str b => a == b
  | _, _ => false
theorem flat_rep {v : V} {d : D} (h : Rep K B v d) (f : flatD d = true) : flatV v = true := by
  cases h <;> first | rfl | cases f
theorem eqF_rep {v w : V} {d e : D} (h : Rep K B v d) (g : Rep K B' w e) (f : flatD d = true) (f' : flatD e = true) : eqV v w = eqF d e := by
  cases h <;> first | (cases f; done) | (cases g <;> first | rfl | (cases f'; done))
theorem flat_all : ∀ {vs : List V} {xs : List D}, RepAll K B vs xs → xs.all flatD = true → vs.all flatV = true
  | _, _, .nil, _ => rfl
  | _, _, .cons a t, h => by
    rw [List.all_cons, Bool.and_eq_true] at h ⊢
    exact ⟨flat_rep a h.1, flat_all t h.2⟩
theorem any_rep {v : V} {d : D} (r : Rep K B v d) (fd : flatD d = true) : ∀ {vs : List V} {xs : List D}, RepAll K B vs xs → xs.all flatD = true → inV v vs = xs.any fun y => eqF y d
  | _, _, .nil, _ => rfl
  | _, _, .cons a t, h => by
    rw [List.all_cons, Bool.and_eq_true] at h
    have e2 := any_rep r fd t h.2
    have e1 := eqF_rep a r h.1 fd
    unfold inV at e2 ⊢
    rw [List.any_cons, List.any_cons, e1, e2]
def dIn (neg : Bool) : D → D → Option D
  | d, .lst xs => if flatD d && xs.all flatD then some (.bl (if neg then !xs.any (fun y => eqF y d) else xs.any fun y => eqF y d)) else none
  | d, .tup xs => if flatD d && xs.all flatD then some (.bl (if neg then !xs.any (fun y => eqF y d) else xs.any fun y => eqF y d)) else none
  | _, _ => none
theorem flat_scal {d : D} (h : flatD d = true) : ∀ xs, d ≠ .lst xs := fun xs z => by subst z; cases h
theorem ros_in (neg : Bool) : ROS K (rIn K neg) (dIn neg) := by
  intro B H x y dx dy z e rx ry h
  unfold dIn at h
  split at h
  · split at h
    · cases h
      rename_i hf
      rw [Bool.and_eq_true] at hf
      obtain ⟨a, vs, rfl, h1, h2⟩ := ry.list e
      have r := rx.scal (flat_scal hf.1)
      refine ⟨_, rfl, fun Q k => ⟨a, vs, rfl, .inl (sq_of h1), flat_rep r hf.1, flat_all h2 hf.2, ?_⟩⟩
      rw [any_rep r hf.1 h2 hf.2]
      exact k
    · cases h
  · split at h
    · cases h
      rename_i hf
      rw [Bool.and_eq_true] at hf
      obtain ⟨a, vs, rfl, h1, h2⟩ := (ry.scal fun _ z => by cases z).tuple
      have r := rx.scal (flat_scal hf.1)
      refine ⟨_, rfl, fun Q k => ⟨a, vs, rfl, .inr (ex_t e h1), flat_rep r hf.1, flat_all h2 hf.2, ?_⟩⟩
      rw [any_rep r hf.1 h2 hf.2]
      exact k
    · cases h
  · cases h
theorem ro_in {neg : Bool} : RO K (rIn K neg) (dIn neg) := (ros_in neg).ro

/-! ### data -/
mutual
def toPy : D → Option PyData
  | .non => some .none
  | .bl b => some (.bool b)
  | .int i => some (.int i)
  | .str s => some (.str s)
  | .lst xs => (toPyAll xs).map .list
  | .tup xs => (toPyAll xs).map .tuple
  | .scr ns => some (.list (ns.map .int))
  | _ => none
def toPyAll : List D → Option (List PyData)
  | [] => some []
  | x :: xs => (toPy x).bind fun y => (toPyAll xs).map fun ys => y :: ys
end
theorem dpAll_ints : ∀ ns : List Int, DpAll K H (ns.map V.int) (ns.map PyData.int)
  | [] => .nil
  | n :: ns => .cons (.int n) (dpAll_ints ns)
mutual
theorem Rep.dp {v : V} {d : D} {p : PyData} (h : Rep K H v d) (e : toPy d = some p) : Dp K H v p := by
  cases h with
  | non => unfold toPy at e; cases e; exact .non
  | bl b => unfold toPy at e; cases e; exact .bl b
  | int i => unfold toPy at e; cases e; exact .int i
  | str x => unfold toPy at e; cases e; exact .str x
  | ref a => unfold toPy at e; cases e
  | ty n => unfold toPy at e; cases e
  | fn n => unfold toPy at e; cases e
  | lst h1 h2 =>
    unfold toPy at e
    obtain ⟨ps, e1, rfl⟩ := Option.map_eq_some_iff.mp e
    exact .lst (sq_of h1) (RepAll.dp h2 e1)
  | tup h1 h2 =>
    unfold toPy at e
    obtain ⟨ps, e1, rfl⟩ := Option.map_eq_some_iff.mp e
    exact .tup h1 (RepAll.dp h2 e1)
  | dct h1 h2 => unfold toPy at e; cases e
  | scr h1 =>
    unfold toPy at e
    cases e
    exact .lst h1 (dpAll_ints _)
theorem RepAll.dp {vs : List V} {xs : List D} {ps : List PyData} (h : RepAll K H vs xs) (e : toPyAll xs = some ps) : DpAll K H vs ps := by
  cases h with
  | nil => unfold toPyAll at e; cases e; exact .nil
  | cons h1 h2 =>
    unfold toPyAll at e
    obtain ⟨p, e1, e⟩ := Option.bind_eq_some_iff.mp e
    obtain ⟨qs, e2, rfl⟩ := Option.map_eq_some_iff.mp e
    exact .cons (Rep.dp h1 e1) (RepAll.dp h2 e2)
end
def eqD (x y : D) : Option Bool := (toPy x).bind fun a => (toPy y).bind fun b => if SeqAt.shaped a && SeqAt.shaped b then some (PyData.eqv a b) else none
def dEq (x y : D) : Option D := (eqD x y).map fun b => .bl b
def dNe (x y : D) : Option D := (eqD x y).map fun b => .bl (!b)
theorem eqD_some {x y : D} {b : Bool} (h : eqD x y = some b) : ∃ p q, toPy x = some p ∧ toPy y = some q ∧ SeqAt.shaped p = true ∧ SeqAt.shaped q = true ∧ b = PyData.eqv p q := by
  unfold eqD at h
  obtain ⟨p, e1, h1⟩ := Option.bind_eq_some_iff.mp h
  obtain ⟨q, e2, h2⟩ := Option.bind_eq_some_iff.mp h1
  split at h2
  · rename_i hf
    cases h2
    rw [Bool.and_eq_true] at hf
    exact ⟨p, q, e1, e2, hf.1, hf.2, rfl⟩
  · cases h2
theorem ro_eq : RO K (rEqD K) dEq := ROS.ro (by
  intro B H x y dx dy z e rx ry h
  obtain ⟨b, h', rfl⟩ := Option.map_eq_some_iff.mp h
  obtain ⟨p, q, e1, e2, s1, s2, rfl⟩ := eqD_some h'
  exact ⟨_, rfl, fun Q k => ⟨p, q, (rx.rep e).dp e1, (ry.rep e).dp e2, s1, s2, k⟩⟩)
theorem ro_ne : RO K (rNeD K) dNe := ROS.ro (by
  intro B H x y dx dy z e rx ry h
  obtain ⟨b, h', rfl⟩ := Option.map_eq_some_iff.mp h
  obtain ⟨p, q, e1, e2, s1, s2, rfl⟩ := eqD_some h'
  exact ⟨_, rfl, fun Q k => ⟨p, q, (rx.rep e).dp e1, (ry.rep e).dp e2, s1, s2, k⟩⟩)

/-! ### tests -/
def bTest (f : En → Option (R × En)) : En → Option (Bool × En) := fun env => (f env).bind fun a => match a.1 with
  | .val (.bl b) => some (b, a.2)
  | _ => none
theorem bTest_some {e1 : En} {b : Bool} (h : bTest f env = some (b, e1)) : f env = some (.val (.bl b), e1) := by
  unfold bTest at h
  obtain ⟨⟨a, e2⟩, h1, h⟩ := Option.bind_eq_some_iff.mp h
  split at h
  · cases h
    rename_i q
    simp only at q
    rw [h1, q]
  · cases h
theorem rep_bl {v : V} {b : Bool} (h : Rep K B v (.bl b)) : v = .bl b := by
  cases h
  rfl
theorem st_test (h : SE K te f) : ST K (tTest te) (bTest f) := by
  intro C hC B env σ H b env' s e Q hq
  refine h C hC B env σ H _ env' s (bTest_some e) _ fun v B' H' s' x rr => ?_
  exact ⟨b, rep_bl rr, hq B' H' s' x⟩
theorem st_B (h : SE K te f) : ST K (tB te) (bTest f) := by
  intro C hC B env σ H b env' s e Q hq
  refine h C hC B env σ H _ env' s (bTest_some e) _ fun v B' H' s' x rr => ?_
  exact ⟨b, rep_bl rr, hq B' H' s' x⟩
variable {tt tu : TT} {g k : En → Option (Bool × En)}
def bAnd (g k : En → Option (Bool × En)) : En → Option (Bool × En) := fun env => (g env).bind fun a => if a.1 then k a.2 else some (false, a.2)
def bOr (g k : En → Option (Bool × En)) : En → Option (Bool × En) := fun env => (g env).bind fun a => if a.1 then some (true, a.2) else k a.2
def bNot (g : En → Option (Bool × En)) : En → Option (Bool × En) := fun env => (g env).map fun a => (!a.1, a.2)
theorem st_and (h1 : ST K tt g) (h2 : ST K tu k) : ST K (tAnd tt tu) (bAnd g k) := by
  intro C hC B env σ H b env' s e Q hq
  obtain ⟨⟨c, e1⟩, h, e⟩ := Option.bind_eq_some_iff.mp e
  refine h1 C hC B env σ H c e1 s h _ fun B' H' s' x => ?_
  cases c with
  | true =>
    show tu σ H' Q
    exact h2 C hC B' e1 σ H' b env' s' e Q fun B2 H2 s2 x2 => hq B2 H2 s2 (x.trans x2)
  | false =>
    cases e
    exact hq B' H' s' x
theorem st_or (h1 : ST K tt g) (h2 : ST K tu k) : ST K (tOr tt tu) (bOr g k) := by
  intro C hC B env σ H b env' s e Q hq
  obtain ⟨⟨c, e1⟩, h, e⟩ := Option.bind_eq_some_iff.mp e
  refine h1 C hC B env σ H c e1 s h _ fun B' H' s' x => ?_
  cases c with
  | false =>
    show tu σ H' Q
    exact h2 C hC B' e1 σ H' b env' s' e Q fun B2 H2 s2 x2 => hq B2 H2 s2 (x.trans x2)
  | true =>
    cases e
    exact hq B' H' s' x
theorem st_not (h1 : ST K tt g) : ST K (tNot tt) (bNot g) := by
  intro C hC B env σ H b env' s e Q hq
  obtain ⟨⟨c, e1⟩, h, e⟩ := Option.map_eq_some_iff.mp e
  cases e
  exact h1 C hC B env σ H c e1 s h _ fun B' H' s' x => hq B' H' s' x
/-- the same as values -/
def eAnd (fa fb : En → Option (R × En)) : En → Option (R × En) := fun env => (bTest fa env).bind fun a => if a.1 then fb a.2 else some (.val (.bl false), a.2)
def eOr (fa fb : En → Option (R × En)) : En → Option (R × En) := fun env => (bTest fa env).bind fun a => if a.1 then some (.val (.bl true), a.2) else fb a.2
def eNot (fa : En → Option (R × En)) : En → Option (R × En) := fun env => (bTest fa env).map fun a => (.val (.bl (!a.1)), a.2)
theorem se_and (h1 : SE K ta fa) (h2 : SE K tb fb) : SE K (tAndV ta tb) (eAnd fa fb) := by
  intro C hC B env σ H r env' s e Q hq
  obtain ⟨⟨c, e1⟩, h, e⟩ := Option.bind_eq_some_iff.mp e
  refine h1 C hC B env σ H _ e1 s (bTest_some h) _ fun v B' H' s' x rr => ⟨c, rep_bl rr, ?_⟩
  cases c with
  | true =>
    show tb σ H' Q
    exact h2 C hC B' e1 σ H' r env' s' e Q fun v2 B2 H2 s2 x2 r2 => hq v2 B2 H2 s2 (x.trans x2) r2
  | false =>
    cases e
    exact hq _ B' H' s' x (.bl false)
theorem se_or (h1 : SE K ta fa) (h2 : SE K tb fb) : SE K (tOrV ta tb) (eOr fa fb) := by
  intro C hC B env σ H r env' s e Q hq
  obtain ⟨⟨c, e1⟩, h, e⟩ := Option.bind_eq_some_iff.mp e
  refine h1 C hC B env σ H _ e1 s (bTest_some h) _ fun v B' H' s' x rr => ⟨c, rep_bl rr, ?_⟩
  cases c with
  | false =>
    show tb σ H' Q
    exact h2 C hC B' e1 σ H' r env' s' e Q fun v2 B2 H2 s2 x2 r2 => hq v2 B2 H2 s2 (x.trans x2) r2
  | true =>
    cases e
    exact hq _ B' H' s' x (.bl true)
theorem se_not (h1 : SE K ta fa) : SE K (tNotV ta) (eNot fa) := by
  intro C hC B env σ H r env' s e Q hq
  obtain ⟨⟨c, e1⟩, h, e⟩ := Option.map_eq_some_iff.mp e
  cases e
  exact h1 C hC B env σ H _ e1 s (bTest_some h) _ fun v B' H' s' x rr => ⟨c, rep_bl rr, hq _ B' H' s' x (.bl _)⟩
def eIf (g : En → Option (Bool × En)) (fa fb : En → Option (R × En)) : En → Option (R × En) := fun env => (g env).bind fun a => if a.1 then fa a.2 else fb a.2
theorem se_if (h : ST K tt g) (h1 : SE K ta fa) (h2 : SE K tb fb) : SE K (tIf tt ta tb) (eIf g fa fb) := by
  intro C hC B env σ H r env' s e Q hq
  obtain ⟨⟨c, e1⟩, hg, e⟩ := Option.bind_eq_some_iff.mp e
  refine h C hC B env σ H c e1 s hg _ fun B' H' s' x => ?_
  cases c with
  | true =>
    show ta σ H' Q
    exact h1 C hC B' e1 σ H' r env' s' e Q fun v2 B2 H2 s2 x2 r2 => hq v2 B2 H2 s2 (x.trans x2) r2
  | false =>
    show tb σ H' Q
    exact h2 C hC B' e1 σ H' r env' s' e Q fun v2 B2 H2 s2 x2 r2 => hq v2 B2 H2 s2 (x.trans x2) r2
end
end Vm

set_option Elab.async false
set_option linter.all false
set_option maxRecDepth 100000
namespace Vm
open PySem PySem.Spec PyProof.Rows L2 Evl
section
variable {K : PySem.W.Frag} {C : Ctx} {B B' G H H' : Hp} {env env' : En} {σ : L2.St} {v : V} {r : R} {d : D} {ta tb te : TE} {fa fb fe : En → Option (R × En)} {f : En → Option (R × En)} {X : Cx}

/-! ### argument lists -/
def RepRs (C : Ctx) (B : Hp) (env : En) (σ : L2.St) (H : Hp) : List V → List R → Prop
  | [], [] => True
  | v :: vs, r :: rs => RepR C B env σ H v r ∧ RepRs C B env σ H vs rs
  | _, _ => False
def SA (K : PySem.W.Frag) (t : TA) (f : En → Option (List R × En)) : Prop :=
  ∀ C : Ctx, C.K = K → ∀ (B : Hp) (env : En) (σ : L2.St) (H : Hp) (r : List R) (env' : En), SR C B env σ H → f env = some (r, env') →
    ∀ Q : List V → Hp → Prop, (∀ v B' H', SR C B' env' σ H' → Ex B B' → RepRs C B' env' σ H' v r → Q v H') → t σ H Q
theorem RepRs.minus {T : Hp} : ∀ {vs : List V} {rs : List R}, RepRs (C.plus T) B env σ H vs rs → RepRs C B env σ H vs rs
  | [], [], h => h
  | v :: vs, r :: rs, ⟨h1, h2⟩ => ⟨by
      cases r with
      | val d => exact h1
      | al i => exact h1
      | fr xs =>
        obtain ⟨p, vs, rfl, bp, gp, hp, ra, off⟩ := h1
        exact ⟨p, vs, rfl, bp, (join_none gp).1, hp, ra, off⟩, RepRs.minus h2⟩
  | [], _ :: _, h => h.elim
  | _ :: _, [], h => h.elim
theorem SA.temp {ta : TA} {f : En → Option (List R × En)} {rs : List R} (h : SA K ta f) (hC : C.K = K) (s : SR C B env σ H) (e : f env = some (rs, env')) {T : Hp} (t : Tmp B env σ H T) {Q : List V → Hp → Prop}
    (hq : ∀ v B' H', SR C B' env' σ H' → Ex B B' → RepRs C B' env' σ H' v rs → Tmp B' env' σ H' T → Q v H') : ta σ H Q := by
  refine h (C.plus T) hC B env σ H rs env' (s.plus t) e Q fun v B' H' s' x rr => ?_
  obtain ⟨s1, t1⟩ := SR.minus s.exG t.ex t.nb x s' s.ex0
  exact hq v B' H' s1 x rr.minus t1
def aNil : En → Option (List R × En) := fun env => some ([], env)
def aCons (fa : En → Option (R × En)) (fr : En → Option (List R × En)) : En → Option (List R × En) := fun env => (fa env).bind fun a => (fr a.2).map fun b => (a.1 :: b.1, b.2)
theorem sa_nil : SA K tNil aNil := by
  intro C hC B env σ H r env' s e Q hq
  cases e
  exact hq [] B H s (Ex.refl _) trivial
theorem sa_cons {tr : TA} {fr : En → Option (List R × En)} (ha : SE K ta fa) (hr : SA K tr fr) : SA K (tCons ta tr) (aCons fa fr) := by
  intro C hC B env σ H r env' s e Q hq
  obtain ⟨⟨ra, e1⟩, h1, e⟩ := Option.bind_eq_some_iff.mp e
  obtain ⟨⟨rs, e2⟩, h2, e⟩ := Option.map_eq_some_iff.mp e
  cases e
  refine ha C hC B env σ H ra e1 s h1 _ fun x B1 H1 s1 x1 r1 => ?_
  refine hr.temp hC s1 h2 r1.tmp fun ys B2 H2 s2 x2 r2 t2 => ?_
  exact hq (x :: ys) B2 H2 s2 (x1.trans x2) ⟨r1.keep x2 t2, r2⟩

/-- what may still be made data -/
def RepW (C : Ctx) (B : Hp) (env : En) (σ : L2.St) (H : Hp) (v : V) : R → Prop
  | .val d => Rep C.K B v d
  | .al i => σ[i]? = some (some v)
  | .fr xs => ∃ p vs, v = .ref p ∧ H p = some (.lst vs) ∧ RepAll C.K B vs xs ∧ (B p = some (.lst vs) ∨ (B p = none ∧ C.G p = none ∧ Off env σ p))
theorem RepR.w (h : RepR C B env σ H v r) : RepW C B env σ H v r := by
  cases r with
  | val d => exact h
  | al i => exact h
  | fr xs =>
    obtain ⟨p, vs, rfl, bp, gp, hp, ra, off⟩ := h
    exact ⟨p, vs, rfl, hp, ra, .inr ⟨bp, gp, off⟩⟩
theorem frz_off {q : Addr} (e : frz env r = some (d, env')) (o : Off env σ q) : Off env' σ q := by
  cases r with
  | val x => cases e; exact o
  | fr xs => cases e; exact o
  | al i =>
    unfold frz at e
    cases z : env[i]? with
    | none => simp only [z] at e; cases e
    | some t =>
      simp only [z] at e
      cases t with
      | un => cases e
      | sh x => cases e; exact o
      | ow xs =>
        cases e
        intro j ys h1 h2
        by_cases hj : i = j
        · subst hj
          by_cases hl : i < env.length
          · rw [List.getElem?_set_self hl] at h1
            cases h1
          · rw [List.getElem?_eq_none (by rw [List.length_set]; omega)] at h1
            cases h1
        · rw [List.getElem?_set_ne hj] at h1
          exact o j ys h1 h2
theorem frz_w (s : SR C B env σ H) (h : RepW C B env σ H v r) (e : frz env r = some (d, env')) : ∃ B', SR C B' env' σ H ∧ Ex B B' ∧ Rep C.K B' v d ∧ ∀ q, B' q = B q ∨ B' q = H q := by
  cases r with
  | val x =>
    cases e
    exact ⟨B, s, Ex.refl _, h, fun _ => .inl rfl⟩
  | fr xs =>
    cases e
    obtain ⟨p, vs, rfl, hp, ra, hb | ⟨bp, gp, off⟩⟩ := h
    · exact ⟨B, s, Ex.refl _, .lst hb ra, fun _ => .inl rfl⟩
    · refine ⟨_, s.take bp gp hp off, Ex.new bp, .lst upd_same (ra.mono (Ex.new bp)), fun q => ?_⟩
      by_cases z : q = p
      · subst z; rw [upd_same]; exact .inr hp.symm
      · rw [upd_ne z]; exact .inl rfl
  | al i =>
    have h : σ[i]? = some (some v) := h
    unfold frz at e
    cases q : env[i]? with
    | none => simp only [q] at e; cases e
    | some t =>
      have w := s.sl i t q
      simp only [q] at e
      cases t with
      | un => cases e
      | sh x =>
        cases e
        obtain ⟨u, e1, ru⟩ := w
        rw [h] at e1
        cases e1
        exact ⟨B, s, Ex.refl _, ru, fun _ => .inl rfl⟩
      | ow xs =>
        cases e
        obtain ⟨p, vs, e1, bp, gp, hp, ra⟩ := w
        rw [h] at e1
        cases e1
        have s1 : SR C B (env.set i .un) σ H := s.reslot (fun xs z => by cases z) trivial
        have off : Off (env.set i .un) σ p := fun j ys e2 e3 => by
          by_cases hj : i = j
          · subst hj
            by_cases hl : i < env.length
            · rw [List.getElem?_set_self hl] at e2
              cases e2
            · rw [List.getElem?_eq_none (by rw [List.length_set]; omega)] at e2
              cases e2
          · rw [List.getElem?_set_ne hj] at e2
            exact hj (s.dis i j p xs ys q e2 h e3)
        have s2 := s1.take bp gp hp off
        have rr : Rep C.K (upd B p (.lst vs)) (.ref p) (.lst xs) := .lst upd_same (ra.mono (Ex.new bp))
        have s3 := s2.reslot (i := i) (t := .sh (.lst xs)) (fun xs z => by cases z) ⟨_, h, rr⟩
        rw [List.set_set] at s3
        refine ⟨_, s3, Ex.new bp, rr, fun q => ?_⟩
        by_cases z : q = p
        · subst z; rw [upd_same]; exact .inr hp.symm
        · rw [upd_ne z]; exact .inl rfl
def RepWs (C : Ctx) (B : Hp) (env : En) (σ : L2.St) (H : Hp) : List V → List R → Prop
  | [], [] => True
  | v :: vs, r :: rs => RepW C B env σ H v r ∧ RepWs C B env σ H vs rs
  | _, _ => False
theorem RepRs.w : ∀ {vs : List V} {rs : List R}, RepRs C B env σ H vs rs → RepWs C B env σ H vs rs
  | [], [], _ => trivial
  | _ :: _, _ :: _, ⟨a, b⟩ => ⟨a.w, b.w⟩
  | [], _ :: _, h => h.elim
  | _ :: _, [], h => h.elim
theorem RepWs.keep (x : Ex B B') (hb : ∀ q, B' q = B q ∨ B' q = H q) (ho : ∀ q, Off env σ q → Off env' σ q) : ∀ {vs : List V} {rs : List R}, RepWs C B env σ H vs rs → RepWs C B' env' σ H vs rs
  | [], [], _ => trivial
  | v :: vs, r :: rs, ⟨a, b⟩ => ⟨by
      cases r with
      | val d => exact Rep.mono x a
      | al i => exact a
      | fr xs =>
        obtain ⟨p, ws, rfl, hp, ra, h1 | ⟨h1, h2, h3⟩⟩ := a
        · exact ⟨p, ws, rfl, hp, ra.mono x, .inl (x _ _ h1)⟩
        · rcases hb p with z | z
          · exact ⟨p, ws, rfl, hp, ra.mono x, .inr ⟨by rw [z]; exact h1, h2, ho _ h3⟩⟩
          · exact ⟨p, ws, rfl, hp, ra.mono x, .inl (by rw [z]; exact hp)⟩, RepWs.keep x hb ho b⟩
  | [], _ :: _, h => h.elim
  | _ :: _, [], h => h.elim
def frzs (env : En) : List R → Option (List D × En)
  | [] => some ([], env)
  | r :: rs => (frz env r).bind fun a => (frzs a.2 rs).map fun b => (a.1 :: b.1, b.2)
theorem frzs_w : ∀ {vs : List V} {rs : List R} {ds : List D} {env env' : En} {B : Hp}, SR C B env σ H → RepWs C B env σ H vs rs → frzs env rs = some (ds, env') → ∃ B', SR C B' env' σ H ∧ Ex B B' ∧ RepAll C.K B' vs ds
  | [], [], ds, env, env', B, s, _, e => by
    cases e
    exact ⟨B, s, Ex.refl _, .nil⟩
  | v :: vs, r :: rs, ds, env, env', B, s, ⟨a, b⟩, e => by
    obtain ⟨⟨d, e1⟩, h1, e⟩ := Option.bind_eq_some_iff.mp e
    obtain ⟨⟨ds', e2⟩, h2, e⟩ := Option.map_eq_some_iff.mp e
    cases e
    obtain ⟨B1, s1, x1, r1, hb⟩ := frz_w s a h1
    obtain ⟨B2, s2, x2, r2⟩ := frzs_w s1 (b.keep x1 hb fun q o => frz_off h1 o) h2
    exact ⟨B2, s2, x1.trans x2, .cons (r1.mono x2) r2⟩
  | [], _ :: _, _, _, _, _, _, h, _ => h.elim
  | _ :: _, [], _, _, _, _, _, h, _ => h.elim
/-- all arguments as data -/
def aD (f : En → Option (List R × En)) : En → Option (List D × En) := fun env => (f env).bind fun a => frzs a.2 a.1
def looks (env : En) : List R → Option (List D)
  | [] => some []
  | r :: rs => (look env r).bind fun a => (looks env rs).map fun b => a :: b
def RepKs (K : PySem.W.Frag) (B H : Hp) : List V → List D → Prop
  | [], [] => True
  | v :: vs, d :: ds => RepK K B H v d ∧ RepKs K B H vs ds
  | _, _ => False
theorem looks_rep (s : SR C B env σ H) : ∀ {vs : List V} {rs : List R} {ds : List D}, RepRs C B env σ H vs rs → looks env rs = some ds → RepKs C.K B H vs ds
  | [], [], ds, _, e => by cases e; trivial
  | v :: vs, r :: rs, ds, ⟨a, b⟩, e => by
    obtain ⟨d, h1, e⟩ := Option.bind_eq_some_iff.mp e
    obtain ⟨ds', h2, e⟩ := Option.map_eq_some_iff.mp e
    cases e
    exact ⟨look_rep s a h1, looks_rep s b h2⟩
  | [], _ :: _, _, h, _ => h.elim
  | _ :: _, [], _, h, _ => h.elim

/-! ### displays -/
def eTup (f : En → Option (List R × En)) : En → Option (R × En) := fun env => (aD f env).bind fun b => if b.1.length ≤ 1000 then some (.val (.tup b.1), b.2) else none
def eLst (f : En → Option (List R × En)) : En → Option (R × En) := fun env => (aD f env).bind fun b => if b.1.length ≤ 1000 then some (.fr b.1, b.2) else none
theorem le1000 {n : Nat} (h : n ≤ 1000) : n ≤ sizeLine := Nat.le_of_lt (small1000 h)
theorem aD_some {f : En → Option (List R × En)} {ds : List D} (e : aD f env = some (ds, env')) : ∃ rs e1, f env = some (rs, e1) ∧ frzs e1 rs = some (ds, env') := by
  obtain ⟨⟨rs, e1⟩, h1, e⟩ := Option.bind_eq_some_iff.mp e
  exact ⟨rs, e1, h1, e⟩
theorem se_tup {ta : TA} {f : En → Option (List R × En)} (h : SA K ta f) : SE K (tTup ta) (eTup f) := by
  intro C hC B env σ H r env' s e Q hq
  obtain ⟨⟨ds, e2⟩, h1, e⟩ := Option.bind_eq_some_iff.mp e
  split at e
  · cases e
    rename_i hl
    obtain ⟨rs, e1, h2, h3⟩ := aD_some h1
    refine h C hC B env σ H rs e1 s h2 _ fun vs B1 H1 s1 x1 r1 => ?_
    obtain ⟨B2, s2, x2, ra⟩ := frzs_w s1 r1.w h3
    have hl' : vs.length ≤ 1000 := by rw [ra.length]; exact hl
    refine ⟨le1000 hl', fun p hp => ?_⟩
    have bp := fresh_back s2.exB hp
    refine hq (.ref p) (upd B2 p (.tup vs)) _ (s2.alloc hp) ((x1.trans x2).trans (Ex.new bp)) ?_
    exact .tup (st_of upd_same) (ra.mono (Ex.new bp))
  · cases e
theorem se_lst {ta : TA} {f : En → Option (List R × En)} (h : SA K ta f) : SE K (tLst ta) (eLst f) := by
  intro C hC B env σ H r env' s e Q hq
  obtain ⟨⟨ds, e2⟩, h1, e⟩ := Option.bind_eq_some_iff.mp e
  split at e
  · cases e
    rename_i hl
    obtain ⟨rs, e1, h2, h3⟩ := aD_some h1
    refine h C hC B env σ H rs e1 s h2 _ fun vs B1 H1 s1 x1 r1 => ?_
    obtain ⟨B2, s2, x2, ra⟩ := frzs_w s1 r1.w h3
    have hl' : vs.length ≤ 1000 := by rw [ra.length]; exact hl
    refine ⟨le1000 hl', fun p hp => ?_⟩
    exact hq (.ref p) B2 _ (s2.temp hp) (x1.trans x2) (s2.newL hp ra)
  · cases e

/-! ### calls of built-ins on values that are read -/
def RC (K : PySem.W.Frag) (r : List V → Hp → VK → Prop) (g : List D → Option D) : Prop := ∀ (C : Ctx), C.K = K → ∀ (B : Hp) (env : En) (σ : L2.St) (H : Hp) (vs : List V) (ds : List D) (z : D), SR C B env σ H → RepKs K B H vs ds → g ds = some z → ∀ Q : VK, (∀ v B' H', SR C B' env σ H' → Ex B B' → Rep K B' v z → Q v H') → r vs H Q
def RCL (K : PySem.W.Frag) (r : List V → Hp → VK → Prop) (g : List D → Option (List D)) : Prop := ∀ (B H : Hp) (vs : List V) (ds zs : List D), Ex B H → RepKs K B H vs ds → g ds = some zs → ∀ Q : VK, (∀ p ws, H p = none → RepAll K B ws zs → Q (.ref p) (upd H p (.lst ws))) → r vs H Q
def RCS (K : PySem.W.Frag) (r : List V → Hp → VK → Prop) (g : List D → Option D) : Prop := ∀ (B H : Hp) (vs : List V) (ds : List D) (z : D), Ex B H → RepKs K B H vs ds → g ds = some z → ∃ v, sc z = some v ∧ ∀ Q : VK, Q v H → r vs H Q
theorem RCS.rc {r : List V → Hp → VK → Prop} {g : List D → Option D} (h : RCS K r g) : RC K r g := by
  intro C hC B env σ H vs ds z s rx e Q hq
  obtain ⟨v, hz, k⟩ := h B H vs ds z s.exB rx e
  exact k Q (hq v B H s (Ex.refl _) (sc_rep hz))
def eCB (g : List D → Option D) (f : En → Option (List R × En)) : En → Option (R × En) := fun env => (f env).bind fun a => (looks a.2 a.1).bind fun ds => (g ds).map fun z => (.val z, a.2)
def eCBL (g : List D → Option (List D)) (f : En → Option (List R × En)) : En → Option (R × En) := fun env => (f env).bind fun a => (looks a.2 a.1).bind fun ds => (g ds).map fun z => (.fr z, a.2)
theorem se_cb {r : List V → Hp → VK → Prop} {g : List D → Option D} {ta : TA} {f : En → Option (List R × En)} (hr : RC K r g) (h : SA K ta f) : SE K (tCB r ta) (eCB g f) := by
  intro C hC B env σ H ro env' s e Q hq
  obtain ⟨⟨rs, e1⟩, h1, e⟩ := Option.bind_eq_some_iff.mp e
  obtain ⟨ds, h2, e⟩ := Option.bind_eq_some_iff.mp e
  obtain ⟨z, h3, e⟩ := Option.map_eq_some_iff.mp e
  cases e
  refine h C hC B env σ H rs e1 s h1 _ fun vs B1 H1 s1 x1 r1 => ?_
  have k := looks_rep s1 r1 h2
  rw [hC] at k
  refine hr C hC B1 _ σ H1 vs ds z s1 k h3 Q fun v B2 H2 s2 x2 rv => hq v B2 H2 s2 (x1.trans x2) ?_
  rw [show RepR C B2 e1 σ H2 v (.val z) = Rep C.K B2 v z from rfl, hC]
  exact rv
theorem se_cbL {r : List V → Hp → VK → Prop} {g : List D → Option (List D)} {ta : TA} {f : En → Option (List R × En)} (hr : RCL K r g) (h : SA K ta f) : SE K (tCB r ta) (eCBL g f) := by
  intro C hC B env σ H ro env' s e Q hq
  obtain ⟨⟨rs, e1⟩, h1, e⟩ := Option.bind_eq_some_iff.mp e
  obtain ⟨ds, h2, e⟩ := Option.bind_eq_some_iff.mp e
  obtain ⟨z, h3, e⟩ := Option.map_eq_some_iff.mp e
  cases e
  refine h C hC B env σ H rs e1 s h1 _ fun vs B1 H1 s1 x1 r1 => ?_
  have k := looks_rep s1 r1 h2
  rw [hC] at k
  refine hr B1 H1 vs ds z s1.exB k h3 Q fun p ws hp ra => ?_
  exact hq (.ref p) B1 _ (s1.temp hp) x1 (s1.newL hp (by rw [hC]; exact ra))
/-- the lists of ints, of truth values in D -/
def unInts : List D → Option (List Int)
  | [] => some []
  | .int i :: xs => (unInts xs).map fun ns => i :: ns
  | _ => none
theorem unInts_some : ∀ {xs : List D} {ns : List Int}, unInts xs = some ns → xs = ns.map D.int
  | [], ns, h => by cases h; rfl
  | x :: xs, ns, h => by
    cases x with
    | int i =>
      obtain ⟨ms, h1, rfl⟩ := Option.map_eq_some_iff.mp h
      rw [unInts_some h1]
      rfl
    | _ => cases h
theorem unInts_map : ∀ ns : List Int, unInts (ns.map D.int) = some ns
  | [] => rfl
  | n :: ns => by
    show (unInts (ns.map D.int)).map _ = _
    rw [unInts_map ns]
    rfl
def unBls : List D → Option (List Bool)
  | [] => some []
  | .bl i :: xs => (unBls xs).map fun ns => i :: ns
  | _ => none
theorem unBls_some : ∀ {xs : List D} {ns : List Bool}, unBls xs = some ns → xs = ns.map D.bl
  | [], ns, h => by cases h; rfl
  | x :: xs, ns, h => by
    cases x with
    | bl i =>
      obtain ⟨ms, h1, rfl⟩ := Option.map_eq_some_iff.mp h
      rw [unBls_some h1]
      rfl
    | _ => cases h
theorem unBls_map : ∀ ns : List Bool, unBls (ns.map D.bl) = some ns
  | [] => rfl
  | n :: ns => by
    show (unBls (ns.map D.bl)).map _ = _
    rw [unBls_map ns]
    rfl
theorem RepKs.one {vs : List V} {d : D} (h : RepKs K B H vs [d]) : ∃ v, vs = [v] ∧ RepK K B H v d := by
  match vs, h with
  | [v], ⟨a, _⟩ => exact ⟨v, rfl, a⟩
theorem RepKs.two {vs : List V} {d e : D} (h : RepKs K B H vs [d, e]) : ∃ v w, vs = [v, w] ∧ RepK K B H v d ∧ RepK K B H w e := by
  match vs, h with
  | [v, w], ⟨a, b, _⟩ => exact ⟨v, w, rfl, a, b⟩
/-- a list of ints that is read -/
theorem RepK.ints {xs : List D} {ns : List Int} (e : Ex B H) (h : RepK K B H v (.lst xs)) (u : unInts xs = some ns) : ∃ a, v = .ref a ∧ H a = some (.lst (ns.map V.int)) := by
  obtain ⟨a, vs, rfl, h1, h2⟩ := h.list e
  rw [unInts_some u] at h2
  rw [h2.ints] at h1
  exact ⟨a, rfl, h1⟩
theorem RepK.bls {xs : List D} {ns : List Bool} (e : Ex B H) (h : RepK K B H v (.lst xs)) (u : unBls xs = some ns) : ∃ a, v = .ref a ∧ H a = some (.lst (ns.map V.bl)) := by
  obtain ⟨a, vs, rfl, h1, h2⟩ := h.list e
  rw [unBls_some u] at h2
  rw [h2.bls] at h1
  exact ⟨a, rfl, h1⟩

def bLen : List D → Option D
  | [.lst xs] => some (.int xs.length)
  | [.tup xs] => some (.int xs.length)
  | [.scr xs] => some (.int xs.length)
  | _ => none
def rLenSeq (K : PySem.W.Frag) : List V → Hp → VK → Prop := fun xs H Q => ∃ p ys, xs = [.ref p] ∧ (SqL K H p ys ∨ SqT K H p ys) ∧ Q (.int ys.length) H
theorem rc_len : RC K (rLenSeq K) bLen := RCS.rc (by
  intro B H vs ds z e rx h
  unfold bLen at h
  split at h
  · cases h
    obtain ⟨v, rfl, k⟩ := rx.one
    obtain ⟨a, ws, rfl, h1, h2⟩ := k.list e
    exact ⟨_, rfl, fun Q q => ⟨a, ws, rfl, .inl (sq_of h1), by rw [h2.length]; exact q⟩⟩
  · cases h
    obtain ⟨v, rfl, k⟩ := rx.one
    obtain ⟨a, ws, rfl, h1, h2⟩ := (k.scal fun _ z => by cases z).tuple
    exact ⟨_, rfl, fun Q q => ⟨a, ws, rfl, .inr (ex_t e h1), by rw [h2.length]; exact q⟩⟩
  · cases h
    obtain ⟨v, rfl, k⟩ := rx.one
    obtain ⟨a, rfl, h1⟩ := (k.scal fun _ z => by cases z).script
    exact ⟨_, rfl, fun Q q => ⟨a, _, rfl, .inl (ex_l e h1), by rw [List.length_map]; exact q⟩⟩
  · cases h)
def bInt : List D → Option D
  | [.int i] => some (.int i)
  | [.bl k] => some (.int (if k then 1 else 0))
  | _ => none
theorem rc_int : RC K (fun xs H Q => (∃ i, xs = [.int i] ∧ Q (.int i) H) ∨ ∃ k, xs = [.bl k] ∧ Q (.int (if k then 1 else 0)) H) bInt := RCS.rc (by
  intro B H vs ds z e rx h
  unfold bInt at h
  split at h
  · cases h
    obtain ⟨v, rfl, k⟩ := rx.one
    exact ⟨_, rfl, fun Q q => .inl ⟨_, by rw [k.int], q⟩⟩
  · cases h
    obtain ⟨v, rfl, k⟩ := rx.one
    exact ⟨_, rfl, fun Q q => .inr ⟨_, by rw [k.bl], q⟩⟩
  · cases h)
def bAbs : List D → Option D
  | [.int i] => some (.int (if i < 0 then -i else i))
  | _ => none
theorem rc_abs : RC K (fun xs H Q => ∃ i, xs = [.int i] ∧ Q (.int (if i < 0 then -i else i)) H) bAbs := RCS.rc (by
  intro B H vs ds z e rx h
  unfold bAbs at h
  split at h
  · cases h
    obtain ⟨v, rfl, k⟩ := rx.one
    exact ⟨_, rfl, fun Q q => ⟨_, by rw [k.int], q⟩⟩
  · cases h)
def bMax2 : List D → Option D
  | [.int i, .int j] => some (.int (if j > i then j else i))
  | _ => none
def bMin2 : List D → Option D
  | [.int i, .int j] => some (.int (if j < i then j else i))
  | _ => none
theorem rc_max2 : RC K (fun xs H Q => ∃ i j, xs = [.int i, .int j] ∧ Q (.int (if j > i then j else i)) H) bMax2 := RCS.rc (by
  intro B H vs ds z e rx h
  unfold bMax2 at h
  split at h
  · cases h
    obtain ⟨v, w, rfl, k1, k2⟩ := rx.two
    exact ⟨_, rfl, fun Q q => ⟨_, _, by rw [k1.int, k2.int], q⟩⟩
  · cases h)
theorem rc_min2 : RC K (fun xs H Q => ∃ i j, xs = [.int i, .int j] ∧ Q (.int (if j < i then j else i)) H) bMin2 := RCS.rc (by
  intro B H vs ds z e rx h
  unfold bMin2 at h
  split at h
  · cases h
    obtain ⟨v, w, rfl, k1, k2⟩ := rx.two
    exact ⟨_, rfl, fun Q q => ⟨_, _, by rw [k1.int, k2.int], q⟩⟩
  · cases h)
def bSum : List D → Option D
  | [.lst xs] => (unInts xs).map fun ns => .int ns.sum
  | _ => none
theorem rc_sum : RC K (rSum K) bSum := RCS.rc (by
  intro B H vs ds z e rx h
  unfold bSum at h
  split at h
  · obtain ⟨ns, h1, rfl⟩ := Option.map_eq_some_iff.mp h
    obtain ⟨v, rfl, k⟩ := rx.one
    obtain ⟨a, rfl, h2⟩ := k.ints e h1
    exact ⟨_, rfl, fun Q q => ⟨a, ns, rfl, sq_of h2, q⟩⟩
  · cases h)
def maxL : List Int → Int
  | [] => 0
  | x :: xs => xs.foldl max x
def minL : List Int → Int
  | [] => 0
  | x :: xs => xs.foldl min x
theorem foldl_max_ge : ∀ (xs : List Int) (x : Int), x ≤ xs.foldl max x ∧ ∀ y ∈ xs, y ≤ xs.foldl max x
  | [], x => ⟨Int.le_refl _, fun y h => by cases h⟩
  | z :: xs, x => by
    obtain ⟨h1, h2⟩ := foldl_max_ge xs (max x z)
    rw [List.foldl_cons]
    refine ⟨by omega, fun y hy => ?_⟩
    rcases List.mem_cons.mp hy with rfl | hy
    · omega
    · exact h2 y hy
theorem foldl_max_mem : ∀ (xs : List Int) (x : Int), xs.foldl max x = x ∨ xs.foldl max x ∈ xs
  | [], x => .inl rfl
  | z :: xs, x => by
    rw [List.foldl_cons]
    rcases foldl_max_mem xs (max x z) with h | h
    · rw [h]
      by_cases q : x ≤ z
      · exact .inr (by rw [show max x z = z by omega]; exact List.mem_cons_self)
      · exact .inl (by omega)
    · exact .inr (List.mem_cons_of_mem _ h)
theorem foldl_min_le : ∀ (xs : List Int) (x : Int), xs.foldl min x ≤ x ∧ ∀ y ∈ xs, xs.foldl min x ≤ y
  | [], x => ⟨Int.le_refl _, fun y h => by cases h⟩
  | z :: xs, x => by
    obtain ⟨h1, h2⟩ := foldl_min_le xs (min x z)
    rw [List.foldl_cons]
    refine ⟨by omega, fun y hy => ?_⟩
    rcases List.mem_cons.mp hy with rfl | hy
    · omega
    · exact h2 y hy
theorem foldl_min_mem : ∀ (xs : List Int) (x : Int), xs.foldl min x = x ∨ xs.foldl min x ∈ xs
  | [], x => .inl rfl
  | z :: xs, x => by
    rw [List.foldl_cons]
    rcases foldl_min_mem xs (min x z) with h | h
    · rw [h]
      by_cases q : z ≤ x
      · exact .inr (by rw [show min x z = z by omega]; exact List.mem_cons_self)
      · exact .inl (by omega)
    · exact .inr (List.mem_cons_of_mem _ h)
theorem maxL_ge {ns : List Int} {y : Int} (h : y ∈ ns) : y ≤ maxL ns := by
  cases ns with
  | nil => cases h
  | cons x xs =>
    rcases List.mem_cons.mp h with rfl | h
    · exact (foldl_max_ge xs _).1
    · exact (foldl_max_ge xs x).2 y h
theorem maxL_mem {ns : List Int} (h : ns ≠ []) : maxL ns ∈ ns := by
  cases ns with
  | nil => exact absurd rfl h
  | cons x xs =>
    rcases foldl_max_mem xs x with q | q
    · show xs.foldl max x ∈ _
      rw [q]
      exact List.mem_cons_self
    · exact List.mem_cons_of_mem _ q
theorem minL_le {ns : List Int} {y : Int} (h : y ∈ ns) : minL ns ≤ y := by
  cases ns with
  | nil => cases h
  | cons x xs =>
    rcases List.mem_cons.mp h with rfl | h
    · exact (foldl_min_le xs _).1
    · exact (foldl_min_le xs x).2 y h
theorem minL_mem {ns : List Int} (h : ns ≠ []) : minL ns ∈ ns := by
  cases ns with
  | nil => exact absurd rfl h
  | cons x xs =>
    rcases foldl_min_mem xs x with q | q
    · show xs.foldl min x ∈ _
      rw [q]
      exact List.mem_cons_self
    · exact List.mem_cons_of_mem _ q
def bMaxL : List D → Option D
  | [.lst xs] => (unInts xs).bind fun ns => if ns = [] then none else some (.int (maxL ns))
  | _ => none
def bMinL : List D → Option D
  | [.lst xs] => (unInts xs).bind fun ns => if ns = [] then none else some (.int (minL ns))
  | _ => none
theorem rc_maxL : RC K (rMax K) bMaxL := RCS.rc (by
  intro B H vs ds z e rx h
  unfold bMaxL at h
  split at h
  · obtain ⟨ns, h1, h⟩ := Option.bind_eq_some_iff.mp h
    split at h
    · cases h
    · rename_i hn
      cases h
      obtain ⟨v, rfl, k⟩ := rx.one
      obtain ⟨a, rfl, h2⟩ := k.ints e h1
      refine ⟨_, rfl, fun Q q => ⟨a, ns, rfl, sq_of h2, List.length_pos_iff.mpr hn, fun m hm hle => ?_⟩⟩
      have : m = maxL ns := by
        have := hle _ (maxL_mem hn)
        have := maxL_ge hm
        omega
      rw [this]
      exact q
  · cases h)
theorem rc_minL : RC K (rMin K) bMinL := RCS.rc (by
  intro B H vs ds z e rx h
  unfold bMinL at h
  split at h
  · obtain ⟨ns, h1, h⟩ := Option.bind_eq_some_iff.mp h
    split at h
    · cases h
    · rename_i hn
      cases h
      obtain ⟨v, rfl, k⟩ := rx.one
      obtain ⟨a, rfl, h2⟩ := k.ints e h1
      refine ⟨_, rfl, fun Q q => ⟨a, ns, rfl, sq_of h2, List.length_pos_iff.mpr hn, fun m hm hle => ?_⟩⟩
      have : m = minL ns := by
        have := hle _ (minL_mem hn)
        have := minL_le hm
        omega
      rw [this]
      exact q
  · cases h)
def bAll : List D → Option D
  | [.lst xs] => (unBls xs).map fun ns => .bl (ns.all id)
  | _ => none
theorem rc_all : RC K (rAll K) bAll := RCS.rc (by
  intro B H vs ds z e rx h
  unfold bAll at h
  split at h
  · obtain ⟨ns, h1, rfl⟩ := Option.map_eq_some_iff.mp h
    obtain ⟨v, rfl, k⟩ := rx.one
    obtain ⟨a, rfl, h2⟩ := k.bls e h1
    exact ⟨_, rfl, fun Q q => ⟨a, ns, rfl, sq_of h2, q⟩⟩
  · cases h)
end
end Vm

set_option Elab.async false
set_option linter.all false
set_option maxRecDepth 100000
namespace Vm
open PySem PySem.Spec PyProof.Rows L2 Evl
section
variable {K : PySem.W.Frag} {C : Ctx} {B B' G H H' : Hp} {env env' : En} {σ : L2.St} {v : V} {r : R} {d : D} {ta tb te : TE} {fa fb fe : En → Option (R × En)} {f : En → Option (R × En)} {X : Cx}

/-! ### slots stored -/
theorem get_set {α : Type} {l : List α} {i j : Nat} {x y : α} (h : (l.set i x)[j]? = some y) : (j = i ∧ y = x ∧ i < l.length) ∨ (j ≠ i ∧ l[j]? = some y) := by
  by_cases hj : i = j
  · subst hj
    by_cases hl : i < l.length
    · rw [List.getElem?_set_self hl] at h
      exact .inl ⟨rfl, (Option.some.inj h).symm, hl⟩
    · rw [List.getElem?_eq_none (by rw [List.length_set]; omega)] at h
      cases h
  · rw [List.getElem?_set_ne hj] at h
    exact .inr ⟨fun e => hj e.symm, h⟩
/-- the own list of slot i changes -/
theorem SR.put (s : SR C B env σ H) {i : Nat} {xs ys : List D} {p : Addr} {ws : List V} (he : env[i]? = some (.ow xs)) (hs : σ[i]? = some (some (.ref p))) (ra : RepAll C.K B ws ys) : SR C B (env.set i (.ow ys)) σ (upd H p (.lst ws)) := by
  obtain ⟨p', vs, e1, bp, gp, hp, _⟩ := s.sl i _ he
  rw [hs] at e1
  cases e1
  refine ⟨fun a u e => ?_, fun a u e => ?_, s.ex0, s.new, by rw [List.length_set]; exact s.len, fun j t h => ?_, fun j k q x1 x2 e1 e2 => ?_, s.fx⟩
  · rw [upd_ne (ne_of_none e gp)]
    exact s.exG a u e
  · rw [upd_ne (ne_of_none e bp)]
    exact s.exB a u e
  · rcases get_set h with ⟨rfl, rfl, _⟩ | ⟨hj, h⟩
    · exact ⟨p, ws, hs, bp, gp, upd_same, ra⟩
    · refine (s.sl j t h).mono (Ex.refl _) fun q e ⟨zs, ez⟩ => ?_
      subst ez
      have w := s.sl j _ h
      obtain ⟨p', vs', e3, b3, _, h3, _⟩ := w
      rw [e] at e3
      cases e3
      have ne : q ≠ p := fun z => hj (s.dis j i q zs xs h he e (by rw [z]; exact hs))
      exact ⟨b3, upd_ne ne⟩
  · have k1 : ∃ zs, env[j]? = some (.ow zs) := by
      rcases get_set e1 with ⟨rfl, _, _⟩ | ⟨_, h⟩
      · exact ⟨xs, he⟩
      · exact ⟨x1, h⟩
    have k2 : ∃ zs, env[k]? = some (.ow zs) := by
      rcases get_set e2 with ⟨rfl, _, _⟩ | ⟨_, h⟩
      · exact ⟨xs, he⟩
      · exact ⟨x2, h⟩
    obtain ⟨z1, k1⟩ := k1
    obtain ⟨z2, k2⟩ := k2
    exact s.dis j k q z1 z2 k1 k2
/-- slot i is given a value -/
theorem SR.setV (s : SR C B env σ H) {i : Nat} {v : V} {t : Sl} (hi : i ∉ C.fix) (ht : match t with
    | .un => True
    | .sh d => Rep C.K B v d
    | .ow xs => ∃ p vs, v = .ref p ∧ B p = none ∧ C.G p = none ∧ H p = some (.lst vs) ∧ RepAll C.K B vs xs ∧ Off (env.set i .un) σ p) : SR C B (env.set i t) (σ.set i (some v)) H := by
  refine ⟨s.exG, s.exB, s.ex0, s.new, by rw [List.length_set, List.length_set]; exact s.len, fun j u h => ?_, fun j k q x1 x2 e1 e2 h1 h2 => ?_, fun j hj => ?_⟩
  · rcases get_set h with ⟨rfl, rfl, hl⟩ | ⟨hj, h⟩
    · rw [List.getElem?_set_self (by rw [s.len]; exact hl)]
      cases u with
      | un => trivial
      | sh d => exact ⟨v, rfl, ht⟩
      | ow xs =>
        obtain ⟨p, vs, rfl, bp, gp, hp, ra, _⟩ := ht
        exact ⟨p, vs, rfl, bp, gp, hp, ra⟩
    · rw [List.getElem?_set_ne (fun e => hj e.symm)]
      exact s.sl j u h
  · rcases get_set e1 with ⟨rfl, et, hl⟩ | ⟨hj, g1⟩
    · rcases get_set e2 with ⟨rfl, _, _⟩ | ⟨hk, g2⟩
      · rfl
      · subst et
        obtain ⟨p, vs, rfl, _, _, _, _, off⟩ := ht
        rw [List.getElem?_set_self (by rw [s.len]; exact hl)] at h1
        cases h1
        rw [List.getElem?_set_ne (fun e => hk e.symm)] at h2
        exact absurd h2 (off k x2 (by rw [List.getElem?_set_ne (fun e => hk e.symm)]; exact g2))
    · rcases get_set e2 with ⟨rfl, et, hl⟩ | ⟨hk, g2⟩
      · subst et
        obtain ⟨p, vs, rfl, _, _, _, _, off⟩ := ht
        rw [List.getElem?_set_self (by rw [s.len]; exact hl)] at h2
        cases h2
        rw [List.getElem?_set_ne (fun e => hj e.symm)] at h1
        exact absurd h1 (off j x1 (by rw [List.getElem?_set_ne (fun e => hj e.symm)]; exact g1))
      · rw [List.getElem?_set_ne (fun e => hj e.symm)] at h1
        rw [List.getElem?_set_ne (fun e => hk e.symm)] at h2
        exact s.dis j k q x1 x2 g1 g2 h1 h2
  · have : j ≠ i := fun e => hi (by rw [← e]; exact hj)
    rw [List.getElem?_set_ne (fun e => this e.symm)]
    exact s.fx j hj
/-- what slot i holds from now on -/
def store (i : Nat) (r : R) (env : En) : Option En := match r with
  | .val d => some (env.set i (.sh d))
  | .fr xs => some (env.set i (.ow xs))
  | .al j => (frz env (.al j)).map fun b => b.2.set i (.sh b.1)
theorem off_un {q : Addr} (o : Off env σ q) (i : Nat) : Off (env.set i .un) σ q := fun j ys h => by
  rcases get_set h with ⟨_, e, _⟩ | ⟨_, h⟩
  · cases e
  · exact o j ys h
theorem store_ok (s : SR C B env σ H) {i : Nat} (hi : i ∉ C.fix) (h : RepR C B env σ H v r) (e : store i r env = some env') : ∃ B', SR C B' env' (σ.set i (some v)) H ∧ Ex B B' := by
  cases r with
  | val d =>
    cases e
    exact ⟨B, s.setV hi h, Ex.refl _⟩
  | fr xs =>
    cases e
    obtain ⟨p, vs, rfl, bp, gp, hp, ra, off⟩ := h
    exact ⟨B, s.setV hi ⟨p, vs, rfl, bp, gp, hp, ra, off_un off i⟩, Ex.refl _⟩
  | al j =>
    obtain ⟨⟨d, e1⟩, h1, rfl⟩ := Option.map_eq_some_iff.mp e
    obtain ⟨B1, s1, x1, r1⟩ := frz_rep s h h1
    exact ⟨B1, s1.setV hi r1, x1⟩

/-! ### methods of the function's own lists -/
def own (env : En) (i : Nat) : Option (List D) := match env[i]? with
  | some (.ow xs) => some xs
  | _ => none
theorem own_some {i : Nat} {xs : List D} (h : own env i = some xs) : env[i]? = some (.ow xs) := by
  unfold own at h
  split at h
  · cases h; assumption
  · cases h
def one : List D → Option D
  | [d] => some d
  | _ => none
def eAppend (i : Nat) (f : En → Option (List R × En)) : En → Option (R × En) := fun env => (own env i).bind fun _ => (aD f env).bind fun b => (one b.1).bind fun d => (own b.2 i).bind fun xs => if xs.length < 1000000 then some (.val .non, b.2.set i (.ow (xs ++ [d]))) else none
theorem mil {n : Nat} (h : n < 1000000) : n < sizeLine := Nat.lt_trans h (by decide)
theorem se_append {i : Nat} {ta : TA} {f : En → Option (List R × En)} (h : SA K ta f) : SE K (tBM K "list" rAppend (tVar i) ta) (eAppend i f) := by
  intro C hC B env σ H r env' s e Q hq
  obtain ⟨xs0, h0, e⟩ := Option.bind_eq_some_iff.mp e
  obtain ⟨⟨ds, e2⟩, h1, e⟩ := Option.bind_eq_some_iff.mp e
  obtain ⟨d, h2, e⟩ := Option.bind_eq_some_iff.mp e
  obtain ⟨xs, h3, e⟩ := Option.bind_eq_some_iff.mp e
  split at e
  · rename_i hl
    cases e
    obtain ⟨p, vs0, hs, bp, gp, hp, _⟩ := s.sl i _ (own_some h0)
    refine ⟨.ref p, hs, .inl ⟨rfl, _, sq_of hp⟩, ?_⟩
    obtain ⟨rs, e1, h4, h5⟩ := aD_some h1
    refine h C hC B env σ H rs e1 s h4 _ fun vs B1 H1 s1 x1 r1 => ?_
    obtain ⟨B2, s2, x2, ra⟩ := frzs_w s1 r1.w h5
    obtain ⟨p', ws, hs', bp', gp', hp', ra'⟩ := s2.sl i _ (own_some h3)
    rw [hs] at hs'
    cases hs'
    match ds, vs, h2, ra with
    | [_], [y], h2, .cons ry .nil =>
      cases h2
      refine ⟨p, ws, y, rfl, rfl, hp', by rw [ra'.length]; exact mil hl, ?_⟩
      exact hq .non B2 _ (s2.put (own_some h3) hs (ra'.append (.one ry))) (x1.trans x2) .non
  · cases e
/-- xs.pop(i), at a place that is there, counted from the front -/
def oneInt : List D → Option Int
  | [.int i] => some i
  | _ => none
def eaPop (i : Nat) (f : En → Option (List R × En)) : En → Option (R × En) := fun env => (own env i).bind fun _ => (aD f env).bind fun b => (oneInt b.1).bind fun k => (own b.2 i).bind fun xs =>
  if 0 ≤ k ∧ k < 2 ^ 63 then (xs[k.toNat]?).map fun d => (.val d, b.2.set i (.ow (xs.eraseIdx k.toNat))) else none
theorem se_popAt {i : Nat} {ta : TA} {f : En → Option (List R × En)} (h : SA K ta f) : SE K (tBM K "list" rPopAt (tVar i) ta) (eaPop i f) := by
  intro C hC B env σ H r env' s e Q hq
  obtain ⟨xs0, h0, e⟩ := Option.bind_eq_some_iff.mp e
  obtain ⟨⟨ds, e2⟩, h1, e⟩ := Option.bind_eq_some_iff.mp e
  obtain ⟨k, h2, e⟩ := Option.bind_eq_some_iff.mp e
  obtain ⟨xs, h3, e⟩ := Option.bind_eq_some_iff.mp e
  split at e
  · rename_i hk
    obtain ⟨d, hd, e⟩ := Option.map_eq_some_iff.mp e
    cases e
    obtain ⟨p, vs0, hs, bp, gp, hp, _⟩ := s.sl i _ (own_some h0)
    refine ⟨.ref p, hs, .inl ⟨rfl, _, sq_of hp⟩, ?_⟩
    obtain ⟨rs, e1, h4, h5⟩ := aD_some h1
    refine h C hC B env σ H rs e1 s h4 _ fun vs B1 H1 s1 x1 r1 => ?_
    obtain ⟨B2, s2, x2, ra⟩ := frzs_w s1 r1.w h5
    obtain ⟨p', ws, hs', bp', gp', hp', ra'⟩ := s2.sl i _ (own_some h3)
    rw [hs] at hs'
    cases hs'
    match ds, vs, h2, ra with
    | [.int _], [.int _], h2, .cons (.int _) .nil =>
      cases h2
      obtain ⟨y, hy, ry⟩ := ra'.get hd
      have hlt : k.toNat < ws.length := (List.getElem?_eq_some_iff.mp hy).1
      refine ⟨p, ws, k, k.toNat, y, rfl, rfl, hp', by omega, hk.2, ?_, hy, ?_⟩
      · exact seqIndex_of hk.1 (by omega)
      · exact hq y B2 _ (s2.put (own_some h3) hs (ra'.eraseIdx _)) (x1.trans x2) ry
  · cases e
def eaPop0 (i : Nat) : En → Option (R × En) := fun env => (own env i).bind fun xs => (xs[xs.length - 1]?).map fun d => (.val d, env.set i (.ow xs.dropLast))
theorem RepAll.dropLast {vs : List V} {xs : List D} (h : RepAll K B vs xs) : RepAll K B vs.dropLast xs.dropLast := by
  rw [List.dropLast_eq_take, List.dropLast_eq_take, h.length]
  exact h.take _
theorem se_pop {i : Nat} : SE K (tBM0 K "list" rPop (tVar i)) (eaPop0 i) := by
  intro C hC B env σ H r env' s e Q hq
  obtain ⟨xs, h0, e⟩ := Option.bind_eq_some_iff.mp e
  obtain ⟨d, hd, e⟩ := Option.map_eq_some_iff.mp e
  cases e
  obtain ⟨p, ws, hs, bp, gp, hp, ra⟩ := s.sl i _ (own_some h0)
  obtain ⟨y, hy, ry⟩ := ra.get hd
  refine ⟨.ref p, hs, .inl ⟨rfl, _, sq_of hp⟩, p, ws, y, rfl, rfl, hp, by rw [ra.length]; exact hy, ?_⟩
  exact hq y B _ (s.put (own_some h0) hs ra.dropLast) (Ex.refl _) ry
def eExtend (i : Nat) (f : En → Option (List R × En)) : En → Option (R × En) := fun env => (own env i).bind fun _ => (aD f env).bind fun b => (one b.1).bind fun d => (own b.2 i).bind fun xs => match d with
  | .lst ys => if xs.length + ys.length ≤ 1000000 then some (.val .non, b.2.set i (.ow (xs ++ ys))) else none
  | _ => none
theorem se_extend {i : Nat} {ta : TA} {f : En → Option (List R × En)} (h : SA K ta f) : SE K (tBM K "list" rExtend (tVar i) ta) (eExtend i f) := by
  intro C hC B env σ H r env' s e Q hq
  obtain ⟨xs0, h0, e⟩ := Option.bind_eq_some_iff.mp e
  obtain ⟨⟨ds, e2⟩, h1, e⟩ := Option.bind_eq_some_iff.mp e
  obtain ⟨d, h2, e⟩ := Option.bind_eq_some_iff.mp e
  obtain ⟨xs, h3, e⟩ := Option.bind_eq_some_iff.mp e
  split at e
  · split at e
    · rename_i hl
      cases e
      obtain ⟨p, vs0, hs, bp, gp, hp, _⟩ := s.sl i _ (own_some h0)
      refine ⟨.ref p, hs, .inl ⟨rfl, _, sq_of hp⟩, ?_⟩
      obtain ⟨rs, e1, h4, h5⟩ := aD_some h1
      refine h C hC B env σ H rs e1 s h4 _ fun vs B1 H1 s1 x1 r1 => ?_
      obtain ⟨B2, s2, x2, ra⟩ := frzs_w s1 r1.w h5
      obtain ⟨p', ws, hs', bp', gp', hp', ra'⟩ := s2.sl i _ (own_some h3)
      rw [hs] at hs'
      cases hs'
      match ds, vs, h2, ra with
      | [_], [y], h2, .cons ry .nil =>
        cases h2
        obtain ⟨b, zs, rfl, hb, rz⟩ := ry.list
        refine ⟨p, b, ws, zs, rfl, rfl, hp', s2.exB _ _ hb, by rw [ra'.length, rz.length]; exact (Nat.le_trans hl (by decide : 1000000 ≤ sizeLine)), ?_⟩
        exact hq .non B2 _ (s2.put (own_some h3) hs (ra'.append rz)) (x1.trans x2) .non
    · cases e
  · cases e

/-! ### slices -/
def SO (K : PySem.W.Frag) (t : TO) (f : En → Option (Option Int × En)) : Prop :=
  ∀ C : Ctx, C.K = K → ∀ (B : Hp) (env : En) (σ : L2.St) (H : Hp) (r : Option Int) (env' : En), SR C B env σ H → f env = some (r, env') →
    ∀ Q : Option Int → Hp → Prop, (∀ B' H', SR C B' env' σ H' → Ex B B' → Q r H') → t σ H Q
def oNone : En → Option (Option Int × En) := fun env => some (none, env)
def oSome (f : En → Option (R × En)) : En → Option (Option Int × En) := fun env => (f env).bind fun a => match a.1 with
  | .val (.int i) => some (some i, a.2)
  | _ => none
theorem so_none : SO K tNoPart oNone := by
  intro C hC B env σ H r env' s e Q hq
  cases e
  exact hq B H s (Ex.refl _)
theorem so_some (h : SE K te f) : SO K (tPart te) (oSome f) := by
  intro C hC B env σ H r env' s e Q hq
  obtain ⟨⟨a, e1⟩, h1, e⟩ := Option.bind_eq_some_iff.mp e
  split at e
  · rename_i q
    cases e
    simp only at q
    subst q
    refine h C hC B env σ H _ _ s h1 _ fun v B' H' s' x rr => ?_
    have rr : Rep C.K B' v (.int _) := rr
    cases rr
    exact ⟨_, rfl, hq B' H' s' x⟩
  · cases e
theorem SO.temp {t : TO} {g : En → Option (Option Int × En)} {b : Option Int} (h : SO K t g) (hC : C.K = K) (s : SR C B env σ H) (e : g env = some (b, env')) {T : Hp} (tm : Tmp B env σ H T) {Q : Option Int → Hp → Prop}
    (hq : ∀ B' H', SR C B' env' σ H' → Ex B B' → Tmp B' env' σ H' T → Q b H') : t σ H Q := by
  refine h (C.plus T) hC B env σ H b env' (s.plus tm) e Q fun B' H' s' x => ?_
  obtain ⟨s1, t1⟩ := SR.minus s.exG tm.ex tm.nb x s' s.ex0
  exact hq B' H' s1 x t1
def cutD (xs : List D) (lo hi : Option Int) : List D := (xs.drop (HT.sIx xs.length 0 lo)).take (HT.sIx xs.length xs.length hi - HT.sIx xs.length 0 lo)
theorem RepAll.cut {vs : List V} {xs : List D} (h : RepAll K B vs xs) (lo hi : Option Int) : RepAll K B (cutV vs lo hi) (cutD xs lo hi) := by
  unfold cutV cutD
  rw [h.length]
  exact (h.drop _).take _
def seqOf : D → Option (List D)
  | .lst xs => some xs
  | .scr ns => some (ns.map D.int)
  | _ => none
theorem seqOf_rep {xs : List D} (e : Ex B H) (h : RepK K B H v d) (q : seqOf d = some xs) : ∃ a vs, v = .ref a ∧ SqL K H a vs ∧ RepAll K B vs xs := by
  cases d with
  | lst ys =>
    cases q
    obtain ⟨a, vs, rfl, h1, h2⟩ := h.list e
    exact ⟨a, vs, rfl, sq_of h1, h2⟩
  | scr ns =>
    cases q
    obtain ⟨a, rfl, h1⟩ := (h.scal fun _ z => by cases z).script
    exact ⟨a, _, rfl, ex_l e h1, .of_ints ns⟩
  | _ => cases q
def eSl (fe : En → Option (R × En)) (fl fh : En → Option (Option Int × En)) : En → Option (R × En) := fun env => (fe env).bind fun a => (fl a.2).bind fun l => (fh l.2).bind fun h => (look h.2 a.1).bind fun d => (seqOf d).map fun xs => (.fr (cutD xs l.1 h.1), h.2)
theorem se_sl {tl th : TO} {fl fh : En → Option (Option Int × En)} (h1 : SE K te fe) (h2 : SO K tl fl) (h3 : SO K th fh) : SE K (tSl (rSlL K) te tl th) (eSl fe fl fh) := by
  intro C hC B env σ H r env' s e Q hq
  obtain ⟨⟨ra, e1⟩, g1, e⟩ := Option.bind_eq_some_iff.mp e
  obtain ⟨⟨l, e2⟩, g2, e⟩ := Option.bind_eq_some_iff.mp e
  obtain ⟨⟨h, e3⟩, g3, e⟩ := Option.bind_eq_some_iff.mp e
  obtain ⟨d, g4, e⟩ := Option.bind_eq_some_iff.mp e
  obtain ⟨xs, g5, e⟩ := Option.map_eq_some_iff.mp e
  cases e
  refine h1 C hC B env σ H ra e1 s g1 _ fun v B1 H1 s1 x1 r1 => ?_
  refine h2.temp hC s1 g2 r1.tmp fun B2 H2 s2 x2 t2 => ?_
  have r2 := r1.keep x2 t2
  refine h3.temp hC s2 g3 r2.tmp fun B3 H3 s3 x3 t3 => ?_
  have r3 := r2.keep x3 t3
  have k := look_rep s3 r3 g4
  rw [hC] at k
  obtain ⟨a, vs, rfl, q1, q2⟩ := seqOf_rep s3.exB k g5
  refine ⟨a, vs, rfl, q1, fun p hp => ?_⟩
  exact hq (.ref p) B3 _ (s3.temp hp) ((x1.trans x2).trans x3) (s3.newL hp (by rw [hC]; exact q2.cut _ _))
end
end Vm

set_option Elab.async false
set_option linter.all false
set_option maxRecDepth 100000
namespace Vm
open PySem PySem.Spec PyProof.Rows L2 Evl
section
variable {K : PySem.W.Frag} {C : Ctx} {B B' G H H' : Hp} {env env' : En} {σ : L2.St} {v : V} {r : R} {d : D} {ta tb te : TE} {fa fb fe : En → Option (R × En)} {f : En → Option (R × En)} {X : Cx} {fix : List Nat} {W : WX}

/-! ### targets -/
def Only (tv : List Nat) (σ σ' : L2.St) : Prop := σ'.length = σ.length ∧ ∀ i, i ∉ tv → σ'[i]? = σ[i]?
def SG (K : PySem.W.Frag) (fix : List Nat) (tv : List Nat) (g : TG) (f : D → En → Option En) : Prop :=
  ∀ C : Ctx, C.K = K → C.fix = fix → ∀ (B : Hp) (env : En) (σ : L2.St) (H : Hp) (v : V) (d : D) (env' : En), SR C B env σ H → Rep K B v d → f d env = some env' →
    ∀ Q : L2.St → Hp → Prop, (∀ σ', SR C B env' σ' H → Only tv σ σ' → Q σ' H) → g v σ H Q
def SGs (K : PySem.W.Frag) (fix : List Nat) (tv : List Nat) (g : TGs) (f : List D → En → Option En) : Prop :=
  ∀ C : Ctx, C.K = K → C.fix = fix → ∀ (B : Hp) (env : En) (σ : L2.St) (H : Hp) (vs : List V) (ds : List D) (env' : En), SR C B env σ H → RepAll K B vs ds → f ds env = some env' →
    ∀ Q : L2.St → Hp → Prop, (∀ σ', SR C B env' σ' H → Only tv σ σ' → Q σ' H) → g vs σ H Q
def tgName (i : Nat) : D → En → Option En := fun d env => some (env.set i (.sh d))
theorem sg_name {i : Nat} (hi : i ∉ fix) : SG K fix [i] (gName i) (tgName i) := by
  intro C hC hF B env σ H v d env' s rv e Q hq
  cases e
  subst hC hF
  exact hq _ (s.setV hi rv) ⟨by rw [List.length_set], fun j hj => List.getElem?_set_ne fun e => hj (by rw [e]; exact List.mem_cons_self)⟩
def tgNil : List D → En → Option En := fun ds env => match ds with
  | [] => some env
  | _ => none
def tgCons (f : D → En → Option En) (g : List D → En → Option En) : List D → En → Option En := fun ds env => match ds with
  | d :: ds => (f d env).bind fun e => g ds e
  | [] => none
theorem sgs_nil : SGs K fix [] gNil tgNil := by
  intro C hC hF B env σ H vs ds env' s ra e Q hq
  cases ra with
  | nil =>
    cases e
    exact ⟨rfl, hq σ s ⟨rfl, fun _ _ => rfl⟩⟩
  | cons _ _ => cases e
theorem sgs_cons {tv tw : List Nat} {t : TG} {u : TGs} {f : D → En → Option En} {g : List D → En → Option En} (h1 : SG K fix tv t f) (h2 : SGs K fix tw u g) : SGs K fix (tv ++ tw) (gCons t u) (tgCons f g) := by
  intro C hC hF B env σ H vs ds env' s ra e Q hq
  cases ra with
  | nil => cases e
  | cons rv ra =>
    obtain ⟨e1, g1, e⟩ := Option.bind_eq_some_iff.mp e
    exact ⟨_, _, rfl, h1 C hC hF B env σ H _ _ e1 s rv g1 _ fun σ' s' k1 => h2 C hC hF B e1 σ' H _ _ env' s' ra e Q fun σ2 s2 k2 => hq σ2 s2 ⟨k2.1.trans k1.1, fun i hi => (k2.2 i fun z => hi (List.mem_append_right _ z)).trans (k1.2 i fun z => hi (List.mem_append_left _ z))⟩⟩
def tgTup (n : Nat) (g : List D → En → Option En) : D → En → Option En := fun d env => match d with
  | .tup xs => if xs.length = n then g xs env else none
  | _ => none
theorem sg_tup {n : Nat} {tv : List Nat} {u : TGs} {g : List D → En → Option En} (h : SGs K fix tv u g) : SG K fix tv (gTup K n u) (tgTup n g) := by
  intro C hC hF B env σ H v d env' s rv e Q hq
  unfold tgTup at e
  split at e
  · split at e
    · rename_i hl
      obtain ⟨a, vs, rfl, h1, h2⟩ := rv.tuple
      exact ⟨a, vs, rfl, ex_t s.exB h1, by rw [h2.length]; exact hl, h C hC hF B env σ H _ _ env' s h2 e Q hq⟩
    · cases e
  · cases e

/-! ### statements -/
/-- the class of errors that the module calls c -/
inductive Out where
  | nx (env : En) | rt (r : R) (env : En) | bk (env : En) | ct (env : En) | er (c : Str) (env : En)
def Post (C : Ctx) (B : Hp) (W : WX) (D : Ends) : Out → Prop
  | .nx env' => ∀ B' σ' H', SR C B' env' σ' H' → Ex B B' → D.nx σ' H'
  | .rt r env' => ∀ v B' σ' H', SR C B' env' σ' H' → Ex B B' → RepR C B' env' σ' H' v r → D.rt v H'
  | .bk env' => ∀ B' σ' H', SR C B' env' σ' H' → Ex B B' → D.bk σ' H'
  | .ct env' => ∀ B' σ' H', SR C B' env' σ' H' → Ex B B' → D.ct σ' H'
  | .er c env' => ∀ B' σ' H', SR C B' env' σ' H' → Ex B B' → W (.ref (clsOf C.K c)) none σ' H'
theorem Post.mono {D : Ends} {o : Out} (x : Ex B B') (h : Post C B W D o) : Post C B' W D o := by
  cases o with
  | nx e => exact fun B2 σ' H' s x2 => h B2 σ' H' s (x.trans x2)
  | rt r e => exact fun v B2 σ' H' s x2 => h v B2 σ' H' s (x.trans x2)
  | bk e => exact fun B2 σ' H' s x2 => h B2 σ' H' s (x.trans x2)
  | ct e => exact fun B2 σ' H' s x2 => h B2 σ' H' s (x.trans x2)
  | er c e => exact fun B2 σ' H' s x2 => h B2 σ' H' s (x.trans x2)
def SS (K : PySem.W.Frag) (fix : List Nat) (W : WX) (t : TS) (F : En → Option Out) : Prop :=
  ∀ C : Ctx, C.K = K → C.fix = fix → ∀ (B : Hp) (env : En) (σ : L2.St) (H : Hp) (o : Out), SR C B env σ H → F env = some o → ∀ D : Ends, Post C B W D o → t D σ H
def sNext : En → Option Out := fun env => some (.nx env)
theorem ss_next : SS K fix W tNext sNext := by
  intro C hC hF B env σ H o s e D p
  cases e
  exact p B σ H s (Ex.refl _)
def sSeq (F G : En → Option Out) : En → Option Out := fun env => (F env).bind fun o => match o with
  | .nx e1 => G e1
  | o => some o
theorem ss_seq {t u : TS} {F G : En → Option Out} (h1 : SS K fix W t F) (h2 : SS K fix W u G) : SS K fix W (tSeq t u) (sSeq F G) := by
  intro C hC hF B env σ H o s e D p
  obtain ⟨o1, g1, e⟩ := Option.bind_eq_some_iff.mp e
  refine h1 C hC hF B env σ H o1 s g1 _ ?_
  cases o1 with
  | nx e1 => exact fun B' σ' H' s' x => h2 C hC hF B' e1 σ' H' o s' e D (p.mono x)
  | rt r e1 => cases e; exact p
  | bk e1 => cases e; exact p
  | ct e1 => cases e; exact p
  | er c e1 => cases e; exact p
def sBreak : En → Option Out := fun env => some (.bk env)
theorem ss_break : SS K fix W tBreak sBreak := by
  intro C hC hF B env σ H o s e D p
  cases e
  exact p B σ H s (Ex.refl _)
def sCont : En → Option Out := fun env => some (.ct env)
theorem ss_cont : SS K fix W tCont sCont := by
  intro C hC hF B env σ H o s e D p
  cases e
  exact p B σ H s (Ex.refl _)
def sExpr (f : En → Option (R × En)) : En → Option Out := fun env => (f env).map fun a => .nx a.2
theorem ss_expr (h : SE K te f) : SS K fix W (tDrop te) (sExpr f) := by
  intro C hC hF B env σ H o s e D p
  obtain ⟨⟨a, e1⟩, g1, rfl⟩ := Option.map_eq_some_iff.mp e
  exact h C hC B env σ H a e1 s g1 _ fun v B' H' s' x _ => p B' σ H' s' x
def sRet (f : En → Option (R × En)) : En → Option Out := fun env => (f env).map fun a => .rt a.1 a.2
theorem ss_ret (h : SE K te f) : SS K fix W (tRet te) (sRet f) := by
  intro C hC hF B env σ H o s e D p
  obtain ⟨⟨a, e1⟩, g1, rfl⟩ := Option.map_eq_some_iff.mp e
  exact h C hC B env σ H a e1 s g1 _ fun v B' H' s' x rr => p v B' σ H' s' x rr
def sRetN : En → Option Out := fun env => some (.rt (.val .non) env)
theorem ss_retN : SS K fix W tRetN sRetN := by
  intro C hC hF B env σ H o s e D p
  cases e
  exact p .non B σ H s (Ex.refl _) .non
def sIf (g : En → Option (Bool × En)) (F G : En → Option Out) : En → Option Out := fun env => (g env).bind fun a => if a.1 then F a.2 else G a.2
theorem ss_if {c : TT} {t u : TS} {g : En → Option (Bool × En)} {F G : En → Option Out} (hc : ST K c g) (h1 : SS K fix W t F) (h2 : SS K fix W u G) : SS K fix W (tIfS c t u) (sIf g F G) := by
  intro C hC hF B env σ H o s e D p
  obtain ⟨⟨b, e1⟩, g1, e⟩ := Option.bind_eq_some_iff.mp e
  refine hc C hC B env σ H b e1 s g1 _ fun B' H' s' x => ?_
  cases b with
  | true =>
    show t D σ H'
    exact h1 C hC hF B' e1 σ H' o s' e D (p.mono x)
  | false =>
    show u D σ H'
    exact h2 C hC hF B' e1 σ H' o s' e D (p.mono x)
def sSet (i : Nat) (f : En → Option (R × En)) : En → Option Out := fun env => (f env).bind fun a => (store i a.1 a.2).map Out.nx
theorem ss_set {i : Nat} (h : SE K te f) (hi : i ∉ fix) : SS K fix W (tAsg te (gName i)) (sSet i f) := by
  intro C hC hF B env σ H o s e D p
  obtain ⟨⟨a, e1⟩, g1, e⟩ := Option.bind_eq_some_iff.mp e
  obtain ⟨e2, g2, rfl⟩ := Option.map_eq_some_iff.mp e
  refine h C hC B env σ H a e1 s g1 _ fun v B' H' s' x rr => ?_
  obtain ⟨B2, s2, x2⟩ := store_ok s' (by rw [hF]; exact hi) rr g2
  exact p B2 _ H' s2 (x.trans x2)
/-- any other target: the value is data -/
def sAsg (f : En → Option (R × En)) (g : D → En → Option En) : En → Option Out := fun env => (f env).bind fun a => (frz a.2 a.1).bind fun b => (g b.1 b.2).map Out.nx
theorem ss_asg {g : TG} {tv : List Nat} {gf : D → En → Option En} (h : SE K te f) (hg : SG K fix tv g gf) : SS K fix W (tAsg te g) (sAsg f gf) := by
  intro C hC hF B env σ H o s e D p
  obtain ⟨⟨a, e1⟩, g1, e⟩ := Option.bind_eq_some_iff.mp e
  obtain ⟨⟨d, e2⟩, g2, e⟩ := Option.bind_eq_some_iff.mp e
  obtain ⟨e3, g3, rfl⟩ := Option.map_eq_some_iff.mp e
  refine h C hC B env σ H a e1 s g1 _ fun v B' H' s' x rr => ?_
  obtain ⟨B2, s2, x2, r2⟩ := frz_rep s' rr g2
  rw [hC] at r2
  exact hg C hC hF B2 e2 σ H' v d e3 s2 r2 g3 _ fun σ' s3 _ => p B2 σ' H' s3 (x.trans x2)
/-- xs[k] = e, xs a list of the function's own -/
def sPut (i : Nat) (fe fk : En → Option (R × En)) : En → Option Out := fun env => (fe env).bind fun a => (frz a.2 a.1).bind fun b => (own b.2 i).bind fun _ => (fk b.2).bind fun k => match k.1 with
  | .val (.int z) => (own k.2 i).bind fun xs => (ixN xs.length z).map fun j => .nx (k.2.set i (.ow (xs.set j b.1)))
  | _ => none
theorem ss_put {i : Nat} {tk : TE} {fk : En → Option (R × En)} (h : SE K te fe) (hk : SE K tk fk) : SS K fix W (tAsg te (gSub (tVar i) tk rSetL)) (sPut i fe fk) := by
  intro C hC hF B env σ H o s e D p
  obtain ⟨⟨a, e1⟩, g1, e⟩ := Option.bind_eq_some_iff.mp e
  obtain ⟨⟨d, e2⟩, g2, e⟩ := Option.bind_eq_some_iff.mp e
  obtain ⟨xs0, g0, e⟩ := Option.bind_eq_some_iff.mp e
  obtain ⟨⟨k, e3⟩, g3, e⟩ := Option.bind_eq_some_iff.mp e
  split at e
  · rename_i z hz
    simp only at hz
    subst hz
    obtain ⟨xs, g4, e⟩ := Option.bind_eq_some_iff.mp e
    obtain ⟨j, g5, rfl⟩ := Option.map_eq_some_iff.mp e
    refine h C hC B env σ H a e1 s g1 _ fun v B1 H1 s1 x1 rr => ?_
    obtain ⟨B2, s2, x2, r2⟩ := frz_rep s1 rr g2
    obtain ⟨q, vs0, hs, _⟩ := s2.sl i _ (own_some g0)
    refine ⟨.ref q, hs, ?_⟩
    refine hk C hC B2 e2 σ H1 _ e3 s2 g3 _ fun w B3 H3 s3 x3 rk => ?_
    have rk : Rep C.K B3 w (.int z) := rk
    cases rk
    obtain ⟨q', vs, hs', bq, gq, hq, ra⟩ := s3.sl i _ (own_some g4)
    rw [hs] at hs'
    cases hs'
    refine ⟨q, vs, z, j, rfl, rfl, hq, by rw [ra.length]; exact g5, ?_⟩
    exact p B3 σ _ (s3.put (own_some g4) hs (RepAll.set (r2.mono x3) j ra)) ((x1.trans x2).trans x3)
  · cases e
/-- x += e, a number or a text -/
def sAug (i : Nat) (g : D → D → Option D) (f : En → Option (R × En)) : En → Option Out := fun env => match env[i]? with
  | some (.sh x) => (f env).bind fun a => (look a.2 a.1).bind fun y => (g x y).map fun z => .nx (a.2.set i (.sh z))
  | _ => none
def RIp (K : PySem.W.Frag) (ti : TIp) (g : D → D → Option D) : Prop := ∀ (B H : Hp) (x y : V) (dx dy z : D), Ex B H → RepK K B H x dx → RepK K B H y dy → g dx dy = some z → ∃ v, sc z = some v ∧ ∀ Q : VK, Q v H → ti x y H Q
theorem ss_aug {i : Nat} {ti : TIp} {g : D → D → Option D} (h : SE K te f) (hg : RIp K ti g) (hi : i ∉ fix) : SS K fix W (tAug i te ti) (sAug i g f) := by
  intro C hC hF B env σ H o s e D p
  unfold sAug at e
  split at e
  · rename_i x hx
    obtain ⟨⟨a, e1⟩, g1, e⟩ := Option.bind_eq_some_iff.mp e
    obtain ⟨y, g2, e⟩ := Option.bind_eq_some_iff.mp e
    obtain ⟨z, g3, rfl⟩ := Option.map_eq_some_iff.mp e
    obtain ⟨v, hv, rv⟩ := s.sl i _ hx
    refine ⟨v, hv, ?_⟩
    refine h C hC B env σ H a e1 s g1 _ fun w B1 H1 s1 x1 rr => ?_
    have k := look_rep s1 rr g2
    rw [hC] at k
    have r1 := rv.mono x1
    rw [hC] at r1
    obtain ⟨u, hu, go⟩ := hg B1 H1 v w x y z s1.exB (.inl r1) k g3
    refine go _ ?_
    exact p B1 _ H1 (s1.setV (by rw [hF]; exact hi) (sc_rep hu)) x1
  · cases e
theorem rip_I {g : Int → Int → Int} : RIp K (ipI g) (dI yes2 fun i j => .int (g i j)) := by
  intro B H x y dx dy z e rx ry h
  obtain ⟨i, j, rfl, rfl, _, rfl⟩ := dI_some h
  exact ⟨_, rfl, fun Q q => ⟨i, j, rx.int, ry.int, q⟩⟩
/-- xs[k] += e, xs a list of the function's own -/
def sPutAug (i : Nat) (g : D → D → Option D) (fk fe : En → Option (R × En)) : En → Option Out := fun env => (own env i).bind fun _ => (fk env).bind fun k => match k.1 with
  | .val (.int z) => (own k.2 i).bind fun xs => (atI xs z).bind fun x => (fe k.2).bind fun a => (look a.2 a.1).bind fun y => (g x y).bind fun w => (own a.2 i).bind fun ys => (ixN ys.length z).map fun j => .nx (a.2.set i (.ow (ys.set j w)))
  | _ => none
theorem ss_putAug {i : Nat} {tk : TE} {ti : TIp} {g : D → D → Option D} {fk : En → Option (R × En)} (hk : SE K tk fk) (h : SE K te fe) (hg : RIp K ti g) : SS K fix W (tAugS (tVar i) tk te (rIxL K) ti rSetL) (sPutAug i g fk fe) := by
  intro C hC hF B env σ H o s e D p
  obtain ⟨xs0, g0, e⟩ := Option.bind_eq_some_iff.mp e
  obtain ⟨⟨k, e1⟩, g1, e⟩ := Option.bind_eq_some_iff.mp e
  split at e
  · rename_i z hz
    simp only at hz
    subst hz
    obtain ⟨xs, g2, e⟩ := Option.bind_eq_some_iff.mp e
    obtain ⟨x, g3, e⟩ := Option.bind_eq_some_iff.mp e
    obtain ⟨⟨a, e2⟩, g4, e⟩ := Option.bind_eq_some_iff.mp e
    obtain ⟨y, g5, e⟩ := Option.bind_eq_some_iff.mp e
    obtain ⟨w, g6, e⟩ := Option.bind_eq_some_iff.mp e
    obtain ⟨ys, g7, e⟩ := Option.bind_eq_some_iff.mp e
    obtain ⟨j, g8, rfl⟩ := Option.map_eq_some_iff.mp e
    obtain ⟨q, vs0, hs, _⟩ := s.sl i _ (own_some g0)
    refine ⟨.ref q, hs, ?_⟩
    refine hk C hC B env σ H _ e1 s g1 _ fun u B1 H1 s1 x1 rk => ?_
    have rk : Rep C.K B1 u (.int z) := rk
    cases rk
    obtain ⟨q', vs, hs', bq, gq, hq, ra⟩ := s1.sl i _ (own_some g2)
    rw [hs] at hs'
    cases hs'
    obtain ⟨xv, hx, rx⟩ := repAll_at ra g3
    refine ⟨q, vs, z, xv, rfl, rfl, sq_of hq, hx, ?_⟩
    refine h C hC B1 e1 σ H1 a e2 s1 g4 _ fun yv B2 H2 s2 x2 ry => ?_
    have ky := look_rep s2 ry g5
    rw [hC] at ky
    have r1 := rx.mono x2
    rw [hC] at r1
    obtain ⟨wv, hw, go⟩ := hg B2 H2 xv yv x y w s2.exB (.inl r1) ky g6
    refine go _ ?_
    obtain ⟨q', vs', hs', bq', gq', hq', ra'⟩ := s2.sl i _ (own_some g7)
    rw [hs] at hs'
    cases hs'
    refine ⟨q, vs', z, j, rfl, rfl, hq', by rw [ra'.length]; exact g8, ?_⟩
    exact p B2 σ _ (s2.put (own_some g7) hs (RepAll.set (sc_rep hw) j ra')) (x1.trans x2)
  · cases e
/-- a result that is no alias -/
def fz (env : En) : R → Option (R × En)
  | .fr xs => some (.fr xs, env)
  | r => (frz env r).map fun a => (.val a.1, a.2)
def isFr : R → Bool
  | .fr _ => true
  | _ => false
/-- a, b = x, y: one of them may be a new list; two new ones are data -/
def sPar (i j : Nat) (f : En → Option (List R × En)) : En → Option Out := fun env => (f env).bind fun a => match a.1 with
  | [.val d1, .val d2] => some (.nx ((a.2.set i (.sh d1)).set j (.sh d2)))
  | [.val d1, .fr xs] => some (.nx ((a.2.set i (.sh d1)).set j (.ow xs)))
  | [.fr xs, .val d2] => some (.nx ((a.2.set i (.ow xs)).set j (.sh d2)))
  | [r1, r2] => (frzs a.2 [r1, r2]).bind fun b => match b.1 with
    | [d1, d2] => some (.nx ((b.2.set i (.sh d1)).set j (.sh d2)))
    | _ => none
  | _ => none
theorem off_set {q : Addr} {i : Nat} {d : D} {v : V} (o : Off env σ q) : Off (env.set i (.sh d)) (σ.set i (some v)) q := fun k ys h h2 => by
  by_cases hk : i = k
  · subst hk
    by_cases hl : i < env.length
    · rw [List.getElem?_set_self hl] at h
      cases h
    · rw [List.getElem?_eq_none (by rw [List.length_set]; omega)] at h
      cases h
  · rw [List.getElem?_set_ne hk] at h h2
    exact o k ys h h2
theorem ss_par {i j : Nat} {ta : TA} {f : En → Option (List R × En)} (h : SA K ta f) (hi : i ∉ fix) (hj : j ∉ fix) : SS K fix W (tPar i j ta) (sPar i j f) := by
  intro C hC hF B env σ H o s e D p
  obtain ⟨⟨rs, e1⟩, g1, e⟩ := Option.bind_eq_some_iff.mp e
  refine h C hC B env σ H rs e1 s g1 _ fun vs B1 H1 s1 x1 rr => ?_
  split at e
  · rename_i d1 d2 hr
    simp only at hr
    subst hr
    cases e
    match vs, rr with
    | [v, w], ⟨rv, rw', _⟩ =>
      refine ⟨v, w, rfl, ?_⟩
      have s3 := s1.setV (i := i) (v := v) (t := .sh d1) (by rw [hF]; exact hi) rv
      have s4 := s3.setV (i := j) (v := w) (t := .sh d2) (by rw [hF]; exact hj) rw'
      exact p B1 _ H1 s4 x1
  · rename_i d1 xs hr
    simp only at hr
    subst hr
    cases e
    match vs, rr with
    | [v, w], ⟨rv, rw', _⟩ =>
      refine ⟨v, w, rfl, ?_⟩
      have s3 := s1.setV (i := i) (v := v) (t := .sh d1) (by rw [hF]; exact hi) rv
      obtain ⟨q, ws, rfl, bq, gq, hq, ra, off⟩ := rw'
      have s4 := s3.setV (i := j) (v := .ref q) (t := .ow xs) (by rw [hF]; exact hj) ⟨q, ws, rfl, bq, gq, hq, ra, off_un (off_set off) j⟩
      exact p B1 _ H1 s4 x1
  · rename_i xs d2 hr
    simp only at hr
    subst hr
    cases e
    match vs, rr with
    | [v, w], ⟨rv, rw', _⟩ =>
      refine ⟨v, w, rfl, ?_⟩
      obtain ⟨q, ws, rfl, bq, gq, hq, ra, off⟩ := rv
      have s3 := s1.setV (i := i) (v := .ref q) (t := .ow xs) (by rw [hF]; exact hi) ⟨q, ws, rfl, bq, gq, hq, ra, off_un off i⟩
      have s4 := s3.setV (i := j) (v := w) (t := .sh d2) (by rw [hF]; exact hj) rw'
      exact p B1 _ H1 s4 x1
  · rename_i r1 r2 _ _ _ hr
    simp only at hr
    subst hr
    obtain ⟨⟨ds, e2⟩, g2, e⟩ := Option.bind_eq_some_iff.mp e
    split at e
    · rename_i d1 d2 hd
      simp only at hd
      subst hd
      cases e
      obtain ⟨B2, s2, x2, ra⟩ := frzs_w s1 rr.w g2
      match vs, ra with
      | [v, w], .cons rv (.cons rw' .nil) =>
        refine ⟨v, w, rfl, ?_⟩
        have s3 := s2.setV (i := i) (v := v) (t := .sh d1) (by rw [hF]; exact hi) rv
        have s4 := s3.setV (i := j) (v := w) (t := .sh d2) (by rw [hF]; exact hj) rw'
        exact p B2 _ H1 s4 (x1.trans x2)
    · cases e
  · cases e

/-! ### loops -/
/-- what an iterator of these items does -/
def ItRep (K : PySem.W.Frag) (B : Hp) (J : It) (ds : List D) : Prop := ∀ H : Hp, Ex B H → ∀ i : Nat,
  (ds.length ≤ i → J.stop i H) ∧ ∀ d, ds[i]? = some d → J.go i H ∧ ∀ x H', J.yld i H x H' → (H' = H ∧ Rep K B x d) ∨ ∃ T vs xs, H T = none ∧ H' = upd H T (.tup vs) ∧ x = .ref T ∧ d = .tup xs ∧ RepAll K B vs xs
def SI (K : PySem.W.Frag) (w : TI) (f : En → Option (List D × En)) : Prop :=
  ∀ C : Ctx, C.K = K → ∀ (B : Hp) (env : En) (σ : L2.St) (H : Hp) (ds : List D) (env' : En), SR C B env σ H → f env = some (ds, env') →
    ∀ Q : It → Hp → Prop, (∀ J B' H', SR C B' env' σ H' → Ex B B' → ItRep K B' J ds → Q J H') → w σ H Q
def iSeq (f : En → Option (R × En)) : En → Option (List D × En) := fun env => (f env).bind fun a => (frz a.2 a.1).bind fun b => match b.1 with
  | .lst xs => some (xs, b.2)
  | .scr ns => some (ns.map D.int, b.2)
  | _ => none
theorem itRep_list {a : Addr} {vs : List V} {ds : List D} (h : SqL K B a vs) (ra : RepAll K B vs ds) : ItRep K B (Itl K a) ds := by
  intro H x i
  have h' := ex_l x h
  refine ⟨fun hi => ⟨vs, h', by rw [ra.length]; exact hi⟩, fun d hd => ?_⟩
  obtain ⟨v, hv, rv⟩ := ra.get hd
  refine ⟨⟨vs, v, h', hv⟩, fun y H' hy => .inl ⟨hy.1, ?_⟩⟩
  have := hy.2 vs h'
  rw [hv] at this
  cases this
  exact rv
theorem si_list (h : SE K te fe) : SI K (iList K te) (iSeq fe) := by
  intro C hC B env σ H ds env' s e Q hq
  obtain ⟨⟨a, e1⟩, g1, e⟩ := Option.bind_eq_some_iff.mp e
  obtain ⟨⟨d, e2⟩, g2, e⟩ := Option.bind_eq_some_iff.mp e
  refine h C hC B env σ H a e1 s g1 _ fun v B1 H1 s1 x1 rr => ?_
  obtain ⟨B2, s2, x2, r2⟩ := frz_rep s1 rr g2
  rw [hC] at r2
  split at e
  · rename_i xs hx
    simp only at hx
    subst hx
    cases e
    obtain ⟨p, vs, rfl, h1, h2⟩ := r2.list
    exact ⟨p, rfl, ⟨vs, sq_of (s2.exB _ _ h1)⟩, hq _ B2 H1 s2 (x1.trans x2) (itRep_list (sq_of h1) h2)⟩
  · rename_i ns hx
    simp only at hx
    subst hx
    cases e
    obtain ⟨p, rfl, h1⟩ := r2.script
    exact ⟨p, rfl, ⟨_, ex_l s2.exB h1⟩, hq _ B2 H1 s2 (x1.trans x2) (itRep_list h1 (.of_ints ns))⟩
  · cases e
def iTupF (f : En → Option (R × En)) : En → Option (List D × En) := fun env => (f env).bind fun a => match a.1 with
  | .val (.tup xs) => some (xs, a.2)
  | _ => none
theorem si_tup (h : SE K te fe) : SI K (iTup K te) (iTupF fe) := by
  intro C hC B env σ H ds env' s e Q hq
  obtain ⟨⟨a, e1⟩, g1, e⟩ := Option.bind_eq_some_iff.mp e
  split at e
  · rename_i xs hx
    simp only at hx
    subst hx
    cases e
    refine h C hC B env σ H _ e1 s g1 _ fun v B1 H1 s1 x1 rr => ?_
    have rr : Rep C.K B1 v (.tup ds) := rr
    rw [hC] at rr
    obtain ⟨p, vs, rfl, h1, h2⟩ := rr.tuple
    refine ⟨p, rfl, ⟨vs, ex_t s1.exB h1⟩, hq _ B1 H1 s1 x1 fun H x i => ?_⟩
    have h' := ex_t x h1
    refine ⟨fun hi => ⟨vs, h', by rw [h2.length]; exact hi⟩, fun d hd => ?_⟩
    obtain ⟨w, hv, rv⟩ := h2.get hd
    refine ⟨⟨vs, w, h', hv⟩, fun y H' hy => .inl ⟨hy.1, ?_⟩⟩
    have := hy.2 vs h'
    rw [hv] at this
    cases this
    exact rv
  · cases e
def upTo (lo : Int) (n : Nat) : List D := (List.range n).map fun i => .int (lo + (i : Nat))
theorem upTo_length (lo : Int) (n : Nat) : (upTo lo n).length = n := by simp [upTo]
theorem upTo_get {lo : Int} {n i : Nat} {d : D} (h : (upTo lo n)[i]? = some d) : i < n ∧ d = .int (lo + (i : Nat)) := by
  have hi : i < n := by
    have := (List.getElem?_eq_some_iff.mp h).1
    rw [upTo_length] at this
    exact this
  unfold upTo at h
  rw [List.getElem?_map, List.getElem?_range hi] at h
  exact ⟨hi, (Option.some.inj h).symm⟩
theorem itRep_range {lo : Int} {n : Nat} : ItRep K B (Itr lo n) (upTo lo n) := by
  intro H x i
  refine ⟨fun hi => by rw [upTo_length] at hi; exact hi, fun d hd => ?_⟩
  obtain ⟨h1, rfl⟩ := upTo_get hd
  refine ⟨h1, fun y H' hy => .inl ⟨hy.1, ?_⟩⟩
  rw [hy.2]
  exact .int _
def iR1 (f : En → Option (List R × En)) : En → Option (List D × En) := fun env => (aD f env).bind fun a => match a.1 with
  | [.int j] => if -(2 ^ 62) ≤ j ∧ j < 2 ^ 62 then some (upTo 0 j.toNat, a.2) else none
  | _ => none
def iR2 (f : En → Option (List R × En)) : En → Option (List D × En) := fun env => (aD f env).bind fun a => match a.1 with
  | [.int i, .int j] => if -(2 ^ 62) ≤ i ∧ i < 2 ^ 62 ∧ -(2 ^ 62) ≤ j ∧ j < 2 ^ 62 then some (upTo i (j - i).toNat, a.2) else none
  | _ => none
theorem si_r1 {ta : TA} {f : En → Option (List R × En)} (h : SA K ta f) : SI K (iRng1 ta) (iR1 f) := by
  intro C hC B env σ H ds env' s e Q hq
  obtain ⟨⟨as, e1⟩, g1, e⟩ := Option.bind_eq_some_iff.mp e
  obtain ⟨rs, e0, g2, g3⟩ := aD_some g1
  split at e
  · rename_i j hj
    simp only at hj
    subst hj
    split at e
    · rename_i hb
      cases e
      refine h C hC B env σ H rs e0 s g2 _ fun vs B1 H1 s1 x1 rr => ?_
      obtain ⟨B2, s2, x2, ra⟩ := frzs_w s1 rr.w g3
      match vs, ra with
      | [.int _], .cons (.int _) .nil => exact ⟨j, rfl, hb.1, hb.2, hq _ B2 H1 s2 (x1.trans x2) itRep_range⟩
    · cases e
  · cases e
theorem si_r2 {ta : TA} {f : En → Option (List R × En)} (h : SA K ta f) : SI K (iRng2 ta) (iR2 f) := by
  intro C hC B env σ H ds env' s e Q hq
  obtain ⟨⟨as, e1⟩, g1, e⟩ := Option.bind_eq_some_iff.mp e
  obtain ⟨rs, e0, g2, g3⟩ := aD_some g1
  split at e
  · rename_i i j hj
    simp only at hj
    subst hj
    split at e
    · rename_i hb
      cases e
      refine h C hC B env σ H rs e0 s g2 _ fun vs B1 H1 s1 x1 rr => ?_
      obtain ⟨B2, s2, x2, ra⟩ := frzs_w s1 rr.w g3
      match vs, ra with
      | [.int _, .int _], .cons (.int _) (.cons (.int _) .nil) => exact ⟨i, j, rfl, hb, hq _ B2 H1 s2 (x1.trans x2) itRep_range⟩
    · cases e
  · cases e
/-- the items with their places -/
def enumD : Nat → List D → List D
  | _, [] => []
  | k, d :: ds => .tup [.int k, d] :: enumD (k + 1) ds
theorem enumD_length : ∀ (k : Nat) (ds : List D), (enumD k ds).length = ds.length
  | _, [] => rfl
  | k, d :: ds => congrArg (· + 1) (enumD_length (k + 1) ds)
theorem enumD_get : ∀ (k : Nat) (ds : List D) (i : Nat) (d : D), (enumD k ds)[i]? = some d → ∃ x, ds[i]? = some x ∧ d = .tup [.int ((k + i : Nat) : Int), x]
  | _, [], i, d, h => by
    unfold enumD at h
    simp at h
  | k, x :: ds, 0, d, h => by
    unfold enumD at h
    simp at h
    exact ⟨x, rfl, h.symm⟩
  | k, x :: ds, i + 1, d, h => by
    unfold enumD at h
    obtain ⟨y, h1, h2⟩ := enumD_get (k + 1) ds i d (by simpa using h)
    exact ⟨y, by simpa using h1, by rw [h2, show k + 1 + i = k + (i + 1) by omega]⟩
def zipD : List D → List D → List D
  | x :: xs, y :: ys => .tup [x, y] :: zipD xs ys
  | _, _ => []
theorem zipD_length : ∀ xs ys : List D, (zipD xs ys).length = min xs.length ys.length
  | [], ys => by simp [zipD]
  | x :: xs, [] => by simp [zipD]
  | x :: xs, y :: ys => by
    simp only [zipD, List.length_cons, zipD_length xs ys]
    omega
theorem zipD_get : ∀ (xs ys : List D) (i : Nat) (d : D), (zipD xs ys)[i]? = some d → ∃ x y, xs[i]? = some x ∧ ys[i]? = some y ∧ d = .tup [x, y]
  | [], ys, i, d, h => by simp [zipD] at h
  | x :: xs, [], i, d, h => by simp [zipD] at h
  | x :: xs, y :: ys, 0, d, h => by
    simp [zipD] at h
    exact ⟨x, y, rfl, rfl, h.symm⟩
  | x :: xs, y :: ys, i + 1, d, h => by
    obtain ⟨a, b, h1, h2, h3⟩ := zipD_get xs ys i d (by simpa [zipD] using h)
    exact ⟨a, b, by simpa using h1, by simpa using h2, h3⟩
end
end Vm

set_option Elab.async false
set_option linter.all false
set_option maxRecDepth 100000
namespace Vm
open PySem PySem.Spec PyProof.Rows L2 Evl
section
variable {K : PySem.W.Frag} {C : Ctx} {B B' G H H' : Hp} {env env' : En} {σ : L2.St} {v : V} {r : R} {d : D} {ta tb te : TE} {fa fb fe : En → Option (R × En)} {f : En → Option (R × En)} {X : Cx} {fix : List Nat} {W : WX}

def iEnumF (f : En → Option (List R × En)) : En → Option (List D × En) := fun env => (aD f env).bind fun a => match a.1 with
  | [d] => (seqOf d).map fun xs => (enumD 0 xs, a.2)
  | _ => none
theorem seqOf_data {xs : List D} (h : Rep K B v d) (q : seqOf d = some xs) : ∃ a vs, v = .ref a ∧ SqL K B a vs ∧ RepAll K B vs xs := seqOf_rep (Ex.refl B) (.inl h) q
theorem si_enum {ta : TA} {f : En → Option (List R × En)} (h : SA K ta f) : SI K (iEnum K ta) (iEnumF f) := by
  intro C hC B env σ H ds env' s e Q hq
  obtain ⟨⟨as, e1⟩, g1, e⟩ := Option.bind_eq_some_iff.mp e
  obtain ⟨rs, e0, g2, g3⟩ := aD_some g1
  split at e
  · rename_i d hd
    simp only at hd
    subst hd
    obtain ⟨xs, g4, e⟩ := Option.map_eq_some_iff.mp e
    cases e
    refine h C hC B env σ H rs e0 s g2 _ fun vs B1 H1 s1 x1 rr => ?_
    obtain ⟨B2, s2, x2, ra⟩ := frzs_w s1 rr.w g3
    match vs, ra with
    | [v], .cons rv .nil =>
      rw [hC] at rv
      obtain ⟨a, ws, rfl, h1, h2⟩ := seqOf_data rv g4
      refine ⟨a, ws, rfl, ex_l s2.exB h1, hq _ B2 H1 s2 (x1.trans x2) fun H x i => ?_⟩
      have h' := ex_l x h1
      refine ⟨fun hi => ⟨ws, h', by rw [h2.length]; rw [enumD_length] at hi; exact hi⟩, fun d hd => ?_⟩
      obtain ⟨y, hy, rfl⟩ := enumD_get 0 xs i d hd
      obtain ⟨w, hw, rw'⟩ := h2.get hy
      refine ⟨⟨ws, w, h', hw⟩, fun z H' hz => .inr ?_⟩
      obtain ⟨T, x', rfl, nT, rfl, k⟩ := hz
      have := k ws h'
      rw [hw] at this
      cases this
      exact ⟨T, _, _, nT, rfl, rfl, rfl, .cons (by rw [Nat.zero_add]; exact .int _) (.one rw')⟩
  · cases e
def iZipF (f : En → Option (List R × En)) : En → Option (List D × En) := fun env => (aD f env).bind fun a => match a.1 with
  | [c, d] => (seqOf c).bind fun xs => (seqOf d).map fun ys => (zipD xs ys, a.2)
  | _ => none
theorem si_zip {ta : TA} {f : En → Option (List R × En)} (h : SA K ta f) : SI K (iZip K ta) (iZipF f) := by
  intro C hC B env σ H ds env' s e Q hq
  obtain ⟨⟨as, e1⟩, g1, e⟩ := Option.bind_eq_some_iff.mp e
  obtain ⟨rs, e0, g2, g3⟩ := aD_some g1
  split at e
  · rename_i c d hd
    simp only at hd
    subst hd
    obtain ⟨xs, g4, e⟩ := Option.bind_eq_some_iff.mp e
    obtain ⟨ys, g5, e⟩ := Option.map_eq_some_iff.mp e
    cases e
    refine h C hC B env σ H rs e0 s g2 _ fun vs B1 H1 s1 x1 rr => ?_
    obtain ⟨B2, s2, x2, ra⟩ := frzs_w s1 rr.w g3
    match vs, ra with
    | [v, u], .cons rv (.cons ru .nil) =>
      rw [hC] at rv ru
      obtain ⟨a, ws, rfl, h1, h2⟩ := seqOf_data rv g4
      obtain ⟨b, us, rfl, h3, h4⟩ := seqOf_data ru g5
      refine ⟨a, b, ws, us, rfl, ex_l s2.exB h1, ex_l s2.exB h3, hq _ B2 H1 s2 (x1.trans x2) fun H x i => ?_⟩
      have h' := ex_l x h1
      have h3' := ex_l x h3
      refine ⟨fun hi => ⟨ws, us, h', h3', by rw [h2.length, h4.length]; rw [zipD_length] at hi; omega⟩, fun d hd => ?_⟩
      obtain ⟨y, z, hy, hz, rfl⟩ := zipD_get xs ys i d hd
      obtain ⟨w, hw, rw'⟩ := h2.get hy
      obtain ⟨u, hu, ru'⟩ := h4.get hz
      refine ⟨⟨ws, us, w, u, h', h3', hw, hu⟩, fun q H' hq' => .inr ?_⟩
      obtain ⟨T, x', y', rfl, nT, rfl, k1, k2⟩ := hq'
      have q1 := k1 ws h'
      have q2 := k2 us h3'
      rw [hw] at q1
      rw [hu] at q2
      cases q1
      cases q2
      exact ⟨T, _, _, nT, rfl, rfl, rfl, .cons rw' (.one ru')⟩
  · cases e

def loopS (tgt : D → En → Option En) (body : En → Option Out) : List D → En → Option Out
  | [], env => some (.nx env)
  | d :: ds, env => (tgt d env).bind fun e1 => (body e1).bind fun o => match o with
    | .nx e2 => loopS tgt body ds e2
    | .ct e2 => loopS tgt body ds e2
    | .bk e2 => some (.nx e2)
    | o => some o
def sFor (fi : En → Option (List D × En)) (tgt : D → En → Option En) (body : En → Option Out) : En → Option Out := fun env => (fi env).bind fun a => loopS tgt body a.1 a.2
theorem ss_for {wi : TI} {g : TG} {tv : List Nat} {tb : TS} {fi : En → Option (List D × En)} {tgt : D → En → Option En} {body : En → Option Out} (hi : SI K wi fi) (hg : SG K fix tv g tgt) (hb : SS K fix W tb body) : SS K fix W (tFor wi g tb) (sFor fi tgt body) := by
  intro C hC hF B env σ H o s e Dn p
  obtain ⟨⟨ds, e0⟩, g0, e⟩ := Option.bind_eq_some_iff.mp e
  refine hi C hC B env σ H ds e0 s g0 _ fun J B0 H0 s0 x0 hJ => ?_
  refine ⟨fun i m σ' H' => m + i = ds.length ∧ ∃ B1 e1, SR C B1 e1 σ' H' ∧ Ex B0 B1 ∧ loopS tgt body (ds.drop i) e1 = some o, ⟨ds.length, by omega, B0, e0, s0, Ex.refl _, by simpa using e⟩, ?_⟩
  rintro i m σ1 H1 ⟨hm, B1, e1, s1, x1, hl⟩
  obtain ⟨hs, hgo⟩ := hJ H1 (fun a u q => s1.exB a u (x1 a u q)) i
  cases hd : ds[i]? with
  | none =>
    have hle : ds.length ≤ i := List.getElem?_eq_none_iff.mp hd
    refine .inl ⟨hs hle, ?_⟩
    rw [List.drop_eq_nil_of_le hle] at hl
    cases hl
    exact p B1 σ1 H1 s1 (x0.trans x1)
  | some d =>
    have hlt : i < ds.length := (List.getElem?_eq_some_iff.mp hd).1
    have hdrop : ds.drop i = d :: ds.drop (i + 1) := by
      rw [List.drop_eq_getElem_cons hlt]
      have : ds[i] = d := by
        rw [List.getElem?_eq_getElem hlt] at hd
        exact Option.some.inj hd
      rw [this]
    rw [hdrop] at hl
    obtain ⟨e2, g2, hl⟩ := Option.bind_eq_some_iff.mp hl
    obtain ⟨o2, g3, hl⟩ := Option.bind_eq_some_iff.mp hl
    obtain ⟨go, hy⟩ := hgo d hd
    refine .inr ⟨go, fun σ' H' => ∃ B2 e3, SR C B2 e3 σ' H' ∧ Ex B0 B2 ∧ loopS tgt body (ds.drop (i + 1)) e3 = some o, fun σ' H' ⟨B2, e3, q1, q2, q3⟩ => ⟨m - 1, by omega, by omega, B2, e3, q1, q2, q3⟩, fun x H' hx => ?_⟩
    -- the turn's item as data
    have item : ∃ B2, SR C B2 e1 σ1 H' ∧ Ex B1 B2 ∧ Rep K B2 x d := by
      rcases hy x H' hx with ⟨rfl, rx⟩ | ⟨T, vs, xs, nT, rfl, rfl, rfl, ra⟩
      · exact ⟨B1, s1, Ex.refl _, rx.mono x1⟩
      · have bT := fresh_back s1.exB nT
        exact ⟨_, s1.alloc nT, Ex.new bT, .tup (st_of upd_same) (ra.mono (x1.trans (Ex.new bT)))⟩
    obtain ⟨B2, s2, x2, rx⟩ := item
    refine hg C hC hF B2 e1 σ1 H' x d e2 s2 rx g2 _ fun σ2 s3 _ => ?_
    refine hb C hC hF B2 e2 σ2 H' o2 s3 g3 _ ?_
    have x12 := x1.trans x2
    cases o2 with
    | nx e3 => exact fun B3 σ3 H3 s4 x4 => ⟨B3, e3, s4, x12.trans x4, hl⟩
    | ct e3 => exact fun B3 σ3 H3 s4 x4 => ⟨B3, e3, s4, x12.trans x4, hl⟩
    | bk e3 =>
      cases hl
      exact fun B3 σ3 H3 s4 x4 => p B3 σ3 H3 s4 (x0.trans (x12.trans x4))
    | rt r e3 =>
      cases hl
      exact fun v B3 σ3 H3 s4 x4 rr => p v B3 σ3 H3 s4 (x0.trans (x12.trans x4)) rr
    | er c e3 =>
      cases hl
      exact fun B3 σ3 H3 s4 x4 => p B3 σ3 H3 s4 (x0.trans (x12.trans x4))

def loopW (test : En → Option (Bool × En)) (body : En → Option Out) : Nat → En → Option Out
  | 0, _ => none
  | n + 1, env => (test env).bind fun b => if b.1 then (body b.2).bind fun o => match o with
      | .nx e2 => loopW test body n e2
      | .ct e2 => loopW test body n e2
      | .bk e2 => some (.nx e2)
      | o => some o
    else some (.nx b.2)
def sWhile (fuel : Nat) (test : En → Option (Bool × En)) (body : En → Option Out) : En → Option Out := loopW test body fuel
theorem ss_while {c : TT} {tb : TS} {test : En → Option (Bool × En)} {body : En → Option Out} (fuel : Nat) (hc : ST K c test) (hb : SS K fix W tb body) : SS K fix W (tWhile c tb) (sWhile fuel test body) := by
  intro C hC hF B env σ H o s e Dn p
  refine ⟨fun n σ' H' => ∃ B1 e1, SR C B1 e1 σ' H' ∧ Ex B B1 ∧ loopW test body n e1 = some o, ⟨fuel, B, env, s, Ex.refl _, e⟩, ?_⟩
  rintro n σ1 H1 ⟨B1, e1, s1, x1, hl⟩
  cases n with
  | zero => cases hl
  | succ n =>
    obtain ⟨⟨b, e2⟩, g1, hl⟩ := Option.bind_eq_some_iff.mp hl
    refine hc C hC B1 e1 σ1 H1 b e2 s1 g1 _ fun B2 H2 s2 x2 => ?_
    cases b with
    | false =>
      cases hl
      exact p B2 σ1 H2 s2 (x1.trans x2)
    | true =>
      obtain ⟨o2, g3, hl⟩ := Option.bind_eq_some_iff.mp hl
      show ∃ N : L2.St → Hp → Prop, _
      refine ⟨fun σ' H' => ∃ B2 e3, SR C B2 e3 σ' H' ∧ Ex B B2 ∧ loopW test body n e3 = some o, fun σ' H' ⟨B3, e3, q1, q2, q3⟩ => ⟨n, Nat.lt_succ_self n, B3, e3, q1, q2, q3⟩, ?_⟩
      refine hb C hC hF B2 e2 σ1 H2 o2 s2 g3 _ ?_
      have x12 := x1.trans x2
      cases o2 with
      | nx e3 => exact fun B3 σ3 H3 s4 x4 => ⟨B3, e3, s4, x12.trans x4, hl⟩
      | ct e3 => exact fun B3 σ3 H3 s4 x4 => ⟨B3, e3, s4, x12.trans x4, hl⟩
      | bk e3 =>
        cases hl
        exact fun B3 σ3 H3 s4 x4 => p B3 σ3 H3 s4 (x12.trans x4)
      | rt r e3 =>
        cases hl
        exact fun v B3 σ3 H3 s4 x4 rr => p v B3 σ3 H3 s4 (x12.trans x4) rr
      | er c e3 =>
        cases hl
        exact fun B3 σ3 H3 s4 x4 => p B3 σ3 H3 s4 (x12.trans x4)

/-! ### comprehensions -/
def wipeE (env : En) : List Nat → En
  | [] => env
  | v :: vs => (wipeE env vs).set v .un
theorem wipeE_length (env : En) : ∀ vs : List Nat, (wipeE env vs).length = env.length
  | [] => rfl
  | v :: vs => by unfold wipeE; rw [List.length_set, wipeE_length env vs]
theorem wipeE_out {i : Nat} : ∀ {vs : List Nat}, i ∉ vs → (wipeE env vs)[i]? = env[i]?
  | [], _ => rfl
  | v :: vs, h => by
    unfold wipeE
    rw [List.getElem?_set_ne (fun e => h (by rw [e]; exact List.mem_cons_self)), wipeE_out fun z => h (List.mem_cons_of_mem _ z)]
theorem wipe_out {i : Nat} : ∀ {vs : List Nat}, i ∉ vs → (wipe σ vs)[i]? = σ[i]?
  | [], _ => rfl
  | v :: vs, h => by
    unfold wipe
    rw [List.getElem?_set_ne (fun e => h (by rw [e]; exact List.mem_cons_self)), wipe_out fun z => h (List.mem_cons_of_mem _ z)]
theorem wipeE_in {i : Nat} : ∀ {vs : List Nat}, i ∈ vs → i < env.length → (wipeE env vs)[i]? = some .un
  | v :: vs, h, hl => by
    unfold wipeE
    by_cases e : v = i
    · subst e
      rw [List.getElem?_set_self (by rw [wipeE_length]; exact hl)]
    · rw [List.getElem?_set_ne e]
      exact wipeE_in ((List.mem_cons.mp h).resolve_left fun z => e z.symm) hl
/-- no own list stands in these slots -/
def plainAt (env : En) (vs : List Nat) : Bool := vs.all fun i => match env[i]? with
  | some (.ow _) => false
  | _ => true
theorem plainAt_no {vs : List Nat} {i : Nat} {xs : List D} (h : plainAt env vs = true) (hi : i ∈ vs) : env[i]? ≠ some (.ow xs) := fun e => by
  have := List.all_eq_true.mp h i hi
  rw [e] at this
  cases this
/-- the block's own slots as they were ahead of it -/
def back (env e2 : En) : List Nat → En
  | [] => e2
  | v :: vs => (back env e2 vs).set v (env[v]?.getD .un)
theorem back_length (env e2 : En) : ∀ vs : List Nat, (back env e2 vs).length = e2.length
  | [] => rfl
  | v :: vs => by unfold back; rw [List.length_set, back_length env e2 vs]
theorem back_out {e2 : En} {i : Nat} : ∀ {vs : List Nat}, i ∉ vs → (back env e2 vs)[i]? = e2[i]?
  | [], _ => rfl
  | v :: vs, h => by
    unfold back
    rw [List.getElem?_set_ne (fun e => h (by rw [e]; exact List.mem_cons_self)), back_out fun z => h (List.mem_cons_of_mem _ z)]
theorem back_in {e2 : En} {i : Nat} : ∀ {vs : List Nat}, i ∈ vs → i < e2.length → (back env e2 vs)[i]? = some (env[i]?.getD .un)
  | v :: vs, h, hl => by
    unfold back
    by_cases e : v = i
    · subst e
      rw [List.getElem?_set_self (by rw [back_length]; exact hl)]
    · rw [List.getElem?_set_ne e]
      exact back_in ((List.mem_cons.mp h).resolve_left fun z => e z.symm) hl
/-- an object that is nobody's data changes -/
theorem SR.poke (s : SR C B env σ H) {p : Addr} {o : HO} (bp : B p = none) (gp : C.G p = none) (off : Off env σ p) : SR C B env σ (upd H p o) := by
  refine ⟨fun a u e => by rw [upd_ne (ne_of_none e gp)]; exact s.exG a u e, fun a u e => by rw [upd_ne (ne_of_none e bp)]; exact s.exB a u e, s.ex0, s.new, s.len, fun i t h => ?_, s.dis, s.fx⟩
  refine (s.sl i t h).mono (Ex.refl _) fun q e ⟨xs, ex⟩ => ?_
  subst ex
  obtain ⟨p', vs, e1, hb, _, hh, _⟩ := s.sl i _ h
  rw [e] at e1
  cases e1
  exact ⟨hb, upd_ne fun z => off i _ h (by rw [e, z])⟩
/-- the slots of fix as they are told, but for those of the block -/
def Ctx.blk (C : Ctx) (vs : List Nat) : Ctx := { C with fix := [], σ0 := [] }
theorem SR.wiped (s : SR C B env σ H) (vs : List Nat) : SR (C.blk vs) B (wipeE env vs) (wipe σ vs) H := by
  refine ⟨s.exG, s.exB, s.ex0, s.new, by rw [wipeE_length, wipe_length]; exact s.len, fun i t h => ?_, fun i j p xs ys e1 e2 h1 h2 => ?_, fun j hj => by cases hj⟩
  · by_cases hi : i ∈ vs
    · have hl : i < env.length := by
        have := (List.getElem?_eq_some_iff.mp h).1
        rw [wipeE_length] at this
        exact this
      rw [wipeE_in hi hl] at h
      cases h
      trivial
    · rw [wipeE_out hi] at h
      rw [wipe_out hi]
      exact s.sl i t h
  · have hi : i ∉ vs := fun hi => by
      have hl : i < env.length := by
        have := (List.getElem?_eq_some_iff.mp e1).1
        rw [wipeE_length] at this
        exact this
      rw [wipeE_in hi hl] at e1
      cases e1
    have hj : j ∉ vs := fun hi => by
      have hl : j < env.length := by
        have := (List.getElem?_eq_some_iff.mp e2).1
        rw [wipeE_length] at this
        exact this
      rw [wipeE_in hi hl] at e2
      cases e2
    rw [wipeE_out hi] at e1
    rw [wipeE_out hj] at e2
    rw [wipe_out hi] at h1
    rw [wipe_out hj] at h2
    exact s.dis i j p xs ys e1 e2 h1 h2
theorem SR.restored {e2 : En} {B2 H2 : Hp} {vs : List Nat} {σ2 : L2.St} (s : SR C B env σ H) (hp : plainAt env vs = true) (x : Ex B B2) (s2 : SR (C.blk vs) B2 e2 σ2 H2) (hl : e2.length = env.length) (hσ : ∀ i, i ∉ vs → σ2[i]? = σ[i]?) : SR C B2 (back env e2 vs) σ H2 := by
  refine ⟨s2.exG, s2.exB, s2.ex0, s2.new, by rw [back_length, hl]; exact s.len, fun i t h => ?_, fun i j p xs ys e1 e2' h1 h2 => ?_, s.fx⟩
  · by_cases hi : i ∈ vs
    · have hlt : i < e2.length := by
        have := (List.getElem?_eq_some_iff.mp h).1
        rw [back_length] at this
        exact this
      rw [back_in hi hlt] at h
      cases h
      cases q : env[i]? with
      | none =>
        rw [hl] at hlt
        exact absurd hlt (Nat.not_lt.mpr (List.getElem?_eq_none_iff.mp q))
      | some t =>
        have w := s.sl i t q
        cases t with
        | un => trivial
        | sh d =>
          obtain ⟨v, e1, r⟩ := w
          exact ⟨v, e1, r.mono x⟩
        | ow xs => exact absurd q (plainAt_no hp hi)
    · rw [back_out hi] at h
      rw [← hσ i hi]
      exact s2.sl i t h
  · have out : ∀ k zs, (back env e2 vs)[k]? = some (.ow zs) → k ∉ vs := fun k zs e hk => by
      have hlt : k < e2.length := by
        have := (List.getElem?_eq_some_iff.mp e).1
        rw [back_length] at this
        exact this
      rw [back_in hk hlt] at e
      cases q : env[k]? with
      | none => rw [q] at e; cases e
      | some t =>
        rw [q] at e
        have : t = .ow zs := Option.some.inj e
        rw [this] at q
        exact plainAt_no hp hk q
    have hi := out i xs e1
    have hj := out j ys e2'
    rw [back_out hi] at e1
    rw [back_out hj] at e2'
    exact s2.dis i j p xs ys e1 e2' (by rw [hσ i hi]; exact h1) (by rw [hσ j hj]; exact h2)
def lcF (vs : List Nat) (tgt : D → En → Option En) (test : En → Option (Bool × En)) (elt : En → Option (R × En)) : List D → En → List D → Option (List D × En)
  | [], env, acc => some (acc, env)
  | d :: ds, env, acc => (tgt d env).bind fun e1 => (test e1).bind fun b => if b.1 then (elt b.2).bind fun r => (frz r.2 r.1).bind fun a => lcF vs tgt test elt ds (wipeE a.2 vs) (acc ++ [a.1]) else lcF vs tgt test elt ds (wipeE b.2 vs) acc
def eLc (vs : List Nat) (fi : En → Option (List D × En)) (tgt : D → En → Option En) (test : En → Option (Bool × En)) (elt : En → Option (R × En)) : En → Option (R × En) := fun env => (fi env).bind fun a =>
  if a.1.length < 1000000 ∧ plainAt a.2 vs = true then (lcF vs tgt test elt a.1 (wipeE a.2 vs) []).map fun b => (.fr b.1, back a.2 b.2 vs) else none
def bYes : En → Option (Bool × En) := fun env => some (true, env)
theorem st_yes : ST K tYes bYes := by
  intro C hC B env σ H b env' s e Q hq
  cases e
  exact hq B H s (Ex.refl _)
theorem wipe_get {i : Nat} : ∀ {vs : List Nat}, i ∈ vs → i < σ.length → (wipe σ vs)[i]? = some none
  | v :: vs, h, hl => by
    unfold wipe
    by_cases e : v = i
    · subst e
      rw [List.getElem?_set_self (by rw [wipe_length]; exact hl)]
    · rw [List.getElem?_set_ne e]
      exact wipe_get ((List.mem_cons.mp h).resolve_left fun z => e z.symm) hl
theorem wipe_ext {σ2 : L2.St} {vs : List Nat} (hl : σ2.length = σ.length) (h : ∀ i, i ∉ vs → σ2[i]? = σ[i]?) : wipe σ2 vs = wipe σ vs := by
  refine List.ext_getElem? fun i => ?_
  by_cases hi : i ∈ vs
  · by_cases hlt : i < σ.length
    · rw [wipe_get hi (by rw [hl]; exact hlt), wipe_get hi hlt]
    · rw [List.getElem?_eq_none (by rw [wipe_length]; omega), List.getElem?_eq_none (by rw [wipe_length]; omega)]
  · rw [wipe_out hi, wipe_out hi]
    exact h i hi
theorem se_lc {vs tv : List Nat} {wi : TI} {g : TG} {tt : TT} {fi : En → Option (List D × En)} {tgt : D → En → Option En} {test : En → Option (Bool × En)} (hi : SI K wi fi) (hg : SG K [] tv g tgt) (htv : ∀ i ∈ tv, i ∈ vs) (ht : ST K tt test) (he : SE K te fe) :
    SE K (tLc wi g tt te vs) (eLc vs fi tgt test fe) := by
  intro C hC B env σ H r env' s e Q hq
  obtain ⟨⟨ds, e0⟩, g0, e⟩ := Option.bind_eq_some_iff.mp e
  split at e
  · rename_i hh
    obtain ⟨hlen, hpl⟩ := hh
    obtain ⟨⟨ys, eE⟩, g1, e⟩ := Option.map_eq_some_iff.mp e
    cases e
    simp only at hlen hpl g1
    refine hi C hC B env σ H ds e0 s g0 _ fun J B0 H0 s0 x0 hJ => ?_
    intro Da nD
    have w0 := (s0.temp (o := HO.lst []) nD).wiped vs
    have b0 := fresh_back s0.exB nD
    have gD := fresh_back s0.exG nD
    refine ⟨fun i m H' => m + i = ds.length ∧ ∃ B1 e1 acc ws, SR (C.blk vs) B1 e1 (wipe σ vs) H' ∧ Ex B0 B1 ∧ B1 Da = none ∧ H' Da = some (.lst ws) ∧ RepAll C.K B1 ws acc ∧ Off e1 (wipe σ vs) Da ∧ acc.length ≤ i ∧ lcF vs tgt test fe (ds.drop i) e1 acc = some (ys, eE),
      ⟨ds.length, by omega, B0, _, [], [], w0, Ex.refl _, b0, upd_same, .nil, ?_, Nat.le_refl _, by simpa using g1⟩, ?_⟩
    · intro j zs h1 h2
      have := ((s0.wiped vs)).off nD
      exact this j zs h1 h2
    rintro i m H1 ⟨hm, B1, e1, acc, ws, s1, x1, b1, hD, ra, off1, hacc, hl⟩
    obtain ⟨hs, hgo⟩ := hJ H1 (fun a u q => s1.exB a u (x1 a u q)) i
    cases hd : ds[i]? with
    | none =>
      have hle : ds.length ≤ i := List.getElem?_eq_none_iff.mp hd
      rw [List.drop_eq_nil_of_le hle] at hl
      cases hl
      refine .inl ⟨hs hle, ?_⟩
      have hel : eE.length = e0.length := by
        have h1 := s1.len
        have h2 := s0.len
        rw [wipe_length] at h1
        omega
      have s2 : SR C B1 (back e0 eE vs) σ H1 := s0.restored hpl x1 s1 hel fun i hi => wipe_out hi
      refine hq (.ref Da) B1 H1 s2 (x0.trans x1) ⟨Da, ws, rfl, b1, gD, hD, ra, ?_⟩
      intro j zs h1 h2
      by_cases hj : j ∈ vs
      · by_cases hjl : j < eE.length
        · rw [back_in hj hjl] at h1
          cases q : e0[j]? with
          | none => rw [q] at h1; cases h1
          | some t =>
            rw [q] at h1
            have : t = .ow zs := Option.some.inj h1
            rw [this] at q
            exact plainAt_no hpl hj q
        · rw [List.getElem?_eq_none (by rw [back_length]; exact Nat.le_of_not_lt hjl)] at h1
          cases h1
      · rw [back_out hj] at h1
        exact off1 j zs h1 (by rw [wipe_out hj]; exact h2)
    | some d =>
      have hlt : i < ds.length := (List.getElem?_eq_some_iff.mp hd).1
      have hdrop : ds.drop i = d :: ds.drop (i + 1) := by
        rw [List.drop_eq_getElem_cons hlt]
        have : ds[i] = d := by
          rw [List.getElem?_eq_getElem hlt] at hd
          exact Option.some.inj hd
        rw [this]
      rw [hdrop] at hl
      obtain ⟨e2, g2, hl⟩ := Option.bind_eq_some_iff.mp hl
      obtain ⟨⟨b, e3⟩, g3, hl⟩ := Option.bind_eq_some_iff.mp hl
      obtain ⟨go, hy⟩ := hgo d hd
      -- what the next turn is to find
      let Nx : Hp → Prop := fun H' => ∃ B1 e1 acc ws, SR (C.blk vs) B1 e1 (wipe σ vs) H' ∧ Ex B0 B1 ∧ B1 Da = none ∧ H' Da = some (.lst ws) ∧ RepAll C.K B1 ws acc ∧ Off e1 (wipe σ vs) Da ∧ acc.length ≤ i + 1 ∧ lcF vs tgt test fe (ds.drop (i + 1)) e1 acc = some (ys, eE)
      refine .inr ⟨go, Nx, fun H' ⟨B2, e4, a2, w2, q⟩ => ⟨m - 1, by omega, by omega, B2, e4, a2, w2, q⟩, fun x H' hx => ?_⟩
      have item : ∃ B2, SR (C.blk vs) B2 e1 (wipe σ vs) H' ∧ Ex B1 B2 ∧ Rep K B2 x d ∧ B2 Da = none ∧ H' Da = some (.lst ws) := by
        rcases hy x H' hx with ⟨rfl, rx⟩ | ⟨T, vs', xs, nT, rfl, rfl, rfl, ra'⟩
        · exact ⟨B1, s1, Ex.refl _, rx.mono x1, b1, hD⟩
        · have bT := fresh_back s1.exB nT
          have ne : Da ≠ T := ne_of_none hD nT
          exact ⟨_, s1.alloc nT, Ex.new bT, .tup (st_of upd_same) (ra'.mono (x1.trans (Ex.new bT))), by rw [upd_ne ne]; exact b1, by rw [upd_ne ne]; exact hD⟩
      obtain ⟨B2, s2, x2, rx, b2, hD2⟩ := item
      have x12 := x1.trans x2
      let T : Hp := fun q => if q = Da then H' q else none
      have hT : T Da = some (.lst ws) := by
        show (if Da = Da then H' Da else none) = _
        rw [if_pos rfl]
        exact hD2
      have hTn : T Da ≠ none := by rw [hT]; exact fun z => nomatch z
      have only : ∀ q, T q ≠ none → q = Da := fun q h => Classical.byContradiction fun z => h (show (if q = Da then H' q else none) = none by rw [if_neg z])
      have exT : Ex T H' := fun q o h => by
        have e := only q (by rw [h]; exact fun z => nomatch z)
        subst e
        rw [hT] at h
        cases h
        exact hD2
      have nbT : ∀ q, T q ≠ none → B2 q = none := fun q h => by rw [only q h]; exact b2
      have tT : Tmp B2 e1 (wipe σ vs) H' T := ⟨exT, nbT, fun q h => by rw [only q h]; exact off1⟩
      have leave : ∀ {B5 H5 : Hp} {e5 : En} {σ5 : L2.St}, Ex B2 B5 → SR ((C.blk vs).plus T) B5 e5 σ5 H5 → SR (C.blk vs) B5 e5 σ5 H5 ∧ B5 Da = none ∧ H5 Da = some (.lst ws) ∧ Off e5 σ5 Da := fun x5 s5 => by
        obtain ⟨q1, q2⟩ := SR.minus s2.exG exT nbT x5 s5 s2.ex0
        exact ⟨q1, q2.nb Da hTn, q2.ex Da _ hT, q2.off Da hTn⟩
      refine hg ((C.blk vs).plus T) hC rfl B2 e1 (wipe σ vs) H' x d e2 (s2.plus tT) rx g2 _ fun σ2 s3 kσ => ?_
      have hw : wipe σ2 vs = wipe σ vs := by
        have := wipe_ext (σ := wipe σ vs) (σ2 := σ2) (vs := vs) kσ.1 fun i hi => kσ.2 i fun z => hi (htv i z)
        rw [this]
        exact wipe_ext (wipe_length σ vs) fun i hi => wipe_out hi
      refine ⟨hw, ?_⟩
      have rest : ∀ (B5 H5 : Hp) (e5 : En) (w5 : List V) (a5 : List D), SR (C.blk vs) B5 e5 σ2 H5 → Ex B0 B5 → B5 Da = none → H5 Da = some (.lst w5) → RepAll C.K B5 w5 a5 → Off e5 σ2 Da → a5.length ≤ i + 1 → lcF vs tgt test fe (ds.drop (i + 1)) (wipeE e5 vs) a5 = some (ys, eE) → Nx H5 := by
        intro B5 H5 e5 w5 a5 s5 x5 b5 h5 r5 o5 l5 c5
        have s6 : SR (C.blk vs) B5 (wipeE e5 vs) (wipe σ2 vs) H5 := s5.wiped vs
        rw [hw] at s6
        refine ⟨B5, _, a5, w5, s6, x5, b5, h5, r5, fun j zs h1 h2 => ?_, l5, c5⟩
        have hj : j ∉ vs := fun hj => by
          have hl : j < e5.length := by
            have := (List.getElem?_eq_some_iff.mp h1).1
            rw [wipeE_length] at this
            exact this
          rw [wipeE_in hj hl] at h1
          cases h1
        rw [wipeE_out hj] at h1
        rw [← hw, wipe_out hj] at h2
        exact o5 j zs h1 h2
      refine ht ((C.blk vs).plus T) hC B2 e2 σ2 H' b e3 s3 g3 _ fun B3 H3 s4 x4 => ?_
      cases b with
      | false =>
        show Nx H3
        obtain ⟨q1, q2, q3, q4⟩ := leave x4 s4
        exact rest B3 H3 e3 ws acc q1 (x12.trans x4) q2 q3 (ra.mono (x2.trans x4)) q4 (Nat.le_succ_of_le hacc) hl
      | true =>
        obtain ⟨⟨r5, e5⟩, g5, hl⟩ := Option.bind_eq_some_iff.mp hl
        obtain ⟨⟨d6, e6⟩, g6, hl⟩ := Option.bind_eq_some_iff.mp hl
        show te σ2 H3 _
        refine he ((C.blk vs).plus T) hC B3 e3 σ2 H3 r5 e5 s4 g5 _ fun y B5 H5 s5 x5 r5' => ?_
        obtain ⟨B6, s6, x6, rd⟩ := frz_rep s5 r5' g6
        have x46 := (x4.trans x5).trans x6
        obtain ⟨q1, q2, q3, q4⟩ := leave x46 s6
        refine ⟨ws, q3, ?_, ?_⟩
        · have := (ra.length : ws.length = acc.length)
          rw [this]
          exact mil (by omega)
        · exact rest B6 _ e6 (ws ++ [y]) (acc ++ [d6]) (q1.poke q2 gD q4) (x12.trans x46) q2 upd_same ((ra.mono (x2.trans x46)).append (.one rd)) q4 (by rw [List.length_append]; exact Nat.succ_le_succ hacc) hl
  · cases e
end
end Vm

set_option Elab.async false
set_option linter.all false
set_option maxRecDepth 100000
namespace Vm
open PySem PySem.Spec PyProof.Rows L2 Evl

/-! ### a def as a function -/
/-- what a call gives: a value, or a new list; with what the parameters' own lists hold then -/
inductive Res where
  | val (d : D) (env : En) | fr (xs : List D) (env : En) | er (c : Str) (env : En)

/-- the heap but for the own lists -/
noncomputable def Rest (env : En) (σ : L2.St) (H : Hp) : Hp := fun q =>
  haveI := Classical.propDecidable (Off env σ q)
  if Off env σ q then H q else none
def Cx0 (K : PySem.W.Frag) (G B : Hp) : Ctx := ⟨K, G, B, [], []⟩
def PostM (K : PySem.W.Frag) (B : Hp) (env : En) (σ : L2.St) (H : Hp) (Q : VK) (E : XK) : Res → Prop
  | .val d env' => ∀ v B' H', SR (Cx0 K (Rest env σ H) B) B' env' σ H' → Ex B B' → Rep K B' v d → Q v H'
  | .fr xs env' => ∀ v B' H', SR (Cx0 K (Rest env σ H) B) B' env' σ H' → Ex B B' → RepR (Cx0 K (Rest env σ H) B) B' env' σ H' v (.fr xs) → Q v H'
  | .er c env' => ∀ B' H', SR (Cx0 K (Rest env σ H) B) B' env' σ H' → Ex B B' → E (.ref (clsOf K c)) none H'
def none0 : Hp := fun _ => none
def SpM (K : PySem.W.Frag) (n : Nat) (m : En → Option Res) : Sp := fun vs H Q E => vs.length = n ∧ ∃ B env res, SR (Cx0 K none0 B) B env (vs.map some) H ∧ m env = some res ∧ PostM K B env (vs.map some) H Q E res

section
variable {K : PySem.W.Frag} {C : Ctx} {B B' G H H' : Hp} {env env' : En} {σ : L2.St} {v : V} {r : R} {d : D} {ta tb te : TE} {fa fb fe : En → Option (R × En)} {f : En → Option (R × En)} {X : Cx} {fix : List Nat} {W : WX}

theorem rest_of {q : Addr} (h : Off env σ q) : Rest env σ H q = H q := by
  unfold Rest
  exact if_pos h
theorem rest_no {q : Addr} (h : ¬ Off env σ q) : Rest env σ H q = none := by
  unfold Rest
  exact if_neg h
theorem rest_ex : Ex (Rest env σ H) H := fun q o e => by
  by_cases h : Off env σ q
  · rw [rest_of h] at e; exact e
  · rw [rest_no h] at e; cases e
theorem rest_none {q : Addr} (e : Rest env σ H q = none) : H q = none ∨ ¬ Off env σ q := by
  by_cases h : Off env σ q
  · rw [rest_of h] at e; exact .inl e
  · exact .inr h

/-- the parameters' slots behind the body: those of fix as they are, nothing known of the others -/
def params (fix : List Nat) (n : Nat) (env : En) : En := (List.range n).map fun j => if j ∈ fix then env[j]?.getD .un else .un
theorem params_length {fix : List Nat} {n : Nat} : (params fix n env).length = n := by simp [params]
theorem params_get {fix : List Nat} {n i : Nat} {t : Sl} (h : (params fix n env)[i]? = some t) : i < n ∧ ((i ∈ fix ∧ (env[i]? = some t ∨ t = .un)) ∨ t = .un) := by
  have hi : i < n := by
    have := (List.getElem?_eq_some_iff.mp h).1
    rw [params_length] at this
    exact this
  refine ⟨hi, ?_⟩
  unfold params at h
  rw [List.getElem?_map, List.getElem?_range hi] at h
  have h : (if i ∈ fix then env[i]?.getD .un else .un) = t := Option.some.inj h
  by_cases hf : i ∈ fix
  · rw [if_pos hf] at h
    refine .inl ⟨hf, ?_⟩
    cases q : env[i]? with
    | none => rw [q] at h; exact .inr h.symm
    | some u =>
      rw [q] at h
      exact .inl (by rw [← h]; rfl)
  · rw [if_neg hf] at h
    exact .inr h.symm
/-- the body as a function of the parameters: n of them, k further names -/
def bodyM (fix : List Nat) (n k : Nat) (F : En → Option Out) : En → Option Res := fun env => if env.length = n then (F (env ++ List.replicate k .un)).bind fun o => match o with
  | .nx e => some (.val .non (params fix n e))
  | .rt (.val d) e => some (.val d (params fix n e))
  | .rt (.fr xs) e => some (.fr xs (params fix n e))
  | .rt (.al i) e => match e[i]? with
    | some (.ow xs) => if n ≤ i then some (.fr xs (params fix n e)) else none
    | some (.sh d) => some (.val d (params fix n e))
    | _ => none
  | .er c e => some (.er c (params fix n e))
  | _ => none else none
theorem start_get {N : List Str} {vs : List V} {i : Nat} (h : i < vs.length) : (L2.start N vs)[i]? = (vs.map some)[i]? := by
  unfold L2.start
  rw [List.getElem?_append_left (by simpa using h)]
theorem start_length {N : List Str} {vs : List V} (h : vs.length ≤ N.length) : (L2.start N vs).length = N.length := by
  unfold L2.start
  rw [List.length_append, List.length_map, List.length_replicate]
  omega
/-- at the entry of a body -/
theorem SR.enter {N : List Str} {vs : List V} {fix : List Nat} (s : SR (Cx0 K none0 B) B env (vs.map some) H) (hN : vs.length ≤ N.length) :
    SR ⟨K, Rest env (vs.map some) H, B, fix, L2.start N vs⟩ B (env ++ List.replicate (N.length - vs.length) .un) (L2.start N vs) H := by
  have hl : env.length = vs.length := by rw [← s.len, List.length_map]
  refine ⟨rest_ex, s.exB, Ex.refl _, fun q hq => .inl hq, ?_, fun i t h => ?_, fun i j p xs ys e1 e2 h1 h2 => ?_, fun _ _ => rfl⟩
  · rw [start_length hN, List.length_append, List.length_replicate]
    omega
  · by_cases hi : i < env.length
    · rw [List.getElem?_append_left hi] at h
      have w := s.sl i t h
      rw [start_get (by omega)]
      cases t with
      | un => trivial
      | sh d => exact w
      | ow xs =>
        obtain ⟨p, ws, e1, bp, _, hp, ra⟩ := w
        exact ⟨p, ws, e1, bp, rest_no fun o => o i xs h e1, hp, ra⟩
    · rw [List.getElem?_append_right (by omega)] at h
      rw [List.getElem?_replicate] at h
      split at h
      · cases h; trivial
      · cases h
  · have lt : ∀ k zs, (env ++ List.replicate (N.length - vs.length) .un)[k]? = some (.ow zs) → k < env.length ∧ env[k]? = some (.ow zs) := fun k zs h => by
      by_cases hi : k < env.length
      · rw [List.getElem?_append_left hi] at h
        exact ⟨hi, h⟩
      · rw [List.getElem?_append_right (by omega), List.getElem?_replicate] at h
        split at h <;> cases h
    obtain ⟨l1, g1⟩ := lt i xs e1
    obtain ⟨l2, g2⟩ := lt j ys e2
    rw [start_get (by omega)] at h1 h2
    exact s.dis i j p xs ys g1 g2 h1 h2
/-- .. and at its end -/
theorem SR.exit {N : List Str} {vs : List V} {fix : List Nat} {n : Nat} {e : En} {σ' : L2.St} {G B0 : Hp} (s : SR ⟨K, G, B0, fix, L2.start N vs⟩ B e σ' H) (hn : vs.length = n) (hN : vs.length ≤ N.length) (hf : ∀ i ∈ fix, i < n) :
    SR (Cx0 K G B0) B (params fix n e) (vs.map some) H := by
  have same : ∀ i ∈ fix, σ'[i]? = (vs.map some)[i]? := fun i hi => by
    have : σ'[i]? = (L2.start N vs)[i]? := s.fx i hi
    rw [this, start_get (by rw [hn]; exact hf i hi)]
  refine ⟨s.exG, s.exB, s.ex0, s.new, by rw [List.length_map, params_length]; exact hn, fun i t h => ?_, fun i j p xs ys e1 e2 h1 h2 => ?_, fun j hj => by cases hj⟩
  · obtain ⟨hi, ⟨hf, h | h⟩ | h⟩ := params_get h
    · have w := s.sl i t h
      rw [← same i hf]
      exact w
    · subst h; trivial
    · subst h; trivial
  · have own : ∀ k zs, (params fix n e)[k]? = some (.ow zs) → k ∈ fix ∧ e[k]? = some (.ow zs) := fun k zs h => by
      obtain ⟨_, ⟨hf, h | h⟩ | h⟩ := params_get h
      · exact ⟨hf, h⟩
      · cases h
      · cases h
    obtain ⟨f1, g1⟩ := own i xs e1
    obtain ⟨f2, g2⟩ := own j ys e2
    exact s.dis i j p xs ys g1 g2 (by rw [same i f1]; exact h1) (by rw [same j f2]; exact h2)
theorem off_exit {N : List Str} {vs : List V} {fix : List Nat} {n : Nat} {e : En} {σ' : L2.St} {G B0 : Hp} {q : Addr} (s : SR ⟨K, G, B0, fix, L2.start N vs⟩ B e σ' H) (hn : vs.length = n) (hf : ∀ i ∈ fix, i < n) (o : ∀ i ys, i ∈ fix → e[i]? = some (.ow ys) → σ'[i]? ≠ some (some (.ref q))) :
    Off (params fix n e) (vs.map some) q := fun k zs h h2 => by
  obtain ⟨_, ⟨hk, h | h⟩ | h⟩ := params_get h
  · refine o k zs hk h ?_
    have : σ'[k]? = (L2.start N vs)[k]? := s.fx k hk
    rw [this, start_get (by rw [hn]; exact hf k hk)]
    exact h2
  · cases h
  · cases h

/-- THE RULE for a def: its body's reading goes as F says, so the def keeps the promise of bodyM -/
theorem body_ok {N : List Str} {n k : Nat} {fix : List Nat} {F : En → Option Out} {t : TS} {vs : List V} {Q : VK} {E : XK} (hN : N.length = n + k) (hf : ∀ i ∈ fix, i < n) (h : SS K fix (fun c d _ H' => E c d H') t F) (hs : SpM K n (bodyM fix n k F) vs H Q E) :
    t { nx := fun _ H' => Q .non H', rt := Q } (L2.start N vs) H := by
  obtain ⟨hn, B, env, res, s, hm, p⟩ := hs
  have hl : env.length = vs.length := by rw [← s.len, List.length_map]
  have hle : vs.length ≤ N.length := by omega
  unfold bodyM at hm
  rw [if_pos (by omega)] at hm
  obtain ⟨o, g1, hm⟩ := Option.bind_eq_some_iff.mp hm
  have s0 := s.enter (N := N) (fix := fix) hle
  rw [show N.length - vs.length = k by omega] at s0
  refine h _ rfl rfl B _ (L2.start N vs) H o s0 g1 _ ?_
  cases o with
  | nx e =>
    cases hm
    exact fun B' σ' H' s' x => p .non B' H' (s'.exit hn hle hf) x .non
  | rt r e =>
    cases r with
    | val d =>
      cases hm
      exact fun v B' σ' H' s' x rr => p v B' H' (s'.exit hn hle hf) x rr
    | fr xs =>
      cases hm
      intro v B' σ' H' s' x rr
      obtain ⟨q, ws, rfl, bq, gq, hq, ra, off⟩ := rr
      exact p _ B' H' (s'.exit hn hle hf) x ⟨q, ws, rfl, bq, gq, hq, ra, off_exit s' hn hf fun i ys _ h => off i ys h⟩
    | al i =>
      simp only at hm
      split at hm
      · rename_i xs he
        split at hm
        · rename_i hi
          cases hm
          intro v B' σ' H' s' x rr
          have rr : σ'[i]? = some (some v) := rr
          obtain ⟨q, ws, e1, bq, gq, hq, ra⟩ := s'.sl i _ he
          rw [rr] at e1
          cases e1
          exact p _ B' H' (s'.exit hn hle hf) x ⟨q, ws, rfl, bq, gq, hq, ra, off_exit s' hn hf fun j ys hj h h2 => by
            have := s'.dis i j q xs ys he h rr h2
            have := hf j hj
            omega⟩
        · cases hm
      · rename_i d he
        cases hm
        intro v B' σ' H' s' x rr
        have rr : σ'[i]? = some (some v) := rr
        obtain ⟨u, e1, ru⟩ := s'.sl i _ he
        rw [rr] at e1
        cases e1
        exact p v B' H' (s'.exit hn hle hf) x ru
      · cases hm
  | bk e => cases hm
  | ct e => cases hm
  | er c e =>
    cases hm
    exact fun B' σ' H' s' x => p B' H' (s'.exit hn hle hf) x

/-! ### calls -/
/-- all arguments are data -/
def eCall (n : Nat) (m : En → Option Res) (f : En → Option (List R × En)) : En → Option (R × En) := fun env => (aD f env).bind fun a => if a.1.length = n then (m (a.1.map .sh)).bind fun r => match r with
  | .val d _ => some (.val d, a.2)
  | .fr xs _ => some (.fr xs, a.2)
  | .er _ _ => none
  else none
theorem sr_args {vs : List V} {ds : List D} (ra : RepAll K B vs ds) (e : Ex B H) : SR (Cx0 K none0 B) B (ds.map .sh) (vs.map some) H := by
  refine ⟨fun q o h => (nomatch (show none = some o from h)), e, Ex.refl _, fun q h => .inl h, by rw [List.length_map, List.length_map]; exact ra.length, fun i t h => ?_, fun i j p xs ys e1 => ?_, fun j h => by cases h⟩
  · rw [List.getElem?_map] at h
    obtain ⟨d, hd, rfl⟩ := Option.map_eq_some_iff.mp h
    obtain ⟨v, hv, rv⟩ := ra.get hd
    exact ⟨v, by rw [List.getElem?_map, hv]; rfl, rv⟩
  · rw [List.getElem?_map] at e1
    obtain ⟨d, hd, h⟩ := Option.map_eq_some_iff.mp e1
    cases h
theorem off_args {vs : List V} {ds : List D} {q : Addr} : Off (ds.map Sl.sh) (vs.map some) q := fun i ys h => by
  rw [List.getElem?_map] at h
  obtain ⟨d, hd, h⟩ := Option.map_eq_some_iff.mp h
  cases h
/-- the caller's side behind a call that took data alone -/
theorem SR.called {B2 : Hp} {e : En} {τ : L2.St} {env0 : En} (s : SR C B env σ H) (hoff : ∀ q, Off env0 τ q) (s' : SR (Cx0 K (Rest env0 τ H) B) B2 e τ H') (x : Ex B B2) : SR C B2 env σ H' := by
  have kept : Ex H H' := fun q o h => s'.exG q o (by rw [show (Cx0 K (Rest env0 τ H) B).G = Rest env0 τ H from rfl, rest_of (hoff q)]; exact h)
  have new : ∀ q, B2 q ≠ none → B q ≠ none ∨ H q = none := fun q hq => by
    rcases s'.new q hq with z | z
    · exact .inl z
    · refine .inr ?_
      have z : Rest env0 τ H q = none := z
      rw [rest_of (hoff q)] at z
      exact z
  refine ⟨s.exG.trans kept, s'.exB, s.ex0.trans x, fun q hq => ?_, s.len, fun i t h => ?_, s.dis, s.fx⟩
  · rcases new q hq with z | z
    · exact s.new q z
    · exact .inr (fresh_back s.exG z)
  · refine (s.sl i t h).mono x fun p e1 ⟨xs, ex⟩ => ?_
    subst ex
    obtain ⟨p', vs, e2, bp, gp, hp, ra⟩ := s.sl i _ h
    rw [e1] at e2
    cases e2
    refine ⟨?_, by rw [kept p _ hp, hp]⟩
    cases q : B2 p with
    | none => rfl
    | some o =>
      rcases new p (by rw [q]; exact fun z => nomatch z) with z | z
      · exact absurd bp z
      · rw [hp] at z; cases z
theorem RepR.called {B2 : Hp} {e : En} {τ : L2.St} {env0 : En} {xs : List D} (s : SR C B env σ H) (hoff : ∀ q, Off env0 τ q) (h : RepR (Cx0 K (Rest env0 τ H) B) B2 e τ H' v (.fr xs)) (hC : C.K = K) : RepR C B2 env σ H' v (.fr xs) := by
  obtain ⟨p, vs, rfl, bp, gp, hp, ra, off⟩ := h
  have gp : Rest env0 τ H p = none := gp
  rw [rest_of (hoff p)] at gp
  exact ⟨p, vs, rfl, bp, fresh_back s.exG gp, hp, by rw [hC]; exact ra, s.off gp⟩
theorem se_callG {n : Nat} {m : En → Option Res} {dv : L2.St → XK} {ta : TA} {f : En → Option (List R × En)} (h : SA K ta f) : SE K (fun σ H Q => ta σ H fun vs H1 => SpM K n m vs H1 Q (dv σ)) (eCall n m f) := by
  intro C hC B env σ H r env' s e Q hq
  obtain ⟨⟨ds, e1⟩, g1, e⟩ := Option.bind_eq_some_iff.mp e
  split at e
  · rename_i hn
    obtain ⟨res, g2, e⟩ := Option.bind_eq_some_iff.mp e
    obtain ⟨rs, e0, g3, g4⟩ := aD_some g1
    refine h C hC B env σ H rs e0 s g3 _ fun vs B1 H1 s1 x1 rr => ?_
    obtain ⟨B2, s2, x2, ra⟩ := frzs_w s1 rr.w g4
    rw [hC] at ra
    refine ⟨by rw [ra.length]; exact hn, B2, _, res, sr_args ra s2.exB, g2, ?_⟩
    cases res with
    | val d ae =>
      cases e
      exact fun v B' H' s' x rv => hq v B' H' (s2.called (fun _ => off_args) s' x) ((x1.trans x2).trans x) (by rw [show RepR C B' e1 σ H' v (.val d) = Rep C.K B' v d from rfl, hC]; exact rv)
    | fr xs ae =>
      cases e
      exact fun v B' H' s' x rv => hq v B' H' (s2.called (fun _ => off_args) s' x) ((x1.trans x2).trans x) (rv.called s2 (fun _ => off_args) hC)
    | er c ae => cases e
  · cases e
theorem se_call {n : Nat} {m : En → Option Res} {E : XK} {ta : TA} {f : En → Option (List R × En)} (h : SA K ta f) : SE K (tCall (SpM K n m) [] E ta) (eCall n m f) := by
  intro C hC B env σ H r env' s e Q hq
  have q := se_callG (n := n) (m := m) (dv := fun _ => E) h C hC B env σ H r env' s e Q hq
  show ta σ H fun vs H1 => SpM K n m (vs ++ []) H1 Q E
  have w : (fun (vs : List V) (H1 : Hp) => SpM K n m (vs ++ []) H1 Q E) = fun vs H1 => SpM K n m vs H1 Q E := by
    funext vs H1
    rw [List.append_nil]
  rw [w]
  exact q
theorem se_callS {n : Nat} {m : En → Option Res} {E : L2.St → XK} {ta : TA} {f : En → Option (List R × En)} (h : SA K ta f) : SE K (tCallS (SpM K n m) E ta) (eCall n m f) := se_callG h

/-! a call whose first argument is an own list of the caller's, which the callee may change -/
def eCall1 (n : Nat) (m : En → Option Res) (f : En → Option (List R × En)) : En → Option (R × En) := fun env => (f env).bind fun a => match a.1 with
  | .al i :: rs => (frzs a.2 rs).bind fun b => (own b.2 i).bind fun xs => if b.1.length + 1 = n then (m (.ow xs :: b.1.map .sh)).bind fun r => match r with
    | .val d (.ow ys :: _) => some (.val d, b.2.set i (.ow ys))
    | .fr zs (.ow ys :: _) => some (.fr zs, b.2.set i (.ow ys))
    | _ => none
    else none
  | _ => none
theorem se_call1G {n : Nat} {m : En → Option Res} {dv : L2.St → XK} {ta : TA} {f : En → Option (List R × En)} (h : SA K ta f) : SE K (fun σ H Q => ta σ H fun vs H1 => SpM K n m vs H1 Q (dv σ)) (eCall1 n m f) := by
  intro C hC B env σ H r env' s e Q hq
  obtain ⟨⟨rs, e0⟩, g1, e⟩ := Option.bind_eq_some_iff.mp e
  split at e
  · rename_i i rs' hr
    simp only at hr
    subst hr
    obtain ⟨⟨ds, e1⟩, g2, e⟩ := Option.bind_eq_some_iff.mp e
    obtain ⟨xs, g3, e⟩ := Option.bind_eq_some_iff.mp e
    split at e
    · rename_i hn
      obtain ⟨res, g4, e⟩ := Option.bind_eq_some_iff.mp e
      refine h C hC B env σ H _ e0 s g1 _ fun vs B1 H1 s1 x1 rr => ?_
      match vs, rr with
      | v0 :: vs, ⟨r0, rr⟩ =>
        have r0 : σ[i]? = some (some v0) := r0
        obtain ⟨B2, s2, x2, ra⟩ := frzs_w s1 rr.w g2
        have ho := own_some g3
        obtain ⟨p, ws, e2, bp, gp, hp, rw0⟩ := s2.sl i _ ho
        rw [r0] at e2
        cases e2
        rw [hC] at ra rw0
        -- the arguments
        have sA : SR (Cx0 K none0 B2) B2 (.ow xs :: ds.map .sh) ((V.ref p :: vs).map some) H1 := by
          refine ⟨fun q o h => (nomatch (show none = some o from h)), s2.exB, Ex.refl _, fun q h => .inl h, ?_, fun j t hj => ?_, fun j k q ys zs f1 f2 _ _ => ?_, fun j h => by cases h⟩
          · rw [List.map_cons, List.length_cons, List.length_cons, List.length_map, List.length_map, ra.length]
          · cases j with
            | zero =>
              cases hj
              exact ⟨p, ws, rfl, bp, rfl, hp, rw0⟩
            | succ j =>
              have hj : (ds.map Sl.sh)[j]? = some t := by simpa using hj
              rw [List.getElem?_map] at hj
              obtain ⟨d, hd, rfl⟩ := Option.map_eq_some_iff.mp hj
              obtain ⟨v, hv, rv⟩ := ra.get hd
              refine ⟨v, ?_, rv⟩
              show (vs.map some)[j]? = _
              rw [List.getElem?_map, hv]
              rfl
          · have z : ∀ k zs, (Sl.ow xs :: ds.map Sl.sh)[k]? = some (.ow zs) → k = 0 := fun k zs h => by
              cases k with
              | zero => rfl
              | succ k =>
                have h : (ds.map Sl.sh)[k]? = some (.ow zs) := by simpa using h
                rw [List.getElem?_map] at h
                obtain ⟨d, hd, h⟩ := Option.map_eq_some_iff.mp h
                cases h
            rw [z j ys f1, z k zs f2]
        refine ⟨by rw [List.length_cons, ra.length]; exact hn, B2, _, res, sA, g4, ?_⟩
        -- what is off
        have offA : ∀ q, q ≠ p → Off (.ow xs :: ds.map .sh) ((V.ref p :: vs).map some) q := fun q hq k zs h h2 => by
          cases k with
          | zero =>
            have : some (V.ref p) = some (.ref q) := Option.some.inj h2
            cases this
            exact hq rfl
          | succ k =>
            have h : (ds.map Sl.sh)[k]? = some (.ow zs) := by simpa using h
            rw [List.getElem?_map] at h
            obtain ⟨d, hd, h⟩ := Option.map_eq_some_iff.mp h
            cases h
        have noA : ¬ Off (.ow xs :: ds.map .sh) ((V.ref p :: vs).map some) p := fun o => o 0 xs rfl rfl
        -- behind the call
        have behind : ∀ {B' H' : Hp} {ys : List D} {ae : En}, SR (Cx0 K (Rest (.ow xs :: ds.map .sh) ((V.ref p :: vs).map some) H1) B2) B' (.ow ys :: ae) ((V.ref p :: vs).map some) H' → Ex B2 B' → SR C B' (e1.set i (.ow ys)) σ H' ∧ (∀ q, B' q = none → Rest (.ow xs :: ds.map .sh) ((V.ref p :: vs).map some) H1 q = none → q ≠ p → H1 q = none) := by
          intro B' H' ys ae s' x
          have kept : ∀ q o, q ≠ p → H1 q = some o → H' q = some o := fun q o hq h => s'.exG q o (by
            show Rest _ _ _ q = some o
            rw [rest_of (offA q hq)]
            exact h)
          have new : ∀ q, B' q ≠ none → B2 q ≠ none ∨ H1 q = none ∨ q = p := fun q hq => by
            rcases s'.new q hq with z | z
            · exact .inl z
            · by_cases hqp : q = p
              · exact .inr (.inr hqp)
              · have z : Rest (.ow xs :: ds.map .sh) ((V.ref p :: vs).map some) H1 q = none := z
                rw [rest_of (offA q hqp)] at z
                exact .inr (.inl z)
          obtain ⟨p', ws', f1, bp', _, hp', ra'⟩ := s'.sl 0 _ rfl
          have f1 : some (some (V.ref p)) = some (some (V.ref p')) := f1
          cases f1
          refine ⟨⟨fun q o h => ?_, s'.exB, s2.ex0.trans x, fun q hq => ?_, by rw [List.length_set]; exact s2.len, fun j t h => ?_, fun j k q zs us f2 f3 => ?_, s2.fx⟩, fun q _ h hq => ?_⟩
          · exact kept q o (ne_of_none h gp) (s2.exG q o h)
          · rcases new q hq with z | z | z
            · exact s2.new q z
            · exact .inr (fresh_back s2.exG z)
            · rw [z] at hq; exact absurd bp' hq
          · rcases get_set h with ⟨rfl, rfl, _⟩ | ⟨hj, h⟩
            · exact ⟨p, ws', r0, bp', gp, hp', by rw [hC]; exact ra'⟩
            · refine (s2.sl j t h).mono x fun q f2 ⟨zs, ez⟩ => ?_
              subst ez
              obtain ⟨q', us, f3, b3, g3', h3, _⟩ := s2.sl j _ h
              rw [f2] at f3
              cases f3
              have hqp : q ≠ p := fun z => hj (s2.dis j i q zs xs h ho f2 (by rw [z]; exact r0))
              refine ⟨?_, by rw [kept q _ hqp h3, h3]⟩
              cases w : B' q with
              | none => rfl
              | some o =>
                rcases new q (by rw [w]; exact fun z => nomatch z) with z | z | z
                · exact absurd b3 z
                · rw [h3] at z; cases z
                · exact absurd z hqp
          · have k1 : ∃ zs, e1[j]? = some (.ow zs) := by
              rcases get_set f2 with ⟨rfl, _, _⟩ | ⟨_, h⟩
              · exact ⟨xs, ho⟩
              · exact ⟨_, h⟩
            have k2 : ∃ zs, e1[k]? = some (.ow zs) := by
              rcases get_set f3 with ⟨rfl, _, _⟩ | ⟨_, h⟩
              · exact ⟨xs, ho⟩
              · exact ⟨_, h⟩
            obtain ⟨z1, k1⟩ := k1
            obtain ⟨z2, k2⟩ := k2
            exact s2.dis j k q z1 z2 k1 k2
          · rw [rest_of (offA q hq)] at h
            exact h
        split at e
        · cases e
          exact fun v B' H' s' x rv => hq v B' H' (behind s' x).1 ((x1.trans x2).trans x) (by rw [show RepR C B' (e1.set i (.ow _)) σ H' v (.val _) = Rep C.K B' v _ from rfl, hC]; exact rv)
        · cases e
          intro v B' H' s' x rv
          obtain ⟨sB, free⟩ := behind s' x
          obtain ⟨q, us, rfl, bq, gq, hq', ra', off⟩ := rv
          have hqp : q ≠ p := fun z => off 0 _ rfl (by rw [z]; rfl)
          have h1 := free q bq gq hqp
          refine hq _ B' H' sB ((x1.trans x2).trans x) ⟨q, us, rfl, bq, fresh_back s2.exG h1, hq', by rw [hC]; exact ra', fun j zs f1 f2 => ?_⟩
          rcases get_set f1 with ⟨rfl, _, _⟩ | ⟨hj, f1⟩
          · rw [r0] at f2
            cases f2
            exact hqp rfl
          · exact s2.off h1 j zs f1 f2
        · cases e
    · cases e
  · cases e
theorem se_call1 {n : Nat} {m : En → Option Res} {E : XK} {ta : TA} {f : En → Option (List R × En)} (h : SA K ta f) : SE K (tCall (SpM K n m) [] E ta) (eCall1 n m f) := by
  intro C hC B env σ H r env' s e Q hq
  have q := se_call1G (n := n) (m := m) (dv := fun _ => E) h C hC B env σ H r env' s e Q hq
  show ta σ H fun vs H1 => SpM K n m (vs ++ []) H1 Q E
  have w : (fun (vs : List V) (H1 : Hp) => SpM K n m (vs ++ []) H1 Q E) = fun vs H1 => SpM K n m vs H1 Q E := by
    funext vs H1
    rw [List.append_nil]
  rw [w]
  exact q
end
end Vm

set_option Elab.async false
set_option linter.all false
set_option maxRecDepth 100000
namespace Vm
open PySem PySem.Spec PyProof.Rows L2 Evl
section
variable {K : PySem.W.Frag} {C : Ctx} {B B' G H H' : Hp} {env env' : En} {σ : L2.St} {v : V} {r : R} {d : D} {ta tb tc te : TE} {fa fb fc fe : En → Option (R × En)} {f : En → Option (R × En)} {X : Cx} {fix : List Nat} {W : WX}

/-! ### a op b op' c -/
def eChain (g g' : D → D → Option D) (fa fb fc : En → Option (R × En)) : En → Option (R × En) := fun env =>
  (fa env).bind fun a => (fb a.2).bind fun b => (look b.2 a.1).bind fun x => (look b.2 b.1).bind fun y => (g x y).bind fun z => match z, b.1 with
    | .bl true, .val yd => (fc b.2).bind fun c => (look c.2 c.1).bind fun w => (g' yd w).map fun z' => (.val z', c.2)
    | .bl false, .val _ => some (.val (.bl false), b.2)
    | _, _ => none
theorem se_chain {r1 r2 : R2} {g g' : D → D → Option D} (h1 : ROS K r1 g) (h2 : ROS K r2 g') (ha : SE K ta fa) (hb : SE K tb fb) (hc : SE K tc fc) : SE K (tChain r1 r2 ta tb tc) (eChain g g' fa fb fc) := by
  intro C hC B env σ H r env' s e Q hq
  obtain ⟨⟨ra, e1⟩, g1, e⟩ := Option.bind_eq_some_iff.mp e
  obtain ⟨⟨rb, e2⟩, g2, e⟩ := Option.bind_eq_some_iff.mp e
  obtain ⟨dx, g3, e⟩ := Option.bind_eq_some_iff.mp e
  obtain ⟨dy, g4, e⟩ := Option.bind_eq_some_iff.mp e
  obtain ⟨z, g5, e⟩ := Option.bind_eq_some_iff.mp e
  refine se_two ha hb hC s g1 g2 (W := fun x y H2 => r1 x y H2 fun z H3 => ∃ k, z = .bl k ∧ (if k = true then tc σ H3 fun w' H4 => r2 y w' H4 Q else Q (.bl false) H3)) fun x y B' H' s' x' rx ry => ?_
  have k1 := look_rep s' rx g3
  have k2 := look_rep s' ry g4
  rw [hC] at k1 k2
  obtain ⟨u, hu, go⟩ := h1 B' H' x y dx dy z s'.exB k1 k2 g5
  refine go _ ?_
  split at e
  · rename_i yd hy
    simp only at hy
    subst hy
    cases hu
    cases g4
    obtain ⟨⟨rc, e3⟩, g6, e⟩ := Option.bind_eq_some_iff.mp e
    obtain ⟨w, g7, e⟩ := Option.bind_eq_some_iff.mp e
    obtain ⟨z', g8, e⟩ := Option.map_eq_some_iff.mp e
    cases e
    refine ⟨true, rfl, ?_⟩
    show tc σ H' _
    refine hc C hC B' e2 σ H' rc e3 s' g6 _ fun w' B3 H3 s3 x3 rw' => ?_
    have k3 := look_rep s3 rw' g7
    rw [hC] at k3
    have ry' : Rep C.K B3 y dy := Rep.mono x3 ry
    rw [hC] at ry'
    obtain ⟨u2, hu2, go2⟩ := h2 B3 H3 y w' dy w z' s3.exB (.inl ry') k3 g8
    exact go2 _ (hq u2 B3 H3 s3 (x'.trans x3) (sc_rep hu2))
  · cases hu
    cases e
    refine ⟨false, rfl, ?_⟩
    show Q (.bl false) H'
    exact hq _ B' H' s' x' (.bl false)
  · cases e
theorem ros_lt : ROS K (rI0 fun i j => .bl (decide (i < j))) dLt := ros_I0 fun _ _ => rfl
theorem ros_le : ROS K (rI0 fun i j => .bl (decide (i ≤ j))) dLe := ros_I0 fun _ _ => rfl
theorem ros_gt : ROS K (rI0 fun i j => .bl (decide (j < i))) dGt := ros_I0 fun _ _ => rfl
theorem ros_ge : ROS K (rI0 fun i j => .bl (decide (j ≤ i))) dGe := ros_I0 fun _ _ => rfl
def dNeg : D → Option D
  | .int i => some (.int (-i))
  | _ => none
theorem se_neg (h : SE K ta fa) : SE K (tUn (rU fun i => .int (-i)) ta) (eUn dNeg fa) := se_un (g := dNeg) (by
  intro B H x dx z e rx hz
  cases dx with
  | int i =>
    cases hz
    exact ⟨_, rfl, fun Q q => ⟨i, rx.int, q⟩⟩
  | _ => cases hz) h

/-! ### isinstance of a built-in class -/
def tyD : D → Option String
  | .non => some "NoneType" | .bl _ => some "bool" | .int _ => some "int" | .str _ => some "str"
  | .lst _ => some "list" | .scr _ => some "list" | .tup _ => some "tuple" | .dct _ _ => some "dict"
  | _ => none
def kitD (a b : String) : Option Bool := kitB a b
def bIsi : List D → Option D
  | [d, .ty n] => (tyD d).bind fun t => (kitB t n).map D.bl
  | _ => none
theorem tyX_of {n : String} (e : Ex B H) (h : RepK K B H v d) (t : tyD d = some n) : TyX K H v (.type n) := by
  cases d with
  | non => cases t; rw [h.non]; exact .base .non
  | bl b => cases t; rw [h.bl]; exact .base (.bl b)
  | int i => cases t; rw [h.int]; exact .base (.int i)
  | str s => cases t; rw [h.str]; exact .base (.str s)
  | ref a => cases t
  | ty n => cases t
  | fn n => cases t
  | lst xs =>
    cases t
    obtain ⟨a, vs, rfl, h1, _⟩ := h.list e
    exact .base (.lst h1)
  | tup xs =>
    cases t
    obtain ⟨a, vs, rfl, h1, _⟩ := (h.scal fun _ z => by cases z).tuple
    rcases ex_t e h1 with (h1 | ⟨o, h1⟩) | ⟨o, its, m, h1, h2, _⟩
    · exact .base (.tup h1)
    · exact .fTuple h1
    · exact .kTuple h1 h2
  | dct ks xs =>
    cases t
    rcases h with h | ⟨_, _, _, _, z, _⟩
    · cases h with
      | dct h1 h2 => exact .base (.dK (e _ _ h1))
    · cases z
  | scr ns =>
    cases t
    obtain ⟨a, rfl, h1⟩ := (h.scal fun _ z => by cases z).script
    rcases ex_l e h1 with (h1 | ⟨o, h1⟩) | ⟨o, its, m, h1, h2, _⟩
    · exact .base (.lst h1)
    · exact .base (.frz h1)
    · exact .kList h1 h2
theorem rc_isi : RC K (rIsi K) bIsi := RCS.rc (by
  intro B H vs ds z e rx h
  unfold bIsi at h
  split at h
  · obtain ⟨t, h1, h⟩ := Option.bind_eq_some_iff.mp h
    obtain ⟨b, h2, rfl⟩ := Option.map_eq_some_iff.mp h
    obtain ⟨v, w, rfl, k1, k2⟩ := rx.two
    have hw : w = V.ty _ := repK_sc (d := .ty _) rfl k2
    subst hw
    exact ⟨_, rfl, fun Q q => ⟨v, _, _, _, b, rfl, .ty _, tyX_of e k1 h1, kit_ty h2, q⟩⟩
  · cases h)

/-! ### sorted of ints, list(..), reversed slices -/
def srt (ns : List Int) : List Int := ns.mergeSort fun a b => decide (a ≤ b)
theorem srt_perm (ns : List Int) : (srt ns).Perm ns := List.mergeSort_perm _ _
theorem srt_pw (ns : List Int) : (srt ns).Pairwise (· ≤ ·) := by
  have := List.pairwise_mergeSort (le := fun a b : Int => decide (a ≤ b)) (fun a b c h1 h2 => by
    have h1 := of_decide_eq_true h1
    have h2 := of_decide_eq_true h2
    exact decide_eq_true (Int.le_trans h1 h2)) (fun a b => by
    rcases Int.le_total a b with h | h
    · simp [h]
    · simp [h]) ns
  exact this.imp fun h => of_decide_eq_true h
theorem srt_unique {ns ms : List Int} (p : ms.Perm ns) (w : ms.Pairwise (· ≤ ·)) : ms = srt ns := PySem.W.ksm_same (p.trans (srt_perm ns).symm) w (srt_pw ns)
def bSorted : List D → Option (List D)
  | [.lst xs] => (unInts xs).map fun ns => (srt ns).map D.int
  | _ => none
theorem rcl_sorted : RCL K (rSortedI K) bSorted := by
  intro B H vs ds zs e rx h Q q
  unfold bSorted at h
  split at h
  · obtain ⟨ns, h1, rfl⟩ := Option.map_eq_some_iff.mp h
    obtain ⟨v, rfl, k⟩ := rx.one
    obtain ⟨a, rfl, h2⟩ := k.ints e h1
    refine ⟨a, ns, rfl, sq_of h2, fun ns' p pm pw hp => ?_⟩
    rw [srt_unique pm pw]
    exact q p _ hp (.of_ints _)
  · cases h
def bList : List D → Option (List D)
  | [.lst xs] => some xs
  | [.tup xs] => some xs
  | [.scr ns] => some (ns.map D.int)
  | _ => none
def rListOf (K : PySem.W.Frag) : List V → Hp → VK → Prop := fun xs H Q => ∃ p ys, xs = [.ref p] ∧ (SqL K H p ys ∨ SqT K H p ys) ∧ ∀ l, H l = none → Q (.ref l) (upd H l (.lst ys))
theorem rcl_list : RCL K (rListOf K) bList := by
  intro B H vs ds zs e rx h Q q
  unfold bList at h
  split at h
  · cases h
    obtain ⟨v, rfl, k⟩ := rx.one
    obtain ⟨a, ws, rfl, h1, h2⟩ := k.list e
    exact ⟨a, ws, rfl, .inl (sq_of h1), fun l hl => q l ws hl h2⟩
  · cases h
    obtain ⟨v, rfl, k⟩ := rx.one
    obtain ⟨a, ws, rfl, h1, h2⟩ := (k.scal fun _ z => by cases z).tuple
    exact ⟨a, ws, rfl, .inr (ex_t e h1), fun l hl => q l ws hl h2⟩
  · cases h
    obtain ⟨v, rfl, k⟩ := rx.one
    obtain ⟨a, rfl, h1⟩ := (k.scal fun _ z => by cases z).script
    exact ⟨a, _, rfl, .inl (ex_l e h1), fun l hl => q l _ hl (.of_ints _)⟩
  · cases h
def eRev (f : En → Option (R × En)) : En → Option (R × En) := fun env => (f env).bind fun a => (look a.2 a.1).bind fun d => (seqOf d).map fun xs => (.fr xs.reverse, a.2)
theorem se_rev (h : SE K te f) : SE K (tRevL K te) (eRev f) := by
  intro C hC B env σ H r env' s e Q hq
  obtain ⟨⟨a, e1⟩, g1, e⟩ := Option.bind_eq_some_iff.mp e
  obtain ⟨d, g2, e⟩ := Option.bind_eq_some_iff.mp e
  obtain ⟨xs, g3, e⟩ := Option.map_eq_some_iff.mp e
  cases e
  refine h C hC B env σ H a e1 s g1 _ fun v B1 H1 s1 x1 rr => ?_
  have k := look_rep s1 rr g2
  rw [hC] at k
  obtain ⟨p, vs, rfl, q1, q2⟩ := seqOf_rep s1.exB k g3
  exact ⟨p, vs, rfl, q1, fun q hq' => hq (.ref q) B1 _ (s1.temp hq') x1 (s1.newL hq' (by rw [hC]; exact q2.reverse))⟩
def intOf : R → Option Int
  | .val (.int i) => some i
  | _ => none
theorem intOf_some {i : Int} (h : intOf r = some i) : r = .val (.int i) := by
  unfold intOf at h
  split at h
  · cases h; rfl
  · cases h
instance (a b : Int) : Decidable (RgOk a b) := by unfold RgOk; infer_instance
theorem rg_rep (a b : Int) : RepAll K B (rgV a b) (upTo a (b - a).toNat) := by
  have : rgV a b = ((List.range (b - a).toNat).map fun i => a + ((i : Nat) : Int)).map V.int := by
    unfold rgV
    rw [List.map_map]
    rfl
  rw [this]
  have : upTo a (b - a).toNat = ((List.range (b - a).toNat).map fun i => a + ((i : Nat) : Int)).map D.int := by
    unfold upTo
    rw [List.map_map]
    rfl
  rw [this]
  exact .of_ints _
def eLr1 (f : En → Option (R × En)) : En → Option (R × En) := fun env => (f env).bind fun a => (intOf a.1).bind fun n => if RgOk 0 n then some (.fr (upTo 0 n.toNat), a.2) else none
theorem se_lr1 (h : SE K te f) : SE K (tLstRg (tRg1 te)) (eLr1 f) := by
  intro C hC B env σ H r env' s e Q hq
  obtain ⟨⟨a, e1⟩, g1, e⟩ := Option.bind_eq_some_iff.mp e
  obtain ⟨n, g2, e⟩ := Option.bind_eq_some_iff.mp e
  split at e
  · rename_i ho
    cases e
    have := intOf_some g2
    simp only at this
    subst this
    refine h C hC B env σ H _ e1 s g1 _ fun v B1 H1 s1 x1 rr => ?_
    have rr : Rep C.K B1 v (.int n) := rr
    cases rr
    refine ⟨n, rfl, ho, fun q hq' => hq (.ref q) B1 _ (s1.temp hq') x1 (s1.newL hq' ?_)⟩
    have := rg_rep (K := C.K) (B := B1) 0 n
    rw [Int.sub_zero] at this
    exact this
  · cases e
def eLr2 (fa fb : En → Option (R × En)) : En → Option (R × En) := fun env => (fa env).bind fun a => (fb a.2).bind fun b => (intOf a.1).bind fun i => (intOf b.1).bind fun j => if RgOk i j then some (.fr (upTo i (j - i).toNat), b.2) else none
theorem se_lr2 (h1 : SE K ta fa) (h2 : SE K tb fb) : SE K (tLstRg (tRg2 ta tb)) (eLr2 fa fb) := by
  intro C hC B env σ H r env' s e Q hq
  obtain ⟨⟨a, e1⟩, g1, e⟩ := Option.bind_eq_some_iff.mp e
  obtain ⟨⟨b, e2⟩, g2, e⟩ := Option.bind_eq_some_iff.mp e
  obtain ⟨i, g3, e⟩ := Option.bind_eq_some_iff.mp e
  obtain ⟨j, g4, e⟩ := Option.bind_eq_some_iff.mp e
  split at e
  · rename_i ho
    cases e
    have q1 := intOf_some g3
    have q2 := intOf_some g4
    simp only at q1 q2
    subst q1 q2
    refine h1 C hC B env σ H _ e1 s g1 _ fun v B1 H1 s1 x1 rr => ?_
    have rr : Rep C.K B1 v (.int i) := rr
    cases rr
    refine h2 C hC B1 e1 σ H1 _ e2 s1 g2 _ fun w B2 H2 s2 x2 rr2 => ?_
    have rr2 : Rep C.K B2 w (.int j) := rr2
    cases rr2
    exact ⟨i, j, rfl, rfl, ho, fun q hq' => hq (.ref q) B2 _ (s2.temp hq') (x1.trans x2) (s2.newL hq' (rg_rep i j))⟩
  · cases e

/-! ### never reached; subscripts that are read for an op= -/
def sNever : En → Option Out := fun _ => none
/-- a, b, c = x, y, z -/
def sPar3 (i j l : Nat) (f : En → Option (List R × En)) : En → Option Out := fun env => (f env).bind fun a => (frzs a.2 a.1).bind fun b => match b.1 with
  | [d1, d2, d3] => some (.nx (((b.2.set i (.sh d1)).set j (.sh d2)).set l (.sh d3)))
  | _ => none
theorem ss_par3 {i j l : Nat} {ta : TA} {f : En → Option (List R × En)} (h : SA K ta f) (hi : i ∉ fix) (hj : j ∉ fix) (hl : l ∉ fix) : SS K fix W (tPar3 i j l ta) (sPar3 i j l f) := by
  intro C hC hF B env σ H o s e D p
  obtain ⟨⟨rs, e1⟩, g1, e⟩ := Option.bind_eq_some_iff.mp e
  obtain ⟨⟨ds, e2⟩, g2, e⟩ := Option.bind_eq_some_iff.mp e
  split at e
  · rename_i d1 d2 d3 hd
    simp only at hd
    subst hd
    cases e
    refine h C hC B env σ H _ e1 s g1 _ fun vs B1 H1 s1 x1 rr => ?_
    obtain ⟨B2, s2, x2, ra⟩ := frzs_w s1 rr.w g2
    match vs, ra with
    | [u, v, w], .cons ru (.cons rv (.cons rw' .nil)) =>
      refine ⟨u, v, w, rfl, ?_⟩
      have s3 := s2.setV (i := i) (v := u) (t := .sh d1) (by rw [hF]; exact hi) ru
      have s4 := s3.setV (i := j) (v := v) (t := .sh d2) (by rw [hF]; exact hj) rv
      have s5 := s4.setV (i := l) (v := w) (t := .sh d3) (by rw [hF]; exact hl) rw'
      exact p B2 _ H1 s5 (x1.trans x2)
  · cases e
theorem ss_never : SS K fix W tNever sNever := by
  intro C hC hF B env σ H o s e
  cases e
theorem get_list : PGet X (rIxL X.K) := by
  intro pins s σ H x y v u Q I rx ry h
  obtain ⟨p, xs, i, z, rfl, rfl, hq, he, q⟩ := h
  cases rx
  obtain ⟨t, rfl⟩ := ry
  obtain ⟨its, r, pl, hz⟩ := I.list hq
  obtain ⟨j, h1, h2, h3, h4, h5⟩ := atI_get he
  obtain ⟨w, ew, rw'⟩ := r.get h2
  have hl := r.length
  have hn := line63
  have fin : EP X pins σ Q w s := ⟨z, H, I, rw', q⟩
  by_cases h0 : 0 ≤ i
  · have hj : i.toNat = j := by
      rw [seqIndex_of h0 h5] at h1
      exact Option.some.inj h1
    exact wpAny_getItem_list pl.isList h0 (by omega) (by rw [hj]; simpa using ew) fin
  · have hj : (i + (its.toArray.size : Int)).toNat = j := by
      rw [seqIndex_neg (by omega) h4] at h1
      rw [List.size_toArray, ← hl]
      exact Option.some.inj h1
    exact wpAny_getItem_list_neg pl.isList (by omega) (by rw [List.size_toArray] <;> omega) (by omega) (by rw [hj]; simpa using ew) fin

/-- a def of the module that may be called -/
structure DefOk (P : Program) (w : World) (K : PySem.W.Frag) (mg : Str → Option Value) (base : Heap) (x : Str) (ps : List Str) (k : Nat) (m : En → Option Res) : Prop where
  ex : ∃ f fd, mg x = some (.ref f) ∧ FnOk P w K mg base CX0 k f fd ps (SpM K ps.length m) ∧ PySem.W.keepIn K (.ref f) = true ∧ Binds K fd ps []
theorem pe_def {x : Str} {ps : List Str} {n k j : Nat} {m : En → Option Res} {p pos : Pos} {e : Expr} {es : List Expr} {t : TA} (h : DefOk X.prog X.w X.K X.mg X.base x ps k m) (hn : ps.length = n) (hr : Room j X.A) (hj : k ≤ j) (hg : Gl X x) (ha : PA X (e :: es) t)
    (hdb : (x == ("__debug__" : Str)) = false := by decide)
    (he : starEach (e :: es) X.env = (false, eval e X.env) :: starEach es X.env := by rfl) (hpl : (backTo pos (starEach es X.env)).any (·.1) = false := by rfl) : PE X (.Call (.Name x p) (e :: es) [] pos) (tCall (SpM X.K n m) [] E0 t) := by
  subst hn
  obtain ⟨f, fd, hm, F, hk, hb⟩ := h.ex
  exact pe_call F (hr.mono hj) hg hm hk hb .nil pass0 ha hdb he hpl
end
end Vm
namespace Vm
open PySem PySem.Spec PyProof.Rows L2 Evl
abbrev rAddI : R2 := rI0 fun i j => .int (i + j)
abbrev rSubI : R2 := rI0 fun i j => .int (i - j)
abbrev rMulA : R2 := rI CMulA fun i j => .int (i * j)
abbrev rFdivA : R2 := rI CDivA fun i j => .int (i.fdiv j)
abbrev rModN : R2 := rI (fun _ j => j ≠ 0) fun i j => .int (i.fmod j)
abbrev rPowA : R2 := rI CPowA fun i j => .int (i ^ j.toNat)
abbrev rLtI : R2 := rI0 fun i j => .bl (decide (i < j))
abbrev rLeI : R2 := rI0 fun i j => .bl (decide (i ≤ j))
abbrev rGtI : R2 := rI0 fun i j => .bl (decide (j < i))
abbrev rGeI : R2 := rI0 fun i j => .bl (decide (j ≤ i))
abbrev uNeg : V → Hp → VK → Prop := rU fun i => .int (-i)
abbrev rAbsI : List V → Hp → VK → Prop := fun xs H Q => ∃ i, xs = [.int i] ∧ Q (.int (if i < 0 then -i else i)) H
abbrev rInt1 : List V → Hp → VK → Prop := fun xs H Q => (∃ i, xs = [.int i] ∧ Q (.int i) H) ∨ ∃ k, xs = [.bl k] ∧ Q (.int (if k then 1 else 0)) H
abbrev rMx2 : List V → Hp → VK → Prop := fun xs H Q => ∃ i j, xs = [.int i, .int j] ∧ Q (.int (if j > i then j else i)) H
abbrev rMn2 : List V → Hp → VK → Prop := fun xs H Q => ∃ i j, xs = [.int i, .int j] ∧ Q (.int (if j < i then j else i)) H
end Vm

set_option Elab.async false
set_option linter.all false
set_option maxRecDepth 100000
/-! VmS: how the functions of the layer are reckoned (simp), and loops and comprehensions by invariants. -/
namespace Vm
/-- a step that is shown, not left to be found again -/
theorem nr {α : Sort _} {a b : α} (h : a = b) : a = b := h
open PySem PySem.Spec PyProof.Rows L2 Evl
section
variable {env : En} {fa fb fc : En → Option (R × En)} {f : En → Option (List R × En)} {F G : En → Option Out} {g : D → D → Option D} {t u : En → Option (Bool × En)}
@[simp] theorem x_sSeq : sSeq F G env = (F env).bind fun o => match o with
  | .nx e1 => G e1
  | o => some o := nr rfl
@[simp] theorem x_sIf : sIf t F G env = (t env).bind fun a => if a.1 then F a.2 else G a.2 := nr rfl
@[simp] theorem x_sRet : sRet fa env = (fa env).map fun a => .rt a.1 a.2 := nr rfl
@[simp] theorem x_sRetN : sRetN env = some (.rt (.val .non) env) := nr rfl
@[simp] theorem x_sNext : sNext env = some (.nx env) := nr rfl
@[simp] theorem x_sExpr : sExpr fa env = (fa env).map fun a => .nx a.2 := nr rfl
@[simp] theorem x_sSet {i : Nat} : sSet i fa env = (fa env).bind fun a => (store i a.1 a.2).map Out.nx := nr rfl
@[simp] theorem x_sAsg {h : D → En → Option En} : sAsg fa h env = (fa env).bind fun a => (frz a.2 a.1).bind fun b => (h b.1 b.2).map Out.nx := nr rfl
@[simp] theorem x_sPut {i : Nat} : sPut i fa fb env = (fa env).bind fun a => (frz a.2 a.1).bind fun b => (own b.2 i).bind fun _ => (fb b.2).bind fun k => match k.1 with
  | .val (.int z) => (own k.2 i).bind fun xs => (ixN xs.length z).map fun j => .nx (k.2.set i (.ow (xs.set j b.1)))
  | _ => none := nr rfl
@[simp] theorem x_sAug {i : Nat} : sAug i g fa env = match env[i]? with
  | some (.sh x) => (fa env).bind fun a => (look a.2 a.1).bind fun y => (g x y).map fun z => .nx (a.2.set i (.sh z))
  | _ => none := nr rfl
@[simp] theorem x_sPutAug {i : Nat} : sPutAug i g fa fb env = (own env i).bind fun _ => (fa env).bind fun k => match k.1 with
  | .val (.int z) => (own k.2 i).bind fun xs => (atI xs z).bind fun x => (fb k.2).bind fun a => (look a.2 a.1).bind fun y => (g x y).bind fun w => (own a.2 i).bind fun ys => (ixN ys.length z).map fun j => .nx (a.2.set i (.ow (ys.set j w)))
  | _ => none := nr rfl
@[simp] theorem x_sPar {i j : Nat} : sPar i j f env = (f env).bind fun a => match a.1 with
  | [.val d1, .val d2] => some (.nx ((a.2.set i (.sh d1)).set j (.sh d2)))
  | [.val d1, .fr xs] => some (.nx ((a.2.set i (.sh d1)).set j (.ow xs)))
  | [.fr xs, .val d2] => some (.nx ((a.2.set i (.ow xs)).set j (.sh d2)))
  | [r1, r2] => (frzs a.2 [r1, r2]).bind fun b => match b.1 with
    | [d1, d2] => some (.nx ((b.2.set i (.sh d1)).set j (.sh d2)))
    | _ => none
  | _ => none := nr rfl
@[simp] theorem x_sPar3 {i j l : Nat} : sPar3 i j l f env = (f env).bind fun a => (frzs a.2 a.1).bind fun b => match b.1 with
  | [d1, d2, d3] => some (.nx (((b.2.set i (.sh d1)).set j (.sh d2)).set l (.sh d3)))
  | _ => none := nr rfl
@[simp] theorem x_sFor {fi : En → Option (List D × En)} {tgt : D → En → Option En} : sFor fi tgt F env = (fi env).bind fun a => loopS tgt F a.1 a.2 := nr rfl
@[simp] theorem x_eVar {i : Nat} : eVar i env = match env[i]? with
  | some (.sh d) => some (.val d, env)
  | some (.ow _) => some (.al i, env)
  | _ => none := nr rfl
@[simp] theorem x_eC {d : D} : eC d env = some (.val d, env) := nr rfl
@[simp] theorem x_eOp : eOp g fa fb env = (fa env).bind fun a => (fb a.2).bind fun b => (look b.2 a.1).bind fun x => (look b.2 b.1).bind fun y => (g x y).map fun z => (R.val z, b.2) := nr rfl
@[simp] theorem x_eOpL {g : D → D → Option (List D)} : eOpL g fa fb env = (fa env).bind fun a => (fb a.2).bind fun b => (look b.2 a.1).bind fun x => (look b.2 b.1).bind fun y => (g x y).map fun z => (R.fr z, b.2) := nr rfl
@[simp] theorem x_eUn {g : D → Option D} : eUn g fa env = (fa env).bind fun a => (look a.2 a.1).bind fun x => (g x).map fun z => (R.val z, a.2) := nr rfl
@[simp] theorem x_eChain {g' : D → D → Option D} : eChain g g' fa fb fc env = (fa env).bind fun a => (fb a.2).bind fun b => (look b.2 a.1).bind fun x => (look b.2 b.1).bind fun y => (g x y).bind fun z => match z, b.1 with
    | .bl true, .val yd => (fc b.2).bind fun c => (look c.2 c.1).bind fun w => (g' yd w).map fun z' => (.val z', c.2)
    | .bl false, .val _ => some (.val (.bl false), b.2)
    | _, _ => none := nr rfl
@[simp] theorem x_eAnd : eAnd fa fb env = (bTest fa env).bind fun a => if a.1 then fb a.2 else some (.val (.bl false), a.2) := nr rfl
@[simp] theorem x_eOr : eOr fa fb env = (bTest fa env).bind fun a => if a.1 then some (.val (.bl true), a.2) else fb a.2 := nr rfl
@[simp] theorem x_eNot : eNot fa env = (bTest fa env).map fun a => (.val (.bl (!a.1)), a.2) := nr rfl
@[simp] theorem x_eIf : eIf t fa fb env = (t env).bind fun a => if a.1 then fa a.2 else fb a.2 := nr rfl
@[simp] theorem x_bTest : bTest fa env = (fa env).bind fun a => match a.1 with
  | .val (.bl b) => some (b, a.2)
  | _ => none := nr rfl
@[simp] theorem x_bAnd : bAnd t u env = (t env).bind fun a => if a.1 then u a.2 else some (false, a.2) := nr rfl
@[simp] theorem x_bOr : bOr t u env = (t env).bind fun a => if a.1 then some (true, a.2) else u a.2 := nr rfl
@[simp] theorem x_bNot : bNot t env = (t env).map fun a => (!a.1, a.2) := nr rfl
@[simp] theorem x_bYes : bYes env = some (true, env) := nr rfl
@[simp] theorem x_aNil : aNil env = some ([], env) := nr rfl
@[simp] theorem x_aCons : aCons fa f env = (fa env).bind fun a => (f a.2).map fun b => (a.1 :: b.1, b.2) := nr rfl
@[simp] theorem x_aD : aD f env = (f env).bind fun a => frzs a.2 a.1 := nr rfl
@[simp] theorem x_eTup : eTup f env = (aD f env).bind fun b => if b.1.length ≤ 1000 then some (.val (.tup b.1), b.2) else none := nr rfl
@[simp] theorem x_eLst : eLst f env = (aD f env).bind fun b => if b.1.length ≤ 1000 then some (.fr b.1, b.2) else none := nr rfl
@[simp] theorem x_eCB {g : List D → Option D} : eCB g f env = (f env).bind fun a => (looks a.2 a.1).bind fun ds => (g ds).map fun z => (.val z, a.2) := nr rfl
@[simp] theorem x_eCBL {g : List D → Option (List D)} : eCBL g f env = (f env).bind fun a => (looks a.2 a.1).bind fun ds => (g ds).map fun z => (.fr z, a.2) := nr rfl
@[simp] theorem x_eRev : eRev fa env = (fa env).bind fun a => (look a.2 a.1).bind fun d => (seqOf d).map fun xs => (.fr xs.reverse, a.2) := nr rfl
@[simp] theorem x_eSl {fl fh : En → Option (Option Int × En)} : eSl fa fl fh env = (fa env).bind fun a => (fl a.2).bind fun l => (fh l.2).bind fun h => (look h.2 a.1).bind fun d => (seqOf d).map fun xs => (.fr (cutD xs l.1 h.1), h.2) := nr rfl
@[simp] theorem x_oNone : oNone env = some (none, env) := nr rfl
@[simp] theorem x_oSome : oSome fa env = (fa env).bind fun a => match a.1 with
  | .val (.int i) => some (some i, a.2)
  | _ => none := nr rfl
@[simp] theorem x_eCall {n : Nat} {m : En → Option Res} : eCall n m f env = (aD f env).bind fun a => if a.1.length = n then (m (a.1.map .sh)).bind fun r => match r with
  | .val d _ => some (.val d, a.2)
  | .fr xs _ => some (.fr xs, a.2)
  | .er _ _ => none
  else none := nr rfl
@[simp] theorem x_eCall1 {n : Nat} {m : En → Option Res} : eCall1 n m f env = (f env).bind fun a => match a.1 with
  | .al i :: rs => (frzs a.2 rs).bind fun b => (own b.2 i).bind fun xs => if b.1.length + 1 = n then (m (.ow xs :: b.1.map .sh)).bind fun r => match r with
    | .val d (.ow ys :: _) => some (.val d, b.2.set i (.ow ys))
    | .fr zs (.ow ys :: _) => some (.fr zs, b.2.set i (.ow ys))
    | _ => none
    else none
  | _ => none := nr rfl
@[simp] theorem x_append {i : Nat} : eAppend i f env = (own env i).bind fun _ => (aD f env).bind fun b => (one b.1).bind fun d => (own b.2 i).bind fun xs => if xs.length < 1000000 then some (.val .non, b.2.set i (.ow (xs ++ [d]))) else none := nr rfl
@[simp] theorem x_pop {i : Nat} : eaPop i f env = (own env i).bind fun _ => (aD f env).bind fun b => (oneInt b.1).bind fun k => (own b.2 i).bind fun xs =>
  if 0 ≤ k ∧ k < 2 ^ 63 then (xs[k.toNat]?).map fun d => (.val d, b.2.set i (.ow (xs.eraseIdx k.toNat))) else none := nr rfl
@[simp] theorem x_iSeq : iSeq fa env = (fa env).bind fun a => (frz a.2 a.1).bind fun b => match b.1 with
  | .lst xs => some (xs, b.2)
  | .scr ns => some (ns.map D.int, b.2)
  | _ => none := nr rfl
@[simp] theorem x_iTupF : iTupF fa env = (fa env).bind fun a => match a.1 with
  | .val (.tup xs) => some (xs, a.2)
  | _ => none := nr rfl
@[simp] theorem x_iR1 : iR1 f env = (aD f env).bind fun a => match a.1 with
  | [.int j] => if -(2 ^ 62) ≤ j ∧ j < 2 ^ 62 then some (upTo 0 j.toNat, a.2) else none
  | _ => none := nr rfl
@[simp] theorem x_iR2 : iR2 f env = (aD f env).bind fun a => match a.1 with
  | [.int i, .int j] => if -(2 ^ 62) ≤ i ∧ i < 2 ^ 62 ∧ -(2 ^ 62) ≤ j ∧ j < 2 ^ 62 then some (upTo i (j - i).toNat, a.2) else none
  | _ => none := nr rfl
@[simp] theorem x_iEnumF : iEnumF f env = (aD f env).bind fun a => match a.1 with
  | [d] => (seqOf d).map fun xs => (enumD 0 xs, a.2)
  | _ => none := nr rfl
@[simp] theorem x_iZipF : iZipF f env = (aD f env).bind fun a => match a.1 with
  | [c, d] => (seqOf c).bind fun xs => (seqOf d).map fun ys => (zipD xs ys, a.2)
  | _ => none := nr rfl
@[simp] theorem x_tgName {i : Nat} {d : D} : tgName i d env = some (env.set i (.sh d)) := nr rfl
@[simp] theorem x_tgTup {n : Nat} {h : List D → En → Option En} {xs : List D} : tgTup n h (.tup xs) env = if xs.length = n then h xs env else none := nr rfl
@[simp] theorem x_tgCons {h : D → En → Option En} {k : List D → En → Option En} {d : D} {ds : List D} : tgCons h k (d :: ds) env = (h d env).bind fun e => k ds e := nr rfl
@[simp] theorem x_tgNil : tgNil [] env = some env := nr rfl
@[simp] theorem x_store1 {i : Nat} {d : D} : store i (.val d) env = some (env.set i (.sh d)) := nr rfl
@[simp] theorem x_store2 {i : Nat} {xs : List D} : store i (.fr xs) env = some (env.set i (.ow xs)) := nr rfl
@[simp] theorem x_store3 {i j : Nat} : store i (.al j) env = (frz env (.al j)).map fun b => b.2.set i (.sh b.1) := nr rfl
@[simp] theorem x_frz1 {d : D} : frz env (.val d) = some (d, env) := nr rfl
@[simp] theorem x_frz2 {xs : List D} : frz env (.fr xs) = some (.lst xs, env) := nr rfl
@[simp] theorem x_frz3 {i : Nat} : frz env (.al i) = match env[i]? with
    | some (.ow xs) => some (.lst xs, env.set i (.sh (.lst xs)))
    | some (.sh d) => some (d, env)
    | _ => none := nr rfl
@[simp] theorem x_frzs1 : frzs env [] = some ([], env) := nr rfl
@[simp] theorem x_frzs2 {r : R} {rs : List R} : frzs env (r :: rs) = (frz env r).bind fun a => (frzs a.2 rs).map fun b => (a.1 :: b.1, b.2) := nr rfl
@[simp] theorem x_look1 {d : D} : look env (.val d) = some d := nr rfl
@[simp] theorem x_look2 {xs : List D} : look env (.fr xs) = some (.lst xs) := nr rfl
@[simp] theorem x_look3 {i : Nat} : look env (.al i) = match env[i]? with
    | some (.ow xs) => some (.lst xs)
    | some (.sh d) => some d
    | _ => none := nr rfl
@[simp] theorem x_looks1 : looks env [] = some [] := nr rfl
@[simp] theorem x_looks2 {r : R} {rs : List R} : looks env (r :: rs) = (look env r).bind fun a => (looks env rs).map fun b => a :: b := nr rfl
@[simp] theorem x_own {i : Nat} : own env i = match env[i]? with
  | some (.ow xs) => some xs
  | _ => none := nr rfl
@[simp] theorem x_one {d : D} : one [d] = some d := nr rfl
@[simp] theorem x_oneInt {i : Int} : oneInt [.int i] = some i := nr rfl
@[simp] theorem x_seq1 {xs : List D} : seqOf (.lst xs) = some xs := nr rfl
@[simp] theorem x_seq2 {ns : List Int} : seqOf (.scr ns) = some (ns.map D.int) := nr rfl
@[simp] theorem x_add {i j : Int} : dAdd (.int i) (.int j) = some (.int (i + j)) := nr rfl
@[simp] theorem x_sub {i j : Int} : dSub (.int i) (.int j) = some (.int (i - j)) := nr rfl
@[simp] theorem x_lt {i j : Int} : dLt (.int i) (.int j) = some (.bl (decide (i < j))) := nr rfl
@[simp] theorem x_le {i j : Int} : dLe (.int i) (.int j) = some (.bl (decide (i ≤ j))) := nr rfl
@[simp] theorem x_gt {i j : Int} : dGt (.int i) (.int j) = some (.bl (decide (j < i))) := nr rfl
@[simp] theorem x_ge {i j : Int} : dGe (.int i) (.int j) = some (.bl (decide (j ≤ i))) := nr rfl
@[simp] theorem x_neg {i : Int} : dNeg (.int i) = some (.int (-i)) := nr rfl
theorem x_mul {i j : Int} (h : CMulA i j) : dMul (.int i) (.int j) = some (.int (i * j)) := by
  show (if decide (CMulA i j) = true then _ else _) = _
  rw [decide_eq_true h]
  rfl
theorem x_fdiv {i j : Int} (h0 : 0 < j) (h1 : j < 1073741824) : dFdiv (.int i) (.int j) = some (.int (i / j)) := by
  show (if decide (CDivA i j) = true then some (D.int (i.fdiv j)) else none) = _
  rw [decide_eq_true (show CDivA i j from .inl ⟨by omega, by omega⟩), Int.fdiv_eq_ediv_of_nonneg i (by omega)]
  rfl
theorem x_fdivW {i j : Int} (h0 : 0 < j) (h1 : j < 2 ^ 8000) : dFdiv (.int i) (.int j) = some (.int (i / j)) := by
  show (if decide (CDivA i j) = true then some (D.int (i.fdiv j)) else none) = _
  rw [decide_eq_true (show CDivA i j from .inr (wide_div (b := 8000) h0 (by omega) (by decide) (by decide))), Int.fdiv_eq_ediv_of_nonneg i (by omega)]
  rfl
theorem x_mod {i j : Int} (h0 : 0 < j) : dMod (.int i) (.int j) = some (.int (i % j)) := by
  show (if decide (j ≠ 0) = true then some (D.int (i.fmod j)) else none) = _
  rw [decide_eq_true (show j ≠ 0 by omega), Int.fmod_eq_emod_of_nonneg i (by omega)]
  rfl
theorem x_pow {i j : Int} (h : CPowA i j) : dPow (.int i) (.int j) = some (.int (i ^ j.toNat)) := by
  show (if decide (CPowA i j) = true then _ else _) = _
  rw [decide_eq_true h]
  rfl
@[simp] theorem x_cat {xs ys : List D} : dCat (.lst xs) (.lst ys) = if xs.length + ys.length ≤ sizeLine then some (xs ++ ys) else none := nr rfl
@[simp] theorem x_ix1 {xs : List D} {i : Int} : dIx (.lst xs) (.int i) = atI xs i := nr rfl
@[simp] theorem x_ix2 {xs : List D} {i : Int} : dIx (.tup xs) (.int i) = atI xs i := nr rfl
@[simp] theorem x_ix3 {ns : List Int} {i : Int} : dIx (.scr ns) (.int i) = (atI ns i).map D.int := nr rfl
@[simp] theorem x_len1 {xs : List D} : bLen [.lst xs] = some (.int xs.length) := nr rfl
@[simp] theorem x_len2 {xs : List D} : bLen [.tup xs] = some (.int xs.length) := nr rfl
@[simp] theorem x_len3 {xs : List Int} : bLen [.scr xs] = some (.int xs.length) := nr rfl
@[simp] theorem x_int {i : Int} : bInt [.int i] = some (.int i) := nr rfl
@[simp] theorem x_abs {i : Int} : bAbs [.int i] = some (.int (if i < 0 then -i else i)) := nr rfl
@[simp] theorem x_max2 {i j : Int} : bMax2 [.int i, .int j] = some (.int (if j > i then j else i)) := nr rfl
@[simp] theorem x_min2 {i j : Int} : bMin2 [.int i, .int j] = some (.int (if j < i then j else i)) := nr rfl
@[simp] theorem x_sum {ns : List Int} : bSum [.lst (ns.map D.int)] = some (.int ns.sum) := by
  show (unInts (ns.map D.int)).map _ = _
  rw [unInts_map]
  rfl
@[simp] theorem x_all {ns : List Bool} : bAll [.lst (ns.map D.bl)] = some (.bl (ns.all id)) := by
  show (unBls (ns.map D.bl)).map _ = _
  rw [unBls_map]
  rfl
@[simp] theorem x_maxL {ns : List Int} : bMaxL [.lst (ns.map D.int)] = if ns = [] then none else some (.int (maxL ns)) := by
  show (unInts (ns.map D.int)).bind _ = _
  rw [unInts_map]
  rfl
@[simp] theorem x_minL {ns : List Int} : bMinL [.lst (ns.map D.int)] = if ns = [] then none else some (.int (minL ns)) := by
  show (unInts (ns.map D.int)).bind _ = _
  rw [unInts_map]
  rfl
@[simp] theorem x_sorted {ns : List Int} : bSorted [.lst (ns.map D.int)] = some ((srt ns).map D.int) := by
  show (unInts (ns.map D.int)).map _ = _
  rw [unInts_map]
  rfl
@[simp] theorem x_list {xs : List D} : bList [.lst xs] = some xs := nr rfl
@[simp] theorem params_nil {n : Nat} {e : En} : params [] n e = List.replicate n Sl.un := by
  unfold params
  refine List.ext_getElem (by simp) fun i h1 h2 => ?_
  simp
@[simp] theorem params_zero {n : Nat} {e : En} : params [0] (n + 1) e = e[0]?.getD .un :: List.replicate n Sl.un := by
  unfold params
  rw [List.range_succ_eq_map, List.map_cons, List.map_map]
  congr 1
  refine List.ext_getElem (by simp) fun i h1 h2 => ?_
  simp
theorem k_int_int : kitB "int" "int" = some true := by decide +kernel
theorem k_int_bool : kitB "int" "bool" = some false := by decide +kernel
theorem k_list_list : kitB "list" "list" = some true := by decide +kernel
@[simp] theorem x_isi_int {i : Int} : bIsi [.int i, .ty "int"] = some (.bl true) := by
  show (kitB "int" "int").map _ = _
  rw [k_int_int]
  rfl
@[simp] theorem x_isi_bool {i : Int} : bIsi [.int i, .ty "bool"] = some (.bl false) := by
  show (kitB "int" "bool").map _ = _
  rw [k_int_bool]
  rfl
@[simp] theorem x_isi_list {xs : List D} : bIsi [.lst xs, .ty "list"] = some (.bl true) := by
  show (kitB "list" "list").map _ = _
  rw [k_list_list]
  rfl
end

/-! ### == of ints, of lists of ints -/
theorem eqv_ints : ∀ xs ys : List Int, PyData.eqvAll (xs.map PyData.int) (ys.map PyData.int) = decide (xs = ys)
  | [], [] => by simp [PyData.eqvAll]
  | [], _ :: _ => by simp [PyData.eqvAll]
  | _ :: _, [] => by simp [PyData.eqvAll]
  | x :: xs, y :: ys => by
    have ih := eqv_ints xs ys
    simp only [List.map_cons, PyData.eqvAll, PyData.eqv, ih]
    by_cases h : x = y <;> by_cases h2 : xs = ys <;> simp [h, h2]
theorem canLay_ints : ∀ xs : List Int, PyData.canLayAll0 (xs.map PyData.int) = true
  | [] => by simp [PyData.canLayAll0]
  | x :: xs => by simp [PyData.canLayAll0, PyData.canLay0, canLay_ints xs]
theorem depth_ints : ∀ xs : List Int, PyData.depthAll (xs.map PyData.int) = 0
  | [] => by simp [PyData.depthAll]
  | x :: xs => by simp [PyData.depthAll, PyData.depth, depth_ints xs]
theorem shaped_ints (xs : List Int) : SeqAt.shaped (.list (xs.map PyData.int)) = true := by
  unfold SeqAt.shaped
  simp [PyData.canLay0, canLay_ints, PyData.depth, depth_ints]
theorem shaped_int (i : Int) : SeqAt.shaped (.int i) = true := by
  unfold SeqAt.shaped
  simp [PyData.canLay0, PyData.depth]
theorem shaped_bool (i : Bool) : SeqAt.shaped (.bool i) = true := by
  unfold SeqAt.shaped
  simp [PyData.canLay0, PyData.depth]
theorem toPyAll_ints : ∀ xs : List Int, toPyAll (xs.map D.int) = some (xs.map PyData.int)
  | [] => rfl
  | x :: xs => by
    show (toPy (.int x)).bind _ = _
    rw [toPyAll_ints xs]
    rfl
@[simp] theorem x_eqI {i j : Int} : dEq (.int i) (.int j) = some (.bl (decide (i = j))) := by
  unfold dEq eqD
  simp only [toPy, Option.bind_some, shaped_int, Bool.and_self, if_true, Option.map_some, PyData.eqv]
  by_cases h : i = j <;> simp [h]
@[simp] theorem x_neI {i j : Int} : dNe (.int i) (.int j) = some (.bl (!decide (i = j))) := by
  unfold dNe eqD
  simp only [toPy, Option.bind_some, shaped_int, Bool.and_self, if_true, Option.map_some, PyData.eqv]
  by_cases h : i = j <;> simp [h]
@[simp] theorem x_eqB {i j : Bool} : dEq (.bl i) (.bl j) = some (.bl (decide (i = j))) := by
  unfold dEq eqD
  simp only [toPy, Option.bind_some, shaped_bool, Bool.and_self, if_true, Option.map_some, PyData.eqv]
  cases i <;> cases j <;> rfl
theorem eqD_ints {xs ys : List Int} : eqD (.lst (xs.map D.int)) (.lst (ys.map D.int)) = some (decide (xs = ys)) := by
  unfold eqD
  simp only [toPy, toPyAll_ints, Option.map_some, Option.bind_some, shaped_ints, Bool.and_self, if_true, PyData.eqv, eqv_ints]
@[simp] theorem x_eqL {xs ys : List Int} : dEq (.lst (xs.map D.int)) (.lst (ys.map D.int)) = some (.bl (decide (xs = ys))) := by
  unfold dEq
  rw [eqD_ints]
  rfl
@[simp] theorem x_neL {xs ys : List Int} : dNe (.lst (xs.map D.int)) (.lst (ys.map D.int)) = some (.bl (!decide (xs = ys))) := by
  unfold dNe
  rw [eqD_ints]
  rfl

/-! ### loops and comprehensions -/
/-- a loop all of whose turns go on: R tells the environment behind the items taken -/
theorem loop_all {α : Type} {tgt : D → En → Option En} {body : En → Option Out} (enc : α → D) (Rl : List α → En → Prop) (xs : List α) (env : En) (h0 : Rl [] env)
    (hs : ∀ (pre : List α) (x : α) (post : List α) (env : En), xs = pre ++ x :: post → Rl pre env → ∃ e1 env', tgt (enc x) env = some e1 ∧ body e1 = some (.nx env') ∧ Rl (pre ++ [x]) env') :
    ∃ env', loopS tgt body (xs.map enc) env = some (.nx env') ∧ Rl xs env' := by
  have go : ∀ (post pre : List α) (env : En), xs = pre ++ post → Rl pre env → ∃ env', loopS tgt body (post.map enc) env = some (.nx env') ∧ Rl xs env' := by
    intro post
    induction post with
    | nil =>
      intro pre env e r
      rw [List.append_nil] at e
      subst e
      exact ⟨env, rfl, r⟩
    | cons x post ih =>
      intro pre env e r
      obtain ⟨e1, env', h1, h2, r'⟩ := hs pre x post env e r
      obtain ⟨env2, h3, r2⟩ := ih (pre ++ [x]) env' (by rw [e]; simp) r'
      refine ⟨env2, ?_, r2⟩
      show (tgt (enc x) env).bind _ = _
      rw [h1]
      show (body e1).bind _ = _
      rw [h2]
      exact h3
  exact go xs [] env rfl h0
/-- over a range: by the number of turns -/
theorem loop_range {tgt : D → En → Option En} {body : En → Option Out} (Rl : Nat → En → Prop) (lo : Int) (n : Nat) (env : En) (h0 : Rl 0 env)
    (hs : ∀ (i : Nat) (env : En), i < n → Rl i env → ∃ e1 env', tgt (.int (lo + (i : Nat))) env = some e1 ∧ body e1 = some (.nx env') ∧ Rl (i + 1) env') :
    ∃ env', loopS tgt body (upTo lo n) env = some (.nx env') ∧ Rl n env' := by
  have q := loop_all (α := Nat) (tgt := tgt) (body := body) (fun i => .int (lo + (i : Nat))) (fun pre env => Rl pre.length env) (List.range n) env h0 (fun pre x post env e r => by
    have hx : x = pre.length ∧ pre.length < n := by
      have h1 : (List.range n)[pre.length]? = some x := by rw [e]; simp
      have h2 : pre.length < n := by
        have := (List.getElem?_eq_some_iff.mp h1).1
        simpa using this
      rw [List.getElem?_range h2] at h1
      exact ⟨(Option.some.inj h1).symm, h2⟩
    obtain ⟨rfl, hlt⟩ := hx
    obtain ⟨e1, env', h1, h2, h3⟩ := hs pre.length env hlt r
    exact ⟨e1, env', h1, h2, by simpa using h3⟩)
  rw [List.length_range] at q
  exact q
/-- a comprehension: the environment is told behind each item; what is made so far in acc -/
theorem lc_all {α : Type} {vs : List Nat} {tgt : D → En → Option En} {test : En → Option (Bool × En)} {elt : En → Option (R × En)} (enc : α → D) (p : α → Bool) (Rl : List α → En → List D → Prop) (xs : List α) (env : En) (h0 : Rl [] env [])
    (hs : ∀ (pre : List α) (x : α) (post : List α) (env : En) (acc : List D), xs = pre ++ x :: post → Rl pre env acc → ∃ e1 e2, tgt (enc x) env = some e1 ∧ test e1 = some (p x, e2) ∧
      (p x = false → Rl (pre ++ [x]) (wipeE e2 vs) acc) ∧ (p x = true → ∃ r e3 d e4, elt e2 = some (r, e3) ∧ frz e3 r = some (d, e4) ∧ Rl (pre ++ [x]) (wipeE e4 vs) (acc ++ [d]))) :
    ∃ env' acc, lcF vs tgt test elt (xs.map enc) env [] = some (acc, env') ∧ Rl xs env' acc := by
  have go : ∀ (post pre : List α) (env : En) (acc : List D), xs = pre ++ post → Rl pre env acc → ∃ env' acc', lcF vs tgt test elt (post.map enc) env acc = some (acc', env') ∧ Rl xs env' acc' := by
    intro post
    induction post with
    | nil =>
      intro pre env acc e r
      rw [List.append_nil] at e
      subst e
      exact ⟨env, acc, rfl, r⟩
    | cons x post ih =>
      intro pre env acc e r
      obtain ⟨e1, e2, h1, h2, hf, ht⟩ := hs pre x post env acc e r
      have ex : xs = (pre ++ [x]) ++ post := by rw [e]; simp
      cases hp : p x with
      | false =>
        obtain ⟨env2, acc2, h3, r2⟩ := ih (pre ++ [x]) _ acc ex (hf hp)
        refine ⟨env2, acc2, ?_, r2⟩
        show (tgt (enc x) env).bind _ = _
        rw [h1]
        show (test e1).bind _ = _
        rw [h2, hp]
        exact h3
      | true =>
        obtain ⟨r0, e3, d, e4, g1, g2, r1⟩ := ht hp
        obtain ⟨env2, acc2, h3, r2⟩ := ih (pre ++ [x]) _ (acc ++ [d]) ex r1
        refine ⟨env2, acc2, ?_, r2⟩
        show (tgt (enc x) env).bind _ = _
        rw [h1]
        show (test e1).bind _ = _
        rw [h2, hp]
        show (elt e2).bind _ = _
        rw [g1]
        show (frz e3 r0).bind _ = _
        rw [g2]
        exact h3
  exact go xs [] env [] rfl h0
/-- one turn of a comprehension -/
def turn (vs : List Nat) (tgt : D → En → Option En) (test : En → Option (Bool × En)) (elt : En → Option (R × En)) (d : D) (env : En) : Option (Option D × En) :=
  (tgt d env).bind fun e1 => (test e1).bind fun b => if b.1 then (elt b.2).bind fun r => (frz r.2 r.1).map fun a => (some a.1, wipeE a.2 vs) else some (none, wipeE b.2 vs)
theorem lc_turns {α : Type} {vs : List Nat} {tgt : D → En → Option En} {test : En → Option (Bool × En)} {elt : En → Option (R × En)} (enc : α → D) (Rl : List α → En → List D → Prop) (xs : List α) (env : En) (h0 : Rl [] env [])
    (hs : ∀ (pre : List α) (x : α) (post : List α) (env : En) (acc : List D), xs = pre ++ x :: post → Rl pre env acc → ∃ o env', turn vs tgt test elt (enc x) env = some (o, env') ∧ Rl (pre ++ [x]) env' (acc ++ o.toList)) :
    ∃ env' acc, lcF vs tgt test elt (xs.map enc) env [] = some (acc, env') ∧ Rl xs env' acc := by
  have go : ∀ (post pre : List α) (env : En) (acc : List D), xs = pre ++ post → Rl pre env acc → ∃ env' acc', lcF vs tgt test elt (post.map enc) env acc = some (acc', env') ∧ Rl xs env' acc' := by
    intro post
    induction post with
    | nil =>
      intro pre env acc e r
      rw [List.append_nil] at e
      subst e
      exact ⟨env, acc, rfl, r⟩
    | cons x post ih =>
      intro pre env acc e r
      obtain ⟨o, env1, h1, r1⟩ := hs pre x post env acc e r
      obtain ⟨env2, acc2, h3, r2⟩ := ih (pre ++ [x]) env1 _ (by rw [e]; simp) r1
      refine ⟨env2, acc2, ?_, r2⟩
      unfold turn at h1
      obtain ⟨e1, g1, h1⟩ := Option.bind_eq_some_iff.mp h1
      obtain ⟨⟨b, e2⟩, g2, h1⟩ := Option.bind_eq_some_iff.mp h1
      show (tgt (enc x) env).bind _ = _
      rw [g1]
      show (test e1).bind _ = _
      rw [g2]
      cases b with
      | false =>
        cases h1
        rw [show acc ++ (none : Option D).toList = acc by simp] at h3
        exact h3
      | true =>
        obtain ⟨⟨r0, e3⟩, g3, h1⟩ := Option.bind_eq_some_iff.mp h1
        obtain ⟨⟨d, e4⟩, g4, h1⟩ := Option.map_eq_some_iff.mp h1
        cases h1
        show (elt e2).bind _ = _
        rw [g3]
        show (frz e3 r0).bind _ = _
        rw [g4]
        exact h3
  exact go xs [] env [] rfl h0
theorem lc_pure {α : Type} {vs : List Nat} {tgt : D → En → Option En} {test : En → Option (Bool × En)} {elt : En → Option (R × En)} (enc : α → D) (o : α → Option D) (xs : List α) (env : En)
    (hs : ∀ x ∈ xs, turn vs tgt test elt (enc x) env = some (o x, env)) : lcF vs tgt test elt (xs.map enc) env [] = some (xs.filterMap o, env) := by
  obtain ⟨env', acc, h1, rfl, rfl⟩ := lc_turns (vs := vs) (tgt := tgt) (test := test) (elt := elt) enc (fun pre e acc => e = env ∧ acc = pre.filterMap o) xs env ⟨rfl, rfl⟩ (fun pre x post e acc ex ⟨he, ha⟩ => by
    subst he ha
    refine ⟨o x, _, hs x (by rw [ex]; simp), rfl, ?_⟩
    rw [List.filterMap_append]
    cases q : o x <;> simp [q])
  exact h1
theorem lc_map {α : Type} {vs : List Nat} {tgt : D → En → Option En} {test : En → Option (Bool × En)} {elt : En → Option (R × En)} (enc : α → D) (g : α → D) (xs : List α) (env : En)
    (hs : ∀ x ∈ xs, turn vs tgt test elt (enc x) env = some (some (g x), env)) : lcF vs tgt test elt (xs.map enc) env [] = some (xs.map g, env) := by
  have := lc_pure (vs := vs) (tgt := tgt) (test := test) (elt := elt) enc (fun x => some (g x)) xs env hs
  rw [this]
  simp
/-- a loop's turn as one step -/
theorem loop_turns {α : Type} {tgt : D → En → Option En} {body : En → Option Out} (enc : α → D) (Rl : List α → En → Prop) (xs : List α) (env : En) (h0 : Rl [] env)
    (hs : ∀ (pre : List α) (x : α) (post : List α) (env : En), xs = pre ++ x :: post → Rl pre env → ∃ env', (tgt (enc x) env).bind body = some (.nx env') ∧ Rl (pre ++ [x]) env') :
    ∃ env', loopS tgt body (xs.map enc) env = some (.nx env') ∧ Rl xs env' :=
  loop_all enc Rl xs env h0 fun pre x post env e r => by
    obtain ⟨env', h1, h2⟩ := hs pre x post env e r
    obtain ⟨e1, g1, h1⟩ := Option.bind_eq_some_iff.mp h1
    exact ⟨e1, env', g1, h1, h2⟩
theorem loop_rangeT {tgt : D → En → Option En} {body : En → Option Out} (Rl : Nat → En → Prop) (lo : Int) (n : Nat) (env : En) (h0 : Rl 0 env)
    (hs : ∀ (i : Nat) (env : En), i < n → Rl i env → ∃ env', (tgt (.int (lo + (i : Nat))) env).bind body = some (.nx env') ∧ Rl (i + 1) env') :
    ∃ env', loopS tgt body (upTo lo n) env = some (.nx env') ∧ Rl n env' :=
  loop_range Rl lo n env h0 fun i env hi r => by
    obtain ⟨env', h1, h2⟩ := hs i env hi r
    obtain ⟨e1, g1, h1⟩ := Option.bind_eq_some_iff.mp h1
    exact ⟨e1, env', g1, h1, h2⟩
end Vm

set_option Elab.async false
set_option linter.all false
set_option maxRecDepth 100000
/-! VmX: expressions that may raise, where a statement takes what they raise. -/
namespace Vm
open PySem PySem.Spec PyProof.Rows L2 Evl
inductive XR where
  | ok (r : R) | er (c : Str)
section
variable {K : PySem.W.Frag} {C : Ctx} {B B' G H H' : Hp} {env env' : En} {σ : L2.St} {v : V} {r : R} {d : D} {ta : TA} {te : TE} {f : En → Option (R × En)} {X : Cx} {fix : List Nat} {W : WX}
/-- the transformer goes as f says, or lets out an error of the class that f tells -/
def SX (K : PySem.W.Frag) (W : WX) (t : TE) (f : En → Option (XR × En)) : Prop :=
  ∀ C : Ctx, C.K = K → ∀ (B : Hp) (env : En) (σ : L2.St) (H : Hp) (x : XR) (env' : En), SR C B env σ H → f env = some (x, env') →
    ∀ Q : VK, (match x with
      | .ok r => ∀ v B' H', SR C B' env' σ H' → Ex B B' → RepR C B' env' σ H' v r → Q v H'
      | .er c => ∀ B' H', SR C B' env' σ H' → Ex B B' → W (.ref (clsOf K c)) none σ H') → t σ H Q
def xOf (f : En → Option (R × En)) : En → Option (XR × En) := fun env => (f env).map fun a => (.ok a.1, a.2)
theorem sx_of (h : SE K te f) : SX K W te (xOf f) := by
  intro C hC B env σ H x env' s e Q hq
  obtain ⟨⟨a, e1⟩, g1, e⟩ := Option.map_eq_some_iff.mp e
  cases e
  exact h C hC B env σ H a e1 s g1 Q hq
def xCall (n : Nat) (m : En → Option Res) (f : En → Option (List R × En)) : En → Option (XR × En) := fun env => (aD f env).bind fun a => if a.1.length = n then (m (a.1.map .sh)).map fun r => match r with
  | .val d _ => (.ok (.val d), a.2)
  | .fr xs _ => (.ok (.fr xs), a.2)
  | .er c _ => (.er c, a.2)
  else none
theorem sx_call {n : Nat} {m : En → Option Res} {f : En → Option (List R × En)} (h : SA K ta f) : SX K W (tCallS (SpM K n m) (WE W) ta) (xCall n m f) := by
  intro C hC B env σ H x env' s e Q hq
  obtain ⟨⟨ds, e1⟩, g1, e⟩ := Option.bind_eq_some_iff.mp e
  split at e
  · rename_i hn
    obtain ⟨res, g2, e⟩ := Option.map_eq_some_iff.mp e
    obtain ⟨rs, e0, g3, g4⟩ := aD_some g1
    refine h C hC B env σ H rs e0 s g3 _ fun vs B1 H1 s1 x1 rr => ?_
    obtain ⟨B2, s2, x2, ra⟩ := frzs_w s1 rr.w g4
    rw [hC] at ra
    refine ⟨by rw [ra.length]; exact hn, B2, _, res, sr_args ra s2.exB, g2, ?_⟩
    cases res with
    | val d ae =>
      cases e
      exact fun v B' H' s' x rv => hq v B' H' (s2.called (fun _ => off_args) s' x) ((x1.trans x2).trans x) (by rw [show RepR C B' e1 σ H' v (.val d) = Rep C.K B' v d from rfl, hC]; exact rv)
    | fr xs ae =>
      cases e
      exact fun v B' H' s' x rv => hq v B' H' (s2.called (fun _ => off_args) s' x) ((x1.trans x2).trans x) (rv.called s2 (fun _ => off_args) hC)
    | er c ae =>
      cases e
      exact fun B' H' s' x => hq B' H' (s2.called (fun _ => off_args) s' x) ((x1.trans x2).trans x)
  · cases e
def xsExpr (f : En → Option (XR × En)) : En → Option Out := fun env => (f env).map fun a => match a.1 with
  | .ok _ => .nx a.2
  | .er c => .er c a.2
theorem ss_exprX {f : En → Option (XR × En)} (h : SX K W te f) : SS K fix W (tDrop te) (xsExpr f) := by
  intro C hC hF B env σ H o s e D p
  obtain ⟨⟨a, e1⟩, g1, rfl⟩ := Option.map_eq_some_iff.mp e
  refine h C hC B env σ H a e1 s g1 _ ?_
  cases a with
  | ok r => exact fun v B' H' s' x _ => p B' σ H' s' x
  | er c =>
    exact fun B' H' s' x => by
      have q := p B' σ H' s' x
      rw [hC] at q
      exact q
def xsRet (f : En → Option (XR × En)) : En → Option Out := fun env => (f env).map fun a => match a.1 with
  | .ok r => .rt r a.2
  | .er c => .er c a.2
theorem ss_retX {f : En → Option (XR × En)} (h : SX K W te f) : SS K fix W (tRet te) (xsRet f) := by
  intro C hC hF B env σ H o s e D p
  obtain ⟨⟨a, e1⟩, g1, rfl⟩ := Option.map_eq_some_iff.mp e
  refine h C hC B env σ H a e1 s g1 _ ?_
  cases a with
  | ok r => exact fun v B' H' s' x rr => p v B' σ H' s' x rr
  | er c =>
    exact fun B' H' s' x => by
      have q := p B' σ H' s' x
      rw [hC] at q
      exact q
def xsSet (i : Nat) (f : En → Option (XR × En)) : En → Option Out := fun env => (f env).bind fun a => match a.1 with
  | .ok r => (store i r a.2).map Out.nx
  | .er c => some (.er c a.2)
theorem ss_setX {i : Nat} {f : En → Option (XR × En)} (h : SX K W te f) (hi : i ∉ fix) : SS K fix W (tAsg te (gName i)) (xsSet i f) := by
  intro C hC hF B env σ H o s e D p
  obtain ⟨⟨a, e1⟩, g1, e⟩ := Option.bind_eq_some_iff.mp e
  refine h C hC B env σ H a e1 s g1 _ ?_
  cases a with
  | ok r =>
    obtain ⟨e2, g2, rfl⟩ := Option.map_eq_some_iff.mp e
    exact fun v B' H' s' x rr => by
      obtain ⟨B2, s2, x2⟩ := store_ok s' (by rw [hF]; exact hi) rr g2
      exact p B2 _ H' s2 (x.trans x2)
  | er c =>
    cases e
    exact fun B' H' s' x => by
      have q := p B' σ H' s' x
      rw [hC] at q
      exact q
/-- raise of a class of the module -/
def sRaise (c : Str) : En → Option Out := fun env => some (.er c env)
theorem ss_raise {c : Str} {a : Addr} (ha : clsOf K c = a) : SS K fix W (fun _ σ H => W (.ref a) none σ H) (sRaise c) := by
  intro C hC hF B env σ H o s e D p
  cases e
  have q := p B σ H s (Ex.refl _)
  rw [hC, ha] at q
  exact q
theorem clsOf_of {c : Str} {a : Addr} (h : PySem.W.nsIn K mainGlobals c = some (some (.ref a))) : clsOf K c = a := by
  unfold clsOf
  rw [h]
end
section
variable {X : Cx} {W : WX}
/-- what is known of a def of the module that may raise -/
structure DefX (P : Program) (w : World) (K : PySem.W.Frag) (mg : Str → Option Value) (base : Heap) (x : Str) (ps : List Str) (k : Nat) (m : En → Option Res) : Prop where
  ex : ∃ f fd, mg x = some (.ref f) ∧ FnOk P w K mg base (L2.CX P w) k f fd ps (SpM K ps.length m) ∧ PySem.W.keepIn K (.ref f) = true ∧ Binds K fd ps []
/-- a call of it where a statement takes what it raises -/
theorem pe_defX {x : Str} {ps : List Str} {n k j : Nat} {m : En → Option Res} {p pos : Pos} {e : Expr} {es : List Expr} {t : TA} (tk : Takes X W) (h : DefX X.prog X.w X.K X.mg X.base x ps k m) (hn : ps.length = n) (hr : Room j X.A) (hj : k ≤ j) (hg : Gl X x) (ha : PA X (e :: es) t)
    (hdb : (x == ("__debug__" : Str)) = false := by decide)
    (he : starEach (e :: es) X.env = (false, eval e X.env) :: starEach es X.env := by rfl) (hpl : (backTo pos (starEach es X.env)).any (·.1) = false := by rfl) : PE X (.Call (.Name x p) (e :: es) [] pos) (tCallS (SpM X.K n m) (WE W) t) := by
  subst hn
  obtain ⟨f, fd, hm, F, hk, hb⟩ := h.ex
  exact pe_callS F (hr.mono hj) hg hm hk hb (fun σ => passAt tk σ) ha hdb he hpl
/-- .. where it does not raise -/
theorem pe_defY {x : Str} {ps : List Str} {n k j : Nat} {m : En → Option Res} {p pos : Pos} {e : Expr} {es : List Expr} {t : TA} (h : DefX X.prog X.w X.K X.mg X.base x ps k m) (hn : ps.length = n) (hr : Room j X.A) (hj : k ≤ j) (hg : Gl X x) (ha : PA X (e :: es) t)
    (hdb : (x == ("__debug__" : Str)) = false := by decide)
    (he : starEach (e :: es) X.env = (false, eval e X.env) :: starEach es X.env := by rfl) (hpl : (backTo pos (starEach es X.env)).any (·.1) = false := by rfl) : PE X (.Call (.Name x p) (e :: es) [] pos) (tCall (SpM X.K n m) [] E0 t) := by
  subst hn
  obtain ⟨f, fd, hm, F, hk, hb⟩ := h.ex
  exact pe_call F (hr.mono hj) hg hm hk hb .nil passL ha hdb he hpl
end
/-! ### try: body, except NAME as n: suite -/
section
variable {K : PySem.W.Frag} {C : Ctx} {B B' H H' : Hp} {env : En} {σ : L2.St} {fix : List Nat} {W : WX}
/-- slot i is emptied -/
theorem SR.dropV (s : SR C B env σ H) {i : Nat} (hi : i ∉ C.fix) : SR C B (env.set i .un) (σ.set i none) H := by
  refine ⟨s.exG, s.exB, s.ex0, s.new, by rw [List.length_set, List.length_set]; exact s.len, fun j u h => ?_, fun j k q x1 x2 e1 e2 h1 h2 => ?_, fun j hj => ?_⟩
  · rcases get_set h with ⟨rfl, rfl, hl⟩ | ⟨hj, h⟩
    · trivial
    · rw [List.getElem?_set_ne (fun e => hj e.symm)]
      exact s.sl j u h
  · rcases get_set e1 with ⟨rfl, et, hl⟩ | ⟨hj, g1⟩
    · cases et
    · rcases get_set e2 with ⟨rfl, et, hl⟩ | ⟨hk, g2⟩
      · cases et
      · rw [List.getElem?_set_ne (fun e => hj e.symm)] at h1
        rw [List.getElem?_set_ne (fun e => hk e.symm)] at h2
        exact s.dis j k q x1 x2 g1 g2 h1 h2
  · have : i ≠ j := fun e => hi (e ▸ hj)
    rw [List.getElem?_set_ne this]
    exact s.fx j hj
/-- the suite: slot i holds an error (at a, of the class that the module calls c) that nothing is known of but its class -/
def SH (K : PySem.W.Frag) (fix : List Nat) (i : Nat) (ts : Addr → Value → Option Addr → TS) (Fh : Str → En → Option Out) : Prop :=
  ∀ C : Ctx, C.K = K → C.fix = fix → ∀ (B : Hp) (env : En) (σ : L2.St) (H : Hp) (o : Out) (c : Str) (a : Addr), SR C B env σ H → env[i]? = some .un → σ[i]? = some (some (.ref a)) → H a = none → Fh c env = some o →
    ∀ D : Ends, Post C B (fun _ _ _ _ => False) D o → ts a (.ref (clsOf K c)) none D σ H
def sTry (i : Nat) (Fb : En → Option Out) (Fh : Str → En → Option Out) : En → Option Out := fun env => (Fb env).bind fun o => match o with
  | .er c e1 => if i < e1.length then (Fh c (e1.set i .un)).bind fun o2 => match o2 with
      | .nx e => some (.nx (e.set i .un))
      | .rt r e => some (.rt r e)
      | .bk e => some (.bk (e.set i .un))
      | .ct e => some (.ct (e.set i .un))
      | .er _ _ => none
    else none
  | o => some o
theorem ss_try {tb : WX → TS} {ts : Addr → Value → Option Addr → TS} {Fb : En → Option Out} {Fh : Str → En → Option Out} {i : Nat} {cN : Value} (hi : i ∉ fix) (hb : ∀ W', SS K fix W' (tb W') Fb) (hs : SH K fix i ts Fh)
    (hc : ∀ c env o, Fh c env = some o → PySem.W.exmOne K (.ref (clsOf K c)) cN = some true) : SS K fix W (fun D σ H => tb (wAs K cN i ts W D) D σ H) (sTry i Fb Fh) := by
  intro C hC hF B env σ H o s e D p
  obtain ⟨o1, g1, e⟩ := Option.bind_eq_some_iff.mp e
  refine hb _ C hC hF B env σ H o1 s g1 D ?_
  cases o1 with
  | nx e1 => cases e; exact p
  | rt r e1 => cases e; exact p
  | bk e1 => cases e; exact p
  | ct e1 => cases e; exact p
  | er c e1 =>
    simp only at e
    split at e
    · rename_i hl
      obtain ⟨o2, g2, e⟩ := Option.bind_eq_some_iff.mp e
      intro B' σ' H' s' x
      rw [hC]
      refine ⟨true, hc _ _ _ g2, fun _ a ha => ?_, fun q => Bool.noConfusion q⟩
      have hif : i ∉ C.fix := by rw [hF]; exact hi
      have s2 : SR C B' (e1.set i .un) (σ'.set i (some (.ref a))) H' := s'.setV hif trivial
      refine hs C hC hF B' _ _ H' o2 c a s2 (by rw [List.getElem?_set_self hl]) (by rw [List.getElem?_set_self (by rw [s'.len]; exact hl)]) ha g2 _ ?_
      cases o2 with
      | nx e2 => cases e; exact fun B2 σ2 H2 s3 x2 => p B2 _ H2 (s3.dropV hif) (x.trans x2)
      | rt r e2 => cases e; exact fun v B2 σ2 H2 s3 x2 rr => p v B2 σ2 H2 s3 (x.trans x2) rr
      | bk e2 => cases e; exact fun B2 σ2 H2 s3 x2 => p B2 _ H2 (s3.dropV hif) (x.trans x2)
      | ct e2 => cases e; exact fun B2 σ2 H2 s3 x2 => p B2 _ H2 (s3.dropV hif) (x.trans x2)
      | er c2 e2 => cases e
    · cases e
end
/-! ### displays of dicts of constants -/
section
variable {K : PySem.W.Frag} {C : Ctx} {B B' H H' : Hp} {env : En} {σ : L2.St} {X : Cx}
theorem upd_upd {H : Hp} {p : Addr} {a b : HO} : upd (upd H p a) p b = upd H p b := by
  funext q
  by_cases h : q = p
  · subst h
    rw [upd_same, upd_same]
  · unfold upd
    simp [h]
theorem se_d0 : SE K tDNewK (eC (.dct [] [])) := by
  intro C hC B env σ H r env' s e Q hq
  cases e
  intro p hp
  have bp := fresh_back s.exB hp
  refine hq (.ref p) (upd B p (.dK [])) _ (s.alloc hp) (Ex.new bp) ?_
  exact .dct (kvs := []) upd_same .nil
theorem se_d1 {k : Str} {v : Int} : SE K (tDisp [(tC (.str k), tC (.int v))]) (eC (.dct [.inr k] [.int v])) := by
  intro C hC B env σ H r env' s e Q hq
  cases e
  intro p hp
  have bp := fresh_back s.exB hp
  refine ⟨upd_same, [(.inr k, .int v)], rfl, (by simp), ?_⟩
  rw [upd_upd]
  refine hq (.ref p) (upd B p (.dK [(.inr k, .int v)])) _ (s.alloc hp) (Ex.new bp) ?_
  exact .dct (kvs := [(.inr k, .int v)]) upd_same (.cons (.int v) .nil)
end
/-! ### tuple(xs) -/
section
variable {K : PySem.W.Frag}
def bTuple : List D → Option D
  | [.lst xs] => some (.tup xs)
  | _ => none
def rTupOf (K : PySem.W.Frag) : List V → Hp → VK → Prop := fun xs H Q => ∃ p ys, xs = [.ref p] ∧ ((SqL K H p ys ∧ ∀ l, H l = none → Q (.ref l) (upd H l (.tup ys))) ∨ (SqT K H p ys ∧ Q (.ref p) H))
theorem rc_tuple : RC K (rTupOf K) bTuple := by
  intro C hC B env σ H vs ds z s rx e Q hq
  unfold bTuple at e
  split at e
  · cases e
    obtain ⟨v, rfl, k⟩ := rx.one
    obtain ⟨a, ws, rfl, h1, h2⟩ := k.list s.exB
    refine ⟨a, ws, rfl, .inl ⟨sq_of h1, fun l hl => ?_⟩⟩
    have bp := fresh_back s.exB hl
    refine hq (.ref l) (upd B l (.tup ws)) _ (s.alloc hl) (Ex.new bp) ?_
    exact .tup (st_of upd_same) (h2.mono (Ex.new bp))
  · cases e
end
end Vm

set_option Elab.async false
set_option linter.all false
set_option maxRecDepth 100000
/-! VmY: an own list that becomes a value between two statements; a call that only borrows own lists. -/
namespace Vm
open PySem PySem.Spec PyProof.Rows L2 Evl
section
variable {K : PySem.W.Frag} {C : Ctx} {B B' H H' : Hp} {env env' : En} {σ : L2.St} {v : V} {fix : List Nat} {W : WX} {t : TS} {F : En → Option Out}
def sFrz (i : Nat) : En → Option Out := fun env => match env[i]? with
  | some (.ow xs) => some (.nx (env.set i (.sh (.lst xs))))
  | _ => none
theorem Post.monoB {D : Ends} (x : Ex B B') {o : Out} (p : Post C B W D o) : Post C B' W D o := by
  cases o with
  | nx e => exact fun B2 σ2 H2 s2 x2 => p B2 σ2 H2 s2 (x.trans x2)
  | rt r e => exact fun v B2 σ2 H2 s2 x2 rr => p v B2 σ2 H2 s2 (x.trans x2) rr
  | bk e => exact fun B2 σ2 H2 s2 x2 => p B2 σ2 H2 s2 (x.trans x2)
  | ct e => exact fun B2 σ2 H2 s2 x2 => p B2 σ2 H2 s2 (x.trans x2)
  | er c e => exact fun B2 σ2 H2 s2 x2 => p B2 σ2 H2 s2 (x.trans x2)
theorem ss_pre {i : Nat} (h : SS K fix W t F) : SS K fix W t (sSeq (sFrz i) F) := by
  intro C hC hF B env σ H o s e D p
  unfold sSeq sFrz at e
  cases q : env[i]? with
  | none => simp only [q] at e; cases e
  | some sl =>
    simp only [q] at e
    cases sl with
    | un => cases e
    | sh d => cases e
    | ow xs =>
      simp only [Option.bind_some] at e
      obtain ⟨pa, vs, e1, bp, gp, hp, ra⟩ := s.sl i _ q
      have z : frz env (.al i) = some (.lst xs, env.set i (.sh (.lst xs))) := by rw [x_frz3, q]
      obtain ⟨B1, s1, x1, _⟩ := frz_rep (v := .ref pa) s (show RepR C B env σ H (.ref pa) (.al i) from e1) z
      exact h C hC hF B1 _ σ H o s1 e D (p.monoB x1)
/-- what slot i holds is forgotten -/
def sDrop (i : Nat) : En → Option Out := fun env => some (.nx (env.set i .un))
theorem ss_drop {i : Nat} (h : SS K fix W t F) : SS K fix W t (sSeq (sDrop i) F) := by
  intro C hC hF B env σ H o s e D p
  exact h C hC hF B _ σ H o (s.reslot (i := i) (t := .un) (fun xs z => by cases z) trivial) e D p
theorem SR.keepH (s : SR C B env σ H) (k : Ex H H') : SR C B env σ H' := by
  refine ⟨s.exG.trans k, s.exB.trans k, s.ex0, s.new, s.len, fun i t h => ?_, s.dis, s.fx⟩
  refine (s.sl i t h).mono (Ex.refl _) fun p e1 ⟨xs, ex⟩ => ?_
  subst ex
  obtain ⟨p', vs, e2, bp, _, hp, _⟩ := s.sl i _ h
  rw [e1] at e2
  cases e2
  exact ⟨bp, by rw [k p _ hp, hp]⟩
def flat1 (d : D) : Bool := (sc d).isSome
theorem flat1_rep {d : D} (h : flat1 d = true) (r : Rep K B v d) : Rep K B' v d := by
  unfold flat1 at h
  cases q : sc d with
  | none => rw [q] at h; cases h
  | some w =>
    have e := rep_sc q r
    subst e
    exact sc_rep q
theorem flat1_all : ∀ {vs : List V} {xs : List D}, xs.all flat1 = true → RepAll K B vs xs → RepAll K B' vs xs
  | _, _, _, .nil => .nil
  | _, _, h, .cons a t => by
    rw [List.all_cons, Bool.and_eq_true] at h
    exact .cons (flat1_rep h.1 a) (flat1_all h.2 t)
def eCallB (n : Nat) (m : En → Option Res) (f : En → Option (List R × En)) : En → Option (R × En) := fun env => (f env).bind fun a => (frzs a.2 a.1).bind fun b => if b.1.length = n then (m (b.1.map .sh)).bind fun r => match r with
  | .val d _ => if flat1 d then some (.val d, a.2) else none
  | .fr xs _ => if xs.all flat1 then some (.fr xs, a.2) else none
  | .er _ _ => none
  else none
theorem se_callBG {n : Nat} {m : En → Option Res} {dv : L2.St → XK} {ta : TA} {f : En → Option (List R × En)} (h : SA K ta f) : SE K (fun σ H Q => ta σ H fun vs H1 => SpM K n m vs H1 Q (dv σ)) (eCallB n m f) := by
  intro C hC B env σ H r env' s e Q hq
  obtain ⟨⟨rs, e0⟩, g1, e⟩ := Option.bind_eq_some_iff.mp e
  obtain ⟨⟨ds, e1⟩, g2, e⟩ := Option.bind_eq_some_iff.mp e
  split at e
  · rename_i hn
    obtain ⟨res, g4, e⟩ := Option.bind_eq_some_iff.mp e
    refine h C hC B env σ H rs e0 s g1 _ fun vs B1 H1 s1 x1 rr => ?_
    obtain ⟨B2, s2, x2, ra⟩ := frzs_w s1 rr.w g2
    rw [hC] at ra
    refine ⟨by rw [ra.length]; exact hn, B2, _, res, sr_args ra s2.exB, g4, ?_⟩
    have kept : ∀ {H' : Hp} {B' : Hp} {ae : En}, SR (Cx0 K (Rest (ds.map Sl.sh) (vs.map some) H1) B2) B' ae (vs.map some) H' → Ex H1 H' := fun s' q o hh => s'.exG q o (by
      show Rest _ _ _ q = some o
      rw [rest_of off_args]
      exact hh)
    cases res with
    | val d ae =>
      simp only at e
      split at e
      · rename_i hfl
        cases e
        exact fun v B' H' s' x rv => hq v B1 H' (s1.keepH (kept s')) x1 (by rw [show RepR C B1 _ σ H' v (.val d) = Rep C.K B1 v d from rfl, hC]; exact flat1_rep hfl rv)
      · cases e
    | fr xs ae =>
      simp only at e
      split at e
      · rename_i hfl
        cases e
        intro v B' H' s' x rv
        obtain ⟨p, ws, rfl, bp, gp, hp, rw', off⟩ := rv
        have gp : Rest (ds.map Sl.sh) (vs.map some) H1 p = none := gp
        rw [rest_of off_args] at gp
        exact hq _ B1 H' (s1.keepH (kept s')) x1 ⟨p, ws, rfl, fresh_back s1.exB gp, fresh_back s1.exG gp, hp, by rw [hC]; exact flat1_all hfl rw', s1.off gp⟩
      · cases e
    | er c ae => cases e
  · cases e
theorem se_callB {n : Nat} {m : En → Option Res} {E : XK} {ta : TA} {f : En → Option (List R × En)} (h : SA K ta f) : SE K (tCall (SpM K n m) [] E ta) (eCallB n m f) := by
  intro C hC B env σ H r env' s e Q hq
  have q := se_callBG (n := n) (m := m) (dv := fun _ => E) h C hC B env σ H r env' s e Q hq
  show ta σ H fun vs H1 => SpM K n m (vs ++ []) H1 Q E
  have w : (fun (vs : List V) (H1 : Hp) => SpM K n m (vs ++ []) H1 Q E) = fun vs H1 => SpM K n m vs H1 Q E := by
    funext vs H1
    rw [List.append_nil]
  rw [w]
  exact q
end
end Vm

set_option Elab.async false
set_option linter.all false
set_option maxRecDepth 100000
/-! VmZ: defs as values, calls of what a name holds; gcd. -/
namespace Vm
open PySem PySem.Spec PyProof.Rows L2 Evl
section
variable {K : PySem.W.Frag} {C : Ctx} {B B' H H' : Hp} {env env' : En} {σ : L2.St} {v : V} {P : Program} {w : World} {mg : Str → Option Value} {base : Heap}
/-- the module's name x holds a def (or a class), which stands where K says -/
structure FnAt (K : PySem.W.Frag) (mg : Str → Option Value) (x : Str) : Prop where
  ex : mg x = some (.ref (clsOf K x))
theorem fnAt_of {x : Str} {a : Addr} (h : mg x = some (.ref a)) (n : PySem.W.nsIn K mainGlobals x = some (some (.ref a))) : FnAt K mg x := ⟨by rw [h, clsOf_of n]⟩
theorem pe_fn {X : Cx} {x : Str} {pos : Pos} (hg : Gl X x) (h : FnAt X.K X.mg x) (hd : (x == ("__debug__" : Str)) = false := by decide) : PE X (.Name x pos) (tC (.ref (clsOf X.K x))) := pe_glob hg h.ex rfl hd
theorem se_fn {x : Str} : SE K (tC (.ref (clsOf K x))) (eC (.fn x)) := se_c fun _ => .fn x
abbrev Tbl := List (Str × (En → Option Res))
def tblS (K : PySem.W.Frag) (n : Nat) (tbl : Tbl) (a : Addr) : Option Sp := (tbl.find? fun p => clsOf K p.1 == a).map fun p => SpM K n p.2
inductive TblOk (P : Program) (w : World) (K : PySem.W.Frag) (mg : Str → Option Value) (base : Heap) (k n : Nat) : Tbl → Prop
  | nil : TblOk P w K mg base k n []
  | cons {x : Str} {ps : List Str} {j : Nat} {m : En → Option Res} {tbl : Tbl} (h : DefOk P w K mg base x ps j m) (v : FnAt K mg x) (hj : j ≤ k) (hn : ps.length = n) (t : TblOk P w K mg base k n tbl) : TblOk P w K mg base k n ((x, m) :: tbl)
theorem TblOk.held {k n : Nat} {tbl : Tbl} (h : TblOk P w K mg base k n tbl) : ∀ p ∈ tbl, Held P w K mg base k (clsOf K p.1) (SpM K n p.2) := by
  induction h with
  | nil => intro p hp; cases hp
  | cons h v hj hn _ ih =>
    intro p hp
    rcases List.mem_cons.mp hp with rfl | hp
    · subst hn
      obtain ⟨f, fd, h1, F, h3, h4⟩ := h.ex
      have e : some (Value.ref f) = some (.ref (clsOf K _)) := h1.symm.trans v.ex
      cases e
      exact ⟨fd, _, F.mono hj, h3, h4⟩
    · exact ih p hp
theorem pe_callT {X : Cx} {x : Str} {i j k n : Nat} {tbl : Tbl} {p pos : Pos} {e : Expr} {es : List Expr} {t : TA} (T : TblOk X.prog X.w X.K X.mg X.base k n tbl) (hr : Room j X.A) (hj : k ≤ j) (hN : X.N[i]? = some x) (hv : Vis X.env.scope x) (ha : PA X (e :: es) t)
    (hdb : (x == ("__debug__" : Str)) = false := by decide) (hcd : (x == ("__classdict__" : Str)) = false := by decide)
    (he : starEach (e :: es) X.env = (false, eval e X.env) :: starEach es X.env := by rfl) (hpl : (backTo pos (starEach es X.env)).any (·.1) = false := by rfl) : PE X (.Call (.Name x p) (e :: es) [] pos) (tCallA i (tblS X.K n tbl) t) := by
  refine pe_callA (fun f sp hs => ?_) (hr.mono hj) hN hv ha hdb hcd he hpl
  unfold tblS at hs
  obtain ⟨q, hq, rfl⟩ := Option.map_eq_some_iff.mp hs
  have e1 : clsOf X.K q.1 = f := by simpa using List.find?_some hq
  rw [← e1]
  exact T.held q (List.mem_of_find?_eq_some hq)
def eCallV (i n : Nat) (tbl : Tbl) (f : En → Option (List R × En)) : En → Option (R × En) := fun env => match env[i]? with
  | some (.sh (.fn x)) => (tbl.lookup x).bind fun m => eCall n m f env
  | _ => none
theorem tblS_of {n : Nat} : ∀ {tbl : Tbl} {x : Str} {m : En → Option Res}, (tbl.map fun p => clsOf K p.1).Nodup → tbl.lookup x = some m → tblS K n tbl (clsOf K x) = some (SpM K n m)
  | [], x, m, _, h => by cases h
  | (y, m') :: tbl, x, m, nd, h => by
    rw [List.map_cons, List.nodup_cons] at nd
    unfold tblS
    rw [List.find?_cons]
    by_cases hy : y = x
    · subst hy
      have h : some m' = some m := by simpa [List.lookup] using h
      cases h
      simp
    · have h2 : tbl.lookup x = some m := by
        rw [List.lookup_cons] at h
        have : (x == y) = false := by
          cases q : x == y with
          | false => rfl
          | true => exact absurd (eq_of_beq q).symm hy
        rw [this] at h
        exact h
      have hne : (clsOf K y == clsOf K x) = false := by
        cases q : clsOf K y == clsOf K x with
        | false => rfl
        | true =>
          refine absurd ?_ nd.1
          rw [eq_of_beq q]
          clear q nd h hy
          induction tbl with
          | nil => cases h2
          | cons p tbl ih =>
            rw [List.lookup_cons] at h2
            cases q : x == p.1 with
            | true => rw [List.map_cons, ← eq_of_beq q]; exact List.mem_cons_self
            | false =>
              rw [q] at h2
              exact List.mem_cons_of_mem _ (ih h2)
      simp only [hne]
      exact tblS_of nd.2 h2
theorem se_callT {i n : Nat} {tbl : Tbl} {ta : TA} {f : En → Option (List R × En)} (nd : (tbl.map fun p => clsOf K p.1).Nodup) (h : SA K ta f) : SE K (tCallA i (tblS K n tbl) ta) (eCallV i n tbl f) := by
  intro C hC B env σ H r env' s e Q hq
  unfold eCallV at e
  split at e
  · rename_i x hx
    obtain ⟨m, hm, e⟩ := Option.bind_eq_some_iff.mp e
    obtain ⟨u, h1, h2⟩ := s.sl i _ hx
    cases h2
    rw [hC] at h1
    exact ⟨_, _, h1, tblS_of nd hm, se_callG (n := n) (m := m) (dv := fun _ _ _ _ => False) h C hC B env σ H r env' s e Q hq⟩
  · cases e
/-! gcd -/
def bGcd : List D → Option D
  | [.int a, .int b] => some (.int ((Nat.gcd a.natAbs b.natAbs : Nat) : Int))
  | _ => none
theorem rc_gcd : RC K rGcd bGcd := RCS.rc (by
  intro B H vs ds z e rx h
  unfold bGcd at h
  split at h
  · cases h
    obtain ⟨v, w, rfl, h1, h2⟩ := rx.two
    have q1 := h1.int
    have q2 := h2.int
    subst q1 q2
    exact ⟨_, rfl, fun Q q => ⟨_, _, rfl, q⟩⟩
  · cases h)
end
end Vm
namespace Vm
open PySem PySem.Spec PyProof.Rows L2 Evl
section
variable {K : PySem.W.Frag} {C : Ctx} {B B' H H' : Hp} {env env' : En} {σ : L2.St} {v : V}
/-! a call whose first argument is a new list, which the callee may change and nobody sees again -/
def eCall1F (n : Nat) (m : En → Option Res) (fa : En → Option (R × En)) (f : En → Option (List R × En)) : En → Option (R × En) := fun env => (fa env).bind fun a => match a.1 with
  | .fr xs => (f a.2).bind fun c => (frzs c.2 c.1).bind fun b => if b.1.length + 1 = n then (m (.ow xs :: b.1.map .sh)).bind fun r => match r with
    | .val d (.ow _ :: _) => some (.val d, b.2)
    | .fr zs (.ow _ :: _) => some (.fr zs, b.2)
    | _ => none
    else none
  | _ => none
theorem se_call1FG {n : Nat} {m : En → Option Res} {dv : L2.St → XK} {te : TE} {ta : TA} {fa : En → Option (R × En)} {f : En → Option (List R × En)} (h0 : SE K te fa) (h : SA K ta f) : SE K (fun σ H Q => te σ H fun v H1 => ta σ H1 fun vs H2 => SpM K n m (v :: vs) H2 Q (dv σ)) (eCall1F n m fa f) := by
  intro C hC B env σ H r env' s e Q hq
  obtain ⟨⟨r0, e1⟩, g1, e⟩ := Option.bind_eq_some_iff.mp e
  split at e
  · rename_i xs hr
    simp only at hr
    subst hr
    obtain ⟨⟨rs, e2⟩, g2, e⟩ := Option.bind_eq_some_iff.mp e
    obtain ⟨⟨ds, e3⟩, g3, e⟩ := Option.bind_eq_some_iff.mp e
    split at e
    · rename_i hn
      obtain ⟨res, g4, e⟩ := Option.bind_eq_some_iff.mp e
      refine h0 C hC B env σ H _ e1 s g1 _ fun v0 B1 H1 s1 x1 rr0 => ?_
      have t := rr0.tmp
      obtain ⟨p, ws, rfl, bp1, gp, hp1, rw0, off1⟩ := rr0
      refine h (C.plus _) hC B1 e1 σ H1 rs e2 (s1.plus t) g2 _ fun vs B2 H2 s2 x2 rr => ?_
      obtain ⟨B3, s3, x3, ra⟩ := frzs_w s2 rr.w g3
      have ra : RepAll K B3 vs ds := by
        have q : (C.plus (tmpOf (.ref p) H1 (.fr xs))).K = C.K := rfl
        rw [q, hC] at ra
        exact ra
      obtain ⟨s4, t4⟩ := SR.minus s1.exG t.ex t.nb (x2.trans x3) s3 s1.ex0
      have hT : tmpOf (.ref p) H1 (.fr xs) p = some (.lst ws) := by unfold tmpOf; simp only [if_true]; exact hp1
      have hT' : tmpOf (.ref p) H1 (.fr xs) p ≠ none := by rw [hT]; exact fun z => nomatch z
      have bp : B3 p = none := t4.nb p hT'
      have hp : H2 p = some (.lst ws) := t4.ex p _ hT
      have off : Off e3 σ p := t4.off p hT'
      rw [hC] at rw0
      have rw3 : RepAll K B3 ws xs := rw0.mono (x2.trans x3)
      have sA : SR (Cx0 K none0 B3) B3 (.ow xs :: ds.map .sh) ((V.ref p :: vs).map some) H2 := by
        refine ⟨fun q o h => (nomatch (show none = some o from h)), s4.exB, Ex.refl _, fun q h => .inl h, ?_, fun j t hj => ?_, fun j k q ys zs f1 f2 _ _ => ?_, fun j h => by cases h⟩
        · rw [List.map_cons, List.length_cons, List.length_cons, List.length_map, List.length_map, ra.length]
        · cases j with
          | zero =>
            cases hj
            exact ⟨p, ws, rfl, bp, rfl, hp, rw3⟩
          | succ j =>
            have hj : (ds.map Sl.sh)[j]? = some t := by simpa using hj
            rw [List.getElem?_map] at hj
            obtain ⟨d, hd, rfl⟩ := Option.map_eq_some_iff.mp hj
            obtain ⟨v, hv, rv⟩ := ra.get hd
            refine ⟨v, ?_, rv⟩
            show (vs.map some)[j]? = _
            rw [List.getElem?_map, hv]
            rfl
        · have z : ∀ k zs, (Sl.ow xs :: ds.map Sl.sh)[k]? = some (.ow zs) → k = 0 := fun k zs h => by
            cases k with
            | zero => rfl
            | succ k =>
              have h : (ds.map Sl.sh)[k]? = some (.ow zs) := by simpa using h
              rw [List.getElem?_map] at h
              obtain ⟨d, hd, h⟩ := Option.map_eq_some_iff.mp h
              cases h
          rw [z j ys f1, z k zs f2]
      refine ⟨by rw [List.length_cons, ra.length]; exact hn, B3, _, res, sA, g4, ?_⟩
      have offA : ∀ q, q ≠ p → Off (.ow xs :: ds.map .sh) ((V.ref p :: vs).map some) q := fun q hq k zs h h2 => by
        cases k with
        | zero =>
          have : some (V.ref p) = some (.ref q) := Option.some.inj h2
          cases this
          exact hq rfl
        | succ k =>
          have h : (ds.map Sl.sh)[k]? = some (.ow zs) := by simpa using h
          rw [List.getElem?_map] at h
          obtain ⟨d, hd, h⟩ := Option.map_eq_some_iff.mp h
          cases h
      have behind : ∀ {B' H' : Hp} {ys : List D} {ae : En}, SR (Cx0 K (Rest (.ow xs :: ds.map .sh) ((V.ref p :: vs).map some) H2) B3) B' (.ow ys :: ae) ((V.ref p :: vs).map some) H' → Ex B3 B' → SR C B' e3 σ H' ∧ (∀ q, B' q = none → Rest (.ow xs :: ds.map .sh) ((V.ref p :: vs).map some) H2 q = none → q ≠ p → H2 q = none) := by
        intro B' H' ys ae s' x
        have kept : ∀ q o, q ≠ p → H2 q = some o → H' q = some o := fun q o hq h => s'.exG q o (by
          show Rest _ _ _ q = some o
          rw [rest_of (offA q hq)]
          exact h)
        have new : ∀ q, B' q ≠ none → B3 q ≠ none ∨ H2 q = none ∨ q = p := fun q hq => by
          rcases s'.new q hq with z | z
          · exact .inl z
          · by_cases hqp : q = p
            · exact .inr (.inr hqp)
            · have z : Rest (.ow xs :: ds.map .sh) ((V.ref p :: vs).map some) H2 q = none := z
              rw [rest_of (offA q hqp)] at z
              exact .inr (.inl z)
        obtain ⟨p', ws', f1, bp', _, hp', ra'⟩ := s'.sl 0 _ rfl
        have f1 : some (some (V.ref p)) = some (some (V.ref p')) := f1
        cases f1
        refine ⟨⟨fun q o h => ?_, s'.exB, s4.ex0.trans x, fun q hq => ?_, s4.len, fun j t h => ?_, s4.dis, s4.fx⟩, fun q _ h hq => ?_⟩
        · exact kept q o (ne_of_none h gp) (s4.exG q o h)
        · rcases new q hq with z | z | z
          · exact s4.new q z
          · exact .inr (fresh_back s4.exG z)
          · rw [z] at hq; exact absurd bp' hq
        · refine (s4.sl j t h).mono x fun q f2 ⟨zs, ez⟩ => ?_
          subst ez
          obtain ⟨q', us, f3, b3, g3', h3, _⟩ := s4.sl j _ h
          rw [f2] at f3
          cases f3
          have hqp : q ≠ p := fun z => off j zs h (by rw [f2, z])
          refine ⟨?_, by rw [kept q _ hqp h3, h3]⟩
          cases w : B' q with
          | none => rfl
          | some o =>
            rcases new q (by rw [w]; exact fun z => nomatch z) with z | z | z
            · exact absurd b3 z
            · rw [h3] at z; cases z
            · exact absurd z hqp
        · rw [rest_of (offA q hq)] at h
          exact h
      have xx : Ex B B3 := (x1.trans x2).trans x3
      split at e
      · cases e
        exact fun v B' H' s' x rv => hq v B' H' (behind s' x).1 (xx.trans x) (by rw [show RepR C B' e3 σ H' v (.val _) = Rep C.K B' v _ from rfl, hC]; exact rv)
      · cases e
        intro v B' H' s' x rv
        obtain ⟨sB, free⟩ := behind s' x
        obtain ⟨q, us, rfl, bq, gq, hq', ra', offq⟩ := rv
        have hqp : q ≠ p := fun z => offq 0 _ rfl (by rw [z]; rfl)
        have h1 := free q bq gq hqp
        exact hq _ B' H' sB (xx.trans x) ⟨q, us, rfl, bq, fresh_back s4.exG h1, hq', by rw [hC]; exact ra', s4.off h1⟩
      · cases e
    · cases e
  · cases e
theorem se_call1F {n : Nat} {m : En → Option Res} {E : XK} {te : TE} {ta : TA} {fa : En → Option (R × En)} {f : En → Option (List R × En)} (h0 : SE K te fa) (h : SA K ta f) : SE K (tCall (SpM K n m) [] E (tCons te ta)) (eCall1F n m fa f) := by
  intro C hC B env σ H r env' s e Q hq
  have q := se_call1FG (n := n) (m := m) (dv := fun _ => E) h0 h C hC B env σ H r env' s e Q hq
  show te σ H fun v H1 => ta σ H1 fun vs H2 => SpM K n m ((v :: vs) ++ []) H2 Q E
  have w : (fun (v : V) (H1 : Hp) => ta σ H1 fun vs H2 => SpM K n m ((v :: vs) ++ []) H2 Q E) = fun v H1 => ta σ H1 fun vs H2 => SpM K n m (v :: vs) H2 Q E := by
    funext v H1
    congr 1
    funext vs H2
    rw [List.append_nil]
  rw [w]
  exact q
end
end Vm

set_option Elab.async false
set_option linter.all false
set_option maxRecDepth 100000
/-! VmR: defs that are called where nothing is being shown: what a def keeps there, its calls, the law's own call; repr. -/
namespace Vm
open PySem PySem.Spec PyProof.Rows L2 Evl
/-- room, and nothing is being shown -/
structure Rg (k : Nat) (A : Around) : Prop where
  rm : Room k A
  gd : A.guards = some []
theorem Rg.mono {j k : Nat} {A : Around} (r : Rg k A) (h : j ≤ k) : Rg j A := ⟨r.rm.mono h, r.gd⟩
theorem Rg.units {k : Nat} {A : Around} (r : Rg k A) : A.units + 64 < cLine := r.rm.units
theorem Rg.deep {k : Nat} {A : Around} (r : Rg (k + 1) A) (e : Env) : Rg k (A.deeper e) := ⟨r.rm.deeper e, r.gd⟩
structure FnG (P : Program) (w : World) (K : PySem.W.Frag) (mg : Str → Option Value) (base : Heap) (CX : CXT) (k : Nat) (f : Addr) (fd : FuncData) (ps : List Str) (sp : Sp) : Prop where
  len : ∀ vs H Q E, sp vs H Q E → vs.length = ps.length
  go : ∀ A : Around, Rg k A → ∀ (outer : List Env) (s : Shared) (H : Hp) (args : Args) (us : List Value) (vs : List V) (Q : VK) (E : XK), Env0 P w K mg base A outer s H → BindsTo s fd args (ps.zip us) → Vals vs us → sp vs H Q E →
    codeAny (model P w) A (.call (.ref f) args) (CR CX outer P w H s Q E) s
section
variable {P : Program} {w : World} {K : PySem.W.Frag} {mg : Str → Option Value} {base : Heap} {CX : CXT} {j k : Nat} {f : Addr} {fd : FuncData} {ps N : List Str} {sp sp' : Sp}
theorem FnG.up (F : FnG P w K mg base CX j f fd ps sp) (h : j ≤ k) : FnG P w K mg base CX k f fd ps sp := ⟨F.len, fun A r => F.go A (r.mono h)⟩
theorem FnG.imp (F : FnG P w K mg base CX k f fd ps sp) (h : ∀ vs H Q E, sp' vs H Q E → sp vs H Q E) : FnG P w K mg base CX k f fd ps sp' :=
  ⟨fun vs H Q E q => F.len vs H Q E (h _ _ _ _ q), fun A r outer s H args us vs Q E e0 hb hv q => F.go A r outer s H args us vs Q E e0 hb hv (h _ _ _ _ q)⟩
/-- a def by its body, which is read where nothing is being shown -/
theorem fnG_of {name qual : Str} {params : Arguments} {body : List Stmt} {scope : Scope} {dV kV doc pm cdv ct oc : Value} {an od : Option Addr} {osl : Array (Option Value)}
    (lk : K.lookup f = some ⟨oc, od, .func (PySem.W.fnOf name qual params body scope dV kV doc pm an cdv ct), osl⟩) (cr : PySem.W.codeIn K cdv qual = true) (S : FnScope N ps scope) (len : ∀ vs H Q E, sp vs H Q E → vs.length = ps.length)
    (rd : ∀ (A : Around) (outer : List Env) (s : Shared) (H : Hp) (vs : List V) (Q : VK) (E : XK), Rg k (A.deeper (envOfC qual scope s.heap.objs.size f cdv)) → sp vs H Q E →
      ∃ t, PSs (cxOf CX P w K mg base N qual scope f cdv A outer s H E) body t ∧ t { nx := fun _ H1 => Q .non H1, rt := Q } (L2.start N vs) H) :
    FnG P w K mg base CX (k + 1) f (PySem.W.fnOf name qual params body scope dV kV doc pm an cdv ct) ps sp := by
  constructor
  · exact len
  intro A room outer s H args us vs Q E e0 binds rel want
  have all : ∀ {b : Addr} {o : Obj}, base.get? b = some o → s.heap.get? b = some o := fun {b o} z => (e0.bs b o z).1
  have inK : K.In s.heap := e0.mod.kin.keeps fun _ _ z => all z
  have nolim : s.heap.NoLimit := e0.mod.nolimit.keeps fun _ _ z => all z
  refine codeAny_call_function room.rm.depth (inK _ _ lk) rfl S.co S.gen rfl (PySem.W.codeRec_of inK cr) (binds _ _ _ _ ?_)
  refine wpAny_newFunctionEnv_cells S.kind (fun y hy => ?_) fun env same s1 started => ?_
  · have place := S.par y.1 (List.of_mem_zip (show (y.1, y.2) ∈ ps.zip us from hy)).1
    rcases place with isLoc | isCell
    · exact .inl isLoc
    · exact .inr ⟨isCell, PySem.W.cellsFrom_some _ _ _ (.inl isCell)⟩
  subst same
  refine ⟨nolim.keeps started.toInCall.keep, codeAny_func ?_⟩
  obtain ⟨t, read, wish⟩ := rd A outer s H vs Q E (room.deep _) want
  have inv := inv_start (CX := CX) (P := P) (w := w) (N := N) (ps := ps) (qual := qual) (E := E) S room.rm.hd e0 (len _ _ _ _ want) rel started
  refine wpAny_mono (read.run [] s1 (L2.start N vs) H _ inv wish) (fun fl s2 out => ?_) fun _ _ z => z
  match fl, out with
  | .ret u, ⟨v, _, H2, inv2, rv, q⟩ => exact ⟨v, H2, inv2.os, inv2.bare, inv2.base, inv2.hok, rv, q⟩
  | .next, ⟨_, H2, inv2, q⟩ => exact ⟨V.non, H2, inv2.os, inv2.bare, inv2.base, inv2.hok, rfl, q⟩
  | .brk, ⟨_, _, _, q⟩ => exact q.elim
  | .cont, ⟨_, _, _, q⟩ => exact q.elim
theorem funG {x qual : Str} {st : Stmt} (F : Fun K x qual st f fd) (S : FnScope N ps (defScope st)) (len : ∀ vs H Q E, sp vs H Q E → vs.length = ps.length)
    (rd : ∀ (cdv : Value) (A : Around) (outer : List Env) (s : Shared) (H : Hp) (vs : List V) (Q : VK) (E : XK), Rg k (A.deeper (envOfC qual (defScope st) s.heap.objs.size f cdv)) → sp vs H Q E →
      ∃ t, PSs (cxOf CX0 P w K mg base N qual (defScope st) f cdv A outer s H E).nox (defBody st) t ∧ t { nx := fun _ H1 => Q .non H1, rt := Q } (L2.start N vs) H) : FnG P w K mg base CX0 (k + 1) f fd ps sp := by
  obtain ⟨oc, od, kV, doc, pm, an, cdv, ct, osl, rfl, lk, cr⟩ := F.ex
  exact fnG_of lk cr S len fun A outer s H vs Q E r q => (rd cdv A outer s H vs Q E r q).imp fun t z => ⟨z.1.nox, z.2⟩
theorem funGX {x qual : Str} {st : Stmt} (F : Fun K x qual st f fd) (S : FnScope N ps (defScope st)) (len : ∀ vs H Q E, sp vs H Q E → vs.length = ps.length)
    (rd : ∀ (cdv : Value) (A : Around) (outer : List Env) (s : Shared) (H : Hp) (vs : List V) (Q : VK) (E : XK), Rg k (A.deeper (envOfC qual (defScope st) s.heap.objs.size f cdv)) → sp vs H Q E →
      ∃ t, PSs (cxOf (L2.CX P w) P w K mg base N qual (defScope st) f cdv A outer s H E) (defBody st) t ∧ t { nx := fun _ H1 => Q .non H1, rt := Q } (L2.start N vs) H) : FnG P w K mg base (L2.CX P w) (k + 1) f fd ps sp := by
  obtain ⟨oc, od, kV, doc, pm, an, cdv, ct, osl, rfl, lk, cr⟩ := F.ex
  exact fnG_of lk cr S len fun A outer s H vs Q E r q => rd cdv A outer s H vs Q E r q
end
/-! calls -/
section
variable {X : Cx} {CX : CXT} {k : Nat} {f : Addr} {fd : FuncData} {ps : List Str} {sp : Sp} {E : L2.St → XK} {x : Str} {p pos : Pos} {e : Expr} {es : List Expr} {t : TA}
theorem run_G {pins : List (Addr × Obj)} {σ : L2.St} {H : Hp} {s : Shared} {Q : VK} {us : List Value} {vs : List V} (F : FnG X.prog X.w X.K X.mg X.base CX k f fd ps sp) (hr : Rg k X.A) (hb : Binds X.K fd ps []) (lets : PassesAt CX X σ (E σ))
    (inv : Inv X pins σ H s) (rel : Vals vs us) (want : sp vs H Q (E σ)) : wpAny (model X.prog X.w) X.A (call (.ref f) us) (EP X pins σ Q) X.xe s := by
  have binds := hb s us inv.kIn (by rw [List.append_nil, ← rel.length]; exact F.len _ _ _ _ want)
  rw [List.append_nil] at binds
  refine wpAny_call (codeAny_mono (F.go X.A hr X.stack s H ⟨us, []⟩ us vs Q (E σ) inv.env0 binds rel want) fun res s2 out => ?_)
  match res, out with
  | .error er, out => exact lets pins H s er s2 inv out
  | .ok (.ret _), out => exact inv.after out
  | .ok .next, out => exact out.elim
  | .ok .brk, out => exact out.elim
  | .ok .cont, out => exact out.elim
theorem pe_G (F : FnG X.prog X.w X.K X.mg X.base CX k f fd ps sp) (hr : Rg k X.A) (hg : Gl X x) (hm : X.mg x = some (.ref f)) (hk : PySem.W.keepIn X.K (.ref f) = true) (hb : Binds X.K fd ps []) (lets : ∀ σ, PassesAt CX X σ (E σ)) (ha : PA X (e :: es) t)
    (hdb : (x == ("__debug__" : Str)) = false := by decide) (he : starEach (e :: es) X.env = (false, eval e X.env) :: starEach es X.env := by rfl) (hpl : (backTo pos (starEach es X.env)).any (·.1) = false := by rfl) :
    PE X (.Call (.Name x p) (e :: es) [] pos) (tCallS sp E t) := by
  constructor
  intro pins s σ H Q inv want
  refine wpAny_Call_Name_kw (ld_glob inv hg hm ?_ hdb)
  refine PySem.W.callWith_K (h₀ := X.base) inv.ok.mod.kin hk (thn (ha.run pos pins s σ H _ inv want) fun us s1 got => ?_) he hpl
  obtain ⟨vs, H1, inv1, rel, q⟩ := got
  exact ⟨inv1.kIn, run_G F hr hb (lets σ) inv1 rel q⟩
end
end Vm
namespace Vm
open PySem PySem.Spec PyProof.Rows L2 Evl
/-! ### repr -/
/-- what repr gives of data, where it gives something here -/
def showS (p : PyData) : Option Str := if p.showable && !p.hasDict && decide (p.depth + 1 ≤ 60) && decide (p.shown.length ≤ sizeLine) then some p.shown else none
def rRepr (K : PySem.W.Frag) : List V → Hp → VK → Prop := fun xs H Q => ∃ x p z, xs = [x] ∧ Dp K H x p ∧ showS p = some z ∧ Q (.str z) H
theorem call_repr {X : Cx} (hg : X.A.guards = some []) (hu : X.A.units + 64 < cLine) : CallR X (.builtin "repr") (rRepr X.K) := by
  intro pins s σ H xs us Q inv rel want
  obtain ⟨x, p, z, rfl, dp, sh, q⟩ := want
  obtain ⟨u, rfl, r⟩ := vals1 rel
  obtain ⟨as, rd⟩ := Dp.reads inv p x u dp r
  unfold showS at sh
  split at sh
  · rename_i ok
    cases sh
    simp only [Bool.and_eq_true, Bool.not_eq_true', decide_eq_true_eq] at ok
    obtain ⟨⟨⟨o1, o2⟩, o3⟩, o4⟩ := ok
    have big : ∀ {a : Addr}, u = .ref a → wpAny (model X.prog X.w) X.A (call (.builtin "repr") [u]) (EP X pins σ Q) X.xe s := by
      intro a e
      subst e
      exact repr_of_reads' rd o1 (PyData.noDict_hsm o2) hg (by omega) (fun _ _ e => e) (fun h' t tk keeps => ⟨.str _, H, inv.kept (t' := tk) fun b o e => keeps b o e, ⟨_, rfl⟩, q⟩) o4
    cases rd with
    | none => exact PySem.P.repr_of_none ⟨.str _, H, inv.tok _, ⟨_, rfl⟩, by simpa only [PyData.shown] using q⟩
    | bool b => exact PySem.P.repr_of_bool ⟨.str _, H, inv.tok _, ⟨_, rfl⟩, by simpa only [PyData.shown] using q⟩
    | int i t =>
      have o1 : decide (i.natAbs.log2 < 1920) = true := by simpa only [PyData.showable] using o1
      exact PySem.P.repr_of_int (of_decide_eq_true o1) ⟨.str _, H, inv.tok _, ⟨_, rfl⟩, by simpa only [PyData.shown] using q⟩
    | str y t => exact PySem.P.repr_of_str ⟨.str _, H, inv.tok _, ⟨_, rfl⟩, by simpa only [PyData.shown] using q⟩ (by simpa only [PyData.shown] using o4)
    | list _ _ _ _ => exact big rfl
    | tuple _ _ _ _ => exact big rfl
    | dict _ _ _ _ _ => exact big rfl
  · cases sh
def bRepr : List D → Option D
  | [d] => (toPy d).bind fun p => (showS p).map D.str
  | _ => none
theorem rc_repr {K : PySem.W.Frag} : RC K (rRepr K) bRepr := RCS.rc (by
  intro B H vs ds z e rx h
  unfold bRepr at h
  split at h
  · obtain ⟨p, hp, h⟩ := Option.bind_eq_some_iff.mp h
    obtain ⟨t, ht, rfl⟩ := Option.map_eq_some_iff.mp h
    obtain ⟨v, rfl, k⟩ := rx.one
    exact ⟨.str t, rfl, fun Q q => ⟨v, p, t, rfl, (k.rep e).dp hp, ht, q⟩⟩
  · cases h)
end Vm
namespace Vm
open PySem PySem.Spec PyProof.Rows L2 Evl
/-! ### defs of the module -/
structure DefG (P : Program) (w : World) (K : PySem.W.Frag) (mg : Str → Option Value) (base : Heap) (x : Str) (ps : List Str) (k : Nat) (m : En → Option Res) : Prop where
  ex : ∃ f fd, mg x = some (.ref f) ∧ FnG P w K mg base CX0 k f fd ps (SpM K ps.length m) ∧ PySem.W.keepIn K (.ref f) = true ∧ Binds K fd ps []
structure DefGX (P : Program) (w : World) (K : PySem.W.Frag) (mg : Str → Option Value) (base : Heap) (x : Str) (ps : List Str) (k : Nat) (m : En → Option Res) : Prop where
  ex : ∃ f fd, mg x = some (.ref f) ∧ FnG P w K mg base (L2.CX P w) k f fd ps (SpM K ps.length m) ∧ PySem.W.keepIn K (.ref f) = true ∧ Binds K fd ps []
section
variable {X : Cx} {x : Str} {ps : List Str} {n k j : Nat} {m : En → Option Res} {p pos : Pos} {e : Expr} {es : List Expr} {t : TA} {W : WX}
theorem tCall_nil {sp : Sp} {E : XK} {t : TA} : tCall sp [] E t = tCallS sp (fun _ => E) t := by
  funext σ H Q
  show (t σ H fun vs H1 => sp (vs ++ []) H1 Q E) = t σ H fun vs H1 => sp vs H1 Q E
  congr 1
  funext vs H1
  rw [List.append_nil]
theorem pe_dG (h : DefG X.prog X.w X.K X.mg X.base x ps k m) (hn : ps.length = n) (hr : Rg j X.A) (hj : k ≤ j) (hg : Gl X x) (ha : PA X (e :: es) t)
    (hdb : (x == ("__debug__" : Str)) = false := by decide)
    (he : starEach (e :: es) X.env = (false, eval e X.env) :: starEach es X.env := by rfl) (hpl : (backTo pos (starEach es X.env)).any (·.1) = false := by rfl) : PE X (.Call (.Name x p) (e :: es) [] pos) (tCall (SpM X.K n m) [] E0 t) := by
  subst hn
  rw [tCall_nil]
  obtain ⟨f, fd, at_f, F, kp, bn⟩ := h.ex
  exact pe_G F (hr.mono hj) hg at_f kp bn (fun σ => fun _ _ _ _ _ _ z => z.elim) ha hdb he hpl
theorem pe_dGX (tk : Takes X W) (h : DefGX X.prog X.w X.K X.mg X.base x ps k m) (hn : ps.length = n) (hr : Rg j X.A) (hj : k ≤ j) (hg : Gl X x) (ha : PA X (e :: es) t)
    (hdb : (x == ("__debug__" : Str)) = false := by decide)
    (he : starEach (e :: es) X.env = (false, eval e X.env) :: starEach es X.env := by rfl) (hpl : (backTo pos (starEach es X.env)).any (·.1) = false := by rfl) : PE X (.Call (.Name x p) (e :: es) [] pos) (tCallS (SpM X.K n m) (WE W) t) := by
  subst hn
  obtain ⟨f, fd, at_f, F, kp, bn⟩ := h.ex
  exact pe_G F (hr.mono hj) hg at_f kp bn (fun σ => passAt tk σ) ha hdb he hpl
theorem passG {X : Cx} {σ : L2.St} : PassesAt (L2.CX X.prog X.w) X σ E0 := fun pins H s er s2 inv out => passL pins σ H s er s2 inv out
theorem pe_dGY (h : DefGX X.prog X.w X.K X.mg X.base x ps k m) (hn : ps.length = n) (hr : Rg j X.A) (hj : k ≤ j) (hg : Gl X x) (ha : PA X (e :: es) t)
    (hdb : (x == ("__debug__" : Str)) = false := by decide)
    (he : starEach (e :: es) X.env = (false, eval e X.env) :: starEach es X.env := by rfl) (hpl : (backTo pos (starEach es X.env)).any (·.1) = false := by rfl) : PE X (.Call (.Name x p) (e :: es) [] pos) (tCall (SpM X.K n m) [] E0 t) := by
  subst hn
  rw [tCall_nil]
  obtain ⟨f, fd, at_f, F, kp, bn⟩ := h.ex
  exact pe_G F (hr.mono hj) hg at_f kp bn (fun σ => passG) ha hdb he hpl
end
/-! calls of what a name holds -/
structure HeldG (P : Program) (w : World) (K : PySem.W.Frag) (mg : Str → Option Value) (base : Heap) (k : Nat) (f : Addr) (sp : Sp) : Prop where
  ex : ∃ (fd : FuncData) (ps : List Str), FnG P w K mg base CX0 k f fd ps sp ∧ PySem.W.keepIn K (.ref f) = true ∧ Binds K fd ps []
inductive TblG (P : Program) (w : World) (K : PySem.W.Frag) (mg : Str → Option Value) (base : Heap) (k n : Nat) : Tbl → Prop
  | nil : TblG P w K mg base k n []
  | cons {x : Str} {ps : List Str} {j : Nat} {m : En → Option Res} {tbl : Tbl} (h : DefG P w K mg base x ps j m) (v : FnAt K mg x) (hj : j ≤ k) (hn : ps.length = n) (t : TblG P w K mg base k n tbl) : TblG P w K mg base k n ((x, m) :: tbl)
theorem TblG.held {P : Program} {w : World} {K : PySem.W.Frag} {mg : Str → Option Value} {base : Heap} {k n : Nat} {tbl : Tbl} (h : TblG P w K mg base k n tbl) : ∀ p ∈ tbl, HeldG P w K mg base k (clsOf K p.1) (SpM K n p.2) := by
  induction h with
  | nil => intro p hp; cases hp
  | cons h v hj hn _ ih =>
    intro p hp
    rcases List.mem_cons.mp hp with rfl | hp
    · subst hn
      obtain ⟨f, fd, h1, F, h3, h4⟩ := h.ex
      have e : some (Value.ref f) = some (.ref (clsOf K _)) := h1.symm.trans v.ex
      cases e
      exact ⟨fd, _, F.up hj, h3, h4⟩
    · exact ih p hp
theorem pe_tG {X : Cx} {x : Str} {i j k n : Nat} {tbl : Tbl} {p pos : Pos} {e : Expr} {es : List Expr} {t : TA} (T : TblG X.prog X.w X.K X.mg X.base k n tbl) (hr : Rg j X.A) (hj : k ≤ j) (hN : X.N[i]? = some x) (hv : Vis X.env.scope x) (ha : PA X (e :: es) t)
    (hdb : (x == ("__debug__" : Str)) = false := by decide) (hcd : (x == ("__classdict__" : Str)) = false := by decide)
    (he : starEach (e :: es) X.env = (false, eval e X.env) :: starEach es X.env := by rfl) (hpl : (backTo pos (starEach es X.env)).any (·.1) = false := by rfl) : PE X (.Call (.Name x p) (e :: es) [] pos) (tCallA i (tblS X.K n tbl) t) := by
  constructor
  intro pins s σ H Q inv ⟨f, sp, at_i, hs, want⟩
  unfold tblS at hs
  obtain ⟨q, hq, rfl⟩ := Option.map_eq_some_iff.mp hs
  have e1 : clsOf X.K q.1 = f := by simpa using List.find?_some hq
  subst e1
  obtain ⟨fd, ps, F, kp, bn⟩ := (T.held q (List.mem_of_find?_eq_some hq)).ex
  refine wpAny_Call_Name_kw (thn ((pe_var (pos := p) hN hv hdb hcd).run pins s σ H (fun v H1 => v = .ref (clsOf X.K q.1) ∧ H1 = H) inv ⟨_, at_i, rfl, rfl⟩) fun u s1 got => ?_)
  obtain ⟨_, _, inv1, r1, rfl, rfl⟩ := got
  cases r1
  refine PySem.W.callWith_K (h₀ := X.base) inv.ok.mod.kin kp (thn (ha.run pos pins s1 σ _ _ inv1 want) fun us s2 got => ?_) he hpl
  obtain ⟨vs, H2, inv2, rel, w2⟩ := got
  exact ⟨inv2.kIn, run_G (E := fun _ _ _ _ => False) F (hr.mono hj) bn (fun _ _ _ _ _ _ z => z.elim) inv2 rel w2⟩
/-! ### the law's own call -/
section
variable {P : Program} {w : World} {K : PySem.W.Frag} {mg mb : Str → Option Value} {k : Nat} {fa a : Addr} {fd : FuncData} {x : Str} {sp : Sp} {s1 : Shared} {vals : List Value} {ns : List Int}
/-- what the law's call must bring about -/
def LawEnd (s1 : Shared) (r : Result) (s2 : Shared) : Prop := r = .ok (.ret (.bool true)) ∧ OldK s1.heap s2.heap ∧ s2.os = s1.os ∧ AllBare s2.gens
theorem law_at {H : Hp} (only : L2.Only H) (mine : ∀ b, H b ≠ none → b = a ∧ K.lookup b = none) (script : SqL K H a (ns.map V.int)) (hok : HOk P w H s1.heap) (inK : K.In s1.heap) (nsM : s1.heap.Ns mainGlobals mg) (nsB : s1.heap.Ns builtinsNs mb) (boot : ∀ y : Str, y ≠ "__name__" → mb y = bootBuiltins y) (nolim : s1.heap.NoLimit) (gens : s1.gens = #[])
    (list : s1.heap.get? a = some { cls := .type "list", data := .seq vals.toArray }) (hr : Rg k callerA) (F : ∀ base : Heap, K.In base → base.Ns mainGlobals mg → FnG P w K mg base CX0 k fa fd [x] sp) (binds : ∀ (s : Shared) (u : Value), BindsTo s fd ⟨[u], []⟩ [(x, u)])
    (want : sp [.ref a] H (fun v _ => v = .bl true) fun _ _ _ => False) : codeAny (model P w) callerA (.call (.ref fa) ⟨[.ref a], []⟩) (LawEnd s1) s1 := by
  -- the base is what stands beside the script
  have free : ∀ {b : Addr}, b ≠ a → H b = none := fun {b} ne => Classical.byContradiction fun z => ne (mine b z).1
  have stands : ∀ {b : Addr} {o : Obj}, s1.heap.get? b = some o → H b = none → (hidT s1.heap H).get? b = some o := fun e z => hidT_get e z
  have dicts : ∀ {b : Addr} {o : Obj} {es : Array DictEntry} {ep : Nat}, s1.heap.get? b = some o → o.data = .dict es ep → H b = none := fun {b o es ep} e d => free fun z => by
    rw [z, list] at e
    cases e
    cases (show Data.seq vals.toArray _ = Data.dict es ep from d)
  have spaces : ∀ {b : Addr} {g : Str → Option Value}, s1.heap.Ns b g → (hidT s1.heap H).Ns b g := by
    rintro b g ⟨o, es, ep, e, d, rest⟩
    exact ⟨o, es, ep, stands e (dicts e d), d, rest⟩
  have inB : K.In (hidT s1.heap H) := fun b o e => stands (inK b o e) (Classical.byContradiction fun z => by
    rw [(mine b z).2] at e
    cases e)
  have md : Mod K mg (hidT s1.heap H) := by
    obtain ⟨mc, l1, l2⟩ := nolim
    exact ⟨inB, spaces nsM, ⟨mb, spaces nsB, boot⟩, mc, spaces l1, l2⟩
  have env : Env0 P w K mg (hidT s1.heap H) callerA [] s1 H := by
    refine ⟨rfl, md, fun b o e => of_hidT e, Nat.le_of_eq (hidT_size _ _), trivial, fun b hb => ?_, hok, .of_eq gens⟩
    cases hb
  refine codeAny_mono ((F _ inB (spaces nsM)).go callerA hr [] s1 H ⟨[.ref a], []⟩ [.ref a] [.ref a] _ _ env (binds s1 (.ref a)) (.cons rfl .nil) want) fun res s2 out => ?_
  match res, out with
  | .error er, out => exact out.elim
  | .ok .next, out => exact out.elim
  | .ok .brk, out => exact out.elim
  | .ok .cont, out => exact out.elim
  | .ok (.ret u), ⟨v, H2, os, bare, un, hok2, rel, yes⟩ =>
    have yes : v = .bl true := yes
    subst yes
    have rel : u = Value.bool true := rel
    subst rel
    refine ⟨rfl, OldK.of_keep fun b o e => ?_, os, bare⟩
    by_cases z : H b = none
    · exact un.keep b o e z (fun m => nomatch (show b ∈ ([] : List Addr) from m)) (by simp)
    · rcases only b with z0 | ⟨ob, xs, frozen⟩
      · exact absurd z0 z
      · obtain ⟨e1, _⟩ := hok b _ frozen
        obtain ⟨e2, _⟩ := hok2 b _ (un.frzs b ob _ frozen)
        rw [e] at e1
        cases e1
        exact e2
theorem law_callG (inK : K.In s1.heap) (nsM : s1.heap.Ns mainGlobals mg) (nsB : s1.heap.Ns builtinsNs mb) (boot : ∀ y : Str, y ≠ "__name__" → mb y = bootBuiltins y) (nolim : s1.heap.NoLimit) (gens : s1.gens = #[])
    (list : s1.heap.get? a = some { cls := .type "list", data := .seq vals.toArray }) (areInts : IntsAre vals ns) (short : ns.length ≤ sizeLine) (hr : Rg k callerA) (F : ∀ base : Heap, K.In base → base.Ns mainGlobals mg → FnG P w K mg base CX0 k fa fd [x] sp) (binds : ∀ (s : Shared) (u : Value), BindsTo s fd ⟨[u], []⟩ [(x, u)])
    (want : ∀ H : Hp, L2.Only H → SqL K H a (ns.map V.int) → sp [.ref a] H (fun v _ => v = .bl true) fun _ _ _ => False) : codeAny (model P w) callerA (.call (.ref fa) ⟨[.ref a], []⟩) (LawEnd s1) s1 := by
  have rel := vals_ints areInts
  have many := areInts.length
  by_cases written : ∃ o, K.lookup a = some o
  · obtain ⟨o, lk⟩ := written
    have e := inK a o lk
    rw [list] at e
    cases e
    have script : SqL K (fun _ => none) a (ns.map V.int) := .inr ⟨_, vals.toArray, _, lk, rfl, rfl, rfl, by rw [List.size_toArray, many]; exact short, by simpa using rel⟩
    have only : L2.Only (fun _ => none) := fun _ => .inl rfl
    refine law_at only (fun b z => absurd rfl z) script (fun b u z => ?_) inK nsM nsB boot nolim gens list hr F binds (want _ only script)
    cases (show (none : Option HO) = some u from z)
  · have nolook : K.lookup a = none := Classical.byContradiction fun z => written (Option.ne_none_iff_exists'.mp z)
    obtain ⟨H, hH⟩ : ∃ H : Hp, H = fun b => if b = a then some (.frz { cls := .type "list", data := .seq vals.toArray } (.lst (ns.map V.int))) else none := ⟨_, rfl⟩
    have there : H a = some (.frz { cls := .type "list", data := .seq vals.toArray } (.lst (ns.map V.int))) := by rw [hH]; exact if_pos rfl
    have elsewhere : ∀ b, b ≠ a → H b = none := fun b ne => by rw [hH]; exact if_neg ne
    have only : L2.Only H := fun b => by
      by_cases e : b = a
      · subst e; exact .inr ⟨_, _, there⟩
      · exact .inl (elsewhere b e)
    have script : SqL K H a (ns.map V.int) := .inl (.inr ⟨_, there⟩)
    refine law_at only (fun b z => ?_) script (fun b u z => ?_) inK nsM nsB boot nolim gens list hr F binds (want H only script)
    · have e : b = a := Classical.byContradiction fun ne => z (elsewhere b ne)
      subst e
      exact ⟨rfl, nolook⟩
    · have e : b = a := Classical.byContradiction fun ne => by rw [elsewhere b ne] at z; cases z
      subst e
      rw [there] at z
      cases z
      exact ⟨list, by rw [List.length_map]; exact short, vals, _, rel, list⟩
end
theorem walk_G {l : PySem.W.OpenLaw} {n k : Nat} {q : Program} {loose : List Str} {XP : (Str → Option Value) → Heap → Prop} {YP : World → Heap → Prop} {d : DefRec} {K : Params → PySem.W.Frag} {sp : World → Sp} {x : Str}
    (most : l.most = some n) (small : n ≤ sizeLine) (plain : d.params.defaults = []) (room : Room k callerA) (hY : ∀ (w : World) (h : Heap), YP w h → (K w.params).In h)
    (F : ∀ (w : World) (mg : Str → Option Value) (fa : Addr) (h : Heap), (K w.params).In h → h.Ns mainGlobals mg → mg d.name = some (.ref fa) →
      ∃ fd : FuncData, (∀ (s : Shared) (u : Value), BindsTo s fd ⟨[u], []⟩ [(x, u)]) ∧ ∀ base : Heap, (K w.params).In base → base.Ns mainGlobals mg → FnG l.prog w (K w.params) mg base CX0 k fa fd [x] (sp w))
    (want : ∀ (w : World) (H : Hp) (a : Addr) (ns : List Int), ns.length ≤ n → L2.Only H → SqL (K w.params) H a (ns.map V.int) → sp w [.ref a] H (fun v _ => v = .bl true) fun _ _ _ => False) :
    PySem.W.WalkO q loose XP YP l.row.toRowW d [] (fun f vs => PySem.call f vs) := by
  refine Att.attach_call most plain fun w _ s1 mg mb fa o pm cd doc a vs ns G Y fo fdat crec at_f obj areInts short gens => ?_
  obtain ⟨fd, binds, FF⟩ := F w mg fa s1.heap (hY w _ Y) G.T.g at_f
  exact law_callG (hY w _ Y) G.T.g G.T.b G.T.builtins G.T.nolimit gens obj areInts (Nat.le_trans short small) ⟨room, rfl⟩ FF binds fun H only script => want w H a ns short only script
end Vm

set_option Elab.async false
set_option linter.all false
set_option maxRecDepth 100000
/-! VmW: more words: range downwards, methods that only read, divmod. -/
namespace Vm
open PySem PySem.Spec PyProof.Rows L2 Evl
section
variable {K : PySem.W.Frag} {C : Ctx} {B B' H H' : Hp} {env env' : En} {σ : L2.St} {v : V}
/-! range(a, b, -1) -/
def downTo (hi : Int) (n : Nat) : List D := (List.range n).map fun i => .int (hi + (i : Nat) * -1)
theorem itRep_down {hi : Int} {n : Nat} : ItRep K B (Itc hi (-1) n) (downTo hi n) := by
  intro H x i
  have hl : (downTo hi n).length = n := by simp [downTo]
  refine ⟨fun h => by rw [hl] at h; exact h, fun d hd => ?_⟩
  have hi' : i < n := by
    have := (List.getElem?_eq_some_iff.mp hd).1
    rw [hl] at this
    exact this
  unfold downTo at hd
  rw [List.getElem?_map, List.getElem?_range hi'] at hd
  have e := (Option.some.inj hd).symm
  subst e
  refine ⟨hi', fun y H2 hy => .inl ⟨hy.1, ?_⟩⟩
  rw [hy.2]
  exact .int _
def iR3 (f : En → Option (List R × En)) : En → Option (List D × En) := fun env => (aD f env).bind fun a => match a.1 with
  | [.int i, .int j, .int c] => if c = -1 ∧ -(2 ^ 62) ≤ i ∧ i < 2 ^ 62 ∧ -(2 ^ 62) ≤ j ∧ j < 2 ^ 62 then some (downTo i (i - j).toNat, a.2) else none
  | _ => none
theorem si_r3 {ta : TA} {f : En → Option (List R × En)} (h : SA K ta f) : SI K (iRng3 ta) (iR3 f) := by
  intro C hC B env σ H ds env' s e Q hq
  obtain ⟨⟨as, e1⟩, g1, e⟩ := Option.bind_eq_some_iff.mp e
  obtain ⟨rs, e0, g2, g3⟩ := aD_some g1
  split at e
  · rename_i i j c hj
    simp only at hj
    subst hj
    split at e
    · rename_i hb
      obtain ⟨rfl, b1, b2, b3, b4⟩ := hb
      cases e
      refine h C hC B env σ H rs e0 s g2 _ fun vs B1 H1 s1 x1 rr => ?_
      obtain ⟨B2, s2, x2, ra⟩ := frzs_w s1 rr.w g3
      match vs, ra with
      | [.int _, .int _, .int _], .cons (.int _) (.cons (.int _) (.cons (.int _) .nil)) => exact ⟨i, j, -1, _, rfl, RgC.neg b1 b2 b3 b4, hq _ B2 H1 s2 (x1.trans x2) itRep_down⟩
    · cases e
  · cases e
/-! methods of lists that only read -/
def RM (K : PySem.W.Frag) (r : V → List V → Hp → VK → Prop) (g : D → List D → Option D) : Prop := ∀ (B H : Hp) (x : V) (vs : List V) (d : D) (ds : List D) (z : D), Ex B H → RepK K B H x d → RepKs K B H vs ds → g d ds = some z → (∃ xs, d = .lst xs) ∧ ∃ w, sc z = some w ∧ ∀ Q : VK, Q w H → r x vs H Q
def eMr (g : D → List D → Option D) (fe : En → Option (R × En)) (f : En → Option (List R × En)) : En → Option (R × En) := fun env => (fe env).bind fun a => (f a.2).bind fun b => (look b.2 a.1).bind fun d => (looks b.2 b.1).bind fun ds => match look a.2 a.1 with
  | some (.lst _) => (g d ds).map fun z => (.val z, b.2)
  | _ => none
theorem se_mr {r : V → List V → Hp → VK → Prop} {g : D → List D → Option D} {te : TE} {ta : TA} {fe : En → Option (R × En)} {f : En → Option (List R × En)} (hr : RM K r g) (he : SE K te fe) (h : SA K ta f) : SE K (tBM K "list" r te ta) (eMr g fe f) := by
  intro C hC B env σ H res env' s e Q hq
  obtain ⟨⟨r0, e1⟩, g1, e⟩ := Option.bind_eq_some_iff.mp e
  obtain ⟨⟨rs, e2⟩, g2, e⟩ := Option.bind_eq_some_iff.mp e
  obtain ⟨d, g3, e⟩ := Option.bind_eq_some_iff.mp e
  obtain ⟨ds, g4, e⟩ := Option.bind_eq_some_iff.mp e
  split at e
  · rename_i xs0 hl0
    obtain ⟨z, g5, e⟩ := Option.map_eq_some_iff.mp e
    cases e
    refine he C hC B env σ H r0 e1 s g1 _ fun x B1 H1 s1 x1 rr => ⟨?_, ?_⟩
    · obtain ⟨p, ws, rfl, hp, _⟩ := (look_rep s1 rr hl0).list s1.exB
      exact .inl ⟨rfl, _, sq_of hp⟩
    · have t := rr.tmp
      refine SA.temp h hC s1 g2 t fun vs B2 H2 s2 x2 rrs t2 => ?_
      have k1 := look_rep s2 (rr.keep x2 t2) g3
      have k2 := looks_rep s2 rrs g4
      rw [hC] at k1 k2
      obtain ⟨_, w, hw, k⟩ := hr B2 H2 x vs d ds z s2.exB k1 k2 g5
      exact k Q (hq w B2 H2 s2 (x1.trans x2) (sc_rep hw))
  · cases e
/-- the first place of y -/
def dIndex : D → List D → Option D
  | .lst xs, [y] => if flatD y && xs.all flatD && xs.any (fun x => eqF x y) then some (.int (xs.findIdx fun x => eqF x y)) else none
  | _, _ => none
theorem rep_at {K : PySem.W.Frag} {B : Hp} {vs : List V} {xs : List D} {i : Nat} {v : V} {d : D} (h : RepAll K B vs xs) (h1 : vs[i]? = some v) (h2 : xs[i]? = some d) : Rep K B v d := by
  obtain ⟨d', e, r⟩ := h.getV h1
  rw [h2] at e
  cases e
  exact r
theorem rm_index : RM K (rIndex K) dIndex := by
  intro B H x vs d ds z ex rx rs e
  unfold dIndex at e
  split at e
  · rename_i xs y
    split at e
    · rename_i ok
      cases e
      simp only [Bool.and_eq_true] at ok
      obtain ⟨⟨fy, fxs⟩, found⟩ := ok
      obtain ⟨v, rfl, ry⟩ := rs.one
      obtain ⟨a, ws, rfl, hp, ra⟩ := rx.list ex
      have ry := ry.scal (flat_scal fy)
      refine ⟨⟨_, rfl⟩, .int _, rfl, fun Q q => ?_⟩
      have hlt : xs.findIdx (fun x => eqF x y) < xs.length := List.findIdx_lt_length.mpr (by
        obtain ⟨m, hm, he⟩ := List.any_eq_true.mp found
        exact ⟨m, hm, he⟩)
      have hx : xs[xs.findIdx (fun x => eqF x y)]? = some xs[xs.findIdx (fun x => eqF x y)] := List.getElem?_eq_getElem hlt
      obtain ⟨w, hw, rw1⟩ := ra.get hx
      have fw : flatD xs[xs.findIdx (fun x => eqF x y)] = true := List.all_eq_true.mp fxs _ (List.getElem_mem hlt)
      refine ⟨a, ws, v, _, w, rfl, rfl, sq_of hp, flat_rep ry fy, flat_all ra fxs, hw, ?_, fun m z' hm hz => ?_, q⟩
      · rw [eqF_rep rw1 ry fw fy]
        exact List.findIdx_getElem (w := hlt)
      · obtain ⟨d', hd', rd⟩ := ra.getV hz
        have hm' : m < xs.length := by omega
        have e2 : xs[m] = d' := by
          rw [List.getElem?_eq_getElem hm'] at hd'
          exact Option.some.inj hd'
        rw [eqF_rep rd ry (List.all_eq_true.mp fxs _ (e2 ▸ List.getElem_mem hm')) fy, ← e2]
        have := List.not_of_lt_findIdx hm
        simpa using this
    · cases e
  · cases e
end
/-! list(range(a, b, -1)) -/
section
variable {X : Cx} {ta tb : TE}
def dnV (a b : Int) : List V := (List.range (a - b).toNat).map fun i => V.int (a + (i : Nat) * -1)
theorem dnV_length (a b : Int) : (dnV a b).length = (a - b).toNat := by unfold dnV; rw [List.length_map, List.length_range]
theorem vals_dn {a b : Int} {acc : Array Value} (h : ItemsOf (fun i v => ∃ t, v = .int (a + i * -1) t) acc (a - b).toNat) : Vals (dnV a b) acc.toList := by
  have e : acc.toList.length = (a - b).toNat := by rw [Array.length_toList]; exact h.1
  unfold dnV
  rw [← e]
  refine vals_of_get acc.toList _ fun place val at_ => ?_
  obtain ⟨tok, rfl⟩ := h.2 place val (by rw [← at_, Array.getElem?_toList])
  exact ⟨tok, rfl⟩
def RgDn (a b : Int) : Prop := -(2 ^ 62) ≤ a ∧ a < 2 ^ 62 ∧ -(2 ^ 62) ≤ b ∧ b < 2 ^ 62 ∧ (a - b).toNat ≤ 2 ^ 24
instance (a b : Int) : Decidable (RgDn a b) := by unfold RgDn; exact inferInstance
/-- an expression whose value is a range a, a - 1 .. b + 1 -/
def PRgD (X : Cx) (e : Expr) (t : TA) : Prop :=
  ∀ (pins : List (Addr × Obj)) (s : Shared) (σ : L2.St) (H : Hp) (Q : Int → Int → Hp → Prop), Inv X pins σ H s → (t σ H fun vs H1 => ∃ i j : Int, vs = [.int i, .int j, .int (-1)] ∧ Q i j H1) →
    wpAny (model X.prog X.w) X.A (eval e X.env) (fun x s' => ∃ r a b u1 u2 u3 H', x = .ref r ∧ IsRange s'.heap r a b (-1) u1 u2 u3 ∧ Inv X pins σ H' s' ∧ Q a b H') X.xe s
theorem prg_3 {a b c : Expr} {t : TA} {p pos : Pos} (hg : Gl X "range") (hm : X.mg "range" = none) (ha : PA X [a, b, c] t)
    (hs : starEach [a, b, c] X.env = (false, eval a X.env) :: starEach [b, c] X.env := by rfl) (hpl : (backTo pos (starEach [b, c] X.env)).any (·.1) = false := by rfl) : PRgD X (.Call (.Name "range" p) [a, b, c] [] pos) t := by
  intro pins s σ H Q I h
  refine Call_ (ld_blt I hg hm boot_range (PyProof.Rows.callWith_type1 (thn (ha.run pos pins s σ H _ I h) fun _ _ ⟨_, H1, I1, r1, want⟩ => ?_) hs hpl))
  obtain ⟨i, j, e, q⟩ := want
  subst e
  cases r1 with
  | cons r rr =>
    cases rr with
    | cons r' rr =>
      cases rr with
      | cons r'' rr =>
        cases rr
        obtain ⟨t, rfl⟩ := r
        obtain ⟨t', rfl⟩ := r'
        obtain ⟨t'', rfl⟩ := r''
        exact call_range_3 (by decide) ⟨_, i, j, _, _, _, H1, rfl, IsRange.new _ _ _ _ _ _ _, I1.kept fun b u e => Heap.get?_push_of_some _ e, q⟩ (.inl (PyProof.noPylong_small (by decide)))
def tLstDn (t : TA) : TE := fun σ H Q => t σ H fun vs H1 => ∃ i j : Int, vs = [.int i, .int j, .int (-1)] ∧ RgDn i j ∧ ∀ q, H1 q = none → Q (.ref q) (upd H1 q (.lst (dnV i j)))
theorem pe_listDn {e : Expr} {t : TA} {p pos : Pos} (hc : X.calm = true) (hg : Gl X "list") (hm : X.mg "list" = none) (he : PRgD X e t) (na : starEach [e] X.env = (false, eval e X.env) :: starEach [] X.env := by rfl) : PE X (.Call (.Name "list" p) [e] [] pos) (tLstDn t) := by
  refine ⟨fun pins s σ H Q I h => ?_⟩
  refine Call_ (ld_blt I hg hm boot_list (PyProof.Rows.callWith_type1 (args_cons (thn (he pins s σ H (fun i j H1 => RgDn i j ∧ ∀ q, H1 q = none → Q (.ref q) (upd H1 q (.lst (dnV i j)))) I h) fun x s1 ⟨r, a, b, t, u, v, H1, ex, hr, I1, ok, q⟩ => args_nil ?_) na) na))
  subst ex
  obtain ⟨lo1, lo2, hi1, hi2, few⟩ := ok
  refine call_list_range (n := (a - b).toNat) (I1.ok.hd hc) hr (PySem.W.small_down lo1 lo2 hi1 hi2) (PySem.W.rangeSize_downNat a b) few fun h' tk acc c' hk e' hi => ?_
  refine ⟨.ref s1.heap.objs.size, upd H1 s1.heap.objs.size (.lst (dnV a b)), I1.laid hk (Nat.le_refl _) (show ObjOk X.prog X.w _ _ _ (.lst (dnV a b)) from ⟨?_, acc.toList, c', vals_dn hi, ?_⟩), rfl, q _ (I1.hok.fresh (Nat.le_refl _))⟩
  · rw [dnV_length, sizeLine_eq]; omega
  · rw [Array.toArray_toList]; exact e'
end
section
variable {K : PySem.W.Frag} {C : Ctx} {B B' H H' : Hp} {env env' : En} {σ : L2.St} {v : V}
theorem dn_rep {C : Ctx} {B : Hp} (a : Int) (b : Int) : RepAll C.K B (dnV a b) (downTo a (a - b).toNat) := by
  have e1 : dnV a b = ((List.range (a - b).toNat).map fun i => a + ((i : Nat) : Int) * -1).map V.int := by unfold dnV; rw [List.map_map]; rfl
  have e2 : downTo a (a - b).toNat = ((List.range (a - b).toNat).map fun i => a + ((i : Nat) : Int) * -1).map D.int := by unfold downTo; rw [List.map_map]; rfl
  rw [e1, e2]
  exact .of_ints _
def eLrD (f : En → Option (List R × En)) : En → Option (R × En) := fun env => (aD f env).bind fun a => match a.1 with
  | [.int i, .int j, .int c] => if c = -1 ∧ RgDn i j then some (.fr (downTo i (i - j).toNat), a.2) else none
  | _ => none
theorem se_lrD {ta : TA} {f : En → Option (List R × En)} (h : SA K ta f) : SE K (tLstDn ta) (eLrD f) := by
  intro C hC B env σ H r env' s e Q hq
  obtain ⟨⟨as, e1⟩, g1, e⟩ := Option.bind_eq_some_iff.mp e
  obtain ⟨rs, e0, g2, g3⟩ := aD_some g1
  split at e
  · rename_i i j c hj
    simp only at hj
    subst hj
    split at e
    · rename_i hb
      obtain ⟨rfl, hb⟩ := hb
      cases e
      refine h C hC B env σ H rs e0 s g2 _ fun vs B1 H1 s1 x1 rr => ?_
      obtain ⟨B2, s2, x2, ra⟩ := frzs_w s1 rr.w g3
      match vs, ra with
      | [.int _, .int _, .int _], .cons (.int _) (.cons (.int _) (.cons (.int _) .nil)) => exact ⟨i, j, rfl, hb, fun q hq' => hq (.ref q) B2 _ (s2.temp hq') (x1.trans x2) (s2.newL hq' (dn_rep i j))⟩
    · cases e
  · cases e
end
/-! == and != of texts -/
section
variable {K : PySem.W.Frag}
def dEqS : D → D → Option D
  | .str x, .str y => some (.bl (decide (x = y)))
  | _, _ => none
def dNeS : D → D → Option D
  | .str x, .str y => some (.bl (!decide (x = y)))
  | _, _ => none
theorem ros_eqS : ROS K rEq dEqS := by
  intro B H x y dx dy z e rx ry h
  unfold dEqS at h
  split at h
  · cases h
    obtain rfl := RepK.str rx
    obtain rfl := RepK.str ry
    refine ⟨_, rfl, fun Q k => ⟨rfl, ?_⟩⟩
    simpa using k
  · cases h
theorem ros_neS : ROS K rNe dNeS := by
  intro B H x y dx dy z e rx ry h
  unfold dNeS at h
  split at h
  · cases h
    obtain rfl := RepK.str rx
    obtain rfl := RepK.str ry
    refine ⟨_, rfl, fun Q k => ⟨rfl, ?_⟩⟩
    simpa using k
  · cases h
theorem ro_eqS : RO K rEq dEqS := ros_eqS.ro
theorem ro_neS : RO K rNe dNeS := ros_neS.ro
end
end Vm

set_option Elab.async false
set_option linter.all false
set_option maxRecDepth 100000
/-! VmV: words of lists of pairs: sorted of pairs, sorted downwards. -/
namespace Vm
open PySem PySem.Spec PyProof.Rows L2 Evl
/-! ### sorted(xs, reverse=True), numbers -/
section
variable {K : PySem.W.Frag} {X : Cx}
def bSortRev : List D → Option (List D)
  | [.lst xs] => (unInts xs).map fun ns => (srt ns).reverse.map D.int
  | _ => none
def rSortRev (K : PySem.W.Frag) : List V → Hp → VK → Prop := fun vs H Q => rSortedKw K true [.bl true] vs [.bl true] H Q
theorem rcl_sortRev : RCL K (rSortRev K) bSortRev := by
  intro B H vs ds zs e rx h Q q
  unfold bSortRev at h
  split at h
  · obtain ⟨ns, h1, rfl⟩ := Option.map_eq_some_iff.mp h
    obtain ⟨v, rfl, k⟩ := rx.one
    obtain ⟨a, rfl, h2⟩ := k.ints e h1
    refine ⟨a, ns, rfl, rfl, sq_of h2, fun ms p pm pw hp => ?_⟩
    have pw : ms.Pairwise (· ≥ ·) := pw
    have eq : ms.reverse = srt ns := srt_unique ((List.reverse_perm _).trans pm) (by rw [List.pairwise_reverse]; exact pw)
    have eq2 : ms = (srt ns).reverse := by rw [← eq, List.reverse_reverse]
    rw [eq2]
    exact q p _ hp (.of_ints _)
  · cases h
theorem pe_sortRev {p pos c kpos : Pos} {e : Expr} {t : TA} {j : Nat} (hg : Gl X "sorted") (hm : X.mg "sorted" = none) (ha : PA X [e] t)
    (he : backTo pos (starEach [e] X.env) = (false, eval e X.env) :: backTo pos (starEach [] X.env) := by rfl) (hpl : (backTo pos (starEach [e] X.env)).any (·.1) = false := by rfl) :
    PE X (.Call (.Name "sorted" p) [e] [⟨some "reverse", .Constant (.bool true) j c, kpos⟩] pos) (tCB (rSortRev X.K) t) :=
  pe_callBK (cr_sortedRev (b := true)) hg hm (by decide +kernel) ha (pk_cons pe_bl pk_nil) (by decide) (by decide) he hpl rfl rfl rfl
end
/-! ### sorted(xs), pairs of numbers -/
def leP (p q : Int × Int) : Bool := !SrtO.lexB q p
def srtP (ps : List (Int × Int)) : List (Int × Int) := ps.mergeSort leP
theorem leP_iff {p q : Int × Int} : leP p q = true ↔ p.1 < q.1 ∨ (p.1 = q.1 ∧ p.2 ≤ q.2) := by
  unfold leP
  rw [Bool.not_eq_true', SrtO.lexB_no]
  omega
theorem srtP_perm (ps : List (Int × Int)) : (srtP ps).Perm ps := List.mergeSort_perm _ _
theorem srtP_pw (ps : List (Int × Int)) : (srtP ps).Pairwise (fun p q => leP p q = true) := by
  refine List.pairwise_mergeSort (le := leP) (fun a b c h1 h2 => ?_) (fun a b => ?_) ps
  · have h1 := leP_iff.mp h1
    have h2 := leP_iff.mp h2
    exact leP_iff.mpr (by omega)
  · rw [Bool.or_eq_true, leP_iff, leP_iff]
    omega
theorem srtP_unique {ps qs : List (Int × Int)} (p : qs.Perm ps) (w : qs.Pairwise fun p q => leP p q = true) : qs = srtP ps := by
  refine List.Perm.eq_of_pairwise (le := fun p q => leP p q = true) (fun a b _ _ h1 h2 => ?_) w (srtP_pw ps) (p.trans (srtP_perm ps).symm)
  have h1 := leP_iff.mp h1
  have h2 := leP_iff.mp h2
  exact Prod.ext (by omega) (by omega)
section
variable {K : PySem.W.Frag} {X : Cx}
/-- what is known of sorted(xs): its items, each with its pair, by the order of the pairs -/
def rSortP (K : PySem.W.Frag) : List V → Hp → VK → Prop := fun vs H Q => ∃ (a : Addr) (zs : List (V × (Int × Int))), vs = [V.ref a] ∧ SqL K H a (zs.map (·.1)) ∧ (∀ z ∈ zs, ∃ t, z.1 = V.ref t ∧ SqT K H t [.int z.2.1, .int z.2.2]) ∧
  ∀ (ys : List (V × (Int × Int))) (q : Addr), ys.Perm zs → ys.map (·.2) = srtP (zs.map (·.2)) → H q = none → Q (.ref q) (upd H q (.lst (ys.map (·.1))))
theorem cr_sortP : CallR X (.builtin "sorted") (rSortP X.K) := by
  intro pins s σ H vs us Q I r h
  obtain ⟨a, zs, rfl, hs, hz, q⟩ := h
  obtain ⟨its, rv, pl, len⟩ := I.list hs
  obtain ⟨u, rfl, ru⟩ := vals1 r
  obtain rfl : u = Value.ref a := ru
  have isref : ∀ x ∈ zs.map (·.1), ∃ t, x = V.ref t := fun x hx => by
    obtain ⟨z, hm, rfl⟩ := List.mem_map.mp hx
    obtain ⟨t, e, _⟩ := hz z hm
    exact ⟨t, e⟩
  obtain ⟨b1, b2⟩ := refs_back rv isref
  -- the pair of an item
  let key : V → Int × Int := fun x => Classical.epsilon fun p => ∃ t, x = V.ref t ∧ SqT X.K H t [.int p.1, .int p.2]
  have hk : ∀ z ∈ zs, key z.1 = z.2 := fun z hm => by
    obtain ⟨t, e, ht⟩ := hz z hm
    obtain ⟨t2, e2, ht2⟩ : ∃ t, z.1 = V.ref t ∧ SqT X.K H t [.int (key z.1).1, .int (key z.1).2] := Classical.epsilon_spec (p := fun p : Int × Int => ∃ t, z.1 = V.ref t ∧ SqT X.K H t [.int p.1, .int p.2]) ⟨z.2, t, e, ht⟩
    rw [e] at e2
    cases e2
    have := I.tuple_inj ht2 ht
    simp only [List.cons.injEq, V.int.injEq, and_true] at this
    exact Prod.ext this.1 this.2
  refine SrtO.sorted_pairsO (k := fun u => key (backV u)) pl.isList (by rw [← rv.length]; exact len) (fun v hv => ?_) fun h' d out o1 o2 kp hd hn => ?_
  · obtain ⟨t, rfl⟩ := b2 v hv
    have hm : V.ref t ∈ zs.map (·.1) := by rw [b1]; exact List.mem_map.mpr ⟨_, hv, rfl⟩
    obtain ⟨z, hzm, ez⟩ := List.mem_map.mp hm
    obtain ⟨t2, e2, ht⟩ := hz z hzm
    have ez : z.1 = V.ref t := ez
    rw [ez] at e2
    cases e2
    obtain ⟨it2, r2, ⟨o, g1, g2, n, g3⟩, _⟩ := I.tuple ht
    obtain ⟨u1, u2, rfl, ⟨t1, ei⟩, ⟨t3, ej⟩⟩ := vals2 r2
    subst ei ej
    refine ⟨t, o, t1, t3, n, rfl, g1, g2, ?_⟩
    show o.data = .seq #[.int (key (V.ref t)).1 t1, .int (key (V.ref t)).2 t3] n
    rw [← ez, hk z hzm]
    exact g3
  · have h3 : ∀ u ∈ out, ∃ a, u = Value.ref a := fun u hu => b2 u (o2.perm.mem_iff.mp hu)
    obtain ⟨n, hn⟩ := hn
    have hp : (out.map backV).Perm (zs.map (·.1)) := by
      rw [b1]
      exact o2.perm.map backV
    have e1 : (zs.map (·.1)).map (fun x => (x, key x)) = zs := by
      rw [List.map_map]
      conv => rhs; rw [← List.map_id zs]
      refine List.map_congr_left fun z hm => ?_
      show (z.1, key z.1) = z
      rw [hk z hm]
    have e2 : ((out.map backV).map fun x => (x, key x)).map (·.1) = out.map backV := by
      rw [List.map_map]
      show (out.map backV).map (fun x => x) = _
      rw [List.map_id']
    have hq := q ((out.map backV).map fun x => (x, key x)) d (by rw [← e1]; exact hp.map _) (srtP_unique (by
      have := (hp.map fun x => (x, key x)).map (·.2)
      rw [e1] at this
      exact this) ?_) (I.hok.fresh hd)
    · rw [e2] at hq
      refine ⟨.ref d, upd H d (.lst (out.map backV)), I.laid (t' := s.toks) kp hd ⟨?_, out, n, vals_back h3, hn⟩, rfl, hq⟩
      rw [hp.length_eq]
      exact len
    · rw [List.pairwise_map, List.pairwise_map, List.pairwise_map]
      refine List.Pairwise.imp (fun {x y} hxy => ?_) o1
      show (!SrtO.lexB (key (backV y)) (key (backV x))) = true
      rw [show SrtO.lexB (key (backV y)) (key (backV x)) = false from hxy]
      rfl
def unPairs : List D → Option (List (Int × Int))
  | [] => some []
  | .tup [.int i, .int j] :: xs => (unPairs xs).map fun ps => (i, j) :: ps
  | _ => none
def pairD (p : Int × Int) : D := .tup [.int p.1, .int p.2]
theorem unPairs_map : ∀ ps : List (Int × Int), unPairs (ps.map pairD) = some ps
  | [] => rfl
  | p :: ps => by
    show (unPairs (ps.map pairD)).map _ = _
    rw [unPairs_map ps]
    rfl
theorem unPairs_some : ∀ {xs : List D} {ps : List (Int × Int)}, unPairs xs = some ps → xs = ps.map pairD
  | [], ps, h => by cases h; rfl
  | x :: xs, ps, h => by
    unfold unPairs at h
    split at h
    · rename_i heq; cases heq
    · rename_i i j ys heq
      cases heq
      obtain ⟨qs, h1, rfl⟩ := Option.map_eq_some_iff.mp h
      rw [unPairs_some h1]
      rfl
    · cases h
def bSortP : List D → Option (List D)
  | [.lst xs] => (unPairs xs).map fun ps => (srtP ps).map pairD
  | _ => none
theorem rcl_sortP : RCL K (rSortP K) bSortP := by
  intro B H vs ds zs e rx h Q q
  unfold bSortP at h
  split at h
  · obtain ⟨ps, h1, rfl⟩ := Option.map_eq_some_iff.mp h
    obtain rfl := unPairs_some h1
    obtain ⟨v, rfl, k⟩ := rx.one
    obtain ⟨a, ws, rfl, hp, ra⟩ := k.list e
    have hl : ws.length = ps.length := by rw [ra.length, List.length_map]
    have z1 : (ws.zip ps).map (·.1) = ws := List.map_fst_zip (by omega)
    have z2 : (ws.zip ps).map (·.2) = ps := List.map_snd_zip (by omega)
    have zr : ∀ z ∈ ws.zip ps, Rep K B z.1 (pairD z.2) := fun z hz => by
      obtain ⟨i, hi, ei⟩ := List.getElem_of_mem hz
      have hi2 : i < ws.length := by rw [List.length_zip] at hi; omega
      have hi3 : i < ps.length := by omega
      rw [List.getElem_zip] at ei
      subst ei
      exact rep_at ra (List.getElem?_eq_getElem hi2) (by rw [List.getElem?_map, List.getElem?_eq_getElem hi3]; rfl)
    refine ⟨a, ws.zip ps, rfl, by rw [z1]; exact sq_of hp, fun z hz => ?_, fun ys p pm es hn => ?_⟩
    · obtain ⟨t, vs2, ev, ht, rt⟩ := (zr z hz).tuple
      refine ⟨t, ev, ?_⟩
      cases rt with
      | cons r1 rt =>
        cases rt with
        | cons r2 rt =>
          cases rt
          cases r1
          cases r2
          exact ex_t e ht
    · rw [z2] at es
      rw [← es] at q
      refine q p _ hn ?_
      have go : ∀ l : List (V × (Int × Int)), (∀ z ∈ l, Rep K B z.1 (pairD z.2)) → RepAll K B (l.map (·.1)) ((l.map (·.2)).map pairD) := fun l => by
        induction l with
        | nil => exact fun _ => .nil
        | cons y l ih => exact fun h => .cons (h y List.mem_cons_self) (ih fun z hz => h z (List.mem_cons_of_mem _ hz))
      exact go ys fun z hz => zr z (pm.mem_iff.mp hz)
  · cases h
end
/-! ### divmod -/
section
variable {K : PySem.W.Frag}
instance (i j : Int) : Decidable (CDivP i j) := by unfold CDivP; exact inferInstance
def bDivmod : List D → Option D
  | [.int i, .int j] => if CDivP i j then some (.tup [.int (i / j), .int (i % j)]) else none
  | _ => none
def rDivmod : List V → Hp → VK → Prop := fun xs H Q => ∃ i j, xs = [.int i, .int j] ∧ CDivP i j ∧ ∀ p, H p = none → Q (.ref p) (upd H p (.tup [.int (i / j), .int (i % j)]))
theorem rc_divmod : RC K rDivmod bDivmod := by
  intro C hC B env σ H vs ds z s rx e Q hq
  unfold bDivmod at e
  split at e
  · rename_i i j
    split at e
    · rename_i hd
      cases e
      obtain ⟨v, w, rfl, k1, k2⟩ := rx.two
      obtain rfl := RepK.int k1
      obtain rfl := RepK.int k2
      refine ⟨i, j, rfl, hd, fun l hl => ?_⟩
      have bl := fresh_back s.exB hl
      exact hq (.ref l) (upd B l (.tup [.int (i / j), .int (i % j)])) _ (s.alloc hl) (Ex.new bl) (.tup (st_of upd_same) (.cons (.int _) (.cons (.int _) .nil)))
    · cases e
  · cases e
end
/-! ### len(set(xs)), numbers each of which stands once -/
section
variable {K : PySem.W.Frag} {te : TE}
def eLenSet (f : En → Option (R × En)) : En → Option (R × En) := fun env => (f env).bind fun a => (look a.2 a.1).bind fun d => match d with
  | .lst xs => (unInts xs).bind fun ns => if ns.Nodup ∧ ns.length ≤ 4000 then some (.val (.int ns.length), a.2) else none
  | _ => none
theorem se_lenSet {f : En → Option (R × En)} (h : SE K te f) : SE K (RZ.tLenSetI K te) (eLenSet f) := by
  intro C hC B env σ H r env' s e Q hq
  obtain ⟨⟨a, e1⟩, g1, e⟩ := Option.bind_eq_some_iff.mp e
  obtain ⟨d, g2, e⟩ := Option.bind_eq_some_iff.mp e
  split at e
  · rename_i xs
    obtain ⟨ns, g3, e⟩ := Option.bind_eq_some_iff.mp e
    split at e
    · rename_i hn
      cases e
      refine h C hC B env σ H a e1 s g1 _ fun v B1 H1 s1 x1 rr => ?_
      have k := look_rep s1 rr g2
      rw [hC] at k
      obtain ⟨l, rfl, h2⟩ := k.ints s1.exB g3
      exact ⟨l, ns, rfl, sq_of h2, hn.1, hn.2, hq _ B1 H1 s1 x1 (.int _)⟩
    · cases e
  · cases e
end
/-! ### in, not in of lists of data -/
section
variable {K : PySem.W.Frag}
def inD (x y : D) : Option Bool := (toPy x).bind fun d => (toPy y).bind fun l => match l with
  | .list ds => if SeqAt.shaped d && SeqAt.shaped (.list ds) then some (ds.any fun z => PyData.eqv z d) else none
  | _ => none
def dInD (x y : D) : Option D := (inD x y).map fun b => .bl b
def dNotInD (x y : D) : Option D := (inD x y).map fun b => .bl (!b)
theorem inD_some {x y : D} {b : Bool} (h : inD x y = some b) : ∃ d ds, toPy x = some d ∧ toPy y = some (.list ds) ∧ SeqAt.shaped d = true ∧ SeqAt.shaped (.list ds) = true ∧ b = ds.any fun z => PyData.eqv z d := by
  unfold inD at h
  obtain ⟨d, e1, h1⟩ := Option.bind_eq_some_iff.mp h
  obtain ⟨l, e2, h2⟩ := Option.bind_eq_some_iff.mp h1
  split at h2
  · rename_i ds
    split at h2
    · rename_i hf
      cases h2
      rw [Bool.and_eq_true] at hf
      exact ⟨d, ds, e1, e2, hf.1, hf.2, rfl⟩
    · cases h2
  · cases h2
theorem ro_inD : RO K (rInD K) dInD := ROS.ro (by
  intro B H x y dx dy z e rx ry h
  obtain ⟨b, h', rfl⟩ := Option.map_eq_some_iff.mp h
  obtain ⟨d, ds, e1, e2, s1, s2, rfl⟩ := inD_some h'
  exact ⟨_, rfl, fun Q k => ⟨d, ds, (rx.rep e).dp e1, (ry.rep e).dp e2, s1, s2, k⟩⟩)
theorem ro_notInD : RO K (rNotInD K) dNotInD := ROS.ro (by
  intro B H x y dx dy z e rx ry h
  obtain ⟨b, h', rfl⟩ := Option.map_eq_some_iff.mp h
  obtain ⟨d, ds, e1, e2, s1, s2, rfl⟩ := inD_some h'
  exact ⟨_, rfl, fun Q k => ⟨d, ds, (rx.rep e).dp e1, (ry.rep e).dp e2, s1, s2, k⟩⟩)
theorem Rg.units65 {k : Nat} {A : Around} (r : Rg k A) : A.units + 65 < cLine := by have := r.rm.un; omega
end
end Vm

set_option Elab.async false
set_option linter.all false
set_option maxRecDepth 100000
/-! VT: typed functions with what must hold so that they are reckoned, and how the functions over environments follow them. -/
namespace Vm
open PySem PySem.Spec PyProof.Rows L2 Evl
structure M (α : Type) where
  ok : Prop
  val : α
section
variable {α β γ σ ρ : Type}
def bd (m : M α) (k : α → M β) : M β := ⟨m.ok ∧ (k m.val).ok, (k m.val).val⟩
def pr (a : α) : M α := ⟨True, a⟩
def cnd (b : Bool) (m1 m2 : M α) : M α := match b with
  | true => m1
  | false => m2
structure Hd (m : M α) (r : α) : Prop where
  ok : m.ok
  eq : m.val = r
variable {m m1 m2 : M α} {k : α → M β} {b : Bool} {a r : α} {z : β}
theorem hd_of (h : m.ok) : Hd m m.val := ⟨h, rfl⟩
theorem hb0 (h : Hd (bd m k) z) : Hd m m.val := ⟨h.ok.1, rfl⟩
theorem hb1 (h : Hd (bd m k) z) : m.ok := h.ok.1
theorem hb2 (h : Hd (bd m k) z) : Hd (k m.val) z := ⟨h.ok.2, h.eq⟩
theorem cnd_t (h : Hd (cnd b m1 m2) r) (e : b = true) : Hd m1 r := by subst e; exact h
theorem cnd_f (h : Hd (cnd b m1 m2) r) (e : b = false) : Hd m2 r := by subst e; exact h
theorem hd_eq (h : Hd (pr a) r) : a = r := h.eq
theorem hd_pr {P : α → Prop} (h : Hd (pr a) r) (p : P a) : P r := by
  have e : a = r := h.eq
  rw [← e]; exact p
@[simp] theorem bd_ok : (bd m k).ok = (m.ok ∧ (k m.val).ok) := rfl
@[simp] theorem bd_val : (bd m k).val = (k m.val).val := rfl
@[simp] theorem pr_ok : (pr a).ok = True := rfl
@[simp] theorem pr_val : (pr a).val = a := rfl
@[simp] theorem cnd_true : cnd true m1 m2 = m1 := rfl
@[simp] theorem cnd_false : cnd false m1 m2 = m2 := rfl
theorem cnd_if : cnd b m1 m2 = if b = true then m1 else m2 := by cases b <;> rfl
/-- partial steps -/
def mulM (i j : Int) : M Int := ⟨CMulA i j, i * j⟩
def fdivM (i j : Int) : M Int := ⟨0 < j ∧ j < 2 ^ 8000, i / j⟩
def modM (i j : Int) : M Int := ⟨0 < j, i % j⟩
def powM (i j : Int) : M Int := ⟨CPowA i j, i ^ j.toNat⟩
def getI [Inhabited α] (xs : List α) (i : Int) : α := if 0 ≤ i then xs.getD i.toNat default else xs.getD ((xs.length : Int) + i).toNat default
def inI (n : Nat) (i : Int) : Prop := -(n : Int) ≤ i ∧ i < n
def getM [Inhabited α] (xs : List α) (i : Int) : M α := ⟨inI xs.length i, getI xs i⟩
def setI (xs : List α) (i : Int) (v : α) : List α := xs.set (if 0 ≤ i then i.toNat else ((xs.length : Int) + i).toNat) v
def catM (xs ys : List α) : M (List α) := ⟨xs.length + ys.length ≤ sizeLine, xs ++ ys⟩
def repM (xs : List α) (k : Int) : M (List α) := ⟨k < 2 ^ 63 ∧ -(2 ^ 63) ≤ k ∧ xs.length * k.toNat ≤ sizeLine, (List.replicate k.toNat xs).flatten⟩
def maxM (xs : List Int) : M Int := ⟨xs ≠ [], maxL xs⟩
def minM (xs : List Int) : M Int := ⟨xs ≠ [], minL xs⟩
def rgI (a b : Int) : List Int := (List.range (b - a).toNat).map fun i : Nat => a + (i : Int)
def lrgM (a b : Int) : M (List Int) := ⟨-(2 ^ 62) ≤ a ∧ a < 2 ^ 62 ∧ -(2 ^ 62) ≤ b ∧ b < 2 ^ 62 ∧ (b - a).toNat ≤ 2 ^ 24, rgI a b⟩
/-- a, a - 1 .. b + 1 -/
def dnI (a b : Int) : List Int := (List.range (a - b).toNat).map fun i : Nat => a + (i : Int) * -1
def dnLM (a b c : Int) : M (List Int) := ⟨c = -1 ∧ RgDn a b, dnI a b⟩
def dnM (a b c : Int) : M (List Int) := ⟨c = -1 ∧ -(2 ^ 62) ≤ a ∧ a < 2 ^ 62 ∧ -(2 ^ 62) ≤ b ∧ b < 2 ^ 62, dnI a b⟩
def indexM (xs : List Int) (y : Int) : M Int := ⟨y ∈ xs, (xs.findIdx fun x => x == y : Nat)⟩
def reprM (d : D) : M Str := ⟨((toPy d).bind showS).isSome = true, ((toPy d).bind showS).getD ""⟩
def rgM (a b : Int) : M (List Int) := ⟨-(2 ^ 62) ≤ a ∧ a < 2 ^ 62 ∧ -(2 ^ 62) ≤ b ∧ b < 2 ^ 62, rgI a b⟩
def appM (xs : List α) (x : α) : M (List α) := ⟨xs.length < 1000000, xs ++ [x]⟩
def setM (xs : List α) (i : Int) (v : α) : M (List α) := ⟨inI xs.length i, setI xs i v⟩
def extM (xs ys : List α) : M (List α) := ⟨xs.length + ys.length ≤ 1000000, xs ++ ys⟩
def popM [Inhabited α] (xs : List α) (k : Int) : M (α × List α) := ⟨0 ≤ k ∧ k < 2 ^ 63 ∧ k < xs.length, (getI xs k, xs.eraseIdx k.toNat)⟩
def mapM (f : α → M β) (xs : List α) : M (List β) := ⟨∀ x ∈ xs, (f x).ok, xs.map fun x => (f x).val⟩
def filM (p : α → M Bool) (f : α → M β) (xs : List α) : M (List β) := ⟨∀ x ∈ xs, (p x).ok ∧ ((p x).val = true → (f x).ok), (xs.filter fun x => (p x).val).map fun x => (f x).val⟩
def mustM (b : Bool) : M Unit := ⟨b = true, ()⟩
def shortM (n : Nat) : M Unit := ⟨n < 1000000, ()⟩
/-- a loop without ways out -/
def forM (st : σ → α → M σ) : σ → List α → M σ
  | s, [] => pr s
  | s, x :: xs => bd (st s x) fun s' => forM st s' xs
inductive Fl (ρ σ : Type) where
  | go (s : σ) | brk (s : σ) | out (r : ρ)
def forX (st : σ → α → M (Fl ρ σ)) : σ → List α → M (Fl ρ σ)
  | s, [] => pr (.go s)
  | s, x :: xs => bd (st s x) fun f => match f with
    | .go s' => forX st s' xs
    | .brk s' => pr (.go s')
    | .out v => pr (.out v)
/-- behind a loop with ways out -/
def aft {τ : Type} (f : Fl ρ σ) (o : ρ → M τ) (k : σ → M τ) : M τ := match f with
  | .go s => k s
  | .brk s => k s
  | .out v => o v
theorem aft_go {τ : Type} {f : Fl ρ σ} {o : ρ → M τ} {k : σ → M τ} {s : σ} {r : τ} (h : Hd (aft f o k) r) (e : f = .go s) : Hd (k s) r := by subst e; exact h
theorem aft_out {τ : Type} {f : Fl ρ σ} {o : ρ → M τ} {k : σ → M τ} {v : ρ} {r : τ} (h : Hd (aft f o k) r) (e : f = .out v) : Hd (o v) r := by subst e; exact h
@[simp] theorem aft_1 {τ : Type} {o : ρ → M τ} {k : σ → M τ} {s : σ} : aft (.go s) o k = k s := rfl
@[simp] theorem aft_2 {τ : Type} {o : ρ → M τ} {k : σ → M τ} {v : ρ} : aft (.out v) o k = o v := rfl
def whileM (t : σ → M Bool) (st : σ → M σ) : Nat → σ → M σ
  | 0, s => ⟨False, s⟩
  | n + 1, s => bd (t s) fun b => cnd b (bd (st s) fun s' => whileM t st n s') (pr s)
/-- a comprehension that changes own lists -/
def lcS (st : σ → α → M (β × σ)) : σ → List α → M (List β × σ)
  | s, [] => pr ([], s)
  | s, x :: xs => bd (st s x) fun a => bd (lcS st a.2 xs) fun c => pr (a.1 :: c.1, c.2)
end

theorem upTo_rg (a : Int) (n : Nat) : upTo a n = ((List.range n).map fun i : Nat => a + (i : Int)).map D.int := by
  unfold upTo
  rw [List.map_map]
  rfl
theorem ixN_of {n : Nat} {i : Int} (h : inI n i) : ixN n i = some (if 0 ≤ i then i.toNat else ((n : Int) + i).toNat) := by
  obtain ⟨h1, h2⟩ := h
  unfold ixN
  by_cases h0 : 0 ≤ i
  · rw [if_pos h0, if_pos h2, if_pos h0]
  · rw [if_neg h0, if_pos (by omega), if_neg h0, Int.add_comm]
theorem atI_get {α : Type} [Inhabited α] {E : α → D} {xs : List α} {i : Int} (h : inI xs.length i) : atI (xs.map E) i = some (E (getI xs i)) := by
  have h' := h
  obtain ⟨h1, h2⟩ := h'
  unfold atI getI
  rw [List.length_map, ixN_of h]
  show (xs.map E)[if 0 ≤ i then i.toNat else ((xs.length : Int) + i).toNat]? = _
  by_cases h0 : 0 ≤ i
  · rw [if_pos h0, if_pos h0, List.getElem?_map, List.getD_eq_getElem?_getD, List.getElem?_eq_getElem (by omega)]
    rfl
  · rw [if_neg h0, if_neg h0, List.getElem?_map, List.getD_eq_getElem?_getD, List.getElem?_eq_getElem (by omega)]
    rfl
theorem atI_get' {α : Type} [Inhabited α] {E : α → D} {xs : List α} {i : Int} (h1 : 0 ≤ i) (h2 : i < xs.length) : (xs.map E)[i.toNat]? = some (E (getI xs i)) := by
  unfold getI
  rw [if_pos h1, List.getElem?_map, List.getD_eq_getElem?_getD, List.getElem?_eq_getElem (by omega)]
  rfl
theorem map_eraseIdx {α β : Type} {E : α → β} : ∀ (xs : List α) (k : Nat), (xs.map E).eraseIdx k = (xs.eraseIdx k).map E
  | [], _ => rfl
  | _ :: _, 0 => rfl
  | x :: xs, k + 1 => by
    show E x :: (xs.map E).eraseIdx k = E x :: (xs.eraseIdx k).map E
    rw [map_eraseIdx xs k]

/-! ### how environments follow -/
theorem must_no {b : Bool} {u : Unit} (g : Hd (mustM (!b)) u) (h : b = true) : False := by
  have q : (!b) = true := g.ok
  rw [h] at q
  cases q
theorem hbind {α β : Type} {m : M α} {k : α → M β} {z : β} {P : Prop} (h : Hd (bd m k) z) (f : ∀ t, Hd m t → Hd (k t) z → P) : P := f m.val (hb0 h) (hb2 h)
section
variable {env e1 e2 e3 e4 : En} {fa fb fc : En → Option (R × En)} {f : En → Option (List R × En)} {F G : En → Option Out} {t u : En → Option (Bool × En)} {ra rb rc : R} {x y z d : D} {i j : Nat}
abbrev EV (f : En → Option (R × En)) (env : En) (r : R) (e : En) : Prop := f env = some (r, e)
abbrev AV (f : En → Option (List R × En)) (env : En) (r : List R) (e : En) : Prop := f env = some (r, e)
abbrev TV (t : En → Option (Bool × En)) (env : En) (b : Bool) (e : En) : Prop := t env = some (b, e)
theorem ev_sh (h : env[i]? = some (.sh d)) : EV (eVar i) env (.val d) env := by unfold EV eVar; rw [h]
theorem ev_ow {xs : List D} (h : env[i]? = some (.ow xs)) : EV (eVar i) env (.al i) env := by unfold EV eVar; rw [h]
theorem ev_c : EV (eC d) env (.val d) env := rfl
theorem ev_pr {α : Type} {a w : α} {K : α → R} (h : Hd (pr a) w) (g : EV fa env (K a) e1) : EV fa env (K w) e1 := by
  have e : a = w := h.eq
  rw [← e]; exact g
theorem ev_op {g : D → D → Option D} (ha : EV fa env ra e1) (hb : EV fb e1 rb e2) (hx : look e2 ra = some x) (hy : look e2 rb = some y) (h : g x y = some z) : EV (eOp g fa fb) env (.val z) e2 := by
  unfold EV at *; simp [ha, hb, hx, hy, h]
theorem ev_opL {g : D → D → Option (List D)} {zs : List D} (ha : EV fa env ra e1) (hb : EV fb e1 rb e2) (hx : look e2 ra = some x) (hy : look e2 rb = some y) (h : g x y = some zs) : EV (eOpL g fa fb) env (.fr zs) e2 := by
  unfold EV at *; simp [ha, hb, hx, hy, h]
theorem ev_un {g : D → Option D} (ha : EV fa env ra e1) (hx : look e1 ra = some x) (h : g x = some z) : EV (eUn g fa) env (.val z) e1 := by
  unfold EV at *; simp [ha, hx, h]
theorem ev_chain {g g' : D → D → Option D} {w : D} {a b : Bool} (ha : EV fa env ra env) (hb : EV fb env (.val y) env) (hx : look env ra = some x) (h : g x y = some (.bl a)) (hc : EV fc env rc env) (hw : look env rc = some w) (h' : g' y w = some (.bl b)) : EV (eChain g g' fa fb fc) env (.val (.bl (a && b))) env := by
  unfold EV at *
  rw [x_eChain, ha]
  simp only [Option.bind_some, hb, hx, x_look1, h]
  cases a with
  | true => simp [hc, hw, h']
  | false => rfl
theorem av_0 : AV aNil env [] env := rfl
theorem av_1 {rs : List R} (ha : EV fa env ra e1) (h : AV f e1 rs e2) : AV (aCons fa f) env (ra :: rs) e2 := by
  unfold EV AV at *; simp [ha, h]
theorem ev_cb {g : List D → Option D} {rs : List R} {ds : List D} (ha : AV f env rs e1) (hl : looks e1 rs = some ds) (h : g ds = some z) : EV (eCB g f) env (.val z) e1 := by
  unfold EV AV at *; simp [ha, hl, h]
theorem ev_cbL {g : List D → Option (List D)} {rs : List R} {ds zs : List D} (ha : AV f env rs e1) (hl : looks e1 rs = some ds) (h : g ds = some zs) : EV (eCBL g f) env (.fr zs) e1 := by
  unfold EV AV at *; simp [ha, hl, h]
theorem ev_lst {rs : List R} {ds : List D} (ha : AV f env rs e1) (hl : frzs e1 rs = some (ds, e1)) (h : ds.length ≤ 1000) : EV (eLst f) env (.fr ds) e1 := by
  unfold EV AV at *; simp [ha, hl, h]
theorem ev_tup {rs : List R} {ds : List D} (ha : AV f env rs e1) (hl : frzs e1 rs = some (ds, e1)) (h : ds.length ≤ 1000) : EV (eTup f) env (.val (.tup ds)) e1 := by
  unfold EV AV at *; simp [ha, hl, h]
theorem ev_call {m : En → Option Res} {n : Nat} {rs : List R} {ds : List D} (ha : AV f env rs e1) (hl : frzs e1 rs = some (ds, e1)) (hn : ds.length = n) (h : ∃ e, m (ds.map .sh) = some (.val z e)) : EV (eCall n m f) env (.val z) e1 := by
  obtain ⟨e, h⟩ := h
  unfold EV AV at *; simp [ha, hl, hn, h]
theorem ev_callL {m : En → Option Res} {n : Nat} {rs : List R} {ds zs : List D} (ha : AV f env rs e1) (hl : frzs e1 rs = some (ds, e1)) (hn : ds.length = n) (h : ∃ e, m (ds.map .sh) = some (.fr zs e)) : EV (eCall n m f) env (.fr zs) e1 := by
  obtain ⟨e, h⟩ := h
  unfold EV AV at *; simp [ha, hl, hn, h]
theorem ev_callB {m : En → Option Res} {n : Nat} {rs : List R} {ds : List D} (ha : AV f env rs e1) (hl : frzs e1 rs = some (ds, e2)) (hn : ds.length = n) (h : ∃ e, m (ds.map .sh) = some (.val z e)) (hf : flat1 z = true) : EV (eCallB n m f) env (.val z) e1 := by
  obtain ⟨e, h⟩ := h
  unfold EV AV eCallB at *; simp [ha, hl, hn, h, hf]
theorem ev_callBL {m : En → Option Res} {n : Nat} {rs : List R} {ds zs : List D} (ha : AV f env rs e1) (hl : frzs e1 rs = some (ds, e2)) (hn : ds.length = n) (h : ∃ e, m (ds.map .sh) = some (.fr zs e)) (hf : zs.all flat1 = true) : EV (eCallB n m f) env (.fr zs) e1 := by
  obtain ⟨e, h⟩ := h
  unfold EV AV eCallB at *
  rw [ha]
  simp only [Option.bind_some]
  rw [hl]
  simp only [Option.bind_some]
  rw [if_pos hn, h]
  simp only [Option.bind_some]
  rw [if_pos hf]
theorem flat_ints (ns : List Int) : (ns.map D.int).all flat1 = true := by
  induction ns with
  | nil => rfl
  | cons n ns ih => rw [List.map_cons, List.all_cons, ih]; rfl
theorem ev_io {α : Type} {E : α → D} {xs ys : List α} {m : En → Option Res} {n : Nat} {rs : List R} {ds : List D} (ha : AV f env (.al i :: rs) e1) (hl : frzs e1 rs = some (ds, e1)) (ho : e1[i]? = some (.ow (xs.map E))) (hn : ds.length + 1 = n) (h : ∃ e, m (.ow (xs.map E) :: ds.map .sh) = some (.val z (.ow (ys.map E) :: e))) (hs : e1.set i (.ow (ys.map E)) = e2) : EV (eCall1 n m f) env (.val z) e2 := by
  obtain ⟨e, h⟩ := h
  unfold EV AV at *
  rw [x_eCall1, ha]
  simp only [Option.bind_some, hl, x_own, ho]
  rw [if_pos hn, h]
  simp [hs]
theorem ev_ioL {α : Type} {E : α → D} {xs ys : List α} {m : En → Option Res} {n : Nat} {rs : List R} {ds zs : List D} (ha : AV f env (.al i :: rs) e1) (hl : frzs e1 rs = some (ds, e1)) (ho : e1[i]? = some (.ow (xs.map E))) (hn : ds.length + 1 = n) (h : ∃ e, m (.ow (xs.map E) :: ds.map .sh) = some (.fr zs (.ow (ys.map E) :: e))) (hs : e1.set i (.ow (ys.map E)) = e2) : EV (eCall1 n m f) env (.fr zs) e2 := by
  obtain ⟨e, h⟩ := h
  unfold EV AV at *
  rw [x_eCall1, ha]
  simp only [Option.bind_some, hl, x_own, ho]
  rw [if_pos hn, h]
  simp [hs]
theorem ev_io1 {α β : Type} {E : α → D} {E' : β → D} {xs : List α} {ys : List β} {m : En → Option Res} {n : Nat} {rs : List R} {ds : List D} (h0 : EV fa env (.fr (xs.map E)) e1) (ha : AV f e1 rs e2) (hl : frzs e2 rs = some (ds, e2)) (hn : ds.length + 1 = n) (h : ∃ e, m (.ow (xs.map E) :: ds.map .sh) = some (.val z (.ow (ys.map E') :: e))) : EV (eCall1F n m fa f) env (.val z) e2 := by
  obtain ⟨e, h⟩ := h
  unfold EV AV eCall1F at *
  rw [h0]
  simp only [Option.bind_some]
  rw [ha]
  simp only [Option.bind_some]
  rw [hl]
  simp only [Option.bind_some]
  rw [if_pos hn, h]
  rfl
theorem ev_pop {α : Type} [Inhabited α] {E : α → D} {xs : List α} {k : Int} {w : α × List α} {xs0 : List D} (h0 : env[i]? = some (.ow xs0)) (ha : AV f env [.val (.int k)] e1) (ho : e1[i]? = some (.ow (xs.map E))) (g : Hd (popM xs k) w) (hs : e1.set i (.ow (w.2.map E)) = e2) : EV (eaPop i f) env (.val (E w.1)) e2 := by
  obtain ⟨⟨g1, g2, g3⟩, ge⟩ := g
  subst ge
  unfold EV AV at *
  rw [x_pop]
  simp only [x_own, h0, Option.bind_some, x_aD, ha, x_frzs2, x_frzs1, x_frz1, Option.map_some, x_oneInt, ho]
  rw [if_pos ⟨g1, g2⟩]
  have q := atI_get' (E := E) g1 g3
  rw [q]
  simp only [Option.map_some]
  rw [← hs]
  show some (R.val (E (getI xs k)), e1.set i (.ow ((xs.map E).eraseIdx k.toNat))) = some (R.val (E (getI xs k)), e1.set i (.ow ((xs.eraseIdx k.toNat).map E)))
  rw [map_eraseIdx]
theorem ev_not {b : Bool} (h : EV fa env (.val (.bl b)) e1) : EV (eNot fa) env (.val (.bl (!b))) e1 := by
  unfold EV at *; simp [h]
theorem ev_and {a b : Bool} (ha : EV fa env (.val (.bl a)) e1) (hb : EV fb e1 (.val (.bl b)) e1) : EV (eAnd fa fb) env (.val (.bl (a && b))) e1 := by
  unfold EV at *; cases a <;> simp [ha, hb]
theorem ev_or {a b : Bool} (ha : EV fa env (.val (.bl a)) e1) (hb : EV fb e1 (.val (.bl b)) e1) : EV (eOr fa fb) env (.val (.bl (a || b))) e1 := by
  unfold EV at *; cases a <;> simp [ha, hb]
theorem ev_andM {a v : Bool} {mb : M Bool} (h : Hd (cnd a mb (pr false)) v) (ha : EV fa env (.val (.bl a)) e1) (hb : ∀ w, Hd mb w → EV fb e1 (.val (.bl w)) e1) : EV (eAnd fa fb) env (.val (.bl v)) e1 := by
  unfold EV at *
  cases a with
  | true => simp [ha, hb v (cnd_t h rfl)]
  | false =>
    have e : false = v := (cnd_f h rfl).eq
    subst e
    simp [ha]
theorem ev_orM {a v : Bool} {mb : M Bool} (h : Hd (cnd a (pr true) mb) v) (ha : EV fa env (.val (.bl a)) e1) (hb : ∀ w, Hd mb w → EV fb e1 (.val (.bl w)) e1) : EV (eOr fa fb) env (.val (.bl v)) e1 := by
  unfold EV at *
  cases a with
  | false => simp [ha, hb v (cnd_f h rfl)]
  | true =>
    have e : true = v := (cnd_t h rfl).eq
    subst e
    simp [ha]
theorem ev_iteM {α : Type} {a : Bool} {m1 m2 : M α} {v : α} {K : α → R} (h : Hd (cnd a m1 m2) v) (ht : TV t env a e1) (h1 : ∀ w, Hd m1 w → EV fa e1 (K w) e2) (h2 : ∀ w, Hd m2 w → EV fb e1 (K w) e2) : EV (eIf t fa fb) env (K v) e2 := by
  unfold EV TV at *
  cases a with
  | true => simp [ht, h1 v (cnd_t h rfl)]
  | false => simp [ht, h2 v (cnd_f h rfl)]
theorem tv_x {b : Bool} (h : EV fa env (.val (.bl b)) e1) : TV (bTest fa) env b e1 := by
  unfold EV TV at *; simp [h]
theorem tv_and {a b : Bool} (ha : TV t env a e1) (hb : TV u e1 b e1) : TV (bAnd t u) env (a && b) e1 := by
  unfold TV at *; cases a <;> simp [ha, hb]
theorem tv_or {a b : Bool} (ha : TV t env a e1) (hb : TV u e1 b e1) : TV (bOr t u) env (a || b) e1 := by
  unfold TV at *; cases a <;> simp [ha, hb]
theorem tv_not {a : Bool} (ha : TV t env a e1) : TV (bNot t) env (!a) e1 := by
  unfold TV at *; simp [ha]
theorem tv_andM {a v : Bool} {mb : M Bool} (h : Hd (cnd a mb (pr false)) v) (ha : TV t env a e1) (hb : ∀ w, Hd mb w → TV u e1 w e1) : TV (bAnd t u) env v e1 := by
  unfold TV at *
  cases a with
  | true => simp [ha, hb v (cnd_t h rfl)]
  | false =>
    have e : false = v := (cnd_f h rfl).eq
    subst e
    simp [ha]
theorem tv_orM {a v : Bool} {mb : M Bool} (h : Hd (cnd a (pr true) mb) v) (ha : TV t env a e1) (hb : ∀ w, Hd mb w → TV u e1 w e1) : TV (bOr t u) env v e1 := by
  unfold TV at *
  cases a with
  | false => simp [ha, hb v (cnd_f h rfl)]
  | true =>
    have e : true = v := (cnd_t h rfl).eq
    subst e
    simp [ha]
theorem tv_pr {a w : Bool} (h : Hd (pr a) w) (g : TV t env a e1) : TV t env w e1 := by
  have e : a = w := h.eq
  rw [← e]; exact g
theorem tv_yes : TV bYes env true env := rfl

/-! operators -/
theorem o_mul {i j v : Int} (g : Hd (mulM i j) v) : dMul (.int i) (.int j) = some (.int v) := by rw [← g.eq]; exact x_mul g.ok
theorem o_fdiv {i j v : Int} (g : Hd (fdivM i j) v) : dFdiv (.int i) (.int j) = some (.int v) := by rw [← g.eq]; exact x_fdivW g.ok.1 g.ok.2
theorem o_mod {i j v : Int} (g : Hd (modM i j) v) : dMod (.int i) (.int j) = some (.int v) := by rw [← g.eq]; exact x_mod g.ok
theorem o_pow {i j v : Int} (g : Hd (powM i j) v) : dPow (.int i) (.int j) = some (.int v) := by rw [← g.eq]; exact x_pow g.ok
theorem o_ix {α : Type} [Inhabited α] {E : α → D} {xs : List α} {i : Int} {v : α} (g : Hd (getM xs i) v) : dIx (.lst (xs.map E)) (.int i) = some (E v) := by rw [← g.eq]; exact atI_get g.ok
theorem o_ixS {xs : List Int} {i v : Int} (g : Hd (getM xs i) v) : dIx (.scr xs) (.int i) = some (.int v) := by
  have q := atI_get (E := D.int) g.ok
  rw [atI_map] at q
  rw [← g.eq]
  exact q
theorem o_cat {α : Type} {E : α → D} {xs ys zs : List α} (g : Hd (catM xs ys) zs) : dCat (.lst (xs.map E)) (.lst (ys.map E)) = some (zs.map E) := by
  rw [← g.eq]
  show (if _ then _ else _) = _
  rw [List.length_map, List.length_map, if_pos (show xs.length + ys.length ≤ sizeLine from g.ok)]
  exact congrArg some (List.map_append).symm
theorem o_rep {α : Type} {E : α → D} {xs zs : List α} {k : Int} (g : Hd (repM xs k) zs) : dRep (.lst (xs.map E)) (.int k) = some (zs.map E) := by
  rw [← g.eq]
  obtain ⟨h1, h2, h3⟩ := g.ok
  show (if _ then _ else _) = _
  rw [List.length_map, if_pos ⟨h1, h2, h3⟩]
  refine congrArg some ?_
  show (List.replicate k.toNat (xs.map E)).flatten = ((List.replicate k.toNat xs).flatten).map E
  rw [List.map_flatten, List.map_replicate]
theorem o_max {xs : List Int} {v : Int} (g : Hd (maxM xs) v) : bMaxL [.lst (xs.map D.int)] = some (.int v) := by
  rw [← g.eq, x_maxL, if_neg g.ok]; rfl
theorem o_min {xs : List Int} {v : Int} (g : Hd (minM xs) v) : bMinL [.lst (xs.map D.int)] = some (.int v) := by
  rw [← g.eq, x_minL, if_neg g.ok]; rfl
theorem o_len {α : Type} {E : α → D} {xs : List α} : bLen [.lst (xs.map E)] = some (.int xs.length) := by
  rw [x_len1, List.length_map]
theorem o_lenS {xs : List Int} : bLen [.scr xs] = some (.int xs.length) := rfl
theorem o_sum {xs : List Int} : bSum [.lst (xs.map D.int)] = some (.int xs.sum) := x_sum
theorem o_all {xs : List Bool} : bAll [.lst (xs.map D.bl)] = some (.bl (xs.all id)) := x_all
theorem o_sortRev {xs : List Int} : bSortRev [.lst (xs.map D.int)] = some ((srt xs).reverse.map D.int) := by
  show (unInts (xs.map D.int)).map _ = _
  rw [unInts_map]
  rfl
theorem o_sorted {xs : List Int} : bSorted [.lst (xs.map D.int)] = some ((srt xs).map D.int) := x_sorted
theorem o_list {α : Type} {E : α → D} {xs : List α} : bList [.lst (xs.map E)] = some (xs.map E) := rfl
theorem o_repr {d : D} {z : Str} (g : Hd (reprM d) z) : bRepr [d] = some (.str z) := by
  obtain ⟨h, rfl⟩ := g
  have h : ((toPy d).bind showS).isSome = true := h
  obtain ⟨b, e⟩ := Option.isSome_iff_exists.mp h
  obtain ⟨p, e1, e2⟩ := Option.bind_eq_some_iff.mp e
  show ((toPy d).bind fun p => (showS p).map D.str) = some (.str (((toPy d).bind showS).getD ""))
  rw [e, e1]
  show (showS p).map D.str = _
  rw [e2]
  rfl
theorem o_eqS {x y : Str} : dEqS (.str x) (.str y) = some (.bl (decide (x = y))) := by
  unfold dEqS
  first | rfl | (by_cases h : x = y <;> simp [h])
theorem o_neS {x y : Str} : dNeS (.str x) (.str y) = some (.bl (!decide (x = y))) := by
  unfold dNeS
  first | rfl | (by_cases h : x = y <;> simp [h])
theorem o_index {xs : List Int} {y v : Int} (g : Hd (indexM xs y) v) : dIndex (.lst (xs.map D.int)) [.int y] = some (.int v) := by
  obtain ⟨h, rfl⟩ := g
  have h : y ∈ xs := h
  show (if _ then _ else _) = _
  have e : ∀ x : Int, eqF (D.int x) (.int y) = (x == y) := fun _ => rfl
  have hf : (xs.map D.int).all flatD = true := by
    rw [List.all_map, List.all_eq_true]
    intro x _
    rfl
  have ha : (xs.map D.int).any (fun x => eqF x (.int y)) = true := by
    rw [List.any_map, List.any_eq_true]
    exact ⟨y, h, by show (y == y) = true; simp⟩
  rw [if_pos (by rw [hf, ha]; rfl), List.findIdx_map]
  rfl
theorem ev_mr {g : D → List D → Option D} {rs : List R} {ds xs : List D} (ha : EV fa env ra e1) (hb : AV f e1 rs e2) (h1 : look e2 ra = some d) (h2 : looks e2 rs = some ds) (h3 : look e1 ra = some (.lst xs)) (h : g d ds = some z) : EV (eMr g fa f) env (.val z) e2 := by
  unfold EV AV eMr at *
  rw [ha]
  simp only [Option.bind_some]
  rw [hb]
  simp only [Option.bind_some]
  rw [h1, h2, h3]
  simp [h]
theorem x_neB {i j : Bool} : dNe (.bl i) (.bl j) = some (.bl (!decide (i = j))) := by
  unfold dNe eqD
  simp only [toPy, Option.bind_some, shaped_bool, Bool.and_self, if_true, Option.map_some, PyData.eqv]
  cases i <;> cases j <;> rfl
def gcdI (a b : Int) : Int := ((Nat.gcd a.natAbs b.natAbs : Nat) : Int)
theorem o_gcd {a b : Int} : bGcd [.int a, .int b] = some (.int (gcdI a b)) := rfl
/-- == of any values -/
def deqM (x y : D) : M Bool := ⟨(eqD x y).isSome = true, (eqD x y).getD false⟩
theorem o_eqD {x y : D} {v : Bool} (g : Hd (deqM x y) v) : dEq x y = some (.bl v) := by
  obtain ⟨h, rfl⟩ := g
  unfold dEq
  have h : (eqD x y).isSome = true := h
  obtain ⟨b, e⟩ := Option.isSome_iff_exists.mp h
  rw [e]
  show some (D.bl b) = some (.bl ((eqD x y).getD false))
  rw [e]
  rfl
theorem o_neD {x y : D} {v : Bool} (g : Hd (deqM x y) v) : dNe x y = some (.bl (!v)) := by
  obtain ⟨h, rfl⟩ := g
  unfold dNe
  have h : (eqD x y).isSome = true := h
  obtain ⟨b, e⟩ := Option.isSome_iff_exists.mp h
  rw [e]
  show some (D.bl (!b)) = some (.bl (!(eqD x y).getD false))
  rw [e]
  rfl
/-- one of several, by its number -/
def sel {α : Type} [Inhabited α] : Nat → List (M α) → M α
  | _, [] => ⟨False, default⟩
  | 0, m :: _ => m
  | k + 1, _ :: ms => sel k ms
theorem sel_nil {α : Type} [Inhabited α] {k : Nat} {d : α} {P : Prop} (h : Hd (sel k []) d) : P := by
  cases k <;> exact h.ok.elim
theorem sel_cons {α : Type} [Inhabited α] {k : Nat} {m : M α} {ms : List (M α)} {d : α} {P : Prop} (h : Hd (sel k (m :: ms)) d) (h1 : k = 0 → Hd m d → P) (h2 : ∀ j, k = j + 1 → Hd (sel j ms) d → P) : P := by
  cases k with
  | zero => exact h1 rfl h
  | succ j => exact h2 j rfl h
instance : Inhabited D := ⟨.non⟩
abbrev eF (ns : List Str) (k : Nat) : D := .fn (ns.getD k "")
/-- a value, however it is held -/
def LV (f : En → Option (R × En)) (env : En) (d : D) (e1 : En) : Prop := ∃ r, f env = some (r, e1) ∧ ∀ e, look e r = some d
theorem lv_env (h : LV fa env d e1) : LV fa env d e1 := h
theorem ev_env {r : R} (h : EV fa env r e1) : EV fa env r e1 := h
theorem lv_of {r : R} (h : EV fa env r e1) (hl : ∀ e, look e r = some d) : LV fa env d e1 := ⟨r, h, hl⟩
theorem ev_opV {g : D → D → Option D} (ha : LV fa env x e1) (hb : LV fb e1 y e2) (h : g x y = some z) : EV (eOp g fa fb) env (.val z) e2 := by
  obtain ⟨ra, h1, h2⟩ := ha
  obtain ⟨rb, h3, h4⟩ := hb
  exact ev_op h1 h3 (h2 _) (h4 _) h
theorem ev_callT {i n : Nat} {tbl : Tbl} {nm : Str} {m : En → Option Res} {rs : List R} {ds : List D} (hi : env[i]? = some (.sh (.fn nm))) (hm : tbl.lookup nm = some m) (ha : AV f env rs e1) (hl : frzs e1 rs = some (ds, e1)) (hn : ds.length = n) (h : ∃ e, m (ds.map .sh) = some (.val z e)) : EV (eCallV i n tbl f) env (.val z) e1 := by
  have q := ev_call ha hl hn h
  unfold EV eCallV at *
  rw [hi]
  simp only [hm, Option.bind_some]
  exact q
theorem ev_callTL {i n : Nat} {tbl : Tbl} {nm : Str} {m : En → Option Res} {rs : List R} {ds zs : List D} (hi : env[i]? = some (.sh (.fn nm))) (hm : tbl.lookup nm = some m) (ha : AV f env rs e1) (hl : frzs e1 rs = some (ds, e1)) (hn : ds.length = n) (h : ∃ e, m (ds.map .sh) = some (.fr zs e)) : EV (eCallV i n tbl f) env (.fr zs) e1 := by
  have q := ev_callL ha hl hn h
  unfold EV eCallV at *
  rw [hi]
  simp only [hm, Option.bind_some]
  exact q
theorem lv_callT {i n : Nat} {tbl : Tbl} {nm : Str} {m : En → Option Res} {rs : List R} {ds : List D} (hi : env[i]? = some (.sh (.fn nm))) (hm : tbl.lookup nm = some m) (ha : AV f env rs e1) (hl : frzs e1 rs = some (ds, e1)) (hn : ds.length = n) (h : ∃ e, m (ds.map .sh) = some (.val z e)) : LV (eCallV i n tbl f) env z e1 := ⟨_, ev_callT hi hm ha hl hn h, fun _ => rfl⟩
theorem lv_callTL {i n : Nat} {tbl : Tbl} {nm : Str} {m : En → Option Res} {rs : List R} {ds zs : List D} (hi : env[i]? = some (.sh (.fn nm))) (hm : tbl.lookup nm = some m) (ha : AV f env rs e1) (hl : frzs e1 rs = some (ds, e1)) (hn : ds.length = n) (h : ∃ e, m (ds.map .sh) = some (.fr zs e)) : LV (eCallV i n tbl f) env (.lst zs) e1 := ⟨_, ev_callTL hi hm ha hl hn h, fun _ => rfl⟩
theorem ev_rev {α : Type} {E : α → D} {xs : List α} (ha : EV fa env ra e1) (hx : look e1 ra = some (.lst (xs.map E))) : EV (eRev fa) env (.fr (xs.reverse.map E)) e1 := by
  unfold EV at *
  rw [x_eRev, ha]
  simp only [Option.bind_some]
  rw [hx]
  simp only [Option.bind_some, x_seq1, Option.map_some]
  rw [List.map_reverse]
def mx2 (i j : Int) : Int := if j > i then j else i
def mn2 (i j : Int) : Int := if j < i then j else i
def absI (i : Int) : Int := if i < 0 then -i else i
theorem o_max2 {i j : Int} : bMax2 [.int i, .int j] = some (.int (mx2 i j)) := rfl
theorem o_min2 {i j : Int} : bMin2 [.int i, .int j] = some (.int (mn2 i j)) := rfl
theorem o_abs {i : Int} : bAbs [.int i] = some (.int (absI i)) := rfl
theorem ev_lr1 {b : Int} {zs : List Int} (h : EV fa env (.val (.int b)) e1) (g : Hd (lrgM 0 b) zs) : EV (eLr1 fa) env (.fr (zs.map D.int)) e1 := by
  obtain ⟨⟨q1, q2, q3, q4, q5⟩, ge⟩ := g
  subst ge
  unfold EV eLr1 at *
  rw [h]
  simp only [Option.bind_some, intOf]
  rw [if_pos ⟨q1, q2, q3, q4, q5⟩, upTo_rg]
  show _ = some (R.fr ((rgI 0 b).map D.int), e1)
  unfold rgI
  rw [Int.sub_zero]
theorem ev_lr2 {a b : Int} {zs : List Int} (h : EV fa env (.val (.int a)) e1) (h' : EV fb e1 (.val (.int b)) e2) (g : Hd (lrgM a b) zs) : EV (eLr2 fa fb) env (.fr (zs.map D.int)) e2 := by
  obtain ⟨⟨q1, q2, q3, q4, q5⟩, ge⟩ := g
  subst ge
  unfold EV eLr2 at *
  rw [h]
  simp only [Option.bind_some]
  rw [h']
  simp only [Option.bind_some, intOf]
  rw [if_pos ⟨q1, q2, q3, q4, q5⟩, upTo_rg]
  rfl
theorem ev_lrD {fc : En → Option (R × En)} {e3 : En} {a b c : Int} {zs : List Int} (h : EV fa env (.val (.int a)) e1) (h' : EV fb e1 (.val (.int b)) e2) (h'' : EV fc e2 (.val (.int c)) e3) (g : Hd (dnLM a b c) zs) : EV (eLrD (aCons fa (aCons fb (aCons fc aNil)))) env (.fr (zs.map D.int)) e3 := by
  obtain ⟨⟨q0, q1⟩, ge⟩ := g
  subst ge
  unfold EV at *
  unfold eLrD
  simp only [x_aD, x_aCons, h, h', h'', Option.bind_some, x_aNil, Option.map_some, x_frzs2, x_frzs1, x_frz1]
  rw [if_pos ⟨q0, q1⟩]
  have e : downTo a (a - b).toNat = (dnI a b).map D.int := by
    unfold downTo dnI
    rw [List.map_map]
    rfl
  rw [e]
  rfl
end

/-! ### slices -/
def cutI {α : Type} (xs : List α) (lo hi : Option Int) : List α := (xs.drop (HT.sIx xs.length 0 lo)).take (HT.sIx xs.length xs.length hi - HT.sIx xs.length 0 lo)
theorem cutD_map {α : Type} {E : α → D} (xs : List α) (lo hi : Option Int) : cutD (xs.map E) lo hi = (cutI xs lo hi).map E := by
  unfold cutD cutI
  rw [List.length_map, List.map_take, List.map_drop]
def PV (f : En → Option (Option Int × En)) (env : En) (x : Option Int) (e1 : En) : Prop := f env = some (x, e1)
theorem pv_no {env : En} : PV oNone env none env := rfl
theorem pv_so {f : En → Option (R × En)} {env e1 : En} {i : Int} (h : EV f env (.val (.int i)) e1) : PV (oSome f) env (some i) e1 := by
  unfold PV oSome
  rw [show f env = _ from h]
  rfl
theorem ev_sl {α : Type} {E : α → D} {xs : List α} {lo hi : Option Int} {fe : En → Option (R × En)} {fl fh : En → Option (Option Int × En)} {env e1 e2 e3 : En} {r : R} (h : EV fe env r e1) (hl : PV fl e1 lo e2) (hh : PV fh e2 hi e3) (hz : look e3 r = some (.lst (xs.map E))) : EV (eSl fe fl fh) env (.fr ((cutI xs lo hi).map E)) e3 := by
  unfold EV PV at *
  unfold eSl
  rw [h]
  simp only [Option.bind_some]
  rw [hl]
  simp only [Option.bind_some]
  rw [hh]
  simp only [Option.bind_some]
  rw [hz]
  simp only [Option.bind_some, seqOf, Option.map_some]
  rw [cutD_map]

/-! ### statements, in the order of what follows -/
section
variable {env e1 e2 e3 : En} {fa fb fc fe fk : En → Option (R × En)} {f : En → Option (List R × En)} {F G : En → Option Out} {t u : En → Option (Bool × En)} {ra rb rc r : R} {x y z d : D} {i j : Nat} {Q : Out → Prop} {b : Bool}
def Go (F : En → Option Out) (env : En) (Q : Out → Prop) : Prop := ∃ o, F env = some o ∧ Q o
def seqQ (G : En → Option Out) (Q : Out → Prop) : Out → Prop
  | .nx e => Go G e Q
  | o => Q o
theorem g_seq (h : Go F env (seqQ G Q)) : Go (sSeq F G) env Q := by
  obtain ⟨o, h1, h2⟩ := h
  cases o with
  | nx e =>
    obtain ⟨o2, h3, h4⟩ := h2
    exact ⟨o2, by rw [x_sSeq, h1]; exact h3, h4⟩
  | rt r e => exact ⟨_, by rw [x_sSeq, h1]; rfl, h2⟩
  | bk e => exact ⟨_, by rw [x_sSeq, h1]; rfl, h2⟩
  | ct e => exact ⟨_, by rw [x_sSeq, h1]; rfl, h2⟩
  | er c e => exact ⟨_, by rw [x_sSeq, h1]; rfl, h2⟩
theorem g_next (h : Q (.nx env)) : Go sNext env Q := ⟨_, rfl, h⟩
theorem g_cont (h : Q (.ct env)) : Go sCont env Q := ⟨_, rfl, h⟩
theorem g_break (h : Q (.bk env)) : Go sBreak env Q := ⟨_, rfl, h⟩
theorem g_frz {xs : List D} (h : env[i]? = some (.ow xs)) (hs : env.set i (.sh (.lst xs)) = e1) (q : Q (.nx e1)) : Go (sFrz i) env Q := ⟨_, by unfold sFrz; rw [h], by rw [hs]; exact q⟩
theorem g_drop (hs : env.set i .un = e1) (q : Q (.nx e1)) : Go (sDrop i) env Q := ⟨_, rfl, by rw [hs]; exact q⟩
theorem g_if (hb : TV t env b e1) (h1 : b = true → Go F e1 Q) (h2 : b = false → Go G e1 Q) : Go (sIf t F G) env Q := by
  cases b with
  | true =>
    obtain ⟨o, g1, g2⟩ := h1 rfl
    exact ⟨o, by rw [x_sIf, hb]; exact g1, g2⟩
  | false =>
    obtain ⟨o, g1, g2⟩ := h2 rfl
    exact ⟨o, by rw [x_sIf, hb]; exact g1, g2⟩
theorem g_set (h : EV fe env r e1) (hs : store i r e1 = some e2) (q : Q (.nx e2)) : Go (sSet i fe) env Q :=
  ⟨.nx e2, by rw [x_sSet, h]; simp [hs], q⟩
theorem g_ret (h : EV fe env r e1) (q : Q (.rt r e1)) : Go (sRet fe) env Q := ⟨_, by rw [x_sRet, h]; rfl, q⟩
theorem g_retN (q : Q (.rt (.val .non) env)) : Go sRetN env Q := ⟨_, rfl, q⟩
theorem g_expr (h : EV fe env r e1) (q : Q (.nx e1)) : Go (sExpr fe) env Q := ⟨_, by rw [x_sExpr, h]; rfl, q⟩
theorem g_aug {g : D → D → Option D} (hi : env[i]? = some (.sh x)) (h : EV fe env r e1) (hy : look e1 r = some y) (hg : g x y = some z) (hs : e1.set i (.sh z) = e2) (q : Q (.nx e2)) : Go (sAug i g fe) env Q :=
  ⟨.nx e2, by rw [x_sAug, hi]; simp only []; rw [h]; simp only [Option.bind_some]; rw [hy]; simp only [Option.bind_some]; rw [hg, ← hs]; rfl, q⟩
theorem g_app {α : Type} {E : α → D} {xs ys : List α} {v : α} {xs0 : List D} (h0 : env[i]? = some (.ow xs0)) (h : EV fe env r e1) (hi : e1[i]? = some (.ow (xs.map E))) (hz : frz e1 r = some (E v, e1)) (g : Hd (appM xs v) ys) (hs : e1.set i (.ow (ys.map E)) = e2) (q : Q (.nx e2)) : Go (sExpr (eAppend i (aCons fe aNil))) env Q := by
  refine ⟨.nx e2, ?_, q⟩
  have hl : xs.length < 1000000 := g.ok
  rw [x_sExpr, x_append]
  simp only [x_own, h0, hi, Option.bind_some, x_aD, x_aCons, h, x_aNil, Option.map_some, x_frzs2, x_frzs1, hz, x_one]
  rw [List.length_map, if_pos hl]
  simp only [Option.map_some]
  rw [← hs, ← g.eq, show (appM xs v).val = xs ++ [v] from rfl, List.map_append]
  rfl
theorem g_ext {α : Type} {E : α → D} {xs ys zs : List α} {xs0 : List D} (h0 : env[i]? = some (.ow xs0)) (h : EV fe env r e1) (hi : e1[i]? = some (.ow (xs.map E))) (hz : frz e1 r = some (.lst (ys.map E), e1)) (g : Hd (extM xs ys) zs) (hs : e1.set i (.ow (zs.map E)) = e2) (q : Q (.nx e2)) : Go (sExpr (eExtend i (aCons fe aNil))) env Q := by
  refine ⟨.nx e2, ?_, q⟩
  have hl : xs.length + ys.length ≤ 1000000 := g.ok
  rw [x_sExpr]
  unfold eExtend
  simp only [x_own, h0, hi, Option.bind_some, x_aD, x_aCons, h, x_aNil, Option.map_some, x_frzs2, x_frzs1, hz, x_one]
  rw [List.length_map, List.length_map, if_pos hl]
  simp only [Option.map_some]
  rw [← hs, ← g.eq, show (extM xs ys).val = xs ++ ys from rfl, List.map_append]
theorem g_put {α : Type} {E : α → D} {xs zs : List α} {v : α} {k : Int} {xs0 : List D} (h : EV fe env r e1) (hz : frz e1 r = some (E v, e1)) (h0 : e1[i]? = some (.ow (xs.map E))) (hk : EV fk e1 (.val (.int k)) e1) (g : Hd (setM xs k v) zs) (hs : e1.set i (.ow (zs.map E)) = e2) (q : Q (.nx e2)) : Go (sPut i fe fk) env Q := by
  refine ⟨.nx e2, ?_, q⟩
  rw [x_sPut]
  simp only [h, Option.bind_some, hz, x_own, h0, hk]
  rw [List.length_map, ixN_of g.ok]
  simp only [Option.map_some]
  rw [← hs, ← g.eq]
  show some (Out.nx (e1.set i (.ow ((xs.map E).set _ (E v))))) = some (Out.nx (e1.set i (.ow ((setI xs k v).map E))))
  unfold setI
  rw [List.map_set]
theorem g_putAug {α : Type} [Inhabited α] {E : α → D} {xs zs : List α} {g : D → D → Option D} {v0 v : α} {k : Int} (hi : env[i]? = some (.ow (xs.map E))) (hk : EV fk env (.val (.int k)) env) (g0 : Hd (getM xs k) v0) (h : EV fe env r env) (hy : look env r = some y) (hw : g (E v0) y = some (E v)) (g1 : Hd (setM xs k v) zs) (hs : env.set i (.ow (zs.map E)) = e2) (q : Q (.nx e2)) : Go (sPutAug i g fk fe) env Q := by
  refine ⟨.nx e2, ?_, q⟩
  have e0 : getI xs k = v0 := g0.eq
  rw [x_sPutAug]
  simp only [x_own, hi, Option.bind_some, hk]
  rw [atI_get g0.ok, e0]
  simp only [Option.bind_some, h, hy, hw, x_own, hi]
  rw [List.length_map, ixN_of g0.ok]
  simp only [Option.map_some]
  rw [← hs, ← g1.eq]
  show some (Out.nx (env.set i (.ow ((xs.map E).set _ (E v))))) = some (Out.nx (env.set i (.ow ((setI xs k v).map E))))
  unfold setI
  rw [List.map_set]
theorem g_asg {h' : D → En → Option En} (h : EV fe env r e1) (hz : frz e1 r = some (d, e1)) (ht : h' d e1 = some e2) (q : Q (.nx e2)) : Go (sAsg fe h') env Q :=
  ⟨.nx e2, by rw [x_sAsg, h]; simp [hz, ht], q⟩
theorem g_par {r1 r2 : R} (h : AV f env [r1, r2] e1) (hs : sPar i j (fun e => some ([r1, r2], e)) e1 = some (.nx e2)) (q : Q (.nx e2)) : Go (sPar i j f) env Q :=
  ⟨_, by rw [← hs]; unfold sPar; rw [h], q⟩
theorem g_par3 {l : Nat} {r1 r2 r3 : R} (h : AV f env [r1, r2, r3] e1) (hs : sPar3 i j l (fun e => some ([r1, r2, r3], e)) e1 = some (.nx e2)) (q : Q (.nx e2)) : Go (sPar3 i j l f) env Q :=
  ⟨_, by rw [← hs]; unfold sPar3; rw [h], q⟩
theorem g_tgt {h' : D → En → Option En} (ht : h' d env = some e1) (q : Go F e1 Q) : Go (fun e => (h' d e).bind F) env Q := by
  obtain ⟨o, g1, g2⟩ := q
  exact ⟨o, by show (h' d env).bind F = _; rw [ht]; exact g1, g2⟩
def NQ {σ J : Type} (shape : σ → J → En) (r : σ) (o : Out) : Prop := ∃ j, o = .nx (shape r j) ∨ o = .ct (shape r j)
theorem nq_nx {σ J : Type} {shape : σ → J → En} {r : σ} {e : En} (j : J) (h : e = shape r j) : NQ shape r (.nx e) := ⟨j, .inl (by rw [h])⟩
theorem nq_ct {σ J : Type} {shape : σ → J → En} {r : σ} {e : En} (j : J) (h : e = shape r j) : NQ shape r (.ct e) := ⟨j, .inr (by rw [h])⟩
def JQ {σ J : Type} (shape : σ → J → En) (r : σ) (o : Out) : Prop := ∃ j, o = .nx (shape r j)
theorem jq_nx {σ J : Type} {shape : σ → J → En} {r : σ} {e : En} (j : J) (h : e = shape r j) : JQ shape r (.nx e) := ⟨j, by rw [h]⟩
/-- a loop without ways out -/
theorem g_for {α σ J : Type} {fi : En → Option (List D × En)} {tgt : D → En → Option En} {body : En → Option Out} {E : α → D} (shape : σ → J → En) {xs : List α} {s0 w : σ} (j0 : J) {st : σ → α → M σ}
    (h : Hd (forM st s0 xs) w) (hi : fi env = some (xs.map E, e1)) (h0 : e1 = shape s0 j0)
    (hst : ∀ s x j r, Hd (st s x) r → Go (fun e => (tgt (E x) e).bind body) (shape s j) (NQ shape r))
    (hk : ∀ j, Q (.nx (shape w j))) : Go (sFor fi tgt body) env Q := by
  have go : ∀ (xs : List α) (s : σ) (j : J) (r : σ), Hd (forM st s xs) r → ∃ j', loopS tgt body (xs.map E) (shape s j) = some (.nx (shape r j')) := by
    intro xs
    induction xs with
    | nil =>
      intro s j r h
      have e : s = r := h.eq
      subst e
      exact ⟨j, rfl⟩
    | cons x xs ih =>
      intro s j r h
      have h : Hd (bd (st s x) fun s' => forM st s' xs) r := h
      obtain ⟨o, g1, j1, g2⟩ := hst s x j _ (hb0 h)
      obtain ⟨j2, g3⟩ := ih _ j1 _ (hb2 h)
      refine ⟨j2, ?_⟩
      have g1 : (tgt (E x) (shape s j)).bind body = some o := g1
      obtain ⟨e1, g4, g5⟩ := Option.bind_eq_some_iff.mp g1
      show (tgt (E x) (shape s j)).bind _ = _
      rw [g4]
      show (body e1).bind _ = _
      rw [g5]
      rcases g2 with rfl | rfl
      · exact g3
      · exact g3
  obtain ⟨j1, g⟩ := go xs s0 j0 _ h
  refine ⟨.nx (shape _ j1), ?_, hk j1⟩
  rw [x_sFor, hi]
  show loopS tgt body (xs.map E) e1 = _
  rw [← h0] at g
  exact g
/-- .. with ways out -/
def LQ {ρ σ J : Type} (shape : σ → J → En) (Qr : ρ → Out → Prop) (o : Out) : Fl ρ σ → Prop
  | .go s => ∃ j, o = .nx (shape s j) ∨ o = .ct (shape s j)
  | .brk s => ∃ j, o = .bk (shape s j)
  | .out v => Qr v o ∧ ∃ r e, o = .rt r e
theorem lq_nx {ρ σ J : Type} {shape : σ → J → En} {Qr : ρ → Out → Prop} {r : σ} {e : En} (j : J) (h : e = shape r j) : LQ shape Qr (.nx e) (.go r) := ⟨j, .inl (by rw [h])⟩
theorem lq_ct {ρ σ J : Type} {shape : σ → J → En} {Qr : ρ → Out → Prop} {r : σ} {e : En} (j : J) (h : e = shape r j) : LQ shape Qr (.ct e) (.go r) := ⟨j, .inr (by rw [h])⟩
theorem lq_bk {ρ σ J : Type} {shape : σ → J → En} {Qr : ρ → Out → Prop} {r : σ} {e : En} (j : J) (h : e = shape r j) : LQ shape Qr (.bk e) (.brk r) := ⟨j, by rw [h]⟩
theorem lq_rt {ρ σ J : Type} {shape : σ → J → En} {Qr : ρ → Out → Prop} {v : ρ} {r : R} {e : En} (q : Qr v (.rt r e)) : LQ shape Qr (.rt r e) (.out v) := ⟨q, r, e, rfl⟩
theorem lq_out {ρ σ J : Type} {shape : σ → J → En} {Qr : ρ → Out → Prop} {v : ρ} {o : Out} (q : Qr v o) (i : ∃ r e, o = .rt r e) : LQ shape Qr o (.out v) := ⟨q, i⟩
theorem g_forX {α σ J ρ : Type} {fi : En → Option (List D × En)} {tgt : D → En → Option En} {body : En → Option Out} {E : α → D} (shape : σ → J → En) {xs : List α} {s0 : σ} (j0 : J) {st : σ → α → M (Fl ρ σ)} {w : Fl ρ σ} (Qr : ρ → Out → Prop)
    (h : Hd (forX st s0 xs) w) (hi : fi env = some (xs.map E, e1)) (h0 : e1 = shape s0 j0)
    (hst : ∀ s x j r, Hd (st s x) r → Go (fun e => (tgt (E x) e).bind body) (shape s j) (fun o => LQ shape Qr o r))
    (hk : ∀ s j, w = .go s → Q (.nx (shape s j))) (hr : ∀ v o, w = .out v → Qr v o → (∃ r e, o = .rt r e) → Q o) : Go (sFor fi tgt body) env Q := by
  have go : ∀ (xs : List α) (s : σ) (j : J) (r : Fl ρ σ), Hd (forX st s xs) r → ∃ o, loopS tgt body (xs.map E) (shape s j) = some o ∧ match r with
      | .go s' => ∃ j', o = .nx (shape s' j')
      | .brk s' => False
      | .out v => Qr v o ∧ ∃ r e, o = .rt r e := by
    intro xs
    induction xs with
    | nil =>
      intro s j r h
      have e : Fl.go s = r := h.eq
      subst e
      exact ⟨_, rfl, j, rfl⟩
    | cons x xs ih =>
      intro s j r h
      have h : Hd (bd (st s x) _) r := h
      obtain ⟨o, g1, g2⟩ := hst s x j _ (hb0 h)
      have h2 := hb2 h
      have g1 : (tgt (E x) (shape s j)).bind body = some o := g1
      obtain ⟨e1, g4, g5⟩ := Option.bind_eq_some_iff.mp g1
      have un : ∀ o', (match o with
        | .nx e2 => loopS tgt body (xs.map E) e2
        | .ct e2 => loopS tgt body (xs.map E) e2
        | .bk e2 => some (.nx e2)
        | o => some o) = some o' → loopS tgt body ((x :: xs).map E) (shape s j) = some o' := fun o' q => by
        show (tgt (E x) (shape s j)).bind _ = _
        rw [g4]
        show (body e1).bind _ = _
        rw [g5]
        exact q
      revert g2 h2
      generalize (st s x).val = fl
      intro g2 h2
      cases fl with
      | go s' =>
        obtain ⟨j', g2⟩ := g2
        obtain ⟨o2, g6, g7⟩ := ih s' j' r h2
        refine ⟨o2, un o2 ?_, g7⟩
        rcases g2 with rfl | rfl
        · exact g6
        · exact g6
      | brk s' =>
        obtain ⟨j', rfl⟩ := g2
        have e : Fl.go s' = r := h2.eq
        subst e
        exact ⟨_, un _ rfl, j', rfl⟩
      | out v =>
        obtain ⟨g2, r', e', rfl⟩ := g2
        have e : Fl.out v = r := h2.eq
        subst e
        exact ⟨_, un _ rfl, g2, r', e', rfl⟩
  obtain ⟨o, g, q⟩ := go xs s0 j0 _ h
  rw [← h0] at g
  refine ⟨o, by rw [x_sFor, hi]; exact g, ?_⟩
  cases w with
  | go s =>
    obtain ⟨j', rfl⟩ := q
    exact hk s j' rfl
  | brk s => exact q.elim
  | out v => exact hr v o rfl q.1 q.2
theorem g_while {σ J : Type} {fuel : Nat} {t : En → Option (Bool × En)} {body : En → Option Out} (shape : σ → J → En) {s0 w : σ} (j0 : J) {tm : σ → M Bool} {st : σ → M σ}
    (h : Hd (whileM tm st fuel s0) w) (h0 : env = shape s0 j0)
    (ht : ∀ s j r, Hd (tm s) r → TV t (shape s j) r (shape s j))
    (hst : ∀ s j r, Hd (st s) r → Go body (shape s j) (NQ shape r))
    (hk : ∀ j, Q (.nx (shape w j))) : Go (sWhile fuel t body) env Q := by
  have go : ∀ (n : Nat) (s : σ) (j : J) (r : σ), Hd (whileM tm st n s) r → ∃ j', loopW t body n (shape s j) = some (.nx (shape r j')) := by
    intro n
    induction n with
    | zero => intro s j r h; exact h.ok.elim
    | succ n ih =>
      intro s j r h
      have h : Hd (bd (tm s) _) r := h
      have g := ht s j _ (hb0 h)
      have h2 := hb2 h
      revert g h2
      generalize (tm s).val = bb
      intro g h2
      cases bb with
      | false =>
        have e : s = r := h2.eq
        subst e
        exact ⟨j, by unfold loopW; rw [g]; rfl⟩
      | true =>
        have h2 : Hd (bd (st s) _) r := h2
        obtain ⟨o, g1, j1, g2⟩ := hst s j _ (hb0 h2)
        obtain ⟨j2, g3⟩ := ih _ j1 _ (hb2 h2)
        refine ⟨j2, ?_⟩
        unfold loopW
        rw [g]
        show (body _).bind _ = _
        rw [g1]
        rcases g2 with rfl | rfl
        · exact g3
        · exact g3
  obtain ⟨j1, g⟩ := go fuel s0 j0 _ h
  refine ⟨.nx (shape _ j1), ?_, hk j1⟩
  rw [← h0] at g
  exact g
/-- both branches go on -/
theorem g_ifj {σ J : Type} (shape : σ → J → En) {mA mB : M σ} {w : σ} (h : Hd (cnd b mA mB) w) (hb : TV t env b e1)
    (h1 : ∀ s, Hd mA s → Go F e1 (JQ shape s)) (h2 : ∀ s, Hd mB s → Go G e1 (JQ shape s))
    (hk : ∀ j, Q (.nx (shape w j))) : Go (sIf t F G) env Q := by
  refine g_if hb (fun e => ?_) (fun e => ?_)
  · obtain ⟨o, g1, j, rfl⟩ := h1 _ (cnd_t h e)
    exact ⟨_, g1, hk j⟩
  · obtain ⟨o, g1, j, rfl⟩ := h2 _ (cnd_f h e)
    exact ⟨_, g1, hk j⟩

/-! ### comprehensions -/
/-- elements with what must hold -/
theorem ev_lcM {α β : Type} {vs : List Nat} {fi : En → Option (List D × En)} {tgt : D → En → Option En} {test : En → Option (Bool × En)} {elt : En → Option (R × En)} {E : α → D} {E' : β → D} {xs : List α} {p : α → M Bool} {g : α → M β} {ys : List β} (e0 : En)
    (h : Hd (filM p g xs) ys) (hi : fi env = some (xs.map E, e2)) (hl : xs.length < 1000000) (hp : plainAt e2 vs = true) (hw : wipeE e2 vs = e0) (hbk : back e2 e0 vs = e2)
    (hs : ∀ x, x ∈ xs → ∃ e1, tgt (E x) e0 = some e1 ∧ (∀ b, Hd (p x) b → TV test e1 b e1) ∧ (∀ v, Hd (g x) v → ∃ r, EV elt e1 r e1 ∧ frz e1 r = some (E' v, e1)) ∧ wipeE e1 vs = e0) : EV (eLc vs fi tgt test elt) env (.fr (ys.map E')) e2 := by
  have hok : ∀ x ∈ xs, (p x).ok ∧ ((p x).val = true → (g x).ok) := h.ok
  have q := lc_pure (vs := vs) (tgt := tgt) (test := test) (elt := elt) E (fun x => if (p x).val = true then some (E' (g x).val) else none) xs e0 (fun x hx => by
    obtain ⟨e1, h1, h2, h3, h4⟩ := hs x hx
    obtain ⟨k1, k2⟩ := hok x hx
    have h2 := h2 _ (hd_of k1)
    unfold turn
    rw [h1]
    simp only [Option.bind_some]
    rw [h2]
    simp only [Option.bind_some]
    cases hp : (p x).val with
    | true =>
      obtain ⟨r, h5, h6⟩ := h3 _ (hd_of (k2 hp))
      simp [h5, h6, h4]
    | false => simp [h4])
  have e : xs.filterMap (fun x => if (p x).val = true then some (E' (g x).val) else none) = ys.map E' := by
    rw [← h.eq]
    show _ = ((xs.filter fun x => (p x).val).map fun x => (g x).val).map E'
    clear q hs hl hi hok h
    induction xs with
    | nil => rfl
    | cons x xs ih =>
      cases hp : (p x).val with
      | true => simp [hp, ih]
      | false => simp [hp, ih]
  unfold EV eLc
  rw [hi]
  simp only [Option.bind_some]
  rw [List.length_map, if_pos ⟨hl, hp⟩, hw, q, e]
  simp [hbk]
theorem ev_lcm {α β : Type} {vs : List Nat} {fi : En → Option (List D × En)} {tgt : D → En → Option En} {elt : En → Option (R × En)} {E : α → D} {E' : β → D} {xs : List α} {g : α → M β} {ys : List β} (e0 : En)
    (h : Hd (mapM g xs) ys) (hi : fi env = some (xs.map E, e2)) (hl : xs.length < 1000000) (hp : plainAt e2 vs = true) (hw : wipeE e2 vs = e0) (hbk : back e2 e0 vs = e2)
    (hs : ∀ x, x ∈ xs → ∃ e1, tgt (E x) e0 = some e1 ∧ (∀ v, Hd (g x) v → ∃ r, EV elt e1 r e1 ∧ frz e1 r = some (E' v, e1)) ∧ wipeE e1 vs = e0) : EV (eLc vs fi tgt bYes elt) env (.fr (ys.map E')) e2 := by
  refine ev_lcM (p := fun _ => pr true) (g := g) e0 ⟨fun x hx => ⟨trivial, fun _ => h.ok x hx⟩, ?_⟩ hi hl hp hw hbk (fun x hx => ?_)
  · rw [← h.eq]
    show (xs.filter fun _ => true).map _ = _
    rw [show (xs.filter fun _ => true) = xs by simp]
    rfl
  · obtain ⟨e1, h1, h2, h3⟩ := hs x hx
    exact ⟨e1, h1, fun b hb => by rw [← hb.eq]; rfl, h2, h3⟩
theorem hd_map {α β : Type} {g : α → β} {xs : List α} : Hd (mapM (fun x => pr (g x)) xs) (xs.map g) := ⟨fun _ _ => trivial, rfl⟩
theorem hd_fil {α β : Type} {p : α → Bool} {g : α → β} {xs : List α} : Hd (filM (fun x => pr (p x)) (fun x => pr (g x)) xs) ((xs.filter p).map g) := ⟨fun _ _ => ⟨trivial, fun _ => trivial⟩, rfl⟩
/-- elements that change own lists -/
theorem ev_lcS {α β σ : Type} {vs : List Nat} {fi : En → Option (List D × En)} {tgt : D → En → Option En} {elt : En → Option (R × En)} {E : α → D} {E' : β → D} {xs : List α} {st : σ → α → M (β × σ)} {s0 : σ} {z : List β × σ} (shape : σ → En)
    (h : Hd (lcS st s0 xs) z) (hi : fi env = some (xs.map E, e2)) (hl : xs.length < 1000000) (hp : plainAt e2 vs = true) (hw : wipeE e2 vs = shape s0)
    (hs : ∀ s x w, Hd (st s x) w → ∃ e1 r e2 e3, tgt (E x) (shape s) = some e1 ∧ EV elt e1 r e2 ∧ frz e2 r = some (E' w.1, e3) ∧ wipeE e3 vs = shape w.2) (hbk : back e2 (shape z.2) vs = e1) : EV (eLc vs fi tgt bYes elt) env (.fr (z.1.map E')) e1 := by
  have go : ∀ (xs : List α) (s : σ) (acc : List D) (z : List β × σ), Hd (lcS st s xs) z → lcF vs tgt bYes elt (xs.map E) (shape s) acc = some (acc ++ z.1.map E', shape z.2) := by
    intro xs
    induction xs with
    | nil =>
      intro s acc z h
      have e : (([] : List β), s) = z := h.eq
      subst e
      show some (acc, shape s) = _
      simp
    | cons x xs ih =>
      intro s acc z h
      have h : Hd (bd (st s x) fun a => bd (lcS st a.2 xs) fun c => pr (a.1 :: c.1, c.2)) z := h
      obtain ⟨e1, r, e2, e3, g1, g2, g3, g4⟩ := hs s x _ (hb0 h)
      have h2 := hb2 h
      have i := ih _ (acc ++ [E' (st s x).val.1]) _ (hb0 h2)
      have h3 : ((st s x).val.1 :: (lcS st (st s x).val.2 xs).val.1, (lcS st (st s x).val.2 xs).val.2) = z := (hb2 h2).eq
      subst h3
      show (tgt (E x) (shape s)).bind _ = _
      rw [g1]
      show (elt e1).bind _ = _
      rw [g2]
      show (frz e2 r).bind _ = _
      rw [g3]
      show lcF vs tgt bYes elt (xs.map E) (wipeE e3 vs) _ = _
      rw [g4]
      show lcF vs tgt bYes elt (xs.map E) _ (acc ++ [E' (st s x).val.1]) = _
      rw [i]
      simp
  unfold EV eLc
  rw [hi]
  simp only [Option.bind_some]
  rw [List.length_map, if_pos ⟨hl, hp⟩, hw, go xs s0 [] z h]
  simp [hbk]
theorem i_seq {α : Type} {E : α → D} {xs : List α} (h : EV fe env r e1) (hz : frz e1 r = some (.lst (xs.map E), e1)) : iSeq fe env = some (xs.map E, e1) := by
  rw [x_iSeq, h]
  simp only [Option.bind_some]
  rw [hz]
  rfl
theorem i_seqS {xs : List Int} (h : EV fe env (.val (.scr xs)) e1) : iSeq fe env = some (xs.map D.int, e1) := by
  rw [x_iSeq, h]
  rfl
theorem i_tup {α : Type} {E : α → D} {xs : List α} {ds : List D} (h : EV fe env (.val (.tup ds)) e1) (e : ds = xs.map E) : iTupF fe env = some (xs.map E, e1) := by
  rw [x_iTupF, h, e]
  rfl
theorem i_r1 {b : Int} {zs : List Int} (h : EV fe env (.val (.int b)) e1) (g : Hd (rgM 0 b) zs) : iR1 (aCons fe aNil) env = some (zs.map D.int, e1) := by
  obtain ⟨⟨q1, q2, q3, q4⟩, ge⟩ := g
  subst ge
  rw [x_iR1]
  simp only [x_aD, x_aCons, h, Option.bind_some, x_aNil, Option.map_some, x_frzs2, x_frzs1, x_frz1]
  rw [if_pos ⟨q3, q4⟩, upTo_rg]
  show _ = some ((rgI 0 b).map D.int, e1)
  unfold rgI
  rw [Int.sub_zero]
theorem i_r2 {a b : Int} {zs : List Int} (h : EV fa env (.val (.int a)) e1) (h' : EV fb e1 (.val (.int b)) e2) (g : Hd (rgM a b) zs) : iR2 (aCons fa (aCons fb aNil)) env = some (zs.map D.int, e2) := by
  rw [x_iR2]
  simp only [x_aD, x_aCons, h, h', Option.bind_some, x_aNil, Option.map_some, x_frzs2, x_frzs1, x_frz1]
  obtain ⟨⟨q1, q2, q3, q4⟩, ge⟩ := g
  subst ge
  rw [if_pos ⟨q1, q2, q3, q4⟩, upTo_rg]
  rfl
theorem i_r3 {a b c : Int} {zs : List Int} (h : EV fa env (.val (.int a)) e1) (h' : EV fb e1 (.val (.int b)) e2) (h'' : EV fc e2 (.val (.int c)) e3) (g : Hd (dnM a b c) zs) : iR3 (aCons fa (aCons fb (aCons fc aNil))) env = some (zs.map D.int, e3) := by
  obtain ⟨⟨q0, q1, q2, q3, q4⟩, ge⟩ := g
  subst ge
  unfold iR3
  simp only [x_aD, x_aCons, h, h', h'', Option.bind_some, x_aNil, Option.map_some, x_frzs2, x_frzs1, x_frz1]
  rw [if_pos ⟨q0, q1, q2, q3, q4⟩]
  have e : downTo a (a - b).toNat = (dnI a b).map D.int := by
    unfold downTo dnI
    rw [List.map_map]
    rfl
  rw [e]
  rfl
def enumL {α : Type} (xs : List α) : List (Int × α) := (xs.zipIdx 0).map fun p => ((p.2 : Int), p.1)
theorem enumD_map {α : Type} {E : α → D} : ∀ (k : Nat) (xs : List α), enumD k (xs.map E) = ((xs.zipIdx k).map fun p => ((p.2 : Int), p.1)).map fun q : Int × α => .tup [.int q.1, E q.2]
  | _, [] => rfl
  | k, x :: xs => by
    show _ :: enumD (k + 1) (xs.map E) = _
    rw [enumD_map (k + 1) xs]
    rfl
theorem i_enum {α : Type} {E : α → D} {xs : List α} (h : EV fe env r e1) (hz : frz e1 r = some (.lst (xs.map E), e1)) : iEnumF (aCons fe aNil) env = some ((enumL xs).map (fun q : Int × α => .tup [.int q.1, E q.2]), e1) := by
  rw [x_iEnumF]
  simp only [x_aD, x_aCons, h, Option.bind_some, x_aNil, Option.map_some, x_frzs2, x_frzs1, hz, x_seq1]
  rw [enumD_map]
  rfl
theorem zipD_map {α β : Type} {E : α → D} {E' : β → D} : ∀ (xs : List α) (ys : List β), zipD (xs.map E) (ys.map E') = (xs.zip ys).map fun q : α × β => .tup [E q.1, E' q.2]
  | [], ys => by simp [zipD]
  | x :: xs, [] => by simp [zipD]
  | x :: xs, y :: ys => by
    show _ :: zipD (xs.map E) (ys.map E') = _
    rw [zipD_map xs ys]
    rfl
theorem i_zip {α β : Type} {E : α → D} {E' : β → D} {xs : List α} {ys : List β} (h : EV fa env ra e1) (h' : EV fb e1 rb e1) (hz : frz e1 ra = some (.lst (xs.map E), e1)) (hz' : frz e1 rb = some (.lst (ys.map E'), e1)) : iZipF (aCons fa (aCons fb aNil)) env = some ((xs.zip ys).map (fun q : α × β => .tup [E q.1, E' q.2]), e1) := by
  rw [x_iZipF]
  simp only [x_aD, x_aCons, h, h', Option.bind_some, x_aNil, Option.map_some, x_frzs2, x_frzs1, hz, hz', x_seq1]
  rw [zipD_map]
abbrev eL {α : Type} (E : α → D) (xs : List α) : D := .lst (xs.map E)
abbrev eT2 {α β : Type} (E : α → D) (E' : β → D) (p : α × β) : D := .tup [E p.1, E' p.2]
abbrev eT3 {α β γ : Type} (E : α → D) (E' : β → D) (E'' : γ → D) (p : α × β × γ) : D := .tup [E p.1, E' p.2.1, E'' p.2.2]
theorem o_sortP {ps : List (Int × Int)} : bSortP [.lst (ps.map (eT2 D.int D.int))] = some ((srtP ps).map (eT2 D.int D.int)) := by
  show (unPairs (ps.map pairD)).map _ = _
  rw [unPairs_map]
  rfl
def eO {α : Type} (E : α → D) : Option α → D
  | none => .non
  | some a => E a

def dmM (i j : Int) : M (Int × Int) := ⟨CDivP i j, (i / j, i % j)⟩
theorem o_divmod {i j : Int} {v : Int × Int} (g : Hd (dmM i j) v) : bDivmod [.int i, .int j] = some (eT2 D.int D.int v) := by
  obtain ⟨h, rfl⟩ := g
  have h : CDivP i j := h
  show (if CDivP i j then some (D.tup [.int (i / j), .int (i % j)]) else none) = _
  rw [if_pos h]
  rfl
def lenSetM (xs : List Int) : M Int := ⟨xs.Nodup ∧ xs.length ≤ 4000, xs.length⟩
theorem ev_lenSet {f : En → Option (R × En)} {env e1 : En} {r : R} {xs : List Int} {v : Int} (h : EV f env r e1) (hz : look e1 r = some (.lst (xs.map D.int))) (g : Hd (lenSetM xs) v) : EV (eLenSet f) env (.val (.int v)) e1 := by
  obtain ⟨g, rfl⟩ := g
  have g : xs.Nodup ∧ xs.length ≤ 4000 := g
  unfold EV at *
  unfold eLenSet
  rw [h]
  simp only [Option.bind_some]
  rw [hz]
  show ((unInts (xs.map D.int)).bind fun ns => if ns.Nodup ∧ ns.length ≤ 4000 then some (R.val (.int ns.length), e1) else none) = _
  rw [unInts_map]
  show (if xs.Nodup ∧ xs.length ≤ 4000 then some (R.val (.int xs.length), e1) else none) = _
  rw [if_pos g]
  rfl
/-- in, not in of any values -/
def inDM (x y : D) : M Bool := ⟨(inD x y).isSome = true, (inD x y).getD false⟩
theorem inDM_eq {x y : D} {v : Bool} (g : Hd (inDM x y) v) : inD x y = some v := by
  obtain ⟨h, rfl⟩ := g
  have h : (inD x y).isSome = true := h
  obtain ⟨b, e⟩ := Option.isSome_iff_exists.mp h
  show _ = some ((inD x y).getD false)
  rw [e]
  rfl
theorem o_inD {x y : D} {v : Bool} (g : Hd (inDM x y) v) : dInD x y = some (.bl v) := by
  unfold dInD
  rw [inDM_eq g]
  rfl
theorem o_niD {x y : D} {v : Bool} (g : Hd (inDM x y) v) : dNotInD x y = some (.bl (!v)) := by
  unfold dNotInD
  rw [inDM_eq g]
  rfl
/-! ### what may be None; in, not in -/
def optM {α : Type} [Inhabited α] (x : Option α) : M α := ⟨x.isSome = true, x.getD default⟩
theorem ev_opt {f : En → Option (R × En)} {env e1 : En} {x : Option Int} {v : Int} (h : EV f env (.val (eO D.int x)) e1) (g : Hd (optM x) v) : EV f env (.val (D.int v)) e1 := by
  obtain ⟨g1, g2⟩ := g
  cases x with
  | none => cases g1
  | some a => cases g2; exact h
theorem o_eqO {x : Option Int} {i : Int} : dEq (eO D.int x) (.int i) = some (.bl (decide (x = some i))) := by
  cases x with
  | none =>
    have hs : SeqAt.shaped .none = true := by
      unfold SeqAt.shaped
      simp [PyData.canLay0, PyData.depth]
    show dEq .non (.int i) = _
    unfold dEq eqD
    simp [toPy, shaped_int, hs, PyData.eqv]
  | some a =>
    show dEq (.int a) (.int i) = _
    rw [x_eqI]
    by_cases h : a = i <;> simp [h]
theorem o_neO {x : Option Int} {i : Int} : dNe (eO D.int x) (.int i) = some (.bl (!decide (x = some i))) := by
  have h := o_eqO (x := x) (i := i)
  unfold dEq at h
  unfold dNe
  obtain ⟨b, h1, h2⟩ := Option.map_eq_some_iff.mp h
  rw [h1]
  cases h2
  rfl
theorem o_isN {x : Option Int} : dIsN (eO D.int x) .non = some (.bl x.isNone) := by cases x <;> rfl
theorem o_notN {x : Option Int} : dNotN (eO D.int x) .non = some (.bl x.isSome) := by cases x <;> rfl
theorem dIn_lst {neg : Bool} {d : D} {xs : List D} (hd : flatD d = true) (hx : xs.all flatD = true) : dIn neg d (.lst xs) = some (.bl (if neg then !xs.any (fun y => eqF y d) else xs.any fun y => eqF y d)) := by
  show (if (flatD d && xs.all flatD) = true then _ else _) = _
  rw [hd, hx]
  rfl
theorem flat_intsT (xs : List Int) : (xs.map D.int).all flatD = true := by
  rw [List.all_map, List.all_eq_true]
  exact fun _ _ => rfl
theorem any_ints (xs : List Int) (i : Int) : (xs.map D.int).any (fun y => eqF y (.int i)) = decide (i ∈ xs) := by
  rw [List.any_map, Bool.eq_iff_iff, List.any_eq_true, decide_eq_true_eq]
  constructor
  · rintro ⟨x, hx, e⟩
    have e : (x == i) = true := e
    rw [beq_iff_eq] at e
    exact e ▸ hx
  · intro h
    exact ⟨i, h, beq_self_eq_true i⟩
theorem o_inI {i : Int} {xs : List Int} : dIn false (.int i) (.lst (xs.map D.int)) = some (.bl (decide (i ∈ xs))) := by
  rw [dIn_lst rfl (flat_intsT xs), any_ints]
  rfl
theorem o_niI {i : Int} {xs : List Int} : dIn true (.int i) (.lst (xs.map D.int)) = some (.bl (!decide (i ∈ xs))) := by
  rw [dIn_lst rfl (flat_intsT xs), any_ints]
  rfl
theorem flat_opts (xs : List (Option Int)) : (xs.map (eO D.int)).all flatD = true := by
  rw [List.all_map, List.all_eq_true]
  intro x _
  cases x <;> rfl
theorem any_opts (xs : List (Option Int)) (i : Int) : (xs.map (eO D.int)).any (fun y => eqF y (.int i)) = decide (some i ∈ xs) := by
  rw [List.any_map, Bool.eq_iff_iff, List.any_eq_true, decide_eq_true_eq]
  constructor
  · rintro ⟨x, hx, e⟩
    cases x with
    | none => cases e
    | some a =>
      have e : (a == i) = true := e
      rw [beq_iff_eq] at e
      exact e ▸ hx
  · intro h
    exact ⟨some i, h, beq_self_eq_true i⟩
theorem o_inO {i : Int} {xs : List (Option Int)} : dIn false (.int i) (.lst (xs.map (eO D.int))) = some (.bl (decide (some i ∈ xs))) := by
  rw [dIn_lst rfl (flat_opts xs), any_opts]
  rfl
theorem o_niO {i : Int} {xs : List (Option Int)} : dIn true (.int i) (.lst (xs.map (eO D.int))) = some (.bl (!decide (some i ∈ xs))) := by
  rw [dIn_lst rfl (flat_opts xs), any_opts]
  rfl

/-! ### defs -/
def OV {α : Type} (E : α → D) (r : α) (o : Out) : Prop := (∃ e, o = .rt (.val (E r)) e) ∨ (∃ i e, o = .rt (.al i) e ∧ e[i]? = some (.sh (E r))) ∨ (∃ e, o = .nx e ∧ E r = .non)
theorem m_val {α : Type} {E : α → D} {a : α} {fix : List Nat} {n k : Nat} {F : En → Option Out} {env : En} (hn : env.length = n) (h : Go F (env ++ List.replicate k .un) (OV E a)) : ∃ e, bodyM fix n k F env = some (.val (E a) e) := by
  obtain ⟨o, h1, h2⟩ := h
  unfold bodyM
  rw [if_pos hn, h1]
  rcases h2 with ⟨e, rfl⟩ | ⟨i, e, rfl, h3⟩ | ⟨e, rfl, h3⟩
  · exact ⟨_, rfl⟩
  · simp only [Option.bind_some, h3]
    exact ⟨_, rfl⟩
  · rw [h3]
    exact ⟨_, rfl⟩
theorem ov_val {α : Type} {E : α → D} {a : α} {e : En} : OV E a (.rt (.val (E a)) e) := .inl ⟨e, rfl⟩
theorem ov_al {α : Type} {E : α → D} {a : α} {e : En} {i : Nat} (h : e[i]? = some (.sh (E a))) : OV E a (.rt (.al i) e) := .inr (.inl ⟨i, e, rfl, h⟩)
theorem ov_nx {a : Unit} {e : En} : OV (fun _ : Unit => D.non) a (.nx e) := .inr (.inr ⟨e, rfl, rfl⟩)
def OF {α : Type} (n : Nat) (E : α → D) (r : List α) (o : Out) : Prop := (∃ e, o = .rt (.fr (r.map E)) e) ∨ ∃ i e, o = .rt (.al i) e ∧ e[i]? = some (.ow (r.map E)) ∧ n ≤ i
theorem of_fr {α : Type} {n : Nat} {E : α → D} {a : List α} {e : En} : OF n E a (.rt (.fr (a.map E)) e) := .inl ⟨e, rfl⟩
theorem of_al {α : Type} {n : Nat} {E : α → D} {a : List α} {e : En} {i : Nat} (h : e[i]? = some (.ow (a.map E))) (hn : n ≤ i) : OF n E a (.rt (.al i) e) := .inr ⟨i, e, rfl, h, hn⟩
theorem m_fr {α : Type} {E : α → D} {a : List α} {fix : List Nat} {n k : Nat} {F : En → Option Out} {env : En} (hn : env.length = n) (h : Go F (env ++ List.replicate k .un) (OF n E a)) : ∃ e, bodyM fix n k F env = some (.fr (a.map E) e) := by
  obtain ⟨o, h1, h2⟩ := h
  unfold bodyM
  rw [if_pos hn, h1]
  rcases h2 with ⟨e, rfl⟩ | ⟨i, e, rfl, h3, h4⟩
  · exact ⟨_, rfl⟩
  · simp only [Option.bind_some, h3, if_pos h4]
    exact ⟨_, rfl⟩
def OVo {α β : Type} (E : α → D) (E' : β → D) (r : α × List β) (o : Out) : Prop := (∃ e, o = .rt (.val (E r.1)) e ∧ e[0]? = some (.ow (r.2.map E'))) ∨ ∃ i e, o = .rt (.al i) e ∧ e[i]? = some (.sh (E r.1)) ∧ e[0]? = some (.ow (r.2.map E'))
theorem ovo_val {α β : Type} {E : α → D} {E' : β → D} {r : α × List β} {e : En} (h : e[0]? = some (.ow (r.2.map E'))) : OVo E E' r (.rt (.val (E r.1)) e) := .inl ⟨e, rfl, h⟩
theorem ovo_al {α β : Type} {E : α → D} {E' : β → D} {r : α × List β} {e : En} {i : Nat} (h0 : e[i]? = some (.sh (E r.1))) (h : e[0]? = some (.ow (r.2.map E'))) : OVo E E' r (.rt (.al i) e) := .inr ⟨i, e, rfl, h0, h⟩
theorem m_io {α β : Type} {E : α → D} {E' : β → D} {a : α × List β} {n k : Nat} {F : En → Option Out} {env : En} (hn : env.length = n + 1) (h : Go F (env ++ List.replicate k .un) (OVo E E' a)) : ∃ e, bodyM [0] (n + 1) k F env = some (.val (E a.1) (.ow (a.2.map E') :: e)) := by
  obtain ⟨o, h1, h2⟩ := h
  unfold bodyM
  rw [if_pos hn, h1]
  rcases h2 with ⟨e, rfl, h3⟩ | ⟨i, e, rfl, h3, h4⟩
  · simp only [Option.bind_some]
    rw [params_zero, h3]
    exact ⟨_, rfl⟩
  · simp only [Option.bind_some, h3]
    rw [params_zero, h4]
    exact ⟨_, rfl⟩
def OFo {α β : Type} (n : Nat) (E : α → D) (E' : β → D) (r : List α × List β) (o : Out) : Prop := (∃ e, o = .rt (.fr (r.1.map E)) e ∧ e[0]? = some (.ow (r.2.map E'))) ∨ ∃ i e, o = .rt (.al i) e ∧ e[i]? = some (.ow (r.1.map E)) ∧ n ≤ i ∧ e[0]? = some (.ow (r.2.map E'))
theorem ofo_fr {α β : Type} {n : Nat} {E : α → D} {E' : β → D} {r : List α × List β} {e : En} (h : e[0]? = some (.ow (r.2.map E'))) : OFo n E E' r (.rt (.fr (r.1.map E)) e) := .inl ⟨e, rfl, h⟩
theorem ofo_al {α β : Type} {n : Nat} {E : α → D} {E' : β → D} {r : List α × List β} {e : En} {i : Nat} (h0 : e[i]? = some (.ow (r.1.map E))) (hn : n ≤ i) (h : e[0]? = some (.ow (r.2.map E'))) : OFo n E E' r (.rt (.al i) e) := .inr ⟨i, e, rfl, h0, hn, h⟩
theorem m_ioL {α β : Type} {E : α → D} {E' : β → D} {a : List α × List β} {n k : Nat} {F : En → Option Out} {env : En} (hn : env.length = n + 1) (h : Go F (env ++ List.replicate k .un) (OFo (n + 1) E E' a)) : ∃ e, bodyM [0] (n + 1) k F env = some (.fr (a.1.map E) (.ow (a.2.map E') :: e)) := by
  obtain ⟨o, h1, h2⟩ := h
  unfold bodyM
  rw [if_pos hn, h1]
  rcases h2 with ⟨e, rfl, h3⟩ | ⟨i, e, rfl, h3, h4, h5⟩
  · simp only [Option.bind_some]
    rw [params_zero, h3]
    exact ⟨_, rfl⟩
  · simp only [Option.bind_some, h3, if_pos h4]
    rw [params_zero, h5]
    exact ⟨_, rfl⟩
end
end Vm

set_option Elab.async false
set_option linter.all false
set_option maxRecDepth 100000
set_option exponentiation.threshold 9000
/-! FA: how typed functions are reckoned: rules that make Hd. -/
namespace Vm
open PySem L2
section
variable {α β γ σ ρ : Type} {m m1 m2 : M α} {k : α → M β} {b : Bool} {a r : α} {z : β}
theorem hd_bd (a : α) (h : Hd m a) (h2 : Hd (k a) z) : Hd (bd m k) z := by
  obtain ⟨h1, rfl⟩ := h
  exact ⟨⟨h1, h2.ok⟩, h2.eq⟩
theorem hd_p : Hd (pr a) a := ⟨trivial, rfl⟩
theorem hd_pe (h : a = r) : Hd (pr a) r := ⟨trivial, h⟩
theorem hd_t (e : b = true) (h : Hd m1 a) : Hd (cnd b m1 m2) a := by subst e; exact h
theorem hd_f (e : b = false) (h : Hd m2 a) : Hd (cnd b m1 m2) a := by subst e; exact h
theorem hd_c (h1 : b = true → Hd m1 a) (h2 : b = false → Hd m2 a) : Hd (cnd b m1 m2) a := by
  cases b with
  | true => exact h1 rfl
  | false => exact h2 rfl
theorem Hd.to (h : Hd m a) (e : a = r) : Hd m r := by subst e; exact h
theorem hd_must (e : b = true) : Hd (mustM b) () := ⟨e, rfl⟩
theorem hd_short {n : Nat} (h : n < 1000000) : Hd (shortM n) () := ⟨h, rfl⟩
theorem hd_mul {i j : Int} (h : CMulA i j) : Hd (mulM i j) (i * j) := ⟨h, rfl⟩
theorem hd_fdiv {i j : Int} (h : 0 < j) (h2 : j < 2 ^ 8000) : Hd (fdivM i j) (i / j) := ⟨⟨h, h2⟩, rfl⟩
theorem hd_mod {i j : Int} (h : 0 < j) : Hd (modM i j) (i % j) := ⟨h, rfl⟩
theorem hd_pow {i j : Int} (h : CPowA i j) : Hd (powM i j) (i ^ j.toNat) := ⟨h, rfl⟩
theorem hd_get [Inhabited α] {xs : List α} {i : Int} (h : inI xs.length i) : Hd (getM xs i) (getI xs i) := ⟨h, rfl⟩
theorem hd_getN [Inhabited α] {xs : List α} {i : Nat} {v : α} (h : xs[i]? = some v) : Hd (getM xs (i : Int)) v := by
  have hl : i < xs.length := (List.getElem?_eq_some_iff.mp h).1
  refine ⟨⟨by omega, by omega⟩, ?_⟩
  show getI xs i = v
  unfold getI
  rw [if_pos (by omega), Int.toNat_natCast, List.getD_eq_getElem?_getD, h]
  rfl
theorem hd_getI [Inhabited α] {xs : List α} {i : Int} {j : Nat} {v : α} (e : i = j) (h : xs[j]? = some v) : Hd (getM xs i) v := by
  subst e; exact hd_getN h
theorem hd_set {xs : List α} {i : Int} {v : α} (h : inI xs.length i) : Hd (setM xs i v) (setI xs i v) := ⟨h, rfl⟩
theorem hd_setN {xs : List α} {i : Nat} {v : α} (h : i < xs.length) : Hd (setM xs (i : Int) v) (xs.set i v) := by
  refine ⟨⟨by omega, by omega⟩, ?_⟩
  show setI xs i v = _
  unfold setI
  rw [if_pos (by omega), Int.toNat_natCast]
theorem hd_cat {xs ys : List α} (h : xs.length + ys.length ≤ 16000) : Hd (catM xs ys) (xs ++ ys) := ⟨Nat.le_trans h (by decide), rfl⟩
theorem hd_rep {xs : List α} {k : Int} (h0 : k < 16000) (h1 : -16000 < k) (h : xs.length * k.toNat ≤ 16000) : Hd (repM xs k) (List.replicate k.toNat xs).flatten := ⟨⟨by omega, by omega, Nat.le_trans h (by decide)⟩, rfl⟩
theorem rep_one {x : α} {n : Nat} : (List.replicate n [x]).flatten = List.replicate n x := by
  induction n with
  | zero => rfl
  | succ n ih => rw [List.replicate_succ, List.flatten_cons, ih, List.replicate_succ]; rfl
theorem hd_rep1 {x : α} {n : Nat} (h : n < 16000) : Hd (repM [x] (n : Int)) (List.replicate n x) := by
  have q := hd_rep (xs := [x]) (k := (n : Int)) (by omega) (by omega) (by simp; omega)
  rw [Int.toNat_natCast, rep_one] at q
  exact q
theorem hd_max {xs : List Int} (h : xs ≠ []) : Hd (maxM xs) (maxL xs) := ⟨h, rfl⟩
theorem hd_min {xs : List Int} (h : xs ≠ []) : Hd (minM xs) (minL xs) := ⟨h, rfl⟩
theorem hd_app {xs : List α} {x : α} (h : xs.length < 1000000) : Hd (appM xs x) (xs ++ [x]) := ⟨h, rfl⟩
theorem hd_ext {xs ys : List α} (h : xs.length + ys.length ≤ 1000000) : Hd (extM xs ys) (xs ++ ys) := ⟨h, rfl⟩
/-- 0, 1 .. n - 1 -/
def rgN (n : Nat) : List Int := (List.range n).map fun i : Nat => (i : Int)
theorem rgN_length (n : Nat) : (rgN n).length = n := by unfold rgN; rw [List.length_map, List.length_range]
theorem rgN_succ (n : Nat) : rgN (n + 1) = rgN n ++ [(n : Int)] := by unfold rgN; rw [List.range_succ, List.map_append]; rfl
theorem rgN_get {n i : Nat} (h : i < n) : (rgN n)[i]? = some (i : Int) := by unfold rgN; rw [List.getElem?_map, List.getElem?_range h]; rfl
theorem mem_rgN {n : Nat} {x : Int} : x ∈ rgN n ↔ 0 ≤ x ∧ x < n := by
  unfold rgN
  rw [List.mem_map]
  constructor
  · rintro ⟨i, hi, rfl⟩
    rw [List.mem_range] at hi
    omega
  · rintro ⟨h0, h1⟩
    exact ⟨x.toNat, List.mem_range.mpr (by omega), by omega⟩
theorem hd_rg {b : Int} {n : Nat} (e : b = n) (h : n < 1000000) : Hd (rgM 0 b) (rgN n) := by
  subst e
  refine ⟨⟨by decide, by decide, by omega, by omega⟩, ?_⟩
  show rgI 0 n = rgN n
  unfold rgI rgN
  rw [Int.sub_zero, Int.toNat_natCast]
  exact List.map_congr_left fun i _ => Int.zero_add _
theorem hd_rg0 {b : Int} (h : b ≤ 0) (h2 : -1000000 < b) : Hd (rgM 0 b) [] := by
  refine ⟨⟨by decide, by decide, by omega, by omega⟩, ?_⟩
  show rgI 0 b = []
  unfold rgI
  rw [show (b - 0).toNat = 0 by omega]
  rfl
/-- a, a + 1 .. a + n - 1 -/
def rgF (a : Int) (n : Nat) : List Int := (List.range n).map fun i : Nat => a + (i : Int)
theorem hd_rg2 {a b : Int} {n : Nat} (e : b - a = n) (h0 : -1000000 < a) (h1 : a < 1000000) (h : n < 1000000) : Hd (rgM a b) (rgF a n) := by
  refine ⟨⟨by omega, by omega, by omega, by omega⟩, ?_⟩
  show rgI a b = rgF a n
  unfold rgI rgF
  rw [e, Int.toNat_natCast]
theorem hd_lrg {b : Int} {n : Nat} (e : b = n) (h : n < 1000000) : Hd (lrgM 0 b) (rgN n) := by
  subst e
  refine ⟨⟨by decide, by decide, by omega, by omega, by omega⟩, ?_⟩
  show rgI 0 n = rgN n
  unfold rgI rgN
  rw [Int.sub_zero, Int.toNat_natCast]
  exact List.map_congr_left fun i _ => Int.zero_add _
theorem hd_mapM {f : α → M β} {xs : List α} (g : α → β) (h : ∀ x ∈ xs, Hd (f x) (g x)) : Hd (mapM f xs) (xs.map g) :=
  ⟨fun x hx => (h x hx).ok, List.map_congr_left fun x hx => (h x hx).eq⟩
theorem filter_congr' {p q : α → Bool} : ∀ {xs : List α}, (∀ x ∈ xs, p x = q x) → xs.filter p = xs.filter q
  | [], _ => rfl
  | x :: xs, h => by
    rw [List.filter_cons, List.filter_cons, h x List.mem_cons_self, filter_congr' (xs := xs) fun y hy => h y (List.mem_cons_of_mem _ hy)]
theorem hd_filter {p : α → M Bool} {f : α → M β} {xs : List α} (q : α → Bool) (g : α → β) (h1 : ∀ x ∈ xs, Hd (p x) (q x)) (h2 : ∀ x ∈ xs, q x = true → Hd (f x) (g x)) : Hd (filM p f xs) ((xs.filter q).map g) := by
  refine ⟨fun x hx => ⟨(h1 x hx).ok, fun e => (h2 x hx ((h1 x hx).eq ▸ e)).ok⟩, ?_⟩
  show (xs.filter fun x => (p x).val).map (fun x => (f x).val) = _
  rw [filter_congr' (q := q) fun x hx => (h1 x hx).eq]
  refine List.map_congr_left fun x hx => ?_
  obtain ⟨m1, m2⟩ := List.mem_filter.mp hx
  exact (h2 x m1 m2).eq
/-- a loop, by what holds between turns -/
theorem hd_for {st : σ → α → M σ} {xs : List α} {s0 : σ} (I : List α → σ → Prop) (h0 : I [] s0) (hs : ∀ pre x post s, xs = pre ++ x :: post → I pre s → ∃ s', Hd (st s x) s' ∧ I (pre ++ [x]) s') : ∃ s, Hd (forM st s0 xs) s ∧ I xs s := by
  have go : ∀ (post pre : List α) (s : σ), xs = pre ++ post → I pre s → ∃ s', Hd (forM st s post) s' ∧ I xs s' := by
    intro post
    induction post with
    | nil =>
      intro pre s e i
      rw [List.append_nil] at e
      subst e
      exact ⟨s, hd_p, i⟩
    | cons x post ih =>
      intro pre s e i
      obtain ⟨s1, h1, i1⟩ := hs pre x post s e i
      obtain ⟨s2, h2, i2⟩ := ih (pre ++ [x]) s1 (by rw [e]; simp) i1
      exact ⟨s2, hd_bd s1 h1 h2, i2⟩
  exact go xs [] s0 rfl h0
theorem hd_forG {st : σ → α → M (Fl ρ σ)} {xs : List α} {s0 : σ} (I : List α → σ → Prop) (h0 : I [] s0) (hs : ∀ pre x post s, xs = pre ++ x :: post → I pre s → ∃ s', Hd (st s x) (.go s') ∧ I (pre ++ [x]) s') : ∃ s, Hd (forX st s0 xs) (.go s) ∧ I xs s := by
  have go : ∀ (post pre : List α) (s : σ), xs = pre ++ post → I pre s → ∃ s', Hd (forX st s post) (.go s') ∧ I xs s' := by
    intro post
    induction post with
    | nil =>
      intro pre s e i
      rw [List.append_nil] at e
      subst e
      exact ⟨s, hd_p, i⟩
    | cons x post ih =>
      intro pre s e i
      obtain ⟨s1, h1, i1⟩ := hs pre x post s e i
      obtain ⟨s2, h2, i2⟩ := ih (pre ++ [x]) s1 (by rw [e]; simp) i1
      exact ⟨s2, hd_bd _ h1 h2, i2⟩
  exact go xs [] s0 rfl h0
/-- over 0, 1 .. n - 1 -/
theorem hd_forR {st : σ → Int → M σ} {n : Nat} {s0 : σ} (I : Nat → σ → Prop) (h0 : I 0 s0) (hs : ∀ (i : Nat) s, i < n → I i s → ∃ s', Hd (st s (i : Int)) s' ∧ I (i + 1) s') : ∃ s, Hd (forM st s0 (rgN n)) s ∧ I n s := by
  obtain ⟨s, h1, h2⟩ := hd_for (st := st) (xs := rgN n) (s0 := s0) (fun pre s => I pre.length s) h0 (fun pre x post s e i => by
    have hl : pre.length < n := by
      have := congrArg List.length e
      rw [rgN_length, List.length_append, List.length_cons] at this
      omega
    have hx : x = (pre.length : Int) := by
      have := rgN_get hl
      rw [e] at this
      simpa using this
    subst hx
    obtain ⟨s', h1, h2⟩ := hs _ s hl i
    exact ⟨s', h1, by rw [List.length_append]; exact h2⟩)
  rw [rgN_length] at h2
  exact ⟨s, h1, h2⟩
theorem hd_forGR {st : σ → Int → M (Fl ρ σ)} {n : Nat} {s0 : σ} (I : Nat → σ → Prop) (h0 : I 0 s0) (hs : ∀ (i : Nat) s, i < n → I i s → ∃ s', Hd (st s (i : Int)) (.go s') ∧ I (i + 1) s') : ∃ s, Hd (forX st s0 (rgN n)) (.go s) ∧ I n s := by
  obtain ⟨s, h1, h2⟩ := hd_forG (st := st) (xs := rgN n) (s0 := s0) (fun pre s => I pre.length s) h0 (fun pre x post s e i => by
    have hl : pre.length < n := by
      have := congrArg List.length e
      rw [rgN_length, List.length_append, List.length_cons] at this
      omega
    have hx : x = (pre.length : Int) := by
      have := rgN_get hl
      rw [e] at this
      simpa using this
    subst hx
    obtain ⟨s', h1, h2⟩ := hs _ s hl i
    exact ⟨s', h1, by rw [List.length_append]; exact h2⟩)
  rw [rgN_length] at h2
  exact ⟨s, h1, h2⟩
/-- elements that change own lists -/
theorem hd_lcS {st : σ → α → M (β × σ)} {xs : List α} {s0 : σ} (I : List α → List β → σ → Prop) (h0 : I [] [] s0) (hs : ∀ pre x post ys s, xs = pre ++ x :: post → I pre ys s → ∃ y s', Hd (st s x) (y, s') ∧ I (pre ++ [x]) (ys ++ [y]) s') : ∃ ys s, Hd (lcS st s0 xs) (ys, s) ∧ I xs ys s := by
  have go : ∀ (post pre : List α) (ys : List β) (s : σ), xs = pre ++ post → I pre ys s → ∃ zs s', Hd (lcS st s post) (zs, s') ∧ I xs (ys ++ zs) s' := by
    intro post
    induction post with
    | nil =>
      intro pre ys s e i
      rw [List.append_nil] at e
      subst e
      exact ⟨[], s, hd_p, by rw [List.append_nil]; exact i⟩
    | cons x post ih =>
      intro pre ys s e i
      obtain ⟨y, s1, h1, i1⟩ := hs pre x post ys s e i
      obtain ⟨zs, s2, h2, i2⟩ := ih (pre ++ [x]) (ys ++ [y]) s1 (by rw [e]; simp) i1
      refine ⟨y :: zs, s2, hd_bd _ h1 (hd_bd _ h2 hd_p), ?_⟩
      rw [List.append_assoc] at i2
      exact i2
  obtain ⟨zs, s, h1, h2⟩ := go xs [] [] s0 rfl h0
  exact ⟨zs, s, h1, by simpa using h2⟩
/-- a while that ends at the first k behind which the test fails -/
theorem hd_while {t : σ → M Bool} {st : σ → M σ} (s : Nat → σ) (n : Nat) {fuel : Nat} (hf : n < fuel) (h0 : ∀ i, i < n → Hd (t (s i)) true) (h1 : ∀ i, i < n → Hd (st (s i)) (s (i + 1))) (h2 : Hd (t (s n)) false) : Hd (whileM t st fuel (s 0)) (s n) := by
  have go : ∀ (d i fuel : Nat), i + d = n → d < fuel → Hd (whileM t st fuel (s i)) (s n) := by
    intro d
    induction d with
    | zero =>
      intro i fuel e hf
      obtain ⟨f, rfl⟩ : ∃ f, fuel = f + 1 := ⟨fuel - 1, by omega⟩
      have e : i = n := e
      subst e
      exact hd_bd false h2 (hd_f rfl hd_p)
    | succ d ih =>
      intro i fuel e hf
      obtain ⟨f, rfl⟩ : ∃ f, fuel = f + 1 := ⟨fuel - 1, by omega⟩
      exact hd_bd true (h0 i (by omega)) (hd_t rfl (hd_bd _ (h1 i (by omega)) (ih (i + 1) f (by omega) (by omega))))
  exact go n 0 fuel (by omega) hf
theorem hd_s0 [Inhabited α] {ms : List (M α)} (h : Hd m a) : Hd (sel 0 (m :: ms)) a := h
theorem hd_s1 [Inhabited α] {ms : List (M α)} (h : Hd m a) : Hd (sel 1 (m1 :: m :: ms)) a := h
theorem hd_s2 [Inhabited α] {ms : List (M α)} (h : Hd m a) : Hd (sel 2 (m1 :: m2 :: m :: ms)) a := h
/-! what a typed function's value keeps -/
def Sat (m : M α) (P : α → Prop) : Prop := m.ok ∧ P m.val
theorem sat_hd {P : α → Prop} (h : Hd m a) (p : P a) : Sat m P := by
  obtain ⟨h1, rfl⟩ := h
  exact ⟨h1, p⟩
theorem Sat.ex {P : α → Prop} (h : Sat m P) : ∃ a, Hd m a ∧ P a := ⟨_, ⟨h.1, rfl⟩, h.2⟩
theorem Sat.hd (h : Sat m fun x => x = a) : Hd m a := ⟨h.1, h.2⟩
theorem Sat.mono {P Q : α → Prop} (h : Sat m P) (f : ∀ a, P a → Q a) : Sat m Q := ⟨h.1, f _ h.2⟩
theorem sat_p {P : α → Prop} (p : P a) : Sat (pr a) P := ⟨trivial, p⟩
/-- the value is known -/
theorem sb {P : β → Prop} (h : Hd m a) (f : Sat (k a) P) : Sat (bd m k) P := by
  obtain ⟨h1, rfl⟩ := h
  exact ⟨⟨h1, f.1⟩, f.2⟩
/-- something is known of it -/
theorem st {R : α → Prop} {P : β → Prop} (h : Sat m R) (f : ∀ a, R a → Sat (k a) P) : Sat (bd m k) P := ⟨⟨h.1, (f _ h.2).1⟩, (f _ h.2).2⟩
/-- nothing needs to be known -/
theorem su {P : β → Prop} (h : m.ok) (f : ∀ a, Sat (k a) P) : Sat (bd m k) P := ⟨⟨h, (f _).1⟩, (f _).2⟩
theorem sp {P : β → Prop} (f : Sat (k a) P) : Sat (bd (pr a) k) P := ⟨⟨trivial, f.1⟩, f.2⟩
theorem scc {P : α → Prop} (h1 : b = true → Sat m1 P) (h2 : b = false → Sat m2 P) : Sat (cnd b m1 m2) P := by
  cases b with
  | true => exact h1 rfl
  | false => exact h2 rfl
theorem sct {P : α → Prop} (e : b = true) (h : Sat m1 P) : Sat (cnd b m1 m2) P := by subst e; exact h
theorem scf {P : α → Prop} (e : b = false) (h : Sat m2 P) : Sat (cnd b m1 m2) P := by subst e; exact h
theorem s_for {st : σ → α → M σ} {xs : List α} {s0 : σ} {P : σ → Prop} (I : List α → σ → Prop) (h0 : I [] s0) (hs : ∀ pre x post s, xs = pre ++ x :: post → I pre s → Sat (st s x) (I (pre ++ [x]))) (hP : ∀ s, I xs s → P s) : Sat (forM st s0 xs) P := by
  obtain ⟨s, h1, h2⟩ := hd_for I h0 fun pre x post s e i => (hs pre x post s e i).ex
  exact sat_hd h1 (hP s h2)
theorem s_forG {st : σ → α → M (Fl ρ σ)} {xs : List α} {s0 : σ} {P : Fl ρ σ → Prop} (I : List α → σ → Prop) (h0 : I [] s0) (hs : ∀ pre x post s, xs = pre ++ x :: post → I pre s → Sat (st s x) (fun f => ∃ s', f = .go s' ∧ I (pre ++ [x]) s')) (hP : ∀ s, I xs s → P (.go s)) : Sat (forX st s0 xs) P := by
  obtain ⟨s, h1, h2⟩ := hd_forG (st := st) (xs := xs) (s0 := s0) I h0 fun pre x post s e i => by
    obtain ⟨f, g1, s', rfl, g2⟩ := (hs pre x post s e i).ex
    exact ⟨s', g1, g2⟩
  exact sat_hd h1 (hP s h2)
theorem s_forR {st : σ → Int → M σ} {n : Nat} {s0 : σ} {P : σ → Prop} (I : Nat → σ → Prop) (h0 : I 0 s0) (hs : ∀ (i : Nat) s, i < n → I i s → Sat (st s (i : Int)) (I (i + 1))) (hP : ∀ s, I n s → P s) : Sat (forM st s0 (rgN n)) P := by
  obtain ⟨s, h1, h2⟩ := hd_forR I h0 fun i s e h => (hs i s e h).ex
  exact sat_hd h1 (hP s h2)
theorem s_forGR {st : σ → Int → M (Fl ρ σ)} {n : Nat} {s0 : σ} {P : Fl ρ σ → Prop} (I : Nat → σ → Prop) (h0 : I 0 s0) (hs : ∀ (i : Nat) s, i < n → I i s → Sat (st s (i : Int)) (fun f => ∃ s', f = .go s' ∧ I (i + 1) s')) (hP : ∀ s, I n s → P (.go s)) : Sat (forX st s0 (rgN n)) P := by
  obtain ⟨s, h1, h2⟩ := hd_forGR (st := st) (n := n) (s0 := s0) I h0 fun i s e h => by
    obtain ⟨f, g1, s', rfl, g2⟩ := (hs i s e h).ex
    exact ⟨s', g1, g2⟩
  exact sat_hd h1 (hP s h2)
theorem s_forGx {st : σ → α → M (Fl ρ σ)} {xs : List α} {s0 : σ} (I : List α → σ → Prop) (h0 : I [] s0) (hs : ∀ pre x post s, xs = pre ++ x :: post → I pre s → Sat (st s x) (fun f => ∃ s', f = .go s' ∧ I (pre ++ [x]) s')) : Sat (forX st s0 xs) (fun f => ∃ s, f = .go s ∧ I xs s) := s_forG I h0 hs fun s i => ⟨s, rfl, i⟩
theorem s_forGRx {st : σ → Int → M (Fl ρ σ)} {n : Nat} {s0 : σ} (I : Nat → σ → Prop) (h0 : I 0 s0) (hs : ∀ (i : Nat) s, i < n → I i s → Sat (st s (i : Int)) (fun f => ∃ s', f = .go s' ∧ I (i + 1) s')) : Sat (forX st s0 (rgN n)) (fun f => ∃ s, f = .go s ∧ I n s) := s_forGR I h0 hs fun s i => ⟨s, rfl, i⟩
theorem s_lcS {st : σ → α → M (β × σ)} {xs : List α} {s0 : σ} {P : List β × σ → Prop} (I : List α → List β → σ → Prop) (h0 : I [] [] s0) (hs : ∀ pre x post ys s, xs = pre ++ x :: post → I pre ys s → Sat (st s x) (fun z => I (pre ++ [x]) (ys ++ [z.1]) z.2)) (hP : ∀ ys s, I xs ys s → P (ys, s)) : Sat (lcS st s0 xs) P := by
  obtain ⟨ys, s, h1, h2⟩ := hd_lcS (st := st) (xs := xs) (s0 := s0) I h0 fun pre x post ys s e i => by
    obtain ⟨z, g1, g2⟩ := (hs pre x post ys s e i).ex
    exact ⟨z.1, z.2, g1, g2⟩
  exact sat_hd h1 (hP ys s h2)
theorem sgo {τ : Type} {o : ρ → M τ} {k : σ → M τ} {s : σ} {P : τ → Prop} (h : Sat (k s) P) : Sat (aft (.go s) o k) P := h
theorem s_go {s : σ} {P : σ → Prop} (p : P s) : Sat (pr (Fl.go s) : M (Fl ρ σ)) (fun f => ∃ s', f = .go s' ∧ P s') := ⟨trivial, s, rfl, p⟩
theorem hd_aft {τ : Type} {o : ρ → M τ} {k : σ → M τ} {s : σ} {z : τ} (h : Hd (k s) z) : Hd (aft (.go s) o k) z := h
theorem small_mul {i j : Int} (h : -(2 ^ 64) < j ∧ j < 2 ^ 64) : CMulA i j := .inl (.inr h)
theorem small_mul' {i j : Int} (h : -(2 ^ 64) < i ∧ i < 2 ^ 64) : CMulA i j := .inl (.inl h)
theorem bits {i : Int} {n : Nat} (h : i.natAbs < 2 ^ n) : Builtin.Int.intBits i ≤ n := PySem.intBits_le_iff.mpr h
theorem big_mul {a b : Int} {p q : Nat} (h1 : a.natAbs < 2 ^ p) (h2 : b.natAbs < 2 ^ q) (h : p + q ≤ 100000) : CMulA a b := by
  refine .inr ?_
  unfold CMulX
  have := bits h1
  have := bits h2
  omega
theorem cube_ok {i : Int} (h : i.natAbs < 2 ^ 200) : CPowA i 3 := by
  refine ⟨by decide, ?_⟩
  have := bits h
  omega
theorem ten_ok {j : Int} (h0 : 0 ≤ j) (h1 : j ≤ 1000) : CPowA 10 j := by
  refine ⟨h0, ?_⟩
  have h4 : Builtin.Int.intBits 10 ≤ 4 := bits (by decide)
  have h5 : (Builtin.Int.intBits 10 : Int) ≤ 4 := by omega
  have := Int.mul_le_mul_of_nonneg_right h5 h0
  omega
theorem lt_8000 {j : Int} (h : j < 2 ^ 64) : j < 2 ^ 8000 := Int.lt_of_lt_of_le h (by
  have : (2 : Nat) ^ 64 ≤ 2 ^ 8000 := Nat.pow_le_pow_right (by decide) (by decide)
  exact_mod_cast this)
end
end Vm

set_option Elab.async false
set_option linter.all false
set_option maxRecDepth 100000
/-! VH1: what runs while an error is handled: a list's end, comprehensions, calls of a def that is told the error. -/
namespace Vm
open PySem PySem.Spec PyProof.Rows L2 Evl
section
variable {prog : Program} {w : World} {A : Around} {E : Value → Shared → Prop} {s : Shared}
/-- a list's end where an error is handled -/
theorem list_over {itr l z : Addr} {k : Nat} {its : Array Value} {Q : Option Value → Shared → Prop} (hot : HotX.HotAt A z s.heap) (st : s.heap.IsListIter itr l k) (ls : s.heap.IsList l its) (hk : its[k]? = none) (hz : z ≠ itr)
    (q : ∀ g, Heap.ExtBut itr s.heap g → Q none { s with heap := g }) : wpAny (model prog w) A (pyNext (.ref itr)) Q E s := by
  obtain ⟨io, i1, i2, i3⟩ := id st
  obtain ⟨lo, l1, l2, ln, l3⟩ := ls
  obtain ⟨hd, eo, ev, e1, e2, e3⟩ := hot
  unfold pyNext
  refine wpAny_bind (wpAny_attempt (wpAny_callSpecial?_slot (name := Str.ofString "__next__") st.typeIs slot_listiter_next (wpAny_call_entry slot_listiter_next st.typeIs entry_listiter_next ?_ (args_listiter_next _))))
  show wpAny _ _ (field (.ref itr) 0 >>= _) _ _ s
  refine wpAny_bind (wpAny_field i1 i3 (x := .ref l) rfl ?_)
  show wpAny _ _ (if (Value.ref l == Value.none) = true then _ else _) _ _ s
  rw [if_neg (show ¬ ((Value.ref l == Value.none) = true) from Bool.false_ne_true)]
  show wpAny _ _ (field (.ref itr) 1 >>= _) _ _ s
  refine wpAny_bind (wpAny_field i1 i3 (x := .int k 0) rfl ?_)
  show wpAny _ _ (seqItems? (.ref l) >>= _) _ _ s
  refine wpAny_bind (wpAny_seqItems l1 l3 ?_)
  simp only [Int.toNat_natCast, hk]
  refine wpAny_bind (wpAny_rule (wpAny_bind (wpAny_setField i1 i3 (by simp) ?_)))
  show wpAny _ _ (newExc (.type "StopIteration") [] >>= _) _ _ _
  refine wpAny_bind ?_
  simp only [newExc, newTuple]
  refine wpAny_bind (wpAny_newObj_type ?_ (by size_fits))
  refine wpAny_bind (m := firstArgMember _ _) (wpAny_of_eq (a := Value.none) (by first | rfl | (simp only [firstArgMember]; rfl)) ?_)
  refine wpAny_newObj_type ?_ (by size_fits)
  have k0 : ((s.heap.update itr (Obj.mapFields (·.setIfInBounds 0 Value.none))).push { cls := .type "tuple", data := .seq #[] }).get? z = some eo := Heap.get?_push_of_some _ ((Heap.get?_update_other s.heap (Obj.mapFields (·.setIfInBounds 0 Value.none)) (Ne.symm hz)).trans e1)
  refine HotX.raiseNew_hot ⟨hd, eo, ev, Heap.get?_push_of_some _ k0, e2, e3⟩ (Nat.ne_of_lt (Heap.lt_size k0)) (Heap.get?_push_size _ rfl) rfl (by simp; omega) ?_
  refine wpAny_bind (wpAny_isInstance (T := "StopIteration") (b := true) ⟨_, Heap.get?_update_self _ (Heap.get?_push_size _ rfl) rfl, rfl⟩ isSubtype_stop ?_)
  refine wpAny_pure (q _ fun b o hb e => ?_)
  have w1 : ((s.heap.update itr (Obj.mapFields (·.setIfInBounds 0 Value.none))).push { cls := .type "tuple", data := .seq #[] }).get? b = some o := Heap.get?_push_of_some _ ((Heap.get?_update_other s.heap _ (Ne.symm hb)).trans e)
  rw [Heap.get?_update_other _ _ (Nat.ne_of_gt (Heap.lt_size w1))]
  exact Heap.get?_push_of_some _ w1
/-- a tuple's end where an error is handled -/
theorem tuple_over {itr l z : Addr} {k : Nat} {its : Array Value} {Q : Option Value → Shared → Prop} (hot : HotX.HotAt A z s.heap) (st : IsTupIter s.heap itr l k) (ls : IsTup s.heap l its) (hk : its[k]? = none) (hz : z ≠ itr)
    (q : ∀ g, Heap.ExtBut itr s.heap g → Q none { s with heap := g }) : wpAny (model prog w) A (pyNext (.ref itr)) Q E s := by
  obtain ⟨io, i1, i2, i3⟩ := id st
  obtain ⟨lo, l1, l2, ln, l3⟩ := ls
  obtain ⟨hd, eo, ev, e1, e2, e3⟩ := hot
  unfold pyNext
  refine wpAny_bind (wpAny_attempt (wpAny_callSpecial?_slot (name := Str.ofString "__next__") st.typeIs slot_tupleiter_next (wpAny_call_entry slot_tupleiter_next st.typeIs entry_tupleiter_next ?_ (args_tupleiter_next _))))
  show wpAny _ _ (field (.ref itr) 0 >>= _) _ _ s
  refine wpAny_bind (wpAny_field i1 i3 (x := .ref l) rfl ?_)
  show wpAny _ _ (if (Value.ref l == Value.none) = true then _ else _) _ _ s
  rw [if_neg (show ¬ ((Value.ref l == Value.none) = true) from Bool.false_ne_true)]
  show wpAny _ _ (field (.ref itr) 1 >>= _) _ _ s
  refine wpAny_bind (wpAny_field i1 i3 (x := .int k 0) rfl ?_)
  show wpAny _ _ (seqItems? (.ref l) >>= _) _ _ s
  refine wpAny_bind (wpAny_seqItems l1 l3 ?_)
  simp only [Int.toNat_natCast, hk]
  refine wpAny_bind (wpAny_rule (wpAny_bind (wpAny_setField i1 i3 (by simp) ?_)))
  show wpAny _ _ (newExc (.type "StopIteration") [] >>= _) _ _ _
  refine wpAny_bind ?_
  simp only [newExc, newTuple]
  refine wpAny_bind (wpAny_newObj_type ?_ (by size_fits))
  refine wpAny_bind (m := firstArgMember _ _) (wpAny_of_eq (a := Value.none) (by first | rfl | (simp only [firstArgMember]; rfl)) ?_)
  refine wpAny_newObj_type ?_ (by size_fits)
  have k0 : ((s.heap.update itr (Obj.mapFields (·.setIfInBounds 0 Value.none))).push { cls := .type "tuple", data := .seq #[] }).get? z = some eo := Heap.get?_push_of_some _ ((Heap.get?_update_other s.heap (Obj.mapFields (·.setIfInBounds 0 Value.none)) (Ne.symm hz)).trans e1)
  refine HotX.raiseNew_hot ⟨hd, eo, ev, Heap.get?_push_of_some _ k0, e2, e3⟩ (Nat.ne_of_lt (Heap.lt_size k0)) (Heap.get?_push_size _ rfl) rfl (by simp; omega) ?_
  refine wpAny_bind (wpAny_isInstance (T := "StopIteration") (b := true) ⟨_, Heap.get?_update_self _ (Heap.get?_push_size _ rfl) rfl, rfl⟩ isSubtype_stop ?_)
  refine wpAny_pure (q _ fun b o hb e => ?_)
  have w1 : ((s.heap.update itr (Obj.mapFields (·.setIfInBounds 0 Value.none))).push { cls := .type "tuple", data := .seq #[] }).get? b = some o := Heap.get?_push_of_some _ ((Heap.get?_update_other s.heap _ (Ne.symm hb)).trans e)
  rw [Heap.get?_update_other _ _ (Nat.ne_of_gt (Heap.lt_size w1))]
  exact Heap.get?_push_of_some _ w1
/-- a tuple's items, one by one, where an error is handled -/
theorem taken_hot {z t : Addr} {items : Array Value} {Q : List Value → Shared → Prop} (hot : HotX.HotAt A z s.heap) (ht : IsTup s.heap t items)
    (q : ∀ g, Heap.ExtBut s.heap.objs.size s.heap g → Q items.toList { s with heap := g }) : wpAny (model prog w) A (unpackItems (.ref t) items.size none) Q E s := by
  have tn : t ≠ s.heap.objs.size := by
    obtain ⟨o, ho, _⟩ := ht
    exact Nat.ne_of_lt (Heap.lt_size ho)
  obtain ⟨hd, eo, ev, e1, e2, e3⟩ := hot
  have zn : z ≠ s.heap.objs.size := Nat.ne_of_lt (Heap.lt_size e1)
  unfold unpackItems
  refine wpAny_bind ?_
  unfold notIterableAtAll
  refine wpAny_bind (wpAny_specialOf ht.typeIs slot_tuple_iter.lookup (wpAny_pure ?_))
  simp only [Bool.false_eq_true, if_false]
  refine wpAny_bind (wpAny_holding (iter_tuple ht ?_))
  refine wpAny_bind (wpAny_holding (draw_tuple tn items.size 0 _ _ ⟨_, Heap.get?_push_size _ rfl, rfl, rfl⟩ (ht.push _) (by omega) fun h1 st1 sb1 => ?_))
  have whole : List.take items.size (List.drop 0 items.toList) = items.toList := by
    rw [List.drop_zero]
    exact List.take_of_length_le (by simp)
  rw [whole, if_neg (by simp)]
  have z1 : h1.get? z = some eo := sb1.extBut z eo zn (Heap.get?_push_of_some _ e1)
  refine wpAny_bind (wpAny_holding (tuple_over (s := { s with heap := h1 }) ⟨hd, eo, ev, z1, e2, e3⟩ st1 ((ht.push _).extBut sb1.extBut tn) (by simp) zn fun h2 x2 => ?_))
  simp only [Option.isSome_none, Bool.false_eq_true, if_false]
  exact wpAny_pure (q h2 fun b o hb e => x2 b o hb (sb1.extBut b o hb (Heap.get?_push_of_some _ e)))
end
/-! a comprehension over a list, where the error of the pin z is handled -/
section
variable {X : Cx} {pins : List (Addr × Obj)} {σ : L2.St} {H : Hp} {s : Shared}
/-- a comprehension's block, where the pin z stays known -/
abbrev blkH (X : Cx) (z : Addr × Obj) (s : Shared) (H : Hp) (scope : Scope) (cenv : Env) (fp : List Addr) : Cx := { X with s_0 := s, H_0 := H, env := cenv, outer := X.stack, ex := fp, fn := fun x => scope.names.lookup x == some .cell, pn := [z], xe := fun _ _ => False }
/-- the pin of the error that is handled -/
def PinH (X : Cx) (z : Addr × Obj) : Prop := L2H.Hot1 X.A z ∧ z ∈ X.pn
theorem PinH.at {z : Addr × Obj} (p : PinH X z) (I : Inv X pins σ H s) : s.heap.get? z.1 = some z.2 ∧ H z.1 = none ∧ z.1 ≠ X.env.locals ∧ z.1 ∉ X.fs ∧ ∀ v, z.2.data ≠ .cell v := I.pin z (List.mem_append_left _ p.2)
end
theorem pg_tupH {z : Addr × Obj} {es : List Expr} {k : Nat} {t : TGs} {n : Nat} {pos : Pos} (pz : PinH X z) (h : PGs X es t) (hn : (assignEach es X.env).length = n := by rfl) (hst : (assignEach es X.env).findIdx? (·.1) = none := by rfl) : PG X (.Tuple es k pos) (gTup X.K n t) := by
  constructor
  intro pins s σ H v u Q I r want
  obtain ⟨a, xs, rfl, hq, hl, want⟩ := want
  cases r
  obtain ⟨its, rv, ht, hz⟩ := I.tuple hq
  obtain ⟨hh, vs, d1, d2⟩ := pz.1
  rw [assign_Tuple]
  refine wpAny_bind (wpAny_standAt ?_)
  unfold unpack
  rw [show (assignEach es X.env).length = its.toArray.size by simp [hn, ← hl, rv.length], hst]
  refine wpAny_bind (wpAny_holding (taken_hot ⟨hh, z.2, vs, (pz.at I).1, d1, d2⟩ ht fun g x => ?_))
  have I1 : Inv X pins σ H { s with heap := g } := I.kept (t' := s.toks) fun b o e => x b o (Nat.ne_of_lt (Heap.lt_size e)) e
  exact h.run pins _ σ H xs _ Q I1 (by simpa using rv) want
section
variable {elt tg iter : Expr} {ifs : List Expr} {scope : Scope} {own : List (Str × Nat)} {pos pos' : Pos} {ta : TA} {te0 : TE} {g : TG} {tt : TT} {te : TE} {use : Option (Value → Sem Unit)} {Qf : Value → Shared → Prop}
theorem lcH_run {z : Addr × Obj} {Q : VK} (pz : PinH X z) (hN : X.N.Nodup) (I : Inv X pins σ H s) (hi : PE X iter te0) (ok : BlkOk X.N X.env.scope scope own)
    (hg : ∀ (s : Shared) (H : Hp) (C : Addr) (cl : List (Str × Addr)) (fp : List Addr), PG (blkH X z s H scope (compEnvC scope cl C X.env) fp) tg g)
    (ht : ∀ (s : Shared) (H : Hp) (C : Addr) (cl : List (Str × Addr)) (fp : List Addr), PTs (blkH X z s H scope (compEnvC scope cl C X.env) fp) ifs tt)
    (he : ∀ (s : Shared) (H : Hp) (C : Addr) (cl : List (Str × Addr)) (fp : List Addr), PE (blkH X z s H scope (compEnvC scope cl C X.env) fp) elt te)
    (hs : ∀ x, foldedSetIterable iter X.env x = pure x)
    (h : tLc (iList X.K te0) g tt te (own.map (·.2)) σ H Q)
    (fin : ∀ D C s' m H', Inv X pins σ H' s' → Q (.ref D) H' → s'.heap.Ns C m → FpOk X pins H' C → compPost (model X.prog X.w) X.A X.xe use Qf (.ref D) C (.ok .next) s') :
    wpAny (model X.prog X.w) X.A (comprehension (.ListComp elt [⟨tg, iter, ifs, 0⟩] scope pos) scope X.env pos' (newList []) false (eval iter X.env) use) Qf X.xe s := by
  have captured : ∀ y ∈ scope.names, y.2 = .free → ∃ c, X.env.cells.lookup y.1 = some c := fun y hy e => (ok.free y hy e).elim (fun k => I.ok.has _ (.inl k)) (fun k => I.ok.has _ (.inr k))
  refine wpAny_comprehension_free (use := use) rfl hs (closure_ok captured) ok.kind (fun y hy e => (ok.uniq y hy).trans (by rw [e])) ?_
  refine thn (hi.run pins s σ H _ I h) fun xv s1 ⟨x, H1, I1, r1, a, ex, ⟨xs0, hq⟩, q⟩ => ?_
  subst ex
  cases r1
  obtain ⟨its0, rv0, p0, hz0⟩ := I1.list hq
  refine wpAny_pyIter_list p0.isList ?_
  generalize hs2 : ({ s1 with heap := s1.heap.push { cls := .type "list_iterator", data := .fields #[.ref a, .int 0 0] } } : Shared) = s2
  have I2 : Inv X pins σ H1 s2 := by
    rw [← hs2]
    exact I1.kept (t' := s1.toks) fun b o e => Heap.get?_push_of_some _ e
  generalize hit : s1.heap.objs.size = it
  have st2 : s2.heap.IsListIter it a 0 := by
    rw [← hs2, ← hit]
    exact ⟨_, Heap.get?_push_size _ rfl, rfl, rfl⟩
  have f2 : FpOk X pins H1 it := by
    rw [← hit]
    exact I1.fpOk (Nat.le_refl _) (I1.hok.fresh (Nat.le_refl _))
  have zit : z.1 ≠ it := f2.2.2.2.2.2 z (List.mem_append_left _ pz.2)
  refine wpAny_newObj_type (newEnv_comp ?_) (by show 0 ≤ sizeLine; decide)
  generalize hD : s2.heap.objs.size = D
  have newD : H1 D = none := I2.hok.fresh (Nat.le_of_eq hD)
  obtain ⟨W, ⟨m0, w0⟩, turn⟩ := q D newD
  generalize hs3 : ({ s2 with heap := s2.heap.push { cls := .type "list", data := .seq ([] : List Value).toArray } } : Shared) = s3
  have k23 : ∀ {b : Addr} {o : Obj}, s2.heap.get? b = some o → s3.heap.get? b = some o := fun e => by rw [← hs3]; exact Heap.get?_push_of_some _ e
  have I3 : Inv X pins σ (upd H1 D (.lst [])) s3 := by
    rw [← hs3]
    refine I2.laid (t' := s2.toks) (fun _ _ e => Heap.get?_push_of_some _ e) (Nat.le_of_eq hD) ⟨Nat.zero_le _, [], 0, .nil, ?_⟩
    rw [← hD]
    exact Heap.get?_push_size _ rfl
  have itD : it ≠ D := by
    obtain ⟨o, e, _⟩ := st2
    rw [← hD]
    exact Nat.ne_of_lt (Heap.lt_size e)
  have st3 : s3.heap.IsListIter it a 0 := by
    obtain ⟨o, e, c, d⟩ := st2
    exact ⟨o, k23 e, c, d⟩
  have f3 : FpOk X pins (upd H1 D (.lst [])) it := ⟨by rw [upd_ne itD]; exact f2.1, f2.2⟩
  have l3 : it < s3.heap.objs.size := by
    obtain ⟨o, e, _⟩ := st3
    exact Heap.lt_size e
  have I4 := block_start (fp := [it]) I3 ok hN (fun b hb => by
    rw [List.mem_singleton.mp hb]
    exact ⟨f3, l3⟩)
  have z3 := pz.at I3
  have pg := hg s3 (upd H1 D (.lst [])) s3.heap.objs.size (cellsFrom (s3.heap.objs.size + 1) scope.names (cloFrom X.env.cells scope.names [])) [it]
  have pt := ht s3 (upd H1 D (.lst [])) s3.heap.objs.size (cellsFrom (s3.heap.objs.size + 1) scope.names (cloFrom X.env.cells scope.names [])) [it]
  have pe := he s3 (upd H1 D (.lst [])) s3.heap.objs.size (cellsFrom (s3.heap.objs.size + 1) scope.names (cloFrom X.env.cells scope.names [])) [it]
  show codeAny _ _ (.compStart (.ListComp elt [⟨tg, iter, ifs, 0⟩] scope pos) 0 (.ref it) (.ref D) (compEnvC scope (cellsFrom (s3.heap.objs.size + 1) scope.names (cloFrom X.env.cells scope.names [])) s3.heap.objs.size X.env)) (compPost (model X.prog X.w) X.A X.xe use Qf (.ref D) s3.heap.objs.size) { s3 with heap := pushCells (s3.heap.push { cls := .type "dict", data := .dict #[] }) scope.names }
  generalize hce : compEnvC scope (cellsFrom (s3.heap.objs.size + 1) scope.names (cloFrom X.env.cells scope.names [])) s3.heap.objs.size X.env = ce at I4 pg pt pe ⊢
  have cL : ce.locals = s3.heap.objs.size := by rw [← hce]; rfl
  generalize hH3 : upd H1 D (.lst []) = H3 at I3 I4 pg pt pe w0 f3 z3
  generalize hs4 : ({ s3 with heap := pushCells (s3.heap.push { cls := .type "dict", data := .dict #[] }) scope.names } : Shared) = s4 at I4 ⊢
  have k34 : ∀ {b : Addr} {o : Obj}, s3.heap.get? b = some o → s4.heap.get? b = some o := fun e => by rw [← hs4]; exact pushCells_keeps _ _ _ _ (Heap.get?_push_of_some _ e)
  have st4 : s4.heap.IsListIter it a 0 := by
    obtain ⟨o, e, c, d⟩ := st3
    exact ⟨o, k34 e, c, d⟩
  -- the handled error's pin, in the block
  have zs : z.1 ∉ frs X.stack := fun m => (List.mem_cons.mp (I3.stkSub z.1 m)).elim z3.2.2.1 z3.2.2.2.1
  have zC : z.1 ≠ ce.locals := by
    rw [cL]
    exact Nat.ne_of_lt (Heap.lt_size z3.1)
  have I4z : Inv (blkH X z s3 H3 scope ce [it]) [] (wipe σ (own.map (·.2))) H3 s4 :=
    ⟨⟨I4.ok.mod, I4.ok.kind, I4.ok.glob, I4.ok.blt, I4.ok.above, I4.ok.inj, I4.ok.has, I4.ok.cab, I4.ok.hd, I4.ok.frames, I4.ok.stk, I4.ok.exf, I4.ok.bs, I4.ok.bsz, I4.ok.noex, I4.ok.exfs, I4.ok.funs, I4.ok.frf⟩, I4.os, I4.bare, I4.base, I4.loc, I4.cell, I4.free, I4.freeC, fun p hp => by
      have e : p = z := by simpa using (show p ∈ [z] ++ ([] : List (Addr × Obj)) from hp)
      rw [e]
      exact ⟨k34 z3.1, z3.2.1, zC, zs, z3.2.2.2.2⟩, I4.hok, I4.len⟩
  have stat : ∀ {σ' : L2.St} {H' : Hp} {s' : Shared}, Inv (blkH X z s3 H3 scope ce [it]) [] σ' H' s' → H' it = none → FpOk (blkH X z s3 H3 scope ce [it]) [] H' it := fun {σ' H' s'} J hn =>
    ⟨hn, (J.ok.exf it (List.mem_singleton_self _)).1, J.ok.exfs it (List.mem_singleton_self _), .inl (List.mem_singleton_self _), fun x c e => (J.ok.exf it (List.mem_singleton_self _)).2 x c e, fun p hp => by
      have e : p = z := by simpa using (show p ∈ [z] ++ ([] : List (Addr × Obj)) from hp)
      rw [e]
      exact zit⟩
  have hotz : ∀ {σ' : L2.St} {H' : Hp} {s' : Shared}, Inv (blkH X z s3 H3 scope ce [it]) [] σ' H' s' → HotX.HotAt X.A z.1 s'.heap := fun {σ' H' s'} J => by
    obtain ⟨hh, v1, d1, c1⟩ := pz.1
    exact ⟨hh, z.2, v1, (J.pin z (List.mem_append_left _ (List.mem_singleton_self _))).1, d1, c1⟩
  have loop : codeAny (model X.prog X.w) X.A (.compLoop (.ListComp elt [⟨tg, iter, ifs, 0⟩] scope pos) 0 (.ref it) (.ref D) ce) (compPost (model X.prog X.w) X.A X.xe use Qf (.ref D) s3.heap.objs.size) s4 := by
    refine compLoop_any (fun n s' => ∃ i H', Inv (blkH X z s3 H3 scope ce [it]) [] (wipe σ (own.map (·.2))) H' s' ∧ s'.heap.IsListIter it a i ∧ H' it = none ∧ W i n H') ?_ m0 ⟨0, H3, I4z, st4, f3.1, w0⟩
    rintro n s5 ⟨i, H5, I5, st5, n5, w5⟩
    obtain ⟨f50, f51, f52, f53, f54, f55⟩ := stat I5 n5
    rcases turn i n H5 w5 with ⟨⟨xs, hq5, hge⟩, qq⟩ | ⟨⟨xs, y, hq5, hy⟩, Nx, hNx, step⟩
    rotate_left
    · obtain ⟨its, rv, pl, hzl⟩ := I5.list hq5
      have len : xs.length = its.length := rv.length
      obtain ⟨u, hu, ru⟩ := rv.get hy
      refine wpAny_pyNext_list_item st5 pl.isList (x := u) (by simpa using hu) fun g6 st6 sb6 => ?_
      have I6 : Inv (blkH X z s3 H3 scope ce [it]) [] (wipe σ (own.map (·.2))) H5 { s5 with heap := g6 } := I5.turned (t' := s5.toks) (fun b o hb e => (sb6.2 b hb).trans e) f50 f51 f53 f54 f55
      obtain ⟨o6, e6, c6, d6⟩ := id st6
      refine go_of (s := { s5 with heap := g6 }) e6 c6 d6 (by decide) ?_
      have I7 := I6.pinned (fp := [it]) (fun b hb => by
        rw [List.mem_singleton.mp hb]
        exact stat I6 n5) (fun b hb => by
        rw [List.mem_singleton.mp hb]
        exact ⟨o6, e6, fun v q => by rw [d6] at q; cases q⟩)
      refine thnF (pg.run _ _ _ H5 y u _ I7 ru (step y H5 ⟨rfl, fun ys hys => by rw [I5.list_inj hys hq5]; exact hy⟩)) fun _ s8 ⟨σ8, H8, I8, hw8, q8⟩ => ?_
      refine thnF (pt.run _ s8 σ8 H8 _ I8 q8) fun b s9 ⟨H9, I9, q9⟩ => ?_
      have again : ∀ {s' : Shared} {H' : Hp}, Inv (blkH X z s3 H3 scope ce [it]) ([] ++ pinsAt [it] g6) σ8 H' s' → Nx H' →
          ∃ m, m < n ∧ ∃ i H', Inv (blkH X z s3 H3 scope ce [it]) [] (wipe σ (own.map (·.2))) H' s' ∧ s'.heap.IsListIter it a i ∧ H' it = none ∧ W i m H' := fun {s' H'} J nx => by
        obtain ⟨m', hm, w'⟩ := hNx H' nx
        have pin := J.pin (it, o6) (List.mem_append_right _ (List.mem_append_right _ (mem_pinsAt (List.mem_singleton_self _) e6)))
        refine ⟨m', hm, i + 1, H', (J.unpinned (pins := [])).weak (by rw [← hw8, wipe_length]) (fun j v e => ?_), ⟨o6, pin.1, c6, d6⟩, pin.2.1, w'⟩
        rw [← hw8] at e
        exact (wipe_some e).1
      cases b with
      | false =>
        simp only [Bool.false_eq_true, if_false] at q9 ⊢
        exact again I9 q9
      | true =>
        simp only [if_true] at q9 ⊢
        refine thnF (pe.run _ s9 σ8 H9 _ I9 q9) fun _ s10 ⟨yv, H10, I10, r10, acc, a1, a2, nx⟩ => ?_
        exact app_ok (X := blkH X z s3 H3 scope ce [it]) I10 a1 a2 r10 fun s11 I11 => again I11 nx
    · obtain ⟨its, rv, pl, hzl⟩ := I5.list hq5
      have len : xs.length = its.length := rv.length
      refine list_over (hotz I5) st5 pl.isList (by simp; omega) zit fun g6 eb => ?_
      have I6 : Inv (blkH X z s3 H3 scope ce [it]) [] (wipe σ (own.map (·.2))) H5 { s5 with heap := g6 } := I5.turned (t' := s5.toks) (fun b o hb e => eb b o hb e) f50 f51 f53 f54 f55
      have I7 : Inv X pins σ H5 { s5 with heap := g6 } := I3.call' (ch := [it]) I6.os I6.base I6.hok I6.bare fun b hb => by
        rw [List.mem_singleton.mp hb]
        exact ⟨f3.2.2.2.1, f3.2.1, f3.2.2.2.2.1, f3.2.2.2.2.2⟩
      have nC : H5 s3.heap.objs.size = none := cL ▸ I6.free
      obtain ⟨m, hn, _⟩ := I6.loc
      have hn : Heap.Ns g6 ce.locals m := hn
      rw [cL] at hn
      exact fin D s3.heap.objs.size { s5 with heap := g6 } m H5 I7 qq hn (I3.fpOk (Nat.le_refl _) nC)
  exact codeAny_compStart_list loop (wpAny_pyIter_listiter st4 loop)
end
end Vm

set_option Elab.async false
set_option linter.all false
set_option maxRecDepth 100000
/-! VH2: the rules over VH1: a comprehension as a value and as a store; defs that are called with the handled error. -/
namespace Vm
open PySem PySem.Spec PyProof.Rows L2 Evl
section
variable {X : Cx} {elt tg iter : Expr} {ifs : List Expr} {scope : Scope} {own : List (Str × Nat)} {pos : Pos} {te0 : TE} {g : TG} {tt : TT} {te : TE} {z : Addr × Obj}
theorem pe_lcH (pz : PinH X z) (hN : X.N.Nodup) (hi : PE X iter te0) (ok : BlkOk X.N X.env.scope scope own)
    (hg : ∀ (s : Shared) (H : Hp) (C : Addr) (cl : List (Str × Addr)) (fp : List Addr), PG (blkH X z s H scope (compEnvC scope cl C X.env) fp) tg g)
    (ht : ∀ (s : Shared) (H : Hp) (C : Addr) (cl : List (Str × Addr)) (fp : List Addr), PTs (blkH X z s H scope (compEnvC scope cl C X.env) fp) ifs tt)
    (he : ∀ (s : Shared) (H : Hp) (C : Addr) (cl : List (Str × Addr)) (fp : List Addr), PE (blkH X z s H scope (compEnvC scope cl C X.env) fp) elt te) (hs : ∀ x, foldedSetIterable iter X.env x = pure x := by intro _; rfl) :
    PE X (.ListComp elt [⟨tg, iter, ifs, 0⟩] scope pos) (tLc (iList X.K te0) g tt te (own.map (·.2))) := by
  constructor
  intro pins s σ H Q I h
  rw [eval_ListComp]
  exact lcH_run pz hN I hi ok hg ht he hs h fun D C s' m H' J q hn f => ⟨m, hn, fun g6 sb => ⟨.ref D, H', J.turned (t' := s'.toks) (fun b o hb e => (sb.2 b hb).trans e) f.1 f.2.1 f.2.2.2.1 f.2.2.2.2.1 f.2.2.2.2.2, rfl, q⟩⟩
theorem ps_setLcH {i : Nat} {y : Str} {py spos : Pos} (pz : PinH X z) (hN : X.N.Nodup) (hy : X.N[i]? = some y) (hyl : X.env.scope.names.lookup y = some .local)
    (hsw : swapsWith (.ListComp elt [⟨tg, iter, ifs, 0⟩] scope pos) (some (.Name y py)) spos.line X.env = pure true) (hi : PE X iter te0) (ok : BlkOk X.N X.env.scope scope own)
    (hg : ∀ (s : Shared) (H : Hp) (C : Addr) (cl : List (Str × Addr)) (fp : List Addr), PG (blkH X z s H scope (compEnvC scope cl C X.env) fp) tg g)
    (ht : ∀ (s : Shared) (H : Hp) (C : Addr) (cl : List (Str × Addr)) (fp : List Addr), PTs (blkH X z s H scope (compEnvC scope cl C X.env) fp) ifs tt)
    (he : ∀ (s : Shared) (H : Hp) (C : Addr) (cl : List (Str × Addr)) (fp : List Addr), PE (blkH X z s H scope (compEnvC scope cl C X.env) fp) elt te) (hs : ∀ x, foldedSetIterable iter X.env x = pure x := by intro _; rfl) :
    PS X (.Assign [.Name y py] (.ListComp elt [⟨tg, iter, ifs, 0⟩] scope pos) spos) (tAsg (tLc (iList X.K te0) g tt te (own.map (·.2))) (gName i)) := by
  constructor
  intro pins s σ H D I h
  rw [exec_Assign_Name_used _ _ _ _ hsw]
  refine wpAny_bind (wpAny_standAt (wpAny_bind ?_))
  have h : tLc (iList X.K te0) g tt te (own.map (·.2)) σ H (fun x H1 => gName i x σ H1 D.nx) := h
  show wpAny _ X.A (do let _ ← comprehension (.ListComp elt [⟨tg, iter, ifs, 0⟩] scope pos) scope X.env (firstIterPos [⟨tg, iter, ifs, 0⟩] pos) (newList []) false (eval iter X.env) (some (assign (.Name y py) X.env))) _ _ s
  refine wpAny_bind (thn (lcH_run (Qf := fun _ s' => SP X pins D .next s') pz hN I hi ok hg ht he hs h fun L C s' m H' J q hn f => ?_) fun _ s' k => wpAny_pure (wpAny_pure k))
  show wpAny _ _ (assign (.Name y py) X.env (.ref L)) _ _ _
  refine wpAny_assign_Name (store_ok2 (v := V.ref L) J hN hy (.inl hyl) rfl (fun s2 I2 ⟨a, sb, ha⟩ => ?_) (.inr hyl))
  have far : C ≠ a := ha.elim (fun e => by rw [e]; exact f.2.1) (fun e => fun e2 => f.2.2.2.2.1 y a e e2.symm)
  exact ⟨m, hn.sameBut sb far, fun g6 sb6 => ⟨_, H', I2.turned (t' := s2.toks) (fun b o hb e => (sb6.2 b hb).trans e) f.1 f.2.1 f.2.2.2.1 f.2.2.2.2.1 f.2.2.2.2.2, q⟩⟩
end

/-! ### defs that are told the error which is handled -/
structure FnE (P : Program) (w : World) (K : PySem.W.Frag) (mg : Str → Option Value) (base : Heap) (k : Nat) (f : Addr) (fd : FuncData) (ps : List Str) (sp : Addr × Obj → Sp) : Prop where
  len : ∀ p vs H Q E, sp p vs H Q E → vs.length = ps.length
  go : ∀ (A : Around) (outer : List Env) (s : Shared) (H : Hp) (args : Args) (us : List Value) (vs : List V) (Q : VK) (E : XK) (p : Addr × Obj), L2H.RoomH k A → L2H.Hot1 A p → L2H.PinOk outer H s p → Env0 P w K mg base A outer s H →
    BindsTo s fd args (ps.zip us) → Vals vs us → sp p vs H Q E → codeAny (model P w) A (.call (.ref f) args) (CR CX0 outer P w H s Q E) s
section
variable {P : Program} {w : World} {K : PySem.W.Frag} {mg : Str → Option Value} {base : Heap} {k : Nat} {f : Addr} {fd : FuncData} {ps N : List Str} {sp : Addr × Obj → Sp}
theorem fnE_of {x qual : Str} {st : Stmt} (F : Fun K x qual st f fd) (S : FnScope N ps (defScope st)) (len : ∀ p vs H Q E, sp p vs H Q E → vs.length = ps.length)
    (rd : ∀ (cdv : Value) (A : Around) (outer : List Env) (s : Shared) (H : Hp) (vs : List V) (Q : VK) (E : XK) (p : Addr × Obj), L2H.Hot1 A p → L2H.RoomH k (A.deeper (envOfC qual (defScope st) s.heap.objs.size f cdv)) → sp p vs H Q E →
      ∃ t, PSs (L2H.cxH CX0 P w K mg base N qual (defScope st) f cdv A outer s H E p) (defBody st) t ∧ t { nx := fun _ H' => Q .non H', rt := Q } (L2.start N vs) H) :
    FnE P w K mg base (k + 1) f fd ps sp := by
  obtain ⟨oc, od, kV, doc, pm, an, cdv, ct, osl, rfl, lk, cr⟩ := F.ex
  refine ⟨len, fun A outer s H args us vs Q E p room hot pinned e0 binds rel want => ?_⟩
  have inK : K.In s.heap := e0.mod.kin.keeps fun b o z => (e0.bs b o z).1
  refine codeAny_call_function room.depth (inK _ _ lk) rfl S.co S.gen rfl (PySem.W.codeRec_of inK cr) (binds _ _ _ _ ?_)
  refine wpAny_newFunctionEnv_cells S.kind (fun y hy => ?_) fun env same s1 started => ?_
  · rcases S.par y.1 (List.of_mem_zip (show (y.1, y.2) ∈ ps.zip us from hy)).1 with c | c
    · exact .inl c
    · exact .inr ⟨c, PySem.W.cellsFrom_some _ _ _ (.inl c)⟩
  subst same
  have lim : s.heap.NoLimit := e0.mod.nolimit.keeps fun b o z => (e0.bs b o z).1
  refine ⟨lim.keeps started.toInCall.keep, codeAny_func ?_⟩
  obtain ⟨t, read, wish⟩ := rd cdv A outer s H vs Q E p hot (room.deeper _) want
  have inv := L2H.inv_startH (CX := CX0) (P := P) (w := w) (N := N) (ps := ps) (qual := qual) (E := E) S pinned e0 (len _ _ _ _ _ want) rel started
  refine wpAny_mono (read.run [] s1 (L2.start N vs) H _ inv wish) (fun fl s2 out => ?_) fun _ _ z => z
  match fl, out with
  | .ret u, ⟨v, _, H2, inv2, rv, q⟩ => exact ⟨v, H2, inv2.os, inv2.bare, inv2.base, inv2.hok, rv, q⟩
  | .next, ⟨_, H2, inv2, q⟩ => exact ⟨V.non, H2, inv2.os, inv2.bare, inv2.base, inv2.hok, rfl, q⟩
  | .brk, ⟨_, _, _, q⟩ => exact q.elim
  | .cont, ⟨_, _, _, q⟩ => exact q.elim
end
section
variable {X : Cx} {k : Nat} {f : Addr} {fd : FuncData} {ps : List Str} {sp : Addr × Obj → Sp} {x : Str} {p pos : Pos} {e : Expr} {es : List Expr} {t : TA} {z : Addr × Obj}
theorem pe_callE (F : FnE X.prog X.w X.K X.mg X.base k f fd ps sp) (hr : L2H.RoomH k X.A) (pz : PinH X z) (hg : Gl X x) (hm : X.mg x = some (.ref f)) (hk : PySem.W.keepIn X.K (.ref f) = true) (hb : Binds X.K fd ps []) (ha : PA X (e :: es) t)
    (hdb : (x == ("__debug__" : Str)) = false := by decide) (he : starEach (e :: es) X.env = (false, eval e X.env) :: starEach es X.env := by rfl) (hpl : (backTo pos (starEach es X.env)).any (·.1) = false := by rfl) :
    PE X (.Call (.Name x p) (e :: es) [] pos) (tCallS (sp z) (fun _ => E0) t) := by
  constructor
  intro pins s σ H Q I want
  refine wpAny_Call_Name_kw (ld_glob I hg hm ?_ hdb)
  refine PySem.W.callWith_K (h₀ := X.base) I.ok.mod.kin hk (thn (ha.run pos pins s σ H _ I want) fun us s1 ⟨vs, H1, I1, rel, q⟩ => ⟨I1.kIn, ?_⟩) he hpl
  have binds := hb s1 us I1.kIn (by rw [List.append_nil, ← rel.length]; exact F.len _ _ _ _ _ q)
  rw [List.append_nil] at binds
  have pin := pz.at I1
  have pok : L2H.PinOk X.stack H1 s1 z := ⟨pin.1, pin.2.1, fun m => (List.mem_cons.mp (I1.stkSub z.1 m)).elim pin.2.2.1 pin.2.2.2.1, pin.2.2.2.2⟩
  refine wpAny_call (codeAny_mono (F.go X.A X.stack s1 H1 ⟨us, []⟩ us vs Q E0 z hr pz.1 pok I1.env0 binds rel q) fun res s2 out => ?_)
  match res, out with
  | .error er, out => exact out.elim
  | .ok (.ret _), out => exact I1.after out
  | .ok .next, out => exact out.elim
  | .ok .brk, out => exact out.elim
  | .ok .cont, out => exact out.elim
end
end Vm

set_option Elab.async false
set_option linter.all false
set_option maxRecDepth 100000
/-! VN: defs that may raise, called anywhere in a statement; where the error has no context (L2N). -/
namespace Vm
open PySem PySem.Spec PyProof.Rows L2 Evl
section
variable {P : Program} {w : World} {K : PySem.W.Frag} {mg : Str → Option Value} {base : Heap} {CX : CXT} {j k : Nat} {f : Addr} {fd : FuncData} {ps N : List Str} {sp sp' : Sp}
theorem funGN {x qual : Str} {st : Stmt} (F : Fun K x qual st f fd) (S : FnScope N ps (defScope st)) (len : ∀ vs H Q E, sp vs H Q E → vs.length = ps.length)
    (rd : ∀ (cdv : Value) (A : Around) (outer : List Env) (s : Shared) (H : Hp) (vs : List V) (Q : VK) (E : XK), Rg k (A.deeper (envOfC qual (defScope st) s.heap.objs.size f cdv)) → sp vs H Q E →
      ∃ t, PSs (cxOf (L2N.CX P w) P w K mg base N qual (defScope st) f cdv A outer s H E) (defBody st) t ∧ t { nx := fun _ H1 => Q .non H1, rt := Q } (L2.start N vs) H) : FnG P w K mg base (L2N.CX P w) (k + 1) f fd ps sp := by
  obtain ⟨oc, od, kV, doc, pm, an, cdv, ct, osl, rfl, lk, cr⟩ := F.ex
  exact fnG_of lk cr S len fun A outer s H vs Q E r q => rd cdv A outer s H vs Q E r q
structure DefGN (P : Program) (w : World) (K : PySem.W.Frag) (mg : Str → Option Value) (base : Heap) (x : Str) (ps : List Str) (k : Nat) (m : En → Option Res) : Prop where
  ex : ∃ f fd, mg x = some (.ref f) ∧ FnG P w K mg base (L2N.CX P w) k f fd ps (SpM K ps.length m) ∧ PySem.W.keepIn K (.ref f) = true ∧ Binds K fd ps []
theorem FnG.toN (F : FnG P w K mg base CX0 k f fd ps sp) : FnG P w K mg base (L2N.CX P w) k f fd ps sp :=
  ⟨F.len, fun A r outer s H args us vs Q E e0 hb hv q => codeAny_mono (F.go A r outer s H args us vs Q E e0 hb hv q) fun res s2 out => by
    match res, out with
    | .error er, out => exact (show False from out).elim
    | .ok (.ret _), out => exact out
    | .ok .next, out => exact out
    | .ok .brk, out => exact out
    | .ok .cont, out => exact out⟩
theorem DefG.toN {x : Str} {m : En → Option Res} (h : DefG P w K mg base x ps k m) : DefGN P w K mg base x ps k m := by
  obtain ⟨f, fd, h1, F, h2, h3⟩ := h.ex
  exact ⟨f, fd, h1, F.toN, h2, h3⟩
end
section
variable {X : Cx} {x : Str} {ps : List Str} {n k j : Nat} {m : En → Option Res} {p pos : Pos} {e : Expr} {es : List Expr} {t : TA} {W : WX}
theorem pe_dGN (tk : L2N.Takes X W) (h : DefGN X.prog X.w X.K X.mg X.base x ps k m) (hn : ps.length = n) (hr : Rg j X.A) (hj : k ≤ j) (hg : Gl X x) (ha : PA X (e :: es) t)
    (hdb : (x == ("__debug__" : Str)) = false := by decide)
    (he : starEach (e :: es) X.env = (false, eval e X.env) :: starEach es X.env := by rfl) (hpl : (backTo pos (starEach es X.env)).any (·.1) = false := by rfl) : PE X (.Call (.Name x p) (e :: es) [] pos) (tCallS (SpM X.K n m) (WE W) t) := by
  subst hn
  obtain ⟨f, fd, at_f, F, kp, bn⟩ := h.ex
  exact pe_G F (hr.mono hj) hg at_f kp bn (fun σ => L2N.passAt tk σ) ha hdb he hpl
theorem passGN {σ : L2.St} : PassesAt (L2N.CX X.prog X.w) X σ E0 := fun pins H s er s2 inv out => by
  obtain ⟨a, B, H', cls, d, _, _, _, _, _, _, _, z⟩ := out
  exact z.elim
theorem pe_dGNY (h : DefGN X.prog X.w X.K X.mg X.base x ps k m) (hn : ps.length = n) (hr : Rg j X.A) (hj : k ≤ j) (hg : Gl X x) (ha : PA X (e :: es) t)
    (hdb : (x == ("__debug__" : Str)) = false := by decide)
    (he : starEach (e :: es) X.env = (false, eval e X.env) :: starEach es X.env := by rfl) (hpl : (backTo pos (starEach es X.env)).any (·.1) = false := by rfl) : PE X (.Call (.Name x p) (e :: es) [] pos) (tCall (SpM X.K n m) [] E0 t) := by
  subst hn
  rw [tCall_nil]
  obtain ⟨f, fd, at_f, F, kp, bn⟩ := h.ex
  exact pe_G F (hr.mono hj) hg at_f kp bn (fun σ => passGN) ha hdb he hpl
/-! a call of what an expression gives -/
structure HeldN (P : Program) (w : World) (K : PySem.W.Frag) (mg : Str → Option Value) (base : Heap) (k : Nat) (f : Addr) (sp : Sp) : Prop where
  ex : ∃ (fd : FuncData) (ps : List Str), FnG P w K mg base (L2N.CX P w) k f fd ps sp ∧ PySem.W.keepIn K (.ref f) = true ∧ Binds K fd ps []
inductive TblN (P : Program) (w : World) (K : PySem.W.Frag) (mg : Str → Option Value) (base : Heap) (k n : Nat) : Tbl → Prop
  | nil : TblN P w K mg base k n []
  | cons {x : Str} {ps : List Str} {j : Nat} {m : En → Option Res} {tbl : Tbl} (h : DefGN P w K mg base x ps j m) (v : FnAt K mg x) (hj : j ≤ k) (hn : ps.length = n) (t : TblN P w K mg base k n tbl) : TblN P w K mg base k n ((x, m) :: tbl)
theorem TblN.held {P : Program} {w : World} {K : PySem.W.Frag} {mg : Str → Option Value} {base : Heap} {k n : Nat} {tbl : Tbl} (h : TblN P w K mg base k n tbl) : ∀ p ∈ tbl, HeldN P w K mg base k (clsOf K p.1) (SpM K n p.2) := by
  induction h with
  | nil => intro p hp; cases hp
  | cons h v hj hn _ ih =>
    intro p hp
    rcases List.mem_cons.mp hp with rfl | hp
    · subst hn
      obtain ⟨f, fd, h1, F, h3, h4⟩ := h.ex
      have e : some (Value.ref f) = some (.ref (clsOf K _)) := h1.symm.trans v.ex
      cases e
      exact ⟨fd, _, F.up hj, h3, h4⟩
    · exact ih p hp
def tCallF (K : PySem.W.Frag) (W : WX) (n : Nat) (tbl : Tbl) (tf : TE) (ta : TA) : TE := fun σ H Q => tf σ H fun x H1 => ∃ f sp, x = .ref f ∧ tblS K n tbl f = some sp ∧ ta σ H1 fun vs H2 => sp vs H2 Q (WE W σ)
theorem pe_callF {fe : Expr} {tf : TE} {tbl : Tbl} (tk : L2N.Takes X W) (T : TblN X.prog X.w X.K X.mg X.base k n tbl) (hr : Rg j X.A) (hj : k ≤ j) (hf : PE X fe tf) (ha : PA X (e :: es) t)
    (hst : starEach (e :: es) X.env = (false, eval e X.env) :: starEach es X.env := by rfl) (hpl : (backTo pos (starEach es X.env)).any (·.1) = false := by rfl)
    (hcl : eval (.Call fe (e :: es) [] pos) X.env = (do callWith pos (← eval fe X.env) [] (backTo pos (starEach (e :: es) X.env)) (backToKw pos (keywordEach [] X.env))) := by rfl) : PE X (.Call fe (e :: es) [] pos) (tCallF X.K W n tbl tf t) := by
  constructor
  intro pins s σ H Q inv want
  refine Call_ (thn (hf.run pins s σ H _ inv want) fun u s1 ⟨x, H1, inv1, rx, f, sp, ex, hs, q⟩ => ?_) hcl
  subst ex
  cases rx
  unfold tblS at hs
  obtain ⟨r, hq, rfl⟩ := Option.map_eq_some_iff.mp hs
  have e1 : clsOf X.K r.1 = f := by simpa using List.find?_some hq
  subst e1
  obtain ⟨fd, ps, F, kp, bn⟩ := (T.held r (List.mem_of_find?_eq_some hq)).ex
  refine PySem.W.callWith_K (h₀ := X.base) inv1.ok.mod.kin kp (thn (ha.run pos pins s1 σ _ _ inv1 q) fun us s2 got => ?_) hst hpl
  obtain ⟨vs, H2, inv2, rel, w2⟩ := got
  exact ⟨inv2.kIn, run_G F (hr.mono hj) bn (L2N.passAt tk σ) inv2 rel w2⟩
end
section
variable {K : PySem.W.Frag} {C : Ctx} {B B' G H H' : Hp} {env env' : En} {σ : L2.St} {v : V} {r : R} {d : D} {ta tr : TA} {te tb : TE} {tt : TT} {f fa fb : En → Option (R × En)} {fs : En → Option (List R × En)} {X : Cx} {fix : List Nat} {W : WX}
theorem takesN0 : L2N.Takes X fun _ _ _ _ => False := fun u s' ⟨_, _, _, _, _, _, _, _, _, _, _, _, _, _, _, _, z⟩ => z.elim
/-! readings of calls that may raise, where they don't -/
theorem se_callW {n : Nat} {m : En → Option Res} (h : SA K ta fs) : SE K (tCallS (SpM K n m) (WE W) ta) (eCall n m fs) := se_callG (n := n) (m := m) (dv := fun σ => WE W σ) h
theorem se_callBW {n : Nat} {m : En → Option Res} (h : SA K ta fs) : SE K (tCallS (SpM K n m) (WE W) ta) (eCallB n m fs) := se_callBG (n := n) (m := m) (dv := fun σ => WE W σ) h
def eCallF (n : Nat) (tbl : Tbl) (ff : En → Option (R × En)) (fs : En → Option (List R × En)) : En → Option (R × En) := fun env => (ff env).bind fun a => match a.1 with
  | .val (.fn x) => (tbl.lookup x).bind fun m => eCall n m fs a.2
  | _ => none
theorem se_callF {n : Nat} {tbl : Tbl} (nd : (tbl.map fun p => clsOf K p.1).Nodup) (hf : SE K te f) (h : SA K ta fs) : SE K (tCallF K W n tbl te ta) (eCallF n tbl f fs) := by
  intro C hC B env σ H r env' s e Q hq
  obtain ⟨⟨x, e1⟩, g1, e⟩ := Option.bind_eq_some_iff.mp e
  simp only at e
  split at e
  · rename_i y
    obtain ⟨m, hm, e⟩ := Option.bind_eq_some_iff.mp e
    refine hf C hC B env σ H _ e1 s g1 _ fun v B1 H1 s1 x1 rv => ?_
    have rv : Rep C.K B1 v (.fn y) := rv
    cases rv
    rw [hC]
    exact ⟨_, _, rfl, tblS_of nd hm, se_callG (n := n) (m := m) (dv := fun σ => WE W σ) h C hC B1 e1 σ H1 r env' s1 e Q fun v B2 H2 s2 x2 r2 => hq v B2 H2 s2 (x1.trans x2) r2⟩
  · cases e
/-! where they raise: the class, and what is known then -/
def ER (K : PySem.W.Frag) (W : WX) (t : TE) (g : En → Option (Option Str × En)) : Prop :=
  ∀ C : Ctx, C.K = K → ∀ (B : Hp) (env : En) (σ : L2.St) (H : Hp) (c : Str) (env' : En), SR C B env σ H → g env = some (some c, env') →
    ∀ Q : VK, (∀ B' H', SR C B' env' σ H' → Ex B B' → W (.ref (clsOf K c)) none σ H') → t σ H Q
def ERA (K : PySem.W.Frag) (W : WX) (t : TA) (g : En → Option (Option Str × En)) : Prop :=
  ∀ C : Ctx, C.K = K → ∀ (B : Hp) (env : En) (σ : L2.St) (H : Hp) (c : Str) (env' : En), SR C B env σ H → g env = some (some c, env') →
    ∀ Q : List V → Hp → Prop, (∀ B' H', SR C B' env' σ H' → Ex B B' → W (.ref (clsOf K c)) none σ H') → t σ H Q
def ERT (K : PySem.W.Frag) (W : WX) (t : TT) (g : En → Option (Option Str × En)) : Prop :=
  ∀ C : Ctx, C.K = K → ∀ (B : Hp) (env : En) (σ : L2.St) (H : Hp) (c : Str) (env' : En), SR C B env σ H → g env = some (some c, env') →
    ∀ Q : Bool → Hp → Prop, (∀ B' H', SR C B' env' σ H' → Ex B B' → W (.ref (clsOf K c)) none σ H') → t σ H Q
def gCall (n : Nat) (m : En → Option Res) (fs : En → Option (List R × En)) : En → Option (Option Str × En) := fun env => (aD fs env).bind fun a => if a.1.length = n then (m (a.1.map .sh)).map fun r => match r with
  | .val _ _ => (none, a.2)
  | .fr _ _ => (none, a.2)
  | .er c _ => (some c, a.2)
  else none
theorem er_call {n : Nat} {m : En → Option Res} (h : SA K ta fs) : ER K W (tCallS (SpM K n m) (WE W) ta) (gCall n m fs) := by
  intro C hC B env σ H c env' s e Q hq
  obtain ⟨⟨ds, e1⟩, g1, e⟩ := Option.bind_eq_some_iff.mp e
  split at e
  · rename_i hn
    obtain ⟨res, g2, e⟩ := Option.map_eq_some_iff.mp e
    obtain ⟨rs, e0, g3, g4⟩ := aD_some g1
    refine h C hC B env σ H rs e0 s g3 _ fun vs B1 H1 s1 x1 rr => ?_
    obtain ⟨B2, s2, x2, ra⟩ := frzs_w s1 rr.w g4
    rw [hC] at ra
    refine ⟨by rw [ra.length]; exact hn, B2, _, res, sr_args ra s2.exB, g2, ?_⟩
    cases res with
    | val d ae => cases e
    | fr xs ae => cases e
    | er c' ae =>
      cases e
      exact fun B' H' s' x => hq B' H' (s2.called (fun _ => off_args) s' x) ((x1.trans x2).trans x)
  · cases e
def gCallF (n : Nat) (tbl : Tbl) (ff : En → Option (R × En)) (fs : En → Option (List R × En)) : En → Option (Option Str × En) := fun env => (ff env).bind fun a => match a.1 with
  | .val (.fn x) => (tbl.lookup x).bind fun m => gCall n m fs a.2
  | _ => none
theorem er_callF {n : Nat} {tbl : Tbl} (nd : (tbl.map fun p => clsOf K p.1).Nodup) (hf : SE K te f) (h : SA K ta fs) : ER K W (tCallF K W n tbl te ta) (gCallF n tbl f fs) := by
  intro C hC B env σ H c env' s e Q hq
  obtain ⟨⟨x, e1⟩, g1, e⟩ := Option.bind_eq_some_iff.mp e
  simp only at e
  split at e
  · rename_i y
    obtain ⟨m, hm, e⟩ := Option.bind_eq_some_iff.mp e
    refine hf C hC B env σ H _ e1 s g1 _ fun v B1 H1 s1 x1 rv => ?_
    have rv : Rep C.K B1 v (.fn y) := rv
    cases rv
    rw [hC]
    exact ⟨_, _, rfl, tblS_of nd hm, er_call (n := n) (m := m) h C hC B1 e1 σ H1 c env' s1 e Q fun B2 H2 s2 x2 => hq B2 H2 s2 (x1.trans x2)⟩
  · cases e
def gThen (f : En → Option (R × En)) (g : En → Option (Option Str × En)) : En → Option (Option Str × En) := fun env => (f env).bind fun a => g a.2
/-- first g1 may raise, then g2 -/
def gOr (g1 g2 : En → Option (Option Str × En)) : En → Option (Option Str × En) := fun env => (g1 env).bind fun a => match a.1 with
  | some c => some (some c, a.2)
  | none => g2 env
section
variable {g g1 g2 : En → Option (Option Str × En)} {ds : List V} {E : L2.St → XK} {E1 : XK} {sp : Sp} {r2 : R2} {r1 : V → Hp → VK → Prop} {rb : List V → Hp → VK → Prop}
theorem er_op (h : ER K W te g) : ER K W (tOp r2 te tb) g := fun C hC B env σ H c e s hg Q hq => h C hC B env σ H c e s hg _ hq
theorem er_or (h1 : ER K W te g1) (h2 : ER K W te g2) : ER K W te (gOr g1 g2) := by
  intro C hC B env σ H c e s hg Q hq
  obtain ⟨⟨x, e1⟩, k1, hg⟩ := Option.bind_eq_some_iff.mp hg
  cases x with
  | some c1 =>
    cases hg
    exact h1 C hC B env σ H _ _ s k1 Q hq
  | none => exact h2 C hC B env σ H c e s hg Q hq
theorem era_1 (h : ER K W te g) : ERA K W (tCons te tr) g := fun C hC B env σ H c e s hg Q hq => h C hC B env σ H c e s hg _ hq
theorem era_2 (hf : SE K te f) (h : ERA K W tr g) : ERA K W (tCons te tr) (gThen f g) := by
  intro C hC B env σ H c e s hg Q hq
  obtain ⟨⟨x, e1⟩, k1, hg⟩ := Option.bind_eq_some_iff.mp hg
  exact hf C hC B env σ H x e1 s k1 _ fun v B1 H1 s1 x1 rv => h C hC B1 e1 σ H1 c e s1 hg _ fun B2 H2 s2 x2 => hq B2 H2 s2 (x1.trans x2)
theorem er_cb (h : ERA K W ta g) : ER K W (tCB rb ta) g := fun C hC B env σ H c e s hg Q hq => h C hC B env σ H c e s hg _ hq
theorem er_ca (h : ERA K W ta g) : ER K W (tCall sp ds E1 ta) g := fun C hC B env σ H c e s hg Q hq => h C hC B env σ H c e s hg _ hq
theorem er_cs (h : ERA K W ta g) : ER K W (tCallS sp E ta) g := fun C hC B env σ H c e s hg Q hq => h C hC B env σ H c e s hg _ hq
theorem ert_e (h : ER K W te g) : ERT K W (tTest te) g := fun C hC B env σ H c e s hg Q hq => h C hC B env σ H c e s hg _ hq
theorem ert_b (h : ER K W te g) : ERT K W (tB te) g := fun C hC B env σ H c e s hg Q hq => h C hC B env σ H c e s hg _ hq
theorem ert_not (h : ERT K W tt g) : ERT K W (tNot tt) g := fun C hC B env σ H c e s hg Q hq => h C hC B env σ H c e s hg _ hq
end
/-! statements with them -/
section
variable {g : En → Option (Option Str × En)}
def xOr (g : En → Option (Option Str × En)) (F : En → Option Out) : En → Option Out := fun env => (g env).bind fun a => match a.1 with
  | some c => some (.er c a.2)
  | none => F env
theorem x_er {F : En → Option Out} {c : Str} {e : En} (h : g env = some (some c, e)) : xOr g F env = some (.er c e) := by
  unfold xOr
  rw [h]
  rfl
theorem x_ok {F : En → Option Out} {e : En} (h : g env = some (none, e)) : xOr g F env = F env := by
  unfold xOr
  rw [h]
  rfl
theorem ss_xor {ts : TS} {F : En → Option Out} (h : SS K fix W ts F) (hr : ∀ C : Ctx, C.K = K → ∀ (B : Hp) (env : En) (σ : L2.St) (H : Hp) (c : Str) (env' : En), SR C B env σ H → g env = some (some c, env') →
    ∀ D : Ends, (∀ B' H', SR C B' env' σ H' → Ex B B' → W (.ref (clsOf K c)) none σ H') → ts D σ H) : SS K fix W ts (xOr g F) := by
  intro C hC hF B env σ H o s e D p
  obtain ⟨⟨x, e1⟩, g1, e⟩ := Option.bind_eq_some_iff.mp e
  cases x with
  | some c =>
    cases e
    refine hr C hC B env σ H c e1 s g1 D fun B' H' s' x => ?_
    have q := p B' σ H' s' x
    rw [hC] at q
    exact q
  | none => exact h C hC hF B env σ H o s e D p
theorem ss_exprN (h : SE K te f) (hr : ER K W te g) : SS K fix W (tDrop te) (xOr g (sExpr f)) := ss_xor (ss_expr h) fun C hC B env σ H c e s hg D hq => hr C hC B env σ H c e s hg _ hq
theorem ss_retNX (h : SE K te f) (hr : ER K W te g) : SS K fix W (tRet te) (xOr g (sRet f)) := ss_xor (ss_ret h) fun C hC B env σ H c e s hg D hq => hr C hC B env σ H c e s hg _ hq
theorem ss_setN {i : Nat} (h : SE K te f) (hr : ER K W te g) (hi : i ∉ fix) : SS K fix W (tAsg te (gName i)) (xOr g (sSet i f)) := ss_xor (ss_set h hi) fun C hC B env σ H c e s hg D hq => hr C hC B env σ H c e s hg _ hq
theorem ss_ifN {fb : En → Option (Bool × En)} {t1 t2 : TS} {F G : En → Option Out} (h : ST K tt fb) (hr : ERT K W tt g) (h1 : SS K fix W t1 F) (h2 : SS K fix W t2 G) : SS K fix W (tIfS tt t1 t2) (xOr g (sIf fb F G)) :=
  ss_xor (ss_if h h1 h2) fun C hC B env σ H c e s hg D hq => hr C hC B env σ H c e s hg _ hq
end
end
end Vm

set_option Elab.async false
set_option linter.all false
set_option maxRecDepth 100000
/-! VE: isinstance of the error that is handled; the def that tells its kind; repr of data with dicts. -/
namespace Vm
open PySem PySem.Spec PyProof.Rows L2 Evl
/-! ### classes of errors -/
structure ErrC (K : PySem.W.Frag) (ts : List Str) (c : Str) : Prop where
  exc : ExcC K (clsOf K c)
  kit : ∀ t ∈ ts, PySem.W.kitOne K (.ref (clsOf K c)) (.ref (clsOf K t)) = some (t == c || t == ("NestError" : Str))
  val : PySem.W.kitOne K (.ref (clsOf K c)) (.type "ValueError") = some true
def excOk (K : PySem.W.Frag) (D : Addr) : Bool :=
  PySem.W.findIn K (.ref D) "__getattribute__" == some (some (.builtin "BaseException.__getattribute__")) && (PySem.W.findIn K (.ref D) "__getattr__" == some none && (PySem.W.subIn K (.ref D) (.type "BaseException") == some true &&
  (PySem.W.hasDictIn K D && (PySem.W.findIn K (.ref D) "__class__" == some (some (.builtin "object.__class__")) && (PySem.W.specialIn K (.builtin "object.__class__") "__get__" == some (some (.builtin "getset_descriptor.__get__")) &&
  (PySem.W.takesIn K (.builtin "object.__class__") == some true && PySem.W.mroIn K D (.type "object") == some true))))))
theorem excC_of {K : PySem.W.Frag} {D : Addr} (h : excOk K D = true) : ExcC K D := by
  unfold excOk at h
  simp only [Bool.and_eq_true, beq_iff_eq] at h
  obtain ⟨h1, h2, h3, h4, h5, h6, h7, h8⟩ := h
  exact ⟨h1, h2, h3, h4, h5, h6, h7, h8⟩
def errOk (K : PySem.W.Frag) (ts : List Str) (c : Str) : Bool :=
  excOk K (clsOf K c) && (ts.all (fun t => PySem.W.kitOne K (.ref (clsOf K c)) (.ref (clsOf K t)) == some (t == c || t == ("NestError" : Str))) && PySem.W.kitOne K (.ref (clsOf K c)) (.type "ValueError") == some true)
theorem errC_of {K : PySem.W.Frag} {ts : List Str} {c : Str} (h : errOk K ts c = true) : ErrC K ts c := by
  unfold errOk at h
  simp only [Bool.and_eq_true, beq_iff_eq, List.all_eq_true] at h
  exact ⟨excC_of h.1, h.2.1, h.2.2⟩
/-- what isinstance says of an error of the class c -/
def subE (ts : List Str) (c : Str) : D → Option Bool
  | .fn t => if t ∈ ts then some (t == c || t == ("NestError" : Str)) else none
  | .ty n => if n = "ValueError" then some true else none
  | _ => none
def anyE (ts : List Str) (c : Str) : List D → Option Bool
  | [] => some false
  | d :: ds => (subE ts c d).bind fun x => (anyE ts c ds).map fun y => x || y
def bIsE (ts : List Str) (a : Addr) (c : Str) : List D → Option D
  | [.ref b, .tup ds] => if b = a then (anyE ts c ds).map .bl else none
  | [.ref b, d] => if b = a then (subE ts c d).map .bl else none
  | _ => none
def rIsP (K : PySem.W.Frag) (D a : Addr) : List V → Hp → VK → Prop := fun xs H Q => rIsE K D a xs H Q ∨ ∃ tp cs us b, xs = [.ref a, .ref tp] ∧ SqT K H tp cs ∧ Paired ClsV cs us ∧ PySem.W.kitAny K (.ref D) us = some b ∧ Q (.bl b) H
section
variable {X : Cx} {z : Addr × Obj} {D : Addr}
theorem inst_pin {pins : List (Addr × Obj)} {σ : L2.St} {H : Hp} {s : Shared} (pz : PinH X z) (hc : z.2.cls = .ref D) (hd : z.2.dict = none) (I : Inv X pins σ H s) : PySem.W.InstAt s.heap z.1 z.2 D none := by
  obtain ⟨hh, vs, hv, _⟩ := pz.1
  have g := (pz.at I).1
  obtain ⟨a, ⟨oc, od, oda, osl⟩⟩ := z
  dsimp only at hc hd hv g
  subst hc hd hv
  exact ⟨g, rfl, rfl, trivial⟩
theorem call_isP (pz : PinH X z) (C : ExcC X.K D) (hc : z.2.cls = .ref D) (hd : z.2.dict = none) : CallR X (.builtin "isinstance") (rIsP X.K D z.1) := by
  intro pins s σ H xs us Q I r h
  have J := inst_pin pz hc hd I
  have Kx := PySem.W.handS_kitx_exc (x := z.1) (ox := z.2) C.hg C.hk C.hs C.hd C.ha C.hn C.ht C.hm
  rcases h with ⟨c, cv, b, rfl, hcv, e, q⟩ | ⟨tp, cs, ws, b, rfl, hT, k, e, q⟩
  · obtain ⟨u1, u2, rfl, r1, r2⟩ := vals2 r
    cases r1
    have ec := hcv _ r2
    subst ec
    exact PySem.W.kia_one Kx I.kIn J e (fun z => nomatch z) fun tk => ⟨.bl b, H, I.kept (t' := tk) fun _ _ z => z, rfl, q⟩
  · obtain ⟨u1, u2, rfl, r1, r2⟩ := vals2 r
    cases r1
    cases (show u2 = Value.ref tp from r2)
    obtain ⟨its, rv, p, hz⟩ := I.tuple hT
    have e3 := ClsV.all k rv
    subst e3
    obtain ⟨o, h1, h2, n, h3⟩ := p
    obtain ⟨oc, od, dt, sl⟩ := o
    simp only at h2 h3
    subst h2 h3
    exact PySem.W.kia_tup Kx I.kIn J h1 e (fun z => nomatch z) fun tk => ⟨.bl b, H, I.kept (t' := tk) fun _ _ z => z, rfl, q⟩
end
section
variable {K : PySem.W.Frag} {C : Ctx} {B B' G H H' : Hp} {env env' : En} {σ : L2.St} {v : V} {r : R} {d : D} {ts : List Str} {c : Str} {a : Addr}
theorem cls_one {b : Bool} {d : D} {w : V} (E : ErrC K ts c) (h : subE ts c d = some b) (k : RepK K B H w d) : ∃ cv, ClsV w cv ∧ PySem.W.kitOne K (.ref (clsOf K c)) cv = some b := by
  unfold subE at h
  split at h
  · rename_i t
    split at h
    · rename_i ht
      cases h
      have k := k.scal fun _ z => by cases z
      cases k
      exact ⟨_, .own _, E.kit _ ht⟩
    · cases h
  · rename_i n
    split at h
    · rename_i ht
      cases h
      subst ht
      have k := k.scal fun _ z => by cases z
      cases k
      exact ⟨_, .ty _, E.val⟩
    · cases h
  · cases h
theorem cls_all (E : ErrC K ts c) : ∀ {ds : List D} {ws : List V} {b : Bool}, anyE ts c ds = some b → RepAll K B ws ds → ∃ us, Paired ClsV ws us ∧ PySem.W.kitAny K (.ref (clsOf K c)) us = some b
  | [], _, b, h, .nil => ⟨[], .nil, h⟩
  | d :: ds, _, b, h, .cons (v := w) (vs := ws) r rs => by
    obtain ⟨x, q, h⟩ := Option.bind_eq_some_iff.mp h
    obtain ⟨y, g, rfl⟩ := Option.map_eq_some_iff.mp h
    obtain ⟨cv, k1, k2⟩ := cls_one (H := fun _ => none) E q (.inl r)
    obtain ⟨us, k3, k4⟩ := cls_all E g rs
    exact ⟨cv :: us, .cons k1 k3, kitAny_cons k2 (fun z => by rw [k4, z, Bool.false_or]) (fun z => by rw [z, Bool.true_or])⟩
theorem ClsV.one {w : V} {cv : Value} (k : ClsV w cv) : ∀ u, RelV w u → u = cv := fun u r => k.eq r
theorem rc_isE (E : ErrC K ts c) : RC K (rIsP K (clsOf K c) a) (bIsE ts a c) := by
  intro C hC B env σ H vs ds z s rx e Q hq
  unfold bIsE at e
  split at e
  · split at e
    · rename_i hb
      obtain ⟨x, g, rfl⟩ := Option.map_eq_some_iff.mp e
      obtain ⟨v, w, rfl, k1, k2⟩ := rx.two
      have hv : v = V.ref a := by
        rw [← hb]
        exact repK_sc (d := .ref _) rfl k1
      subst hv
      obtain ⟨t, cs, rfl, h1, h2⟩ := (k2.scal fun _ z => by cases z).tuple
      obtain ⟨us, p1, p2⟩ := cls_all E g h2
      exact .inr ⟨t, cs, us, x, rfl, ex_t s.exB h1, p1, p2, hq (.bl x) B H s (Ex.refl _) (.bl x)⟩
    · cases e
  · split at e
    · rename_i hb
      obtain ⟨x, g, rfl⟩ := Option.map_eq_some_iff.mp e
      obtain ⟨v, w, rfl, k1, k2⟩ := rx.two
      have hv : v = V.ref a := by
        rw [← hb]
        exact repK_sc (d := .ref _) rfl k1
      subst hv
      obtain ⟨cv, p1, p2⟩ := cls_one E g k2
      exact .inl ⟨w, cv, x, rfl, Vm.ClsV.one p1, p2, hq (.bl x) B H s (Ex.refl _) (.bl x)⟩
    · cases e
  · cases e
end

/-! ### the def that tells the kind of the error that is handled -/
def spErr (K : PySem.W.Frag) (cs : List Str) (mm : Addr → Str → En → Option Res) : Addr × Obj → Sp := fun p vs H Q E => ∃ c, c ∈ cs ∧ p.2.cls = .ref (clsOf K c) ∧ p.2.dict = none ∧ vs = [.ref p.1] ∧ SpM K 1 (mm p.1 c) vs H Q E
def tErrC (K : PySem.W.Frag) (cs : List Str) (mm : Addr → Str → En → Option Res) (i : Nat) (a : Addr) (cls : Value) (d : Option Addr) : TE := fun σ H Q => ∃ c, c ∈ cs ∧ cls = .ref (clsOf K c) ∧ d = none ∧ σ[i]? = some (some (.ref a)) ∧ SpM K 1 (mm a c) [.ref a] H Q E0
theorem pe_errC {X : Cx} {a : Addr} {oe : Obj} {cls : Value} {d : Option Addr} {pn : List (Addr × Obj)} {k i : Nat} {f : Addr} {fd : FuncData} {ps : List Str} {cs : List Str} {mm : Addr → Str → En → Option Res} {x n : Str} {p q pos : Pos} (hz : L2N.Zn cls d oe) (hv : ∃ vs, oe.data = .fields vs)
    (F : FnE X.prog X.w X.K X.mg X.base k f fd ps (spErr X.K cs mm)) (hr : L2H.RoomH k X.A) (hg : Gl (X.suite a ((a, oe) :: pn)) x) (hm : X.mg x = some (.ref f)) (hk : PySem.W.keepIn X.K (.ref f) = true) (hb : Binds X.K fd ps []) (hN : X.N[i]? = some n) (hV : Vis X.env.scope n)
    (hdb : (x == ("__debug__" : Str)) = false := by decide) (hd1 : (n == ("__debug__" : Str)) = false := by decide) (hd2 : (n == ("__classdict__" : Str)) = false := by decide)
    (he : starEach [.Name n q] X.env = (false, eval (.Name n q) X.env) :: starEach [] X.env := by rfl) (hpl : (backTo pos (starEach [] X.env)).any (·.1) = false := by rfl) :
    PE (X.suite a ((a, oe) :: pn)) (.Call (.Name x p) [.Name n q] [] pos) (tErrC X.K cs mm i a cls d) := by
  constructor
  intro pins s σ H Q I want
  obtain ⟨c, hc, rfl, rfl, hs, want⟩ := want
  obtain ⟨vs, hvs⟩ := hv
  have pz : PinH (X.suite a ((a, oe) :: pn)) (a, oe) := ⟨⟨rfl, vs, hvs, hz.2.2 vs hvs⟩, List.mem_cons_self⟩
  exact (pe_callE (X := X.suite a ((a, oe) :: pn)) (sp := spErr X.K cs mm) F ⟨hr.dp, hr.un⟩ pz hg hm hk hb (pa_cons (pe_var hN hV hd1 hd2) pa_nil) hdb he hpl).run pins s σ H Q I ⟨_, hs, c, hc, hz.1, hz.2.1, rfl, want⟩
def sNamed (told : Nat) (cs : List Str) (zn : Str → Option Str) : Str → En → Option Out := fun c env => if c ∈ cs then (zn c).map fun z => .nx (env.set told (.sh (.str z))) else none
theorem sh_named {K : PySem.W.Frag} {fix : List Nat} {cs : List Str} {mm : Addr → Str → En → Option Res} {i told : Nat} {zn : Str → Option Str} (ht : told ∉ fix) (hz : ∀ a c z, c ∈ cs → zn c = some z → ∃ e, mm a c [.sh (.ref a)] = some (.val (.str z) e)) :
    SH K fix i (fun a cls d => tAsg (tErrC K cs mm i a cls d) (gName told)) (sNamed told cs zn) := by
  intro C hC hF B env σ H o c a s hun hs na e De p
  unfold sNamed at e
  split at e
  · rename_i hc
    obtain ⟨z, g, rfl⟩ := Option.map_eq_some_iff.mp e
    obtain ⟨ae, hm⟩ := hz a c z hc g
    have ra : RepAll K B [V.ref a] [D.ref a] := .cons (.ref a) .nil
    refine ⟨c, hc, rfl, rfl, hs, rfl, B, [.sh (.ref a)], _, sr_args ra s.exB, hm, fun v B' H' s' x rv => ?_⟩
    cases rv
    have s2 := s.called (fun _ => off_args (ds := [D.ref a]) (vs := [V.ref a])) s' x
    exact p B' _ H' (s2.setV (i := told) (v := .str z) (t := .sh (.str z)) (by rw [hF]; exact ht) (.str z)) x
  · cases e
end Vm

set_option Elab.async false
set_option linter.all false
set_option maxRecDepth 100000
/-! VP: repr of data in which dicts of numbers stand. -/
namespace Vm
open PySem PySem.Spec PyProof.Rows L2 Evl
section
variable {prog : Program} {w : World} {h : Heap}
mutual
/-- how data is read, no dict being the table of modules -/
inductive RdS (h : Heap) : Value → PyData → Prop
  | none : RdS h .none .none
  | bool (b : Bool) : RdS h (.bool b) (.bool b)
  | int (i : Int) (t : Tok) : RdS h (.int i t) (.int i)
  | str (x : Str) (t : Tok) : RdS h (.str x t) (.str x)
  | list {a : Addr} {o : Obj} {vs : Array Value} {n : Nat} {ds : List PyData} : h.get? a = some o → o.cls = .type "list" → o.data = .seq vs n → RdSs h vs.toList ds → RdS h (.ref a) (.list ds)
  | tuple {a : Addr} {o : Obj} {vs : Array Value} {n : Nat} {ds : List PyData} : h.get? a = some o → o.cls = .type "tuple" → o.data = .seq vs n → RdSs h vs.toList ds → RdS h (.ref a) (.tuple ds)
  | dict {a : Addr} {o : Obj} {es : Array DictEntry} {n : Nat} {kvs : List (PyData × PyData)} : h.get? a = some o → o.cls = .type "dict" → o.data = .dict es n → (a == sysModules) = false →
      ReadsAll h (es.toList.map (·.key)) (kvs.map (·.1)) [] → ReadsAll h (es.toList.map (·.val)) (kvs.map (·.2)) [] → RdS h (.ref a) (.dict kvs)
inductive RdSs (h : Heap) : List Value → List PyData → Prop
  | nil : RdSs h [] []
  | cons {v : Value} {vs : List Value} {d : PyData} {ds : List PyData} : RdS h v d → RdSs h vs ds → RdSs h (v :: vs) (d :: ds)
end
mutual
theorem RdS.reads : ∀ {v : Value} {d : PyData}, RdS h v d → ∃ as, Reads h v d as
  | _, _, .none => ⟨_, .none⟩
  | _, _, .bool b => ⟨_, .bool b⟩
  | _, _, .int i t => ⟨_, .int i t⟩
  | _, _, .str x t => ⟨_, .str x t⟩
  | _, _, .list h1 h2 h3 h4 => (RdSs.reads h4).imp' _ fun _ r => .list h1 h2 h3 r
  | _, _, .tuple h1 h2 h3 h4 => (RdSs.reads h4).imp' _ fun _ r => .tuple h1 h2 h3 r
  | _, _, .dict h1 h2 h3 _ h4 h5 => ⟨_, .dict h1 h2 h3 h4 h5⟩
theorem RdSs.reads : ∀ {vs : List Value} {ds : List PyData}, RdSs h vs ds → ∃ as, ReadsAll h vs ds as
  | _, _, .nil => ⟨_, .nil⟩
  | _, _, .cons r rs => by
    obtain ⟨as, r⟩ := RdS.reads r
    obtain ⟨bs, rs⟩ := RdSs.reads rs
    exact ⟨_, .cons r rs⟩
end
theorem flat_rd {vs : List Value} {ds : List PyData} (r : ReadsAll h vs ds []) (hs : PyData.showableAll ds = true) (hz : ∀ t ∈ PyData.shownAll ds, t.length ≤ sizeLine) :
    ∃ bs, ReadAtMost h (PyData.depthAll ds) bs ∧ ReprAllK prog w bs h (PyData.depthAll ds) vs (PyData.shownAll ds) := ReprAllK.of_readsAll r hs (fun _ => List.not_mem_nil) hz
mutual
theorem RdS.repr : ∀ {v : Value} {d : PyData}, RdS h v d → d.showable = true → d.shown.length ≤ sizeLine → ∃ bs, ReadAtMost h d.depth bs ∧ ReprK prog w bs h d.depth v d.shown
  | _, _, .none, hs, hz => ReprK.of_reads .none hs (fun _ => List.not_mem_nil) hz
  | _, _, .bool b, hs, hz => ReprK.of_reads (.bool b) hs (fun _ => List.not_mem_nil) hz
  | _, _, .int i t, hs, hz => ReprK.of_reads (.int i t) hs (fun _ => List.not_mem_nil) hz
  | _, _, .str x t, hs, hz => ReprK.of_reads (.str x t) hs (fun _ => List.not_mem_nil) hz
  | _, _, .list (a := a) (vs := vs) (ds := ds) h1 h2 h3 h4, hs, hz => by
    have fits : (listText (PyData.shownAll ds)).length ≤ sizeLine := by simpa only [PyData.shown] using hz
    obtain ⟨as, r4⟩ := RdSs.reads h4
    have r : Reads h (.ref a) (.list ds) _ := .list h1 h2 h3 r4
    obtain ⟨bs, b1, b2⟩ := RdSs.repr h4 (by simpa [PyData.showable] using hs) (fun t ht => Nat.le_trans (listText_mem_le ht) fits)
    have out : a ∉ bs := not_mem_of_deeper r (by simp only [PyData.depth]; omega) b1
    refine ⟨a :: bs, b1.cons r (by simp only [PyData.depth]; omega), ?_⟩
    simp only [PyData.depth, PyData.shown]
    obtain ⟨l⟩ := vs
    match l, r4, b2, h3 with
    | [], r4, _, h3 =>
      cases (show ReadsAll h [] ds _ from r4)
      simp only [PyData.shownAll, listText_nil]
      exact ReprK.listEmpty h1 h2 h3
    | x :: l, _, b2, h3 => exact ReprK.list h1 h2 h3 out (by simpa using b2.length_eq) (fun i y e => b2.item i y (by simpa using e))
  | _, _, .tuple (a := a) (ds := ds) h1 h2 h3 h4, hs, hz => by
    have fits : (tupleText (PyData.shownAll ds)).length ≤ sizeLine := by simpa only [PyData.shown] using hz
    obtain ⟨as, r4⟩ := RdSs.reads h4
    have r : Reads h (.ref a) (.tuple ds) _ := .tuple h1 h2 h3 r4
    obtain ⟨bs, b1, b2⟩ := RdSs.repr h4 (by simpa [PyData.showable] using hs) (fun t ht => Nat.le_trans (tupleText_mem_le ht) fits)
    have out : a ∉ bs := not_mem_of_deeper r (by simp only [PyData.depth]; omega) b1
    refine ⟨a :: bs, b1.cons r (by simp only [PyData.depth]; omega), ?_⟩
    simp only [PyData.depth, PyData.shown]
    exact ReprK.tuple h1 h2 h3 out b2
  | _, _, .dict (a := a) (es := es) (kvs := kvs) h1 h2 h3 hy h4 h5, hs, hz => by
    have fits : (dictText (PyData.shownKv kvs)).length ≤ sizeLine := by simpa only [PyData.shown] using hz
    obtain ⟨s1, s2⟩ := PyData.showableKv_split kvs (by simpa [PyData.showable] using hs)
    obtain ⟨b1, p1, q1⟩ := flat_rd (prog := prog) (w := w) h4 s1 (fun t ht => (PyData.shownKv_key_le kvs t ht).elim fun p hp => Nat.le_trans hp.2 (Nat.le_trans (dictText_mem_le hp.1) fits))
    obtain ⟨b2, p2, q2⟩ := flat_rd (prog := prog) (w := w) h5 s2 (fun t ht => (PyData.shownKv_val_le kvs t ht).elim fun p hp => Nat.le_trans hp.2 (Nat.le_trans (dictText_mem_le hp.1) fits))
    have r : Reads h (.ref a) (.dict kvs) _ := .dict h1 h2 h3 h4 h5
    have p12 : ReadAtMost h (PyData.depthKv kvs) (b1 ++ b2) := (p1.mono (PyData.depthAll_keys_le kvs)).append (p2.mono (PyData.depthAll_vals_le kvs))
    have out : a ∉ b1 ++ b2 := not_mem_of_deeper r (by simp only [PyData.depth]; omega) p12
    refine ⟨a :: (b1 ++ b2), p12.cons r (by simp only [PyData.depth]; omega), ?_⟩
    simp only [PyData.depth, PyData.shown, PyData.shownKv_eq]
    exact ReprK.dict h1 h2 h3 hy out (ReprEntriesK.of_two es.toList _ _ (q1.more_le (fun b hb => List.mem_append_left _ hb) (PyData.depthAll_keys_le kvs)) (q2.more_le (fun b hb => List.mem_append_right _ hb) (PyData.depthAll_vals_le kvs)))
theorem RdSs.repr : ∀ {vs : List Value} {ds : List PyData}, RdSs h vs ds → PyData.showableAll ds = true → (∀ t ∈ PyData.shownAll ds, t.length ≤ sizeLine) → ∃ bs, ReadAtMost h (PyData.depthAll ds) bs ∧ ReprAllK prog w bs h (PyData.depthAll ds) vs (PyData.shownAll ds)
  | _, _, .nil, _, _ => ⟨[], (fun _ k => nomatch k), by simp only [PyData.shownAll]; exact .nil⟩
  | _, _, .cons (d := d) (ds := ds) r rs, hs, hz => by
    have both : d.showable = true ∧ PyData.showableAll ds = true := by simpa [PyData.showableAll] using hs
    obtain ⟨b1, p1, q1⟩ := RdS.repr r both.1 (hz _ (by simp only [PyData.shownAll]; exact List.mem_cons_self))
    obtain ⟨b2, p2, q2⟩ := RdSs.repr rs both.2 (fun t ht => hz t (by simp only [PyData.shownAll]; exact List.mem_cons_of_mem _ ht))
    refine ⟨b1 ++ b2, ?_, ?_⟩
    · simp only [PyData.depthAll]
      exact (p1.mono (Nat.le_max_left _ _)).append (p2.mono (Nat.le_max_right _ _))
    · simp only [PyData.depthAll, PyData.shownAll]
      exact .cons ((q1.more fun b hb => List.mem_append_left _ hb).level_le (Nat.le_max_left _ _)) (q2.more_le (fun b hb => List.mem_append_right _ hb) (Nat.le_max_right _ _))
end
theorem RdS.shows {a : Addr} {d : PyData} (r : RdS h (.ref a) d) (hs : d.showable = true) (hz : d.shown.length ≤ sizeLine) : ∃ T idr, ShowsBy prog w h a d T idr := by
  have rr := r
  cases r with
  | list h1 h2 h3 h4 =>
    rename_i o vs n ds
    have fits : (listText (PyData.shownAll ds)).length ≤ sizeLine := by simpa only [PyData.shown] using hz
    obtain ⟨as, r4⟩ := RdSs.reads h4
    obtain ⟨bs, b1, b2⟩ := RdSs.repr (prog := prog) (w := w) h4 (by simpa [PyData.showable] using hs) (fun t ht => Nat.le_trans (listText_mem_le ht) fits)
    have out : a ∉ bs := not_mem_of_deeper (.list h1 h2 h3 r4) (by simp only [PyData.depth]; omega) b1
    refine ⟨"list", "list.__repr__", F.slot_list_repr.toG, F.slot_list_str, F.slot_list_format, fun s hk => ⟨o, hk _ _ h1, h2⟩, fun A E s Q hg hu hk hQ => ?_⟩
    simp only [PyData.depth] at hu
    simp only [PyData.shown] at hQ
    obtain ⟨l⟩ := vs
    match l, r4, b2, h3 with
    | [], r4, _, h3 =>
      cases (show ReadsAll h [] ds _ from r4)
      simp only [PyData.shownAll, listText_nil] at hQ
      exact call_list_repr_empty ⟨o, hk _ _ h1, h2⟩ (hk _ _ h1) h3 (hQ s.heap _ _ fun _ _ e => e)
    | x :: l, _, b2, h3 => exact call_list_reprK h1 h2 h3 out (by simpa using b2.length_eq) (fun i y e => b2.item i y (by simpa using e)) hg (fun b _ => Clear.nil b) hu hk hQ fits
  | tuple h1 h2 h3 h4 =>
    rename_i o vs n ds
    have fits : (tupleText (PyData.shownAll ds)).length ≤ sizeLine := by simpa only [PyData.shown] using hz
    obtain ⟨as, r4⟩ := RdSs.reads h4
    obtain ⟨bs, b1, b2⟩ := RdSs.repr (prog := prog) (w := w) h4 (by simpa [PyData.showable] using hs) (fun t ht => Nat.le_trans (tupleText_mem_le ht) fits)
    have out : a ∉ bs := not_mem_of_deeper (.tuple h1 h2 h3 r4) (by simp only [PyData.depth]; omega) b1
    refine ⟨"tuple", "tuple.__repr__", F.slot_tuple_repr, F.slot_tuple_str, F.slot_tuple_format, fun s hk => ⟨o, hk _ _ h1, h2⟩, fun A E s Q hg hu hk hQ => ?_⟩
    simp only [PyData.depth] at hu
    simp only [PyData.shown] at hQ
    exact call_tuple_reprK h1 h2 h3 out b2 hg (fun b _ => Clear.nil b) hu hk hQ fits
  | dict h1 h2 h3 hy h4 h5 =>
    exact showsBy_of_reads (.dict h1 h2 h3 h4 h5) hs (fun _ hm => by
      rcases List.mem_cons.mp hm with e | hm
      · exact absurd e.symm (beq_eq_false_iff_ne.mp hy)
      · cases hm) hz
end
/-! ### which data -/
def keyPy : Key → PyData
  | .inl i => .int i
  | .inr x => .str x
mutual
def toPyD : D → Option PyData
  | .non => some .none
  | .bl b => some (.bool b)
  | .int i => some (.int i)
  | .str s => some (.str s)
  | .lst xs => (toPyDs xs).map .list
  | .tup xs => (toPyDs xs).map .tuple
  | .scr ns => some (.list (ns.map .int))
  | .dct ks xs => (unInts xs).map fun ns => .dict ((ks.zip ns).map fun p => (keyPy p.1, .int p.2))
  | _ => none
def toPyDs : List D → Option (List PyData)
  | [] => some []
  | x :: xs => (toPyD x).bind fun y => (toPyDs xs).map fun ys => y :: ys
end
section
variable {X : Cx} {pins : List (Addr × Obj)} {σ : L2.St} {H B : Hp} {s : Shared}
theorem ints_rd : ∀ {ns : List Int} {us : List Value}, Vals (ns.map V.int) us → RdSs s.heap us (ns.map PyData.int)
  | [], _, r => by cases r; exact .nil
  | n :: ns, _, r => by
    cases r with
    | cons a t =>
      obtain ⟨k, rfl⟩ := a
      exact .cons (.int n k) (ints_rd t)
theorem dict_rd {kvs : List (Key × V)} : ∀ {ks : List Key} {ns : List Int} {xs : List (Key × Value)} {es : List DictEntry}, ks.length = ns.length → KV ((ks.zip ns).map fun p => (p.1, V.int p.2)) xs → Pairs (mixKind X.prog X.w) es xs →
    ReadsAll s.heap (es.map (·.key)) (((ks.zip ns).map fun p => (keyPy p.1, PyData.int p.2)).map (·.1)) [] ∧ ReadsAll s.heap (es.map (·.val)) (((ks.zip ns).map fun p => (keyPy p.1, PyData.int p.2)).map (·.2)) []
  | [], [], _, _, _, a, b => by cases a; cases b; exact ⟨.nil, .nil⟩
  | k :: ks, n :: ns, _, _, hl, a, b => by
    cases a with
    | cons a1 a2 =>
      cases b with
      | cons b1 b2 b3 =>
        obtain ⟨c1, c2⟩ := dict_rd (kvs := kvs) (ks := ks) (ns := ns) (by simpa using hl) a2 b3
        obtain ⟨e1, t, e2⟩ := a1
        have e2 : _ = Value.int n t := e2
        have kr : ∀ {ke : Value}, keyIs k ke = true → Reads s.heap ke (keyPy k) [] := fun {ke} q => by
          rcases keyIs_shape q with ⟨i, t, rfl, rfl⟩ | ⟨x, t, rfl, rfl⟩
          · exact .int i t
          · exact .str x t
        have e1 : k = _ := e1
        rw [← e1] at b1
        refine ⟨.cons (as := []) (bs := []) (kr b1) c1, .cons (as := []) (bs := []) ?_ c2⟩
        show Reads s.heap _ (PyData.int n) []
        have b2 : _ = Value.int n t := b2.trans e2
        first
          | (rw [b2]; exact .int n t)
          | (simp only [b2]; exact .int n t)
  | [], _ :: _, _, _, hl, _, _ => by cases hl
  | _ :: _, [], _, _, hl, _, _ => by cases hl
theorem zip_kvs : ∀ {kvs : List (Key × V)} {ns : List Int}, kvs.map (·.2) = ns.map V.int → kvs = ((kvs.map (·.1)).zip ns).map fun p => (p.1, V.int p.2)
  | [], _, _ => rfl
  | kv :: kvs, [], h => by cases h
  | kv :: kvs, n :: ns, h => by
    rw [List.map_cons, List.map_cons] at h
    have h := List.cons.inj h
    rw [List.map_cons, List.zip_cons_cons, List.map_cons, ← zip_kvs h.2, ← h.1]
mutual
theorem Rep.rd (I : Inv X pins σ H s) (x : Ex B H) : ∀ {v : V} {d : D} {u : Value} {p : PyData}, Rep X.K B v d → RelV v u → toPyD d = some p → RdS s.heap u p
  | _, _, u, p, .non, r, e => by cases r; unfold toPyD at e; cases e; exact .none
  | _, _, u, p, .bl b, r, e => by cases r; unfold toPyD at e; cases e; exact .bool b
  | _, _, u, p, .int i, r, e => by obtain ⟨t, rfl⟩ := r; unfold toPyD at e; cases e; exact .int i t
  | _, _, u, p, .str z, r, e => by obtain ⟨t, rfl⟩ := r; unfold toPyD at e; cases e; exact .str z t
  | _, _, u, p, .ref a, r, e => by unfold toPyD at e; cases e
  | _, _, u, p, .ty n, r, e => by unfold toPyD at e; cases e
  | _, _, u, p, .fn n, r, e => by unfold toPyD at e; cases e
  | _, _, u, p, .lst h1 h2, r, e => by
    unfold toPyD at e
    obtain ⟨ps, e1, rfl⟩ := Option.map_eq_some_iff.mp e
    cases r
    obtain ⟨its, rv, ⟨o, n, ho, hc, _, hd⟩, _⟩ := I.list (sq_of (x _ _ h1))
    exact .list ho hc hd (Rep.rds I x h2 rv e1)
  | _, _, u, p, .tup h1 h2, r, e => by
    unfold toPyD at e
    obtain ⟨ps, e1, rfl⟩ := Option.map_eq_some_iff.mp e
    cases r
    obtain ⟨its, rv, ⟨o, ho, hc, n, hd⟩, _⟩ := I.tuple (ex_t x h1)
    exact .tuple ho hc hd (Rep.rds I x h2 rv e1)
  | _, _, u, p, .scr h1, r, e => by
    unfold toPyD at e
    cases e
    cases r
    obtain ⟨its, rv, ⟨o, n, ho, hc, _, hd⟩, _⟩ := I.list (ex_l x h1)
    exact .list ho hc hd (ints_rd rv)
  | _, _, u, p, .dct (kvs := kvs) (xs := ds) h1 h2, r, e => by
    unfold toPyD at e
    obtain ⟨ns, e1, rfl⟩ := Option.map_eq_some_iff.mp e
    have e2 := unInts_some e1
    subst e2
    cases r
    obtain ⟨_, hy, xs, hk, o, es, ep, ho, hx, hd, _, hp, _⟩ := I.hok _ _ (x _ _ h1)
    have hv := h2.ints
    have hl : (kvs.map (·.1)).length = ns.length := by
      have := congrArg List.length hv
      simpa using this
    have hkv := zip_kvs hv
    have hk' : KV (((kvs.map (·.1)).zip ns).map fun p => (p.1, V.int p.2)) xs := by rw [← hkv]; exact hk
    obtain ⟨c1, c2⟩ := dict_rd (X := X) (s := s) (kvs := kvs) hl hk' hp
    exact .dict ho hx.1 hd hy c1 c2
theorem Rep.rds (I : Inv X pins σ H s) (x : Ex B H) : ∀ {vs : List V} {ds : List D} {us : List Value} {ps : List PyData}, RepAll X.K B vs ds → Vals vs us → toPyDs ds = some ps → RdSs s.heap us ps
  | _, _, us, ps, .nil, r, e => by cases r; unfold toPyDs at e; cases e; exact .nil
  | _, _, us, ps, .cons a t, r, e => by
    unfold toPyDs at e
    obtain ⟨p, e1, e⟩ := Option.bind_eq_some_iff.mp e
    obtain ⟨qs, e2, rfl⟩ := Option.map_eq_some_iff.mp e
    cases r with
    | cons r1 r2 => exact .cons (Rep.rd I x a r1 e1) (Rep.rds I x t r2 e2)
end
end
def showD (p : PyData) : Option Str := if p.showable && decide (p.depth + 1 ≤ 60) && decide (p.shown.length ≤ sizeLine) then some p.shown else none
def bReprD : List D → Option D
  | [d] => (toPyD d).bind fun p => (showD p).map D.str
  | _ => none
def rReprD (K : PySem.W.Frag) : List V → Hp → VK → Prop := fun xs H Q => ∃ v B d p z, xs = [v] ∧ Ex B H ∧ Rep K B v d ∧ toPyD d = some p ∧ showD p = some z ∧ Q (.str z) H
theorem call_reprD {X : Cx} (hg : X.A.guards = some []) (hu : X.A.units + 64 < cLine) : CallR X (.builtin "repr") (rReprD X.K) := by
  intro pins s σ H xs us Q inv rel want
  obtain ⟨v, B, d, p, z, rfl, ex, rep, hp, sh, q⟩ := want
  obtain ⟨u, rfl, r⟩ := vals1 rel
  have rd := Rep.rd inv ex rep r hp
  unfold showD at sh
  split at sh
  · rename_i ok
    cases sh
    simp only [Bool.and_eq_true, decide_eq_true_eq] at ok
    obtain ⟨⟨o1, o3⟩, o4⟩ := ok
    have big : ∀ {a : Addr}, u = .ref a → wpAny (model X.prog X.w) X.A (call (.builtin "repr") [u]) (EP X pins σ Q) X.xe s := by
      intro a e
      subst e
      obtain ⟨T, idr, S⟩ := RdS.shows (prog := X.prog) (w := X.w) rd o1 o4
      exact call_repr_slot (by omega) (S.typeIs s fun _ _ e => e) S.slotRepr (S.call X.A.in1 _ s _ hg (by show X.A.units + 1 + p.depth < cLine; omega) (fun _ _ e => e) fun h' u tk keeps => ⟨_, _, rfl, ⟨.str _, H, inv.kept (t' := tk) fun b o e => keeps b o e, ⟨_, rfl⟩, q⟩⟩)
    cases rd with
    | none => exact PySem.P.repr_of_none ⟨.str _, H, inv.tok _, ⟨_, rfl⟩, by simpa only [PyData.shown] using q⟩
    | bool b => exact PySem.P.repr_of_bool ⟨.str _, H, inv.tok _, ⟨_, rfl⟩, by simpa only [PyData.shown] using q⟩
    | int i t =>
      have o1 : decide (i.natAbs.log2 < 1920) = true := by simpa only [PyData.showable] using o1
      exact PySem.P.repr_of_int (of_decide_eq_true o1) ⟨.str _, H, inv.tok _, ⟨_, rfl⟩, by simpa only [PyData.shown] using q⟩
    | str y t => exact PySem.P.repr_of_str ⟨.str _, H, inv.tok _, ⟨_, rfl⟩, by simpa only [PyData.shown] using q⟩ (by simpa only [PyData.shown] using o4)
    | list _ _ _ _ => exact big rfl
    | tuple _ _ _ _ => exact big rfl
    | dict _ _ _ _ _ _ => exact big rfl
  · cases sh
theorem rc_reprD {K : PySem.W.Frag} : RC K (rReprD K) bReprD := RCS.rc (by
  intro B H vs ds z e rx h
  unfold bReprD at h
  split at h
  · obtain ⟨p, hp, h⟩ := Option.bind_eq_some_iff.mp h
    obtain ⟨t, ht, rfl⟩ := Option.map_eq_some_iff.mp h
    obtain ⟨v, rfl, k⟩ := rx.one
    exact ⟨.str t, rfl, fun Q q => ⟨v, H, _, p, t, rfl, Ex.refl _, k.rep e, hp, ht, q⟩⟩
  · cases h)
end Vm

set_option Elab.async false
set_option linter.all false
set_option maxRecDepth 100000
/-! VT2: typed rules for values of any kind, for defs that may raise, for try. -/
namespace Vm
open PySem PySem.Spec PyProof.Rows L2 Evl
abbrev eD (d : D) : D := d
/-! ### values of any kind, as what they are -/
def unI : D → Int
  | .int i => i
  | _ => 0
def asInt (d : D) : M Int := ⟨d = .int (unI d), unI d⟩
def unL : D → List D
  | .lst xs => xs
  | _ => []
def asList (d : D) : M (List D) := ⟨d = .lst (unL d), unL d⟩
def asInts (d : D) : M (List Int) := ⟨d = .lst (((unL d).map unI).map D.int), (unL d).map unI⟩
def unO : D → Option Int
  | .int i => some i
  | _ => none
def asOpts (d : D) : M (List (Option Int)) := ⟨d = .lst (((unL d).map unO).map (eO D.int)), (unL d).map unO⟩
def unT : D → List D
  | .tup xs => xs
  | _ => []
def unP (d : D) : Int × Int := (unI ((unT d).getD 0 .non), unI ((unT d).getD 1 .non))
def asPairs (d : D) : M (List (Int × Int)) := ⟨d = .lst (((unL d).map unP).map (eT2 D.int D.int)), (unL d).map unP⟩
def isiD (d : D) (t : String) : M Bool := ⟨((tyD d).bind fun n => kitB n t).isSome = true, ((tyD d).bind fun n => kitB n t).getD false⟩
def isNon : D → Bool
  | .non => true
  | _ => false
section
variable {env e1 e2 e3 : En} {fa fb : En → Option (R × En)} {f : En → Option (List R × En)} {F G : En → Option Out} {t u : En → Option (Bool × En)} {ra rb rc r : R} {x y z d : D} {i j : Nat} {Q : Out → Prop} {b : Bool}
theorem ev_asInt {n : Int} (h : EV fa env (.val d) e1) (g : Hd (asInt d) n) : EV fa env (.val (.int n)) e1 := by
  have e : d = .int n := by rw [← g.eq]; exact g.ok
  rw [← e]; exact h
theorem ev_asInts {ns : List Int} (h : EV fa env (.val d) e1) (g : Hd (asInts d) ns) : EV fa env (.val (.lst (ns.map D.int))) e1 := by
  have e : d = .lst (ns.map D.int) := by rw [← g.eq]; exact g.ok
  rw [← e]; exact h
theorem ev_asOpts {ns : List (Option Int)} (h : EV fa env (.val d) e1) (g : Hd (asOpts d) ns) : EV fa env (.val (.lst (ns.map (eO D.int)))) e1 := by
  have e : d = .lst (ns.map (eO D.int)) := by rw [← g.eq]; exact g.ok
  rw [← e]; exact h
theorem ev_asPairs {ns : List (Int × Int)} (h : EV fa env (.val d) e1) (g : Hd (asPairs d) ns) : EV fa env (.val (.lst (ns.map (eT2 D.int D.int)))) e1 := by
  have e : d = .lst (ns.map (eT2 D.int D.int)) := by rw [← g.eq]; exact g.ok
  rw [← e]; exact h
theorem ev_asList {ds : List D} (h : EV fa env (.val d) e1) (g : Hd (asList d) ds) : EV fa env (.val (.lst (ds.map eD))) e1 := by
  have e : d = .lst ds := by rw [← g.eq]; exact g.ok
  rw [List.map_id'', ← e]
  · exact h
  · exact fun _ => rfl
theorem ev_frD {α : Type} {E : α → D} {xs : List α} (h : EV fa env (.fr (xs.map E)) e1) : EV fa env (.fr ((xs.map E).map eD)) e1 := by
  rw [List.map_id'' (f := eD) (fun _ => rfl)]
  exact h
theorem o_isiD {v : Bool} {t : String} (g : Hd (isiD d t) v) : bIsi [d, .ty t] = some (.bl v) := by
  obtain ⟨h, rfl⟩ := g
  have h : ((tyD d).bind fun n => kitB n t).isSome = true := h
  obtain ⟨w, e⟩ := Option.isSome_iff_exists.mp h
  show ((tyD d).bind fun n => (kitB n t).map D.bl) = some (.bl (((tyD d).bind fun n => kitB n t).getD false))
  rw [e]
  obtain ⟨n, e1, e2⟩ := Option.bind_eq_some_iff.mp e
  rw [e1]
  show (kitB n t).map D.bl = _
  rw [e2]
  rfl
theorem o_isND : dIsN d .non = some (.bl (isNon d)) := by cases d <;> rfl
theorem o_notND : dNotN d .non = some (.bl (!isNon d)) := by cases d <;> rfl
theorem o_tuple {α : Type} {E : α → D} {xs : List α} : bTuple [.lst (xs.map E)] = some (.tup (xs.map E)) := rfl
/-- a store of a new list, which is a value from then on -/
def sSetF (i : Nat) (f : En → Option (R × En)) : En → Option Out := fun env => (f env).bind fun a => (store i a.1 a.2).bind fun e => (sFrz i e)
theorem ss_setF {K : PySem.W.Frag} {fix : List Nat} {W : WX} {te : TE} {f : En → Option (R × En)} {i : Nat} (h : SE K te f) (hi : i ∉ fix) : SS K fix W (tAsg te (gName i)) (sSetF i f) := by
  intro C hC hF B env σ H o s e D p
  obtain ⟨⟨a, e1⟩, g1, e⟩ := Option.bind_eq_some_iff.mp e
  obtain ⟨e2, g2, e⟩ := Option.bind_eq_some_iff.mp e
  refine h C hC B env σ H a e1 s g1 _ fun v B1 H1 s1 x1 rv => ?_
  obtain ⟨B2, s2, x2⟩ := store_ok s1 (by rw [hF]; exact hi) rv g2
  unfold sFrz at e
  cases q : e2[i]? with
  | none => simp only [q] at e; cases e
  | some sl =>
    simp only [q] at e
    cases sl with
    | un => cases e
    | sh d => cases e
    | ow xs =>
      simp only [Option.some.injEq] at e
      subst e
      obtain ⟨pa, vs, k1, bp, gp, hp, ra⟩ := s2.sl i _ q
      have z : frz e2 (.al i) = some (.lst xs, e2.set i (.sh (.lst xs))) := by rw [x_frz3, q]
      obtain ⟨B3, s3, x3, _⟩ := frz_rep (v := .ref pa) s2 (show RepR C B2 e2 _ H1 (.ref pa) (.al i) from k1) z
      exact p B3 _ H1 s3 ((x1.trans x2).trans x3)
theorem g_setF {α : Type} {E : α → D} {xs : List α} (h : EV fa env (.fr (xs.map E)) e1) (hl : i < e1.length) (hs : e1.set i (.sh (.lst (xs.map E))) = e2) (q : Q (.nx e2)) : Go (sSetF i fa) env Q := by
  refine ⟨.nx e2, ?_, q⟩
  unfold sSetF
  rw [show fa env = _ from h]
  simp only [Option.bind_some]
  show (some (e1.set i (.ow (xs.map E)))).bind _ = _
  simp only [Option.bind_some, sFrz]
  rw [List.getElem?_set_self hl]
  simp only [List.set_set]
  rw [hs]
/-! ### repr, join -/
def reprDM (d : D) : M Str := ⟨((toPyD d).bind showD).isSome = true, ((toPyD d).bind showD).getD ""⟩
theorem o_reprD {d : D} {z : Str} (g : Hd (reprDM d) z) : bReprD [d] = some (.str z) := by
  obtain ⟨h, rfl⟩ := g
  have h : ((toPyD d).bind showD).isSome = true := h
  obtain ⟨w, e⟩ := Option.isSome_iff_exists.mp h
  obtain ⟨p, k1, k2⟩ := Option.bind_eq_some_iff.mp e
  show ((toPyD d).bind fun p => (showD p).map D.str) = some (.str (((toPyD d).bind showD).getD ""))
  rw [e, k1]
  show (showD p).map D.str = _
  rw [k2]
  rfl
/-! ### defs that may raise -/
def xalt {β : Type} (r : Option Str) (k : M (Option β)) (c : Str → M (Option β)) : M (Option β) := match r with
  | some x => c x
  | none => k
def xal (r : Option Str) (k : M (Option Str)) : M (Option Str) := xalt r k fun c => pr (some c)
theorem xc {r : Option Str} {k : M (Option Str)} {z : Option Str} {P : Prop} (h : Hd (xal r k) z) (h1 : ∀ c, r = some c → z = some c → P) (h2 : r = none → Hd k z → P) : P := by
  cases r with
  | some c => exact h1 c rfl h.eq.symm
  | none => exact h2 rfl h
theorem hdx {α : Type} {m : M α} {r s : α} (g : Hd m r) (e : r = s) : Hd m s := e ▸ g
def XQ (c : Str) (o : Out) : Prop := ∃ e, o = .er c e
theorem m_xer {c : Str} {fix : List Nat} {n k : Nat} {F : En → Option Out} {env : En} (hn : env.length = n) (h : Go F (env ++ List.replicate k .un) (XQ c)) : ∃ e, bodyM fix n k F env = some (.er c e) := by
  obtain ⟨o, h1, e, rfl⟩ := h
  unfold bodyM
  rw [if_pos hn, h1]
  exact ⟨_, rfl⟩
section
variable {g g1 g2 : En → Option (Option Str × En)} {c : Str} {n : Nat} {m : En → Option Res} {rs : List R} {ds : List D}
theorem g_xer (h : g env = some (some c, e1)) (q : Q (.er c e1)) : Go (xOr g F) env Q := ⟨_, x_er h, q⟩
theorem g_xok (h : g env = some (none, e1)) (q : Go F env Q) : Go (xOr g F) env Q := by
  obtain ⟨o, q1, q2⟩ := q
  exact ⟨o, by rw [x_ok h]; exact q1, q2⟩
theorem g_raise (q : Q (.er c env)) : Go (sRaise c) env Q := ⟨_, rfl, q⟩
theorem gc_aux (ha : AV f env rs e1) (hl : frzs e1 rs = some (ds, e2)) : aD f env = some (ds, e2) := by
  rw [x_aD, show f env = _ from ha]
  exact hl
theorem gc_ok (ha : AV f env rs e1) (hl : frzs e1 rs = some (ds, e2)) (hn : ds.length = n) (h : ∃ e, m (ds.map .sh) = some (.val z e)) : gCall n m f env = some (none, e2) := by
  obtain ⟨e, h⟩ := h
  unfold gCall
  rw [gc_aux ha hl]
  simp only [Option.bind_some]
  rw [if_pos hn, h]
  rfl
theorem gc_okL {zs : List D} (ha : AV f env rs e1) (hl : frzs e1 rs = some (ds, e2)) (hn : ds.length = n) (h : ∃ e, m (ds.map .sh) = some (.fr zs e)) : gCall n m f env = some (none, e2) := by
  obtain ⟨e, h⟩ := h
  unfold gCall
  rw [gc_aux ha hl]
  simp only [Option.bind_some]
  rw [if_pos hn, h]
  rfl
theorem gc_er (ha : AV f env rs e1) (hl : frzs e1 rs = some (ds, e2)) (hn : ds.length = n) (h : ∃ e, m (ds.map .sh) = some (.er c e)) : gCall n m f env = some (some c, e2) := by
  obtain ⟨e, h⟩ := h
  unfold gCall
  rw [gc_aux ha hl]
  simp only [Option.bind_some]
  rw [if_pos hn, h]
  rfl
theorem gcF {o : Option (Option Str × En)} {tbl : Tbl} {nm : Str} (hf : EV fa env (.val (.fn nm)) e1) (hm : tbl.lookup nm = some m) (h : gCall n m f e1 = o) : gCallF n tbl fa f env = o := by
  unfold gCallF
  rw [show fa env = _ from hf]
  simp only [Option.bind_some]
  rw [hm]
  exact h
theorem ev_callF {tbl : Tbl} {nm : Str} (hf : EV fa env (.val (.fn nm)) e1) (hm : tbl.lookup nm = some m) (h : EV (eCall n m f) e1 r e2) : EV (eCallF n tbl fa f) env r e2 := by
  unfold EV eCallF at *
  rw [hf]
  simp only [Option.bind_some]
  rw [hm]
  exact h
theorem gt {o : Option (Option Str × En)} (h : EV fa env r e1) (k : g e1 = o) : gThen fa g env = o := by
  unfold gThen
  rw [show fa env = _ from h]
  exact k
theorem gor1 (h : g1 env = some (some c, e1)) : gOr g1 g2 env = some (some c, e1) := by
  unfold gOr
  rw [h]
  rfl
theorem gor2 {o : Option (Option Str × En)} (h : g1 env = some (none, e1)) (k : g2 env = o) : gOr g1 g2 env = o := by
  unfold gOr
  rw [h]
  exact k
end
/-! ### try: which error, and what the suite tells of it -/
def TQ (env : En) (r : Option Str) (o : Out) : Prop := match r with
  | none => o = .nx env
  | some c => o = .er c env
def tryN (r : Option Str) (old : Str) (cs : List Str) (zn : Str → Option Str) : M Str := match r with
  | none => pr old
  | some c => ⟨c ∈ cs ∧ (zn c).isSome = true, (zn c).getD ""⟩
theorem g_try {told : Nat} {cs : List Str} {zn : Str → Option Str} {old w : Str} {ro : Option Str} (hb : Go F env (TQ env ro)) (h : Hd (tryN ro old cs zn) w) (ho : env[told]? = some (.sh (.str old))) (hu : env[i]? = some .un) (hne : told ≠ i) (hs : env.set told (.sh (.str w)) = e2) (q : Q (.nx e2)) :
    Go (sTry i F (sNamed told cs zn)) env Q := by
  obtain ⟨o, h1, h2⟩ := hb
  have hl : i < env.length := by
    rcases Nat.lt_or_ge i env.length with l | l
    · exact l
    · rw [List.getElem?_eq_none l] at hu; cases hu
  have hu' : env.set i .un = env := by
    refine List.ext_getElem? fun k => ?_
    by_cases hk : i = k
    · subst hk
      rw [List.getElem?_set_self hl, hu]
    · rw [List.getElem?_set_ne hk]
  cases ro with
  | none =>
    have h2 : o = .nx env := h2
    subst h2
    have e : old = w := h.eq
    subst e
    refine ⟨.nx env, by unfold sTry; rw [h1]; rfl, ?_⟩
    have : env.set told (.sh (.str old)) = env := by
      refine List.ext_getElem? fun k => ?_
      by_cases hk : told = k
      · subst hk
        rw [ho]
        have hl2 : told < env.length := by
          rcases Nat.lt_or_ge told env.length with l | l
          · exact l
          · rw [List.getElem?_eq_none l] at ho; cases ho
        rw [List.getElem?_set_self hl2]
      · rw [List.getElem?_set_ne hk]
    rw [← this, hs]
    exact q
  | some c =>
    have h2 : o = .er c env := h2
    subst h2
    obtain ⟨⟨k1, k2⟩, k3⟩ := h
    have k3 : (zn c).getD "" = w := k3
    obtain ⟨z, kz⟩ := Option.isSome_iff_exists.mp k2
    rw [kz] at k3
    have k3 : z = w := k3
    subst k3
    refine ⟨.nx e2, ?_, q⟩
    unfold sTry
    rw [h1]
    simp only [Option.bind_some]
    rw [if_pos hl, hu']
    unfold sNamed
    rw [if_pos k1, kz]
    show some (Out.nx ((env.set told (.sh (.str z))).set i .un)) = _
    rw [List.set_comm _ _ hne, hu', hs]
end
end Vm

set_option Elab.async false
set_option linter.all false
set_option maxRecDepth 100000
/-! VJ: methods of texts. -/
namespace Vm
open PySem PySem.Spec PyProof.Rows L2 Evl
section
variable {K : PySem.W.Frag} {te to : TE} {fo fe : En → Option (R × En)} {env e1 e2 : En}
/-- what a text's method of one argument gives -/
def RM1 (K : PySem.W.Frag) (r : V → List V → Hp → VK → Prop) (g : Str → D → Option D) : Prop := ∀ (B H : Hp) (z : Str) (y : V) (d w : D), Ex B H → RepK K B H y d → g z d = some w → ∃ v, sc w = some v ∧ ∀ Q : VK, Q v H → r (.str z) [y] H Q
def eM1 (g : Str → D → Option D) (fo fe : En → Option (R × En)) : En → Option (R × En) := fun env => (fo env).bind fun a => match a.1 with
  | .val (.str z) => (fe a.2).bind fun b => (look b.2 b.1).bind fun d => (g z d).map fun w => (.val w, b.2)
  | _ => none
theorem se_m1 {r : V → List V → Hp → VK → Prop} {g : Str → D → Option D} (hr : RM1 K r g) (ho : SE K to fo) (he : SE K te fe) : SE K (tM1 r to te) (eM1 g fo fe) := by
  intro C hC B env σ H res env' s e Q hq
  obtain ⟨⟨r0, e1⟩, g1, e⟩ := Option.bind_eq_some_iff.mp e
  simp only at e
  split at e
  · rename_i z
    obtain ⟨⟨r1, e2⟩, g2, e⟩ := Option.bind_eq_some_iff.mp e
    obtain ⟨d, g3, e⟩ := Option.bind_eq_some_iff.mp e
    obtain ⟨w, g4, e⟩ := Option.map_eq_some_iff.mp e
    cases e
    refine ho C hC B env σ H _ e1 s g1 _ fun x B1 H1 s1 x1 rr => ?_
    have rr : Rep C.K B1 x (.str z) := rr
    cases rr
    refine ⟨⟨_, rfl⟩, he C hC B1 e1 σ H1 _ _ s1 g2 _ fun y B2 H2 s2 x2 ry => ?_⟩
    have k := look_rep s2 ry g3
    rw [hC] at k
    obtain ⟨v, hv, q⟩ := hr B2 H2 z y d w s2.exB k g4
    exact q Q (hq v B2 H2 s2 (x1.trans x2) (by
      show Rep C.K B2 v w
      exact sc_rep hv))
  · cases e
def unStrs : List D → Option (List Str)
  | [] => some []
  | .str x :: ds => (unStrs ds).map fun xs => x :: xs
  | _ :: _ => none
theorem unStrs_some : ∀ {ds : List D} {xs : List Str}, unStrs ds = some xs → ds = xs.map D.str
  | [], xs, h => by cases h; rfl
  | d :: ds, xs, h => by
    cases d <;> first
      | (unfold unStrs at h; obtain ⟨ys, e, rfl⟩ := Option.map_eq_some_iff.mp h; rw [unStrs_some e]; rfl)
      | cases h
theorem unStrs_map : ∀ xs : List Str, unStrs (xs.map D.str) = some xs
  | [] => rfl
  | x :: xs => by rw [List.map_cons]; unfold unStrs; rw [unStrs_map xs]; rfl
/-- the signs of a join together -/
def JoinOk (a : Str) (ys : List Str) : Prop := (ys.map (·.length)).sum + ys.length * a.length ≤ 16777216
instance {a : Str} {ys : List Str} : Decidable (JoinOk a ys) := by unfold JoinOk; infer_instance
def dJoin (a : Str) : D → Option D
  | .lst ds => (unStrs ds).bind fun ys => if JoinOk a ys then some (.str (Txt.join a ys)) else none
  | _ => none
def rJoinM (K : PySem.W.Frag) : V → List V → Hp → VK → Prop := fun x xs H Q => ∃ a p, ∃ ys : List Str, x = .str a ∧ xs = [.ref p] ∧ (SqL K H p (ys.map V.str) ∨ SqT K H p (ys.map V.str)) ∧ JoinOk a ys ∧ Q (.str (Txt.join a ys)) H
theorem rm_join : RM1 K (rJoinM K) dJoin := by
  intro B H z y d w ex k h
  unfold dJoin at h
  split at h
  · obtain ⟨ys, e, h⟩ := Option.bind_eq_some_iff.mp h
    split at h
    · rename_i ok
      cases h
      have e := unStrs_some e
      subst e
      obtain ⟨a, ws, rfl, h1, h2⟩ := k.list ex
      have e2 := h2.strs
      subst e2
      exact ⟨_, rfl, fun Q q => ⟨z, a, ys, rfl, rfl, .inl (sq_of h1), ok, q⟩⟩
    · cases h
  · cases h
def joinM (a : Str) (ys : List Str) : M Str := ⟨JoinOk a ys, Txt.join a ys⟩
theorem o_join {a z : Str} {ys : List Str} (g : Hd (joinM a ys) z) : dJoin a (.lst (ys.map D.str)) = some (.str z) := by
  obtain ⟨h, rfl⟩ := g
  have h : JoinOk a ys := h
  show ((unStrs (ys.map D.str)).bind fun ys => if JoinOk a ys then some (D.str (Txt.join a ys)) else none) = _
  rw [unStrs_map]
  simp only [Option.bind_some]
  rw [if_pos h]
  rfl
theorem ev_m1 {g : Str → D → Option D} {z : Str} {d w : D} {r : R} (ho : EV fo env (.val (.str z)) e1) (he : EV fe e1 r e2) (hl : look e2 r = some d) (h : g z d = some w) : EV (eM1 g fo fe) env (.val w) e2 := by
  unfold EV eM1 at *
  rw [ho]
  simp only [Option.bind_some]
  rw [he]
  simp only [Option.bind_some]
  rw [hl]
  simp only [Option.bind_some]
  rw [h]
  rfl
end
/-! ### isinstance of the error that is handled, typed -/
def allE (ts : List Str) (c : Str) : D → Option Bool
  | .tup ds => anyE ts c ds
  | d => subE ts c d
theorem bIsE_eq {ts : List Str} {c : Str} {a : Addr} {d : D} : bIsE ts a c [.ref a, d] = (allE ts c d).map D.bl := by cases d <;> simp [bIsE, allE]
def subEM (ts : List Str) (c : Str) (d : D) : M Bool := ⟨(allE ts c d).isSome = true, (allE ts c d).getD false⟩
theorem o_isE {ts : List Str} {c : Str} {a : Addr} {d : D} {v : Bool} (g : Hd (subEM ts c d) v) : bIsE ts a c [.ref a, d] = some (.bl v) := by
  obtain ⟨h, rfl⟩ := g
  have h : (allE ts c d).isSome = true := h
  obtain ⟨w, q⟩ := Option.isSome_iff_exists.mp h
  rw [bIsE_eq, q]
  show some (D.bl w) = some (.bl ((allE ts c d).getD false))
  rw [q]
  rfl
/-! ### the def of the error's kind, known -/
structure DefE (P : Program) (w : World) (K : PySem.W.Frag) (mg : Str → Option Value) (base : Heap) (x : Str) (ps : List Str) (k : Nat) (cs : List Str) (mm : Addr → Str → En → Option Res) : Prop where
  ex : ∃ f fd, mg x = some (.ref f) ∧ FnE P w K mg base k f fd ps (spErr K cs mm) ∧ PySem.W.keepIn K (.ref f) = true ∧ Binds K fd ps []
theorem FnE.up {P : Program} {w : World} {K : PySem.W.Frag} {mg : Str → Option Value} {base : Heap} {j k : Nat} {f : Addr} {fd : FuncData} {ps : List Str} {sp : Addr × Obj → Sp} (F : FnE P w K mg base j f fd ps sp) (h : j ≤ k) : FnE P w K mg base k f fd ps sp :=
  ⟨F.len, fun A outer s H args us vs Q E p r => F.go A outer s H args us vs Q E p (r.mono h)⟩
theorem pe_errD {X : Cx} {a : Addr} {oe : Obj} {cls : Value} {d : Option Addr} {pn : List (Addr × Obj)} {j k i : Nat} {ps : List Str} {cs : List Str} {mm : Addr → Str → En → Option Res} {x n : Str} {p q pos : Pos} (hz : L2N.Zn cls d oe) (hv : ∃ vs, oe.data = .fields vs)
    (h : DefE X.prog X.w X.K X.mg X.base x ps k cs mm) (hr : Rg j X.A) (hj : k ≤ j) (hg : Gl (X.suite a ((a, oe) :: pn)) x) (hN : X.N[i]? = some n) (hV : Vis X.env.scope n)
    (hdb : (x == ("__debug__" : Str)) = false := by decide) (hd1 : (n == ("__debug__" : Str)) = false := by decide) (hd2 : (n == ("__classdict__" : Str)) = false := by decide)
    (he : starEach [.Name n q] X.env = (false, eval (.Name n q) X.env) :: starEach [] X.env := by rfl) (hpl : (backTo pos (starEach [] X.env)).any (·.1) = false := by rfl) :
    PE (X.suite a ((a, oe) :: pn)) (.Call (.Name x p) [.Name n q] [] pos) (tErrC X.K cs mm i a cls d) := by
  obtain ⟨f, fd, at_f, F, kp, bn⟩ := h.ex
  exact pe_errC hz hv (F.up hj) ⟨hr.rm.dp, hr.rm.un⟩ hg at_f kp bn hN hV hdb hd1 hd2 he hpl
end Vm

set_option Elab.async false
set_option linter.all false
set_option maxRecDepth 100000
/-! VQ: raise of a class with an f-string. -/
namespace Vm
open PySem PySem.Spec PyProof.Rows L2 Evl
section
variable {X : Cx} {cl : Addr} {bs : List Value} {bn idn idi : String}
/-- CLS(e) -/
theorem pmk_ownS {y : Str} {a : Expr} {tm : TE} {p1 p2 : Pos} (FB : ExcBaseFacts bn idn idi bs) (xi : PySem.W.excIn X.K cl bs idn = true) (gm : X.mg y = some (.ref cl)) (kp : PySem.W.keepIn X.K (.ref cl) = true) (rs : Raises X (.ref cl)) (gl : Gl X y) (hm : PE X a tm)
    (hst : starEach [a] X.env = (false, eval a X.env) :: starEach [] X.env := by rfl) (hdbg : (y == ("__debug__" : Str)) = false := by decide) :
    L2N.PMk X (.Call (.Name y p1) [a] [] p2) (fun σ H Q => tm σ H fun _ H1 => Q (.ref cl) none H1) := by
  intro pn sh sg Hp0 QQ inv want
  refine wpAny_Call_Name_kw (ld_glob inv gl gm ?_ hdbg)
  refine PySem.W.callWith_K (h₀ := X.base) inv.ok.mod.kin kp ?_ hst (by rfl)
  rw [hst]
  show wpAny _ _ (spliced ((false, eval a X.env) :: backTo p2 (starEach [] X.env))) _ _ sh
  refine Calls.spliced_cons (thn (hm.run pn sh sg Hp0 _ inv want) fun w sh1 ⟨v, H1, inv1, rel, fin⟩ => ?_)
  refine Calls.spliced_nil ⟨inv1.kIn, show wpAny _ _ (call (.ref cl) [w]) _ _ _ from ?_⟩
  obtain ⟨bm, N, nm, qn, bz, hdct, sn, sub, ab, col, dd, k0, k1, k2, k3, k5, mN, hC, hN, hni, T⟩ := exc_obj inv1.kIn xi
  exact wpAny_call_exc_subT FB T hC hN hni (fun hh ee made => L2N.mk_of inv1 made rs fin (inv1.hok.gone made.new)) (by show 1 ≤ sizeLine; rw [sizeLine_eq]; omega)
end
section
variable {K : PySem.W.Frag} {te : TE} {fix : List Nat} {W : WX} {env e1 : En} {f : En → Option (R × En)} {Q : Out → Prop}
def sRaiseS (c : Str) (f : En → Option (R × En)) : En → Option Out := fun env => (f env).map fun a => .er c a.2
theorem ss_raiseS {c : Str} {a : Addr} (ha : clsOf K c = a) (h : SE K te f) : SS K fix W (fun _ σ H => te σ H fun _ H1 => W (.ref a) none σ H1) (sRaiseS c f) := by
  intro C hC hF B env σ H o s e D p
  obtain ⟨⟨r, e1⟩, g1, rfl⟩ := Option.map_eq_some_iff.mp e
  refine h C hC B env σ H r e1 s g1 _ fun v B1 H1 s1 x1 rv => ?_
  have q := p B1 σ H1 s1 x1
  rw [hC, ha] at q
  exact q
/-- {n}, n a number -/
def eFmt (f : En → Option (R × En)) : En → Option (R × En) := fun env => (f env).bind fun a => match a.1 with
  | .val (.int i) => if i.natAbs.log2 < 1920 then some (.val (.str (toString i)), a.2) else none
  | _ => none
theorem se_fmt (h : SE K te f) : SE K (tFmt te) (eFmt f) := by
  intro C hC B env σ H r env' s e Q hq
  obtain ⟨⟨a, e1⟩, g1, e⟩ := Option.bind_eq_some_iff.mp e
  simp only at e
  split at e
  · rename_i i
    split at e
    · rename_i hz
      cases e
      refine h C hC B env σ H _ _ s g1 _ fun v B1 H1 s1 x1 rv => ?_
      have rv : Rep C.K B1 v (.int i) := rv
      cases rv
      exact .inr ⟨i, rfl, hz, hq (.str (toString i)) B1 H1 s1 x1 (by show Rep C.K B1 _ _; exact .str _)⟩
    · cases e
  · cases e
def eJs : List (En → Option (R × En)) → Str → En → Option (R × En)
  | [], acc, env => some (.val (.str acc), env)
  | f :: fs, acc, env => (f env).bind fun a => match a.1 with
    | .val (.str y) => if (acc ++ y).length ≤ sizeLine then eJs fs (acc ++ y) a.2 else none
    | _ => none
inductive SEs (K : PySem.W.Frag) : List TE → List (En → Option (R × En)) → Prop where
  | nil : SEs K [] []
  | cons {t : TE} {f : En → Option (R × En)} {ts : List TE} {fs : List (En → Option (R × En))} (h : SE K t f) (r : SEs K ts fs) : SEs K (t :: ts) (f :: fs)
theorem se_js {ts : List TE} {fs : List (En → Option (R × En))} (hs : SEs K ts fs) : ∀ acc : Str, SE K (fun σ H Q => tJs ts acc σ H fun out H1 => Q (.str out) H1) (eJs fs acc) := by
  induction hs with
  | nil =>
    intro acc C hC B env σ H r env' s e Q hq
    cases e
    exact hq (.str acc) B H s (Ex.refl _) (by show Rep C.K B _ _; exact .str _)
  | @cons t f ts fs h r ih =>
    intro acc C hC B env σ H res env' s e Q hq
    obtain ⟨⟨a, e1⟩, g1, e⟩ := Option.bind_eq_some_iff.mp e
    simp only at e
    split at e
    · rename_i y
      split at e
      · rename_i hz
        refine h C hC B env σ H _ _ s g1 _ fun v B1 H1 s1 x1 rv => ?_
        have rv : Rep C.K B1 v (.str y) := rv
        cases rv
        exact ⟨y, rfl, hz, ih (acc ++ y) C hC B1 e1 σ H1 res env' s1 e Q fun v2 B2 H2 s2 x2 r2 => hq v2 B2 H2 s2 (x1.trans x2) r2⟩
      · cases e
    · cases e
/-- the parts, all short -/
inductive FsV (env : En) : List (En → Option (R × En)) → Nat → Prop where
  | nil : FsV env [] 0
  | str {z : Str} {fs : List (En → Option (R × En))} {n : Nat} (hz : z.length ≤ 1002) (r : FsV env fs n) : FsV env (eC (.str z) :: fs) (n + 1)
  | int {f : En → Option (R × En)} {i : Int} {fs : List (En → Option (R × En))} {n : Nat} (h : EV f env (.val (.int i)) env) (hi : i.natAbs < 2 ^ 1000) (r : FsV env fs n) : FsV env (eFmt f :: fs) (n + 1)
theorem log_small {i : Int} (hi : i.natAbs < 2 ^ 1000) : i.natAbs.log2 < 1000 := by
  by_cases z : i.natAbs = 0
  · rw [z]; decide
  · exact (Nat.log2_lt z).mpr hi
theorem fsv {fs : List (En → Option (R × En))} {n : Nat} (h : FsV env fs n) : ∀ acc : Str, acc.length + 1002 * n ≤ 100000 → ∃ z, eJs fs acc env = some (.val (.str z), env) := by
  induction h with
  | nil => exact fun acc _ => ⟨acc, rfl⟩
  | @str z fs n hz r ih =>
    intro acc hl
    have e : (acc ++ z).length = acc.length + z.length := strLen_append _ _
    obtain ⟨w, hw⟩ := ih (acc ++ z) (by omega)
    refine ⟨w, ?_⟩
    show (some (R.val (D.str z), env)).bind _ = _
    simp only [Option.bind_some]
    rw [if_pos (by rw [sizeLine_eq]; omega)]
    exact hw
  | @int f i fs n h hi r ih =>
    intro acc hl
    have hz : (Str.ofString (toString i)).length ≤ 1001 := by
      rw [PySem.ofString_length]
      exact int_text_length_le (by decide) (log_small hi)
    have e : (acc ++ Str.ofString (toString i)).length = acc.length + (Str.ofString (toString i)).length := strLen_append _ _
    obtain ⟨w, hw⟩ := ih (acc ++ Str.ofString (toString i)) (by omega)
    refine ⟨w, ?_⟩
    show (eFmt f env).bind _ = _
    unfold eFmt
    rw [show f env = _ from h]
    simp only [Option.bind_some]
    rw [if_pos (Nat.lt_trans (log_small hi) (by decide))]
    simp only [Option.bind_some]
    rw [if_pos (by rw [sizeLine_eq]; omega)]
    exact hw
theorem g_raiseS {fs : List (En → Option (R × En))} {n : Nat} {c : Str} (h : FsV env fs n) (hn : n ≤ 90) (q : Q (.er c env)) : Go (sRaiseS c (eJs fs Str.empty)) env Q := by
  obtain ⟨z, hz⟩ := fsv h Str.empty (by show 0 + _ ≤ _; omega)
  refine ⟨.er c env, ?_, q⟩
  unfold sRaiseS
  rw [hz]
  rfl
/-- the numbers of a message are not beyond all bounds -/
def fsM (xs : List Int) : M Unit := ⟨∀ x ∈ xs, x.natAbs < 2 ^ 1000, ()⟩
theorem fsM_1 {x : Int} {xs : List Int} (h : ∀ y ∈ x :: xs, y.natAbs < 2 ^ 1000) : x.natAbs < 2 ^ 1000 := h x List.mem_cons_self
theorem fsM_2 {x : Int} {xs : List Int} (h : ∀ y ∈ x :: xs, y.natAbs < 2 ^ 1000) : ∀ y ∈ xs, y.natAbs < 2 ^ 1000 := fun y hy => h y (List.mem_cons_of_mem _ hy)
end
end Vm

set_option Elab.async false
set_option linter.all false
set_option maxRecDepth 100000
/-! VO: defs that give None or a new list. -/
namespace Vm
open PySem PySem.Spec PyProof.Rows L2 Evl
def resO {α : Type} (E : α → D) (r : Option (List α)) (e : En) : Res := match r with
  | none => .val .non e
  | some xs => .fr (xs.map E) e
def rO {α : Type} (E : α → D) (r : Option (List α)) : R := match r with
  | none => .val .non
  | some xs => .fr (xs.map E)
def OO {α : Type} (n : Nat) (E : α → D) (r : Option (List α)) (o : Out) : Prop := match r with
  | none => ∃ e, o = .rt (.val .non) e
  | some xs => OF n E xs o
section
variable {α : Type} {E : α → D} {env e1 e2 e3 : En} {f fa : En → Option (List R × En)} {fx : En → Option (R × En)} {n : Nat} {m : En → Option Res} {rs : List R} {ds : List D} {z : Option (List α)} {e : En} {Q : Out → Prop} {F : En → Option Out}
theorem m_on {a : Option (List α)} {fix : List Nat} {n k : Nat} {F : En → Option Out} {env : En} (hn : env.length = n) (h : Go F (env ++ List.replicate k .un) (OO n E a)) : ∃ e, bodyM fix n k F env = some (resO E a e) := by
  cases a with
  | some xs => exact m_fr hn h
  | none =>
    obtain ⟨o, h1, e, rfl⟩ := h
    unfold bodyM
    rw [if_pos hn, h1]
    exact ⟨_, rfl⟩
theorem oo_non : OO n E none (.rt (.val .non) e) := ⟨e, rfl⟩
theorem oo_ret : OO n E z (.rt (rO E z) e) := by
  cases z with
  | none => exact ⟨e, rfl⟩
  | some xs => exact of_fr
theorem ev_callO (ha : AV f env rs e1) (hl : frzs e1 rs = some (ds, e1)) (hn : ds.length = n) (h : ∃ e, m (ds.map .sh) = some (resO E z e)) : EV (eCall n m f) env (rO E z) e1 := by
  cases z with
  | none => exact ev_call ha hl hn h
  | some xs => exact ev_callL ha hl hn h
theorem gc_okO (ha : AV f env rs e1) (hl : frzs e1 rs = some (ds, e2)) (hn : ds.length = n) (h : ∃ e, m (ds.map .sh) = some (resO E z e)) : gCall n m f env = some (none, e2) := by
  cases z with
  | none => exact gc_ok ha hl hn h
  | some xs => exact gc_okL ha hl hn h
theorem ev_on0 (h : EV fx env (rO E z) e1) (q : z = none) : EV fx env (.val .non) e1 := by
  subst q
  exact h
theorem ev_on1 {xs : List α} (h : EV fx env (rO E z) e1) (q : z = some xs) : EV fx env (.fr (xs.map E)) e1 := by
  subst q
  exact h
theorem lv_on (h : EV fx env (rO E z) e1) : LV fx env (match z with | none => .non | some xs => .lst (xs.map E)) e1 := by
  cases z with
  | none => exact lv_of h fun _ => rfl
  | some xs => exact lv_of h fun _ => rfl
theorem o_isNO : dIsN (match z with | none => D.non | some xs => .lst (xs.map E)) .non = some (.bl z.isNone) := by
  cases z with
  | none => rfl
  | some xs => rfl
theorem o_notNO : dNotN (match z with | none => D.non | some xs => .lst (xs.map E)) .non = some (.bl z.isSome) := by
  cases z with
  | none => rfl
  | some xs => rfl
/-- goes on by what it is -/
def onM {β : Type} (r : Option (List α)) (k0 : M β) (k1 : List α → M β) : M β := match r with
  | none => k0
  | some xs => k1 xs
theorem on_c {β : Type} {r : Option (List α)} {k0 : M β} {k1 : List α → M β} {w : β} {P : Prop} (h : Hd (onM r k0 k1) w) (h0 : r = none → Hd k0 w → P) (h1 : ∀ xs, r = some xs → Hd (k1 xs) w → P) : P := by
  cases r with
  | none => exact h0 rfl h
  | some xs => exact h1 xs rfl h
theorem hd_on0 {β : Type} {k0 : M β} {k1 : List α → M β} {w : β} (h : Hd k0 w) : Hd (onM none k0 k1) w := h
theorem hd_on1 {β : Type} {k0 : M β} {k1 : List α → M β} {w : β} {xs : List α} (h : Hd (k1 xs) w) : Hd (onM (some xs) k0 k1) w := h
end
end Vm

set_option Elab.async false
set_option linter.all false
set_option maxRecDepth 100000
set_option maxHeartbeats 4000000
/-! VU: a tuple, repeated. -/
namespace Vm
open PySem PySem.Spec PyProof.Rows L2 Evl
theorem mul_once (l : Addr) (its : Array Value) (n : Nat) (dd : Option Addr) (sl : Array (Option Value)) (u : Tok) :
    Meets (Builtin.«tuple.__mul__» ⟨[.ref l, .int 1 u], []⟩) (fun _ R s => s.heap.get? l = some { cls := .type "tuple", dict := dd, data := .seq its n, slots := sl } ∧ R (.ok (.ret (Value.ref l))) s) :=
  .of_wp fun prog w A R s want => by
    obtain ⟨hp, g, d, tk, os⟩ := s
    obtain ⟨hl, want⟩ := want
    have idx := AutoSeq1.idx_int
    wp_walk using wpAny_loadPart' hl
    exact ⟨_, rfl, want⟩
def rRepT2 (K : PySem.W.Frag) : R2 := fun x y H Q => rRepT K x y H Q ∨ ∃ l xs, x = .ref l ∧ y = .int 1 ∧ SqT K H l xs ∧ Q x H
section
variable {X : Cx}
theorem op_repT2 : OpR X (binaryOp .Mult) (rRepT2 X.K) := by
  intro pn s sg H x y v u Q inv rx ry want
  rcases want with want | ⟨l, xs, rfl, rfl, hT, fin⟩
  · exact op_repT pn s sg H x y v u Q inv rx ry want
  · cases rx
    obtain ⟨t, rfl⟩ := ry
    obtain ⟨its, rel, ⟨⟨cls, dd, data, sl⟩, ho, hc, n, hd⟩, hs⟩ := inv.tuple hT
    simp only at hc hd
    subst hc hd
    exact wpAny_binaryOp_repeat_ref (T := "tuple") (U := "int") (by decide) ⟨_, ho, rfl⟩ (fun sh => typeIs_int sh 1 t) noFill_tuple_mul F.fills_int_mul F.slot_int_rmul repeat_tuple F.slot_int_index.lookup
      (call_meets F.slot_int_rmul (typeIs_int s 1 t) F.entry_int_rmul (F.args_int_rmul_2 _ _) (int_rmul_tuple 1 t l its.toArray n dd sl)
        ⟨ho, rfl, ⟨_, ho, rfl⟩, call_meets F.slot_tuple_mul ⟨_, ho, rfl⟩ F.entry_tuple_mul (F.args_tuple_mul_2 _ _) (mul_once l its.toArray n dd sl t) ⟨ho, ⟨.ref l, H, inv, rfl, fin⟩⟩⟩)
end
section
variable {K : PySem.W.Frag}
def dRepT : D → D → Option D
  | .tup xs, .int k => if xs ≠ [] ∧ 1 ≤ k ∧ k ≤ 1000 ∧ xs.length ≤ 1000 then some (.tup (List.replicate k.toNat xs).flatten) else none
  | _, _ => none
theorem ro_repT : RO K (rRepT2 K) dRepT := by
  intro C hC B env σ H x y dx dy z s rx ry e Q hq
  unfold dRepT at e
  split at e
  · rename_i xs k
    split at e
    · rename_i hk
      obtain ⟨h0, h1, h2, h3⟩ := hk
      cases e
      have rx := rx.scal fun _ z => by cases z
      have rx0 : Rep K B x (.tup xs) := by rw [← hC]; rw [hC]; exact rx
      obtain ⟨l, vs, rfl, r1, r2⟩ := rx0.tuple
      have ey := ry.int
      subst ey
      by_cases hk1 : k = 1
      · subst hk1
        refine .inr ⟨l, vs, rfl, rfl, ex_t s.exB r1, hq (.ref l) B H s (Ex.refl _) ?_⟩
        have ef : (List.replicate (1 : Int).toNat xs).flatten = xs := by simp
        rw [ef]
        exact rx0
      · refine .inl ⟨l, k, vs, rfl, rfl, ex_t s.exB r1, fun z => h0 ?_, by omega, h2, by rw [r2.length]; exact h3, fun p hp => ?_⟩
        · have := r2.length
          rw [z] at this
          exact List.eq_nil_of_length_eq_zero this.symm
        · have bp := fresh_back s.exB hp
          refine hq (.ref p) (upd B p (.tup (List.replicate k.toNat vs).flatten)) _ (s.alloc hp) (Ex.new bp) ?_
          exact .tup (st_of upd_same) ((repAll_flat r2 _).mono (Ex.new bp))
    · cases e
  · cases e
theorem o_repT {α : Type} {E : α → D} {xs : List D} {k : Int} (h : xs ≠ [] ∧ 1 ≤ k ∧ k ≤ 1000 ∧ xs.length ≤ 1000) : dRepT (.tup xs) (.int k) = some (.tup (List.replicate k.toNat xs).flatten) := by
  exact if_pos h
def repTM (xs : List D) (k : Int) : M D := ⟨xs ≠ [] ∧ 1 ≤ k ∧ k ≤ 1000 ∧ xs.length ≤ 1000, .tup (List.replicate k.toNat xs).flatten⟩
theorem o_repTM {xs : List D} {k : Int} {z : D} (g : Hd (repTM xs k) z) : dRepT (.tup xs) (.int k) = some z := by
  obtain ⟨h, rfl⟩ := g
  exact o_repT (E := fun d : D => d) h
end
end Vm

set_option Elab.async false
set_option linter.all false
set_option maxRecDepth 100000
set_option maxHeartbeats 2000000
/-! VL: how many numbers a list has, each told once. -/
namespace Vm
open PySem PySem.Spec PyProof.Rows L2 Evl
theorem met_le (f : Nat → Int) : ∀ i : Nat, (PyProof.Rows.firstMet f i).length ≤ i
  | 0 => Nat.le_refl _
  | i + 1 => by
    have ih := met_le f i
    rw [PyProof.Rows.firstMet_succ]
    unfold PyProof.Rows.step_dedup
    split
    · omega
    · rw [List.length_append, List.length_singleton]
      omega
def once (ns : List Int) : Nat := (PyProof.Rows.firstMet (fun i => ns.getD i 0) ns.length).length
def tLenOnce (K : PySem.W.Frag) (ta : TE) : TE := fun σ H Q => ta σ H fun x H1 => ∃ (l : Addr) (ns : List Int), x = .ref l ∧ SqL K H1 l (ns.map V.int) ∧ ns.length ≤ 4000 ∧ Q (.int (once ns : Nat)) H1
theorem pe_lenOnce {X : Cx} {e1 : Expr} {te : TE} {q1 q2 q3 q4 : Pos} (gl : Gl X "len") (ml : X.mg "len" = none) (gs : Gl X "set") (ms : X.mg "set" = none) (he : PE X e1 te) (calm : X.calm = true := by rfl)
    (one : starEach [e1] X.env = (false, eval e1 X.env) :: starEach [] X.env := by rfl) : PE X (.Call (.Name "len" q1) [.Call (.Name "set" q2) [e1] [] q3] [] q4) (tLenOnce X.K te) := by
  refine ⟨fun pn sh sg Hp0 QQ inv want => ?_⟩
  refine Call_ (ld_blt inv gl ml boot_len (PyProof.Rows.callWith_builtin1 (PyProof.Rows.args_cons ?_ rfl) rfl rfl))
  refine Call_ (ld_blt inv gs ms boot_set ?_)
  refine PyProof.Rows.callWith_type1 (PyProof.Rows.args_cons (thn (he.run pn sh sg Hp0 _ inv want) fun w s1 ⟨x, H1, inv1, rel, fin⟩ => PyProof.Rows.args_nil ?_) one) one rfl
  obtain ⟨l, ns, rfl, sq, short, fin⟩ := fin
  cases rel
  obtain ⟨its, rr, pl, hz⟩ := inv1.list sq
  have size : its.toArray.size = ns.length := by rw [List.size_toArray, ← rr.length, List.length_map]
  refine call_set_list (inv1.ok.hd calm) pl.isList (by simpa using RZ.intsAre_vals rr) (by rw [size]; unfold scanBound; omega) fun hh tk made kept => PyProof.Rows.args_nil ?_
  rw [size] at made
  obtain ⟨o, es, ep, t, ho, hex, hd, _, _, _, hf, hn⟩ := made
  have inv2 : Inv X pn sg H1 { s1 with heap := hh, toks := tk } := inv1.kept fun b o e => kept b o (Heap.lt_size e) e
  have small : (PyProof.Rows.firstMet (fun i => ns.getD i 0) ns.length).length ≤ 4000 := Nat.le_trans (met_le _ _) short
  exact call_len_set ho hex hd hf (by rw [hn]; omega) ⟨.int (once ns : Nat), H1, inv2.tok _, ⟨_, by rw [hn]; rfl⟩, fin⟩
theorem once_nodup {ns : List Int} (h : ns.Nodup) : once ns = ns.length := by
  unfold once
  rw [RZ.firstMet_nodup h ns.length (Nat.le_refl _), List.take_length]
section
variable {K : PySem.W.Frag} {te : TE}
def eLenOnce (f : En → Option (R × En)) : En → Option (R × En) := fun env => (f env).bind fun a => (look a.2 a.1).bind fun d => match d with
  | .lst xs => (unInts xs).bind fun ns => if ns.length ≤ 4000 then some (.val (.int (once ns)), a.2) else none
  | _ => none
theorem se_lenOnce {f : En → Option (R × En)} (h : SE K te f) : SE K (tLenOnce K te) (eLenOnce f) := by
  intro C hC B env σ H r env' s e Q hq
  obtain ⟨⟨a, e1⟩, g1, e⟩ := Option.bind_eq_some_iff.mp e
  obtain ⟨d, g2, e⟩ := Option.bind_eq_some_iff.mp e
  split at e
  · rename_i xs
    obtain ⟨ns, g3, e⟩ := Option.bind_eq_some_iff.mp e
    split at e
    · rename_i hn
      cases e
      refine h C hC B env σ H a e1 s g1 _ fun v B1 H1 s1 x1 rr => ?_
      have k := look_rep s1 rr g2
      rw [hC] at k
      obtain ⟨l, rfl, h2⟩ := k.ints s1.exB g3
      exact ⟨l, ns, rfl, sq_of h2, hn, hq _ B1 H1 s1 x1 (.int _)⟩
    · cases e
  · cases e
end
def lenOnceM (xs : List Int) : M Int := ⟨xs.length ≤ 4000, once xs⟩
theorem ev_lenOnce {f : En → Option (R × En)} {env e1 : En} {r : R} {xs : List Int} {v : Int} (h : EV f env r e1) (hz : look e1 r = some (.lst (xs.map D.int))) (g : Hd (lenOnceM xs) v) : EV (eLenOnce f) env (.val (.int v)) e1 := by
  obtain ⟨g, rfl⟩ := g
  have g : xs.length ≤ 4000 := g
  unfold EV eLenOnce at *
  rw [h]
  simp only [Option.bind_some]
  rw [hz]
  simp only [Option.bind_some]
  rw [unInts_map]
  simp only [Option.bind_some]
  rw [if_pos g]
  rfl
end Vm

set_option Elab.async false
set_option linter.all false
set_option maxRecDepth 100000
/-! VK: calls by keyword alone. -/
namespace Vm
open PySem PySem.Spec PyProof.Rows L2 Evl
/-- the values in the parameters' order -/
def pm {α : Type} (js : List Nat) (xs : List α) : List α := js.filterMap fun j => xs[j]?
theorem vals_at : ∀ {vs : List V} {us : List Value}, Vals vs us → ∀ j : Nat, (vs[j]? = none ∧ us[j]? = none) ∨ ∃ v u, vs[j]? = some v ∧ us[j]? = some u ∧ RelV v u
  | [], _, .nil, j => .inl ⟨rfl, rfl⟩
  | v :: vs, u :: us, .cons r t, 0 => .inr ⟨v, u, rfl, rfl, r⟩
  | v :: vs, u :: us, .cons r t, j + 1 => vals_at t j
theorem vals_pm {vs : List V} {us : List Value} (h : Vals vs us) : ∀ js : List Nat, Vals (pm js vs) (pm js us)
  | [] => .nil
  | j :: js => by
    have ih := vals_pm h js
    unfold pm at *
    rcases vals_at h j with ⟨a, b⟩ | ⟨v, u, a, b, r⟩
    · rw [List.filterMap_cons, List.filterMap_cons, a, b]
      exact ih
    · rw [List.filterMap_cons, List.filterMap_cons, a, b]
      exact .cons r ih
/-- how a def binds what is given by keyword alone -/
structure BindsK (fd : FuncData) (ps ks : List Str) (js : List Nat) : Prop where
  to : ∀ (s : Shared) (us : List Value), ks.length ≤ us.length → BindsTo s fd ⟨[], ks.zip us⟩ (ps.zip (pm js us))
theorem pm_le {α : Type} (xs : List α) : ∀ js : List Nat, (pm js xs).length ≤ js.length
  | [] => Nat.le_refl _
  | j :: js => by
    have ih := pm_le xs js
    unfold pm at *
    rw [List.filterMap_cons]
    split
    · rw [List.length_cons]; omega
    · rw [List.length_cons, List.length_cons]; omega
theorem pm_all {α : Type} {xs : List α} : ∀ {js : List Nat}, (pm js xs).length = js.length → ∀ j ∈ js, j < xs.length
  | [], _, j, hj => by cases hj
  | i :: js, h, j, hj => by
    have hle := pm_le xs js
    unfold pm at *
    rw [List.filterMap_cons] at h
    split at h
    · rw [List.length_cons] at h; omega
    · rename_i b hb
      rw [List.length_cons, List.length_cons] at h
      rcases List.mem_cons.mp hj with rfl | hj
      · exact (List.getElem?_eq_some_iff.mp hb).1
      · exact pm_all (js := js) (by unfold pm; omega) j hj
structure DefGK (P : Program) (w : World) (K : PySem.W.Frag) (mg : Str → Option Value) (base : Heap) (x : Str) (ps : List Str) (k : Nat) (m : En → Option Res) (ks : List Str) (js : List Nat) : Prop where
  ex : ∃ f fd, mg x = some (.ref f) ∧ FnG P w K mg base CX0 k f fd ps (SpM K ps.length m) ∧ PySem.W.keepIn K (.ref f) = true ∧ BindsK fd ps ks js
def tPerm (js : List Nat) (t : TA) : TA := fun σ H Q => t σ H fun vs H1 => Q (pm js vs) H1
section
variable {X : Cx} {x : Str} {ps ks : List Str} {js : List Nat} {n k j : Nat} {m : En → Option Res} {p pos : Pos} {kws : List Keyword} {tk : TA}
theorem pe_dGK (h : DefGK X.prog X.w X.K X.mg X.base x ps k m ks js) (hn : ps.length = n) (hr : Rg j X.A) (hj : k ≤ j) (hg : Gl X x) (ha : PK X kws tk) (hjs : ks.length - 1 ∈ js ∧ js.length = ps.length)
    (hdb : (x == ("__debug__" : Str)) = false := by decide) (hall : (backToKw pos (keywordEach kws X.env)).all (·.1.isSome) = true := by rfl) (hks : (backToKw pos (keywordEach kws X.env)).filterMap (·.1) = ks := by rfl)
    (hpl : ((backTo pos (starEach [] X.env)).any (·.1) || (backToKw pos (keywordEach kws X.env)).any (·.1.isNone)) = false := by rfl) :
    PE X (.Call (.Name x p) [] kws pos) (tCall (SpM X.K n m) [] E0 (tPerm js tk)) := by
  subst hn
  rw [tCall_nil]
  obtain ⟨f, fd, at_f, F, kp, bn⟩ := h.ex
  constructor
  intro pn sh sg Hp0 QQ inv want
  refine wpAny_Call_Name_kw (ld_glob inv hg at_f ?_ hdb)
  refine PySem.W.callWith_KW0 (h₀ := X.base) inv.ok.mod.kin kp hall (thn (ha.run pos pn sh sg Hp0 _ inv want) fun us s1 ⟨vs, H1, inv1, rel, fin⟩ => ⟨inv1.kIn, ?_⟩) hpl
  rw [hks]
  have rel2 := vals_pm rel js
  have hl : (pm js vs).length = js.length := (F.len _ _ _ _ fin).trans hjs.2.symm
  have h1 := pm_all hl _ hjs.1
  have binds := bn.to s1 us (by rw [← rel.length]; omega)
  refine wpAny_call (codeAny_mono (F.go X.A (hr.mono hj) X.stack s1 H1 ⟨[], ks.zip us⟩ (pm js us) (pm js vs) QQ E0 inv1.env0 binds rel2 fin) fun res s2 out => ?_)
  match res, out with
  | .error er, out => exact (show False from out).elim
  | .ok (.ret _), out => exact inv1.after out
  | .ok .next, out => exact out.elim
  | .ok .brk, out => exact out.elim
  | .ok .cont, out => exact out.elim
end
section
variable {K : PySem.W.Frag} {C : Ctx} {B H : Hp} {env : En} {σ : L2.St}
theorem reps_at : ∀ {vs : List V} {rs : List R}, RepRs C B env σ H vs rs → ∀ j : Nat, (vs[j]? = none ∧ rs[j]? = none) ∨ ∃ v r, vs[j]? = some v ∧ rs[j]? = some r ∧ RepR C B env σ H v r
  | [], [], _, j => .inl ⟨rfl, rfl⟩
  | v :: vs, r :: rs, ⟨h, t⟩, 0 => .inr ⟨v, r, rfl, rfl, h⟩
  | v :: vs, r :: rs, ⟨h, t⟩, j + 1 => reps_at t j
  | [], _ :: _, h, _ => h.elim
  | _ :: _, [], h, _ => h.elim
theorem reps_pm {vs : List V} {rs : List R} (h : RepRs C B env σ H vs rs) : ∀ js : List Nat, RepRs C B env σ H (pm js vs) (pm js rs)
  | [] => trivial
  | j :: js => by
    have ih := reps_pm h js
    unfold pm at *
    rcases reps_at h j with ⟨a, b⟩ | ⟨v, u, a, b, r⟩
    · rw [List.filterMap_cons, List.filterMap_cons, a, b]
      exact ih
    · rw [List.filterMap_cons, List.filterMap_cons, a, b]
      exact ⟨r, ih⟩
def aPerm (js : List Nat) (f : En → Option (List R × En)) : En → Option (List R × En) := fun env => (f env).map fun a => (pm js a.1, a.2)
theorem sa_perm {t : TA} {f : En → Option (List R × En)} {js : List Nat} (h : SA K t f) : SA K (tPerm js t) (aPerm js f) := by
  intro C hC B env σ H r env' s e Q hq
  obtain ⟨⟨rs, e1⟩, g1, e⟩ := Option.map_eq_some_iff.mp e
  cases e
  exact h C hC B env σ H rs e1 s g1 _ fun vs B' H' s' x rr => hq (pm js vs) B' H' s' x (reps_pm rr js)
theorem av_perm {f : En → Option (List R × En)} {env e1 : En} {rs : List R} {js : List Nat} (h : AV f env rs e1) : AV (aPerm js f) env (pm js rs) e1 := by
  unfold AV aPerm at *
  rw [h]
  rfl
end
/-! a def held by a variable, called by keyword alone -/
inductive TblGK (P : Program) (w : World) (K : PySem.W.Frag) (mg : Str → Option Value) (base : Heap) (k n : Nat) (ks : List Str) (js : List Nat) : Tbl → Prop
  | nil : TblGK P w K mg base k n ks js []
  | cons {x : Str} {ps : List Str} {j : Nat} {m : En → Option Res} {tbl : Tbl} (h : DefGK P w K mg base x ps j m ks js) (v : FnAt K mg x) (hj : j ≤ k) (hn : ps.length = n) (t : TblGK P w K mg base k n ks js tbl) : TblGK P w K mg base k n ks js ((x, m) :: tbl)
theorem TblGK.held {P : Program} {w : World} {K : PySem.W.Frag} {mg : Str → Option Value} {base : Heap} {k n : Nat} {ks : List Str} {js : List Nat} {tbl : Tbl} (h : TblGK P w K mg base k n ks js tbl) :
    ∀ p ∈ tbl, ∃ (fd : FuncData) (ps : List Str), FnG P w K mg base CX0 k (clsOf K p.1) fd ps (SpM K n p.2) ∧ PySem.W.keepIn K (.ref (clsOf K p.1)) = true ∧ BindsK fd ps ks js ∧ ps.length = n := by
  induction h with
  | nil => intro p hp; cases hp
  | cons h v hj hn _ ih =>
    intro p hp
    rcases List.mem_cons.mp hp with rfl | hp
    · subst hn
      obtain ⟨f, fd, h1, F, h3, h4⟩ := h.ex
      have e : some (Value.ref f) = some (.ref (clsOf K _)) := h1.symm.trans v.ex
      cases e
      exact ⟨fd, _, F.up hj, h3, h4, rfl⟩
    · exact ih p hp
theorem pe_tGK {X : Cx} {x : Str} {i j k n : Nat} {tbl : Tbl} {p pos : Pos} {ks : List Str} {js : List Nat} {kws : List Keyword} {tk : TA} (T : TblGK X.prog X.w X.K X.mg X.base k n ks js tbl) (hr : Rg j X.A) (hj : k ≤ j) (hN : X.N[i]? = some x) (hv : Vis X.env.scope x) (ha : PK X kws tk) (hjs : ks.length - 1 ∈ js ∧ js.length = n)
    (hdb : (x == ("__debug__" : Str)) = false := by decide) (hcd : (x == ("__classdict__" : Str)) = false := by decide) (hall : (backToKw pos (keywordEach kws X.env)).all (·.1.isSome) = true := by rfl) (hks : (backToKw pos (keywordEach kws X.env)).filterMap (·.1) = ks := by rfl)
    (hpl : ((backTo pos (starEach [] X.env)).any (·.1) || (backToKw pos (keywordEach kws X.env)).any (·.1.isNone)) = false := by rfl) : PE X (.Call (.Name x p) [] kws pos) (tCallA i (tblS X.K n tbl) (tPerm js tk)) := by
  constructor
  intro pn sh sg Hp0 QQ inv ⟨f, sp, at_i, hs, want⟩
  unfold tblS at hs
  obtain ⟨q, hq, rfl⟩ := Option.map_eq_some_iff.mp hs
  have e1 : clsOf X.K q.1 = f := by simpa using List.find?_some hq
  subst e1
  obtain ⟨fd, ps, F, kp, bn, pl⟩ := T.held q (List.mem_of_find?_eq_some hq)
  refine wpAny_Call_Name_kw (thn ((pe_var (pos := p) hN hv hdb hcd).run pn sh sg Hp0 (fun v H1 => v = .ref (clsOf X.K q.1) ∧ H1 = Hp0) inv ⟨_, at_i, rfl, rfl⟩) fun u s1 got => ?_)
  obtain ⟨_, _, inv1, r1, rfl, rfl⟩ := got
  cases r1
  refine PySem.W.callWith_KW0 (h₀ := X.base) inv.ok.mod.kin kp hall (thn (ha.run pos pn s1 sg _ _ inv1 want) fun us s2 ⟨vs, H2, inv2, rel, fin⟩ => ⟨inv2.kIn, ?_⟩) hpl
  rw [hks]
  have rel2 := vals_pm rel js
  have hl : (pm js vs).length = js.length := (F.len _ _ _ _ fin).trans (pl.trans hjs.2.symm)
  have h1 := pm_all hl _ hjs.1
  have binds := bn.to s2 us (by rw [← rel.length]; omega)
  refine wpAny_call (codeAny_mono (F.go X.A (hr.mono hj) X.stack s2 H2 ⟨[], ks.zip us⟩ (pm js us) (pm js vs) QQ (fun _ _ _ => False) inv2.env0 binds rel2 fin) fun res s3 out => ?_)
  match res, out with
  | .error er, out => exact (show False from out).elim
  | .ok (.ret _), out => exact inv2.after out
  | .ok .next, out => exact out.elim
  | .ok .brk, out => exact out.elim
  | .ok .cont, out => exact out.elim
theorem g_appN {i : Nat} {env e1 e2 : En} {fe : En → Option (R × En)} {r : R} {xs : List Int} {ys : List D} {xs0 : List D} {Q : Out → Prop} (h0 : env[i]? = some (.ow xs0)) (h : EV fe env r e1) (hi : e1[i]? = some (.ow (xs.map D.int))) (hz : frz e1 r = some (.non, e1)) (g : Hd (appM (xs.map D.int) D.non) ys) (hs : e1.set i (.ow (ys.map eD)) = e2) (q : Q (.nx e2)) : Go (sExpr (eAppend i (aCons fe aNil))) env Q :=
  g_app (E := eD) (xs := xs.map D.int) (v := D.non) h0 h (by rw [List.map_id'' (f := eD) (fun _ => rfl)]; exact hi) hz g hs q
end Vm

set_option Elab.async false
set_option linter.all false
set_option maxRecDepth 100000
/-! VX2: a variable that holds None or a list, which is a value from then on. -/
namespace Vm
open PySem PySem.Spec PyProof.Rows L2 Evl
def oD {α : Type} (E : α → D) (z : Option (List α)) : D := match z with
  | none => .non
  | some xs => .lst (xs.map E)
def sSetV (i : Nat) (f : En → Option (R × En)) : En → Option Out := fun env => (f env).bind fun a => (store i a.1 a.2).bind fun e => match e[i]? with
  | some (.sh _) => some (.nx e)
  | some (.ow _) => sFrz i e
  | _ => none
section
variable {K : PySem.W.Frag} {fix : List Nat} {W : WX} {te : TE} {f : En → Option (R × En)} {i : Nat}
theorem ss_setV (h : SE K te f) (hi : i ∉ fix) : SS K fix W (tAsg te (gName i)) (sSetV i f) := by
  intro C hC hF B env σ H o s e D p
  obtain ⟨⟨a, e1⟩, g1, e⟩ := Option.bind_eq_some_iff.mp e
  obtain ⟨e2, g2, e⟩ := Option.bind_eq_some_iff.mp e
  refine h C hC B env σ H a e1 s g1 _ fun v B1 H1 s1 x1 rv => ?_
  obtain ⟨B2, s2, x2⟩ := store_ok s1 (by rw [hF]; exact hi) rv g2
  split at e
  · cases e
    exact p B2 _ H1 s2 (x1.trans x2)
  · rename_i ys q
    unfold sFrz at e
    rw [q] at e
    simp only [Option.some.injEq] at e
    subst e
    obtain ⟨pa, vs, k1, bp, gp, hp, ra⟩ := s2.sl i _ q
    have z : frz e2 (.al i) = some (.lst ys, e2.set i (.sh (.lst ys))) := by rw [x_frz3, q]
    obtain ⟨B3, s3, x3, _⟩ := frz_rep (v := .ref pa) s2 (show RepR C B2 e2 _ H1 (.ref pa) (.al i) from k1) z
    exact p B3 _ H1 s3 ((x1.trans x2).trans x3)
  · cases e
end
section
variable {α : Type} {E : α → D} {env e1 e2 : En} {fa : En → Option (R × En)} {i : Nat} {Q : Out → Prop} {z : Option (List α)}
theorem g_setV (h : EV fa env (rO E z) e1) (hl : i < e1.length) (hs : e1.set i (.sh (oD E z)) = e2) (q : Q (.nx e2)) : Go (sSetV i fa) env Q := by
  refine ⟨.nx e2, ?_, q⟩
  unfold sSetV
  rw [show fa env = _ from h]
  simp only [Option.bind_some]
  cases z with
  | none =>
    show (some (e1.set i (.sh .non))).bind _ = _
    simp only [Option.bind_some]
    rw [List.getElem?_set_self hl]
    simp only
    rw [← hs]
    rfl
  | some xs =>
    show (some (e1.set i (.ow (xs.map E)))).bind _ = _
    simp only [Option.bind_some]
    rw [List.getElem?_set_self hl]
    simp only [sFrz]
    rw [List.getElem?_set_self hl]
    simp only [List.set_set]
    rw [← hs]
    rfl
theorem g_setVL {xs : List α} (h : EV fa env (.fr (xs.map E)) e1) (hl : i < e1.length) (hs : e1.set i (.sh (.lst (xs.map E))) = e2) (q : Q (.nx e2)) : Go (sSetV i fa) env Q := g_setV (z := some xs) h hl hs q
end
section
variable {env e1 e2 e3 : En} {fe : En → Option (R × En)} {fl fh : En → Option (Option Int × En)} {r : R} {xs : List Int} {lo hi : Option Int}
/-- a slice of the script -/
theorem ev_slS (h : EV fe env r e1) (hl : PV fl e1 lo e2) (hh : PV fh e2 hi e3) (hz : look e3 r = some (.scr xs)) : EV (eSl fe fl fh) env (.fr ((cutI xs lo hi).map D.int)) e3 := by
  unfold EV eSl PV at *
  rw [h]
  simp only [Option.bind_some]
  rw [hl]
  simp only [Option.bind_some]
  rw [hh]
  simp only [Option.bind_some]
  rw [hz]
  simp only [Option.bind_some]
  show (some (xs.map D.int)).map _ = _
  simp only [Option.map_some]
  rw [cutD_map]
end
section
variable {K : PySem.W.Frag} {te : TE} {f : En → Option (R × En)} {env e1 : En} {i : Int}
/-- n.bit_length() -/
def eBits (f : En → Option (R × En)) : En → Option (R × En) := fun env => (f env).bind fun a => match a.1 with
  | .val (.int i) => some (.val (.int (Builtin.Int.intBits i : Nat)), a.2)
  | _ => none
theorem se_bits (h : SE K te f) : SE K (tBits te) (eBits f) := by
  intro C hC B env σ H r env' s e Q hq
  obtain ⟨⟨a, e1⟩, g1, e⟩ := Option.bind_eq_some_iff.mp e
  simp only at e
  split at e
  · rename_i i
    cases e
    refine h C hC B env σ H _ _ s g1 _ fun v B1 H1 s1 x1 rv => ?_
    have rv : Rep C.K B1 v (.int i) := rv
    cases rv
    exact ⟨i, rfl, hq (.int (Builtin.Int.intBits i : Nat)) B1 H1 s1 x1 (by show Rep C.K B1 _ _; exact .int _)⟩
  · cases e
theorem ev_bits (h : EV f env (.val (.int i)) e1) : EV (eBits f) env (.val (.int (Builtin.Int.intBits i : Nat))) e1 := by
  unfold EV eBits at *
  rw [h]
  rfl
end
end Vm

set_option Elab.async false
set_option linter.all false
set_option maxRecDepth 100000
/-! VPN: several names at once, new lists among them; tests that change own lists; a call's None. -/
namespace Vm
open PySem PySem.Spec PyProof.Rows L2 Evl
section
variable {K : PySem.W.Frag} {C : Ctx} {B B' H H' : Hp} {env env' : En} {σ : L2.St} {fix : List Nat} {W : WX} {ta te : TE} {fa : En → Option (R × En)}
/-- v is none of the new lists -/
def NotIn (v : V) : List V → List R → Prop
  | w :: ws, .fr _ :: rs => v ≠ w ∧ NotIn v ws rs
  | _ :: ws, _ :: rs => NotIn v ws rs
  | _, _ => True
def DisRs : List V → List R → Prop
  | v :: vs, .fr _ :: rs => NotIn v vs rs ∧ DisRs vs rs
  | _ :: vs, _ :: rs => DisRs vs rs
  | _, _ => True
def SAd (K : PySem.W.Frag) (t : TA) (f : En → Option (List R × En)) : Prop :=
  ∀ C : Ctx, C.K = K → ∀ (B : Hp) (env : En) (σ : L2.St) (H : Hp) (r : List R) (env' : En), SR C B env σ H → f env = some (r, env') →
    ∀ Q : List V → Hp → Prop, (∀ v B' H', SR C B' env' σ H' → Ex B B' → RepRs C B' env' σ H' v r → DisRs v r → Q v H') → t σ H Q
theorem sad_nil : SAd K tNil aNil := by
  intro C hC B env σ H r env' s e Q hq
  cases e
  exact hq [] B H s (Ex.refl _) trivial trivial
theorem notIn_of {T : Hp} {p : Addr} (hp : T p ≠ none) : ∀ {vs : List V} {rs : List R}, RepRs (C.plus T) B env σ H vs rs → NotIn (.ref p) vs rs
  | [], [], _ => trivial
  | v :: vs, r :: rs, ⟨h1, h2⟩ => by
    cases r with
    | val d =>
      have q : NotIn (.ref p) vs rs := notIn_of hp h2
      exact q
    | al i =>
      have q : NotIn (.ref p) vs rs := notIn_of hp h2
      exact q
    | fr xs =>
      refine ⟨fun e => ?_, notIn_of hp h2⟩
      obtain ⟨q, ws, rfl, _, gq, _⟩ := h1
      cases e
      exact hp (join_none gq).2
  | [], _ :: _, h => h.elim
  | _ :: _, [], h => h.elim
theorem sad_cons {tr : TA} {fr : En → Option (List R × En)} (ha : SE K ta fa) (hr : SAd K tr fr) : SAd K (tCons ta tr) (aCons fa fr) := by
  intro C hC B env σ H r env' s e Q hq
  obtain ⟨⟨ra, e1⟩, h1, e⟩ := Option.bind_eq_some_iff.mp e
  obtain ⟨⟨rs, e2⟩, h2, e⟩ := Option.map_eq_some_iff.mp e
  cases e
  refine ha C hC B env σ H ra e1 s h1 _ fun x B1 H1 s1 x1 r1 => ?_
  have t := r1.tmp
  refine hr (C.plus (tmpOf x H1 ra)) hC B1 e1 σ H1 rs e2 (s1.plus t) h2 _ fun ys B2 H2 s2 x2 r2 d2 => ?_
  obtain ⟨s3, t3⟩ := SR.minus s1.exG t.ex t.nb x2 s2 s1.ex0
  refine hq (x :: ys) B2 H2 s3 (x1.trans x2) ⟨r1.keep x2 t3, r2.minus⟩ ?_
  cases ra with
  | val d => exact d2
  | al i => exact d2
  | fr xs =>
    refine ⟨?_, d2⟩
    obtain ⟨p, vs, rfl, bp, gp, hp, _⟩ := r1
    refine notIn_of ?_ r2
    unfold tmpOf
    simp only [if_true]
    rw [hp]
    exact fun z => nomatch z
def noAl : List R → Bool
  | [] => true
  | .al _ :: _ => false
  | _ :: rs => noAl rs
def aOwn : List Nat → List R → En → Option En
  | [], [], e => some e
  | i :: is, .val d :: rs, e => aOwn is rs (e.set i (.sh d))
  | i :: is, .fr xs :: rs, e => aOwn is rs (e.set i (.ow xs))
  | _, _, _ => none
def gNames : List Nat → TGs
  | [] => gNil
  | i :: is => gCons (gName i) (gNames is)
theorem off_own {q p : Addr} {i : Nat} {xs : List D} (o : Off env σ q) (ne : q ≠ p) : Off (env.set i (.ow xs)) (σ.set i (some (.ref p))) q := fun k ys h h2 => by
  rcases get_set h with ⟨rfl, _, hl⟩ | ⟨hk, h⟩
  · by_cases hs : k < σ.length
    · rw [List.getElem?_set_self hs] at h2
      cases h2
      exact ne rfl
    · rw [List.getElem?_eq_none (by rw [List.length_set]; omega)] at h2
      cases h2
  · rw [List.getElem?_set_ne fun e => hk e.symm] at h2
    exact o k ys h h2
theorem reps_sh {i : Nat} {d : D} {v : V} : ∀ {vs : List V} {rs : List R}, noAl rs = true → RepRs C B env σ H vs rs → RepRs C B (env.set i (.sh d)) (σ.set i (some v)) H vs rs
  | [], [], _, _ => trivial
  | w :: vs, r :: rs, n, ⟨h1, h2⟩ => by
    cases r with
    | val x => exact ⟨h1, reps_sh n h2⟩
    | al k => cases n
    | fr xs =>
      obtain ⟨p, ws, rfl, bp, gp, hp, ra, off⟩ := h1
      exact ⟨⟨p, ws, rfl, bp, gp, hp, ra, off_set off⟩, reps_sh n h2⟩
  | [], _ :: _, _, h => h.elim
  | _ :: _, [], _, h => h.elim
theorem reps_ow {i : Nat} {xs : List D} {p : Addr} : ∀ {vs : List V} {rs : List R}, noAl rs = true → NotIn (.ref p) vs rs → RepRs C B env σ H vs rs → RepRs C B (env.set i (.ow xs)) (σ.set i (some (.ref p))) H vs rs
  | [], [], _, _, _ => trivial
  | w :: vs, r :: rs, n, k, ⟨h1, h2⟩ => by
    cases r with
    | val x => exact ⟨h1, reps_ow n k h2⟩
    | al k => cases n
    | fr ys =>
      obtain ⟨k1, k2⟩ := k
      obtain ⟨q, ws, rfl, bp, gp, hp, ra, off⟩ := h1
      exact ⟨⟨q, ws, rfl, bp, gp, hp, ra, off_own off fun e => k1 (by rw [e])⟩, reps_ow n k2 h2⟩
  | [], _ :: _, _, _, h => h.elim
  | _ :: _, [], _, _, h => h.elim
theorem names_ok : ∀ {is : List Nat} {vs : List V} {rs : List R} {env env' : En} {σ : L2.St}, SR C B env σ H → noAl rs = true → RepRs C B env σ H vs rs → DisRs vs rs → aOwn is rs env = some env' → (∀ i ∈ is, i ∉ C.fix) →
    ∀ Q : L2.St → Hp → Prop, (∀ σ', SR C B env' σ' H → Q σ' H) → gNames is vs σ H Q
  | [], [], [], env, env', σ, s, _, _, _, e, _, Q, hq => by
    cases e
    exact ⟨rfl, hq σ s⟩
  | i :: is, v :: vs, r :: rs, env, env', σ, s, n, ⟨h1, h2⟩, d, e, hi, Q, hq => by
    cases r with
    | val x =>
      have s1 := s.setV (i := i) (v := v) (t := .sh x) (hi i List.mem_cons_self) h1
      have e : aOwn is rs (env.set i (.sh x)) = some env' := e
      have n : noAl rs = true := n
      have d : DisRs vs rs := d
      have z : gNames is vs (σ.set i (some v)) H Q := names_ok s1 n (reps_sh n h2) d e (fun j hj => hi j (List.mem_cons_of_mem _ hj)) Q hq
      exact ⟨v, vs, rfl, z⟩
    | al k => cases n
    | fr xs =>
      obtain ⟨p, ws, rfl, bp, gp, hp, ra, off⟩ := h1
      have s1 := s.setV (i := i) (v := .ref p) (t := .ow xs) (hi i List.mem_cons_self) ⟨p, ws, rfl, bp, gp, hp, ra, off_un off i⟩
      have e : aOwn is rs (env.set i (.ow xs)) = some env' := e
      have n : noAl rs = true := n
      have d : NotIn (.ref p) vs rs ∧ DisRs vs rs := d
      have z : gNames is vs (σ.set i (some (.ref p))) H Q := names_ok s1 n (reps_ow n d.1 h2) d.2 e (fun j hj => hi j (List.mem_cons_of_mem _ hj)) Q hq
      exact ⟨.ref p, vs, rfl, z⟩
  | [], [], _ :: _, _, _, _, _, _, h, _, _, _, _, _ => h.elim
  | [], _ :: _, [], _, _, _, _, _, h, _, _, _, _, _ => h.elim
  | [], _ :: _, r :: _, _, _, _, _, _, _, _, e, _, _, _ => by unfold aOwn at e; cases e
  | _ :: _, [], [], _, _, _, _, _, _, _, e, _, _, _ => by unfold aOwn at e; cases e
  | _ :: _, [], _ :: _, _, _, _, _, _, h, _, _, _, _, _ => h.elim
  | _ :: _, _ :: _, [], _, _, _, _, _, h, _, _, _, _, _ => h.elim
theorem reps_up {p : Addr} {o : HO} (hp : H p = none) : ∀ {vs : List V} {rs : List R}, RepRs C B env σ H vs rs → RepRs C B env σ (upd H p o) vs rs
  | [], [], _ => trivial
  | w :: vs, r :: rs, ⟨h1, h2⟩ => by
    refine ⟨?_, reps_up hp h2⟩
    cases r with
    | val x => exact h1
    | al k => exact h1
    | fr ys =>
      obtain ⟨q, ws, rfl, bp, gp, hq, ra, off⟩ := h1
      exact ⟨q, ws, rfl, bp, gp, by rw [upd_ne (ne_of_none hq hp)]; exact hq, ra, off⟩
  | [], _ :: _, h => h.elim
  | _ :: _, [], h => h.elim
theorem reps_len : ∀ {vs : List V} {rs : List R}, RepRs C B env σ H vs rs → vs.length = rs.length
  | [], [], _ => rfl
  | _ :: vs, _ :: rs, ⟨_, h⟩ => congrArg (· + 1) (reps_len h)
  | [], _ :: _, h => h.elim
  | _ :: _, [], h => h.elim
theorem aOwn_len : ∀ {is : List Nat} {rs : List R} {env env' : En}, aOwn is rs env = some env' → is.length = rs.length
  | [], [], _, _, _ => rfl
  | i :: is, .val d :: rs, _, _, h => congrArg (· + 1) (aOwn_len (is := is) h)
  | i :: is, .fr xs :: rs, _, _, h => congrArg (· + 1) (aOwn_len (is := is) h)
  | [], _ :: _, _, _, h => by unfold aOwn at h; cases h
  | _ :: _, [], _, _, h => by unfold aOwn at h; cases h
  | _ :: _, .al _ :: _, _, _, h => by unfold aOwn at h; cases h
/-- a, b .. = x, y ..: new lists are one's own -/
def sParN (is : List Nat) (f : En → Option (List R × En)) : En → Option Out := fun env => (f env).bind fun a => if noAl a.1 = true then (aOwn is a.1 a.2).map Out.nx else none
theorem ss_parN {is : List Nat} {n : Nat} {tl : TA} {f : En → Option (List R × En)} (h : SAd K tl f) (hn : is.length = n) (hi : ∀ i ∈ is, i ∉ fix) (hl : is.length ≤ 1000) : SS K fix W (tAsg (tTup tl) (gTup K n (gNames is))) (sParN is f) := by
  intro C hC hF B env σ H o s e D p
  subst hn
  obtain ⟨⟨rs, e1⟩, g1, e⟩ := Option.bind_eq_some_iff.mp e
  simp only at e
  split at e
  · rename_i na
    obtain ⟨e2, g2, rfl⟩ := Option.map_eq_some_iff.mp e
    have l1 := aOwn_len g2
    refine h C hC B env σ H rs e1 s g1 _ fun vs B1 H1 s1 x1 rr dd => ?_
    have l2 := reps_len rr
    refine ⟨le1000 (by omega), fun q hq => ?_⟩
    refine ⟨q, vs, rfl, st_of upd_same, by omega, ?_⟩
    refine names_ok (s1.temp hq) na (reps_up hq rr) dd g2 (by rw [hF]; exact hi) _ fun σ' s' => ?_
    exact p B1 σ' _ s' x1
  · cases e
theorem ss_parN2 {i j : Nat} {tl : TA} {f : En → Option (List R × En)} (h : SAd K tl f) (hi : ∀ k ∈ [i, j], k ∉ fix) : SS K fix W (tPar i j tl) (sParN [i, j] f) := by
  intro C hC hF B env σ H o s e D p
  obtain ⟨⟨rs, e1⟩, g1, e⟩ := Option.bind_eq_some_iff.mp e
  simp only at e
  split at e
  · rename_i na
    obtain ⟨e2, g2, rfl⟩ := Option.map_eq_some_iff.mp e
    refine h C hC B env σ H rs e1 s g1 _ fun vs B1 H1 s1 x1 rr dd => ?_
    have z := names_ok s1 na rr dd g2 (by rw [hF]; exact hi) (fun σ' H' => D.nx σ' H') fun σ' s' => p B1 σ' _ s' x1
    obtain ⟨v, r, rfl, ⟨w, r2, rfl, ⟨rfl, q⟩⟩⟩ := z
    exact ⟨v, w, rfl, q⟩
  · cases e
theorem ss_parN3 {i j l : Nat} {tl : TA} {f : En → Option (List R × En)} (h : SAd K tl f) (hi : ∀ k ∈ [i, j, l], k ∉ fix) : SS K fix W (tPar3 i j l tl) (sParN [i, j, l] f) := by
  intro C hC hF B env σ H o s e D p
  obtain ⟨⟨rs, e1⟩, g1, e⟩ := Option.bind_eq_some_iff.mp e
  simp only at e
  split at e
  · rename_i na
    obtain ⟨e2, g2, rfl⟩ := Option.map_eq_some_iff.mp e
    refine h C hC B env σ H rs e1 s g1 _ fun vs B1 H1 s1 x1 rr dd => ?_
    have z := names_ok s1 na rr dd g2 (by rw [hF]; exact hi) (fun σ' H' => D.nx σ' H') fun σ' s' => p B1 σ' _ s' x1
    obtain ⟨v, r, rfl, ⟨w, r2, rfl, ⟨u, r3, rfl, ⟨rfl, q⟩⟩⟩⟩ := z
    exact ⟨v, w, u, rfl, q⟩
  · cases e
end
section
variable {env e1 e2 : En} {f : En → Option (List R × En)} {rs : List R} {is : List Nat} {Q : Out → Prop} {t u : En → Option (Bool × En)} {fa fb : En → Option (R × En)}
theorem g_parN (h : AV f env rs e1) (hn : noAl rs = true) (hs : aOwn is rs e1 = some e2) (q : Q (.nx e2)) : Go (sParN is f) env Q :=
  ⟨_, by unfold sParN; rw [h]; show (if noAl rs = true then _ else _) = _; rw [if_pos hn, hs]; rfl, q⟩
/-- tests whose second part changes own lists -/
theorem tv_andS {τ : Type} (shape : τ → En) {a : Bool} {mb : M (Bool × τ)} {s0 : τ} {v : Bool × τ} (h : Hd (cnd a mb (pr (false, s0))) v) (ha : TV t env a (shape s0)) (hb : ∀ w, Hd mb w → TV u (shape s0) w.1 (shape w.2)) : TV (bAnd t u) env v.1 (shape v.2) := by
  unfold TV at *
  cases a with
  | true => simp [ha, hb v (cnd_t h rfl)]
  | false =>
    have e : (false, s0) = v := (cnd_f h rfl).eq
    subst e
    simp [ha]
theorem tv_orS {τ : Type} (shape : τ → En) {a : Bool} {mb : M (Bool × τ)} {s0 : τ} {v : Bool × τ} (h : Hd (cnd a (pr (true, s0)) mb) v) (ha : TV t env a (shape s0)) (hb : ∀ w, Hd mb w → TV u (shape s0) w.1 (shape w.2)) : TV (bOr t u) env v.1 (shape v.2) := by
  unfold TV at *
  cases a with
  | false => simp [ha, hb v (cnd_f h rfl)]
  | true =>
    have e : (true, s0) = v := (cnd_t h rfl).eq
    subst e
    simp [ha]
theorem ev_iteS {α τ : Type} (shape : τ → En) {a : Bool} {m1 m2 : M (α × τ)} {v : α × τ} {K : α → R} (h : Hd (cnd a m1 m2) v) (ht : TV t env a e1) (h1 : ∀ w, Hd m1 w → EV fa e1 (K w.1) (shape w.2)) (h2 : ∀ w, Hd m2 w → EV fb e1 (K w.1) (shape w.2)) : EV (eIf t fa fb) env (K v.1) (shape v.2) := by
  unfold EV TV at *
  cases a with
  | true => simp [ht, h1 v (cnd_t h rfl)]
  | false => simp [ht, h2 v (cnd_f h rfl)]
end
section
variable {α : Type} {E : α → D} {env e1 e2 : En} {fa : En → Option (R × En)} {z : Option (List α)}
theorem lv_oD (h : EV fa env (rO E z) e1) : LV fa env (oD E z) e1 := by
  cases z with
  | none => exact lv_of h fun _ => rfl
  | some xs => exact lv_of h fun _ => rfl
theorem o_isOD : dIsN (oD E z) .non = some (.bl z.isNone) := by
  cases z with
  | none => rfl
  | some xs => rfl
theorem o_notOD : dNotN (oD E z) .non = some (.bl z.isSome) := by
  cases z with
  | none => rfl
  | some xs => rfl
end
end Vm

set_option Elab.async false
set_option linter.all false
set_option maxRecDepth 100000
/-! VTD: two new lists in a list, which are looked at and then changed in their place. -/
namespace Vm
open PySem PySem.Spec PyProof.Rows L2 Evl
section
variable {K : PySem.W.Frag} {C : Ctx} {B B' H H' : Hp} {env env' : En} {σ : L2.St} {fix : List Nat} {W : WX}
/-- own lists hold numbers only -/
def owI : En → Bool
  | [] => true
  | .ow xs :: r => (unInts xs).isSome && owI r
  | _ :: r => owI r
theorem owI_get : ∀ {env : En} {i : Nat} {xs : List D}, owI env = true → env[i]? = some (.ow xs) → ∃ ns : List Int, xs = ns.map D.int
  | [], i, xs, _, h => by simp at h
  | s :: r, 0, xs, h, e => by
    simp at e
    subst e
    unfold owI at h
    rw [Bool.and_eq_true] at h
    obtain ⟨ns, hn⟩ := Option.isSome_iff_exists.mp h.1
    exact ⟨ns, unInts_some hn⟩
  | s :: r, i + 1, xs, h, e => by
    have h2 : owI r = true := by
      cases s with
      | un => exact h
      | sh d => exact h
      | ow ys =>
        unfold owI at h
        rw [Bool.and_eq_true] at h
        exact h.2
    exact owI_get h2 (by simpa using e)
open Classical in
/-- x = [e1, e2]; if t: ..; x[0].append(None); x[1].append(None); .. -/
noncomputable def sTold (i : Nat) (fl : En → Option (List R × En)) (ft : En → Option (Bool × En)) (Fb Fr : En → Option Out) : En → Option Out := fun env => (fl env).bind fun a => match a.1 with
  | [.fr xs, .fr ys] => if owI a.2 = true ∧ i < a.2.length ∧ xs.length < 1000000 ∧ ys.length < 1000000 then
      (ft (a.2.set i (.sh (.lst [.lst xs, .lst ys])))).bind fun t => if t.1 = true then (Fb t.2).bind fun o => (match o with | .nx _ => none | o => some o) else if t.2 = a.2.set i (.sh (.lst [.lst xs, .lst ys])) then Fr (a.2.set i .un) else none
    else none
  | _ => none
def tApp (K : PySem.W.Frag) (i : Nat) (k : Int) : TE := tBM K "list" rAppend (tOp (rIx K) (tVar i) (tC (.int k))) (tCons (tC .non) tNil)
theorem ss_told {i : Nat} {tl : TA} {tt : TT} {tb tr : TS} {fl : En → Option (List R × En)} {ft : En → Option (Bool × En)} {Fb Fr : En → Option Out}
    (hl : SAd K tl fl) (ht : ST K tt ft) (hb : SS K fix W tb Fb) (hr : SS K fix W tr Fr) (hi : i ∉ fix) :
    SS K fix W (tSeq (tAsg (tLst tl) (gName i)) (tSeq (tIfS tt tb tNext) (tSeq (tDrop (tApp K i 0)) (tSeq (tDrop (tApp K i 1)) tr)))) (sTold i fl ft Fb Fr) := by
  intro C hC hF B env σ H o s e D p
  obtain ⟨⟨rs, e1⟩, g1, e⟩ := Option.bind_eq_some_iff.mp e
  simp only at e
  split at e
  · rename_i xs ys
    split at e
    · rename_i cond
      obtain ⟨oi, il, lx, ly⟩ := cond
      obtain ⟨⟨b, e3⟩, g2, e⟩ := Option.bind_eq_some_iff.mp e
      simp only at e
      refine hl C hC B env σ H _ e1 s g1 _ fun vs B2 H2 s2 x2 rr dd => ?_
      match vs, rr, dd with
      | [v, w], ⟨r1, r2, _⟩, dd =>
        obtain ⟨p1, v1, rfl, bp1, gp1, hp1, ra1, off1⟩ := r1
        obtain ⟨p2, v2, rfl, bp2, gp2, hp2, ra2, off2⟩ := r2
        have ne12 : p1 ≠ p2 := fun z => dd.1.1 (by rw [z])
        refine ⟨le1000 (by simp), fun q hq => ?_⟩
        have nq1 : p1 ≠ q := ne_of_none hp1 hq
        have nq2 : p2 ≠ q := ne_of_none hp2 hq
        -- they are data for the test
        have s3 := s2.take bp1 gp1 hp1 off1
        have bp2' : upd B2 p1 (.lst v1) p2 = none := by rw [upd_ne (fun z => ne12 z.symm)]; exact bp2
        have s3b := s3.take bp2' gp2 hp2 off2
        have s3c := s3b.alloc (o := .lst [.ref p1, .ref p2]) hq
        obtain ⟨B3, eB3⟩ : ∃ B3, B3 = upd (upd (upd B2 p1 (.lst v1)) p2 (.lst v2)) q (.lst [.ref p1, .ref p2]) := ⟨_, rfl⟩
        rw [← eB3] at s3c
        have b3q : B3 q = some (.lst [.ref p1, .ref p2]) := by rw [eB3, upd_same]
        have b31 : B3 p1 = some (.lst v1) := by rw [eB3, upd_ne nq1, upd_ne ne12, upd_same]
        have b32 : B3 p2 = some (.lst v2) := by rw [eB3, upd_ne nq2, upd_same]
        have x3 : Ex B2 B3 := by
          rw [eB3]
          refine ((Ex.new bp1).trans (Ex.new bp2')).trans (Ex.new ?_)
          exact fresh_back s3b.exB hq
        have rep : Rep C.K B3 (.ref q) (.lst [.lst xs, .lst ys]) := .lst b3q (.cons (.lst b31 (ra1.mono x3)) (.cons (.lst b32 (ra2.mono x3)) .nil))
        have s4 := s3c.setV (i := i) (v := .ref q) (t := .sh (.lst [.lst xs, .lst ys])) (by rw [hF]; exact hi) rep
        obtain ⟨σ', eσ⟩ : ∃ σ', σ' = σ.set i (some (.ref q)) := ⟨_, rfl⟩
        have hσi : σ'[i]? = some (some (.ref q)) := by rw [eσ, List.getElem?_set_self (by rw [s2.len]; exact il)]
        rw [← eσ] at s4
        show tSeq (tIfS tt tb tNext) _ D (σ.set i (some (.ref q))) _
        rw [← eσ]
        refine ht C hC B3 _ σ' _ b e3 s4 g2 _ fun B4 H4 s5 x5 => ?_
        cases b with
        | true =>
          rw [if_pos rfl] at e
          have pp : Post C B4 W D o := p.mono ((x2.trans x3).trans x5)
          obtain ⟨o1, g3, e⟩ := Option.bind_eq_some_iff.mp e
          refine hb C hC hF B4 e3 σ' H4 o1 s5 g3 _ ?_
          cases o1 with
          | nx e4 => cases e
          | rt r e4 => cases e; exact pp
          | bk e4 => cases e; exact pp
          | ct e4 => cases e; exact pp
          | er c e4 => cases e; exact pp
        | false =>
          rw [if_neg (by decide)] at e
          split at e
          · rename_i ee
            subst ee
            have h4q : H4 q = some (.lst [.ref p1, .ref p2]) := s5.exB _ _ (x5 _ _ b3q)
            have h41 : H4 p1 = some (.lst v1) := s5.exB _ _ (x5 _ _ b31)
            have h42 : H4 p2 = some (.lst v2) := s5.exB _ _ (x5 _ _ b32)
            have l1 : v1.length < sizeLine := by rw [ra1.length]; exact mil lx
            have l2 : v2.length < sizeLine := by rw [ra2.length]; exact mil ly
            -- the first one grows
            show tSeq (tDrop (tApp K i 0)) _ D σ' H4
            refine ⟨.ref q, hσi, .inl ⟨q, [.ref p1, .ref p2], 0, .ref p1, rfl, rfl, sq_of h4q, rfl, .inl ⟨rfl, _, sq_of h41⟩, p1, v1, .non, rfl, rfl, h41, l1, ?_⟩⟩
            have h5q : (upd H4 p1 (.lst (v1 ++ [.non]))) q = some (.lst [.ref p1, .ref p2]) := by rw [upd_ne (fun z => nq1 z.symm)]; exact h4q
            have h52 : (upd H4 p1 (.lst (v1 ++ [.non]))) p2 = some (.lst v2) := by rw [upd_ne (fun z => ne12 z.symm)]; exact h42
            -- the second one grows
            show tSeq (tDrop (tApp K i 1)) _ D σ' _
            refine ⟨.ref q, hσi, .inl ⟨q, [.ref p1, .ref p2], 1, .ref p2, rfl, rfl, sq_of h5q, rfl, .inl ⟨rfl, _, sq_of h52⟩, p2, v2, .non, rfl, rfl, h52, l2, ?_⟩⟩
            -- what was known ahead is known again
            refine hr C hC hF B2 (e1.set i .un) σ' _ o ?_ e D (p.mono x2)
            refine ⟨?_, ?_, s2.ex0, s2.new, ?_, fun j u hj => ?_, fun j k z y1 y2 k1 k2 k3 k4 => ?_, s5.fx⟩
            · intro a u ea
              have := s5.exG a u ea
              rw [upd_ne (ne_of_none ea gp2), upd_ne (ne_of_none ea gp1)]
              exact this
            · intro a u ea
              have := s5.exB _ _ (x5 _ _ (x3 _ _ ea))
              rw [upd_ne (ne_of_none ea bp2), upd_ne (ne_of_none ea bp1)]
              exact this
            · rw [List.length_set, eσ, List.length_set]
              exact s2.len
            · rcases get_set hj with ⟨rfl, rfl, _⟩ | ⟨hji, hj⟩
              · trivial
              · have w := s2.sl j u hj
                have eσj : σ'[j]? = σ[j]? := by rw [eσ, List.getElem?_set_ne (fun z => hji z.symm)]
                rw [eσj]
                cases u with
                | un => trivial
                | sh d => exact w
                | ow zs =>
                  obtain ⟨p', vs', k1, k2, k3, k4, k5⟩ := w
                  obtain ⟨ns, rfl⟩ := owI_get oi hj
                  have hj5 : (e1.set i (.sh (.lst [.lst xs, .lst ys])))[j]? = some (.ow (ns.map Vm.D.int)) := by rw [List.getElem?_set_ne (fun z => hji z.symm)]; exact hj
                  obtain ⟨p5, vs5, m1, m2, m3, m4, m5⟩ := s5.sl j _ hj5
                  rw [eσj, k1] at m1
                  cases m1
                  have n1 : p' ≠ p1 := fun z => by rw [z, x5 _ _ b31] at m2; cases m2
                  have n2 : p' ≠ p2 := fun z => by rw [z, x5 _ _ b32] at m2; cases m2
                  rw [RepAll.ints m5] at m4
                  exact ⟨p', _, k1, k2, k3, by rw [upd_ne n2, upd_ne n1]; exact m4, RepAll.of_ints ns⟩
            · refine s5.dis j k z y1 y2 ?_ ?_ k3 k4
              · rcases get_set k1 with ⟨rfl, h, _⟩ | ⟨hji, h⟩
                · cases h
                · rw [List.getElem?_set_ne (fun z => hji z.symm)]; exact h
              · rcases get_set k2 with ⟨rfl, h, _⟩ | ⟨hji, h⟩
                · cases h
                · rw [List.getElem?_set_ne (fun z => hji z.symm)]; exact h
          · cases e
    · cases e
  · cases e
end
end Vm

set_option Elab.async false
set_option linter.all false
set_option maxRecDepth 100000
/-! VCN: how often a number stands in a list; the first one of a number taken out of an own list. -/
namespace Vm
open PySem PySem.Spec PyProof.Rows L2 Evl
@[simp] theorem unInts_is (ns : List Int) : (unInts (ns.map D.int)).isSome = true := by rw [unInts_map]; rfl
def dCount : D → List D → Option D
  | .lst xs, [.int k] => (unInts xs).map fun ns => .int (ns.count k : Nat)
  | _, _ => none
section
variable {K : PySem.W.Frag} {fix : List Nat} {W : WX}
theorem rm_count : RM K (rCntI K) dCount := by
  intro B H x vs d ds z ex rx rs e
  unfold dCount at e
  split at e
  · rename_i xs k
    obtain ⟨ns, h1, rfl⟩ := Option.map_eq_some_iff.mp e
    obtain ⟨v, rfl, ry⟩ := rs.one
    obtain ⟨a, ws, rfl, hp, ra⟩ := rx.list ex
    have e2 := unInts_some h1
    subst e2
    have e3 := RepAll.ints ra
    subst e3
    have e4 := ry.int
    subst e4
    exact ⟨⟨_, rfl⟩, .int _, rfl, fun Q q => ⟨a, ns, k, rfl, rfl, sq_of hp, q⟩⟩
  · cases e
/-- xs.remove(k) -/
def eRemove (i : Nat) (f : En → Option (List R × En)) : En → Option (R × En) := fun env => (own env i).bind fun _ => (aD f env).bind fun b => (oneInt b.1).bind fun k => (own b.2 i).bind fun xs => (unInts xs).bind fun ns => if k ∈ ns then some (.val .non, b.2.set i (.ow ((ns.erase k).map D.int))) else none
theorem erase_at {ns : List Int} {k : Int} (h : k ∈ ns) : ∃ j : Nat, ns[j]? = some k ∧ (∀ m : Nat, m < j → ns[m]? ≠ some k) ∧ ns.eraseIdx j = ns.erase k := by
  induction ns with
  | nil => simp at h
  | cons x xs ih =>
    by_cases e : x = k
    · subst e
      exact ⟨0, rfl, fun m hm => absurd hm (Nat.not_lt_zero m), by simp⟩
    · obtain ⟨j, h1, h2, h3⟩ := ih (by
        rcases List.mem_cons.mp h with z | z
        · exact absurd z.symm e
        · exact z)
      refine ⟨j + 1, h1, fun m hm => ?_, ?_⟩
      · cases m with
        | zero => simpa using e
        | succ m => exact h2 m (by omega)
      · rw [List.eraseIdx_cons_succ, h3, List.erase_cons, if_neg (by simpa using e)]
theorem se_remove {i : Nat} {ta : TA} {f : En → Option (List R × En)} (h : SA K ta f) : SE K (tBM K "list" rRemI (tVar i) ta) (eRemove i f) := by
  intro C hC B env σ H r env' s e Q hq
  obtain ⟨xs0, h0, e⟩ := Option.bind_eq_some_iff.mp e
  obtain ⟨⟨ds, e2⟩, h1, e⟩ := Option.bind_eq_some_iff.mp e
  obtain ⟨k, h2, e⟩ := Option.bind_eq_some_iff.mp e
  obtain ⟨xs, h3, e⟩ := Option.bind_eq_some_iff.mp e
  obtain ⟨ns, h4, e⟩ := Option.bind_eq_some_iff.mp e
  split at e
  · rename_i hm
    cases e
    have e4 := unInts_some h4
    subst e4
    obtain ⟨p, vs0, hs, bp, gp, hp, _⟩ := s.sl i _ (own_some h0)
    refine ⟨.ref p, hs, .inl ⟨rfl, _, sq_of hp⟩, ?_⟩
    obtain ⟨rs, e1, h4, h5⟩ := aD_some h1
    refine h C hC B env σ H rs e1 s h4 _ fun vs B1 H1 s1 x1 r1 => ?_
    obtain ⟨B2, s2, x2, ra⟩ := frzs_w s1 r1.w h5
    obtain ⟨p', ws, hs', bp', gp', hp', ra'⟩ := s2.sl i _ (own_some h3)
    rw [hs] at hs'
    cases hs'
    have e3 := RepAll.ints ra'
    subst e3
    match ds, vs, h2, ra with
    | [.int _], [y], h2, .cons ry .nil =>
      cases h2
      cases ry
      obtain ⟨j, j1, j2, j3⟩ := erase_at hm
      refine ⟨p, ns, k, j, rfl, rfl, hp', j1, j2, ?_⟩
      rw [j3]
      exact hq .non B2 _ (s2.put (own_some h3) hs (RepAll.of_ints _)) (x1.trans x2) .non
  · cases e
end
def countM (xs : List Int) (y : Int) : M Int := ⟨True, (xs.count y : Nat)⟩
def remM (xs : List Int) (y : Int) : M (List Int) := ⟨y ∈ xs, xs.erase y⟩
section
variable {env e1 e2 e3 : En} {fa : En → Option (R × En)} {f fl : En → Option (List R × En)} {ft : En → Option (Bool × En)} {Fb Fr : En → Option Out} {Q : Out → Prop} {i : Nat} {xs : List Int} {y : Int}
theorem o_count : dCount (.lst (xs.map D.int)) [.int y] = some (.int (xs.count y : Nat)) := by
  show (unInts (xs.map D.int)).map _ = _
  rw [unInts_map]
  rfl
theorem ev_remove {w : List Int} (h0 : env[i]? = some (.ow (xs.map D.int))) (ha : AV f env [.val (.int y)] env) (g : Hd (remM xs y) w) (hs : env.set i (.ow (w.map D.int)) = e2) : EV (eRemove i f) env (.val .non) e2 := by
  obtain ⟨hm, rfl⟩ := g
  have hm : y ∈ xs := hm
  unfold EV eRemove own aD AV at *
  rw [h0]
  simp only [Option.bind_some]
  rw [ha]
  simp only [Option.bind_some]
  show ((frzs env [R.val (D.int y)]).bind _) = _
  show (some ([D.int y], env)).bind _ = _
  simp only [Option.bind_some]
  show (oneInt [D.int y]).bind _ = _
  show (some y).bind _ = _
  simp only [Option.bind_some]
  rw [h0]
  simp only [Option.bind_some]
  rw [unInts_map]
  simp only [Option.bind_some]
  rw [if_pos hm, ← hs]
  rfl
theorem nx_ret {fe : En → Option (R × En)} : ∀ e o, sRet fe e = some o → ∀ e', o ≠ .nx e' := fun e o h e' z => by
  subst z
  obtain ⟨a, _, h2⟩ := Option.map_eq_some_iff.mp h
  cases h2
theorem g_told {α β : Type} {E : α → D} {E' : β → D} {as : List α} {bs : List β} {b : Bool} (h : AV fl env [.fr (as.map E), .fr (bs.map E')] e1) (ho : owI e1 = true) (hi : i < e1.length) (la : as.length < 1000000) (lb : bs.length < 1000000)
    (hs : e1.set i (.sh (.lst [.lst (as.map E), .lst (bs.map E')])) = e2) (he3 : e1.set i .un = e3) (hb : TV ft e2 b e2) (hn : ∀ e o, Fb e = some o → ∀ e', o ≠ .nx e') (h1 : b = true → Go Fb e2 Q) (h2 : b = false → Go Fr e3 Q) : Go (sTold i fl ft Fb Fr) env Q := by
  unfold Go at *
  unfold sTold AV TV at *
  rw [h]
  simp only [Option.bind_some]
  rw [if_pos ⟨ho, hi, by rw [List.length_map]; exact la, by rw [List.length_map]; exact lb⟩, hs, hb]
  simp only [Option.bind_some]
  cases b with
  | true =>
    obtain ⟨o, g1, g2⟩ := h1 rfl
    refine ⟨o, ?_, g2⟩
    rw [if_pos rfl, g1]
    simp only [Option.bind_some]
    cases o with
    | nx e4 => exact absurd rfl (hn _ _ g1 e4)
    | rt r e4 => rfl
    | bk e4 => rfl
    | ct e4 => rfl
    | er c e4 => rfl
  | false =>
    obtain ⟨o, g1, g2⟩ := h2 rfl
    refine ⟨o, ?_, g2⟩
    rw [if_neg (by decide), if_pos trivial, he3]
    exact g1
end
theorem ev_frO {env e1 : En} {fa : En → Option (R × En)} {xs : List Int} (h : EV fa env (.fr (xs.map D.int)) e1) : EV fa env (.fr ((xs.map some).map (eO D.int))) e1 := by
  rw [List.map_map]
  exact h
end Vm

set_option Elab.async false
set_option linter.all false
set_option maxRecDepth 100000
/-! VBK: any; a tuple of any kind that is walked; None or a list by a test. -/
namespace Vm
open PySem PySem.Spec PyProof.Rows L2 Evl
section
variable {K : PySem.W.Frag}
def bAny : List D → Option D
  | [.lst xs] => (unBls xs).map fun ns => .bl (ns.any id)
  | _ => none
theorem rc_any : RC K (rAny K) bAny := RCS.rc (by
  intro B H vs ds z e rx h
  unfold bAny at h
  split at h
  · obtain ⟨ns, h1, rfl⟩ := Option.map_eq_some_iff.mp h
    obtain ⟨v, rfl, k⟩ := rx.one
    obtain ⟨a, rfl, h2⟩ := k.bls e h1
    exact ⟨_, rfl, fun Q q => ⟨a, ns, rfl, sq_of h2, q⟩⟩
  · cases h)
theorem o_any {xs : List Bool} : bAny [.lst (xs.map D.bl)] = some (.bl (xs.any id)) := by
  show (unBls (xs.map D.bl)).map _ = _
  rw [unBls_map]
  rfl
end
/-- the items of a tuple -/
def unTp : D → List D
  | .tup ds => ds
  | _ => []
def asTup (d : D) : M (List D) := ⟨d = .tup (unTp d), unTp d⟩
theorem asTup_ok (ds : List D) : asTup (.tup ds) = ⟨D.tup ds = D.tup ds, ds⟩ := rfl
theorem ev_asTup {env e1 : En} {fa : En → Option (R × En)} {d : D} {ds : List D} (h : EV fa env (.val d) e1) (g : Hd (asTup d) ds) : EV fa env (.val (.tup (ds.map eD))) e1 := by
  obtain ⟨g1, rfl⟩ := g
  have g1 : d = .tup (unTp d) := g1
  rw [List.map_id'' (f := eD) (fun _ => rfl), show (asTup d).val = unTp d from rfl, ← g1]
  exact h
section
variable {K : PySem.W.Frag} {fix : List Nat} {W : WX} {te : TE} {f : En → Option (R × En)} {g : En → Option (Option Str × En)} {i : Nat}
theorem ss_setVN (h : SE K te f) (hr : ER K W te g) (hi : i ∉ fix) : SS K fix W (tAsg te (gName i)) (xOr g (sSetV i f)) := ss_xor (ss_setV h hi) fun C hC B env σ H c e s hg D hq => hr C hC B env σ H c e s hg _ hq
end
section
variable {env e1 e2 : En} {fa : En → Option (R × En)} {f : En → Option (List R × En)} {r : R} {d : D} {ds : List D}
/-- arguments as data -/
def AD (f : En → Option (List R × En)) (env : En) (ds : List D) (e2 : En) : Prop := ∃ rs, f env = some (rs, e2) ∧ ∀ e, frzs e rs = some (ds, e)
theorem ad_0 : AD aNil env [] env := ⟨[], rfl, fun _ => rfl⟩
theorem ad_1 (h : EV fa env r e1) (hz : ∀ e, frz e r = some (d, e)) (hs : AD f e1 ds e2) : AD (aCons fa f) env (d :: ds) e2 := by
  obtain ⟨rs, h1, h2⟩ := hs
  refine ⟨r :: rs, ?_, fun e => ?_⟩
  · unfold aCons
    rw [show fa env = _ from h]
    simp only [Option.bind_some]
    rw [h1]
    rfl
  · show (frz e r).bind _ = _
    rw [hz]
    simp only [Option.bind_some]
    rw [h2]
    rfl
theorem frz_oD {α : Type} {E : α → D} {z : Option (List α)} : ∀ e, frz e (rO E z) = some (oD E z, e) := fun e => by
  cases z with
  | none => rfl
  | some xs => rfl
theorem ev_lstA (h : AD f env ds e2) (hl : ds.length ≤ 1000) : EV (eLst f) env (.fr (ds.map eD)) e2 := by
  obtain ⟨rs, h1, h2⟩ := h
  rw [List.map_id'' (f := eD) (fun _ => rfl)]
  unfold EV eLst aD
  rw [h1]
  simp only [Option.bind_some]
  rw [h2]
  simp only [Option.bind_some]
  rw [if_pos hl]
end
end Vm

set_option Elab.async false
set_option linter.all false
set_option maxRecDepth 100000
/-! VFC: factorial. -/
namespace Vm
open PySem PySem.Spec PyProof.Rows L2 Evl
section
variable {K : PySem.W.Frag} {X : L2.Cx}
/-- 1 · 2 · .. · n -/
def facN : Nat → Nat
  | 0 => 1
  | n + 1 => facN n * (n + 1)
def rFactorial : List L2.V → L2.Hp → L2.VK → Prop := fun vs H Q => ∃ a : Int, vs = [.int a] ∧ 0 ≤ a ∧ a ≤ 20000 ∧ Q (.int ((Builtin.Math.factorialNat a.toNat : Nat) : Int)) H
theorem cr_factorial : CallR X (.builtin "math.factorial") rFactorial := by
  intro pins s σ H vs us Q I r h
  obtain ⟨a, rfl, h0, h1, q⟩ := h
  obtain ⟨u, rfl, ru⟩ := L2.Vals.one r
  obtain ⟨t, rfl⟩ := ru
  exact W.mc_factorial h0 h1 fun _ => ⟨.int ((Builtin.Math.factorialNat a.toNat : Nat) : Int), H, I.tok (s.toks + 1), ⟨s.toks, rfl⟩, q⟩
def bFactorial : List D → Option D
  | [.int a] => if 0 ≤ a ∧ a ≤ 20000 then some (.int ((Builtin.Math.factorialNat a.toNat : Nat) : Int)) else none
  | _ => none
theorem rc_factorial : RC K rFactorial bFactorial := RCS.rc (by
  intro B H vs ds z e rx h
  unfold bFactorial at h
  split at h
  · split at h
    · rename_i hc
      cases h
      obtain ⟨v, rfl, h1⟩ := rx.one
      have q1 := h1.int
      subst q1
      exact ⟨_, rfl, fun Q q => ⟨_, rfl, hc.1, hc.2, q⟩⟩
    · cases h
  · cases h)
def facM (a : Int) : M Int := ⟨0 ≤ a ∧ a ≤ 20000, ((Builtin.Math.factorialNat a.toNat : Nat) : Int)⟩
theorem o_factorial {a v : Int} (g : Hd (facM a) v) : bFactorial [.int a] = some (.int v) := by
  obtain ⟨h, rfl⟩ := g
  exact if_pos h
end

end Vm

set_option Elab.async false
set_option linter.all false
/-! FR: repr of lists of numbers. -/
namespace Vm
open PySem L2
theorem toPyAll_intsR : ∀ cs : List Int, toPyAll (cs.map D.int) = some (cs.map PyData.int)
  | [] => rfl
  | c :: cs => by
    show (toPy (.int c)).bind _ = _
    rw [toPyAll_intsR cs]
    rfl
theorem textFrom_le : ∀ (ts : List Str) (k : Nat) (acc : Str), (textFrom k acc ts).length ≤ acc.length + piled ts
  | [], k, acc => by
    show acc.length ≤ _
    omega
  | t :: r, k, acc => by
    have q := textFrom_le r (k + 1) (acc ++ (if k > 0 then ", " else "" : String) ++ t)
    have e : (acc ++ (if k > 0 then ", " else "" : String) ++ t).length = acc.length + (if k > 0 then 2 else 0) + t.length := by
      rw [strLen_append, strLen_append]
      split <;> rfl
    rw [e] at q
    rw [piled_cons]
    show (textFrom (k + 1) _ r).length ≤ _
    have b : (if k > 0 then 2 else 0 : Nat) ≤ 2 := by split <;> omega
    omega
theorem listText_le (ts : List Str) : (listText ts).length ≤ piled ts + 2 := by
  have q := textFrom_le ts 0 "["
  unfold listText
  rw [strLen_append]
  have e1 : ("[" : Str).length = 1 := rfl
  have e2 : ("]" : Str).length = 1 := rfl
  omega
theorem piled_ints {n : Nat} (hn : 0 < n) : ∀ cs : List Int, (∀ c ∈ cs, c.natAbs < 2 ^ n) → piled (PyData.shownAll (cs.map PyData.int)) ≤ cs.length * (n + 3)
  | [], _ => by
    show piled [] ≤ _
    rw [piled_nil]
    omega
  | c :: cs, h => by
    have ih := piled_ints hn cs fun x hx => h x (List.mem_cons_of_mem _ hx)
    show piled (PyData.shown (.int c) :: PyData.shownAll (cs.map PyData.int)) ≤ _
    rw [piled_cons]
    have e : (PyData.shown (.int c)).length ≤ n + 1 := by
      show (Str.ofString (toString c)).length ≤ _
      rw [ofString_length]
      refine int_text_length_le hn ?_
      by_cases z : c.natAbs = 0
      · rw [z]
        simpa using hn
      · exact (Nat.log2_lt z).mpr (h c List.mem_cons_self)
    rw [List.length_cons, Nat.succ_mul]
    omega
theorem showable_ints {n : Nat} (hn : n ≤ 1920) : ∀ cs : List Int, (∀ c ∈ cs, c.natAbs < 2 ^ n) → PyData.showableAll (cs.map PyData.int) = true
  | [], _ => rfl
  | c :: cs, h => by
    show (decide (c.natAbs.log2 < 1920) && PyData.showableAll (cs.map PyData.int)) = true
    rw [showable_ints hn cs fun x hx => h x (List.mem_cons_of_mem _ hx), Bool.and_true]
    refine decide_eq_true ?_
    by_cases z : c.natAbs = 0
    · rw [z]
      decide
    · exact Nat.lt_of_lt_of_le ((Nat.log2_lt z).mpr (h c List.mem_cons_self)) hn
theorem nodict_ints : ∀ cs : List Int, PyData.hasDictAll (cs.map PyData.int) = false
  | [] => rfl
  | c :: cs => by
    show (false || PyData.hasDictAll (cs.map PyData.int)) = false
    rw [nodict_ints cs]
    rfl
theorem depth_intsR : ∀ cs : List Int, PyData.depthAll (cs.map PyData.int) = 0
  | [] => rfl
  | c :: cs => by
    show max 0 (PyData.depthAll (cs.map PyData.int)) = 0
    rw [depth_intsR cs]
    rfl
theorem hd_reprI {cs : List Int} (h : ∀ c ∈ cs, c.natAbs < 2 ^ 1000) (hl : cs.length ≤ 10000) : Hd (reprM (eL D.int cs)) (reprM (eL D.int cs)).val := by
  refine ⟨?_, rfl⟩
  have e : toPy (eL D.int cs) = some (.list (cs.map PyData.int)) := by
    show (toPyAll (cs.map D.int)).map PyData.list = _
    rw [toPyAll_intsR]
    rfl
  show ((toPy (eL D.int cs)).bind showS).isSome = true
  rw [e]
  show (showS (.list (cs.map PyData.int))).isSome = true
  unfold showS
  have e1 : PyData.showable (.list (cs.map PyData.int)) = true := by
    simp only [PyData.showable]
    exact showable_ints (n := 1000) (by decide) cs h
  have e2 : PyData.hasDict (.list (cs.map PyData.int)) = false := by
    simp only [PyData.hasDict]
    exact nodict_ints cs
  have e3 : PyData.depth (.list (cs.map PyData.int)) = 1 := by
    simp only [PyData.depth]
    rw [depth_intsR]
  have e4 : (PyData.shown (.list (cs.map PyData.int))).length ≤ sizeLine := by
    simp only [PyData.shown]
    have h1 := listText_le (PyData.shownAll (cs.map PyData.int))
    have h2 := piled_ints (n := 1000) (by decide) cs h
    have h3 : cs.length * (1000 + 3) ≤ 10000 * 1003 := Nat.mul_le_mul hl (by decide)
    rw [sizeLine_eq]
    omega
  rw [if_pos (by simp only [e1, e2, e3]; simpa using e4)]
  rfl
end Vm

set_option Elab.async false
set_option linter.all false
set_option maxRecDepth 100000
/-! FD: values of any kind: what they are, isinstance, repr. -/
namespace Vm
open PySem PySem.Spec PyProof.Rows L2 Evl
theorem hd_xn {k : M (Option Str)} {z : Option Str} (h : Hd k z) : Hd (xal none k) z := h
theorem hd_xs {k : M (Option Str)} {c : Str} : Hd (xal (some c) k) (some c) := hd_p
theorem hd_sel {α : Type} [Inhabited α] {a : α} {m : M α} : ∀ {ms : List (M α)} {i : Nat}, ms[i]? = some m → Hd m a → Hd (sel i ms) a
  | [], _, h, _ => by cases h
  | x :: ms, 0, h, g => by cases h; exact g
  | x :: ms, i + 1, h, g => hd_sel (ms := ms) (i := i) h g
theorem unI_map (ns : List Int) : (ns.map D.int).map unI = ns := by
  rw [List.map_map]
  exact List.map_id'' (fun _ => rfl) ns
theorem asInts_ok (ns : List Int) : Hd (asInts (eL D.int ns)) ns := by
  refine ⟨?_, unI_map ns⟩
  show D.lst (ns.map D.int) = .lst (((ns.map D.int).map unI).map D.int)
  rw [unI_map]
theorem asInts_ok' (ns : List Int) : Hd (asInts (.lst (ns.map D.int))) ns := asInts_ok ns
theorem asList_ok (ds : List D) : Hd (asList (.lst ds)) ds := ⟨rfl, rfl⟩
theorem asList_I (ns : List Int) : Hd (asList (eL D.int ns)) (ns.map D.int) := ⟨rfl, rfl⟩
theorem asInt_ok (i : Int) : Hd (asInt (.int i)) i := ⟨rfl, rfl⟩
/-- what isinstance of int, bool, list, tuple tells -/
def tameD (d : D) : Bool := (tyD d).isSome
def isIB : D → Bool
  | .int _ => true
  | .bl _ => true
  | _ => false
def isB : D → Bool
  | .bl _ => true
  | _ => false
def isLs : D → Bool
  | .lst _ => true
  | .scr _ => true
  | _ => false
def isTp : D → Bool
  | .tup _ => true
  | _ => false
def isSt : D → Bool
  | .str _ => true
  | _ => false
def isW : D → Bool
  | .int _ => true
  | _ => false
theorem isi_of {d : D} {t n : String} {b : Bool} (h : tyD d = some n) (k : kitB n t = some b) : Hd (isiD d t) b := by
  refine ⟨?_, ?_⟩
  · show ((tyD d).bind fun n => kitB n t).isSome = true
    rw [h]
    show (kitB n t).isSome = true
    rw [k]
    rfl
  · show ((tyD d).bind fun n => kitB n t).getD false = b
    rw [h]
    show (kitB n t).getD false = b
    rw [k]
    rfl
theorem isi_int {d : D} (h : tameD d = true) : Hd (isiD d "int") (isIB d) := by
  cases d <;> first
    | exact isi_of (b := true) rfl (by decide +kernel)
    | exact isi_of (b := false) rfl (by decide +kernel)
    | exact absurd h Bool.false_ne_true
theorem isi_bool {d : D} (h : tameD d = true) : Hd (isiD d "bool") (isB d) := by
  cases d <;> first
    | exact isi_of (b := true) rfl (by decide +kernel)
    | exact isi_of (b := false) rfl (by decide +kernel)
    | exact absurd h Bool.false_ne_true
theorem isi_list {d : D} (h : tameD d = true) : Hd (isiD d "list") (isLs d) := by
  cases d <;> first
    | exact isi_of (b := true) rfl (by decide +kernel)
    | exact isi_of (b := false) rfl (by decide +kernel)
    | exact absurd h Bool.false_ne_true
theorem isi_tuple {d : D} (h : tameD d = true) : Hd (isiD d "tuple") (isTp d) := by
  cases d <;> first
    | exact isi_of (b := true) rfl (by decide +kernel)
    | exact isi_of (b := false) rfl (by decide +kernel)
    | exact absurd h Bool.false_ne_true
theorem isi_str {d : D} (h : tameD d = true) : Hd (isiD d "str") (isSt d) := by
  cases d <;> first
    | exact isi_of (b := true) rfl (by decide +kernel)
    | exact isi_of (b := false) rfl (by decide +kernel)
    | exact absurd h Bool.false_ne_true
/-! ### repr -/
def leafOk (d : D) : Bool := match toPyD d with
  | some p => p.showable && decide (p.depth ≤ 3) && decide (p.shown.length ≤ 200)
  | none => false
mutual
def goodD : D → Bool
  | .non => true
  | .bl _ => true
  | .int i => decide (i.natAbs < 2 ^ 1000)
  | .lst xs => goodDs xs
  | .tup xs => goodDs xs
  | .str x => leafOk (.str x)
  | .dct ks xs => leafOk (.dct ks xs)
  | _ => false
def goodDs : List D → Bool
  | [] => true
  | x :: xs => goodD x && goodDs xs
end
mutual
def depD : D → Nat
  | .lst xs => 1 + depDs xs
  | .tup xs => 1 + depDs xs
  | .str _ => 3
  | .dct _ _ => 3
  | _ => 0
def depDs : List D → Nat
  | [] => 0
  | x :: xs => max (depD x) (depDs xs)
end
mutual
def lenD : D → Nat
  | .lst xs => lenDs xs + 2
  | .tup xs => lenDs xs + 3
  | .str _ => 200
  | .dct _ _ => 200
  | _ => 1001
def lenDs : List D → Nat
  | [] => 0
  | x :: xs => lenD x + 2 + lenDs xs
end

theorem piled_sum (ts : List Str) : (ts.map (·.length)).sum + 2 * ts.length = piled ts := by
  induction ts with
  | nil => rfl
  | cons t ts ih =>
    rw [piled_cons, List.map_cons, List.sum_cons, List.length_cons, ← ih]
    omega
theorem leaf_of {d : D} (h : leafOk d = true) : ∃ p, toPyD d = some p ∧ p.showable = true ∧ p.depth ≤ 3 ∧ p.shown.length ≤ 200 := by
  unfold leafOk at h
  cases q : toPyD d with
  | none => rw [q] at h; cases h
  | some p =>
    rw [q] at h
    simp only [Bool.and_eq_true, decide_eq_true_eq] at h
    exact ⟨p, rfl, h.1.1, h.1.2, h.2⟩
mutual
theorem good_of : ∀ {d : D}, goodD d = true → ∃ p, toPyD d = some p ∧ p.showable = true ∧ p.depth ≤ depD d ∧ p.shown.length ≤ lenD d
  | .non, _ => ⟨_, rfl, rfl, Nat.le_refl _, by decide +kernel⟩
  | .bl b, _ => ⟨_, rfl, rfl, Nat.le_refl _, by cases b <;> decide +kernel⟩
  | .int i, h => by
    have h : i.natAbs < 2 ^ 1000 := by simpa only [goodD, decide_eq_true_eq] using h
    have h2 : i.natAbs.log2 < 1000 := by
      by_cases z : i.natAbs = 0
      · rw [z]; decide
      · exact (Nat.log2_lt z).mpr h
    refine ⟨_, rfl, ?_, Nat.le_refl _, ?_⟩
    · simp only [PyData.showable]
      exact decide_eq_true (by omega)
    · show (Str.ofString (toString i)).length ≤ 1001
      rw [PySem.ofString_length]
      exact int_text_length_le (by decide) h2
  | .str x, h => leaf_of (by simpa only [goodD] using h) |>.imp fun p q => ⟨q.1, q.2.1, q.2.2⟩
  | .dct ks xs, h => leaf_of (by simpa only [goodD] using h) |>.imp fun p q => ⟨q.1, q.2.1, q.2.2⟩
  | .ref _, h => by simp only [goodD] at h; cases h
  | .ty _, h => by simp only [goodD] at h; cases h
  | .fn _, h => by simp only [goodD] at h; cases h
  | .scr _, h => by simp only [goodD] at h; cases h
  | .lst xs, h => by
    obtain ⟨ps, e, h1, h2, h3⟩ := goods_of (ds := xs) (by simpa only [goodD] using h)
    refine ⟨.list ps, by show (toPyDs xs).map _ = _; rw [e]; rfl, by simpa only [PyData.showable] using h1, ?_, ?_⟩
    · simp only [PyData.depth, depD]
      omega
    · have q := listText_le (PyData.shownAll ps)
      simp only [PyData.shown, lenD]
      omega
  | .tup xs, h => by
    obtain ⟨ps, e, h1, h2, h3⟩ := goods_of (ds := xs) (by simpa only [goodD] using h)
    refine ⟨.tuple ps, by show (toPyDs xs).map _ = _; rw [e]; rfl, by simpa only [PyData.showable] using h1, ?_, ?_⟩
    · simp only [PyData.depth, depD]
      omega
    · have q := tupleText_len_le (PyData.shownAll ps)
      rw [piled_sum] at q
      simp only [PyData.shown, lenD]
      omega
theorem goods_of : ∀ {ds : List D}, goodDs ds = true → ∃ ps, toPyDs ds = some ps ∧ PyData.showableAll ps = true ∧ PyData.depthAll ps ≤ depDs ds ∧ piled (PyData.shownAll ps) ≤ lenDs ds
  | [], _ => ⟨[], rfl, rfl, Nat.le_refl _, Nat.le_refl _⟩
  | d :: ds, h => by
    have h : goodD d = true ∧ goodDs ds = true := by simpa only [goodDs, Bool.and_eq_true] using h
    obtain ⟨p, e, h1, h2, h3⟩ := good_of h.1
    obtain ⟨ps, e', k1, k2, k3⟩ := goods_of h.2
    refine ⟨p :: ps, by show (toPyD d).bind _ = _; rw [e]; show (toPyDs ds).map _ = _; rw [e']; rfl, by simp only [PyData.showableAll, h1, k1, Bool.and_self], ?_, ?_⟩
    · simp only [PyData.depthAll, depDs]
      omega
    · simp only [PyData.shownAll, lenDs]
      rw [piled_cons]
      omega
end
theorem reprD_ok {d : D} (h : goodD d = true) (h1 : depD d ≤ 59) (h2 : lenD d ≤ 1000000) : Hd (reprDM d) (reprDM d).val := by
  obtain ⟨p, e, k1, k2, k3⟩ := good_of h
  refine ⟨?_, rfl⟩
  show ((toPyD d).bind showD).isSome = true
  rw [e]
  show (showD p).isSome = true
  unfold showD
  rw [if_pos]
  · rfl
  · simp only [Bool.and_eq_true, decide_eq_true_eq]
    exact ⟨⟨k1, by omega⟩, by rw [sizeLine_eq]; omega⟩
theorem goodDs_ints : ∀ {ns : List Int}, (∀ n ∈ ns, n.natAbs < 2 ^ 1000) → goodDs (ns.map D.int) = true
  | [], _ => rfl
  | n :: ns, h => by
    simp only [List.map_cons, goodDs, goodD, Bool.and_eq_true, decide_eq_true_eq]
    exact ⟨h n List.mem_cons_self, goodDs_ints fun x hx => h x (List.mem_cons_of_mem _ hx)⟩
theorem depDs_ints : ∀ ns : List Int, depDs (ns.map D.int) = 0
  | [] => rfl
  | n :: ns => by
    simp only [List.map_cons, depDs, depD]
    rw [depDs_ints ns]
    rfl
theorem lenDs_ints : ∀ ns : List Int, lenDs (ns.map D.int) = 1003 * ns.length
  | [] => rfl
  | n :: ns => by
    simp only [List.map_cons, lenDs, lenD, List.length_cons]
    rw [lenDs_ints ns]
    omega
theorem goodDs_app : ∀ {xs ys : List D}, goodDs (xs ++ ys) = (goodDs xs && goodDs ys)
  | [], ys => rfl
  | x :: xs, ys => by
    simp only [List.cons_append, goodDs]
    rw [goodDs_app, Bool.and_assoc]
theorem depDs_app : ∀ {xs ys : List D}, depDs (xs ++ ys) = max (depDs xs) (depDs ys)
  | [], ys => by show depDs ys = max 0 (depDs ys); omega
  | x :: xs, ys => by
    simp only [List.cons_append, depDs]
    rw [depDs_app]
    omega
theorem lenDs_app : ∀ {xs ys : List D}, lenDs (xs ++ ys) = lenDs xs + lenDs ys
  | [], ys => by show lenDs ys = 0 + lenDs ys; omega
  | x :: xs, ys => by
    simp only [List.cons_append, lenDs]
    rw [lenDs_app]
    omega
/-- data that repr can show, of bounded depth and length -/
structure Shy (x : D) (dp ln : Nat) : Prop where
  g : goodD x = true
  d : depD x ≤ dp
  l : lenD x ≤ ln
structure Shys (xs : List D) (dp ln : Nat) : Prop where
  g : goodDs xs = true
  d : depDs xs ≤ dp
  l : lenDs xs ≤ ln
theorem Shy.mono {d : D} {a b a' b' : Nat} (h : Shy d a b) (h1 : a ≤ a') (h2 : b ≤ b') : Shy d a' b' := ⟨h.g, Nat.le_trans h.d h1, Nat.le_trans h.l h2⟩
theorem shys_nil {a b : Nat} : Shys [] a b := ⟨rfl, Nat.zero_le _, Nat.zero_le _⟩
theorem shys_cons {d : D} {ds : List D} {a b c : Nat} (h : Shy d a b) (hs : Shys ds a c) : Shys (d :: ds) a (b + 2 + c) := by
  refine ⟨?_, ?_, ?_⟩
  · simp only [goodDs, h.g, hs.g, Bool.and_self]
  · simp only [depDs]
    have := h.d
    have := hs.d
    omega
  · simp only [lenDs]
    have := h.l
    have := hs.l
    omega
theorem shys_app {xs ys : List D} {a b c : Nat} (h : Shys xs a b) (h' : Shys ys a c) : Shys (xs ++ ys) a (b + c) := by
  refine ⟨?_, ?_, ?_⟩
  · rw [goodDs_app, h.g, h'.g]; rfl
  · rw [depDs_app]
    have := h.d
    have := h'.d
    omega
  · rw [lenDs_app]
    have := h.l
    have := h'.l
    omega
theorem shy_lst {ds : List D} {a b : Nat} (h : Shys ds a b) : Shy (.lst ds) (1 + a) (b + 2) := by
  refine ⟨?_, ?_, ?_⟩
  · simp only [goodD]; exact h.g
  · simp only [depD]
    have := h.d
    omega
  · simp only [lenD]
    have := h.l
    omega
theorem shy_tup {ds : List D} {a b : Nat} (h : Shys ds a b) : Shy (.tup ds) (1 + a) (b + 3) := by
  refine ⟨?_, ?_, ?_⟩
  · simp only [goodD]; exact h.g
  · simp only [depD]
    have := h.d
    omega
  · simp only [lenD]
    have := h.l
    omega
theorem shy_int {i : Int} (h : i.natAbs < 2 ^ 1000) : Shy (.int i) 0 1001 := ⟨by simp only [goodD]; exact decide_eq_true h, Nat.le_refl _, Nat.le_refl _⟩
theorem shys_ints {ns : List Int} (h : ∀ n ∈ ns, n.natAbs < 2 ^ 1000) : Shys (ns.map D.int) 0 (1003 * ns.length) := ⟨goodDs_ints h, by rw [depDs_ints]; exact Nat.le_refl _, by rw [lenDs_ints]; exact Nat.le_refl _⟩
theorem shy_repr {d : D} {a b : Nat} (h : Shy d a b) (h1 : a ≤ 59) (h2 : b ≤ 1000000) : Hd (reprDM d) (reprDM d).val := reprD_ok h.g (Nat.le_trans h.d h1) (Nat.le_trans h.l h2)
end Vm

set_option Elab.async false
set_option linter.all false
set_option maxRecDepth 100000
/-! FQ: == and in, of data that are read as typed values. -/
namespace Vm
open PySem PySem.Spec PyProof.Rows L2 Evl
/-- values of a type, as data: == of the data is = of the values -/
def Enc {α : Type} (E : α → D) (n : Nat) : Prop := ∃ P : α → PyData, (∀ a, toPy (E a) = some (P a)) ∧ (∀ a, (P a).canLay0 = true) ∧ (∀ a, (P a).depth ≤ n) ∧ ∀ a b, PyData.eqv (P a) (P b) = true ↔ a = b
theorem enc_int : Enc D.int 0 := ⟨PyData.int, fun _ => rfl, fun _ => by simp [PyData.canLay0], fun _ => by simp [PyData.depth], fun a b => by simp [PyData.eqv]⟩
theorem enc_bool : Enc D.bl 0 := ⟨PyData.bool, fun _ => rfl, fun _ => by simp [PyData.canLay0], fun _ => by simp [PyData.depth], fun a b => by simp [PyData.eqv]⟩
theorem enc_opt : Enc (eO D.int) 0 := by
  refine ⟨fun o => match o with | none => .none | some i => .int i, fun o => by cases o <;> rfl, fun o => by cases o <;> simp [PyData.canLay0], fun o => by cases o <;> simp [PyData.depth], fun a b => ?_⟩
  cases a <;> cases b <;> simp [PyData.eqv]
section
variable {α β : Type} {E : α → D} {F : β → D} {n m : Nat}
theorem Enc.mono (h : Enc E n) (hn : n ≤ m) : Enc E m := by
  obtain ⟨P, h1, h2, h3, h4⟩ := h
  exact ⟨P, h1, h2, fun a => Nat.le_trans (h3 a) hn, h4⟩
theorem toPyAll_map {P : α → PyData} (h : ∀ a, toPy (E a) = some (P a)) : ∀ xs : List α, toPyAll (xs.map E) = some (xs.map P)
  | [] => rfl
  | x :: xs => by
    show (toPy (E x)).bind _ = _
    rw [h x, toPyAll_map h xs]
    rfl
theorem layAll_map {P : α → PyData} (h : ∀ a, (P a).canLay0 = true) : ∀ xs : List α, PyData.canLayAll0 (xs.map P) = true
  | [] => by simp [PyData.canLayAll0]
  | x :: xs => by simp [PyData.canLayAll0, h x, layAll_map h xs]
theorem depAll_map {P : α → PyData} (h : ∀ a, (P a).depth ≤ n) : ∀ xs : List α, PyData.depthAll (xs.map P) ≤ n
  | [] => by simp [PyData.depthAll]
  | x :: xs => by
    have := depAll_map h xs
    have := h x
    simp [PyData.depthAll]
    omega
theorem eqvAll_map {P : α → PyData} (h : ∀ a b, PyData.eqv (P a) (P b) = true ↔ a = b) : ∀ xs ys : List α, PyData.eqvAll (xs.map P) (ys.map P) = true ↔ xs = ys
  | [], [] => by simp [PyData.eqvAll]
  | [], _ :: _ => by simp [PyData.eqvAll]
  | _ :: _, [] => by simp [PyData.eqvAll]
  | x :: xs, y :: ys => by
    have ih := eqvAll_map h xs ys
    simp only [List.map_cons, PyData.eqvAll, Bool.and_eq_true, ih, h, List.cons.injEq]
theorem enc_L (h : Enc E n) : Enc (eL E) (n + 1) := by
  obtain ⟨P, h1, h2, h3, h4⟩ := h
  refine ⟨fun xs => .list (xs.map P), fun xs => ?_, fun xs => ?_, fun xs => ?_, fun xs ys => ?_⟩
  · show (toPyAll (xs.map E)).map PyData.list = _
    rw [toPyAll_map h1]
    rfl
  · simp [PyData.canLay0, layAll_map h2]
  · have := depAll_map h3 xs
    simp [PyData.depth]
    omega
  · rw [show PyData.eqv (.list (xs.map P)) (.list (ys.map P)) = PyData.eqvAll (xs.map P) (ys.map P) by simp only [PyData.eqv], eqvAll_map h4]
theorem enc_T2 (h : Enc E n) (g : Enc F n) : Enc (eT2 E F) (n + 1) := by
  obtain ⟨P, h1, h2, h3, h4⟩ := h
  obtain ⟨Q, g1, g2, g3, g4⟩ := g
  refine ⟨fun x => .tuple [P x.1, Q x.2], fun x => ?_, fun x => ?_, fun x => ?_, fun x y => ?_⟩
  · show (toPyAll [E x.1, F x.2]).map PyData.tuple = _
    show ((toPy (E x.1)).bind fun y => ((toPy (F x.2)).bind fun z => (toPyAll []).map fun zs => z :: zs).map fun ys => y :: ys).map PyData.tuple = _
    rw [h1, g1]
    rfl
  · simp [PyData.canLay0, PyData.canLayAll0, h2, g2]
  · have := h3 x.1
    have := g3 x.2
    simp [PyData.depth, PyData.depthAll]
    omega
  · rw [show PyData.eqv (.tuple [P x.1, Q x.2]) (.tuple [P y.1, Q y.2]) = (PyData.eqv (P x.1) (P y.1) && PyData.eqv (Q x.2) (Q y.2)) by simp only [PyData.eqv, PyData.eqvAll, Bool.and_true]]
    rw [Bool.and_eq_true, h4, g4, Prod.ext_iff]
theorem shaped_of {p : PyData} (h : p.canLay0 = true) (h2 : p.depth ≤ 60) : SeqAt.shaped p = true := by
  unfold SeqAt.shaped
  rw [h, decide_eq_true (by omega)]
  rfl
theorem deq_ok (h : Enc E n) (hn : n ≤ 60) (a b : α) [Decidable (a = b)] : Hd (deqM (E a) (E b)) (decide (a = b)) := by
  obtain ⟨P, h1, h2, h3, h4⟩ := h
  have e : eqD (E a) (E b) = some (decide (a = b)) := by
    unfold eqD
    rw [h1, h1]
    simp only [Option.bind_some]
    rw [shaped_of (h2 a) (Nat.le_trans (h3 a) hn), shaped_of (h2 b) (Nat.le_trans (h3 b) hn)]
    simp only [Bool.and_self, if_true]
    refine congrArg some ?_
    rw [Bool.eq_iff_iff, h4, decide_eq_true_eq]
  refine ⟨?_, ?_⟩
  · show (eqD _ _).isSome = true
    rw [e]; rfl
  · show (eqD _ _).getD false = _
    rw [e]; rfl
theorem deq_t (h : Enc E n) (hn : n ≤ 60) {a b : α} (e : a = b) : Hd (deqM (E a) (E b)) true := by
  haveI : Decidable (a = b) := .isTrue e
  exact (deq_ok h hn a b).to (decide_eq_true e)
theorem deq_f (h : Enc E n) (hn : n ≤ 60) {a b : α} (e : a ≠ b) : Hd (deqM (E a) (E b)) false := by
  haveI : Decidable (a = b) := .isFalse e
  exact (deq_ok h hn a b).to (decide_eq_false e)
theorem in_ok (h : Enc E n) (hn : n ≤ 59) (a : α) (xs : List α) [Decidable (a ∈ xs)] : Hd (inDM (E a) (eL E xs)) (decide (a ∈ xs)) := by
  obtain ⟨P, h1, h2, h3, h4⟩ := h
  have e : inD (E a) (eL E xs) = some (decide (a ∈ xs)) := by
    have e2 : toPy (eL E xs) = some (.list (xs.map P)) := by
      show (toPyAll (xs.map E)).map PyData.list = _
      rw [toPyAll_map h1]
      rfl
    have hs : SeqAt.shaped (.list (xs.map P)) = true := shaped_of (by simp [PyData.canLay0, layAll_map h2]) (by
      have := depAll_map h3 xs
      simp [PyData.depth]
      omega)
    unfold inD
    rw [h1, e2]
    simp only [Option.bind_some]
    rw [shaped_of (h2 a) (Nat.le_trans (h3 a) (by omega)), hs]
    simp only [Bool.and_self, if_true]
    refine congrArg some ?_
    rw [List.any_map, Bool.eq_iff_iff, List.any_eq_true, decide_eq_true_eq]
    constructor
    · rintro ⟨s, hm, e⟩
      have e : PyData.eqv (P s) (P a) = true := e
      rw [h4] at e
      exact e ▸ hm
    · intro hm
      exact ⟨a, hm, (h4 a a).mpr rfl⟩
  refine ⟨?_, ?_⟩
  · show (inD _ _).isSome = true
    rw [e]; rfl
  · show (inD _ _).getD false = _
    rw [e]; rfl
theorem in_t (h : Enc E n) (hn : n ≤ 59) {a : α} {xs : List α} (e : a ∈ xs) : Hd (inDM (E a) (eL E xs)) true := by
  haveI : Decidable (a ∈ xs) := .isTrue e
  exact (in_ok h hn a xs).to (decide_eq_true e)
theorem in_f (h : Enc E n) (hn : n ≤ 59) {a : α} {xs : List α} (e : a ∉ xs) : Hd (inDM (E a) (eL E xs)) false := by
  haveI : Decidable (a ∈ xs) := .isFalse e
  exact (in_ok h hn a xs).to (decide_eq_false e)
end
end Vm

set_option Elab.async false
set_option linter.all false
/-! Numbers of ways by falling products: plain Lean. -/
namespace Ar
def ff (x : Int) : Nat → Int
  | 0 => 1
  | k + 1 => ff x k * (x - k)
def ev (x : Int) : List Int → Int
  | [] => 0
  | c :: cs => c * ff x cs.length + ev x cs
def wn (b : Int) : Int → Nat → List Int → List Int
  | prev, _, [] => [prev]
  | prev, k, c :: cs => (c + prev) :: wn b (c * (b - k)) (k + 1) cs
theorem wn_length (b : Int) : ∀ (prev : Int) (k : Nat) (cs : List Int), (wn b prev k cs).length = cs.length + 1
  | _, _, [] => rfl
  | prev, k, c :: cs => by
    show (wn b (c * (b - k)) (k + 1) cs).length + 1 = _
    rw [wn_length b _ _ cs]
    rfl
theorem ev_wn (b x : Int) : ∀ (cs : List Int) (prev : Int) (k : Nat), ev x (wn b prev k cs) = prev * ff x cs.length + (x + b - k - ((cs.length : Int) - 1)) * ev x cs
  | [], prev, k => by simp [wn, ev, ff]
  | c :: cs, prev, k => by
    show (c + prev) * ff x (wn b (c * (b - k)) (k + 1) cs).length + ev x (wn b (c * (b - k)) (k + 1) cs) = _
    rw [wn_length, ev_wn b x cs _ (k + 1)]
    simp only [List.length_cons, ev, ff]
    have : ((k + 1 : Nat) : Int) = k + 1 := by omega
    have : ((cs.length + 1 : Nat) : Int) = cs.length + 1 := by omega
    grind
def nx (b : Int) (cs : List Int) : List Int := wn b 0 0 cs
theorem nx_length (b : Int) (cs : List Int) : (nx b cs).length = cs.length + 1 := wn_length b 0 0 cs
theorem ev_nx (b x : Int) (cs : List Int) : ev x (nx b cs) = (x + b - ((cs.length : Int) - 1)) * ev x cs := by
  unfold nx
  rw [ev_wn]
  grind
theorem ff_zero : ∀ (n k : Nat), k < n → ff (k : Int) n = 0
  | 0, k, h => absurd h (Nat.not_lt_zero k)
  | n + 1, k, h => by
    show ff k n * (k - n) = 0
    by_cases e : k = n
    · subst e; simp
    · rw [ff_zero n k (by omega)]; simp
theorem ff_pos : ∀ (n k : Nat), n ≤ k → 0 < ff (k : Int) n
  | 0, k, _ => Int.zero_lt_one
  | n + 1, k, h => by
    show 0 < ff k n * (k - n)
    exact Int.mul_pos (ff_pos n k (by omega)) (by omega)
/-- equal values, equal lists -/
theorem ev_unique : ∀ (cs ds : List Int), cs.length = ds.length → (∀ k : Nat, k < cs.length → ev (k : Int) cs = ev k ds) → cs = ds
  | [], [], _, _ => rfl
  | [], _ :: _, h, _ => by cases h
  | _ :: _, [], h, _ => by cases h
  | c :: cs, d :: ds, hl, h => by
    have hl' : cs.length = ds.length := by simpa using hl
    have e : cs = ds := ev_unique cs ds hl' fun k hk => by
      have := h k (by simp; omega)
      simp only [ev] at this
      rw [ff_zero _ _ hk, ← hl', ff_zero _ _ hk] at this
      simpa using this
    subst e
    have := h cs.length (by simp)
    simp only [ev] at this
    have p := ff_pos cs.length cs.length (Nat.le_refl _)
    have e2 : c * ff (cs.length : Int) cs.length = d * ff (cs.length : Int) cs.length := by omega
    rw [Int.eq_of_mul_eq_mul_right (by omega) e2]

/-- the counts along ascending levels -/
def along (ns : List Int) : List Int := ns.foldl (fun cs b => nx b cs) [1]
def prodS (x : Int) : Nat → List Int → Int
  | _, [] => 1
  | k, b :: bs => (x + b - k) * prodS x (k + 1) bs
theorem foldl_length : ∀ (ns cs : List Int), (ns.foldl (fun cs b => nx b cs) cs).length = cs.length + ns.length
  | [], _ => rfl
  | b :: ns, cs => by
    rw [List.foldl_cons, foldl_length ns, nx_length, List.length_cons]
    omega
theorem along_length (ns : List Int) : (along ns).length = ns.length + 1 := by
  unfold along
  rw [foldl_length]
  simp
  omega
theorem ev_foldl (x : Int) : ∀ (ns cs : List Int), 1 ≤ cs.length → ev x (ns.foldl (fun cs b => nx b cs) cs) = prodS x (cs.length - 1) ns * ev x cs
  | [], cs, _ => by simp [prodS]
  | b :: ns, cs, h => by
    rw [List.foldl_cons, ev_foldl x ns (nx b cs) (by rw [nx_length]; omega), ev_nx, nx_length]
    simp only [prodS]
    have e : cs.length + 1 - 1 = cs.length - 1 + 1 := by omega
    have e2 : ((cs.length - 1 : Nat) : Int) = (cs.length : Int) - 1 := by omega
    rw [e, e2]
    grind
/-- R1 -/
theorem ev_along (x : Int) (ns : List Int) : ev x (along ns) = prodS x 0 ns := by
  unfold along
  rw [ev_foldl x ns [1] (by simp)]
  simp [ev, ff]

/-! ### the team that is left of m -/
def sgn : Nat → Int
  | 0 => 1
  | n + 1 => - sgn n
theorem ff_neg : ∀ (n : Nat) (y : Int), ff y n = sgn n * ff ((n : Int) - 1 - y) n := by
  -- the product from the other end
  have rev : ∀ (n : Nat) (z : Int), ff z (n + 1) = z * ff (z - 1) n := by
    intro n
    induction n with
    | zero => intro z; simp [ff]
    | succ n ih =>
      intro z
      show ff z (n + 1) * (z - (n + 1 : Nat)) = z * (ff (z - 1) n * (z - 1 - n))
      rw [ih]
      have : ((n + 1 : Nat) : Int) = n + 1 := by omega
      rw [this]
      grind
  intro n
  induction n with
  | zero => intro y; simp [ff, sgn]
  | succ n ih =>
    intro y
    rw [rev n (((n + 1 : Nat) : Int) - 1 - y)]
    show ff y n * (y - n) = - sgn n * _
    rw [ih y]
    have e : ((n + 1 : Nat) : Int) - 1 - y - 1 = (n : Int) - 1 - y := by omega
    have e2 : ((n + 1 : Nat) : Int) - 1 - y = n - y := by omega
    rw [e, e2]
    grind
/-- equal levels -/
def Vq (m : Int) : Nat → List Int
  | 0 => [1]
  | n + 1 => nx m (Vq m n)
theorem Vq_length (m : Int) : ∀ n, (Vq m n).length = n + 1
  | 0 => rfl
  | n + 1 => by
    show (nx m (Vq m n)).length = _
    rw [nx_length, Vq_length m n]
theorem ev_Vq (m x : Int) : ∀ n : Nat, ev x (Vq m n) = ff (x + m) n
  | 0 => by simp [Vq, ev, ff]
  | n + 1 => by
    show ev x (nx m (Vq m n)) = ff (x + m) n * (x + m - n)
    rw [ev_nx, ev_Vq m x n, Vq_length]
    have : ((n + 1 : Nat) : Int) - 1 = n := by omega
    rw [this]
    grind
def zadd : List Int → List Int → List Int
  | a :: as, b :: bs => (a + b) :: zadd as bs
  | _, _ => []
theorem zadd_length : ∀ (as bs : List Int), as.length = bs.length → (zadd as bs).length = as.length
  | [], [], _ => rfl
  | [], _ :: _, h => by cases h
  | _ :: _, [], h => by cases h
  | a :: as, b :: bs, h => by
    show (zadd as bs).length + 1 = _
    rw [zadd_length as bs (by simpa using h)]
    rfl
theorem ev_zadd (x : Int) : ∀ (as bs : List Int), as.length = bs.length → ev x (zadd as bs) = ev x as + ev x bs
  | [], [], _ => rfl
  | [], _ :: _, h => by cases h
  | _ :: _, [], h => by cases h
  | a :: as, b :: bs, h => by
    have h' : as.length = bs.length := by simpa using h
    show (a + b) * ff x (zadd as bs).length + ev x (zadd as bs) = (a * ff x as.length + ev x as) + (b * ff x bs.length + ev x bs)
    rw [zadd_length as bs h', ev_zadd x as bs h', h']
    grind
def scl (c : Int) (as : List Int) : List Int := as.map fun a => c * a
theorem ev_scl (c x : Int) : ∀ as : List Int, ev x (scl c as) = c * ev x as
  | [] => by simp [scl, ev]
  | a :: as => by
    have ih := ev_scl c x as
    unfold scl at ih ⊢
    simp only [List.map_cons, ev, List.length_map, ih]
    grind
def due (m : Int) : List Int → List Int
  | [] => []
  | c :: cs => zadd (scl c (Vq m cs.length)) (0 :: scl (-1) (due (m - 1) cs))
theorem due_length : ∀ (cs : List Int) (m : Int), (due m cs).length = cs.length
  | [], _ => rfl
  | c :: cs, m => by
    show (zadd _ _).length = _
    have h1 : (scl c (Vq m cs.length)).length = cs.length + 1 := by unfold scl; rw [List.length_map, Vq_length]
    have h2 : (0 :: scl (-1) (due (m - 1) cs)).length = cs.length + 1 := by
      unfold scl
      rw [List.length_cons, List.length_map, due_length cs]
    rw [zadd_length _ _ (by rw [h1, h2]), h1]
    rfl
theorem ev_due : ∀ (cs : List Int) (m x : Int), cs ≠ [] → ev x (due m cs) = sgn (cs.length - 1) * ev ((cs.length : Int) - 2 - m - x) cs
  | [], _, _, h => absurd rfl h
  | c :: cs, m, x, _ => by
    have h1 : (scl c (Vq m cs.length)).length = cs.length + 1 := by unfold scl; rw [List.length_map, Vq_length]
    have h2 : (0 :: scl (-1) (due (m - 1) cs)).length = cs.length + 1 := by
      unfold scl
      rw [List.length_cons, List.length_map, due_length cs]
    show ev x (zadd (scl c (Vq m cs.length)) (0 :: scl (-1) (due (m - 1) cs))) = _
    rw [ev_zadd x _ _ (by rw [h1, h2]), ev_scl, ev_Vq]
    simp only [ev, ev_scl, List.length_cons, Nat.add_sub_cancel]
    have e : ((cs.length + 1 : Nat) : Int) - 2 - m - x = (cs.length : Int) - 1 - (m + x) := by omega
    rw [e, ff_neg cs.length ((cs.length : Int) - 1 - (m + x))]
    have e3 : (cs.length : Int) - 1 - ((cs.length : Int) - 1 - (m + x)) = x + m := by omega
    rw [e3]
    have sq : ∀ n, sgn n * sgn n = 1 := by
      intro n
      induction n with
      | zero => rfl
      | succ n ih =>
        show (- sgn n) * (- sgn n) = 1
        grind
    have s1 := sq cs.length
    cases cs with
    | nil => simp [ev, due, sgn, ff]
    | cons d ds =>
      rw [ev_due (d :: ds) (m - 1) x (by simp)]
      have e4 : (((d :: ds).length : Nat) : Int) - 2 - (m - 1) - x = (((d :: ds).length : Nat) : Int) - 1 - (m + x) := by omega
      rw [e4]
      show _ + (0 * _ + -1 * (sgn ds.length * _)) = (sgn ds.length.succ) * _
      have : sgn ds.length.succ = - sgn ds.length := rfl
      simp only [List.length_cons] at s1 ⊢
      have s2 : sgn (ds.length + 1) = - sgn ds.length := rfl
      grind
/-- the spare numbers of the team that is left -/
theorem prodS_app (x : Int) : ∀ (as bs : List Int) (k : Nat), prodS x k (as ++ bs) = prodS x k as * prodS x (k + as.length) bs
  | [], bs, k => by simp [prodS]
  | a :: as, bs, k => by
    simp only [List.cons_append, prodS, prodS_app x as bs, List.length_cons]
    rw [show k + 1 + as.length = k + (as.length + 1) by omega]
    grind
theorem prodS_left (m x : Int) : ∀ (bs : List Int) (k j : Nat), prodS x j (bs.map fun b => m - b).reverse = sgn bs.length * prodS ((k : Int) + j + (bs.length : Int) - 1 - m - x) k bs
  | [], k, j => by simp [prodS, sgn]
  | b :: bs, k, j => by
    rw [List.map_cons, List.reverse_cons, prodS_app, prodS_left m x bs (k + 1) j]
    simp only [prodS, List.length_reverse, List.length_map, List.length_cons]
    have e1 : ((k + 1 : Nat) : Int) + j + (bs.length : Int) - 1 - m - x = (k : Int) + j + ((bs.length + 1 : Nat) : Int) - 1 - m - x := by omega
    rw [e1]
    have e2 : ((j + bs.length : Nat) : Int) = j + bs.length := by omega
    have e3 : ((bs.length + 1 : Nat) : Int) = bs.length + 1 := by omega
    rw [e2, e3]
    show _ = - sgn bs.length * _
    grind
theorem due_along (m : Int) (bs : List Int) : due m (along bs) = along (bs.map fun b => m - b).reverse := by
  have ne : along bs ≠ [] := fun e => by
    have := along_length bs
    rw [e] at this
    simp at this
  have hl : (due m (along bs)).length = (along (bs.map fun b => m - b).reverse).length := by
    rw [due_length, along_length, along_length]
    simp
  refine ev_unique _ _ hl fun k _ => ?_
  rw [ev_due _ _ _ ne, ev_along, ev_along, prodS_left m k bs 0 0, along_length]
  have e : ((bs.length + 1 : Nat) : Int) - 2 - m - k = ((0 : Nat) : Int) + ((0 : Nat) : Int) + (bs.length : Int) - 1 - m - k := by omega
  rw [e]
  rfl
end Ar

set_option Elab.async false
set_option linter.all false
namespace Ar
/-- numbers of choices -/
def ch : Nat → Nat → Int
  | _, 0 => 1
  | 0, _ + 1 => 0
  | n + 1, k + 1 => ch n k + ch n (k + 1)
theorem ch_step : ∀ (n k : Nat), ch n (k + 1) * ((k : Int) + 1) = ch n k * ((n : Int) - k)
  | 0, 0 => by simp [ch]
  | 0, k + 1 => by simp [ch]
  | n + 1, 0 => by
    have := ch_step n 0
    show (ch n 0 + ch n 1) * _ = _
    simp [ch] at this ⊢
    omega
  | n + 1, k + 1 => by
    have h1 := ch_step n k
    have h2 := ch_step n (k + 1)
    show (ch n (k + 1) + ch n (k + 1 + 1)) * _ = (ch n k + ch n (k + 1)) * _
    have e1 : ((k + 1 : Nat) : Int) = k + 1 := by omega
    have e2 : ((n + 1 : Nat) : Int) = n + 1 := by omega
    rw [e1, e2] at *
    grind
theorem ch_nonneg : ∀ (n k : Nat), 0 ≤ ch n k
  | _, 0 => by simp [ch]
  | 0, k + 1 => by simp [ch]
  | n + 1, k + 1 => by
    have := ch_nonneg n k
    have := ch_nonneg n (k + 1)
    show 0 ≤ ch n k + ch n (k + 1)
    omega
theorem ch_le : ∀ (n k : Nat), ch n k ≤ 2 ^ n
  | n, 0 => by
    have : (0 : Int) < 2 ^ n := Int.pow_pos (by decide)
    simp only [ch]
    omega
  | 0, k + 1 => by simp [ch]
  | n + 1, k + 1 => by
    have := ch_le n k
    have := ch_le n (k + 1)
    show ch n k + ch n (k + 1) ≤ 2 ^ (n + 1)
    rw [Int.pow_succ]
    omega
theorem ch_zero : ∀ (n k : Nat), n < k → ch n k = 0
  | 0, k + 1, _ => rfl
  | n + 1, k + 1, h => by
    show ch n k + ch n (k + 1) = 0
    rw [ch_zero n k (by omega), ch_zero n (k + 1) (by omega)]
    rfl
/-- what stands at each place behind one more level -/
theorem wn_get (b : Int) : ∀ (cs : List Int) (prev : Int) (k i : Nat), i ≤ cs.length → (wn b prev k cs)[i]? = some ((if i < cs.length then cs.getD i 0 else 0) + (match i with | 0 => prev | j + 1 => cs.getD j 0 * (b - ((k + j : Nat) : Int))))
  | [], prev, k, i, h => by
    have : i = 0 := by simpa using h
    subst this
    simp [wn]
  | c :: cs, prev, k, 0, h => by simp [wn]
  | c :: cs, prev, k, i + 1, h => by
    have ih := wn_get b cs (c * (b - k)) (k + 1) i (by simpa using h)
    show (wn b (c * (b - k)) (k + 1) cs)[i]? = _
    rw [ih]
    congr 1
    cases i with
    | zero => simp
    | succ j =>
      simp only [List.length_cons, List.getD_cons_succ, Nat.add_lt_add_iff_right]
      have : ((k + 1 + j : Nat) : Int) = ((k + (j + 1) : Nat) : Int) := by omega
      rw [this]
theorem Vq_get (m : Int) : ∀ (n i : Nat), i ≤ n → (Vq m n)[i]? = some (ch n i * ff m i)
  | 0, i, h => by
    have : i = 0 := by omega
    subst this
    simp [Vq, ch, ff]
  | n + 1, i, h => by
    show (nx m (Vq m n))[i]? = _
    unfold nx
    rw [wn_get m (Vq m n) 0 0 i (by rw [Vq_length]; exact h), Vq_length]
    have gd : ∀ j, j ≤ n → (Vq m n).getD j 0 = ch n j * ff m j := fun j hj => by
      rw [List.getD_eq_getElem?_getD, Vq_get m n j hj]
      rfl
    congr 1
    cases i with
    | zero =>
      have := gd 0 (by omega)
      show (if 0 < n + 1 then (Vq m n).getD 0 0 else 0) + 0 = ch (n + 1) 0 * ff m 0
      rw [if_pos (by omega), this]
      simp [ch, ff]
    | succ j =>
      simp only [gd j (by omega), Nat.zero_add]
      show _ = (ch n j + ch n (j + 1)) * (ff m j * (m - j))
      by_cases hj : j + 1 < n + 1
      · rw [if_pos hj, gd (j + 1) (by omega)]
        show ch n (j + 1) * (ff m j * (m - j)) + _ = _
        grind
      · rw [if_neg hj, ch_zero n (j + 1) (by omega)]
        grind
def dsum : List Int → Int → Nat → Int
  | [], _, _ => 0
  | c :: cs, m, 0 => c * (ch cs.length 0 * ff m 0)
  | c :: cs, m, k + 1 => c * (ch cs.length (k + 1) * ff m (k + 1)) - dsum cs (m - 1) k
theorem zadd_get : ∀ (as bs : List Int) (i : Nat) (x y : Int), as[i]? = some x → bs[i]? = some y → (zadd as bs)[i]? = some (x + y)
  | [], _, i, x, y, h, _ => by simp at h
  | _ :: _, [], i, x, y, _, h => by simp at h
  | a :: as, b :: bs, 0, x, y, h1, h2 => by
    simp at h1 h2
    subst h1 h2
    rfl
  | a :: as, b :: bs, i + 1, x, y, h1, h2 => zadd_get as bs i x y (by simpa using h1) (by simpa using h2)
theorem due_get : ∀ (cs : List Int) (m : Int) (k : Nat), k < cs.length → (due m cs)[k]? = some (dsum cs m k)
  | [], _, _, h => by simp at h
  | c :: cs, m, k, h => by
    have h1 : (scl c (Vq m cs.length))[k]? = some (c * (ch cs.length k * ff m k)) := by
      unfold scl
      rw [List.getElem?_map, Vq_get m cs.length k (by simpa using Nat.le_of_lt_succ h)]
      rfl
    cases k with
    | zero =>
      have := zadd_get (scl c (Vq m cs.length)) (0 :: scl (-1) (due (m - 1) cs)) 0 _ 0 h1 rfl
      show (zadd _ _)[0]? = _
      rw [this]
      simp [dsum]
    | succ k =>
      have h2 : (0 :: scl (-1) (due (m - 1) cs))[k + 1]? = some (-1 * dsum cs (m - 1) k) := by
        unfold scl
        rw [List.getElem?_cons_succ, List.getElem?_map, due_get cs (m - 1) k (by simpa using h)]
        rfl
      have := zadd_get _ _ (k + 1) _ _ h1 h2
      show (zadd _ _)[k + 1]? = _
      rw [this]
      simp only [dsum]
      congr 1
      omega
def tsum (f : Nat → Int) : Nat → Int
  | 0 => 0
  | n + 1 => tsum f n + f n
theorem tsum_first (f : Nat → Int) : ∀ n : Nat, tsum f (n + 1) = f 0 + tsum (fun j => f (j + 1)) n
  | 0 => by simp [tsum]
  | n + 1 => by
    show tsum f (n + 1) + f (n + 1) = f 0 + (tsum (fun j => f (j + 1)) n + f (n + 1))
    rw [tsum_first f n]
    omega
theorem tsum_congr {f g : Nat → Int} : ∀ n : Nat, (∀ j, j < n → f j = g j) → tsum f n = tsum g n
  | 0, _ => rfl
  | n + 1, h => by
    show tsum f n + f n = tsum g n + g n
    rw [tsum_congr n fun j hj => h j (by omega), h n (by omega)]
theorem tsum_neg (f : Nat → Int) : ∀ n : Nat, tsum (fun j => - f j) n = - tsum f n
  | 0 => rfl
  | n + 1 => by
    show tsum (fun j => - f j) n + - f n = -(tsum f n + f n)
    rw [tsum_neg f n]
    omega
def sg (j : Nat) : Int := if j % 2 = 0 then 1 else -1
theorem sg_succ (j : Nat) : sg (j + 1) = - sg j := by
  unfold sg
  by_cases h : j % 2 = 0
  · rw [if_pos h, if_neg (by omega)]
  · rw [if_neg h, if_pos (by omega)]
    rfl
def term (cs : List Int) (m : Int) (k j : Nat) : Int := cs.getD j 0 * ch (cs.length - 1 - j) (k - j) * ff (m - j) (k - j) * sg j
theorem term_sum : ∀ (cs : List Int) (m : Int) (k : Nat), k < cs.length → tsum (term cs m k) (k + 1) = dsum cs m k
  | [], _, _, h => by simp at h
  | c :: cs, m, k, h => by
    rw [tsum_first]
    have h0 : term (c :: cs) m k 0 = c * (ch cs.length k * ff m k) := by
      unfold term sg
      simp
      grind
    rw [h0]
    cases k with
    | zero => simp [tsum, dsum]
    | succ k =>
      have e : tsum (fun j => term (c :: cs) m (k + 1) (j + 1)) (k + 1) = tsum (fun j => - term cs (m - 1) k j) (k + 1) := tsum_congr _ fun j hj => by
        unfold term
        rw [sg_succ]
        simp only [List.getD_cons_succ, List.length_cons]
        have e1 : cs.length + 1 - 1 - (j + 1) = cs.length - 1 - j := by omega
        have e2 : k + 1 - (j + 1) = k - j := by omega
        have e3 : m - ((j + 1 : Nat) : Int) = m - 1 - j := by omega
        rw [e1, e2, e3]
        grind
      rw [e, tsum_neg, term_sum cs (m - 1) k (by simpa using h)]
      simp only [dsum]
      omega
/-! ### sizes -/
def Bd (M : Nat) (cs : List Int) : Prop := ∀ c ∈ cs, c.natAbs ≤ M
theorem mul_natAbs_le {a b : Int} {p q : Nat} (h1 : a.natAbs ≤ p) (h2 : b.natAbs ≤ q) : (a * b).natAbs ≤ p * q := by
  rw [Int.natAbs_mul]
  exact Nat.mul_le_mul h1 h2
theorem wn_bd {b : Int} {M q : Nat} : ∀ (cs : List Int) (prev : Int) (k : Nat), Bd M cs → prev.natAbs ≤ M * q → (∀ j : Nat, k ≤ j → j < k + cs.length → (b - j).natAbs ≤ q) → Bd (M * (q + 1)) (wn b prev k cs)
  | [], prev, k, _, hp, _ => by
    intro c hc
    have : c = prev := by simpa [wn] using hc
    subst this
    exact Nat.le_trans hp (Nat.mul_le_mul_left _ (by omega))
  | c :: cs, prev, k, hc, hp, hb => by
    intro d hd
    have h0 := hc c (by simp)
    rcases List.mem_cons.mp hd with rfl | hd
    · have := Int.natAbs_add_le c prev
      rw [Nat.mul_add, Nat.mul_one]
      omega
    · refine wn_bd cs (c * (b - k)) (k + 1) (fun e he => hc e (by simp [he])) ?_ (fun j h1 h2 => hb j (by omega) (by simp; omega)) d hd
      exact mul_natAbs_le h0 (hb k (by omega) (by simp))
theorem foldl_bd {q : Nat} : ∀ (ns cs : List Int) (M : Nat), Bd M cs → (∀ b ∈ ns, ∀ j : Nat, j < cs.length + ns.length → (b - j).natAbs ≤ q) → Bd (M * (q + 1) ^ ns.length) (ns.foldl (fun cs b => nx b cs) cs)
  | [], cs, M, h, _ => by simpa using h
  | b :: ns, cs, M, h, hb => by
    rw [List.foldl_cons, List.length_cons, Nat.pow_succ]
    have h1 : Bd (M * (q + 1)) (nx b cs) := wn_bd cs 0 0 h (by simp) fun j _ h2 => hb b (by simp) j (by simp; omega)
    have := foldl_bd ns (nx b cs) (M * (q + 1)) h1 fun d hd j hj => hb d (by simp [hd]) j (by rw [nx_length] at hj; simp; omega)
    rw [show M * ((q + 1) ^ ns.length * (q + 1)) = M * (q + 1) * (q + 1) ^ ns.length by rw [Nat.mul_comm ((q + 1) ^ ns.length), Nat.mul_assoc]]
    exact this
theorem along_bd {q : Nat} {ns : List Int} (hb : ∀ b ∈ ns, ∀ j : Nat, j < 1 + ns.length → (b - j).natAbs ≤ q) : Bd ((q + 1) ^ ns.length) (along ns) := by
  have := foldl_bd ns [1] 1 (by intro c hc; have : c = 1 := by simpa using hc
                                subst this; decide) (by simpa using hb)
  unfold along
  simpa using this
theorem ff_bd {q : Nat} {x : Int} : ∀ n : Nat, (∀ j : Nat, j < n → (x - j).natAbs ≤ q) → (ff x n).natAbs ≤ q ^ n
  | 0, _ => by simp [ff]
  | n + 1, h => by
    rw [Nat.pow_succ]
    exact mul_natAbs_le (ff_bd n fun j hj => h j (by omega)) (h n (by omega))
end Ar

set_option Elab.async false
set_option linter.all false
/-! A3: counts as coefficients; the jobs' side; the greatest size. Plain Lean. -/
namespace Ar
/-- behind the first items: what the longer list holds -/
def lg (b : Int) : Int → Nat → List Int → List Int → List Int
  | prev, _, [], r :: rs => (r + prev) :: rs
  | prev, _, [], [] => [prev]
  | prev, k, c :: cs, rs => (c + prev) :: lg b (c * (b - k)) (k + 1) cs rs
theorem lg_end (b : Int) : ∀ (cs : List Int) (prev : Int) (k : Nat), lg b prev k cs [0] = wn b prev k cs
  | [], prev, k => by simp [lg, wn]
  | c :: cs, prev, k => by
    show (c + prev) :: lg b (c * (b - k)) (k + 1) cs [0] = (c + prev) :: wn b (c * (b - k)) (k + 1) cs
    rw [lg_end b cs]
theorem lg_get (b : Int) : ∀ (pre : List Int) (x r prev : Int) (k : Nat) (rest : List Int), (lg b prev k pre (x :: r :: rest))[pre.length + 1]? = some r
  | [], x, r, prev, k, rest => by simp [lg]
  | c :: pre, x, r, prev, k, rest => by
    show (lg b (c * (b - k)) (k + 1) pre (x :: r :: rest))[pre.length + 1]? = some r
    exact lg_get b pre x r _ _ rest
theorem lg_step (b : Int) : ∀ (pre : List Int) (x r prev : Int) (k : Nat) (rest : List Int), (lg b prev k pre (x :: r :: rest)).set (pre.length + 1) (r + x * (b - ((k + pre.length : Nat) : Int))) = lg b prev k (pre ++ [x]) (r :: rest)
  | [], x, r, prev, k, rest => by simp [lg]
  | c :: pre, x, r, prev, k, rest => by
    show (c + prev) :: (lg b (c * (b - k)) (k + 1) pre (x :: r :: rest)).set (pre.length + 1) (r + x * (b - ((k + (pre.length + 1) : Nat) : Int))) = (c + prev) :: lg b (c * (b - k)) (k + 1) (pre ++ [x]) (r :: rest)
    rw [show k + (pre.length + 1) = k + 1 + pre.length by omega, lg_step b pre]
theorem lg_length (b : Int) : ∀ (pre rest : List Int) (prev : Int) (k : Nat), rest ≠ [] → (lg b prev k pre rest).length = pre.length + rest.length
  | [], r :: rest, prev, k, _ => by simp [lg]
  | [], [], prev, k, h => absurd rfl h
  | c :: pre, rest, prev, k, h => by
    show (lg b (c * (b - k)) (k + 1) pre rest).length + 1 = _
    rw [lg_length b pre rest _ _ h]
    simp
    omega

/-! ### coefficients -/
/-- what one more worker of level b makes of the numbers of ways -/
def op (b : Int) (f : Nat → Int) : Nat → Int
  | 0 => f 0
  | k + 1 => f (k + 1) + (b - k) * f k
def d0 : Nat → Int
  | 0 => 1
  | _ + 1 => 0
/-- the numbers of ways of ascending levels, one worker after the other -/
def cf (ns : List Int) : Nat → Int := ns.foldl (fun f b => op b f) d0
theorem cf_snoc (ns : List Int) (b : Int) : cf (ns ++ [b]) = op b (cf ns) := by unfold cf; rw [List.foldl_append]; rfl
theorem wn_getD (b : Int) : ∀ (cs : List Int) (prev : Int) (j k : Nat), (wn b prev j cs).getD k 0 = cs.getD k 0 + (if k = 0 then prev else (b - ((j + (k - 1) : Nat) : Int)) * cs.getD (k - 1) 0)
  | [], prev, j, 0 => by simp [wn]
  | [], prev, j, k + 1 => by simp [wn]
  | c :: cs, prev, j, 0 => by simp [wn]
  | c :: cs, prev, j, k + 1 => by
    show (wn b (c * (b - j)) (j + 1) cs).getD k 0 = cs.getD k 0 + _
    rw [wn_getD b cs _ (j + 1) k, if_neg (show ¬ (k + 1 = 0) by omega)]
    show _ = cs.getD k 0 + (b - ((j + k : Nat) : Int)) * (c :: cs).getD k 0
    cases k with
    | zero =>
      rw [if_pos rfl]
      show _ + c * (b - j) = _ + (b - ((j + 0 : Nat) : Int)) * c
      rw [Int.mul_comm c]
      rfl
    | succ k =>
      rw [if_neg (show ¬ (k + 1 = 0) by omega)]
      show cs.getD (k + 1) 0 + (b - ((j + 1 + k : Nat) : Int)) * cs.getD k 0 = cs.getD (k + 1) 0 + (b - ((j + (k + 1) : Nat) : Int)) * cs.getD k 0
      rw [show j + 1 + k = j + (k + 1) by omega]
theorem nx_get (b : Int) (cs : List Int) (k : Nat) : (nx b cs).getD k 0 = op b (fun i => cs.getD i 0) k := by
  unfold nx
  rw [wn_getD]
  cases k with
  | zero => simp [op]
  | succ k =>
    rw [if_neg (show ¬ (k + 1 = 0) by omega)]
    show _ + (b - ((0 + k : Nat) : Int)) * cs.getD k 0 = cs.getD (k + 1) 0 + (b - k) * cs.getD k 0
    rw [Nat.zero_add]
theorem along_snoc (ns : List Int) (b : Int) : along (ns ++ [b]) = nx b (along ns) := by
  unfold along
  rw [List.foldl_append]
  rfl
theorem rev_ind {α : Type} {P : List α → Prop} (h0 : P []) (hs : ∀ xs x, P xs → P (xs ++ [x])) : ∀ xs, P xs := fun xs => by
  have : ∀ ys : List α, P ys.reverse := by
    intro ys
    induction ys with
    | nil => exact h0
    | cons y ys ih => rw [List.reverse_cons]; exact hs _ _ ih
  have := this xs.reverse
  rw [List.reverse_reverse] at this
  exact this
theorem along_get (ns : List Int) : ∀ k : Nat, (along ns).getD k 0 = cf ns k := by
  refine rev_ind (P := fun ns => ∀ k : Nat, (along ns).getD k 0 = cf ns k) ?_ ?_ ns
  · intro k
    cases k <;> simp [along, cf, d0]
  · intro xs x ih k
    rw [along_snoc, nx_get, cf_snoc, show (fun i => (along xs).getD i 0) = cf xs from funext ih]
theorem cf_beyond (ns : List Int) (k : Nat) (h : ns.length < k) : cf ns k = 0 := by
  rw [← along_get, List.getD_eq_getElem?_getD, List.getElem?_eq_none (by rw [along_length]; omega)]
  rfl
theorem cf_zero (ns : List Int) : cf ns 0 = 1 := by
  refine rev_ind (P := fun ns => cf ns 0 = 1) rfl (fun xs x ih => ?_) ns
  rw [cf_snoc]
  exact ih
/-- the easiest job is put in for all: the two steps may be exchanged -/
theorem op_comm (n b : Int) (f : Nat → Int) : op (n + 1) (op b f) = op (b + 1) (op n f) := by
  funext k
  match k with
  | 0 => rfl
  | 1 => simp only [op]; grind
  | k + 2 =>
    simp only [op]
    have : ((k + 1 : Nat) : Int) = k + 1 := by omega
    rw [this]
    grind
theorem cf_up (ns : List Int) : cf (ns.map fun x => x + 1) = op ns.length (cf ns) := by
  refine rev_ind (P := fun ns => cf (ns.map fun x => x + 1) = op ns.length (cf ns)) ?_ (fun xs x ih => ?_) ns
  · funext k
    match k with
    | 0 => rfl
    | 1 => simp [cf, op, d0]
    | k + 2 => simp [cf, op, d0]
  · rw [List.map_append, List.map_cons, List.map_nil, cf_snoc, ih, cf_snoc, List.length_append]
    exact (op_comm _ _ _).symm
theorem op_zero_d0 : op 0 d0 = d0 := by
  funext k
  match k with
  | 0 => rfl
  | 1 => simp [op, d0]
  | k + 2 => simp [op, d0]
theorem cf_zeros (n : Nat) (ns : List Int) : cf (List.replicate n 0 ++ ns) = cf ns := by
  unfold cf
  rw [List.foldl_append]
  have : (List.replicate n (0 : Int)).foldl (fun f b => op b f) d0 = d0 := by
    induction n with
    | zero => rfl
    | succ n ih => rw [List.replicate_succ, List.foldl_cons, op_zero_d0, ih]
  rw [this]
/-- how many levels are above b -/
def ab (ns : List Int) (b : Int) : Nat := (ns.filter fun x => decide (b < x)).length
/-- the jobs' side: for the jobs below m, how many can do each -/
def sideN (ns : List Int) (m : Nat) : List Int := (List.range m).map fun j : Nat => (ab ns (j : Int) : Int)
theorem ab_le (ns : List Int) (b : Int) : ab ns b ≤ ns.length := List.length_filter_le _ _
theorem ab_map_up (ns : List Int) (b : Int) : ab (ns.map fun x => x + 1) (b + 1) = ab ns b := by
  unfold ab
  induction ns with
  | nil => rfl
  | cons x ns ih =>
    rw [List.map_cons, List.filter_cons, List.filter_cons]
    by_cases h : b < x
    · rw [if_pos (by simpa using h), if_pos (by simpa using h), List.length_cons, List.length_cons, ih]
    · rw [if_neg (by simpa using h), if_neg (by simpa using h), ih]
theorem ab_append (as bs : List Int) (b : Int) : ab (as ++ bs) b = ab as b + ab bs b := by unfold ab; rw [List.filter_append, List.length_append]
theorem ab_perm {as bs : List Int} (h : as.Perm bs) (b : Int) : ab as b = ab bs b := (h.filter _).length_eq
theorem ab_zeros (n : Nat) (b : Int) (h : 0 ≤ b) : ab (List.replicate n 0) b = 0 := by
  unfold ab
  rw [List.length_eq_zero_iff, List.filter_eq_nil_iff]
  intro x hx
  rw [List.eq_of_mem_replicate hx]
  simpa using h
theorem ab_all {ns : List Int} {b : Int} (h : ∀ x ∈ ns, b < x) : ab ns b = ns.length := by
  unfold ab
  rw [List.filter_eq_self.mpr fun x hx => by simpa using h x hx]
theorem ab_none {ns : List Int} {b : Int} (h : ∀ x ∈ ns, x ≤ b) : ab ns b = 0 := by
  unfold ab
  rw [List.length_eq_zero_iff, List.filter_eq_nil_iff]
  intro x hx
  have := h x hx
  simpa using this
/-- ascending levels not below 0: zeros, then the levels of others with one job more -/
theorem split_zeros : ∀ ns : List Int, ns.Pairwise (· ≤ ·) → (∀ x ∈ ns, 0 ≤ x) → ∃ (n : Nat) (ms : List Int), ns = List.replicate n 0 ++ ms.map (fun x => x + 1) ∧ ms.Pairwise (· ≤ ·) ∧ ∀ x ∈ ms, 0 ≤ x
  | [], _, _ => ⟨0, [], rfl, .nil, by simp⟩
  | x :: ns, hp, h0 => by
    rw [List.pairwise_cons] at hp
    by_cases hx : x = 0
    · obtain ⟨n, ms, e, h1, h2⟩ := split_zeros ns hp.2 fun y hy => h0 y (List.mem_cons_of_mem _ hy)
      refine ⟨n + 1, ms, ?_, h1, h2⟩
      rw [hx, e, List.replicate_succ]
      rfl
    · have hx0 : 0 ≤ x := h0 x List.mem_cons_self
      refine ⟨0, (x :: ns).map fun y => y - 1, ?_, ?_, ?_⟩
      · rw [List.map_map]
        have : ((fun x : Int => x + 1) ∘ fun y => y - 1) = id := funext fun y => by show y - 1 + 1 = y; omega
        rw [this, List.map_id]
        rfl
      · rw [List.pairwise_map]
        exact (List.pairwise_cons.mpr hp).imp fun q => by omega
      · intro y hy
        obtain ⟨z, hz, rfl⟩ := List.mem_map.mp hy
        have : x ≤ z := by
          rcases List.mem_cons.mp hz with rfl | hz
          · omega
          · exact hp.1 z hz
        omega
/-- the numbers of ways of both sides -/
theorem cf_side : ∀ (m : Nat) (ns : List Int), ns.Pairwise (· ≤ ·) → (∀ x ∈ ns, 0 ≤ x ∧ x ≤ m) → cf ns = cf (sideN ns m).reverse
  | 0, ns, hp, h0 => by
    have : ns = List.replicate ns.length 0 := List.eq_replicate_of_mem fun x hx => by have := h0 x hx; omega
    rw [this]
    have := cf_zeros ns.length []
    rw [List.append_nil] at this
    rw [this]
    rfl
  | m + 1, ns, hp, h0 => by
    obtain ⟨n, ms, e, h1, h2⟩ := split_zeros ns hp fun x hx => (h0 x hx).1
    have hm : ∀ x ∈ ms, 0 ≤ x ∧ x ≤ m := fun x hx => by
      refine ⟨h2 x hx, ?_⟩
      have := (h0 (x + 1) (by rw [e]; exact List.mem_append_right _ (List.mem_map.mpr ⟨x, hx, rfl⟩))).2
      omega
    have ih := cf_side m ms h1 hm
    have es : sideN ns (m + 1) = (ms.length : Int) :: sideN ms m := by
      unfold sideN
      rw [List.range_succ_eq_map, List.map_cons, List.map_map]
      congr 1
      · rw [e, ab_append, ab_zeros _ _ (by omega), Nat.zero_add, ab_all (fun x hx => ?_), List.length_map]
        obtain ⟨y, hy, rfl⟩ := List.mem_map.mp hx
        have := h2 y hy
        show ((0 : Nat) : Int) < y + 1
        omega
      · refine List.map_congr_left fun j _ => ?_
        show ((ab ns ((j + 1 : Nat) : Int) : Nat) : Int) = (ab ms j : Int)
        rw [e, ab_append, ab_zeros _ _ (by omega), Nat.zero_add]
        have : ((j + 1 : Nat) : Int) = (j : Int) + 1 := by omega
        rw [this, ab_map_up]
    rw [es, List.reverse_cons, cf_snoc, ← ih, e, cf_zeros, cf_up]
/-! ### ascending levels: no number of ways is below 0 -/
theorem pw_snoc {xs : List Int} {x : Int} (h : (xs ++ [x]).Pairwise (· ≤ ·)) : xs.Pairwise (· ≤ ·) ∧ ∀ y ∈ xs, y ≤ x := by
  rw [List.pairwise_append] at h
  exact ⟨h.1, fun y hy => h.2.2 y hy x (by simp)⟩
theorem cf_good (ns : List Int) : ns.Pairwise (· ≤ ·) → (∀ x ∈ ns, 0 ≤ x) → (∀ k, 0 ≤ cf ns k) ∧ ∀ (k : Nat) (m : Int), (∀ x ∈ ns, x ≤ m) → 0 ≤ m → m < k → cf ns k = 0 := by
  refine rev_ind (P := fun ns => ns.Pairwise (· ≤ ·) → (∀ x ∈ ns, 0 ≤ x) → (∀ k, 0 ≤ cf ns k) ∧ ∀ (k : Nat) (m : Int), (∀ x ∈ ns, x ≤ m) → 0 ≤ m → m < k → cf ns k = 0) ?_ ?_ ns
  · intro _ _
    refine ⟨fun k => ?_, fun k m _ h0 hk => ?_⟩
    · cases k <;> simp [cf, d0]
    · obtain ⟨j, rfl⟩ : ∃ j, k = j + 1 := ⟨k - 1, by omega⟩
      rfl
  · intro xs x ih hp h0
    obtain ⟨hp1, hx⟩ := pw_snoc hp
    obtain ⟨i1, i2⟩ := ih hp1 fun y hy => h0 y (List.mem_append_left _ hy)
    have x0 : 0 ≤ x := h0 x (by simp)
    rw [cf_snoc]
    refine ⟨fun k => ?_, fun k m hm hm0 hk => ?_⟩
    · cases k with
      | zero => exact i1 0
      | succ k =>
        show 0 ≤ cf xs (k + 1) + (x - k) * cf xs k
        have := i1 (k + 1)
        by_cases hxk : x < k
        · rw [i2 k x hx x0 hxk]
          omega
        · have := Int.mul_nonneg (show 0 ≤ x - k by omega) (i1 k)
          omega
    · obtain ⟨j, rfl⟩ : ∃ j, k = j + 1 := ⟨k - 1, by omega⟩
      have xm : x ≤ m := hm x (by simp)
      show cf xs (j + 1) + (x - j) * cf xs j = 0
      rw [i2 (j + 1) x hx x0 (by omega)]
      by_cases hj : x = j
      · rw [hj, Int.sub_self, Int.zero_mul]
        rfl
      · rw [i2 j x hx x0 (by omega), Int.mul_zero]
        rfl
theorem sum_natAbs {M : Nat} : ∀ cs : List Int, (∀ c ∈ cs, c.natAbs ≤ M) → cs.sum.natAbs ≤ cs.length * M
  | [], _ => by simp
  | c :: cs, h => by
    have ih := sum_natAbs cs fun d hd => h d (List.mem_cons_of_mem _ hd)
    have h1 := h c List.mem_cons_self
    rw [List.sum_cons, List.length_cons, Nat.succ_mul]
    omega
theorem sum_nonneg : ∀ cs : List Int, (∀ c ∈ cs, 0 ≤ c) → 0 ≤ cs.sum
  | [], _ => by simp
  | c :: cs, h => by
    have ih := sum_nonneg cs fun d hd => h d (List.mem_cons_of_mem _ hd)
    have h1 := h c List.mem_cons_self
    rw [List.sum_cons]
    omega
theorem sum_pos {cs : List Int} (h : ∀ c ∈ cs, 0 ≤ c) {c : Int} (hc : c ∈ cs) (h1 : 0 < c) : 0 < cs.sum := by
  induction cs with
  | nil => cases hc
  | cons d cs ih =>
    rw [List.sum_cons]
    have hd := h d List.mem_cons_self
    have hs := sum_nonneg cs fun e he => h e (List.mem_cons_of_mem _ he)
    rcases List.mem_cons.mp hc with rfl | hc
    · omega
    · have := ih (fun e he => h e (List.mem_cons_of_mem _ he)) hc
      omega
theorem mem_along {ns : List Int} {c : Int} (h : c ∈ along ns) : ∃ k, c = cf ns k := by
  obtain ⟨k, hk, e⟩ := List.getElem_of_mem h
  refine ⟨k, ?_⟩
  rw [← along_get, List.getD_eq_getElem?_getD, List.getElem?_eq_getElem hk, e]
  rfl
theorem one_mem_along (ns : List Int) : (1 : Int) ∈ along ns := by
  have h0 : 0 < (along ns).length := by rw [along_length]; omega
  have := along_get ns 0
  rw [cf_zero, List.getD_eq_getElem?_getD, List.getElem?_eq_getElem h0] at this
  have e : (along ns)[0] = 1 := this
  exact e ▸ List.getElem_mem h0
end Ar

set_option Elab.async false
set_option linter.all false
/-! A4: the jobs' side: sums, sizes, its own side. Plain Lean. -/
namespace Ar
theorem ab_anti (ns : List Int) {i j : Int} (h : i ≤ j) : ab ns j ≤ ab ns i := by
  unfold ab
  induction ns with
  | nil => exact Nat.le_refl _
  | cons x ns ih =>
    rw [List.filter_cons, List.filter_cons]
    by_cases h1 : j < x
    · rw [if_pos (by simpa using h1), if_pos (by simp; omega), List.length_cons, List.length_cons]
      omega
    · rw [if_neg (by simpa using h1)]
      split
      · rw [List.length_cons]; omega
      · exact ih
theorem sideN_succ (ns : List Int) (m : Nat) : sideN ns (m + 1) = sideN ns m ++ [(ab ns (m : Int) : Int)] := by
  unfold sideN
  rw [List.range_succ, List.map_append]
  rfl
theorem sideN_length (ns : List Int) (m : Nat) : (sideN ns m).length = m := by unfold sideN; rw [List.length_map, List.length_range]
theorem sideN_get (ns : List Int) {m j : Nat} (h : j < m) : (sideN ns m)[j]? = some (ab ns (j : Int) : Int) := by
  unfold sideN
  rw [List.getElem?_map, List.getElem?_range h]
  rfl
theorem sideN_desc (ns : List Int) (m : Nat) : (sideN ns m).Pairwise (fun a b => b ≤ a) := by
  induction m with
  | zero => exact .nil
  | succ m ih =>
    rw [sideN_succ, List.pairwise_append]
    refine ⟨ih, by simp, fun a ha b hb => ?_⟩
    rw [List.mem_singleton.mp hb]
    unfold sideN at ha
    obtain ⟨j, hj, rfl⟩ := List.mem_map.mp ha
    have := List.mem_range.mp hj
    have := ab_anti ns (i := (j : Int)) (j := (m : Int)) (by omega)
    omega
theorem sum_snoc (xs : List Int) (x : Int) : (xs ++ [x]).sum = xs.sum + x := by simp
theorem ab_cons (x : Int) (ns : List Int) (b : Int) : ab (x :: ns) b = (if b < x then 1 else 0) + ab ns b := by
  unfold ab
  rw [List.filter_cons]
  by_cases h : b < x
  · rw [if_pos (by simpa using h), if_pos h, List.length_cons]; omega
  · rw [if_neg (by simpa using h), if_neg h]; omega
theorem side_sum_cons (x : Int) (ns : List Int) (h : 0 ≤ x) : ∀ m : Nat, (sideN (x :: ns) m).sum = min x (m : Int) + (sideN ns m).sum
  | 0 => by
    show (0 : Int) = min x ((0 : Nat) : Int) + 0
    omega
  | m + 1 => by
    rw [sideN_succ, sideN_succ, sum_snoc, sum_snoc, side_sum_cons x ns h m, ab_cons]
    split <;> omega
theorem side_sum : ∀ (ns : List Int) (m : Nat), (∀ x ∈ ns, 0 ≤ x ∧ x ≤ m) → (sideN ns m).sum = ns.sum
  | [], m, _ => by
    induction m with
    | zero => rfl
    | succ m ih =>
      rw [sideN_succ, sum_snoc, ih (by simp)]
      rfl
  | x :: ns, m, h => by
    have hx := h x List.mem_cons_self
    rw [side_sum_cons x ns hx.1, side_sum ns m fun y hy => h y (List.mem_cons_of_mem _ hy), List.sum_cons]
    omega
/-- of what holds below and not above: the ones for which it holds come first -/
theorem init (p : Nat → Bool) (hp : ∀ j, p (j + 1) = true → p j = true) : ∀ m : Nat, ∃ t, t ≤ m ∧ (List.range m).filter p = List.range t ∧ (∀ j, j < t → p j = true) ∧ ∀ j, t ≤ j → j < m → p j = false
  | 0 => ⟨0, Nat.le_refl _, rfl, fun j h => absurd h (Nat.not_lt_zero j), fun j _ h => absurd h (Nat.not_lt_zero j)⟩
  | m + 1 => by
    obtain ⟨t, h1, h2, h3, h4⟩ := init p hp m
    have down : ∀ d j, p (j + d) = true → p j = true := by
      intro d
      induction d with
      | zero => intro j h; exact h
      | succ d ih => intro j h; exact ih j (hp _ h)
    rw [List.range_succ, List.filter_append, h2]
    cases q : p m with
    | true =>
      have e : t = m := by
        by_cases e : t < m
        · have := down (m - t) t (by rw [show t + (m - t) = m by omega]; exact q)
          rw [h4 t (Nat.le_refl _) e] at this
          cases this
        · omega
      refine ⟨m + 1, Nat.le_refl _, ?_, fun j hj => ?_, fun j h5 h6 => by omega⟩
      · rw [e, List.range_succ]
        simp [q]
      · by_cases hj' : j = m
        · rw [hj']; exact q
        · exact h3 j (by omega)
    | false =>
      refine ⟨t, by omega, by simp [q], h3, fun j h5 h6 => ?_⟩
      by_cases hj : j = m
      · rw [hj]; exact q
      · exact h4 j h5 (by omega)
/-- how many of the side are above b -/
theorem ab_side (ns : List Int) (m : Nat) (b : Int) : ∃ t, t ≤ m ∧ ab (sideN ns m) b = t ∧ (∀ j : Nat, j < t → b < ab ns (j : Int)) ∧ ∀ j : Nat, t ≤ j → j < m → (ab ns (j : Int) : Int) ≤ b := by
  obtain ⟨t, h1, h2, h3, h4⟩ := init (fun j => decide (b < (ab ns (j : Int) : Int))) (fun j h => by
    have h : b < (ab ns ((j + 1 : Nat) : Int) : Int) := of_decide_eq_true h
    have := ab_anti ns (i := (j : Int)) (j := ((j + 1 : Nat) : Int)) (by omega)
    exact decide_eq_true (by omega)) m
  refine ⟨t, h1, ?_, fun j hj => of_decide_eq_true (h3 j hj), fun j h5 h6 => by have := of_decide_eq_false (h4 j h5 h6); omega⟩
  show ((sideN ns m).filter fun x => decide (b < x)).length = t
  unfold sideN
  rw [List.filter_map, List.length_map]
  have : (List.range m).filter ((fun x : Int => decide (b < x)) ∘ fun j : Nat => (ab ns (j : Int) : Int)) = List.range t := h2
  rw [this, List.length_range]
/-- of a falling list: the ones above i come first -/
theorem desc_ab : ∀ (ds : List Int), ds.Pairwise (fun a b => b ≤ a) → ∀ (i : Int) (j : Nat), j < ab ds i ↔ ∃ d, ds[j]? = some d ∧ i < d
  | [], _, i, j => by
    unfold ab
    simp
  | d :: ds, hp, i, j => by
    rw [List.pairwise_cons] at hp
    rw [ab_cons]
    by_cases hd : i < d
    · rw [if_pos hd]
      cases j with
      | zero => exact ⟨fun _ => ⟨d, rfl, hd⟩, fun _ => by omega⟩
      | succ j =>
        have := desc_ab ds hp.2 i j
        rw [List.getElem?_cons_succ, ← this]
        omega
    · rw [if_neg hd]
      have h0 : ab ds i = 0 := ab_none fun x hx => by have := hp.1 x hx; omega
      rw [h0]
      constructor
      · intro h; omega
      · rintro ⟨e, he, hi⟩
        have hm := List.mem_of_getElem? he
        rcases List.mem_cons.mp hm with rfl | hm
        · omega
        · have := hp.1 e hm
          omega
theorem desc_take : ∀ (ds : List Int), ds.Pairwise (fun a b => b ≤ a) → ∀ i : Int, ds.filter (fun x => decide (i < x)) = ds.take (ab ds i)
  | [], _, i => by simp
  | d :: ds, hp, i => by
    rw [List.pairwise_cons] at hp
    rw [ab_cons, List.filter_cons]
    by_cases hd : i < d
    · rw [if_pos (by simpa using hd), if_pos hd, Nat.add_comm, List.take_succ_cons, desc_take ds hp.2 i]
    · have h0 : ab ds i = 0 := ab_none fun x hx => by have := hp.1 x hx; omega
      rw [if_neg (by simpa using hd), if_neg hd, h0, List.take_zero, List.filter_eq_nil_iff]
      intro x hx
      have := hp.1 x hx
      simp
      omega
/-- the side's own side -/
theorem side_side {ds : List Int} (hp : ds.Pairwise (fun a b => b ≤ a)) {m : Nat} (h : ∀ x ∈ ds, 0 ≤ x ∧ x ≤ m) : sideN (sideN ds m) (ab ds 0) = ds.filter fun x => decide (0 < x) := by
  rw [desc_take ds hp 0]
  refine List.ext_getElem? fun j => ?_
  by_cases hj : j < ab ds 0
  · rw [sideN_get _ hj, List.getElem?_take_of_lt hj]
    obtain ⟨d, hd, h0⟩ := (desc_ab ds hp 0 j).mp hj
    rw [hd]
    have hdm := (h d (List.mem_of_getElem? hd)).2
    obtain ⟨t, h1, h2, h3, h4⟩ := ab_side ds m (j : Int)
    rw [h2]
    congr 1
    by_cases hlt : (t : Int) < d
    · have q1 := h4 t (Nat.le_refl _) (by omega)
      have q2 : j < ab ds (t : Int) := (desc_ab ds hp (t : Int) j).mpr ⟨d, hd, hlt⟩
      omega
    · by_cases he : (t : Int) = d
      · exact he
      · have q1 := h3 d.toNat (by omega)
        have e : ((d.toNat : Nat) : Int) = d := by omega
        rw [e] at q1
        obtain ⟨d', hd', hlt'⟩ := (desc_ab ds hp d j).mp (by omega)
        rw [hd] at hd'
        cases hd'
        omega
  · rw [List.getElem?_eq_none (by rw [sideN_length]; omega), List.getElem?_eq_none (by rw [List.length_take]; omega)]
/-! ### lists with zeros behind -/
theorem getD_zeros (cs : List Int) (j k : Nat) : (cs ++ List.replicate j 0).getD k 0 = cs.getD k 0 := by
  by_cases h : k < cs.length
  · rw [List.getD_eq_getElem?_getD, List.getElem?_append_left h, ← List.getD_eq_getElem?_getD]
  · rw [List.getD_eq_getElem?_getD, List.getElem?_append_right (by omega), List.getD_eq_getElem?_getD, List.getElem?_eq_none (l := cs) (by omega), List.getElem?_replicate]
    split <;> rfl
theorem eq_of_getD : ∀ {as bs : List Int}, as.length = bs.length → (∀ k, as.getD k 0 = bs.getD k 0) → as = bs := fun {as bs} hl h => by
  refine List.ext_getElem hl fun k h1 h2 => ?_
  have := h k
  rw [List.getD_eq_getElem?_getD, List.getD_eq_getElem?_getD, List.getElem?_eq_getElem h1, List.getElem?_eq_getElem h2] at this
  exact this
theorem pad_eq {as bs : List Int} (h : ∀ k, as.getD k 0 = bs.getD k 0) : as ++ List.replicate bs.length 0 = bs ++ List.replicate as.length 0 :=
  eq_of_getD (by simp; omega) fun k => by rw [getD_zeros, getD_zeros, h]
end Ar

set_option Elab.async false
set_option linter.all false
/-! A5: the greatest size, and that the counts rise and fall strictly. -/
namespace Ar
theorem core_id (a p c d z : Int) : (c + z * p) * (c + z * p) - (p + (z + 1) * a) * (d + (z - 1) * c) = (c * c - p * d) + (z * z - 1) * (p * p - a * c) + p * p + (z + 1) * (c * p - a * d) := by grind
theorem core {a p c d z : Int} (hc : 0 ≤ c) (h1 : a * c ≤ p * p) (h2 : p * d ≤ c * c) (h3 : a * d ≤ c * p) (hz : 1 ≤ z) (hs : p * d < c * c ∨ 0 < p) : (p + (z + 1) * a) * (d + (z - 1) * c) < (c + z * p) * (c + z * p) := by
  have e := core_id a p c d z
  have k1 : 0 ≤ (z * z - 1) * (p * p - a * c) := Int.mul_nonneg (by have := Int.mul_le_mul hz hz (by omega) (by omega); omega) (by omega)
  have k2 : 0 ≤ (z + 1) * (c * p - a * d) := Int.mul_nonneg (by omega) (by omega)
  have k3 : 0 ≤ p * p := by
    rcases Int.le_total 0 p with h | h
    · exact Int.mul_nonneg h h
    · exact Int.mul_nonneg_of_nonpos_of_nonpos h h
  rcases hs with hs | hs
  · omega
  · have : 0 < p * p := Int.mul_pos hs hs
    omega
/-- above 0 just up to g, and more and more slowly -/
structure SL (f : Nat → Int) (g : Int) : Prop where
  pos : ∀ k : Nat, (k : Int) ≤ g → 0 < f k
  zero : ∀ k : Nat, g < k → f k = 0
  lc : ∀ k : Nat, (k : Int) + 1 ≤ g → f k * f (k + 2) < f (k + 1) * f (k + 1)
theorem SL.nn {f : Nat → Int} {g : Int} (s : SL f g) (k : Nat) : 0 ≤ f k := by
  by_cases h : (k : Int) ≤ g
  · exact Int.le_of_lt (s.pos k h)
  · rw [s.zero k (by omega)]; exact Int.le_refl _
theorem SL.lcw {f : Nat → Int} {g : Int} (s : SL f g) (k : Nat) : f k * f (k + 2) ≤ f (k + 1) * f (k + 1) := by
  by_cases h : (k : Int) + 1 ≤ g
  · exact Int.le_of_lt (s.lc k h)
  · rw [s.zero (k + 2) (by omega), Int.mul_zero]
    exact Int.mul_nonneg (s.nn _) (s.nn _)
theorem SL.far {f : Nat → Int} {g : Int} (s : SL f g) (k : Nat) : f k * f (k + 3) ≤ f (k + 2) * f (k + 1) := by
  by_cases h : (k : Int) + 3 ≤ g
  · have p1 := s.pos (k + 1) (by omega)
    have p2 := s.pos (k + 2) (by omega)
    have p0 := s.pos k (by omega)
    have p3 := s.pos (k + 3) (by omega)
    have h1 := s.lcw k
    have h2 := s.lcw (k + 1)
    have h2 : f (k + 1) * f (k + 3) ≤ f (k + 2) * f (k + 2) := h2
    have hm := Int.mul_le_mul h1 h2 (Int.mul_nonneg (by omega) (by omega)) (Int.mul_nonneg (by omega) (by omega))
    have e1 : f k * f (k + 2) * (f (k + 1) * f (k + 3)) = (f (k + 2) * f (k + 1)) * (f k * f (k + 3)) := by grind
    have e2 : f (k + 1) * f (k + 1) * (f (k + 2) * f (k + 2)) = (f (k + 2) * f (k + 1)) * (f (k + 2) * f (k + 1)) := by grind
    rw [e1, e2] at hm
    exact Int.le_of_mul_le_mul_left hm (Int.mul_pos p2 p1)
  · rw [s.zero (k + 3) (by omega), Int.mul_zero]
    exact Int.mul_nonneg (s.nn _) (s.nn _)
theorem SL.step {f : Nat → Int} {g b : Int} (s : SL f g) (g0 : 0 ≤ g) (hb : g ≤ b) : SL (op b f) (if g < b then g + 1 else g) := by
  have key : ∀ k : Nat, ((k : Int) + 1 ≤ if g < b then g + 1 else g) → 1 ≤ b - k ∧ (k : Int) ≤ g := by
    intro k hk
    split at hk <;> omega
  refine ⟨fun k hk => ?_, fun k hk => ?_, fun k hk => ?_⟩
  · cases k with
    | zero => exact s.pos 0 (by simpa using g0)
    | succ k =>
      obtain ⟨h1, h2⟩ := key k (by simpa using hk)
      show 0 < f (k + 1) + (b - k) * f k
      have := Int.mul_pos (show 0 < b - (k : Int) by omega) (s.pos k h2)
      have := s.nn (k + 1)
      omega
  · cases k with
    | zero => exfalso; split at hk <;> simp at hk <;> omega
    | succ k =>
      show f (k + 1) + (b - k) * f k = 0
      rw [s.zero (k + 1) (by split at hk <;> omega)]
      by_cases h : g < k
      · rw [s.zero k h, Int.mul_zero]; rfl
      · have : b - (k : Int) = 0 := by split at hk <;> omega
        rw [this, Int.zero_mul]; rfl
  · cases k with
    | zero =>
      obtain ⟨h1, h2⟩ := key 0 hk
      show f 0 * (f 2 + (b - (1 : Nat)) * f 1) < (f 1 + (b - (0 : Nat)) * f 0) * (f 1 + (b - (0 : Nat)) * f 0)
      have q := core (a := 0) (p := f 0) (c := f 1) (d := f 2) (z := b) (s.nn 1) (by rw [Int.zero_mul]; exact Int.mul_nonneg (s.nn 0) (s.nn 0)) (s.lcw 0) (by rw [Int.zero_mul]; exact Int.mul_nonneg (s.nn 1) (s.nn 0)) (by simpa using h1) (.inr (s.pos 0 (by simpa using g0)))
      simpa using q
    | succ j =>
      obtain ⟨h1, h2⟩ := key (j + 1) hk
      show (f (j + 1) + (b - j) * f j) * (f (j + 3) + (b - (j + 2 : Nat)) * f (j + 2)) < (f (j + 2) + (b - (j + 1 : Nat)) * f (j + 1)) * (f (j + 2) + (b - (j + 1 : Nat)) * f (j + 1))
      have q := core (a := f j) (p := f (j + 1)) (c := f (j + 2)) (d := f (j + 3)) (z := b - (j + 1 : Nat)) (s.nn _) (s.lcw j) (s.lcw (j + 1)) (s.far j) h1 (.inr (s.pos (j + 1) h2))
      have e1 : b - (j : Int) = b - (j + 1 : Nat) + 1 := by omega
      have e2 : b - ((j + 2 : Nat) : Int) = b - (j + 1 : Nat) - 1 := by omega
      rw [e1, e2]
      exact q
/-- the greatest size, one worker after the other -/
def gd (ns : List Int) : Int := ns.foldl (fun g b => if g < b then g + 1 else g) 0
theorem gd_snoc (ns : List Int) (b : Int) : gd (ns ++ [b]) = if gd ns < b then gd ns + 1 else gd ns := by unfold gd; rw [List.foldl_append]; rfl
theorem gd_good (ns : List Int) : ns.Pairwise (· ≤ ·) → (∀ x ∈ ns, 0 ≤ x) → 0 ≤ gd ns ∧ (∀ m : Int, 0 ≤ m → (∀ x ∈ ns, x ≤ m) → gd ns ≤ m) ∧ SL (cf ns) (gd ns) ∧ (∀ t : Nat, gd ns ≤ t + ab ns (t : Int)) ∧ ∃ t : Nat, gd ns = t + ab ns (t : Int) := by
  refine rev_ind (P := fun ns => ns.Pairwise (· ≤ ·) → (∀ x ∈ ns, 0 ≤ x) → 0 ≤ gd ns ∧ (∀ m : Int, 0 ≤ m → (∀ x ∈ ns, x ≤ m) → gd ns ≤ m) ∧ SL (cf ns) (gd ns) ∧ (∀ t : Nat, gd ns ≤ t + ab ns (t : Int)) ∧ ∃ t : Nat, gd ns = t + ab ns (t : Int)) ?_ ?_ ns
  · intro _ _
    refine ⟨Int.le_refl _, fun m h _ => h, ⟨fun k hk => ?_, fun k hk => ?_, fun k hk => ?_⟩, fun t => ?_, 0, rfl⟩
    · have hk : (k : Int) ≤ 0 := hk
      obtain rfl : k = 0 := by omega
      decide
    · have hk : (0 : Int) < k := hk
      obtain ⟨j, rfl⟩ : ∃ j, k = j + 1 := ⟨k - 1, by omega⟩
      rfl
    · have hk : (k : Int) + 1 ≤ 0 := hk
      omega
    · show (0 : Int) ≤ _
      omega
  · intro xs x ih hp h0
    obtain ⟨hp1, hx⟩ := pw_snoc hp
    obtain ⟨i0, i1, i2, i3, t, i4⟩ := ih hp1 fun y hy => h0 y (List.mem_append_left _ hy)
    have x0 : 0 ≤ x := h0 x (by simp)
    have gx := i1 x x0 hx
    have hab : ∀ u : Nat, ab (xs ++ [x]) (u : Int) = ab xs (u : Int) + if (u : Int) < x then 1 else 0 := fun u => by
      rw [ab_append, ab_cons]
      rfl
    rw [gd_snoc, cf_snoc]
    refine ⟨by split <;> omega, fun m hm hm2 => ?_, i2.step i0 gx, fun u => ?_, ?_⟩
    · have := hm2 x (by simp)
      split <;> omega
    · rw [hab]
      have := i3 u
      by_cases hu : (u : Int) < x
      · rw [if_pos hu]
        split <;> omega
      · rw [if_neg hu]
        have z : ab xs (u : Int) = 0 := ab_none fun y hy => by have := hx y hy; omega
        split <;> omega
    · by_cases hg : gd xs < x
      · rw [if_pos hg]
        refine ⟨t, ?_⟩
        rw [hab, if_pos (by omega)]
        omega
      · rw [if_neg hg]
        refine ⟨x.toNat, ?_⟩
        rw [hab, if_neg (by omega), ab_none fun y hy => by have := hx y hy; omega]
        omega
/-- two of the greatest ones stand side by side -/
theorem SL.near {f : Nat → Int} {g : Int} (s : SL f g) {i j : Nat} (hi : ∀ k, f k ≤ f i) (hj : f j = f i) (g0 : 0 ≤ g) (hij : i < j) : j = i + 1 := by
  have M0 : 0 < f i := by
    have := s.pos 0 (by simpa using g0)
    have := hi 0
    omega
  have jg : (j : Int) ≤ g := by
    rcases Int.lt_or_le g j with h | h
    · rw [s.zero j h] at hj
      omega
    · exact h
  have drop : ∀ k : Nat, (k : Int) + 1 ≤ g → f (k + 1) ≤ f k → f (k + 2) < f (k + 1) := fun k hk hd => by
    have h1 := s.lc k hk
    have p1 := s.pos (k + 1) (by omega)
    have p0 := s.pos k (by omega)
    have h2 : f (k + 1) * f (k + 1) ≤ f k * f (k + 1) := Int.mul_le_mul_of_nonneg_right hd (by omega)
    exact Int.lt_of_mul_lt_mul_left (Int.lt_of_lt_of_le h1 h2) (by omega)
  have chain : ∀ d : Nat, ((i + d + 1 : Nat) : Int) ≤ g → f (i + d + 1) ≤ f (i + d) := by
    intro d
    induction d with
    | zero => intro _; exact hi _
    | succ d ih =>
      intro hd
      exact Int.le_of_lt (drop (i + d) (by omega) (ih (by omega)))
  rcases Nat.lt_or_ge (i + 1) j with h | h
  · obtain ⟨d, rfl⟩ : ∃ d, j = i + d + 2 := ⟨j - i - 2, by omega⟩
    have h1 := drop (i + d) (by omega) (chain d (by omega))
    have h2 := hi (i + d + 1)
    omega
  · omega
/-! ### from the hardest job on -/
theorem side_cf (ns : List Int) (m : Nat) (hs : ns.Pairwise (· ≤ ·)) (h : ∀ x ∈ ns, 0 ≤ x ∧ x ≤ m) : cf (sideN ns m).reverse = cf ns := (cf_side m ns hs h).symm
theorem sideN_rev (ns : List Int) (m : Nat) : (sideN ns m).reverse = (List.range m).map fun i : Nat => (ab ns ((m : Int) - 1 - i) : Int) := by
  unfold sideN
  rw [← List.map_reverse]
  refine List.ext_getElem? fun i => ?_
  rw [List.getElem?_map, List.getElem?_map]
  by_cases h : i < m
  · rw [List.getElem?_reverse (by simpa using h), List.length_range, List.getElem?_range h, List.getElem?_range (by omega)]
    have : ((m - 1 - i : Nat) : Int) = (m : Int) - 1 - i := by omega
    show some ((ab ns ((m - 1 - i : Nat) : Int) : Nat) : Int) = some _
    rw [this]
  · rw [List.getElem?_eq_none (by simpa using h), List.getElem?_eq_none (by simpa using h)]
    rfl
end Ar

set_option Elab.async false
set_option linter.all false
/-! A11: products of x + s as lists of coefficients, the greatest power first; dividing; plain Lean. -/
namespace Ar
/-- value at x, step by step -/
def hvF (x : Int) : Int → List Int → Int
  | v, [] => v
  | v, c :: cs => hvF x (v * x + c) cs
def hv (x : Int) (a : List Int) : Int := hvF x 0 a
theorem hvF_snoc (x : Int) : ∀ (a : List Int) (v c : Int), hvF x v (a ++ [c]) = hvF x v a * x + c
  | [], v, c => rfl
  | b :: a, v, c => hvF_snoc x a (v * x + b) c
theorem hv_snoc (x : Int) (a : List Int) (c : Int) : hv x (a ++ [c]) = hv x a * x + c := hvF_snoc x a 0 c
/-- times x - z -/
def mzF (z : Int) : Int → List Int → List Int
  | p, [] => [-(z * p)]
  | p, c :: cs => (c - z * p) :: mzF z c cs
def mz (z : Int) (a : List Int) : List Int := mzF z 0 a
theorem mzF_len (z : Int) : ∀ (p : Int) (a : List Int), (mzF z p a).length = a.length + 1
  | _, [] => rfl
  | p, c :: cs => congrArg (· + 1) (mzF_len z c cs)
theorem mz_len (z : Int) (a : List Int) : (mz z a).length = a.length + 1 := mzF_len z 0 a
theorem mzF_zip (z : Int) : ∀ (a : List Int) (p : Int), (List.zip (a ++ [0]) (p :: a)).map (fun q => q.1 - z * q.2) = mzF z p a
  | [], p => by show [0 - z * p] = [-(z * p)]; rw [Int.zero_sub]
  | c :: a, p => by
    show (c - z * p) :: _ = (c - z * p) :: _
    exact congrArg _ (mzF_zip z a c)
theorem hvF_mzF (x z : Int) : ∀ (a : List Int) (u w : Int), hvF x (u - z * w) (mzF z (u - x * w) a) = (x - z) * hvF x u a
  | [], u, w => by
    show (u - z * w) * x + -(z * (u - x * w)) = (x - z) * u
    grind
  | c :: a, u, w => by
    show hvF x ((u - z * w) * x + (c - z * (u - x * w))) (mzF z c a) = (x - z) * hvF x (u * x + c) a
    have e1 : (u - z * w) * x + (c - z * (u - x * w)) = (u * x + c) - z * u := by grind
    have e2 : c = (u * x + c) - x * u := by grind
    rw [e1]
    conv => lhs; arg 3; rw [e2]
    exact hvF_mzF x z a (u * x + c) u
theorem hv_mz (x z : Int) (a : List Int) : hv x (mz z a) = (x - z) * hv x a := by
  have h := hvF_mzF x z a 0 0
  simpa [hv, mz] using h
/-- equal values everywhere, equal lists -/
theorem hv_unique : ∀ (n : Nat) (a b : List Int), a.length = n → b.length = n → (∀ N : Nat, ∃ x : Int, N < x) → ∀ K : Nat, (∀ x : Int, (K : Int) < x → hv x a = hv x b) → a = b
  | 0, a, b, ha, hb, _, _, _ => by rw [List.length_eq_zero_iff.mp ha, List.length_eq_zero_iff.mp hb]
  | n + 1, a, b, ha, hb, t, K, h => by
    rcases List.eq_nil_or_concat a with rfl | ⟨a', c, ea⟩
    · simp at ha
    rcases List.eq_nil_or_concat b with rfl | ⟨b', d, eb⟩
    · simp at hb
    rw [List.concat_eq_append] at ea eb
    subst ea eb
    have la : a'.length = n := by simpa using ha
    have lb : b'.length = n := by simpa using hb
    have key : ∀ x : Int, (K : Int) < x → (hv x a' - hv x b') * x = d - c := fun x hx => by
      have := h x hx
      rw [hv_snoc, hv_snoc] at this
      grind
    have ecd : d - c = 0 := by
      have hx := key ((K : Int) + 1 + (d - c).natAbs) (by omega)
      rcases Int.lt_trichotomy (hv ((K : Int) + 1 + (d - c).natAbs) a' - hv ((K : Int) + 1 + (d - c).natAbs) b') 0 with q | q | q
      · have := Int.mul_le_mul_of_nonneg_right (a := hv ((K : Int) + 1 + (d - c).natAbs) a' - hv ((K : Int) + 1 + (d - c).natAbs) b') (b := -1) (c := (K : Int) + 1 + (d - c).natAbs) (by omega) (by omega)
        omega
      · rw [q] at hx
        omega
      · have := Int.mul_le_mul_of_nonneg_right (a := 1) (b := hv ((K : Int) + 1 + (d - c).natAbs) a' - hv ((K : Int) + 1 + (d - c).natAbs) b') (c := (K : Int) + 1 + (d - c).natAbs) (by omega) (by omega)
        omega
    have e : a' = b' := hv_unique n a' b' la lb t K fun x hx => by
      have := key x hx
      rw [ecd] at this
      rcases Int.mul_eq_zero.mp this with q | q
      · omega
      · omega
    have : c = d := by omega
    rw [e, this]
theorem hv_eq {a b : List Int} (hl : a.length = b.length) (h : ∀ x : Int, hv x a = hv x b) : a = b :=
  hv_unique b.length a b hl rfl (fun N => ⟨(N : Int) + 1, by omega⟩) 0 fun x _ => h x
/-- the product of all x + s -/
def pp : List Int → List Int
  | [] => [1]
  | s :: ss => mz (-s) (pp ss)
def prodX (x : Int) : List Int → Int
  | [] => 1
  | s :: ss => (x + s) * prodX x ss
theorem pp_len : ∀ ss : List Int, (pp ss).length = ss.length + 1
  | [] => rfl
  | s :: ss => by
    show (mz (-s) (pp ss)).length = _
    rw [mz_len, pp_len ss]
    rfl
theorem hv_pp (x : Int) : ∀ ss : List Int, hv x (pp ss) = prodX x ss
  | [] => by show 0 * x + 1 = 1; omega
  | s :: ss => by
    show hv x (mz (-s) (pp ss)) = (x + s) * prodX x ss
    rw [hv_mz, hv_pp x ss]
    have : x - -s = x + s := by omega
    rw [this]
theorem prodX_perm {x : Int} {as bs : List Int} (h : as.Perm bs) : prodX x as = prodX x bs := by
  induction h with
  | nil => rfl
  | cons a _ ih => show (x + a) * _ = (x + a) * _; rw [ih]
  | swap a b l => show (x + b) * ((x + a) * prodX x l) = (x + a) * ((x + b) * prodX x l); grind
  | trans _ _ h1 h2 => rw [h1, h2]
theorem pp_perm {as bs : List Int} (h : as.Perm bs) : pp as = pp bs :=
  hv_eq (by rw [pp_len, pp_len, h.length_eq]) fun x => by rw [hv_pp, hv_pp, prodX_perm h]
theorem prodX_zero {x : Int} : ∀ {ss : List Int}, -x ∈ ss → prodX x ss = 0
  | s :: ss, h => by
    show (x + s) * _ = 0
    rcases List.mem_cons.mp h with e | h
    · have : x + s = 0 := by omega
      rw [this, Int.zero_mul]
    · rw [prodX_zero h, Int.mul_zero]
theorem prodX_ne {x : Int} : ∀ {ss : List Int}, -x ∉ ss → prodX x ss ≠ 0
  | [], _ => by
    show (1 : Int) ≠ 0
    decide
  | s :: ss, h => by
    show (x + s) * _ ≠ 0
    rw [List.mem_cons, not_or] at h
    exact Int.mul_ne_zero (by omega) (prodX_ne h.2)
/-- dividing by x - z, step by step: the quotient and the value -/
def dvF (z : Int) : Int → List Int → List Int
  | _, [] => []
  | v, c :: cs => (v * z + c) :: dvF z (v * z + c) cs
def dv (z : Int) (a : List Int) : List Int := dvF z 0 a
theorem dvF_len (z : Int) : ∀ (v : Int) (a : List Int), (dvF z v a).length = a.length
  | _, [] => rfl
  | v, c :: cs => congrArg (· + 1) (dvF_len z _ cs)
theorem dv_len (z : Int) (a : List Int) : (dv z a).length = a.length := dvF_len z 0 a
theorem dvF_snoc (z : Int) : ∀ (a : List Int) (v c : Int), dvF z v (a ++ [c]) = dvF z v a ++ [hvF z v (a ++ [c])]
  | [], v, c => rfl
  | b :: a, v, c => by
    show (v * z + b) :: dvF z _ (a ++ [c]) = (v * z + b) :: (dvF z _ a ++ [hvF z _ (a ++ [c])])
    rw [dvF_snoc z a]
/-- the last one is the value -/
theorem dv_last {z : Int} {a : List Int} (h : a ≠ []) : (dv z a)[a.length - 1]? = some (hv z a) := by
  rcases List.eq_nil_or_concat a with rfl | ⟨a', c, ea⟩
  · exact absurd rfl h
  · rw [List.concat_eq_append] at ea
    subst ea
    show (dvF z 0 (a' ++ [c]))[_]? = _
    rw [dvF_snoc, List.length_append, List.length_singleton, List.getElem?_append_right (by rw [dvF_len]; omega), dvF_len]
    have : a'.length + 1 - 1 - a'.length = 0 := by omega
    rw [this]
    rfl
theorem dvF_mzF (z : Int) : ∀ (a : List Int) (p : Int), dvF z p (mzF z p a) = a ++ [0]
  | [], p => by
    show [p * z + -(z * p)] = [0]
    rw [Int.mul_comm p z, Int.add_right_neg]
  | c :: a, p => by
    have e : p * z + (c - z * p) = c := by grind
    show (p * z + (c - z * p)) :: dvF z (p * z + (c - z * p)) (mzF z c a) = c :: (a ++ [0])
    rw [e, dvF_mzF z a c]
theorem dv_mz (z : Int) (a : List Int) : dv z (mz z a) = a ++ [0] := dvF_mzF z a 0
/-! the polynomial of counts -/
/-- one step: times x - z, and c more at the end -/
def stepP (z c : Int) (a : List Int) : List Int := (mz z a).dropLast ++ [(mz z a).getLastD 0 + c]
theorem addLast {a : List Int} {x c : Int} (h : a ≠ []) : hv x (a.dropLast ++ [a.getLastD 0 + c]) = hv x a + c := by
  rcases List.eq_nil_or_concat a with rfl | ⟨a', d, ea⟩
  · exact absurd rfl h
  · rw [List.concat_eq_append] at ea
    subst ea
    rw [List.dropLast_concat, List.getLastD_concat, hv_snoc, hv_snoc]
    omega
theorem hv_stepP (x z c : Int) (a : List Int) : hv x (stepP z c a) = (x - z) * hv x a + c := by
  unfold stepP
  rw [addLast (fun e => by have := mz_len z a; rw [e] at this; simp at this), hv_mz]
theorem stepP_len (z c : Int) (a : List Int) : (stepP z c a).length = a.length + 1 := by
  unfold stepP
  rw [List.length_append, List.length_dropLast, mz_len]
  rfl
/-- cs left, behind a -/
def plF : List Int → List Int → List Int
  | a, [] => a
  | a, c :: cs => plF (stepP cs.length c a) cs
def pl : List Int → List Int
  | [] => []
  | c :: cs => plF [c] cs
theorem plF_len : ∀ (cs a : List Int), (plF a cs).length = a.length + cs.length
  | [], a => rfl
  | c :: cs, a => by
    show (plF (stepP cs.length c a) cs).length = _
    rw [plF_len cs, stepP_len, List.length_cons]
    omega
theorem hv_plF (x : Int) : ∀ (cs a : List Int), hv x (plF a cs) = hv x a * ff x cs.length + ev x cs
  | [], a => by show hv x a = hv x a * 1 + 0; omega
  | c :: cs, a => by
    show hv x (plF (stepP cs.length c a) cs) = hv x a * (ff x cs.length * (x - cs.length)) + (c * ff x cs.length + ev x cs)
    rw [hv_plF x cs, hv_stepP]
    grind
theorem hv_pl (x : Int) : ∀ cs : List Int, cs ≠ [] → hv x (pl cs) = ev x cs
  | [], h => absurd rfl h
  | c :: cs, _ => by
    show hv x (plF [c] cs) = c * ff x cs.length + ev x cs
    rw [hv_plF]
    show (0 * x + c) * _ + _ = _
    rw [Int.zero_mul, Int.zero_add]
theorem pl_len : ∀ cs : List Int, (pl cs).length = cs.length
  | [] => rfl
  | c :: cs => by
    show (plF [c] cs).length = _
    rw [plF_len, List.length_cons]
    simp
    omega
/-- the levels less their places -/
def lessP : Nat → List Int → List Int
  | _, [] => []
  | k, b :: bs => (b - k) :: lessP (k + 1) bs
theorem lessP_len : ∀ (k : Nat) (bs : List Int), (lessP k bs).length = bs.length
  | _, [] => rfl
  | k, b :: bs => congrArg (· + 1) (lessP_len (k + 1) bs)
theorem prodS_X (x : Int) : ∀ (bs : List Int) (k : Nat), prodS x k bs = prodX x (lessP k bs)
  | [], _ => rfl
  | b :: bs, k => by
    show (x + b - k) * prodS x (k + 1) bs = (x + (b - k)) * prodX x (lessP (k + 1) bs)
    rw [prodS_X x bs (k + 1)]
    have : x + b - (k : Int) = x + (b - k) := by omega
    rw [this]
/-- the polynomial of a team's counts is the product of x + spare numbers -/
theorem pl_along (ns : List Int) : pl (along ns) = pp (lessP 0 ns) := by
  refine hv_eq (by rw [pl_len, along_length, pp_len, lessP_len]) fun x => ?_
  rw [hv_pl x _ (fun e => by have := along_length ns; rw [e] at this; simp at this), ev_along, hv_pp, prodS_X]
end Ar

set_option Elab.async false
set_option linter.all false
/-! A12: dividing with a rest, zeros one by one, differences; plain Lean. -/
namespace Ar
theorem dv_snoc (z : Int) (a : List Int) (c : Int) : dv z (a ++ [c]) = dv z a ++ [hv z (a ++ [c])] := dvF_snoc z a 0 c
theorem dv_shift (x z : Int) : ∀ a : List Int, (x - z) * hv x (dv z a) = x * hv x a - z * hv z a := by
  refine rev_ind (P := fun a => (x - z) * hv x (dv z a) = x * hv x a - z * hv z a) ?_ ?_
  · show (x - z) * 0 = x * 0 - z * 0
    simp
  · intro a c ih
    rw [dv_snoc, hv_snoc, hv_snoc, hv_snoc]
    grind
/-- the rest is the value -/
theorem dv_rest (x z : Int) {a : List Int} (h : a ≠ []) : hv x a = (x - z) * hv x (dv z a).dropLast + hv z a := by
  rcases List.eq_nil_or_concat a with rfl | ⟨b, c, e⟩
  · exact absurd rfl h
  · rw [List.concat_eq_append] at e
    subst e
    rw [dv_snoc, List.dropLast_concat, hv_snoc, dv_shift, hv_snoc]
    grind
theorem dv_back {z : Int} {a : List Int} (h : a ≠ []) (hz : hv z a = 0) : mz z (dv z a).dropLast = a := by
  refine hv_eq ?_ fun x => ?_
  · have : 0 < a.length := List.length_pos_iff.mpr h
    rw [mz_len, List.length_dropLast, dv_len]
    omega
  · rw [hv_mz, dv_rest x z h, hz]
    omega
/-- the product of all x + s, and e more -/
def ppE (e : List Int) : List Int → List Int
  | [] => e
  | s :: ss => mz (-s) (ppE e ss)
theorem ppE_one : ∀ ss : List Int, ppE [1] ss = pp ss
  | [] => rfl
  | s :: ss => congrArg (mz (-s)) (ppE_one ss)
theorem ppE_len (e : List Int) : ∀ ss : List Int, (ppE e ss).length = ss.length + e.length
  | [] => by show e.length = 0 + e.length; omega
  | s :: ss => by
    show (mz (-s) (ppE e ss)).length = _
    rw [mz_len, ppE_len e ss, List.length_cons]
    omega
theorem hv_ppE (x : Int) (e : List Int) : ∀ ss : List Int, hv x (ppE e ss) = prodX x ss * hv x e
  | [] => by show hv x e = 1 * hv x e; omega
  | s :: ss => by
    show hv x (mz (-s) (ppE e ss)) = (x + s) * prodX x ss * hv x e
    rw [hv_mz, hv_ppE x e ss, show x - -s = x + s by omega, Int.mul_assoc]
theorem ppE_perm {e as bs : List Int} (h : as.Perm bs) : ppE e as = ppE e bs :=
  hv_eq (by rw [ppE_len, ppE_len, h.length_eq]) fun x => by rw [hv_ppE, hv_ppE, prodX_perm h]
/-! zeros, one after the other -/
/-- how often z is a zero, and what is left -/
def lw (z : Int) : Nat → List Int → Nat × List Int
  | 0, a => (0, a)
  | k + 1, a => if 1 < a.length ∧ hv z a = 0 then ((lw z k (dv z a).dropLast).1 + 1, (lw z k (dv z a).dropLast).2) else (0, a)
theorem lw_len (z : Int) : ∀ (k : Nat) (a : List Int), (lw z k a).1 + (lw z k a).2.length = a.length ∧ (1 ≤ a.length → 1 ≤ (lw z k a).2.length)
  | 0, a => ⟨by show 0 + a.length = _; omega, fun h => h⟩
  | k + 1, a => by
    unfold lw
    by_cases h : 1 < a.length ∧ hv z a = 0
    · rw [if_pos h]
      have ih := lw_len z k (dv z a).dropLast
      rw [List.length_dropLast, dv_len] at ih
      have ih2 : 1 ≤ (lw z k (dv z a).dropLast).2.length := ih.2 (by omega)
      exact ⟨by show (lw z k (dv z a).dropLast).1 + 1 + (lw z k (dv z a).dropLast).2.length = a.length; omega, fun _ => ih2⟩
    · rw [if_neg h]
      exact ⟨by show 0 + a.length = _; omega, fun h => h⟩
/-- the i-th step -/
def lwA (z : Int) : Nat → List Int → List Int
  | 0, a => a
  | i + 1, a => lwA z i (dv z a).dropLast
theorem lw_steps (z : Int) : ∀ (k : Nat) (a : List Int), a.length ≤ k + 1 → lwA z (lw z k a).1 a = (lw z k a).2 ∧ (∀ i, i < (lw z k a).1 → 1 < (lwA z i a).length ∧ hv z (lwA z i a) = 0) ∧ ¬ (1 < (lw z k a).2.length ∧ hv z (lw z k a).2 = 0)
  | 0, a, h => ⟨rfl, fun i hi => absurd hi (Nat.not_lt_zero i), fun q => by have q1 : 1 < a.length := q.1; omega⟩
  | k + 1, a, h => by
    unfold lw
    by_cases hc : 1 < a.length ∧ hv z a = 0
    · rw [if_pos hc]
      obtain ⟨i1, i2, i3⟩ := lw_steps z k (dv z a).dropLast (by rw [List.length_dropLast, dv_len]; omega)
      refine ⟨i1, fun i hi => ?_, i3⟩
      cases i with
      | zero => exact hc
      | succ i => exact i2 i (by simp only at hi; omega)
    · rw [if_neg hc]
      exact ⟨rfl, fun i hi => absurd hi (Nat.not_lt_zero i), hc⟩
theorem lwA_len (z : Int) : ∀ (i : Nat) (a : List Int), (lwA z i a).length = a.length - i
  | 0, a => rfl
  | i + 1, a => by
    show (lwA z i (dv z a).dropLast).length = _
    rw [lwA_len z i, List.length_dropLast, dv_len]
    omega
theorem lwA_succ (z : Int) : ∀ (i : Nat) (a : List Int), lwA z (i + 1) a = (dv z (lwA z i a)).dropLast
  | 0, a => rfl
  | i + 1, a => lwA_succ z i (dv z a).dropLast
/-- the first coefficient stays -/
theorem dv_head (z : Int) {a : List Int} (h : 1 < a.length) : ((dv z a).dropLast).headD 0 = a.headD 0 := by
  match a, h with
  | c :: d :: r, _ =>
    show (((0 : Int) * z + c) :: (dvF z (0 * z + c) (d :: r)).dropLast).headD 0 = c
    show (0 : Int) * z + c = c
    omega
theorem lwA_head (z : Int) : ∀ (i : Nat) (a : List Int), i < a.length → (lwA z i a).headD 0 = a.headD 0
  | 0, a, _ => rfl
  | i + 1, a, h => by
    show (lwA z i (dv z a).dropLast).headD 0 = _
    rw [lwA_head z i _ (by rw [List.length_dropLast, dv_len]; omega), dv_head z (by omega)]
/-- all z of a list, in their order: what is left, the zeros found -/
def zs (a found : List Int) : List Int → List Int × List Int
  | [] => (a, found)
  | z :: Z => zs (lw z a.length a).2 (found ++ List.replicate (lw z a.length a).1 z) Z
/-! differences -/
theorem ff_up (x : Int) : ∀ n : Nat, ff (x + 1) (n + 1) = (x + 1) * ff x n
  | 0 => by show 1 * (x + 1 - 0) = (x + 1) * 1; omega
  | n + 1 => by
    show ff (x + 1) (n + 1) * (x + 1 - ((n + 1 : Nat) : Int)) = (x + 1) * (ff x n * (x - n))
    rw [ff_up x n]
    have : ((n + 1 : Nat) : Int) = n + 1 := by omega
    rw [this]
    grind
theorem ff_dif (x : Int) (n : Nat) : ff (x + 1) (n + 1) - ff x (n + 1) = ((n + 1 : Nat) : Int) * ff x n := by
  rw [ff_up]
  show (x + 1) * ff x n - ff x n * (x - n) = _
  have : ((n + 1 : Nat) : Int) = n + 1 := by omega
  rw [this]
  grind
def drv : List Int → List Int
  | [] => []
  | [_] => []
  | c :: d :: cs => (c * ((d :: cs).length : Int)) :: drv (d :: cs)
theorem drv_len : ∀ cs : List Int, (drv cs).length = cs.length - 1
  | [] => rfl
  | [_] => rfl
  | c :: d :: cs => by
    show (drv (d :: cs)).length + 1 = _
    rw [drv_len (d :: cs)]
    simp
theorem ev_drv (x : Int) : ∀ cs : List Int, ev (x + 1) cs - ev x cs = ev x (drv cs)
  | [] => rfl
  | [c] => by simp [ev, drv, ff]
  | c :: d :: cs => by
    have ih := ev_drv x (d :: cs)
    have h := ff_dif x cs.length
    show (c * ff (x + 1) (d :: cs).length + ev (x + 1) (d :: cs)) - (c * ff x (d :: cs).length + ev x (d :: cs)) = (c * ((d :: cs).length : Int)) * ff x (drv (d :: cs)).length + ev x (drv (d :: cs))
    rw [drv_len]
    show (c * ff (x + 1) (cs.length + 1) + ev (x + 1) (d :: cs)) - (c * ff x (cs.length + 1) + ev x (d :: cs)) = (c * ((cs.length + 1 : Nat) : Int)) * ff x (cs.length + 1 - 1) + ev x (drv (d :: cs))
    rw [Nat.add_sub_cancel, ← ih]
    grind
theorem drv_get : ∀ (cs : List Int) (i : Nat), i + 1 < cs.length → (drv cs)[i]? = (cs[i]?).map fun c => c * ((cs.length - 1 - i : Nat) : Int)
  | [], i, h => by simp at h
  | [_], i, h => by simp at h
  | c :: d :: cs, 0, h => by
    show some _ = some _
    simp
  | c :: d :: cs, i + 1, h => by
    show (drv (d :: cs))[i]? = ((d :: cs)[i]?).map _
    rw [drv_get (d :: cs) i (by simpa using h)]
    have : (c :: d :: cs).length - 1 - (i + 1) = (d :: cs).length - 1 - i := by simp <;> omega
    rw [this]
def drvN : Nat → List Int → List Int
  | 0, cs => cs
  | k + 1, cs => drv (drvN k cs)
theorem drvN_len (cs : List Int) : ∀ k : Nat, (drvN k cs).length = cs.length - k
  | 0 => rfl
  | k + 1 => by
    show (drv (drvN k cs)).length = _
    rw [drv_len, drvN_len cs k]
    omega
theorem drvN_get (cs : List Int) : ∀ (k i : Nat), i + k < cs.length → (drvN k cs)[i]? = (cs[i]?).map fun c => c * ff ((cs.length - 1 - i : Nat) : Int) k
  | 0, i, h => by
    show cs[i]? = _
    rw [List.getElem?_eq_getElem (by omega)]
    show some _ = some (_ * 1)
    rw [Int.mul_one]
  | k + 1, i, h => by
    show (drv (drvN k cs))[i]? = _
    rw [drv_get _ i (by rw [drvN_len]; omega), drvN_get cs k i (by omega), drvN_len, List.getElem?_eq_getElem (by omega)]
    show some (cs[i] * ff ((cs.length - 1 - i : Nat) : Int) k * ((cs.length - k - 1 - i : Nat) : Int)) = some (cs[i] * (ff ((cs.length - 1 - i : Nat) : Int) k * (((cs.length - 1 - i : Nat) : Int) - k)))
    have : ((cs.length - k - 1 - i : Nat) : Int) = ((cs.length - 1 - i : Nat) : Int) - k := by omega
    rw [this, Int.mul_assoc]
theorem ev_at0 : ∀ cs : List Int, cs ≠ [] → some (ev 0 cs) = cs[cs.length - 1]?
  | [], h => absurd rfl h
  | [c], _ => by simp [ev, ff]
  | c :: d :: cs, _ => by
    have ih := ev_at0 (d :: cs) (by simp)
    have z : ff 0 (cs.length + 1) = 0 := ff_zero (cs.length + 1) 0 (by omega)
    show some (c * ff 0 (cs.length + 1) + ev 0 (d :: cs)) = _
    rw [z, Int.mul_zero, Int.zero_add, ih]
    show (d :: cs)[(d :: cs).length - 1]? = (c :: d :: cs)[cs.length + 1]?
    rw [List.getElem?_cons_succ]
    simp
/-- the k-th difference at 0 -/
theorem ev_drvN {cs : List Int} {k : Nat} (h : k < cs.length) : ∃ c, cs[cs.length - 1 - k]? = some c ∧ ev 0 (drvN k cs) = c * ff (k : Int) k := by
  have hne : drvN k cs ≠ [] := fun e => by
    have := drvN_len cs k
    rw [e] at this
    simp at this
    omega
  have h1 := ev_at0 _ hne
  rw [drvN_len, drvN_get cs k _ (by omega), List.getElem?_eq_getElem (by omega)] at h1
  refine ⟨cs[cs.length - k - 1], ?_, ?_⟩
  · rw [show cs.length - 1 - k = cs.length - k - 1 by omega, List.getElem?_eq_getElem (by omega)]
  · have h2 : ev 0 (drvN k cs) = cs[cs.length - k - 1] * ff ((cs.length - 1 - (cs.length - k - 1) : Nat) : Int) k := Option.some.inj h1
    rw [h2, show cs.length - 1 - (cs.length - k - 1) = k by omega]
theorem fac_pos : ∀ k : Nat, 0 < ff (k : Int) k := fun k => ff_pos k k (Nat.le_refl _)
theorem fac_succ (k : Nat) : ff ((k + 1 : Nat) : Int) (k + 1) = ff (k : Int) k * ((k : Int) + 1) := by
  have := ff_up (k : Int) k
  have e : ((k + 1 : Nat) : Int) = (k : Int) + 1 := by omega
  rw [e, this, Int.mul_comm]
/-! products, the least power first -/
def avF (x : Int) : List Int → Int
  | [] => 0
  | c :: cs => c + x * avF x cs
theorem avF_rev (x : Int) : ∀ a : List Int, avF x a = hv x a.reverse
  | [] => rfl
  | c :: a => by
    rw [List.reverse_cons, hv_snoc, ← avF_rev x a]
    show c + x * avF x a = _
    grind
/-- a list of counts with the values of x + s times .. -/
theorem ev_times {cs : List Int} (s x : Int) : ev x (nx (s + ((cs.length : Int) - 1)) cs) = (x + s) * ev x cs := by
  rw [ev_nx]
  have : x + (s + ((cs.length : Int) - 1)) - ((cs.length : Int) - 1) = x + s := by omega
  rw [this]
theorem ev_zero (x : Int) (cs : List Int) : ev x (0 :: cs) = ev x cs := by show 0 * _ + ev x cs = _; omega
/-- .. and of x² + b x + c times -/
theorem ev_square (b c : Int) {cs : List Int} : ∃ ds : List Int, ds.length = cs.length + 2 ∧ ∀ x, ev x ds = (x * x + b * x + c) * ev x cs := by
  have l1 := nx_length (0 + ((cs.length : Int) - 1)) cs
  have l2 := nx_length (0 + (((nx (0 + ((cs.length : Int) - 1)) cs).length : Int) - 1)) (nx (0 + ((cs.length : Int) - 1)) cs)
  obtain ⟨a, ha⟩ : ∃ a, a = nx (0 + ((cs.length : Int) - 1)) cs := ⟨_, rfl⟩
  obtain ⟨d, hd⟩ : ∃ d, d = nx (0 + ((a.length : Int) - 1)) a := ⟨_, rfl⟩
  rw [← ha] at l1 l2
  rw [← hd] at l2
  have e1 : ∀ x, ev x a = x * ev x cs := fun x => by rw [ha, ev_times, Int.add_zero]
  have e2 : ∀ x, ev x d = x * (x * ev x cs) := fun x => by rw [hd, ev_times, Int.add_zero, e1]
  have s1 : (0 :: scl b a).length = d.length := by unfold scl; rw [List.length_cons, List.length_map]; omega
  have s2 : (0 :: 0 :: scl c cs).length = (zadd d (0 :: scl b a)).length := by rw [zadd_length _ _ s1.symm]; unfold scl; rw [List.length_cons, List.length_cons, List.length_map]; omega
  refine ⟨zadd (zadd d (0 :: scl b a)) (0 :: 0 :: scl c cs), ?_, fun x => ?_⟩
  · rw [zadd_length _ _ s2.symm, zadd_length _ _ s1.symm]
    omega
  · rw [ev_zadd x _ _ s2.symm, ev_zadd x _ _ s1.symm, ev_zero, ev_zero, ev_zero, ev_scl, ev_scl, e1, e2]
    grind
theorem prodX_app (x : Int) : ∀ as bs : List Int, prodX x (as ++ bs) = prodX x as * prodX x bs
  | [], bs => by show prodX x bs = 1 * prodX x bs; omega
  | a :: as, bs => by show (x + a) * prodX x (as ++ bs) = (x + a) * prodX x as * prodX x bs; rw [prodX_app x as bs, Int.mul_assoc]
/-- counts of a product -/
theorem ev_prod : ∀ ss : List Int, ∃ cs : List Int, cs.length = ss.length + 1 ∧ ∀ x, ev x cs = prodX x ss
  | [] => ⟨[1], rfl, fun x => by show 1 * 1 + 0 = 1; rfl⟩
  | s :: ss => by
    obtain ⟨cs, h1, h2⟩ := ev_prod ss
    refine ⟨nx (s + ((cs.length : Int) - 1)) cs, by rw [nx_length, h1]; rfl, fun x => ?_⟩
    rw [ev_times, h2]
    rfl
end Ar

set_option Elab.async false
set_option linter.all false
/-! A13: full lists of jobs by their hits; plain Lean. -/
namespace Ar
/-- f lo + f (lo + 1) + .. , n of them -/
def sm (f : Int → Int) (lo : Int) : Nat → Int
  | 0 => 0
  | n + 1 => sm f lo n + f (lo + n)
theorem sm_split (f : Int → Int) (lo : Int) (a : Nat) : ∀ b : Nat, sm f lo (a + b) = sm f lo a + sm f (lo + a) b
  | 0 => by show sm f lo a = sm f lo a + 0; omega
  | b + 1 => by
    show sm f lo (a + b) + f (lo + ((a + b : Nat) : Int)) = sm f lo a + (sm f (lo + a) b + f (lo + a + b))
    rw [sm_split f lo a b, show lo + ((a + b : Nat) : Int) = lo + a + b by omega]
    omega
theorem sm_congr {f g : Int → Int} {lo : Int} : ∀ {n : Nat}, (∀ j : Int, lo ≤ j → j < lo + n → f j = g j) → sm f lo n = sm g lo n
  | 0, _ => rfl
  | n + 1, h => by
    show sm f lo n + f (lo + n) = sm g lo n + g (lo + n)
    rw [sm_congr (n := n) fun j h1 h2 => h j h1 (by omega), h (lo + n) (by omega) (by omega)]
theorem sm_const (c lo : Int) : ∀ n : Nat, sm (fun _ => c) lo n = n * c
  | 0 => by show (0 : Int) = ((0 : Nat) : Int) * c; simp
  | n + 1 => by
    show sm (fun _ => c) lo n + c = ((n + 1 : Nat) : Int) * c
    rw [sm_const c lo n]
    have : ((n + 1 : Nat) : Int) = n + 1 := by omega
    rw [this]
    grind
theorem sm_mul (c : Int) (f : Int → Int) (lo : Int) : ∀ n : Nat, sm (fun j => c * f j) lo n = c * sm f lo n
  | 0 => by show (0 : Int) = c * 0; omega
  | n + 1 => by
    show sm (fun j => c * f j) lo n + c * f (lo + n) = c * (sm f lo n + f (lo + n))
    rw [sm_mul c f lo n]
    grind
theorem sm_nn {f : Int → Int} {lo : Int} : ∀ {n : Nat}, (∀ j : Int, lo ≤ j → j < lo + n → 0 ≤ f j) → 0 ≤ sm f lo n
  | 0, _ => Int.le_refl 0
  | n + 1, h => by
    have h1 := sm_nn (n := n) fun j h1 h2 => h j h1 (by omega)
    have h2 := h (lo + n) (by omega) (by omega)
    show 0 ≤ sm f lo n + f (lo + n)
    omega
/-- a level behind job j -/
def dj (j b : Int) : Int := if j < b then b - 1 else b
theorem dj_map_gt {j : Int} (x : Int) : ∀ (bs : List Int) (k : Nat), (∀ b ∈ bs, j < b) → prodS x k (bs.map (dj j)) = prodS (x - 1) k bs
  | [], _, _ => rfl
  | b :: bs, k, h => by
    have hb := h b List.mem_cons_self
    show (x + dj j b - k) * prodS x (k + 1) (bs.map (dj j)) = (x - 1 + b - k) * prodS (x - 1) (k + 1) bs
    rw [dj_map_gt x bs (k + 1) fun c hc => h c (List.mem_cons_of_mem _ hc)]
    unfold dj
    rw [if_pos hb, show x + (b - 1) - (k : Int) = x - 1 + b - k by omega]
theorem prodS_shift (x : Int) : ∀ (bs : List Int) (k : Nat), prodS x (k + 1) bs = prodS (x - 1) k bs
  | [], _ => rfl
  | b :: bs, k => by
    show (x + b - ((k + 1 : Nat) : Int)) * prodS x (k + 1 + 1) bs = (x - 1 + b - k) * prodS (x - 1) (k + 1) bs
    rw [prodS_shift x bs (k + 1), show x + b - ((k + 1 : Nat) : Int) = x - 1 + b - k by omega]
theorem sum_dj (x : Int) : ∀ (bs : List Int) (k n : Nat) (lo : Int), bs.Pairwise (· ≤ ·) → (∀ b ∈ bs, lo ≤ b ∧ b ≤ lo + n) →
    sm (fun j => prodS x k (bs.map (dj j))) lo n = (lo + n + x - k - bs.length) * prodS x k bs - (lo + x - k) * prodS (x - 1) k bs
  | [], k, n, lo, _, _ => by
    show sm (fun _ => 1) lo n = (lo + n + x - k - ((0 : Nat) : Int)) * 1 - (lo + x - k) * 1
    rw [sm_const]
    omega
  | b :: bs, k, n, lo, hs, h => by
    rw [List.pairwise_cons] at hs
    have hb := h b List.mem_cons_self
    obtain ⟨a, ha⟩ : ∃ a : Nat, (a : Int) = b - lo := ⟨(b - lo).toNat, by omega⟩
    obtain ⟨m, hm⟩ : ∃ m : Nat, n = a + m := ⟨n - a, by omega⟩
    subst hm
    have hab : lo + (a : Int) = b := by omega
    rw [sm_split, hab]
    have e1 : sm (fun j => prodS x k ((b :: bs).map (dj j))) lo a = a * prodS (x - 1) k (b :: bs) := by
      rw [← sm_const _ lo]
      refine sm_congr fun j h1 h2 => dj_map_gt x _ k fun c hc => ?_
      rcases List.mem_cons.mp hc with e | hc
      · omega
      · have := hs.1 c hc
        omega
    have e2 : sm (fun j => prodS x k ((b :: bs).map (dj j))) b m = (x + b - k) * sm (fun j => prodS x (k + 1) (bs.map (dj j))) b m := by
      rw [← sm_mul]
      refine sm_congr fun j h1 h2 => ?_
      show (x + dj j b - k) * prodS x (k + 1) (bs.map (dj j)) = _
      have : dj j b = b := by unfold dj; rw [if_neg (by omega)]
      rw [this]
    rw [e1, e2, sum_dj x bs (k + 1) m b hs.2 fun c hc => ⟨hs.1 c hc, by have := (h c (List.mem_cons_of_mem _ hc)).2; omega⟩]
    show (a : Int) * ((x - 1 + b - k) * prodS (x - 1) (k + 1) bs) + (x + b - k) * ((b + m + x - ((k + 1 : Nat) : Int) - bs.length) * prodS x (k + 1) bs - (b + x - ((k + 1 : Nat) : Int)) * prodS (x - 1) (k + 1) bs) = (lo + ((a + m : Nat) : Int) + x - k - ((bs.length + 1 : Nat) : Int)) * ((x + b - k) * prodS x (k + 1) bs) - (lo + x - k) * ((x - 1 + b - k) * prodS (x - 1) (k + 1) bs)
    generalize prodS x (k + 1) bs = P
    generalize prodS (x - 1) (k + 1) bs = Q
    have c1 : ((k + 1 : Nat) : Int) = (k : Int) + 1 := by omega
    have c2 : ((a + m : Nat) : Int) = (a : Int) + m := by omega
    have c3 : ((bs.length + 1 : Nat) : Int) = (bs.length : Int) + 1 := by omega
    have c4 : b = lo + a := by omega
    rw [c1, c2, c3, c4]
    grind
/-- over all jobs -/
theorem sum_all {r : List Int} {n : Nat} (x : Int) (hs : r.Pairwise (· ≤ ·)) (h : ∀ b ∈ r, 0 ≤ b ∧ b ≤ n) (hn : n = r.length + 1) : sm (fun j => ev x (along (r.map (dj j)))) 0 n = (x + 1) * ev x (along r) - x * ev (x - 1) (along r) := by
  have e : sm (fun j => ev x (along (r.map (dj j)))) 0 n = sm (fun j => prodS x 0 (r.map (dj j))) 0 n := sm_congr fun j _ _ => ev_along x _
  rw [e, sum_dj x r 0 n 0 hs fun b hb => by have := h b hb; omega, ev_along, ev_along]
  subst hn
  have : (0 : Int) + ((r.length + 1 : Nat) : Int) + x - ((0 : Nat) : Int) - r.length = x + 1 := by omega
  rw [this, show (0 : Int) + x - ((0 : Nat) : Int) = x by omega]
/-- over a worker's jobs -/
theorem sum_own {r b1 b2 : List Int} {l : Int} {n : Nat} (x : Int) (hl : l = n) (hr : r = b1 ++ b2) (hs : r.Pairwise (· ≤ ·)) (h0 : ∀ b ∈ r, 0 ≤ b) (h1 : ∀ b ∈ b1, b ≤ l) (h2 : ∀ b ∈ b2, l ≤ b) : sm (fun j => ev x (along (r.map (dj j)))) 0 n = ev x (along (b1 ++ l :: b2)) - x * ev (x - 1) (along r) := by
  subst hr
  rw [List.pairwise_append] at hs
  have e : sm (fun j => ev x (along ((b1 ++ b2).map (dj j)))) 0 n = prodS (x - 1) b1.length b2 * sm (fun j => prodS x 0 (b1.map (dj j))) 0 n := by
    rw [← sm_mul]
    refine sm_congr fun j _ hj => ?_
    rw [ev_along, List.map_append, prodS_app, List.length_map, Nat.zero_add, dj_map_gt x b2 b1.length fun b hb => by have := h2 b hb; omega, Int.mul_comm]
  rw [e, sum_dj x b1 0 n 0 hs.1 fun b hb => ⟨h0 b (List.mem_append_left _ hb), by have := h1 b hb; omega⟩, ev_along, ev_along, prodS_app, prodS_app, Nat.zero_add]
  show _ = prodS x 0 b1 * ((x + l - b1.length) * prodS x (b1.length + 1) b2) - _
  rw [prodS_shift]
  generalize prodS (x - 1) b1.length b2 = Q
  generalize prodS x 0 b1 = A
  generalize prodS (x - 1) 0 b1 = B
  subst hl
  have c0 : ((0 : Nat) : Int) = 0 := rfl
  rw [c0]
  grind
/-! factorials -/
def fc : Nat → Int
  | 0 => 1
  | n + 1 => fc n * (n + 1)
theorem fc_pos : ∀ n : Nat, 0 < fc n
  | 0 => by decide
  | n + 1 => by
    show 0 < fc n * ((n : Int) + 1)
    exact Int.mul_pos (fc_pos n) (by omega)
/-- what counts make of y: for each size, the ways, the lists of the others, (y - 1) to the size -/
def hval (y : Int) : List Int → Int
  | [] => 0
  | c :: cs => c * fc cs.length + (y - 1) * hval y cs
theorem hval_zadd (y : Int) : ∀ as bs : List Int, as.length = bs.length → hval y (zadd as bs) = hval y as + hval y bs
  | [], [], _ => rfl
  | [], _ :: _, h => by simp at h
  | _ :: _, [], h => by simp at h
  | a :: as, b :: bs, h => by
    have h' : as.length = bs.length := by simpa using h
    show (a + b) * fc (zadd as bs).length + (y - 1) * hval y (zadd as bs) = (a * fc as.length + (y - 1) * hval y as) + (b * fc bs.length + (y - 1) * hval y bs)
    rw [zadd_length as bs h', hval_zadd y as bs h', h']
    grind
/-- each count times the number of those left -/
def wt : List Int → List Int
  | [] => []
  | c :: cs => (c * ((cs.length : Int) + 1)) :: wt cs
theorem wt_len : ∀ cs : List Int, (wt cs).length = cs.length
  | [] => rfl
  | c :: cs => congrArg (· + 1) (wt_len cs)
theorem ff_down (x : Int) (n : Nat) : x * ff (x - 1) n = ff x (n + 1) := by
  have := ff_up (x - 1) n
  rw [show x - 1 + 1 = x by omega] at this
  exact this.symm
theorem ev_wt (x : Int) : ∀ cs : List Int, ev x (wt cs) = (x + 1) * ev x cs - x * ev (x - 1) cs
  | [] => by show (0 : Int) = (x + 1) * 0 - x * 0; omega
  | c :: cs => by
    show (c * ((cs.length : Int) + 1)) * ff x (wt cs).length + ev x (wt cs) = (x + 1) * (c * ff x cs.length + ev x cs) - x * (c * ff (x - 1) cs.length + ev (x - 1) cs)
    have h := ff_down x cs.length
    have h2 : ff x (cs.length + 1) = ff x cs.length * (x - cs.length) := rfl
    rw [wt_len, ev_wt x cs]
    have h3 : x * (c * ff (x - 1) cs.length) = c * (ff x cs.length * (x - cs.length)) := by rw [← h2, ← h]; grind
    grind
theorem ev_pad (x : Int) : ∀ cs : List Int, ev x (cs ++ [0]) = x * ev (x - 1) cs
  | [] => by show (0 : Int) * 1 + 0 = x * 0; omega
  | c :: cs => by
    show c * ff x (cs ++ [0]).length + ev x (cs ++ [0]) = x * (c * ff (x - 1) cs.length + ev (x - 1) cs)
    rw [ev_pad x cs, List.length_append, List.length_singleton, ← ff_down]
    grind
theorem hval_wt (y : Int) : ∀ cs : List Int, hval y (wt cs) = hval y (cs ++ [0])
  | [] => by show (0 : Int) = 0 * 1 + (y - 1) * 0; omega
  | c :: cs => by
    show (c * ((cs.length : Int) + 1)) * fc (wt cs).length + (y - 1) * hval y (wt cs) = c * fc (cs ++ [0]).length + (y - 1) * hval y (cs ++ [0])
    rw [hval_wt y cs, wt_len, List.length_append, List.length_singleton]
    show _ = c * (fc cs.length * ((cs.length : Int) + 1)) + _
    grind
/-- sums of lists -/
def zl (T : Int → List Int) (len : Nat) : Nat → List Int
  | 0 => List.replicate len 0
  | n + 1 => zadd (zl T len n) (T n)
theorem zl_len {T : Int → List Int} {len : Nat} : ∀ {n : Nat}, (∀ j : Int, 0 ≤ j → j < n → (T j).length = len) → (zl T len n).length = len
  | 0, _ => List.length_replicate
  | n + 1, h => by
    have ih := zl_len (n := n) fun j h1 h2 => h j h1 (by omega)
    show (zadd (zl T len n) (T n)).length = len
    rw [zadd_length _ _ (by rw [ih, h n (by omega) (by omega)]), ih]
theorem ev_zeros (x : Int) : ∀ n : Nat, ev x (List.replicate n 0) = 0
  | 0 => rfl
  | n + 1 => by
    rw [List.replicate_succ]
    show 0 * _ + ev x (List.replicate n 0) = 0
    rw [ev_zeros x n]
    omega
theorem hval_zeros (y : Int) : ∀ n : Nat, hval y (List.replicate n 0) = 0
  | 0 => rfl
  | n + 1 => by
    rw [List.replicate_succ]
    show 0 * _ + (y - 1) * hval y (List.replicate n 0) = 0
    rw [hval_zeros y n, Int.zero_mul, Int.mul_zero]
    rfl
theorem ev_zl (x : Int) {T : Int → List Int} {len : Nat} : ∀ {n : Nat}, (∀ j : Int, 0 ≤ j → j < n → (T j).length = len) → ev x (zl T len n) = sm (fun j => ev x (T j)) 0 n
  | 0, _ => ev_zeros x len
  | n + 1, h => by
    have hl := zl_len (n := n) fun j h1 h2 => h j h1 (by omega)
    have ih := ev_zl x (n := n) fun j h1 h2 => h j h1 (by omega)
    show ev x (zadd (zl T len n) (T n)) = sm (fun j => ev x (T j)) 0 n + ev x (T (0 + n))
    rw [ev_zadd x _ _ (by rw [hl, h n (by omega) (by omega)]), ih, Int.zero_add]
theorem hval_zl (y : Int) {T : Int → List Int} {len : Nat} : ∀ {n : Nat}, (∀ j : Int, 0 ≤ j → j < n → (T j).length = len) → hval y (zl T len n) = sm (fun j => hval y (T j)) 0 n
  | 0, _ => hval_zeros y len
  | n + 1, h => by
    have hl := zl_len (n := n) fun j h1 h2 => h j h1 (by omega)
    have ih := hval_zl y (n := n) fun j h1 h2 => h j h1 (by omega)
    show hval y (zadd (zl T len n) (T n)) = sm (fun j => hval y (T j)) 0 n + hval y (T (0 + n))
    rw [hval_zadd y _ _ (by rw [hl, h n (by omega) (by omega)]), ih, Int.zero_add]
theorem avF_zadd (x : Int) : ∀ as bs : List Int, as.length = bs.length → avF x (zadd as bs) = avF x as + avF x bs
  | [], [], _ => rfl
  | [], _ :: _, h => by simp at h
  | _ :: _, [], h => by simp at h
  | a :: as, b :: bs, h => by
    show (a + b) + x * avF x (zadd as bs) = (a + x * avF x as) + (b + x * avF x bs)
    rw [avF_zadd x as bs (by simpa using h)]
    grind
theorem avF_zeros (x : Int) : ∀ n : Nat, avF x (List.replicate n 0) = 0
  | 0 => rfl
  | n + 1 => by
    rw [List.replicate_succ]
    show 0 + x * avF x (List.replicate n 0) = 0
    rw [avF_zeros x n]
    omega
theorem avF_zl (x : Int) {T : Int → List Int} {len : Nat} : ∀ {n : Nat}, (∀ j : Int, 0 ≤ j → j < n → (T j).length = len) → avF x (zl T len n) = sm (fun j => avF x (T j)) 0 n
  | 0, _ => avF_zeros x len
  | n + 1, h => by
    have hl := zl_len (n := n) fun j h1 h2 => h j h1 (by omega)
    have ih := avF_zl x (n := n) fun j h1 h2 => h j h1 (by omega)
    show avF x (zadd (zl T len n) (T n)) = sm (fun j => avF x (T j)) 0 n + avF x (T (0 + n))
    rw [avF_zadd x _ _ (by rw [hl, h n (by omega) (by omega)]), ih, Int.zero_add]
theorem zl_get {T : Int → List Int} {len i : Nat} (hi : i < len) : ∀ {n : Nat}, (∀ j : Int, 0 ≤ j → j < n → (T j).length = len) → (zl T len n)[i]? = some (sm (fun j => (T j).getD i 0) 0 n)
  | 0, _ => by
    show (List.replicate len (0 : Int))[i]? = some 0
    rw [List.getElem?_replicate, if_pos hi]
  | n + 1, h => by
    have ih := zl_get hi (n := n) fun j h1 h2 => h j h1 (by omega)
    have hl := h n (by omega) (by omega)
    have e : (T (n : Int))[i]? = some ((T n).getD i 0) := by
      rw [List.getD_eq_getElem?_getD, List.getElem?_eq_getElem (by omega)]
      rfl
    show (zadd (zl T len n) (T n))[i]? = some (sm (fun j => (T j).getD i 0) 0 n + (T (0 + n)).getD i 0)
    rw [zadd_get _ _ i _ _ ih e, Int.zero_add]
/-- equal counts from equal values -/
theorem ev_eq {a b : List Int} (hl : a.length = b.length) (h : ∀ x, ev x a = ev x b) : a = b := ev_unique a b hl fun k _ => h k
/-- the identity of hits, by values -/
theorem hval_row {r b1 b2 : List Int} {l : Int} {n m : Nat} (y : Int) (hl : l = m) (hln : l ≤ n) (hr : r = b1 ++ b2) (hs : r.Pairwise (· ≤ ·)) (h0 : ∀ b ∈ r, 0 ≤ b ∧ b ≤ n) (h1 : ∀ b ∈ b1, b ≤ l) (h2 : ∀ b ∈ b2, l ≤ b) (hn : n = r.length + 1) :
    hval y (along (b1 ++ l :: b2)) = sm (fun j => (if j < l then y else 1) * hval y (along (r.map (dj j)))) 0 n := by
  have tl : ∀ q : Nat, ∀ j : Int, 0 ≤ j → j < q → (along (r.map (dj j))).length = n := fun q j _ _ => by rw [along_length, List.length_map]; omega
  obtain ⟨S1, hS1⟩ : ∃ S, S = zl (fun j => along (r.map (dj j))) n n := ⟨_, rfl⟩
  obtain ⟨S2, hS2⟩ : ∃ S, S = zl (fun j => along (r.map (dj j))) n m := ⟨_, rfl⟩
  have l1 : S1.length = n := by rw [hS1]; exact zl_len (tl n)
  have l2 : S2.length = n := by rw [hS2]; exact zl_len (tl m)
  have e1 : S1 = wt (along r) := ev_eq (by rw [l1, wt_len, along_length]; exact hn) fun x => by
    rw [hS1, ev_zl x (tl n), sum_all x hs h0 hn, ev_wt]
  have e2 : zadd (0 :: S2) (along r ++ [0]) = along (b1 ++ l :: b2) := by
    have la : (0 :: S2).length = (along r ++ [0]).length := by
      rw [List.length_cons, l2, List.length_append, along_length, List.length_singleton]
      omega
    refine ev_eq ?_ fun x => ?_
    · rw [zadd_length _ _ la, List.length_cons, l2, along_length, hn, hr]
      simp
      omega
    · rw [ev_zadd x _ _ la, ev_zero, ev_pad, hS2, ev_zl x (tl m), sum_own x hl hr hs (fun b hb => (h0 b hb).1) h1 h2]
      omega
  have la : (0 :: S2).length = (along r ++ [0]).length := by
    rw [List.length_cons, l2, List.length_append, along_length, List.length_singleton]
    omega
  rw [← e2, hval_zadd y _ _ la, ← hval_wt, ← e1]
  show (0 * fc S2.length + (y - 1) * hval y S2) + hval y S1 = _
  rw [hS1, hS2, hval_zl y (tl n), hval_zl y (tl m)]
  obtain ⟨q, hq⟩ : ∃ q, n = m + q := ⟨n - m, by omega⟩
  have s1 := sm_split (fun j => hval y (along (r.map (dj j)))) 0 m q
  have s2 := sm_split (fun j => (if j < l then y else 1) * hval y (along (r.map (dj j)))) 0 m q
  have s3 : sm (fun j => (if j < l then y else 1) * hval y (along (r.map (dj j)))) 0 m = y * sm (fun j => hval y (along (r.map (dj j)))) 0 m := by
    rw [← sm_mul]
    refine sm_congr fun j _ hj => ?_
    rw [if_pos (by omega)]
  have s4 : sm (fun j => (if j < l then y else 1) * hval y (along (r.map (dj j)))) (0 + m) q = sm (fun j => hval y (along (r.map (dj j)))) (0 + m) q := sm_congr fun j hj _ => by
    show (if j < l then y else 1) * _ = _
    rw [if_neg (by omega), Int.one_mul]
  rw [← hq] at s1 s2
  rw [s2, s3, s4, s1]
  generalize sm (fun j => hval y (along (r.map (dj j)))) 0 m = A
  generalize sm (fun j => hval y (along (r.map (dj j)))) (0 + m) q = B
  grind
/-! the numbers of lists, by hits -/
/-- times y - 1, the least power first -/
def mulY (g : List Int) : List Int := (List.zip ([0] ++ g) (g ++ [0])).map fun q => q.1 - q.2
theorem mulY_len (g : List Int) : (mulY g).length = g.length + 1 := by
  unfold mulY
  rw [List.length_map, List.length_zip]
  simp
theorem avF_zip (x : Int) : ∀ (a b : List Int), a.length = b.length → avF x ((List.zip a b).map fun q => q.1 - q.2) = avF x a - avF x b
  | [], [], _ => by show (0 : Int) = 0 - 0; omega
  | [], _ :: _, h => by simp at h
  | _ :: _, [], h => by simp at h
  | a :: as, b :: bs, h => by
    show (a - b) + x * avF x ((List.zip as bs).map fun q => q.1 - q.2) = (a + x * avF x as) - (b + x * avF x bs)
    rw [avF_zip x as bs (by simpa using h)]
    grind
theorem avF_pad (x : Int) : ∀ g : List Int, avF x (g ++ [0]) = avF x g
  | [] => by show 0 + x * 0 = 0; omega
  | c :: g => by show c + x * avF x (g ++ [0]) = c + x * avF x g; rw [avF_pad x g]
theorem avF_mulY (y : Int) (g : List Int) : avF y (mulY g) = (y - 1) * avF y g := by
  unfold mulY
  rw [avF_zip y _ _ (by simp <;> omega), avF_pad]
  show (0 + y * avF y g) - avF y g = _
  grind
def addHd (v : Int) : List Int → List Int
  | [] => []
  | a :: as => (a + v) :: as
theorem addHd_len (v : Int) : ∀ g : List Int, (addHd v g).length = g.length
  | [] => rfl
  | a :: as => rfl
theorem avF_addHd (y v : Int) {g : List Int} (h : g ≠ []) : avF y (addHd v g) = v + avF y g := by
  cases g with
  | nil => exact absurd rfl h
  | cons a as =>
    show (a + v) + y * avF y as = v + (a + y * avF y as)
    omega
def hlF : List Int → List Int
  | [] => []
  | c :: cs => addHd (c * fc cs.length) (mulY (hlF cs))
theorem hlF_len : ∀ cs : List Int, (hlF cs).length = cs.length
  | [] => rfl
  | c :: cs => by
    show (addHd _ (mulY (hlF cs))).length = _
    rw [addHd_len, mulY_len, hlF_len cs]
    rfl
theorem avF_hlF (y : Int) : ∀ cs : List Int, avF y (hlF cs) = hval y cs
  | [] => rfl
  | c :: cs => by
    show avF y (addHd _ (mulY (hlF cs))) = c * fc cs.length + (y - 1) * hval y cs
    rw [avF_addHd y _ (fun e => by have := mulY_len (hlF cs); rw [e] at this; simp at this), avF_mulY, avF_hlF y cs]
theorem avF_eq {a b : List Int} (hl : a.length = b.length) (h : ∀ x, avF x a = avF x b) : a = b := by
  have := hv_eq (a := a.reverse) (b := b.reverse) (by rw [List.length_reverse, List.length_reverse, hl]) fun x => by rw [← avF_rev, ← avF_rev, h]
  rw [← List.reverse_reverse a, this, List.reverse_reverse]
/-- an item, or 0 -/
def it0 (g : List Int) (f : Int) : Int := if 0 ≤ f then g.getD f.toNat 0 else 0
/-- the identity of hits -/
theorem hits_row {r b1 b2 : List Int} {l : Int} {n m : Nat} (hl : l = m) (hln : l ≤ n) (hr : r = b1 ++ b2) (hs : r.Pairwise (· ≤ ·)) (h0 : ∀ b ∈ r, 0 ≤ b ∧ b ≤ n) (h1 : ∀ b ∈ b1, b ≤ l) (h2 : ∀ b ∈ b2, l ≤ b) (hn : n = r.length + 1) {f : Nat} (hf : f ≤ n) :
    (hlF (along (b1 ++ l :: b2)))[f]? = some (sm (fun j => it0 (hlF (along (r.map (dj j)))) ((f : Int) - (if j < l then 1 else 0))) 0 n) := by
  obtain ⟨g, hg⟩ : ∃ g : Int → List Int, g = fun j => hlF (along (r.map (dj j))) := ⟨_, rfl⟩
  have gl : ∀ j, (g j).length = n := fun j => by rw [hg]; show (hlF (along (r.map (dj j)))).length = n; rw [hlF_len, along_length, List.length_map]; omega
  obtain ⟨T, hT⟩ : ∃ T : Int → List Int, T = fun j => if j < l then 0 :: g j else g j ++ [0] := ⟨_, rfl⟩
  have Tl : ∀ j, (T j).length = n + 1 := fun j => by
    rw [hT]
    show (if j < l then 0 :: g j else g j ++ [0]).length = n + 1
    split
    · rw [List.length_cons, gl]
    · rw [List.length_append, gl]; rfl
  have e : hlF (along (b1 ++ l :: b2)) = zl T (n + 1) n := by
    refine avF_eq ?_ fun y => ?_
    · rw [hlF_len, along_length, zl_len fun j _ _ => Tl j, hn, hr]
      simp
      omega
    · rw [avF_hlF, hval_row y hl hln hr hs h0 h1 h2 hn, avF_zl y fun j _ _ => Tl j]
      refine sm_congr fun j _ _ => ?_
      rw [hT]
      show (if j < l then y else 1) * _ = avF y (if j < l then 0 :: g j else g j ++ [0])
      have q : hval y (along (r.map (dj j))) = avF y (g j) := by rw [hg]; exact (avF_hlF y _).symm
      rw [q]
      split
      · show _ = 0 + y * avF y (g j)
        omega
      · rw [avF_pad, Int.one_mul]
  rw [e, zl_get (by omega) fun j _ _ => Tl j]
  refine congrArg some (sm_congr fun j _ _ => ?_)
  have q : hlF (along (r.map (dj j))) = g j := by rw [hg]
  rw [q, hT]
  show (if j < l then 0 :: g j else g j ++ [0]).getD f 0 = it0 (g j) ((f : Int) - (if j < l then 1 else 0))
  unfold it0
  have gj := gl j
  by_cases hj : j < l
  · rw [if_pos hj, if_pos hj]
    cases f with
    | zero => rw [if_neg (by omega)]; rfl
    | succ f =>
      rw [if_pos (by omega), show (((f + 1 : Nat) : Int) - 1).toNat = f by omega]
      rfl
  · rw [if_neg hj, if_neg hj, if_pos (by omega), show ((f : Int) - 0).toNat = f by omega, List.getD_eq_getElem?_getD, List.getD_eq_getElem?_getD]
    by_cases hfn : f < n
    · rw [List.getElem?_append_left (by omega)]
    · have : f = n := by omega
      rw [this, List.getElem?_append_right (by omega), List.getElem?_eq_none (l := g j) (by omega), gj, Nat.sub_self]
      rfl
/-- the sum of hits -/
def wS : Nat → List Int → Int
  | _, [] => 0
  | k, a :: as => k * a + wS (k + 1) as
theorem wS_succ : ∀ (g : List Int) (k : Nat), wS (k + 1) g = wS k g + avF 1 g
  | [], _ => rfl
  | a :: g, k => by
    show ((k + 1 : Nat) : Int) * a + wS (k + 1 + 1) g = ((k : Int) * a + wS (k + 1) g) + (a + 1 * avF 1 g)
    rw [wS_succ g (k + 1)]
    have : ((k + 1 : Nat) : Int) = k + 1 := by omega
    rw [this]
    grind
theorem wS_zip : ∀ (a b : List Int) (k : Nat), a.length = b.length → wS k ((List.zip a b).map fun q => q.1 - q.2) = wS k a - wS k b
  | [], [], _, _ => by show (0 : Int) = 0 - 0; omega
  | [], _ :: _, _, h => by simp at h
  | _ :: _, [], _, h => by simp at h
  | a :: as, b :: bs, k, h => by
    show (k : Int) * (a - b) + wS (k + 1) ((List.zip as bs).map fun q => q.1 - q.2) = ((k : Int) * a + wS (k + 1) as) - ((k : Int) * b + wS (k + 1) bs)
    rw [wS_zip as bs (k + 1) (by simpa using h)]
    grind
theorem wS_pad : ∀ (g : List Int) (k : Nat), wS k (g ++ [0]) = wS k g
  | [], k => by show (k : Int) * 0 + 0 = 0; omega
  | a :: g, k => by show (k : Int) * a + wS (k + 1) (g ++ [0]) = (k : Int) * a + wS (k + 1) g; rw [wS_pad g (k + 1)]
theorem wS_mulY (g : List Int) : wS 0 (mulY g) = avF 1 g := by
  unfold mulY
  rw [wS_zip _ _ 0 (by simp <;> omega), wS_pad]
  show (((0 : Nat) : Int) * 0 + wS 1 g) - wS 0 g = _
  rw [wS_succ g 0]
  omega
theorem wS_addHd (v : Int) : ∀ g : List Int, wS 0 (addHd v g) = wS 0 g
  | [] => rfl
  | a :: g => by
    show ((0 : Nat) : Int) * (a + v) + wS 1 g = ((0 : Nat) : Int) * a + wS 1 g
    have : ((0 : Nat) : Int) = 0 := rfl
    rw [this, Int.zero_mul, Int.zero_mul]
theorem hval_1 (c : Int) (cs : List Int) : hval 1 (c :: cs) = c * fc cs.length := by
  show c * fc cs.length + (1 - 1) * hval 1 cs = _
  rw [Int.sub_self, Int.zero_mul, Int.add_zero]
theorem wS_hlF (c d : Int) (cs : List Int) : wS 0 (hlF (c :: d :: cs)) = d * fc cs.length := by
  show wS 0 (addHd _ (mulY (hlF (d :: cs)))) = _
  rw [wS_addHd, wS_mulY, avF_hlF, hval_1]
end Ar

set_option Elab.async false
set_option linter.all false
set_option maxRecDepth 100000
set_option exponentiation.threshold 3000
namespace Tk29
open PySem PySem.Spec PyProof.Rows L2 Vm
open Evl
def topS (i : Nat) : Stmt := PySem.Challenge.pw_nestboards_k29_hits_of_great_teams.main.body.getD i (.Pass ⟨0, 0, 0, 0⟩)
section
variable {P : Program} {w : World} {K : PySem.W.Frag} {mg : Str → Option Value} {base : Heap}
abbrev s_law_factorial : Stmt := topS 41
abbrev N_law_factorial : List Str := ["upto", "found", "factor"]
theorem sc_law_factorial : FnScope N_law_factorial ["upto"] (defScope s_law_factorial) := ⟨rfl, rfl, rfl, by decide +kernel, rfl, by decide +kernel, by decide +kernel⟩
def F_law_factorial : En → Option Out := (sSeq (sSet 1 (eC (.int 1)))
    (sSeq (sFor (iR2 (aCons (eC (.int 2)) (aCons (eOp dAdd (eVar 0) (eC (.int 1))) aNil))) (tgName 2)
    (sSet 1 (eOp dMul (eVar 1) (eVar 2))))
    (sRet (eVar 1))))
def m_law_factorial : En → Option Res := bodyM [] 1 2 F_law_factorial
set_option maxHeartbeats 4000000 in
theorem ok_law_factorial {f : Addr} {fd : FuncData} (F : Fun K "_law_factorial" "_law_factorial" s_law_factorial f fd) (m_range : mg "range" = none) : FnG P w K mg base CX0 1 f fd ["upto"] (SpM K 1 m_law_factorial) := by
  have sc := sc_law_factorial
  refine funG F sc_law_factorial (fun vs H Q E h => h.1) (fun cdv A outer s H vs Q E hr h => ⟨_, (pss_cons (ps_set (i := 1) sc.nd rfl (by first | exact .inl rfl | exact .inr rfl) pe_int) (pss_cons (ps_for PassesOwn.never rfl (pi_range2 (by rfl) m_range (pa_cons pe_int (pa_cons (pe_op op_add (pv 0) pe_int) pa_nil))) (pg_name (i := 2) sc.nd rfl (by first | exact .inl rfl | exact .inr rfl)) (pss_one (ps_set (i := 1) sc.nd rfl (by first | exact .inl rfl | exact .inr rfl) (pe_op op_mulA (pv 1) (pv 2))))) (pss_one (ps_ret (pv 1))))), ?_⟩)
  exact body_ok (N := N_law_factorial) (n := 1) (k := 2) (fix := []) (F := F_law_factorial) rfl (by decide) (ss_seq (ss_set se_int (by decide)) (ss_seq (ss_for (si_r2 (sa_cons se_int (sa_cons (se_op ro_add se_var se_int) sa_nil))) (sg_name (by decide)) (ss_set (se_op ro_mul se_var se_var) (by decide))) (ss_ret se_var))) h

abbrev s_law_store : Stmt := topS 34
abbrev N_law_store : List Str := ["script", "k", "cell"]
theorem sc_law_store : FnScope N_law_store ["script", "k"] (defScope s_law_store) := ⟨rfl, rfl, rfl, by decide +kernel, rfl, by decide +kernel, by decide +kernel⟩
def F_law_store : En → Option Out := (sSeq (sSet 2 (eIf (bTest (eOp dLt (eVar 1) (eCB bLen (aCons (eVar 0) aNil)))) (eCB bAbs (aCons (eOp dIx (eVar 0) (eVar 1)) aNil)) (eC (.int 0))))
    (sRet (eLst (aCons (eCB bMax2 (aCons (eC (.int 0)) (aCons (eOp dSub (eVar 2) (eOp dPow (eC (.int 10)) (eC (.int 18)))) aNil))) (aCons (eOp dAdd (eOp dMul (eOp dMod (eCB bInt (aCons (eVar 2) aNil)) (eOp dAdd (eOp dPow (eC (.int 10)) (eC (.int 37))) (eC (.int 43)))) (eC (.int 83))) (eOp dMul (eC (.int 7)) (eVar 1))) (aCons (eC (.int 0)) aNil))))))
def m_law_store : En → Option Res := bodyM [] 2 1 F_law_store
set_option maxHeartbeats 4000000 in
theorem ok_law_store {f : Addr} {fd : FuncData} (F : Fun K "_law_store" "_law_store" s_law_store f fd) (m_len : mg "len" = none) (m_abs : mg "abs" = none) (m_int : mg "int" = none) (m_max : mg "max" = none) : FnG P w K mg base CX0 1 f fd ["script", "k"] (SpM K 2 m_law_store) := by
  have sc := sc_law_store
  refine funG F sc_law_store (fun vs H Q E h => h.1) (fun cdv A outer s H vs Q E hr h => ⟨_, (pss_cons (ps_set (i := 2) sc.nd rfl (by first | exact .inl rfl | exact .inr rfl) (pe_ifExp (pt_cmpR op_lt (pv 1) (pe_callB call_len_seq (by rfl) m_len PySem.boot_len (pa_cons (pv 0) pa_nil)) (nomark _)) (pe_callB call_abs (by rfl) m_abs (by decide +kernel) (pa_cons (pe_ix ix_seq (pv 0) (pv 1) (fun _ _ => rfl)) pa_nil)) pe_int)) (pss_one (ps_ret (pe_lst (pa_cons (pe_callB (call_max2 rfl) (by rfl) m_max (by decide +kernel) (pa_cons pe_int (pa_cons (pe_op op_sub (pv 2) (pe_op op_powA pe_int pe_int)) pa_nil))) (pa_cons (pe_op op_add (pe_op op_mulA (pe_op op_modN (pe_callTy call_int1 (by rfl) m_int (by decide +kernel) (pa_cons (pv 2) pa_nil)) (pe_op op_add (pe_op op_powA pe_int pe_int) pe_int)) pe_int) (pe_op op_mulA pe_int (pv 1))) (pa_cons pe_int pa_nil))))))), ?_⟩)
  exact body_ok (N := N_law_store) (n := 2) (k := 1) (fix := []) (F := F_law_store) rfl (by decide) (ss_seq (ss_set (se_if (st_test (se_op ro_lt se_var (se_cb rc_len (sa_cons se_var sa_nil)))) (se_cb rc_abs (sa_cons (se_op ro_ix se_var se_var) sa_nil)) se_int) (by decide)) (ss_ret (se_lst (sa_cons (se_cb rc_max2 (sa_cons se_int (sa_cons (se_op ro_sub se_var (se_op ro_pow se_int se_int)) sa_nil))) (sa_cons (se_op ro_add (se_op ro_mul (se_op ro_mod (se_cb rc_int (sa_cons se_var sa_nil)) (se_op ro_add (se_op ro_pow se_int se_int) se_int)) se_int) (se_op ro_mul se_int se_var)) (sa_cons se_int sa_nil)))))) h

abbrev s_spares_of : Stmt := topS 20
abbrev N_spares_of : List Str := ["levels", "place", "level"]
theorem sc_spares_of : FnScope N_spares_of ["levels"] (defScope s_spares_of) := ⟨rfl, rfl, rfl, by decide +kernel, rfl, by decide +kernel, by decide +kernel⟩
def F_spares_of : En → Option Out := (sRet (eLc [1, 2] (iEnumF (aCons (eCBL bSorted (aCons (eVar 0) aNil)) aNil)) (tgTup 2 (tgCons (tgName 1) (tgCons (tgName 2) tgNil))) bYes (eOp dSub (eVar 2) (eVar 1))))
def m_spares_of : En → Option Res := bodyM [] 1 2 F_spares_of
set_option maxHeartbeats 4000000 in
theorem ok_spares_of {f : Addr} {fd : FuncData} (F : Fun K "spares_of" "spares_of" s_spares_of f fd) (m_sorted : mg "sorted" = none) (m_enumerate : mg "enumerate" = none) : FnG P w K mg base CX0 1 f fd ["levels"] (SpM K 1 m_spares_of) := by
  have sc := sc_spares_of
  refine funG F sc_spares_of (fun vs H Q E h => h.1) (fun cdv A outer s H vs Q E hr h => ⟨_, (pss_one (ps_ret (pe_lc (own := [("place", 1), ("level", 2)]) (g := (gTup K 2 (gCons (gName 1) (gCons (gName 2) gNil)))) (tt := tYes) (te := (tOp rSubI (tVar 2) (tVar 1))) rfl sc.nd (pi_enum (by rfl) m_enumerate (pa_cons (pe_callB cr_sortedI (by rfl) m_sorted (by decide +kernel) (pa_cons (pv 0) pa_nil)) pa_nil)) (blkOk_by (N := N_spares_of) (sc := defScope s_spares_of) (by decide +kernel)) (fun _ _ _ _ _ => by exact (pg_tup rfl (pgs_cons (pg_name (i := 1) sc.nd rfl (by first | exact Or.inl rfl | exact Or.inr rfl)) (pgs_cons (pg_name (i := 2) sc.nd rfl (by first | exact Or.inl rfl | exact Or.inr rfl)) pgs_nil)))) (fun _ _ _ _ _ => by exact pts_nil) (fun _ _ _ _ _ => by exact (pe_op op_sub (pv 2) (pv 1)))))), ?_⟩)
  exact body_ok (N := N_spares_of) (n := 1) (k := 2) (fix := []) (F := F_spares_of) rfl (by decide) (ss_ret (se_lc (si_enum (sa_cons (se_cbL rcl_sorted (sa_cons se_var sa_nil)) sa_nil)) (sg_tup (n := 2) (sgs_cons (sg_name (by decide)) (sgs_cons (sg_name (by decide)) sgs_nil))) (by decide) st_yes (se_op ro_sub se_var se_var))) h

abbrev s_is_whole : Stmt := topS 9
abbrev N_is_whole : List Str := ["thing"]
theorem sc_is_whole : FnScope N_is_whole ["thing"] (defScope s_is_whole) := ⟨rfl, rfl, rfl, by decide +kernel, rfl, by decide +kernel, by decide +kernel⟩
def F_is_whole : En → Option Out := (sRet (eAnd (eCB bIsi (aCons (eVar 0) (aCons (eC (.ty "int")) aNil))) (eNot (eCB bIsi (aCons (eVar 0) (aCons (eC (.ty "bool")) aNil))))))
def m_is_whole : En → Option Res := bodyM [] 1 0 F_is_whole
set_option maxHeartbeats 4000000 in
theorem ok_is_whole {f : Addr} {fd : FuncData} (F : Fun K "is_whole" "is_whole" s_is_whole f fd) (m_int : mg "int" = none) (m_isinstance : mg "isinstance" = none) (m_bool : mg "bool" = none) : FnG P w K mg base CX0 1 f fd ["thing"] (SpM K 1 m_is_whole) := by
  have sc := sc_is_whole
  refine funG F sc_is_whole (fun vs H Q E h => h.1) (fun cdv A outer s H vs Q E hr h => ⟨_, (pss_one (ps_ret (pe_and (pe_callB call_isi (by rfl) m_isinstance (by decide +kernel) (pa_cons (pv 0) (pa_cons (pe_bltn (v := .ty "int") (by rfl) m_int (by decide +kernel) rfl) pa_nil))) (pe_one (pe_not (pe_callB call_isi (by rfl) m_isinstance (by decide +kernel) (pa_cons (pv 0) (pa_cons (pe_bltn (v := .ty "bool") (by rfl) m_bool (by decide +kernel) rfl) pa_nil)))))))), ?_⟩)
  exact body_ok (N := N_is_whole) (n := 1) (k := 0) (fix := []) (F := F_is_whole) rfl (by decide) (ss_ret (se_and (se_cb rc_isi (sa_cons se_var (sa_cons se_ty sa_nil))) (se_not (se_cb rc_isi (sa_cons se_var (sa_cons se_ty sa_nil)))))) h

abbrev s_is_team : Stmt := topS 18
abbrev N_is_team : List Str := ["thing", "level"]
theorem sc_is_team : FnScope N_is_team ["thing"] (defScope s_is_team) := ⟨rfl, rfl, rfl, by decide +kernel, rfl, by decide +kernel, by decide +kernel⟩
def F_is_team : En → Option Out := (sSeq (sIf (bOr (bNot (bTest (eCB bIsi (aCons (eVar 0) (aCons (eC (.ty "list")) aNil))))) (bNot (bTest (eChain dLe dLe (eC (.int 1)) (eCB bLen (aCons (eVar 0) aNil)) (eC (.int 20))))))
    (sRet (eC (.bl false)))
    sNext)
    (sSeq (sIf (bNot (bTest (eCB bAll (aCons (eLc [1] (iSeq (eVar 0)) (tgName 1) bYes (eAnd (eCall 1 m_is_whole (aCons (eVar 1) aNil)) (eOp dGe (eVar 1) (eC (.int 0))))) aNil))))
    (sRet (eC (.bl false)))
    sNext)
    (sRet (eOp dLe (eCB bMaxL (aCons (eCall 1 m_spares_of (aCons (eVar 0) aNil)) aNil)) (eC (.int 40))))))
def m_is_team : En → Option Res := bodyM [] 1 1 F_is_team
set_option maxHeartbeats 4000000 in
theorem ok_is_team {f : Addr} {fd : FuncData} {tk_MOST_WORKERS : Tok} {tk_GREATEST_SPARE : Tok} (F : Fun K "is_team" "is_team" s_is_team f fd) (m_list : mg "list" = none) (m_isinstance : mg "isinstance" = none) (m_len : mg "len" = none) (m_all : mg "all" = none) (m_max : mg "max" = none) (c_MOST_WORKERS : mg "MOST_WORKERS" = some (.int 20 tk_MOST_WORKERS)) (c_GREATEST_SPARE : mg "GREATEST_SPARE" = some (.int 40 tk_GREATEST_SPARE)) (d_is_whole : DefG P w K mg base "is_whole" ["thing"] 1 m_is_whole) (d_spares_of : DefG P w K mg base "spares_of" ["levels"] 1 m_spares_of) : FnG P w K mg base CX0 2 f fd ["thing"] (SpM K 1 m_is_team) := by
  have sc := sc_is_team
  refine funG F sc_is_team (fun vs H Q E h => h.1) (fun cdv A outer s H vs Q E hr h => ⟨_, (pss_cons (ps_if (PW.pt (pw_or (pt_not (pt_val (pe_callB call_isi (by rfl) m_isinstance (by decide +kernel) (pa_cons (pv 0) (pa_cons (pe_bltn (v := .ty "list") (by rfl) m_list (by decide +kernel) rfl) pa_nil))))) (pw_or1 (pt_not (pt_chain op_le op_le pe_int (pe_callB call_len_seq (by rfl) m_len PySem.boot_len (pa_cons (pv 0) pa_nil)) (pe_glob (v := .int 20) (by rfl) c_MOST_WORKERS ⟨_, rfl⟩)))))) (pss_one (ps_ret pe_bl)) pss_nil) (pss_cons (ps_if (pt_not (pt_val (pe_callB (cr_all rfl) (by rfl) m_all (by decide +kernel) (pa_cons (pe_lc (own := [("level", 1)]) (g := (gName 1)) (tt := tYes) (te := (tAndV (tCall (SpM K 1 m_is_whole) [] E0 (tCons (tVar 1) tNil)) (tOp rGeI (tVar 1) (tC (.int 0))))) rfl sc.nd (pi_list (pv 0)) (blkOk_by (N := N_is_team) (sc := defScope s_is_team) (by decide +kernel)) (fun _ _ _ _ _ => by exact (pg_name (i := 1) sc.nd rfl (by first | exact Or.inl rfl | exact Or.inr rfl))) (fun _ _ _ _ _ => by exact pts_nil) (fun _ _ _ _ _ => by exact (pe_and (pe_dG (by exact d_is_whole) (by rfl) (by exact hr) (by decide) (by rfl) (pa_cons (pv 1) pa_nil) (by decide) (by rfl) (by rfl)) (pe_one (pe_cmpR op_ge (pv 1) pe_int (nomark _)))))) pa_nil)))) (pss_one (ps_ret pe_bl)) pss_nil) (pss_one (ps_ret (pe_cmpR op_le (pe_callB (cr_max rfl) (by rfl) m_max (by decide +kernel) (pa_cons (pe_dG (by exact d_spares_of) (by rfl) (by exact hr) (by decide) (by rfl) (pa_cons (pv 0) pa_nil) (by decide) (by rfl) (by rfl)) pa_nil)) (pe_glob (v := .int 40) (by rfl) c_GREATEST_SPARE ⟨_, rfl⟩) (nomark _)))))), ?_⟩)
  exact body_ok (N := N_is_team) (n := 1) (k := 1) (fix := []) (F := F_is_team) rfl (by decide) (ss_seq (ss_if (st_or (st_not (st_B (se_cb rc_isi (sa_cons se_var (sa_cons se_ty sa_nil))))) (st_not (st_test (se_chain ros_le ros_le se_int (se_cb rc_len (sa_cons se_var sa_nil)) se_int)))) (ss_ret se_bl) ss_next) (ss_seq (ss_if (st_not (st_B (se_cb rc_all (sa_cons (se_lc (si_list se_var) (sg_name (by decide)) (by decide) st_yes (se_and (se_call (n := 1) (m := m_is_whole) (sa_cons se_var sa_nil)) (se_op ro_ge se_var se_int))) sa_nil)))) (ss_ret se_bl) ss_next) (ss_ret (se_op ro_le (se_cb rc_maxL (sa_cons (se_call (n := 1) (m := m_spares_of) (sa_cons se_var sa_nil)) sa_nil)) se_int)))) h

abbrev s_check_team : Stmt := topS 19
abbrev N_check_team : List Str := ["team"]
theorem sc_check_team : FnScope N_check_team ["team"] (defScope s_check_team) := ⟨rfl, rfl, rfl, by decide +kernel, rfl, by decide +kernel, by decide +kernel⟩
def F_check_team : En → Option Out := (sIf (bNot (bTest (eCall 1 m_is_team (aCons (eVar 0) aNil))))
    sNever
    sNext)
def m_check_team : En → Option Res := bodyM [] 1 0 F_check_team
set_option maxHeartbeats 4000000 in
theorem ok_check_team {f : Addr} {fd : FuncData} (F : Fun K "check_team" "check_team" s_check_team f fd) (d_is_team : DefG P w K mg base "is_team" ["thing"] 2 m_is_team) : FnG P w K mg base CX0 3 f fd ["team"] (SpM K 1 m_check_team) := by
  have sc := sc_check_team
  refine funG F sc_check_team (fun vs H Q E h => h.1) (fun cdv A outer s H vs Q E hr h => ⟨_, (pss_one (ps_if (pt_not (pt_val (pe_dG (by exact d_is_team) (by rfl) (by exact hr) (by decide) (by rfl) (pa_cons (pv 0) pa_nil) (by decide) (by rfl) (by rfl)))) (pss_one ps_never) pss_nil)), ?_⟩)
  exact body_ok (N := N_check_team) (n := 1) (k := 0) (fix := []) (F := F_check_team) rfl (by decide) (ss_if (st_not (st_B (se_call (n := 1) (m := m_is_team) (sa_cons se_var sa_nil)))) ss_never ss_next) h

abbrev s_check_levels : Stmt := topS 25
abbrev N_check_levels : List Str := ["team"]
theorem sc_check_levels : FnScope N_check_levels ["team"] (defScope s_check_levels) := ⟨rfl, rfl, rfl, by decide +kernel, rfl, by decide +kernel, by decide +kernel⟩
def F_check_levels : En → Option Out := (sSeq (sExpr (eCall 1 m_check_team (aCons (eVar 0) aNil)))
    (sIf (bTest (eOp dGt (eCB bMaxL (aCons (eVar 0) aNil)) (eCB bLen (aCons (eVar 0) aNil))))
    sNever
    sNext))
def m_check_levels : En → Option Res := bodyM [] 1 0 F_check_levels
set_option maxHeartbeats 4000000 in
theorem ok_check_levels {f : Addr} {fd : FuncData} (F : Fun K "check_levels" "check_levels" s_check_levels f fd) (m_max : mg "max" = none) (m_len : mg "len" = none) (d_check_team : DefG P w K mg base "check_team" ["team"] 3 m_check_team) : FnG P w K mg base CX0 4 f fd ["team"] (SpM K 1 m_check_levels) := by
  have sc := sc_check_levels
  refine funG F sc_check_levels (fun vs H Q E h => h.1) (fun cdv A outer s H vs Q E hr h => ⟨_, (pss_cons (ps_expr (pe_dG (by exact d_check_team) (by rfl) (by exact hr) (by decide) (by rfl) (pa_cons (pv 0) pa_nil) (by decide) (by rfl) (by rfl))) (pss_one (ps_if (pt_cmpR op_gt (pe_callB (cr_max rfl) (by rfl) m_max (by decide +kernel) (pa_cons (pv 0) pa_nil)) (pe_callB call_len_seq (by rfl) m_len PySem.boot_len (pa_cons (pv 0) pa_nil)) (nomark _)) (pss_one ps_never) pss_nil))), ?_⟩)
  exact body_ok (N := N_check_levels) (n := 1) (k := 0) (fix := []) (F := F_check_levels) rfl (by decide) (ss_seq (ss_expr (se_call (n := 1) (m := m_check_team) (sa_cons se_var sa_nil))) (ss_if (st_test (se_op ro_gt (se_cb rc_maxL (sa_cons se_var sa_nil)) (se_cb rc_len (sa_cons se_var sa_nil)))) ss_never ss_next)) h

abbrev s_counts_with_next : Stmt := topS 23
abbrev N_counts_with_next : List Str := ["found", "level", "longer", "size", "ways"]
theorem sc_counts_with_next : FnScope N_counts_with_next ["found", "level"] (defScope s_counts_with_next) := ⟨rfl, rfl, rfl, by decide +kernel, rfl, by decide +kernel, by decide +kernel⟩
def F_counts_with_next : En → Option Out := (sSeq (sSet 2 (eOpL dCat (eVar 0) (eLst (aCons (eC (.int 0)) aNil))))
    (sSeq (sFor (iEnumF (aCons (eVar 0) aNil)) (tgTup 2 (tgCons (tgName 3) (tgCons (tgName 4) tgNil)))
    (sPutAug 2 dAdd (eOp dAdd (eVar 3) (eC (.int 1))) (eOp dMul (eVar 4) (eOp dSub (eVar 1) (eVar 3)))))
    (sRet (eVar 2))))
def m_counts_with_next : En → Option Res := bodyM [] 2 3 F_counts_with_next
set_option maxHeartbeats 4000000 in
theorem ok_counts_with_next {f : Addr} {fd : FuncData} (F : Fun K "counts_with_next" "counts_with_next" s_counts_with_next f fd) (m_enumerate : mg "enumerate" = none) : FnG P w K mg base CX0 1 f fd ["found", "level"] (SpM K 2 m_counts_with_next) := by
  have sc := sc_counts_with_next
  refine funG F sc_counts_with_next (fun vs H Q E h => h.1) (fun cdv A outer s H vs Q E hr h => ⟨_, (pss_cons (ps_set (i := 2) sc.nd rfl (by first | exact .inl rfl | exact .inr rfl) (pe_op op_cat (pv 0) (pe_lst (pa_cons pe_int pa_nil)))) (pss_cons (ps_for PassesOwn.never rfl (pi_enum (by rfl) m_enumerate (pa_cons (pv 0) pa_nil)) (pg_tup rfl (pgs_cons (pg_name (i := 3) sc.nd rfl (by first | exact .inl rfl | exact .inr rfl)) (pgs_cons (pg_name (i := 4) sc.nd rfl (by first | exact .inl rfl | exact .inr rfl)) pgs_nil))) (pss_one (ps_augS (pv 2) (pe_op op_add (pv 3) pe_int) get_list (pe_op op_mulA (pv 4) (pe_op op_sub (pv 1) (pv 3))) ip_add set_list))) (pss_one (ps_ret (pv 2))))), ?_⟩)
  exact body_ok (N := N_counts_with_next) (n := 2) (k := 3) (fix := []) (F := F_counts_with_next) rfl (by decide) (ss_seq (ss_set (se_opL rol_cat se_var (se_lst (sa_cons se_int sa_nil))) (by decide)) (ss_seq (ss_for (si_enum (sa_cons se_var sa_nil)) (sg_tup (n := 2) (sgs_cons (sg_name (by decide)) (sgs_cons (sg_name (by decide)) sgs_nil))) (ss_putAug (se_op ro_add se_var se_int) (se_op ro_mul se_var (se_op ro_sub se_var se_var)) rip_I)) (ss_ret se_var))) h

abbrev s_counts_along : Stmt := topS 22
abbrev N_counts_along : List Str := ["levels", "found", "level"]
theorem sc_counts_along : FnScope N_counts_along ["levels"] (defScope s_counts_along) := ⟨rfl, rfl, rfl, by decide +kernel, rfl, by decide +kernel, by decide +kernel⟩
def F_counts_along : En → Option Out := (sSeq (sSet 1 (eLst (aCons (eC (.int 1)) aNil)))
    (sSeq (sFor (iSeq (eVar 0)) (tgName 2)
    (sSeq (sFrz 1) (sSet 1 (eCall 2 m_counts_with_next (aCons (eVar 1) (aCons (eVar 2) aNil))))))
    (sRet (eVar 1))))
def m_counts_along : En → Option Res := bodyM [] 1 2 F_counts_along
set_option maxHeartbeats 4000000 in
theorem ok_counts_along {f : Addr} {fd : FuncData} (F : Fun K "counts_along" "counts_along" s_counts_along f fd) (d_counts_with_next : DefG P w K mg base "counts_with_next" ["found", "level"] 1 m_counts_with_next) : FnG P w K mg base CX0 2 f fd ["levels"] (SpM K 1 m_counts_along) := by
  have sc := sc_counts_along
  refine funG F sc_counts_along (fun vs H Q E h => h.1) (fun cdv A outer s H vs Q E hr h => ⟨_, (pss_cons (ps_set (i := 1) sc.nd rfl (by first | exact .inl rfl | exact .inr rfl) (pe_lst (pa_cons pe_int pa_nil))) (pss_cons (ps_for PassesOwn.never rfl (pi_list (pv 0)) (pg_name (i := 2) sc.nd rfl (by first | exact .inl rfl | exact .inr rfl)) (pss_one (ps_set (i := 1) sc.nd rfl (by first | exact .inl rfl | exact .inr rfl) (pe_dG (by exact d_counts_with_next) (by rfl) (by exact hr) (by decide) (by rfl) (pa_cons (pv 1) (pa_cons (pv 2) pa_nil)) (by decide) (by rfl) (by rfl))))) (pss_one (ps_ret (pv 1))))), ?_⟩)
  exact body_ok (N := N_counts_along) (n := 1) (k := 2) (fix := []) (F := F_counts_along) rfl (by decide) (ss_seq (ss_set (se_lst (sa_cons se_int sa_nil)) (by decide)) (ss_seq (ss_for (si_list se_var) (sg_name (by decide)) (ss_pre (i := 1) (ss_set (se_call (n := 2) (m := m_counts_with_next) (sa_cons se_var (sa_cons se_var sa_nil))) (by decide)))) (ss_ret se_var))) h

abbrev s_item_or_0 : Stmt := topS 13
abbrev N_item_or_0 : List Str := ["numbers", "place"]
theorem sc_item_or_0 : FnScope N_item_or_0 ["numbers", "place"] (defScope s_item_or_0) := ⟨rfl, rfl, rfl, by decide +kernel, rfl, by decide +kernel, by decide +kernel⟩
def F_item_or_0 : En → Option Out := (sRet (eIf (bTest (eChain dLe dLt (eC (.int 0)) (eVar 1) (eCB bLen (aCons (eVar 0) aNil)))) (eOp dIx (eVar 0) (eVar 1)) (eC (.int 0))))
def m_item_or_0 : En → Option Res := bodyM [] 2 0 F_item_or_0
set_option maxHeartbeats 4000000 in
theorem ok_item_or_0 {f : Addr} {fd : FuncData} (F : Fun K "item_or_0" "item_or_0" s_item_or_0 f fd) (m_len : mg "len" = none) : FnG P w K mg base CX0 1 f fd ["numbers", "place"] (SpM K 2 m_item_or_0) := by
  have sc := sc_item_or_0
  refine funG F sc_item_or_0 (fun vs H Q E h => h.1) (fun cdv A outer s H vs Q E hr h => ⟨_, (pss_one (ps_ret (pe_ifExp (pt_chain op_le op_lt pe_int (pv 1) (pe_callB call_len_seq (by rfl) m_len PySem.boot_len (pa_cons (pv 0) pa_nil))) (pe_ix ix_seq (pv 0) (pv 1) (fun _ _ => rfl)) pe_int))), ?_⟩)
  exact body_ok (N := N_item_or_0) (n := 2) (k := 0) (fix := []) (F := F_item_or_0) rfl (by decide) (ss_ret (se_if (st_test (se_chain ros_le ros_lt se_int se_var (se_cb rc_len (sa_cons se_var sa_nil)))) (se_op ro_ix se_var se_var) se_int)) h

abbrev s_hits_along : Stmt := topS 27
abbrev N_hits_along : List Str := ["levels", "found", "by_size", "size", "hits"]
theorem sc_hits_along : FnScope N_hits_along ["levels"] (defScope s_hits_along) := ⟨rfl, rfl, rfl, by decide +kernel, rfl, by decide +kernel, by decide +kernel⟩
def F_hits_along : En → Option Out := (sSeq (sSet 1 (eOpL dRep (eLst (aCons (eC (.int 0)) aNil)) (eOp dAdd (eCB bLen (aCons (eVar 0) aNil)) (eC (.int 1)))))
    (sSeq (sSet 2 (eCall 1 m_counts_along (aCons (eCBL bSorted (aCons (eVar 0) aNil)) aNil)))
    (sSeq (sFor (iR3 (aCons (eCB bLen (aCons (eVar 0) aNil)) (aCons (eUn dNeg (eC (.int 1))) (aCons (eUn dNeg (eC (.int 1))) aNil)))) (tgName 3)
    (sSeq (sSet 1 (eLc [4] (iR1 (aCons (eCB bLen (aCons (eVar 1) aNil)) aNil)) (tgName 4) bYes (eOp dSub (eCallB 2 m_item_or_0 (aCons (eVar 1) (aCons (eOp dSub (eVar 4) (eC (.int 1))) aNil))) (eOp dIx (eVar 1) (eVar 4)))))
    (sPutAug 1 dAdd (eC (.int 0)) (eOp dMul (eOp dIx (eVar 2) (eVar 3)) (eCB bFactorial (aCons (eOp dSub (eCB bLen (aCons (eVar 0) aNil)) (eVar 3)) aNil))))))
    (sRet (eVar 1)))))
def m_hits_along : En → Option Res := bodyM [] 1 4 F_hits_along
set_option maxHeartbeats 4000000 in
theorem ok_hits_along {f : Addr} {fd : FuncData} (F : Fun K "hits_along" "hits_along" s_hits_along f fd) (m_len : mg "len" = none) (m_sorted : mg "sorted" = none) (m_range : mg "range" = none) (d_counts_along : DefG P w K mg base "counts_along" ["levels"] 2 m_counts_along) (d_item_or_0 : DefG P w K mg base "item_or_0" ["numbers", "place"] 1 m_item_or_0) (b_factorial : mg "factorial" = some (.builtin "math.factorial")) : FnG P w K mg base CX0 3 f fd ["levels"] (SpM K 1 m_hits_along) := by
  have sc := sc_hits_along
  refine funG F sc_hits_along (fun vs H Q E h => h.1) (fun cdv A outer s H vs Q E hr h => ⟨_, (pss_cons (ps_set (i := 1) sc.nd rfl (by first | exact .inl rfl | exact .inr rfl) (pe_op op_rep (pe_lst (pa_cons pe_int pa_nil)) (pe_op op_add (pe_callB call_len_seq (by rfl) m_len PySem.boot_len (pa_cons (pv 0) pa_nil)) pe_int))) (pss_cons (ps_set (i := 2) sc.nd rfl (by first | exact .inl rfl | exact .inr rfl) (pe_dG (by exact d_counts_along) (by rfl) (by exact hr) (by decide) (by rfl) (pa_cons (pe_callB cr_sortedI (by rfl) m_sorted (by decide +kernel) (pa_cons (pv 0) pa_nil)) pa_nil) (by decide) (by rfl) (by rfl))) (pss_cons (ps_for PassesOwn.never rfl (pi_range3 (by rfl) m_range (pa_cons (pe_callB call_len_seq (by rfl) m_len PySem.boot_len (pa_cons (pv 0) pa_nil)) (pa_cons (pe_un un_neg pe_int) (pa_cons (pe_un un_neg pe_int) pa_nil)))) (pg_name (i := 3) sc.nd rfl (by first | exact .inl rfl | exact .inr rfl)) (pss_cons (by first | exact (ps_setLc (i := 1) (own := [("hits", 4)]) (g := (gName 4)) (tt := tYes) (te := (tOp rSubI (tCall (SpM K 2 m_item_or_0) [] E0 (tCons (tVar 1) (tCons (tOp rSubI (tVar 4) (tC (.int 1))) tNil))) (tOp (rIx K) (tVar 1) (tVar 4)))) rfl sc.nd rfl rfl (sw_true rfl rfl rfl (by decide +kernel)) (pi_range1 (by rfl) m_range (pa_cons (pe_callB call_len_seq (by rfl) m_len PySem.boot_len (pa_cons (pv 1) pa_nil)) pa_nil)) (blkOk_by (N := N_hits_along) (sc := defScope s_hits_along) (by decide +kernel)) (fun _ _ _ _ _ => by exact (pg_name (i := 4) sc.nd rfl (by first | exact Or.inl rfl | exact Or.inr rfl))) (fun _ _ _ _ _ => by exact pts_nil) (fun _ _ _ _ _ => by exact (pe_op op_sub (pe_dG (by exact d_item_or_0) (by rfl) (by exact hr) (by decide) (by rfl) (pa_cons (pv 1) (pa_cons (pe_op op_sub (pv 4) pe_int) pa_nil)) (by decide) (by rfl) (by rfl)) (pe_ix ix_seq (pv 1) (pv 4) (fun _ _ => rfl))))) | exact (ps_set (i := 1) sc.nd rfl (by first | exact .inl rfl | exact .inr rfl) (pe_lc (own := [("hits", 4)]) (g := (gName 4)) (tt := tYes) (te := (tOp rSubI (tCall (SpM K 2 m_item_or_0) [] E0 (tCons (tVar 1) (tCons (tOp rSubI (tVar 4) (tC (.int 1))) tNil))) (tOp (rIx K) (tVar 1) (tVar 4)))) rfl sc.nd (pi_range1 (by rfl) m_range (pa_cons (pe_callB call_len_seq (by rfl) m_len PySem.boot_len (pa_cons (pv 1) pa_nil)) pa_nil)) (blkOk_by (N := N_hits_along) (sc := defScope s_hits_along) (by decide +kernel)) (fun _ _ _ _ _ => by exact (pg_name (i := 4) sc.nd rfl (by first | exact Or.inl rfl | exact Or.inr rfl))) (fun _ _ _ _ _ => by exact pts_nil) (fun _ _ _ _ _ => by exact (pe_op op_sub (pe_dG (by exact d_item_or_0) (by rfl) (by exact hr) (by decide) (by rfl) (pa_cons (pv 1) (pa_cons (pe_op op_sub (pv 4) pe_int) pa_nil)) (by decide) (by rfl) (by rfl)) (pe_ix ix_seq (pv 1) (pv 4) (fun _ _ => rfl))))))) (pss_one (ps_augS (pv 1) pe_int get_list (pe_op op_mulA (pe_ix ix_seq (pv 2) (pv 3) (fun _ _ => rfl)) (pe_callBfun cr_factorial (by rfl) (by exact b_factorial) (pa_cons (pe_op op_sub (pe_callB call_len_seq (by rfl) m_len PySem.boot_len (pa_cons (pv 0) pa_nil)) (pv 3)) pa_nil))) ip_add set_list)))) (pss_one (ps_ret (pv 1)))))), ?_⟩)
  exact body_ok (N := N_hits_along) (n := 1) (k := 4) (fix := []) (F := F_hits_along) rfl (by decide) (ss_seq (ss_set (se_opL rol_rep (se_lst (sa_cons se_int sa_nil)) (se_op ro_add (se_cb rc_len (sa_cons se_var sa_nil)) se_int)) (by decide)) (ss_seq (ss_set (se_call (n := 1) (m := m_counts_along) (sa_cons (se_cbL rcl_sorted (sa_cons se_var sa_nil)) sa_nil)) (by decide)) (ss_seq (ss_for (si_r3 (sa_cons (se_cb rc_len (sa_cons se_var sa_nil)) (sa_cons (se_neg se_int) (sa_cons (se_neg se_int) sa_nil)))) (sg_name (by decide)) (ss_seq (ss_set (se_lc (si_r1 (sa_cons (se_cb rc_len (sa_cons se_var sa_nil)) sa_nil)) (sg_name (by decide)) (by decide) st_yes (se_op ro_sub (se_callB (n := 2) (m := m_item_or_0) (sa_cons se_var (sa_cons (se_op ro_sub se_var se_int) sa_nil))) (se_op ro_ix se_var se_var))) (by decide)) (ss_putAug se_int (se_op ro_mul (se_op ro_ix se_var se_var) (se_cb rc_factorial (sa_cons (se_op ro_sub (se_cb rc_len (sa_cons se_var sa_nil)) se_var) sa_nil))) rip_I))) (ss_ret se_var)))) h

abbrev s_hit_counts : Stmt := topS 26
abbrev N_hit_counts : List Str := ["team"]
theorem sc_hit_counts : FnScope N_hit_counts ["team"] (defScope s_hit_counts) := ⟨rfl, rfl, rfl, by decide +kernel, rfl, by decide +kernel, by decide +kernel⟩
def F_hit_counts : En → Option Out := (sSeq (sExpr (eCall 1 m_check_levels (aCons (eVar 0) aNil)))
    (sRet (eCall 1 m_hits_along (aCons (eVar 0) aNil))))
def m_hit_counts : En → Option Res := bodyM [] 1 0 F_hit_counts
set_option maxHeartbeats 4000000 in
theorem ok_hit_counts {f : Addr} {fd : FuncData} (F : Fun K "hit_counts" "hit_counts" s_hit_counts f fd) (d_check_levels : DefG P w K mg base "check_levels" ["team"] 4 m_check_levels) (d_hits_along : DefG P w K mg base "hits_along" ["levels"] 3 m_hits_along) : FnG P w K mg base CX0 5 f fd ["team"] (SpM K 1 m_hit_counts) := by
  have sc := sc_hit_counts
  refine funG F sc_hit_counts (fun vs H Q E h => h.1) (fun cdv A outer s H vs Q E hr h => ⟨_, (pss_cons (ps_expr (pe_dG (by exact d_check_levels) (by rfl) (by exact hr) (by decide) (by rfl) (pa_cons (pv 0) pa_nil) (by decide) (by rfl) (by rfl))) (pss_one (ps_ret (pe_dG (by exact d_hits_along) (by rfl) (by exact hr) (by decide) (by rfl) (pa_cons (pv 0) pa_nil) (by decide) (by rfl) (by rfl))))), ?_⟩)
  exact body_ok (N := N_hit_counts) (n := 1) (k := 0) (fix := []) (F := F_hit_counts) rfl (by decide) (ss_seq (ss_expr (se_call (n := 1) (m := m_check_levels) (sa_cons se_var sa_nil))) (ss_ret (se_call (n := 1) (m := m_hits_along) (sa_cons se_var sa_nil)))) h

abbrev s_is_within : Stmt := topS 10
abbrev N_is_within : List Str := ["thing", "least", "greatest"]
theorem sc_is_within : FnScope N_is_within ["thing", "least", "greatest"] (defScope s_is_within) := ⟨rfl, rfl, rfl, by decide +kernel, rfl, by decide +kernel, by decide +kernel⟩
def F_is_within : En → Option Out := (sRet (eAnd (eCall 1 m_is_whole (aCons (eVar 0) aNil)) (eChain dLe dLe (eVar 1) (eVar 0) (eVar 2))))
def m_is_within : En → Option Res := bodyM [] 3 0 F_is_within
set_option maxHeartbeats 4000000 in
theorem ok_is_within {f : Addr} {fd : FuncData} (F : Fun K "is_within" "is_within" s_is_within f fd) (d_is_whole : DefG P w K mg base "is_whole" ["thing"] 1 m_is_whole) : FnG P w K mg base CX0 2 f fd ["thing", "least", "greatest"] (SpM K 3 m_is_within) := by
  have sc := sc_is_within
  refine funG F sc_is_within (fun vs H Q E h => h.1) (fun cdv A outer s H vs Q E hr h => ⟨_, (pss_one (ps_ret (pe_and (pe_dG (by exact d_is_whole) (by rfl) (by exact hr) (by decide) (by rfl) (pa_cons (pv 0) pa_nil) (by decide) (by rfl) (by rfl)) (pe_one (pe_chain op_le op_le (pv 1) (pv 0) (pv 2)))))), ?_⟩)
  exact body_ok (N := N_is_within) (n := 3) (k := 0) (fix := []) (F := F_is_within) rfl (by decide) (ss_ret (se_and (se_call (n := 1) (m := m_is_whole) (sa_cons se_var sa_nil)) (se_chain ros_le ros_le se_var se_var se_var))) h

abbrev s_check_worker : Stmt := topS 11
abbrev N_check_worker : List Str := ["team", "worker"]
theorem sc_check_worker : FnScope N_check_worker ["team", "worker"] (defScope s_check_worker) := ⟨rfl, rfl, rfl, by decide +kernel, rfl, by decide +kernel, by decide +kernel⟩
def F_check_worker : En → Option Out := (sIf (bNot (bTest (eCall 3 m_is_within (aCons (eVar 1) (aCons (eC (.int 0)) (aCons (eOp dSub (eCB bLen (aCons (eVar 0) aNil)) (eC (.int 1))) aNil))))))
    sNever
    sNext)
def m_check_worker : En → Option Res := bodyM [] 2 0 F_check_worker
set_option maxHeartbeats 4000000 in
theorem ok_check_worker {f : Addr} {fd : FuncData} (F : Fun K "check_worker" "check_worker" s_check_worker f fd) (m_len : mg "len" = none) (d_is_within : DefG P w K mg base "is_within" ["thing", "least", "greatest"] 2 m_is_within) : FnG P w K mg base CX0 3 f fd ["team", "worker"] (SpM K 2 m_check_worker) := by
  have sc := sc_check_worker
  refine funG F sc_check_worker (fun vs H Q E h => h.1) (fun cdv A outer s H vs Q E hr h => ⟨_, (pss_one (ps_if (pt_not (pt_val (pe_dG (by exact d_is_within) (by rfl) (by exact hr) (by decide) (by rfl) (pa_cons (pv 1) (pa_cons pe_int (pa_cons (pe_op op_sub (pe_callB call_len_seq (by rfl) m_len PySem.boot_len (pa_cons (pv 0) pa_nil)) pe_int) pa_nil))) (by decide) (by rfl) (by rfl)))) (pss_one ps_never) pss_nil)), ?_⟩)
  exact body_ok (N := N_check_worker) (n := 2) (k := 0) (fix := []) (F := F_check_worker) rfl (by decide) (ss_if (st_not (st_B (se_call (n := 3) (m := m_is_within) (sa_cons se_var (sa_cons se_int (sa_cons (se_op ro_sub (se_cb rc_len (sa_cons se_var sa_nil)) se_int) sa_nil)))))) ss_never ss_next) h

abbrev s_check_many : Stmt := topS 12
abbrev N_check_many : List Str := ["team", "many"]
theorem sc_check_many : FnScope N_check_many ["team", "many"] (defScope s_check_many) := ⟨rfl, rfl, rfl, by decide +kernel, rfl, by decide +kernel, by decide +kernel⟩
def F_check_many : En → Option Out := (sIf (bNot (bTest (eCall 3 m_is_within (aCons (eVar 1) (aCons (eC (.int 0)) (aCons (eCB bLen (aCons (eVar 0) aNil)) aNil))))))
    sNever
    sNext)
def m_check_many : En → Option Res := bodyM [] 2 0 F_check_many
set_option maxHeartbeats 4000000 in
theorem ok_check_many {f : Addr} {fd : FuncData} (F : Fun K "check_many" "check_many" s_check_many f fd) (m_len : mg "len" = none) (d_is_within : DefG P w K mg base "is_within" ["thing", "least", "greatest"] 2 m_is_within) : FnG P w K mg base CX0 3 f fd ["team", "many"] (SpM K 2 m_check_many) := by
  have sc := sc_check_many
  refine funG F sc_check_many (fun vs H Q E h => h.1) (fun cdv A outer s H vs Q E hr h => ⟨_, (pss_one (ps_if (pt_not (pt_val (pe_dG (by exact d_is_within) (by rfl) (by exact hr) (by decide) (by rfl) (pa_cons (pv 1) (pa_cons pe_int (pa_cons (pe_callB call_len_seq (by rfl) m_len PySem.boot_len (pa_cons (pv 0) pa_nil)) pa_nil))) (by decide) (by rfl) (by rfl)))) (pss_one ps_never) pss_nil)), ?_⟩)
  exact body_ok (N := N_check_many) (n := 2) (k := 0) (fix := []) (F := F_check_many) rfl (by decide) (ss_if (st_not (st_B (se_call (n := 3) (m := m_is_within) (sa_cons se_var (sa_cons se_int (sa_cons (se_cb rc_len (sa_cons se_var sa_nil)) sa_nil)))))) ss_never ss_next) h

abbrev s_fraction : Stmt := topS 14
abbrev N_fraction : List Str := ["top", "bottom", "common"]
theorem sc_fraction : FnScope N_fraction ["top", "bottom"] (defScope s_fraction) := ⟨rfl, rfl, rfl, by decide +kernel, rfl, by decide +kernel, by decide +kernel⟩
def F_fraction : En → Option Out := (sSeq (sSet 2 (eCB bGcd (aCons (eVar 0) (aCons (eVar 1) aNil))))
    (sRet (eTup (aCons (eOp dFdiv (eVar 0) (eVar 2)) (aCons (eOp dFdiv (eVar 1) (eVar 2)) aNil)))))
def m_fraction : En → Option Res := bodyM [] 2 1 F_fraction
set_option maxHeartbeats 4000000 in
theorem ok_fraction {f : Addr} {fd : FuncData} (F : Fun K "fraction" "fraction" s_fraction f fd)  (b_gcd : mg "gcd" = some (.builtin "math.gcd")) : FnG P w K mg base CX0 1 f fd ["top", "bottom"] (SpM K 2 m_fraction) := by
  have sc := sc_fraction
  refine funG F sc_fraction (fun vs H Q E h => h.1) (fun cdv A outer s H vs Q E hr h => ⟨_, (pss_cons (ps_set (i := 2) sc.nd rfl (by first | exact .inl rfl | exact .inr rfl) (pe_callBfun cr_gcd (by rfl) (by exact b_gcd) (pa_cons (pv 0) (pa_cons (pv 1) pa_nil)))) (pss_one (ps_ret (pe_tup (pa_cons (pe_op op_fdivA (pv 0) (pv 2)) (pa_cons (pe_op op_fdivA (pv 1) (pv 2)) pa_nil)))))), ?_⟩)
  exact body_ok (N := N_fraction) (n := 2) (k := 1) (fix := []) (F := F_fraction) rfl (by decide) (ss_seq (ss_set (se_cb rc_gcd (sa_cons se_var (sa_cons se_var sa_nil))) (by decide)) (ss_ret (se_tup (sa_cons (se_op ro_fdiv se_var se_var) (sa_cons (se_op ro_fdiv se_var se_var) sa_nil))))) h

abbrev s_hits_behind : Stmt := topS 29
abbrev N_hits_behind : List Str := ["levels", "job", "hits"]
theorem sc_hits_behind : FnScope N_hits_behind ["levels", "job", "hits"] (defScope s_hits_behind) := ⟨rfl, rfl, rfl, by decide +kernel, rfl, by decide +kernel, by decide +kernel⟩
def F_hits_behind : En → Option Out := (sRet (eIf (bTest (eOp dLt (eVar 1) (eOp dIx (eVar 0) (eC (.int 0))))) (eOp dSub (eVar 2) (eC (.int 1))) (eVar 2)))
def m_hits_behind : En → Option Res := bodyM [] 3 0 F_hits_behind
set_option maxHeartbeats 4000000 in
theorem ok_hits_behind {f : Addr} {fd : FuncData} (F : Fun K "hits_behind" "hits_behind" s_hits_behind f fd)  : FnG P w K mg base CX0 1 f fd ["levels", "job", "hits"] (SpM K 3 m_hits_behind) := by
  have sc := sc_hits_behind
  refine funG F sc_hits_behind (fun vs H Q E h => h.1) (fun cdv A outer s H vs Q E hr h => ⟨_, (pss_one (ps_ret (pe_ifExp (pt_cmpR op_lt (pv 1) (pe_ix ix_seq (pv 0) pe_int (fun _ _ => rfl)) (nomark _)) (pe_op op_sub (pv 2) pe_int) (pv 2)))), ?_⟩)
  exact body_ok (N := N_hits_behind) (n := 3) (k := 0) (fix := []) (F := F_hits_behind) rfl (by decide) (ss_ret (se_if (st_test (se_op ro_lt se_var (se_op ro_ix se_var se_int))) (se_op ro_sub se_var se_int) se_var)) h

abbrev s_levels_behind : Stmt := topS 28
abbrev N_levels_behind : List Str := ["levels", "job", "level"]
theorem sc_levels_behind : FnScope N_levels_behind ["levels", "job"] (defScope s_levels_behind) := ⟨rfl, rfl, rfl, by decide +kernel, rfl, by decide +kernel, by decide +kernel⟩
def F_levels_behind : En → Option Out := (sRet (eLc [2] (iSeq (eSl (eVar 0) (oSome (eC (.int 1))) oNone)) (tgName 2) bYes (eIf (bTest (eOp dGt (eVar 2) (eVar 1))) (eOp dSub (eVar 2) (eC (.int 1))) (eVar 2))))
def m_levels_behind : En → Option Res := bodyM [] 2 1 F_levels_behind
set_option maxHeartbeats 4000000 in
theorem ok_levels_behind {f : Addr} {fd : FuncData} (F : Fun K "levels_behind" "levels_behind" s_levels_behind f fd)  : FnG P w K mg base CX0 1 f fd ["levels", "job"] (SpM K 2 m_levels_behind) := by
  have sc := sc_levels_behind
  refine funG F sc_levels_behind (fun vs H Q E h => h.1) (fun cdv A outer s H vs Q E hr h => ⟨_, (pss_one (ps_ret (pe_lc (own := [("level", 2)]) (g := (gName 2)) (tt := tYes) (te := (tIf (tTest (tOp rGtI (tVar 2) (tVar 1))) (tOp rSubI (tVar 2) (tC (.int 1))) (tVar 2))) rfl sc.nd (pi_list (pe_slice sl_list (pv 0) (po_some pe_int) po_none)) (blkOk_by (N := N_levels_behind) (sc := defScope s_levels_behind) (by decide +kernel)) (fun _ _ _ _ _ => by exact (pg_name (i := 2) sc.nd rfl (by first | exact Or.inl rfl | exact Or.inr rfl))) (fun _ _ _ _ _ => by exact pts_nil) (fun _ _ _ _ _ => by exact (pe_ifExp (pt_cmpR op_gt (pv 2) (pv 1) (nomark _)) (pe_op op_sub (pv 2) pe_int) (pv 2)))))), ?_⟩)
  exact body_ok (N := N_levels_behind) (n := 2) (k := 1) (fix := []) (F := F_levels_behind) rfl (by decide) (ss_ret (se_lc (si_list (se_sl se_var (so_some se_int) so_none)) (sg_name (by decide)) (by decide) st_yes (se_if (st_test (se_op ro_gt se_var se_var)) (se_op ro_sub se_var se_int) se_var))) h

abbrev s_count_lists : Stmt := topS 30
abbrev N_count_lists : List Str := ["levels", "job", "hits"]
theorem sc_count_lists : FnScope N_count_lists ["levels", "job", "hits"] (defScope s_count_lists) := ⟨rfl, rfl, rfl, by decide +kernel, rfl, by decide +kernel, by decide +kernel⟩
def F_count_lists : En → Option Out := (sRet (eCall 2 m_item_or_0 (aCons (eCall 1 m_hits_along (aCons (eCall 2 m_levels_behind (aCons (eVar 0) (aCons (eVar 1) aNil))) aNil)) (aCons (eCall 3 m_hits_behind (aCons (eVar 0) (aCons (eVar 1) (aCons (eVar 2) aNil)))) aNil))))
def m_count_lists : En → Option Res := bodyM [] 3 0 F_count_lists
set_option maxHeartbeats 4000000 in
theorem ok_count_lists {f : Addr} {fd : FuncData} (F : Fun K "count_lists" "count_lists" s_count_lists f fd) (d_hits_behind : DefG P w K mg base "hits_behind" ["levels", "job", "hits"] 1 m_hits_behind) (d_levels_behind : DefG P w K mg base "levels_behind" ["levels", "job"] 1 m_levels_behind) (d_hits_along : DefG P w K mg base "hits_along" ["levels"] 3 m_hits_along) (d_item_or_0 : DefG P w K mg base "item_or_0" ["numbers", "place"] 1 m_item_or_0) : FnG P w K mg base CX0 4 f fd ["levels", "job", "hits"] (SpM K 3 m_count_lists) := by
  have sc := sc_count_lists
  refine funG F sc_count_lists (fun vs H Q E h => h.1) (fun cdv A outer s H vs Q E hr h => ⟨_, (pss_one (ps_ret (pe_dG (by exact d_item_or_0) (by rfl) (by exact hr) (by decide) (by rfl) (pa_cons (pe_dG (by exact d_hits_along) (by rfl) (by exact hr) (by decide) (by rfl) (pa_cons (pe_dG (by exact d_levels_behind) (by rfl) (by exact hr) (by decide) (by rfl) (pa_cons (pv 0) (pa_cons (pv 1) pa_nil)) (by decide) (by rfl) (by rfl)) pa_nil) (by decide) (by rfl) (by rfl)) (pa_cons (pe_dG (by exact d_hits_behind) (by rfl) (by exact hr) (by decide) (by rfl) (pa_cons (pv 0) (pa_cons (pv 1) (pa_cons (pv 2) pa_nil))) (by decide) (by rfl) (by rfl)) pa_nil)) (by decide) (by rfl) (by rfl)))), ?_⟩)
  exact body_ok (N := N_count_lists) (n := 3) (k := 0) (fix := []) (F := F_count_lists) rfl (by decide) (ss_ret (se_call (n := 2) (m := m_item_or_0) (sa_cons (se_call (n := 1) (m := m_hits_along) (sa_cons (se_call (n := 2) (m := m_levels_behind) (sa_cons se_var (sa_cons se_var sa_nil))) sa_nil)) (sa_cons (se_call (n := 3) (m := m_hits_behind) (sa_cons se_var (sa_cons se_var (sa_cons se_var sa_nil)))) sa_nil)))) h

abbrev s_pair_by_hits : Stmt := topS 31
abbrev N_pair_by_hits : List Str := ["team", "worker", "job", "hits", "total", "levels"]
theorem sc_pair_by_hits : FnScope N_pair_by_hits ["team", "worker", "job", "hits"] (defScope s_pair_by_hits) := ⟨rfl, rfl, rfl, by decide +kernel, rfl, by decide +kernel, by decide +kernel⟩
def F_pair_by_hits : En → Option Out := (sSeq (sExpr (eCall 1 m_check_levels (aCons (eVar 0) aNil)))
    (sSeq (sExpr (eCall 2 m_check_worker (aCons (eVar 0) (aCons (eVar 1) aNil))))
    (sSeq (sIf (bNot (bTest (eCall 3 m_is_within (aCons (eVar 2) (aCons (eC (.int 0)) (aCons (eOp dSub (eCB bLen (aCons (eVar 0) aNil)) (eC (.int 1))) aNil))))))
    sNever
    sNext)
    (sSeq (sExpr (eCall 2 m_check_many (aCons (eVar 0) (aCons (eVar 3) aNil))))
    (sSeq (sSet 4 (eOp dIx (eCall 1 m_hits_along (aCons (eVar 0) aNil)) (eVar 3)))
    (sSeq (sIf (bTest (eOp dEq (eVar 4) (eC (.int 0))))
    sNever
    sNext)
    (sSeq (sSet 5 (eOpL dCat (eOpL dCat (eLst (aCons (eOp dIx (eVar 0) (eVar 1)) aNil)) (eSl (eVar 0) oNone (oSome (eVar 1)))) (eSl (eVar 0) (oSome (eOp dAdd (eVar 1) (eC (.int 1)))) oNone)))
    (sSeq (sFrz 5) (sRet (eCall 2 m_fraction (aCons (eCall 3 m_count_lists (aCons (eVar 5) (aCons (eVar 2) (aCons (eVar 3) aNil)))) (aCons (eVar 4) aNil))))))))))))
def m_pair_by_hits : En → Option Res := bodyM [] 4 2 F_pair_by_hits
set_option maxHeartbeats 4000000 in
theorem ok_pair_by_hits {f : Addr} {fd : FuncData} (F : Fun K "pair_by_hits" "pair_by_hits" s_pair_by_hits f fd) (m_len : mg "len" = none) (d_check_levels : DefG P w K mg base "check_levels" ["team"] 4 m_check_levels) (d_check_worker : DefG P w K mg base "check_worker" ["team", "worker"] 3 m_check_worker) (d_is_within : DefG P w K mg base "is_within" ["thing", "least", "greatest"] 2 m_is_within) (d_check_many : DefG P w K mg base "check_many" ["team", "many"] 3 m_check_many) (d_hits_along : DefG P w K mg base "hits_along" ["levels"] 3 m_hits_along) (d_count_lists : DefG P w K mg base "count_lists" ["levels", "job", "hits"] 4 m_count_lists) (d_fraction : DefG P w K mg base "fraction" ["top", "bottom"] 1 m_fraction) : FnG P w K mg base CX0 5 f fd ["team", "worker", "job", "hits"] (SpM K 4 m_pair_by_hits) := by
  have sc := sc_pair_by_hits
  refine funG F sc_pair_by_hits (fun vs H Q E h => h.1) (fun cdv A outer s H vs Q E hr h => ⟨_, (pss_cons (ps_expr (pe_dG (by exact d_check_levels) (by rfl) (by exact hr) (by decide) (by rfl) (pa_cons (pv 0) pa_nil) (by decide) (by rfl) (by rfl))) (pss_cons (ps_expr (pe_dG (by exact d_check_worker) (by rfl) (by exact hr) (by decide) (by rfl) (pa_cons (pv 0) (pa_cons (pv 1) pa_nil)) (by decide) (by rfl) (by rfl))) (pss_cons (ps_if (pt_not (pt_val (pe_dG (by exact d_is_within) (by rfl) (by exact hr) (by decide) (by rfl) (pa_cons (pv 2) (pa_cons pe_int (pa_cons (pe_op op_sub (pe_callB call_len_seq (by rfl) m_len PySem.boot_len (pa_cons (pv 0) pa_nil)) pe_int) pa_nil))) (by decide) (by rfl) (by rfl)))) (pss_one ps_never) pss_nil) (pss_cons (ps_expr (pe_dG (by exact d_check_many) (by rfl) (by exact hr) (by decide) (by rfl) (pa_cons (pv 0) (pa_cons (pv 3) pa_nil)) (by decide) (by rfl) (by rfl))) (pss_cons (ps_set (i := 4) sc.nd rfl (by first | exact .inl rfl | exact .inr rfl) (pe_ix ix_seq (pe_dG (by exact d_hits_along) (by rfl) (by exact hr) (by decide) (by rfl) (pa_cons (pv 0) pa_nil) (by decide) (by rfl) (by rfl)) (pv 3) (fun _ _ => rfl))) (pss_cons (ps_if (pt_cmpR (op_eqD hr.units) (pv 4) pe_int (nomark _)) (pss_one ps_never) pss_nil) (pss_cons (ps_set (i := 5) sc.nd rfl (by first | exact .inl rfl | exact .inr rfl) (pe_op op_cat (pe_op op_cat (pe_lst (pa_cons (pe_ix ix_seq (pv 0) (pv 1) (fun _ _ => rfl)) pa_nil)) (pe_slice sl_list (pv 0) po_none (po_some (pv 1)))) (pe_slice sl_list (pv 0) (po_some (pe_op op_add (pv 1) pe_int)) po_none))) (pss_one (ps_ret (pe_dG (by exact d_fraction) (by rfl) (by exact hr) (by decide) (by rfl) (pa_cons (pe_dG (by exact d_count_lists) (by rfl) (by exact hr) (by decide) (by rfl) (pa_cons (pv 5) (pa_cons (pv 2) (pa_cons (pv 3) pa_nil))) (by decide) (by rfl) (by rfl)) (pa_cons (pv 4) pa_nil)) (by decide) (by rfl) (by rfl))))))))))), ?_⟩)
  exact body_ok (N := N_pair_by_hits) (n := 4) (k := 2) (fix := []) (F := F_pair_by_hits) rfl (by decide) (ss_seq (ss_expr (se_call (n := 1) (m := m_check_levels) (sa_cons se_var sa_nil))) (ss_seq (ss_expr (se_call (n := 2) (m := m_check_worker) (sa_cons se_var (sa_cons se_var sa_nil)))) (ss_seq (ss_if (st_not (st_B (se_call (n := 3) (m := m_is_within) (sa_cons se_var (sa_cons se_int (sa_cons (se_op ro_sub (se_cb rc_len (sa_cons se_var sa_nil)) se_int) sa_nil)))))) ss_never ss_next) (ss_seq (ss_expr (se_call (n := 2) (m := m_check_many) (sa_cons se_var (sa_cons se_var sa_nil)))) (ss_seq (ss_set (se_op ro_ix (se_call (n := 1) (m := m_hits_along) (sa_cons se_var sa_nil)) se_var) (by decide)) (ss_seq (ss_if (st_test (se_op ro_eq se_var se_int)) ss_never ss_next) (ss_seq (ss_set (se_opL rol_cat (se_opL rol_cat (se_lst (sa_cons (se_op ro_ix se_var se_var) sa_nil)) (se_sl se_var so_none (so_some se_var))) (se_sl se_var (so_some (se_op ro_add se_var se_int)) so_none)) (by decide)) (ss_pre (i := 5) (ss_ret (se_call (n := 2) (m := m_fraction) (sa_cons (se_call (n := 3) (m := m_count_lists) (sa_cons se_var (sa_cons se_var (sa_cons se_var sa_nil)))) (sa_cons se_var sa_nil)))))))))))) h

abbrev s_mean_hits : Stmt := topS 32
abbrev N_mean_hits : List Str := ["team"]
theorem sc_mean_hits : FnScope N_mean_hits ["team"] (defScope s_mean_hits) := ⟨rfl, rfl, rfl, by decide +kernel, rfl, by decide +kernel, by decide +kernel⟩
def F_mean_hits : En → Option Out := (sSeq (sExpr (eCall 1 m_check_levels (aCons (eVar 0) aNil)))
    (sRet (eCall 2 m_fraction (aCons (eCB bSum (aCons (eVar 0) aNil)) (aCons (eCB bLen (aCons (eVar 0) aNil)) aNil)))))
def m_mean_hits : En → Option Res := bodyM [] 1 0 F_mean_hits
set_option maxHeartbeats 4000000 in
theorem ok_mean_hits {f : Addr} {fd : FuncData} (F : Fun K "mean_hits" "mean_hits" s_mean_hits f fd) (m_len : mg "len" = none) (m_sum : mg "sum" = none) (d_check_levels : DefG P w K mg base "check_levels" ["team"] 4 m_check_levels) (d_fraction : DefG P w K mg base "fraction" ["top", "bottom"] 1 m_fraction) : FnG P w K mg base CX0 5 f fd ["team"] (SpM K 1 m_mean_hits) := by
  have sc := sc_mean_hits
  refine funG F sc_mean_hits (fun vs H Q E h => h.1) (fun cdv A outer s H vs Q E hr h => ⟨_, (pss_cons (ps_expr (pe_dG (by exact d_check_levels) (by rfl) (by exact hr) (by decide) (by rfl) (pa_cons (pv 0) pa_nil) (by decide) (by rfl) (by rfl))) (pss_one (ps_ret (pe_dG (by exact d_fraction) (by rfl) (by exact hr) (by decide) (by rfl) (pa_cons (pe_callB (cr_sum rfl) (by rfl) m_sum (by decide +kernel) (pa_cons (pv 0) pa_nil)) (pa_cons (pe_callB call_len_seq (by rfl) m_len PySem.boot_len (pa_cons (pv 0) pa_nil)) pa_nil)) (by decide) (by rfl) (by rfl))))), ?_⟩)
  exact body_ok (N := N_mean_hits) (n := 1) (k := 0) (fix := []) (F := F_mean_hits) rfl (by decide) (ss_seq (ss_expr (se_call (n := 1) (m := m_check_levels) (sa_cons se_var sa_nil))) (ss_ret (se_call (n := 2) (m := m_fraction) (sa_cons (se_cb rc_sum (sa_cons se_var sa_nil)) (sa_cons (se_cb rc_len (sa_cons se_var sa_nil)) sa_nil))))) h

abbrev s_law_counted : Stmt := topS 40
abbrev N_law_counted : List Str := ["deal", "row", "found", "below", "x", "value_here", "place", "own", "here", "later"]
theorem sc_law_counted : FnScope N_law_counted ["deal"] (defScope s_law_counted) := ⟨rfl, rfl, rfl, by decide +kernel, rfl, by decide +kernel, by decide +kernel⟩
def F_law_counted : En → Option Out := (sSeq (sParN [1, 2, 3] (aCons (eLst aNil) (aCons (eLst aNil) (aCons (eC (.int 1)) aNil))))
    (sSeq (sFor (iR1 (aCons (eOp dAdd (eCB bLen (aCons (eVar 0) aNil)) (eC (.int 1))) aNil)) (tgName 4)
    (sSeq (sSet 5 (eC (.int 1)))
    (sSeq (sFor (iEnumF (aCons (eCBL bSorted (aCons (eVar 0) aNil)) aNil)) (tgTup 2 (tgCons (tgName 6) (tgCons (tgName 7) tgNil)))
    (sSet 5 (eOp dMul (eVar 5) (eOp dSub (eOp dAdd (eVar 4) (eVar 7)) (eVar 6)))))
    (sExpr (eAppend 1 (aCons (eVar 5) aNil))))))
    (sSeq (sWhile 100 (bTest (eOp dNe (eVar 1) (eLst aNil)))
    (sSeq (sExpr (eAppend 2 (aCons (eOp dFdiv (eOp dIx (eVar 1) (eC (.int 0))) (eVar 3)) aNil)))
    (sSeq (sSet 3 (eOp dMul (eVar 3) (eCB bLen (aCons (eVar 2) aNil))))
    (sSeq (sFrz 1) (sSet 1 (eLc [8, 9] (iZipF (aCons (eVar 1) (aCons (eSl (eVar 1) (oSome (eC (.int 1))) oNone) aNil))) (tgTup 2 (tgCons (tgName 8) (tgCons (tgName 9) tgNil))) bYes (eOp dSub (eVar 9) (eVar 8))))))))
    (sRet (eRev (eVar 2))))))
def m_law_counted : En → Option Res := bodyM [] 1 9 F_law_counted
set_option maxHeartbeats 4000000 in
theorem ok_law_counted {f : Addr} {fd : FuncData} (F : Fun K "_law_counted" "_law_counted" s_law_counted f fd) (m_len : mg "len" = none) (m_range : mg "range" = none) (m_sorted : mg "sorted" = none) (m_enumerate : mg "enumerate" = none) (m_zip : mg "zip" = none) : FnG P w K mg base CX0 1 f fd ["deal"] (SpM K 1 m_law_counted) := by
  have sc := sc_law_counted
  refine funG F sc_law_counted (fun vs H Q E h => h.1) (fun cdv A outer s H vs Q E hr h => ⟨_, (pss_cons (ps_par3 (i := 1) (j := 2) (l := 3) rfl sc.nd rfl rfl rfl (by decide) (by decide) (by decide) rfl rfl rfl (pa_cons (pe_lst pa_nil) (pa_cons (pe_lst pa_nil) (pa_cons pe_int pa_nil))) (by rfl)) (pss_cons (ps_for PassesOwn.never rfl (pi_range1 (by rfl) m_range (pa_cons (pe_op op_add (pe_callB call_len_seq (by rfl) m_len PySem.boot_len (pa_cons (pv 0) pa_nil)) pe_int) pa_nil)) (pg_name (i := 4) sc.nd rfl (by first | exact .inl rfl | exact .inr rfl)) (pss_cons (ps_set (i := 5) sc.nd rfl (by first | exact .inl rfl | exact .inr rfl) pe_int) (pss_cons (ps_for PassesOwn.never rfl (pi_enum (by rfl) m_enumerate (pa_cons (pe_callB cr_sortedI (by rfl) m_sorted (by decide +kernel) (pa_cons (pv 0) pa_nil)) pa_nil)) (pg_tup rfl (pgs_cons (pg_name (i := 6) sc.nd rfl (by first | exact .inl rfl | exact .inr rfl)) (pgs_cons (pg_name (i := 7) sc.nd rfl (by first | exact .inl rfl | exact .inr rfl)) pgs_nil))) (pss_one (ps_set (i := 5) sc.nd rfl (by first | exact .inl rfl | exact .inr rfl) (pe_op op_mulA (pv 5) (pe_op op_sub (pe_op op_add (pv 4) (pv 7)) (pv 6)))))) (pss_one (ps_expr (pe_bm PySem.F.plainAttrs_list PySem.F.slot_list_append PySem.F.type_list_append mt_append (pv 1) (pa_cons (pv 5) pa_nil))))))) (pss_cons (ps_while PassesOwn.never (pt_cmpR (op_neD hr.units) (pv 1) (pe_lst pa_nil) (nomark _)) (pss_cons (ps_expr (pe_bm PySem.F.plainAttrs_list PySem.F.slot_list_append PySem.F.type_list_append mt_append (pv 2) (pa_cons (pe_op op_fdivA (pe_ix ix_seq (pv 1) pe_int (fun _ _ => rfl)) (pv 3)) pa_nil))) (pss_cons (ps_set (i := 3) sc.nd rfl (by first | exact .inl rfl | exact .inr rfl) (pe_op op_mulA (pv 3) (pe_callB call_len_seq (by rfl) m_len PySem.boot_len (pa_cons (pv 2) pa_nil)))) (pss_one (by first | exact (ps_setLc (i := 1) (own := [("here", 8), ("later", 9)]) (g := (gTup K 2 (gCons (gName 8) (gCons (gName 9) gNil)))) (tt := tYes) (te := (tOp rSubI (tVar 9) (tVar 8))) rfl sc.nd rfl rfl (sw_true rfl rfl rfl (by decide +kernel)) (pi_zip (by rfl) m_zip (pa_cons (pv 1) (pa_cons (pe_slice sl_list (pv 1) (po_some pe_int) po_none) pa_nil))) (blkOk_by (N := N_law_counted) (sc := defScope s_law_counted) (by decide +kernel)) (fun _ _ _ _ _ => by exact (pg_tup rfl (pgs_cons (pg_name (i := 8) sc.nd rfl (by first | exact Or.inl rfl | exact Or.inr rfl)) (pgs_cons (pg_name (i := 9) sc.nd rfl (by first | exact Or.inl rfl | exact Or.inr rfl)) pgs_nil)))) (fun _ _ _ _ _ => by exact pts_nil) (fun _ _ _ _ _ => by exact (pe_op op_sub (pv 9) (pv 8)))) | exact (ps_set (i := 1) sc.nd rfl (by first | exact .inl rfl | exact .inr rfl) (pe_lc (own := [("here", 8), ("later", 9)]) (g := (gTup K 2 (gCons (gName 8) (gCons (gName 9) gNil)))) (tt := tYes) (te := (tOp rSubI (tVar 9) (tVar 8))) rfl sc.nd (pi_zip (by rfl) m_zip (pa_cons (pv 1) (pa_cons (pe_slice sl_list (pv 1) (po_some pe_int) po_none) pa_nil))) (blkOk_by (N := N_law_counted) (sc := defScope s_law_counted) (by decide +kernel)) (fun _ _ _ _ _ => by exact (pg_tup rfl (pgs_cons (pg_name (i := 8) sc.nd rfl (by first | exact Or.inl rfl | exact Or.inr rfl)) (pgs_cons (pg_name (i := 9) sc.nd rfl (by first | exact Or.inl rfl | exact Or.inr rfl)) pgs_nil)))) (fun _ _ _ _ _ => by exact pts_nil) (fun _ _ _ _ _ => by exact (pe_op op_sub (pv 9) (pv 8)))))))))) (pss_one (ps_ret (pe_revL (pv 2))))))), ?_⟩)
  exact body_ok (N := N_law_counted) (n := 1) (k := 9) (fix := []) (F := F_law_counted) rfl (by decide) (ss_seq (ss_parN3 (i := 1) (j := 2) (l := 3) (sad_cons (se_lst sa_nil) (sad_cons (se_lst sa_nil) (sad_cons se_int sad_nil))) (by decide)) (ss_seq (ss_for (si_r1 (sa_cons (se_op ro_add (se_cb rc_len (sa_cons se_var sa_nil)) se_int) sa_nil)) (sg_name (by decide)) (ss_seq (ss_set se_int (by decide)) (ss_seq (ss_for (si_enum (sa_cons (se_cbL rcl_sorted (sa_cons se_var sa_nil)) sa_nil)) (sg_tup (n := 2) (sgs_cons (sg_name (by decide)) (sgs_cons (sg_name (by decide)) sgs_nil))) (ss_set (se_op ro_mul se_var (se_op ro_sub (se_op ro_add se_var se_var) se_var)) (by decide))) (ss_expr (se_append (sa_cons se_var sa_nil)))))) (ss_seq (ss_while 100 (st_test (se_op ro_ne se_var (se_lst sa_nil))) (ss_seq (ss_expr (se_append (sa_cons (se_op ro_fdiv (se_op ro_ix se_var se_int) se_var) sa_nil))) (ss_seq (ss_set (se_op ro_mul se_var (se_cb rc_len (sa_cons se_var sa_nil))) (by decide)) (ss_pre (i := 1) (ss_set (se_lc (si_zip (sa_cons se_var (sa_cons (se_sl se_var (so_some se_int) so_none) sa_nil))) (sg_tup (n := 2) (sgs_cons (sg_name (by decide)) (sgs_cons (sg_name (by decide)) sgs_nil))) (by decide) st_yes (se_op ro_sub se_var se_var)) (by decide)))))) (ss_ret (se_rev se_var))))) h

abbrev s_law_hits : Stmt := topS 42
abbrev N_law_hits : List Str := ["deal", "size_here", "found", "power", "place", "ways_here", "whole", "spot", "factor", "one", "other"]
theorem sc_law_hits : FnScope N_law_hits ["deal"] (defScope s_law_hits) := ⟨rfl, rfl, rfl, by decide +kernel, rfl, by decide +kernel, by decide +kernel⟩
def F_law_hits : En → Option Out := (sSeq (sParN [1, 2, 3] (aCons (eCB bLen (aCons (eVar 0) aNil)) (aCons (eOpL dRep (eLst (aCons (eC (.int 0)) aNil)) (eOp dAdd (eCB bLen (aCons (eVar 0) aNil)) (eC (.int 1)))) (aCons (eLst (aCons (eC (.int 1)) aNil)) aNil))))
    (sSeq (sFor (iEnumF (aCons (eCall 1 m_law_counted (aCons (eVar 0) aNil)) aNil)) (tgTup 2 (tgCons (tgName 4) (tgCons (tgName 5) tgNil)))
    (sSeq (sSet 6 (eOp dMul (eVar 5) (eCall 1 m_law_factorial (aCons (eOp dSub (eVar 1) (eVar 4)) aNil))))
    (sSeq (sSeq (sFrz 3) (sFor (iEnumF (aCons (eVar 3) aNil)) (tgTup 2 (tgCons (tgName 7) (tgCons (tgName 8) tgNil)))
    (sPut 2 (eOp dAdd (eOp dIx (eVar 2) (eVar 7)) (eOp dMul (eVar 6) (eVar 8))) (eVar 7))))
    (sSet 3 (eLc [9, 10] (iZipF (aCons (eOpL dCat (eLst (aCons (eC (.int 0)) aNil)) (eVar 3)) (aCons (eOpL dCat (eVar 3) (eLst (aCons (eC (.int 0)) aNil))) aNil))) (tgTup 2 (tgCons (tgName 9) (tgCons (tgName 10) tgNil))) bYes (eOp dSub (eVar 9) (eVar 10)))))))
    (sRet (eVar 2))))
def m_law_hits : En → Option Res := bodyM [] 1 10 F_law_hits
set_option maxHeartbeats 4000000 in
theorem ok_law_hits {f : Addr} {fd : FuncData} (F : Fun K "_law_hits" "_law_hits" s_law_hits f fd) (m_len : mg "len" = none) (m_enumerate : mg "enumerate" = none) (m_zip : mg "zip" = none) (d_law_counted : DefG P w K mg base "_law_counted" ["deal"] 1 m_law_counted) (d_law_factorial : DefG P w K mg base "_law_factorial" ["upto"] 1 m_law_factorial) : FnG P w K mg base CX0 2 f fd ["deal"] (SpM K 1 m_law_hits) := by
  have sc := sc_law_hits
  refine funG F sc_law_hits (fun vs H Q E h => h.1) (fun cdv A outer s H vs Q E hr h => ⟨_, (pss_cons (ps_par3 (i := 1) (j := 2) (l := 3) rfl sc.nd rfl rfl rfl (by decide) (by decide) (by decide) rfl rfl rfl (pa_cons (pe_callB call_len_seq (by rfl) m_len PySem.boot_len (pa_cons (pv 0) pa_nil)) (pa_cons (pe_op op_rep (pe_lst (pa_cons pe_int pa_nil)) (pe_op op_add (pe_callB call_len_seq (by rfl) m_len PySem.boot_len (pa_cons (pv 0) pa_nil)) pe_int)) (pa_cons (pe_lst (pa_cons pe_int pa_nil)) pa_nil))) (by rfl)) (pss_cons (ps_for PassesOwn.never rfl (pi_enum (by rfl) m_enumerate (pa_cons (pe_dG (by exact d_law_counted) (by rfl) (by exact hr) (by decide) (by rfl) (pa_cons (pv 0) pa_nil) (by decide) (by rfl) (by rfl)) pa_nil)) (pg_tup rfl (pgs_cons (pg_name (i := 4) sc.nd rfl (by first | exact .inl rfl | exact .inr rfl)) (pgs_cons (pg_name (i := 5) sc.nd rfl (by first | exact .inl rfl | exact .inr rfl)) pgs_nil))) (pss_cons (ps_set (i := 6) sc.nd rfl (by first | exact .inl rfl | exact .inr rfl) (pe_op op_mulA (pv 5) (pe_dG (by exact d_law_factorial) (by rfl) (by exact hr) (by decide) (by rfl) (pa_cons (pe_op op_sub (pv 1) (pv 4)) pa_nil) (by decide) (by rfl) (by rfl)))) (pss_cons (ps_for PassesOwn.never rfl (pi_enum (by rfl) m_enumerate (pa_cons (pv 3) pa_nil)) (pg_tup rfl (pgs_cons (pg_name (i := 7) sc.nd rfl (by first | exact .inl rfl | exact .inr rfl)) (pgs_cons (pg_name (i := 8) sc.nd rfl (by first | exact .inl rfl | exact .inr rfl)) pgs_nil))) (pss_one (ps_asg (pe_op op_add (pe_ix ix_seq (pv 2) (pv 7) (fun _ _ => rfl)) (pe_op op_mulA (pv 6) (pv 8))) (pg_sub (pv 2) (pv 7) set_list)))) (pss_one (by first | exact (ps_setLc (i := 3) (own := [("one", 9), ("other", 10)]) (g := (gTup K 2 (gCons (gName 9) (gCons (gName 10) gNil)))) (tt := tYes) (te := (tOp rSubI (tVar 9) (tVar 10))) rfl sc.nd rfl rfl (sw_true rfl rfl rfl (by decide +kernel)) (pi_zip (by rfl) m_zip (pa_cons (pe_op op_cat (pe_lst (pa_cons pe_int pa_nil)) (pv 3)) (pa_cons (pe_op op_cat (pv 3) (pe_lst (pa_cons pe_int pa_nil))) pa_nil))) (blkOk_by (N := N_law_hits) (sc := defScope s_law_hits) (by decide +kernel)) (fun _ _ _ _ _ => by exact (pg_tup rfl (pgs_cons (pg_name (i := 9) sc.nd rfl (by first | exact Or.inl rfl | exact Or.inr rfl)) (pgs_cons (pg_name (i := 10) sc.nd rfl (by first | exact Or.inl rfl | exact Or.inr rfl)) pgs_nil)))) (fun _ _ _ _ _ => by exact pts_nil) (fun _ _ _ _ _ => by exact (pe_op op_sub (pv 9) (pv 10)))) | exact (ps_set (i := 3) sc.nd rfl (by first | exact .inl rfl | exact .inr rfl) (pe_lc (own := [("one", 9), ("other", 10)]) (g := (gTup K 2 (gCons (gName 9) (gCons (gName 10) gNil)))) (tt := tYes) (te := (tOp rSubI (tVar 9) (tVar 10))) rfl sc.nd (pi_zip (by rfl) m_zip (pa_cons (pe_op op_cat (pe_lst (pa_cons pe_int pa_nil)) (pv 3)) (pa_cons (pe_op op_cat (pv 3) (pe_lst (pa_cons pe_int pa_nil))) pa_nil))) (blkOk_by (N := N_law_hits) (sc := defScope s_law_hits) (by decide +kernel)) (fun _ _ _ _ _ => by exact (pg_tup rfl (pgs_cons (pg_name (i := 9) sc.nd rfl (by first | exact Or.inl rfl | exact Or.inr rfl)) (pgs_cons (pg_name (i := 10) sc.nd rfl (by first | exact Or.inl rfl | exact Or.inr rfl)) pgs_nil)))) (fun _ _ _ _ _ => by exact pts_nil) (fun _ _ _ _ _ => by exact (pe_op op_sub (pv 9) (pv 10)))))))))) (pss_one (ps_ret (pv 2))))), ?_⟩)
  exact body_ok (N := N_law_hits) (n := 1) (k := 10) (fix := []) (F := F_law_hits) rfl (by decide) (ss_seq (ss_parN3 (i := 1) (j := 2) (l := 3) (sad_cons (se_cb rc_len (sa_cons se_var sa_nil)) (sad_cons (se_opL rol_rep (se_lst (sa_cons se_int sa_nil)) (se_op ro_add (se_cb rc_len (sa_cons se_var sa_nil)) se_int)) (sad_cons (se_lst (sa_cons se_int sa_nil)) sad_nil))) (by decide)) (ss_seq (ss_for (si_enum (sa_cons (se_call (n := 1) (m := m_law_counted) (sa_cons se_var sa_nil)) sa_nil)) (sg_tup (n := 2) (sgs_cons (sg_name (by decide)) (sgs_cons (sg_name (by decide)) sgs_nil))) (ss_seq (ss_set (se_op ro_mul se_var (se_call (n := 1) (m := m_law_factorial) (sa_cons (se_op ro_sub se_var se_var) sa_nil))) (by decide)) (ss_seq (ss_pre (i := 3) (ss_for (si_enum (sa_cons se_var sa_nil)) (sg_tup (n := 2) (sgs_cons (sg_name (by decide)) (sgs_cons (sg_name (by decide)) sgs_nil))) (ss_put (se_op ro_add (se_op ro_ix se_var se_var) (se_op ro_mul se_var se_var)) se_var))) (ss_set (se_lc (si_zip (sa_cons (se_opL rol_cat (se_lst (sa_cons se_int sa_nil)) se_var) (sa_cons (se_opL rol_cat se_var (se_lst (sa_cons se_int sa_nil))) sa_nil))) (sg_tup (n := 2) (sgs_cons (sg_name (by decide)) (sgs_cons (sg_name (by decide)) sgs_nil))) (by decide) st_yes (se_op ro_sub se_var se_var)) (by decide))))) (ss_ret se_var))) h

abbrev s_law_pick : Stmt := topS 35
abbrev N_law_pick : List Str := ["store", "bound", "digit", "mixed"]
theorem sc_law_pick : FnScope N_law_pick ["store", "bound"] (defScope s_law_pick) := ⟨rfl, rfl, rfl, by decide +kernel, rfl, by decide +kernel, by decide +kernel⟩
def F_law_pick : En → Option Out := (sSeq (sIf (bTest (eOp dGt (eOp dIx (eVar 0) (eC (.int 0))) (eC (.int 0))))
    (sSeq (sSet 2 (eOp dMod (eCB bInt (aCons (eOp dIx (eVar 0) (eC (.int 0))) aNil)) (eVar 1)))
    (sSeq (sPut 0 (eOp dFdiv (eOp dIx (eVar 0) (eC (.int 0))) (eVar 1)) (eC (.int 0)))
    (sRet (eVar 2))))
    sNext)
    (sSeq (sPut 0 (eOp dAdd (eOp dIx (eVar 0) (eC (.int 2))) (eC (.int 1))) (eC (.int 2)))
    (sSeq (sSet 3 (eOp dMod (eCB bInt (aCons (eOp dPow (eOp dAdd (eOp dIx (eVar 0) (eC (.int 1))) (eOp dMul (eC (.int 32416187567)) (eOp dIx (eVar 0) (eC (.int 2))))) (eC (.int 3))) aNil)) (eOp dAdd (eOp dPow (eC (.int 10)) (eC (.int 40))) (eC (.int 121)))))
    (sSeq (sSet 3 (eOp dMod (eCB bInt (aCons (eOp dPow (eOp dAdd (eVar 3) (eOp dMul (eC (.int 27644437)) (eOp dIx (eVar 0) (eC (.int 2))))) (eC (.int 3))) aNil)) (eOp dAdd (eOp dPow (eC (.int 10)) (eC (.int 39))) (eC (.int 3)))))
    (sRet (eOp dMod (eCB bInt (aCons (eOp dFdiv (eVar 3) (eC (.int 16381))) aNil)) (eVar 1)))))))
def m_law_pick : En → Option Res := bodyM [0] 2 2 F_law_pick
set_option maxHeartbeats 4000000 in
theorem ok_law_pick {f : Addr} {fd : FuncData} (F : Fun K "_law_pick" "_law_pick" s_law_pick f fd) (m_int : mg "int" = none) : FnG P w K mg base CX0 1 f fd ["store", "bound"] (SpM K 2 m_law_pick) := by
  have sc := sc_law_pick
  refine funG F sc_law_pick (fun vs H Q E h => h.1) (fun cdv A outer s H vs Q E hr h => ⟨_, (pss_cons (ps_if (pt_cmpR op_gt (pe_ix ix_seq (pv 0) pe_int (fun _ _ => rfl)) pe_int (nomark _)) (pss_cons (ps_set (i := 2) sc.nd rfl (by first | exact .inl rfl | exact .inr rfl) (pe_op op_modN (pe_callTy call_int1 (by rfl) m_int (by decide +kernel) (pa_cons (pe_ix ix_seq (pv 0) pe_int (fun _ _ => rfl)) pa_nil)) (pv 1))) (pss_cons (ps_asg (pe_op op_fdivA (pe_ix ix_seq (pv 0) pe_int (fun _ _ => rfl)) (pv 1)) (pg_sub (pv 0) pe_int set_list)) (pss_one (ps_ret (pv 2))))) pss_nil) (pss_cons (ps_asg (pe_op op_add (pe_ix ix_seq (pv 0) pe_int (fun _ _ => rfl)) pe_int) (pg_sub (pv 0) pe_int set_list)) (pss_cons (ps_set (i := 3) sc.nd rfl (by first | exact .inl rfl | exact .inr rfl) (pe_op op_modN (pe_callTy call_int1 (by rfl) m_int (by decide +kernel) (pa_cons (pe_op op_powA (pe_op op_add (pe_ix ix_seq (pv 0) pe_int (fun _ _ => rfl)) (pe_op op_mulA pe_int (pe_ix ix_seq (pv 0) pe_int (fun _ _ => rfl)))) pe_int) pa_nil)) (pe_op op_add (pe_op op_powA pe_int pe_int) pe_int))) (pss_cons (ps_set (i := 3) sc.nd rfl (by first | exact .inl rfl | exact .inr rfl) (pe_op op_modN (pe_callTy call_int1 (by rfl) m_int (by decide +kernel) (pa_cons (pe_op op_powA (pe_op op_add (pv 3) (pe_op op_mulA pe_int (pe_ix ix_seq (pv 0) pe_int (fun _ _ => rfl)))) pe_int) pa_nil)) (pe_op op_add (pe_op op_powA pe_int pe_int) pe_int))) (pss_one (ps_ret (pe_op op_modN (pe_callTy call_int1 (by rfl) m_int (by decide +kernel) (pa_cons (pe_op op_fdivA (pv 3) pe_int) pa_nil)) (pv 1)))))))), ?_⟩)
  exact body_ok (N := N_law_pick) (n := 2) (k := 2) (fix := [0]) (F := F_law_pick) rfl (by decide) (ss_seq (ss_if (st_test (se_op ro_gt (se_op ro_ix se_var se_int) se_int)) (ss_seq (ss_set (se_op ro_mod (se_cb rc_int (sa_cons (se_op ro_ix se_var se_int) sa_nil)) se_var) (by decide)) (ss_seq (ss_put (se_op ro_fdiv (se_op ro_ix se_var se_int) se_var) se_int) (ss_ret se_var))) ss_next) (ss_seq (ss_put (se_op ro_add (se_op ro_ix se_var se_int) se_int) se_int) (ss_seq (ss_set (se_op ro_mod (se_cb rc_int (sa_cons (se_op ro_pow (se_op ro_add (se_op ro_ix se_var se_int) (se_op ro_mul se_int (se_op ro_ix se_var se_int))) se_int) sa_nil)) (se_op ro_add (se_op ro_pow se_int se_int) se_int)) (by decide)) (ss_seq (ss_set (se_op ro_mod (se_cb rc_int (sa_cons (se_op ro_pow (se_op ro_add se_var (se_op ro_mul se_int (se_op ro_ix se_var se_int))) se_int) sa_nil)) (se_op ro_add (se_op ro_pow se_int se_int) se_int)) (by decide)) (ss_ret (se_op ro_mod (se_cb rc_int (sa_cons (se_op ro_fdiv se_var se_int) sa_nil)) se_var)))))) h

abbrev s_law_lowest : Stmt := topS 38
abbrev N_law_lowest : List Str := ["top", "bottom", "one", "two"]
theorem sc_law_lowest : FnScope N_law_lowest ["top", "bottom"] (defScope s_law_lowest) := ⟨rfl, rfl, rfl, by decide +kernel, rfl, by decide +kernel, by decide +kernel⟩
def F_law_lowest : En → Option Out := (sSeq (sPar 2 3 (aCons (eVar 0) (aCons (eVar 1) aNil)))
    (sSeq (sWhile 3000 (bTest (eOp dGt (eVar 3) (eC (.int 0))))
    (sPar 2 3 (aCons (eVar 3) (aCons (eOp dMod (eCB bInt (aCons (eVar 2) aNil)) (eVar 3)) aNil))))
    (sRet (eTup (aCons (eOp dFdiv (eVar 0) (eVar 2)) (aCons (eOp dFdiv (eVar 1) (eVar 2)) aNil))))))
def m_law_lowest : En → Option Res := bodyM [] 2 2 F_law_lowest
set_option maxHeartbeats 4000000 in
theorem ok_law_lowest {f : Addr} {fd : FuncData} (F : Fun K "_law_lowest" "_law_lowest" s_law_lowest f fd) (m_int : mg "int" = none) : FnG P w K mg base CX0 1 f fd ["top", "bottom"] (SpM K 2 m_law_lowest) := by
  have sc := sc_law_lowest
  refine funG F sc_law_lowest (fun vs H Q E h => h.1) (fun cdv A outer s H vs Q E hr h => ⟨_, (pss_cons (ps_par (i := 2) (j := 3) rfl sc.nd rfl rfl (by decide) rfl rfl (pa_cons (pv 0) (pa_cons (pv 1) pa_nil)) (by rfl)) (pss_cons (ps_while PassesOwn.never (pt_cmpR op_gt (pv 3) pe_int (nomark _)) (pss_one (ps_par (i := 2) (j := 3) rfl sc.nd rfl rfl (by decide) rfl rfl (pa_cons (pv 3) (pa_cons (pe_op op_modN (pe_callTy call_int1 (by rfl) m_int (by decide +kernel) (pa_cons (pv 2) pa_nil)) (pv 3)) pa_nil)) (by rfl)))) (pss_one (ps_ret (pe_tup (pa_cons (pe_op op_fdivA (pv 0) (pv 2)) (pa_cons (pe_op op_fdivA (pv 1) (pv 2)) pa_nil))))))), ?_⟩)
  exact body_ok (N := N_law_lowest) (n := 2) (k := 2) (fix := []) (F := F_law_lowest) rfl (by decide) (ss_seq (ss_par (sa_cons se_var (sa_cons se_var sa_nil)) (by decide) (by decide)) (ss_seq (ss_while 3000 (st_test (se_op ro_gt se_var se_int)) (ss_par (sa_cons se_var (sa_cons (se_op ro_mod (se_cb rc_int (sa_cons se_var sa_nil)) se_var) sa_nil)) (by decide) (by decide))) (ss_ret (se_tup (sa_cons (se_op ro_fdiv se_var se_var) (sa_cons (se_op ro_fdiv se_var se_var) sa_nil)))))) h

abbrev s_law_pair_right : Stmt := topS 43
abbrev N_law_pair_right : List Str := ["store", "deal", "rows", "who", "lots", "found", "ways_here", "due", "tops", "spot", "rest", "some", "left", "top", "own", "told"]
theorem sc_law_pair_right : FnScope N_law_pair_right ["store", "deal", "rows"] (defScope s_law_pair_right) := ⟨rfl, rfl, rfl, by decide +kernel, rfl, by decide +kernel, by decide +kernel⟩
def F_law_pair_right : En → Option Out := (sSeq (sParN [3, 4] (aCons (eCall1 2 m_law_pick (aCons (eVar 0) (aCons (eCB bLen (aCons (eVar 1) aNil)) aNil))) (aCons (eLc [5, 6] (iEnumF (aCons (eVar 2) aNil)) (tgTup 2 (tgCons (tgName 5) (tgCons (tgName 6) tgNil))) (bTest (eOp dGt (eVar 6) (eC (.int 0)))) (eVar 5)) aNil)))
    (sSeq (sSet 5 (eOp dIx (eVar 4) (eCall1 2 m_law_pick (aCons (eVar 0) (aCons (eCB bLen (aCons (eVar 4) aNil)) aNil)))))
    (sSeq (sParN [7, 8] (aCons (eLst aNil) (aCons (eC (.int 0)) aNil)))
    (sSeq (sFor (iR1 (aCons (eCB bLen (aCons (eVar 1) aNil)) aNil)) (tgName 9)
    (sSeq (sSet 10 (eLc [14] (iSeq (eOpL dCat (eSl (eVar 1) oNone (oSome (eVar 3))) (eSl (eVar 1) (oSome (eOp dAdd (eVar 3) (eC (.int 1)))) oNone))) (tgName 14) bYes (eOp dSub (eVar 14) (eCB bInt (aCons (eOp dGt (eVar 14) (eVar 9)) aNil)))))
    (sSeq (sSeq (sFrz 10) (sParN [11, 12] (aCons (eCall 1 m_law_hits (aCons (eVar 10) aNil)) (aCons (eOp dSub (eVar 5) (eCB bInt (aCons (eOp dLt (eVar 9) (eOp dIx (eVar 1) (eVar 3))) aNil))) aNil))))
    (sSeq (sSet 13 (eIf (bTest (eChain dLe dLt (eC (.int 0)) (eVar 12) (eCB bLen (aCons (eVar 11) aNil)))) (eOp dIx (eVar 11) (eVar 12)) (eC (.int 0))))
    (sSeq (sExpr (eAppend 7 (aCons (eCall 2 m_law_lowest (aCons (eVar 13) (aCons (eOp dIx (eVar 2) (eVar 5)) aNil))) aNil)))
    (sSet 8 (eOp dAdd (eVar 8) (eVar 13))))))))
    (sSeq (sSeq (sDrop 9) (sSet 15 (eLc [9] (iR1 (aCons (eCB bLen (aCons (eVar 1) aNil)) aNil)) (tgName 9) bYes (eCall 4 m_pair_by_hits (aCons (eVar 1) (aCons (eVar 3) (aCons (eVar 9) (aCons (eVar 5) aNil))))))))
    (sRet (eAnd (eOp dEqS (eCB bReprD (aCons (eVar 15) aNil)) (eCB bReprD (aCons (eVar 7) aNil))) (eOp dEq (eVar 8) (eOp dIx (eVar 2) (eVar 5))))))))))
def m_law_pair_right : En → Option Res := bodyM [0] 3 13 F_law_pair_right
set_option maxHeartbeats 4000000 in
theorem ok_law_pair_right {f : Addr} {fd : FuncData} (F : Fun K "_law_pair_right" "_law_pair_right" s_law_pair_right f fd) (m_enumerate : mg "enumerate" = none) (m_len : mg "len" = none) (m_range : mg "range" = none) (m_int : mg "int" = none) (m_repr : mg "repr" = none) (d_law_pick : DefG P w K mg base "_law_pick" ["store", "bound"] 1 m_law_pick) (d_law_hits : DefG P w K mg base "_law_hits" ["deal"] 2 m_law_hits) (d_law_lowest : DefG P w K mg base "_law_lowest" ["top", "bottom"] 1 m_law_lowest) (d_pair_by_hits : DefG P w K mg base "pair_by_hits" ["team", "worker", "job", "hits"] 5 m_pair_by_hits) : FnG P w K mg base CX0 6 f fd ["store", "deal", "rows"] (SpM K 3 m_law_pair_right) := by
  have sc := sc_law_pair_right
  refine funG F sc_law_pair_right (fun vs H Q E h => h.1) (fun cdv A outer s H vs Q E hr h => ⟨_, (pss_cons (ps_asg (pe_tup (pa_cons (pe_dG (by exact d_law_pick) (by rfl) (by exact hr) (by decide) (by rfl) (pa_cons (pv 0) (pa_cons (pe_callB call_len_seq (by rfl) m_len PySem.boot_len (pa_cons (pv 1) pa_nil)) pa_nil)) (by decide) (by rfl) (by rfl)) (pa_cons (pe_lc (own := [("found", 5), ("ways_here", 6)]) (g := (gTup K 2 (gCons (gName 5) (gCons (gName 6) gNil)))) (tt := (tTest (tOp rGtI (tVar 6) (tC (.int 0))))) (te := (tVar 5)) rfl sc.nd (pi_enum (by rfl) m_enumerate (pa_cons (pv 2) pa_nil)) (blkOk_by (N := N_law_pair_right) (sc := defScope s_law_pair_right) (by decide +kernel)) (fun _ _ _ _ _ => by exact (pg_tup rfl (pgs_cons (pg_name (i := 5) sc.nd rfl (by first | exact Or.inl rfl | exact Or.inr rfl)) (pgs_cons (pg_name (i := 6) sc.nd rfl (by first | exact Or.inl rfl | exact Or.inr rfl)) pgs_nil)))) (fun _ _ _ _ _ => by exact (pts_one (pt_cmpR op_gt (pv 6) pe_int (nomark _)))) (fun _ _ _ _ _ => by exact (pv 5))) pa_nil))) (pg_tup rfl (pgs_cons (pg_name (i := 3) sc.nd rfl (by first | exact .inl rfl | exact .inr rfl)) (pgs_cons (pg_name (i := 4) sc.nd rfl (by first | exact .inl rfl | exact .inr rfl)) pgs_nil)))) (pss_cons (ps_set (i := 5) sc.nd rfl (by first | exact .inl rfl | exact .inr rfl) (pe_ix ix_seq (pv 4) (pe_dG (by exact d_law_pick) (by rfl) (by exact hr) (by decide) (by rfl) (pa_cons (pv 0) (pa_cons (pe_callB call_len_seq (by rfl) m_len PySem.boot_len (pa_cons (pv 4) pa_nil)) pa_nil)) (by decide) (by rfl) (by rfl)) (fun _ _ => rfl))) (pss_cons (ps_par (i := 7) (j := 8) rfl sc.nd rfl rfl (by decide) rfl rfl (pa_cons (pe_lst pa_nil) (pa_cons pe_int pa_nil)) (by rfl)) (pss_cons (ps_for PassesOwn.never rfl (pi_range1 (by rfl) m_range (pa_cons (pe_callB call_len_seq (by rfl) m_len PySem.boot_len (pa_cons (pv 1) pa_nil)) pa_nil)) (pg_name (i := 9) sc.nd rfl (by first | exact .inl rfl | exact .inr rfl)) (pss_cons (by first | exact (ps_setLc (i := 10) (own := [("own", 14)]) (g := (gName 14)) (tt := tYes) (te := (tOp rSubI (tVar 14) (tCB (rInt1) (tCons (tOp rGtI (tVar 14) (tVar 9)) tNil)))) rfl sc.nd rfl rfl (sw_true rfl rfl rfl (by decide +kernel)) (pi_list (pe_op op_cat (pe_slice sl_list (pv 1) po_none (po_some (pv 3))) (pe_slice sl_list (pv 1) (po_some (pe_op op_add (pv 3) pe_int)) po_none))) (blkOk_by (N := N_law_pair_right) (sc := defScope s_law_pair_right) (by decide +kernel)) (fun _ _ _ _ _ => by exact (pg_name (i := 14) sc.nd rfl (by first | exact Or.inl rfl | exact Or.inr rfl))) (fun _ _ _ _ _ => by exact pts_nil) (fun _ _ _ _ _ => by exact (pe_op op_sub (pv 14) (pe_callTy call_int1 (by rfl) m_int (by decide +kernel) (pa_cons (pe_cmpR op_gt (pv 14) (pv 9) (nomark _)) pa_nil))))) | exact (ps_set (i := 10) sc.nd rfl (by first | exact .inl rfl | exact .inr rfl) (pe_lc (own := [("own", 14)]) (g := (gName 14)) (tt := tYes) (te := (tOp rSubI (tVar 14) (tCB (rInt1) (tCons (tOp rGtI (tVar 14) (tVar 9)) tNil)))) rfl sc.nd (pi_list (pe_op op_cat (pe_slice sl_list (pv 1) po_none (po_some (pv 3))) (pe_slice sl_list (pv 1) (po_some (pe_op op_add (pv 3) pe_int)) po_none))) (blkOk_by (N := N_law_pair_right) (sc := defScope s_law_pair_right) (by decide +kernel)) (fun _ _ _ _ _ => by exact (pg_name (i := 14) sc.nd rfl (by first | exact Or.inl rfl | exact Or.inr rfl))) (fun _ _ _ _ _ => by exact pts_nil) (fun _ _ _ _ _ => by exact (pe_op op_sub (pv 14) (pe_callTy call_int1 (by rfl) m_int (by decide +kernel) (pa_cons (pe_cmpR op_gt (pv 14) (pv 9) (nomark _)) pa_nil))))))) (pss_cons (ps_par (i := 11) (j := 12) rfl sc.nd rfl rfl (by decide) rfl rfl (pa_cons (pe_dG (by exact d_law_hits) (by rfl) (by exact hr) (by decide) (by rfl) (pa_cons (pv 10) pa_nil) (by decide) (by rfl) (by rfl)) (pa_cons (pe_op op_sub (pv 5) (pe_callTy call_int1 (by rfl) m_int (by decide +kernel) (pa_cons (pe_cmpR op_lt (pv 9) (pe_ix ix_seq (pv 1) (pv 3) (fun _ _ => rfl)) (nomark _)) pa_nil))) pa_nil)) (by rfl)) (pss_cons (ps_set (i := 13) sc.nd rfl (by first | exact .inl rfl | exact .inr rfl) (pe_ifExp (pt_chain op_le op_lt pe_int (pv 12) (pe_callB call_len_seq (by rfl) m_len PySem.boot_len (pa_cons (pv 11) pa_nil))) (pe_ix ix_seq (pv 11) (pv 12) (fun _ _ => rfl)) pe_int)) (pss_cons (ps_expr (pe_bm PySem.F.plainAttrs_list PySem.F.slot_list_append PySem.F.type_list_append mt_append (pv 7) (pa_cons (pe_dG (by exact d_law_lowest) (by rfl) (by exact hr) (by decide) (by rfl) (pa_cons (pv 13) (pa_cons (pe_ix ix_seq (pv 2) (pv 5) (fun _ _ => rfl)) pa_nil)) (by decide) (by rfl) (by rfl)) pa_nil))) (pss_one (ps_set (i := 8) sc.nd rfl (by first | exact .inl rfl | exact .inr rfl) (pe_op op_add (pv 8) (pv 13))))))))) (pss_cons (by first | exact (ps_setLc (i := 15) (own := [("spot", 9)]) (g := (gName 9)) (tt := tYes) (te := (tCall (SpM K 4 m_pair_by_hits) [] E0 (tCons (tVar 1) (tCons (tVar 3) (tCons (tVar 9) (tCons (tVar 5) tNil)))))) rfl sc.nd rfl rfl (sw_true rfl rfl rfl (by decide +kernel)) (pi_range1 (by rfl) m_range (pa_cons (pe_callB call_len_seq (by rfl) m_len PySem.boot_len (pa_cons (pv 1) pa_nil)) pa_nil)) (blkOk_by (N := N_law_pair_right) (sc := defScope s_law_pair_right) (by decide +kernel)) (fun _ _ _ _ _ => by exact (pg_name (i := 9) sc.nd rfl (by first | exact Or.inl rfl | exact Or.inr rfl))) (fun _ _ _ _ _ => by exact pts_nil) (fun _ _ _ _ _ => by exact (pe_dG (by exact d_pair_by_hits) (by rfl) (by exact hr) (by decide) (by rfl) (pa_cons (pv 1) (pa_cons (pv 3) (pa_cons (pv 9) (pa_cons (pv 5) pa_nil)))) (by decide) (by rfl) (by rfl)))) | exact (ps_set (i := 15) sc.nd rfl (by first | exact .inl rfl | exact .inr rfl) (pe_lc (own := [("spot", 9)]) (g := (gName 9)) (tt := tYes) (te := (tCall (SpM K 4 m_pair_by_hits) [] E0 (tCons (tVar 1) (tCons (tVar 3) (tCons (tVar 9) (tCons (tVar 5) tNil)))))) rfl sc.nd (pi_range1 (by rfl) m_range (pa_cons (pe_callB call_len_seq (by rfl) m_len PySem.boot_len (pa_cons (pv 1) pa_nil)) pa_nil)) (blkOk_by (N := N_law_pair_right) (sc := defScope s_law_pair_right) (by decide +kernel)) (fun _ _ _ _ _ => by exact (pg_name (i := 9) sc.nd rfl (by first | exact Or.inl rfl | exact Or.inr rfl))) (fun _ _ _ _ _ => by exact pts_nil) (fun _ _ _ _ _ => by exact (pe_dG (by exact d_pair_by_hits) (by rfl) (by exact hr) (by decide) (by rfl) (pa_cons (pv 1) (pa_cons (pv 3) (pa_cons (pv 9) (pa_cons (pv 5) pa_nil)))) (by decide) (by rfl) (by rfl)))))) (pss_one (ps_ret (pe_and (pe_cmpR op_eq (pe_callB (call_reprD hr.gd hr.units) (by rfl) m_repr (by decide +kernel) (pa_cons (pv 15) pa_nil)) (pe_callB (call_reprD hr.gd hr.units) (by rfl) m_repr (by decide +kernel) (pa_cons (pv 7) pa_nil)) (nomark _)) (pe_one (pe_cmpR (op_eqD hr.units) (pv 8) (pe_ix ix_seq (pv 2) (pv 5) (fun _ _ => rfl)) (nomark _))))))))))), ?_⟩)
  exact body_ok (N := N_law_pair_right) (n := 3) (k := 13) (fix := [0]) (F := F_law_pair_right) rfl (by decide) (ss_seq (ss_parN (is := [3, 4]) (sad_cons (se_call1 (n := 2) (m := m_law_pick) (sa_cons se_var (sa_cons (se_cb rc_len (sa_cons se_var sa_nil)) sa_nil))) (sad_cons (se_lc (si_enum (sa_cons se_var sa_nil)) (sg_tup (n := 2) (sgs_cons (sg_name (by decide)) (sgs_cons (sg_name (by decide)) sgs_nil))) (by decide) (st_test (se_op ro_gt se_var se_int)) se_var) sad_nil)) rfl (by decide) (by decide)) (ss_seq (ss_set (se_op ro_ix se_var (se_call1 (n := 2) (m := m_law_pick) (sa_cons se_var (sa_cons (se_cb rc_len (sa_cons se_var sa_nil)) sa_nil)))) (by decide)) (ss_seq (ss_parN2 (i := 7) (j := 8) (sad_cons (se_lst sa_nil) (sad_cons se_int sad_nil)) (by decide)) (ss_seq (ss_for (si_r1 (sa_cons (se_cb rc_len (sa_cons se_var sa_nil)) sa_nil)) (sg_name (by decide)) (ss_seq (ss_set (se_lc (si_list (se_opL rol_cat (se_sl se_var so_none (so_some se_var)) (se_sl se_var (so_some (se_op ro_add se_var se_int)) so_none))) (sg_name (by decide)) (by decide) st_yes (se_op ro_sub se_var (se_cb rc_int (sa_cons (se_op ro_gt se_var se_var) sa_nil)))) (by decide)) (ss_seq (ss_pre (i := 10) (ss_parN2 (i := 11) (j := 12) (sad_cons (se_call (n := 1) (m := m_law_hits) (sa_cons se_var sa_nil)) (sad_cons (se_op ro_sub se_var (se_cb rc_int (sa_cons (se_op ro_lt se_var (se_op ro_ix se_var se_var)) sa_nil))) sad_nil)) (by decide))) (ss_seq (ss_set (se_if (st_test (se_chain ros_le ros_lt se_int se_var (se_cb rc_len (sa_cons se_var sa_nil)))) (se_op ro_ix se_var se_var) se_int) (by decide)) (ss_seq (ss_expr (se_append (sa_cons (se_call (n := 2) (m := m_law_lowest) (sa_cons se_var (sa_cons (se_op ro_ix se_var se_var) sa_nil))) sa_nil))) (ss_set (se_op ro_add se_var se_var) (by decide))))))) (ss_seq (ss_drop (i := 9) (ss_set (se_lc (si_r1 (sa_cons (se_cb rc_len (sa_cons se_var sa_nil)) sa_nil)) (sg_name (by decide)) (by decide) st_yes (se_call (n := 4) (m := m_pair_by_hits) (sa_cons se_var (sa_cons se_var (sa_cons se_var (sa_cons se_var sa_nil)))))) (by decide))) (ss_ret (se_and (se_op ro_eqS (se_cb rc_reprD (sa_cons se_var sa_nil)) (se_cb rc_reprD (sa_cons se_var sa_nil))) (se_op ro_eq se_var (se_op ro_ix se_var se_var))))))))) h

abbrev s_law_right : Stmt := topS 44
abbrev N_law_right : List Str := ["store", "deal", "kept", "rows", "top", "found", "ways_here", "told"]
theorem sc_law_right : FnScope N_law_right ["store", "deal"] (defScope s_law_right) := ⟨rfl, rfl, rfl, by decide +kernel, rfl, by decide +kernel, by decide +kernel⟩
def F_law_right : En → Option Out := (sSeq (sParN [2, 3] (aCons (eCBL bList (aCons (eVar 1) aNil)) (aCons (eCall 1 m_law_hits (aCons (eVar 1) aNil)) aNil)))
    (sSeq (sIf (bOr (bTest (eOp dNeS (eCB bReprD (aCons (eCall 1 m_hit_counts (aCons (eVar 1) aNil)) aNil)) (eCB bReprD (aCons (eVar 3) aNil)))) (bTest (eOp dNe (eCB bSum (aCons (eVar 3) aNil)) (eCall 1 m_law_factorial (aCons (eCB bLen (aCons (eVar 1) aNil)) aNil)))))
    (sRet (eC (.bl false)))
    sNext)
    (sSeq (sSeq (sFrz 3) (sSet 4 (eCB bSum (aCons (eLc [5, 6] (iEnumF (aCons (eVar 3) aNil)) (tgTup 2 (tgCons (tgName 5) (tgCons (tgName 6) tgNil))) bYes (eOp dMul (eVar 5) (eVar 6))) aNil))))
    (sSeq (sSet 7 (eCall 1 m_mean_hits (aCons (eVar 1) aNil)))
    (sSeq (sIf (bOr (bTest (eOp dNeS (eCB bReprD (aCons (eVar 7) aNil)) (eCB bReprD (aCons (eCall 2 m_law_lowest (aCons (eVar 4) (aCons (eCB bSum (aCons (eVar 3) aNil)) aNil))) aNil)))) (bTest (eOp dNe (eVar 7) (eCall 2 m_law_lowest (aCons (eCB bSum (aCons (eVar 1) aNil)) (aCons (eCB bLen (aCons (eVar 1) aNil)) aNil))))))
    (sRet (eC (.bl false)))
    sNext)
    (sRet (eAnd (eCall1 3 m_law_pair_right (aCons (eVar 0) (aCons (eVar 1) (aCons (eVar 3) aNil)))) (eOp dEq (eVar 1) (eVar 2)))))))))
def m_law_right : En → Option Res := bodyM [0] 2 6 F_law_right
set_option maxHeartbeats 4000000 in
theorem ok_law_right {f : Addr} {fd : FuncData} (F : Fun K "_law_right" "_law_right" s_law_right f fd) (m_list : mg "list" = none) (m_repr : mg "repr" = none) (m_sum : mg "sum" = none) (m_len : mg "len" = none) (m_enumerate : mg "enumerate" = none) (d_law_hits : DefG P w K mg base "_law_hits" ["deal"] 2 m_law_hits) (d_hit_counts : DefG P w K mg base "hit_counts" ["team"] 5 m_hit_counts) (d_law_factorial : DefG P w K mg base "_law_factorial" ["upto"] 1 m_law_factorial) (d_mean_hits : DefG P w K mg base "mean_hits" ["team"] 5 m_mean_hits) (d_law_lowest : DefG P w K mg base "_law_lowest" ["top", "bottom"] 1 m_law_lowest) (d_law_pair_right : DefG P w K mg base "_law_pair_right" ["store", "deal", "rows"] 6 m_law_pair_right) : FnG P w K mg base CX0 7 f fd ["store", "deal"] (SpM K 2 m_law_right) := by
  have sc := sc_law_right
  refine funG F sc_law_right (fun vs H Q E h => h.1) (fun cdv A outer s H vs Q E hr h => ⟨_, (pss_cons (ps_par (i := 2) (j := 3) rfl sc.nd rfl rfl (by decide) rfl rfl (pa_cons (pe_callTy call_list_of (by rfl) m_list (by decide +kernel) (pa_cons (pv 1) pa_nil)) (pa_cons (pe_dG (by exact d_law_hits) (by rfl) (by exact hr) (by decide) (by rfl) (pa_cons (pv 1) pa_nil) (by decide) (by rfl) (by rfl)) pa_nil)) (by rfl)) (pss_cons (ps_if (PW.pt (pw_or (pt_cmpR op_ne (pe_callB (call_reprD hr.gd hr.units) (by rfl) m_repr (by decide +kernel) (pa_cons (pe_dG (by exact d_hit_counts) (by rfl) (by exact hr) (by decide) (by rfl) (pa_cons (pv 1) pa_nil) (by decide) (by rfl) (by rfl)) pa_nil)) (pe_callB (call_reprD hr.gd hr.units) (by rfl) m_repr (by decide +kernel) (pa_cons (pv 3) pa_nil)) (nomark _)) (pw_or1 (pt_cmpR (op_neD hr.units) (pe_callB (cr_sum rfl) (by rfl) m_sum (by decide +kernel) (pa_cons (pv 3) pa_nil)) (pe_dG (by exact d_law_factorial) (by rfl) (by exact hr) (by decide) (by rfl) (pa_cons (pe_callB call_len_seq (by rfl) m_len PySem.boot_len (pa_cons (pv 1) pa_nil)) pa_nil) (by decide) (by rfl) (by rfl)) (nomark _))))) (pss_one (ps_ret pe_bl)) pss_nil) (pss_cons (ps_set (i := 4) sc.nd rfl (by first | exact .inl rfl | exact .inr rfl) (pe_callB (cr_sum rfl) (by rfl) m_sum (by decide +kernel) (pa_cons (pe_lc (own := [("found", 5), ("ways_here", 6)]) (g := (gTup K 2 (gCons (gName 5) (gCons (gName 6) gNil)))) (tt := tYes) (te := (tOp rMulA (tVar 5) (tVar 6))) rfl sc.nd (pi_enum (by rfl) m_enumerate (pa_cons (pv 3) pa_nil)) (blkOk_by (N := N_law_right) (sc := defScope s_law_right) (by decide +kernel)) (fun _ _ _ _ _ => by exact (pg_tup rfl (pgs_cons (pg_name (i := 5) sc.nd rfl (by first | exact Or.inl rfl | exact Or.inr rfl)) (pgs_cons (pg_name (i := 6) sc.nd rfl (by first | exact Or.inl rfl | exact Or.inr rfl)) pgs_nil)))) (fun _ _ _ _ _ => by exact pts_nil) (fun _ _ _ _ _ => by exact (pe_op op_mulA (pv 5) (pv 6)))) pa_nil))) (pss_cons (ps_set (i := 7) sc.nd rfl (by first | exact .inl rfl | exact .inr rfl) (pe_dG (by exact d_mean_hits) (by rfl) (by exact hr) (by decide) (by rfl) (pa_cons (pv 1) pa_nil) (by decide) (by rfl) (by rfl))) (pss_cons (ps_if (PW.pt (pw_or (pt_cmpR op_ne (pe_callB (call_reprD hr.gd hr.units) (by rfl) m_repr (by decide +kernel) (pa_cons (pv 7) pa_nil)) (pe_callB (call_reprD hr.gd hr.units) (by rfl) m_repr (by decide +kernel) (pa_cons (pe_dG (by exact d_law_lowest) (by rfl) (by exact hr) (by decide) (by rfl) (pa_cons (pv 4) (pa_cons (pe_callB (cr_sum rfl) (by rfl) m_sum (by decide +kernel) (pa_cons (pv 3) pa_nil)) pa_nil)) (by decide) (by rfl) (by rfl)) pa_nil)) (nomark _)) (pw_or1 (pt_cmpR (op_neD hr.units) (pv 7) (pe_dG (by exact d_law_lowest) (by rfl) (by exact hr) (by decide) (by rfl) (pa_cons (pe_callB (cr_sum rfl) (by rfl) m_sum (by decide +kernel) (pa_cons (pv 1) pa_nil)) (pa_cons (pe_callB call_len_seq (by rfl) m_len PySem.boot_len (pa_cons (pv 1) pa_nil)) pa_nil)) (by decide) (by rfl) (by rfl)) (nomark _))))) (pss_one (ps_ret pe_bl)) pss_nil) (pss_one (ps_ret (pe_and (pe_dG (by exact d_law_pair_right) (by rfl) (by exact hr) (by decide) (by rfl) (pa_cons (pv 0) (pa_cons (pv 1) (pa_cons (pv 3) pa_nil))) (by decide) (by rfl) (by rfl)) (pe_one (pe_cmpR (op_eqD hr.units) (pv 1) (pv 2) (nomark _))))))))))), ?_⟩)
  exact body_ok (N := N_law_right) (n := 2) (k := 6) (fix := [0]) (F := F_law_right) rfl (by decide) (ss_seq (ss_parN2 (i := 2) (j := 3) (sad_cons (se_cbL rcl_list (sa_cons se_var sa_nil)) (sad_cons (se_call (n := 1) (m := m_law_hits) (sa_cons se_var sa_nil)) sad_nil)) (by decide)) (ss_seq (ss_if (st_or (st_test (se_op ro_neS (se_cb rc_reprD (sa_cons (se_call (n := 1) (m := m_hit_counts) (sa_cons se_var sa_nil)) sa_nil)) (se_cb rc_reprD (sa_cons se_var sa_nil)))) (st_test (se_op ro_ne (se_cb rc_sum (sa_cons se_var sa_nil)) (se_call (n := 1) (m := m_law_factorial) (sa_cons (se_cb rc_len (sa_cons se_var sa_nil)) sa_nil))))) (ss_ret se_bl) ss_next) (ss_seq (ss_pre (i := 3) (ss_set (se_cb rc_sum (sa_cons (se_lc (si_enum (sa_cons se_var sa_nil)) (sg_tup (n := 2) (sgs_cons (sg_name (by decide)) (sgs_cons (sg_name (by decide)) sgs_nil))) (by decide) st_yes (se_op ro_mul se_var se_var)) sa_nil)) (by decide))) (ss_seq (ss_set (se_call (n := 1) (m := m_mean_hits) (sa_cons se_var sa_nil)) (by decide)) (ss_seq (ss_if (st_or (st_test (se_op ro_neS (se_cb rc_reprD (sa_cons se_var sa_nil)) (se_cb rc_reprD (sa_cons (se_call (n := 2) (m := m_law_lowest) (sa_cons se_var (sa_cons (se_cb rc_sum (sa_cons se_var sa_nil)) sa_nil))) sa_nil)))) (st_test (se_op ro_ne se_var (se_call (n := 2) (m := m_law_lowest) (sa_cons (se_cb rc_sum (sa_cons se_var sa_nil)) (sa_cons (se_cb rc_len (sa_cons se_var sa_nil)) sa_nil)))))) (ss_ret se_bl) ss_next) (ss_ret (se_and (se_call1 (n := 3) (m := m_law_pair_right) (sa_cons se_var (sa_cons se_var (sa_cons se_var sa_nil)))) (se_op ro_eq se_var se_var)))))))) h

abbrev s_law_deal : Stmt := topS 36
abbrev N_law_deal : List Str := ["store", "most", "top", "size_here", "bent", "some", "turn", "found", "spot"]
theorem sc_law_deal : FnScope N_law_deal ["store", "most", "top"] (defScope s_law_deal) := ⟨rfl, rfl, rfl, by decide +kernel, rfl, by decide +kernel, by decide +kernel⟩
def F_law_deal : En → Option Out := (sSeq (sAsg (eTup (aCons (eOp dAdd (eC (.int 1)) (eCall1 2 m_law_pick (aCons (eVar 0) (aCons (eVar 1) aNil)))) (aCons (eCall1 2 m_law_pick (aCons (eVar 0) (aCons (eC (.int 6)) aNil))) aNil))) (tgTup 2 (tgCons (tgName 3) (tgCons (tgName 4) tgNil))))
    (sSeq (sIf (bTest (eOp dEq (eVar 4) (eC (.int 1))))
    (sSeq (sSet 5 (eLc [6] (iR1 (aCons (eC (.int 2)) aNil)) (tgName 6) bYes (eCall1 2 m_law_pick (aCons (eVar 0) (aCons (eOp dAdd (eVar 2) (eC (.int 1))) aNil)))))
    (sRet (eLc [6] (iR1 (aCons (eVar 3) aNil)) (tgName 6) bYes (eOp dIx (eVar 5) (eCall1 2 m_law_pick (aCons (eVar 0) (aCons (eC (.int 2)) aNil)))))))
    sNext)
    (sSeq (sIf (bTest (eOp dEq (eVar 4) (eC (.int 2))))
    (sRet (eLc [6] (iR1 (aCons (eVar 3) aNil)) (tgName 6) bYes (eCall1 2 m_law_pick (aCons (eVar 0) (aCons (eOp dAdd (eCB bMin2 (aCons (eVar 2) (aCons (eC (.int 2)) aNil))) (eC (.int 1))) aNil)))))
    sNext)
    (sSeq (sIf (bTest (eOp dEq (eVar 4) (eC (.int 3))))
    (sSeq (sSet 7 (eLc [8] (iR1 (aCons (eVar 3) aNil)) (tgName 8) bYes (eCB bMin2 (aCons (eVar 2) (aCons (eOp dAdd (eVar 8) (eCall1 2 m_law_pick (aCons (eVar 0) (aCons (eC (.int 2)) aNil)))) aNil)))))
    (sRet (eLc [6] (iR1 (aCons (eVar 3) aNil)) (tgName 6) bYes (eaPop 7 (aCons (eCall1 2 m_law_pick (aCons (eVar 0) (aCons (eCB bLen (aCons (eVar 7) aNil)) aNil))) aNil)))))
    sNext)
    (sSeq (sIf (bTest (eOp dEq (eVar 4) (eC (.int 4))))
    (sRet (eOpL dRep (eLst (aCons (eCall1 2 m_law_pick (aCons (eVar 0) (aCons (eOp dAdd (eVar 2) (eC (.int 1))) aNil))) aNil)) (eVar 3)))
    sNext)
    (sRet (eLc [6] (iR1 (aCons (eVar 3) aNil)) (tgName 6) bYes (eOp dSub (eVar 2) (eCall1 2 m_law_pick (aCons (eVar 0) (aCons (eOp dIx (eLst (aCons (eOp dAdd (eVar 2) (eC (.int 1))) (aCons (eOp dAdd (eCB bMin2 (aCons (eVar 2) (aCons (eC (.int 3)) aNil))) (eC (.int 1))) aNil))) (eCB bInt (aCons (eOp dEq (eVar 4) (eC (.int 5))) aNil))) aNil)))))))))))
def m_law_deal : En → Option Res := bodyM [0] 3 6 F_law_deal
set_option maxHeartbeats 4000000 in
theorem ok_law_deal {f : Addr} {fd : FuncData} (F : Fun K "_law_deal" "_law_deal" s_law_deal f fd) (m_range : mg "range" = none) (m_min : mg "min" = none) (m_len : mg "len" = none) (m_int : mg "int" = none) (d_law_pick : DefG P w K mg base "_law_pick" ["store", "bound"] 1 m_law_pick) : FnG P w K mg base CX0 2 f fd ["store", "most", "top"] (SpM K 3 m_law_deal) := by
  have sc := sc_law_deal
  refine funG F sc_law_deal (fun vs H Q E h => h.1) (fun cdv A outer s H vs Q E hr h => ⟨_, (pss_cons (ps_asg (pe_tup (pa_cons (pe_op op_add pe_int (pe_dG (by exact d_law_pick) (by rfl) (by exact hr) (by decide) (by rfl) (pa_cons (pv 0) (pa_cons (pv 1) pa_nil)) (by decide) (by rfl) (by rfl))) (pa_cons (pe_dG (by exact d_law_pick) (by rfl) (by exact hr) (by decide) (by rfl) (pa_cons (pv 0) (pa_cons pe_int pa_nil)) (by decide) (by rfl) (by rfl)) pa_nil))) (pg_tup rfl (pgs_cons (pg_name (i := 3) sc.nd rfl (by first | exact .inl rfl | exact .inr rfl)) (pgs_cons (pg_name (i := 4) sc.nd rfl (by first | exact .inl rfl | exact .inr rfl)) pgs_nil)))) (pss_cons (ps_if (pt_cmpR (op_eqD hr.units) (pv 4) pe_int (nomark _)) (pss_cons (by first | exact (ps_setLc (i := 5) (own := [("turn", 6)]) (g := (gName 6)) (tt := tYes) (te := (tCall (SpM K 2 m_law_pick) [] E0 (tCons (tVar 0) (tCons (tOp rAddI (tVar 2) (tC (.int 1))) tNil)))) rfl sc.nd rfl rfl (sw_true rfl rfl rfl (by decide +kernel)) (pi_range1 (by rfl) m_range (pa_cons pe_int pa_nil)) (blkOk_by (N := N_law_deal) (sc := defScope s_law_deal) (by decide +kernel)) (fun _ _ _ _ _ => by exact (pg_name (i := 6) sc.nd rfl (by first | exact Or.inl rfl | exact Or.inr rfl))) (fun _ _ _ _ _ => by exact pts_nil) (fun _ _ _ _ _ => by exact (pe_dG (by exact d_law_pick) (by rfl) (by exact hr) (by decide) (by rfl) (pa_cons (pv 0) (pa_cons (pe_op op_add (pv 2) pe_int) pa_nil)) (by decide) (by rfl) (by rfl)))) | exact (ps_set (i := 5) sc.nd rfl (by first | exact .inl rfl | exact .inr rfl) (pe_lc (own := [("turn", 6)]) (g := (gName 6)) (tt := tYes) (te := (tCall (SpM K 2 m_law_pick) [] E0 (tCons (tVar 0) (tCons (tOp rAddI (tVar 2) (tC (.int 1))) tNil)))) rfl sc.nd (pi_range1 (by rfl) m_range (pa_cons pe_int pa_nil)) (blkOk_by (N := N_law_deal) (sc := defScope s_law_deal) (by decide +kernel)) (fun _ _ _ _ _ => by exact (pg_name (i := 6) sc.nd rfl (by first | exact Or.inl rfl | exact Or.inr rfl))) (fun _ _ _ _ _ => by exact pts_nil) (fun _ _ _ _ _ => by exact (pe_dG (by exact d_law_pick) (by rfl) (by exact hr) (by decide) (by rfl) (pa_cons (pv 0) (pa_cons (pe_op op_add (pv 2) pe_int) pa_nil)) (by decide) (by rfl) (by rfl)))))) (pss_one (ps_ret (pe_lc (own := [("turn", 6)]) (g := (gName 6)) (tt := tYes) (te := (tOp (rIx K) (tVar 5) (tCall (SpM K 2 m_law_pick) [] E0 (tCons (tVar 0) (tCons (tC (.int 2)) tNil))))) rfl sc.nd (pi_range1 (by rfl) m_range (pa_cons (pv 3) pa_nil)) (blkOk_by (N := N_law_deal) (sc := defScope s_law_deal) (by decide +kernel)) (fun _ _ _ _ _ => by exact (pg_name (i := 6) sc.nd rfl (by first | exact Or.inl rfl | exact Or.inr rfl))) (fun _ _ _ _ _ => by exact pts_nil) (fun _ _ _ _ _ => by exact (pe_ix ix_seq (pv 5) (pe_dG (by exact d_law_pick) (by rfl) (by exact hr) (by decide) (by rfl) (pa_cons (pv 0) (pa_cons pe_int pa_nil)) (by decide) (by rfl) (by rfl)) (fun _ _ => rfl))))))) pss_nil) (pss_cons (ps_if (pt_cmpR (op_eqD hr.units) (pv 4) pe_int (nomark _)) (pss_one (ps_ret (pe_lc (own := [("turn", 6)]) (g := (gName 6)) (tt := tYes) (te := (tCall (SpM K 2 m_law_pick) [] E0 (tCons (tVar 0) (tCons (tOp rAddI (tCB rMn2 (tCons (tVar 2) (tCons (tC (.int 2)) tNil))) (tC (.int 1))) tNil)))) rfl sc.nd (pi_range1 (by rfl) m_range (pa_cons (pv 3) pa_nil)) (blkOk_by (N := N_law_deal) (sc := defScope s_law_deal) (by decide +kernel)) (fun _ _ _ _ _ => by exact (pg_name (i := 6) sc.nd rfl (by first | exact Or.inl rfl | exact Or.inr rfl))) (fun _ _ _ _ _ => by exact pts_nil) (fun _ _ _ _ _ => by exact (pe_dG (by exact d_law_pick) (by rfl) (by exact hr) (by decide) (by rfl) (pa_cons (pv 0) (pa_cons (pe_op op_add (pe_callB (call_min2 rfl) (by rfl) m_min (by decide +kernel) (pa_cons (pv 2) (pa_cons pe_int pa_nil))) pe_int) pa_nil)) (by decide) (by rfl) (by rfl)))))) pss_nil) (pss_cons (ps_if (pt_cmpR (op_eqD hr.units) (pv 4) pe_int (nomark _)) (pss_cons (by first | exact (ps_setLc (i := 7) (own := [("spot", 8)]) (g := (gName 8)) (tt := tYes) (te := (tCB rMn2 (tCons (tVar 2) (tCons (tOp rAddI (tVar 8) (tCall (SpM K 2 m_law_pick) [] E0 (tCons (tVar 0) (tCons (tC (.int 2)) tNil)))) tNil)))) rfl sc.nd rfl rfl (sw_true rfl rfl rfl (by decide +kernel)) (pi_range1 (by rfl) m_range (pa_cons (pv 3) pa_nil)) (blkOk_by (N := N_law_deal) (sc := defScope s_law_deal) (by decide +kernel)) (fun _ _ _ _ _ => by exact (pg_name (i := 8) sc.nd rfl (by first | exact Or.inl rfl | exact Or.inr rfl))) (fun _ _ _ _ _ => by exact pts_nil) (fun _ _ _ _ _ => by exact (pe_callB (call_min2 rfl) (by rfl) m_min (by decide +kernel) (pa_cons (pv 2) (pa_cons (pe_op op_add (pv 8) (pe_dG (by exact d_law_pick) (by rfl) (by exact hr) (by decide) (by rfl) (pa_cons (pv 0) (pa_cons pe_int pa_nil)) (by decide) (by rfl) (by rfl))) pa_nil))))) | exact (ps_set (i := 7) sc.nd rfl (by first | exact .inl rfl | exact .inr rfl) (pe_lc (own := [("spot", 8)]) (g := (gName 8)) (tt := tYes) (te := (tCB rMn2 (tCons (tVar 2) (tCons (tOp rAddI (tVar 8) (tCall (SpM K 2 m_law_pick) [] E0 (tCons (tVar 0) (tCons (tC (.int 2)) tNil)))) tNil)))) rfl sc.nd (pi_range1 (by rfl) m_range (pa_cons (pv 3) pa_nil)) (blkOk_by (N := N_law_deal) (sc := defScope s_law_deal) (by decide +kernel)) (fun _ _ _ _ _ => by exact (pg_name (i := 8) sc.nd rfl (by first | exact Or.inl rfl | exact Or.inr rfl))) (fun _ _ _ _ _ => by exact pts_nil) (fun _ _ _ _ _ => by exact (pe_callB (call_min2 rfl) (by rfl) m_min (by decide +kernel) (pa_cons (pv 2) (pa_cons (pe_op op_add (pv 8) (pe_dG (by exact d_law_pick) (by rfl) (by exact hr) (by decide) (by rfl) (pa_cons (pv 0) (pa_cons pe_int pa_nil)) (by decide) (by rfl) (by rfl))) pa_nil))))))) (pss_one (ps_ret (pe_lc (own := [("turn", 6)]) (g := (gName 6)) (tt := tYes) (te := (tBM K "list" rPopAt (tVar 7) (tCons (tCall (SpM K 2 m_law_pick) [] E0 (tCons (tVar 0) (tCons (tCB (rLenSeq K) (tCons (tVar 7) tNil)) tNil))) tNil))) rfl sc.nd (pi_range1 (by rfl) m_range (pa_cons (pv 3) pa_nil)) (blkOk_by (N := N_law_deal) (sc := defScope s_law_deal) (by decide +kernel)) (fun _ _ _ _ _ => by exact (pg_name (i := 6) sc.nd rfl (by first | exact Or.inl rfl | exact Or.inr rfl))) (fun _ _ _ _ _ => by exact pts_nil) (fun _ _ _ _ _ => by exact (pe_bm PySem.F.plainAttrs_list PySem.F.slot_list_pop PySem.F.type_list_pop mt_popAt (pv 7) (pa_cons (pe_dG (by exact d_law_pick) (by rfl) (by exact hr) (by decide) (by rfl) (pa_cons (pv 0) (pa_cons (pe_callB call_len_seq (by rfl) m_len PySem.boot_len (pa_cons (pv 7) pa_nil)) pa_nil)) (by decide) (by rfl) (by rfl)) pa_nil))))))) pss_nil) (pss_cons (ps_if (pt_cmpR (op_eqD hr.units) (pv 4) pe_int (nomark _)) (pss_one (ps_ret (pe_op op_rep (pe_lst (pa_cons (pe_dG (by exact d_law_pick) (by rfl) (by exact hr) (by decide) (by rfl) (pa_cons (pv 0) (pa_cons (pe_op op_add (pv 2) pe_int) pa_nil)) (by decide) (by rfl) (by rfl)) pa_nil)) (pv 3)))) pss_nil) (pss_one (ps_ret (pe_lc (own := [("turn", 6)]) (g := (gName 6)) (tt := tYes) (te := (tOp rSubI (tVar 2) (tCall (SpM K 2 m_law_pick) [] E0 (tCons (tVar 0) (tCons (tOp (rIx K) (tLst (tCons (tOp rAddI (tVar 2) (tC (.int 1))) (tCons (tOp rAddI (tCB rMn2 (tCons (tVar 2) (tCons (tC (.int 3)) tNil))) (tC (.int 1))) tNil))) (tCB (rInt1) (tCons (tOp (rEqD K) (tVar 4) (tC (.int 5))) tNil))) tNil))))) rfl sc.nd (pi_range1 (by rfl) m_range (pa_cons (pv 3) pa_nil)) (blkOk_by (N := N_law_deal) (sc := defScope s_law_deal) (by decide +kernel)) (fun _ _ _ _ _ => by exact (pg_name (i := 6) sc.nd rfl (by first | exact Or.inl rfl | exact Or.inr rfl))) (fun _ _ _ _ _ => by exact pts_nil) (fun _ _ _ _ _ => by exact (pe_op op_sub (pv 2) (pe_dG (by exact d_law_pick) (by rfl) (by exact hr) (by decide) (by rfl) (pa_cons (pv 0) (pa_cons (pe_ix ix_seq (pe_lst (pa_cons (pe_op op_add (pv 2) pe_int) (pa_cons (pe_op op_add (pe_callB (call_min2 rfl) (by rfl) m_min (by decide +kernel) (pa_cons (pv 2) (pa_cons pe_int pa_nil))) pe_int) pa_nil))) (pe_callTy call_int1 (by rfl) m_int (by decide +kernel) (pa_cons (pe_cmpR (op_eqD hr.units) (pv 4) pe_int (nomark _)) pa_nil)) (fun _ _ => rfl)) pa_nil)) (by decide) (by rfl) (by rfl)))))))))))), ?_⟩)
  exact body_ok (N := N_law_deal) (n := 3) (k := 6) (fix := [0]) (F := F_law_deal) rfl (by decide) (ss_seq (ss_asg (se_tup (sa_cons (se_op ro_add se_int (se_call1 (n := 2) (m := m_law_pick) (sa_cons se_var (sa_cons se_var sa_nil)))) (sa_cons (se_call1 (n := 2) (m := m_law_pick) (sa_cons se_var (sa_cons se_int sa_nil))) sa_nil))) (sg_tup (n := 2) (sgs_cons (sg_name (by decide)) (sgs_cons (sg_name (by decide)) sgs_nil)))) (ss_seq (ss_if (st_test (se_op ro_eq se_var se_int)) (ss_seq (ss_set (se_lc (si_r1 (sa_cons se_int sa_nil)) (sg_name (by decide)) (by decide) st_yes (se_call1 (n := 2) (m := m_law_pick) (sa_cons se_var (sa_cons (se_op ro_add se_var se_int) sa_nil)))) (by decide)) (ss_ret (se_lc (si_r1 (sa_cons se_var sa_nil)) (sg_name (by decide)) (by decide) st_yes (se_op ro_ix se_var (se_call1 (n := 2) (m := m_law_pick) (sa_cons se_var (sa_cons se_int sa_nil))))))) ss_next) (ss_seq (ss_if (st_test (se_op ro_eq se_var se_int)) (ss_ret (se_lc (si_r1 (sa_cons se_var sa_nil)) (sg_name (by decide)) (by decide) st_yes (se_call1 (n := 2) (m := m_law_pick) (sa_cons se_var (sa_cons (se_op ro_add (se_cb rc_min2 (sa_cons se_var (sa_cons se_int sa_nil))) se_int) sa_nil))))) ss_next) (ss_seq (ss_if (st_test (se_op ro_eq se_var se_int)) (ss_seq (ss_set (se_lc (si_r1 (sa_cons se_var sa_nil)) (sg_name (by decide)) (by decide) st_yes (se_cb rc_min2 (sa_cons se_var (sa_cons (se_op ro_add se_var (se_call1 (n := 2) (m := m_law_pick) (sa_cons se_var (sa_cons se_int sa_nil)))) sa_nil)))) (by decide)) (ss_ret (se_lc (si_r1 (sa_cons se_var sa_nil)) (sg_name (by decide)) (by decide) st_yes (se_popAt (sa_cons (se_call1 (n := 2) (m := m_law_pick) (sa_cons se_var (sa_cons (se_cb rc_len (sa_cons se_var sa_nil)) sa_nil))) sa_nil))))) ss_next) (ss_seq (ss_if (st_test (se_op ro_eq se_var se_int)) (ss_ret (se_opL rol_rep (se_lst (sa_cons (se_call1 (n := 2) (m := m_law_pick) (sa_cons se_var (sa_cons (se_op ro_add se_var se_int) sa_nil))) sa_nil)) se_var)) ss_next) (ss_ret (se_lc (si_r1 (sa_cons se_var sa_nil)) (sg_name (by decide)) (by decide) st_yes (se_op ro_sub se_var (se_call1 (n := 2) (m := m_law_pick) (sa_cons se_var (sa_cons (se_op ro_ix (se_lst (sa_cons (se_op ro_add se_var se_int) (sa_cons (se_op ro_add (se_cb rc_min2 (sa_cons se_var (sa_cons se_int sa_nil))) se_int) sa_nil))) (se_cb rc_int (sa_cons (se_op ro_eq se_var se_int) sa_nil))) sa_nil))))))))))) h

abbrev s_law_low : Stmt := topS 39
abbrev N_law_low : List Str := ["store", "most", "size_here", "found", "own"]
theorem sc_law_low : FnScope N_law_low ["store", "most"] (defScope s_law_low) := ⟨rfl, rfl, rfl, by decide +kernel, rfl, by decide +kernel, by decide +kernel⟩
def F_law_low : En → Option Out := (sSeq (sSet 2 (eOp dAdd (eC (.int 1)) (eCall1 2 m_law_pick (aCons (eVar 0) (aCons (eVar 1) aNil)))))
    (sSeq (sSet 3 (eCall1 3 m_law_deal (aCons (eVar 0) (aCons (eVar 1) (aCons (eVar 2) aNil)))))
    (sRet (eLc [4] (iSeq (eSl (eOpL dCat (eVar 3) (eOpL dRep (eVar 3) (eVar 2))) oNone (oSome (eVar 2)))) (tgName 4) bYes (eCB bMin2 (aCons (eVar 4) (aCons (eVar 2) aNil)))))))
def m_law_low : En → Option Res := bodyM [0] 2 3 F_law_low
set_option maxHeartbeats 4000000 in
theorem ok_law_low {f : Addr} {fd : FuncData} (F : Fun K "_law_low" "_law_low" s_law_low f fd) (m_min : mg "min" = none) (d_law_pick : DefG P w K mg base "_law_pick" ["store", "bound"] 1 m_law_pick) (d_law_deal : DefG P w K mg base "_law_deal" ["store", "most", "top"] 2 m_law_deal) : FnG P w K mg base CX0 3 f fd ["store", "most"] (SpM K 2 m_law_low) := by
  have sc := sc_law_low
  refine funG F sc_law_low (fun vs H Q E h => h.1) (fun cdv A outer s H vs Q E hr h => ⟨_, (pss_cons (ps_set (i := 2) sc.nd rfl (by first | exact .inl rfl | exact .inr rfl) (pe_op op_add pe_int (pe_dG (by exact d_law_pick) (by rfl) (by exact hr) (by decide) (by rfl) (pa_cons (pv 0) (pa_cons (pv 1) pa_nil)) (by decide) (by rfl) (by rfl)))) (pss_cons (ps_set (i := 3) sc.nd rfl (by first | exact .inl rfl | exact .inr rfl) (pe_dG (by exact d_law_deal) (by rfl) (by exact hr) (by decide) (by rfl) (pa_cons (pv 0) (pa_cons (pv 1) (pa_cons (pv 2) pa_nil))) (by decide) (by rfl) (by rfl))) (pss_one (ps_ret (pe_lc (own := [("own", 4)]) (g := (gName 4)) (tt := tYes) (te := (tCB rMn2 (tCons (tVar 4) (tCons (tVar 2) tNil)))) rfl sc.nd (pi_list (pe_slice sl_list (pe_op op_cat (pv 3) (pe_op op_rep (pv 3) (pv 2))) po_none (po_some (pv 2)))) (blkOk_by (N := N_law_low) (sc := defScope s_law_low) (by decide +kernel)) (fun _ _ _ _ _ => by exact (pg_name (i := 4) sc.nd rfl (by first | exact Or.inl rfl | exact Or.inr rfl))) (fun _ _ _ _ _ => by exact pts_nil) (fun _ _ _ _ _ => by exact (pe_callB (call_min2 rfl) (by rfl) m_min (by decide +kernel) (pa_cons (pv 4) (pa_cons (pv 2) pa_nil))))))))), ?_⟩)
  exact body_ok (N := N_law_low) (n := 2) (k := 3) (fix := [0]) (F := F_law_low) rfl (by decide) (ss_seq (ss_set (se_op ro_add se_int (se_call1 (n := 2) (m := m_law_pick) (sa_cons se_var (sa_cons se_var sa_nil)))) (by decide)) (ss_seq (ss_set (se_call1 (n := 3) (m := m_law_deal) (sa_cons se_var (sa_cons se_var (sa_cons se_var sa_nil)))) (by decide)) (ss_ret (se_lc (si_list (se_sl (se_opL rol_cat se_var (se_opL rol_rep se_var se_var)) so_none (so_some se_var))) (sg_name (by decide)) (by decide) st_yes (se_cb rc_min2 (sa_cons se_var (sa_cons se_var sa_nil))))))) h

abbrev s_law : Stmt := topS 45
abbrev N_law : List Str := ["script", "k", "store", "most", "whole", "told"]
theorem sc_law : FnScope N_law ["script"] (defScope s_law) := ⟨rfl, rfl, rfl, by decide +kernel, rfl, by decide +kernel, by decide +kernel⟩
def F_law : En → Option Out := (sSeq (sFor (iR1 (aCons (eCB bMax2 (aCons (eC (.int 1)) (aCons (eCB bMin2 (aCons (eC (.int 3)) (aCons (eCB bLen (aCons (eVar 0) aNil)) aNil))) aNil))) aNil)) (tgName 1)
    (sSeq (sSet 2 (eCall 2 m_law_store (aCons (eVar 0) (aCons (eVar 1) aNil))))
    (sFor (iSeq (eSl (eLst (aCons (eC (.int 20)) (aCons (eC (.int 9)) aNil))) (oSome (eCB bInt (aCons (eOp dGt (eVar 1) (eC (.int 0))) aNil))) oNone)) (tgName 3)
    (sIf (bNot (bTest (eCall1 2 m_law_right (aCons (eVar 2) (aCons (eCall1 2 m_law_low (aCons (eVar 2) (aCons (eVar 3) aNil))) aNil)))))
    (sRet (eC (.bl false)))
    sNext))))
    (sSeq (sSet 4 (eCall 1 m_law_factorial (aCons (eC (.int 20)) aNil)))
    (sSeq (sSet 5 (eLst (aCons (eCall 1 m_hit_counts (aCons (eOpL dRep (eLst (aCons (eC (.int 20)) aNil)) (eC (.int 20))) aNil)) (aCons (eCall 1 m_hit_counts (aCons (eOpL dRep (eLst (aCons (eC (.int 0)) aNil)) (eC (.int 20))) aNil)) (aCons (eCall 1 m_hit_counts (aCons (eOpL dRep (eLst (aCons (eC (.int 1)) aNil)) (eC (.int 20))) aNil)) aNil)))))
    (sSeq (sSeq (sFrz 5) (sIf (bTest (eOp dNe (eVar 5) (eLst (aCons (eOpL dCat (eOpL dRep (eLst (aCons (eC (.int 0)) aNil)) (eC (.int 20))) (eLst (aCons (eVar 4) aNil))) (aCons (eOpL dCat (eLst (aCons (eVar 4) aNil)) (eOpL dRep (eLst (aCons (eC (.int 0)) aNil)) (eC (.int 20)))) (aCons (eOpL dCat (eLst (aCons (eC (.int 0)) (aCons (eVar 4) aNil))) (eOpL dRep (eLst (aCons (eC (.int 0)) aNil)) (eC (.int 19)))) aNil))))))
    (sRet (eC (.bl false)))
    sNext))
    (sSeq (sSet 5 (eLst (aCons (eCall 1 m_hit_counts (aCons (eLr2 (eC (.int 1)) (eC (.int 6))) aNil)) (aCons (eCall 1 m_hit_counts (aCons (eLst (aCons (eC (.int 0)) (aCons (eC (.int 0)) (aCons (eC (.int 0)) (aCons (eC (.int 4)) aNil))))) aNil)) (aCons (eCall 4 m_pair_by_hits (aCons (eLst (aCons (eC (.int 1)) (aCons (eC (.int 2)) (aCons (eC (.int 3)) aNil)))) (aCons (eC (.int 0)) (aCons (eC (.int 0)) (aCons (eC (.int 3)) aNil))))) aNil)))))
    (sSeq (sFrz 5) (sRet (eAnd (eOp dEq (eVar 5) (eLst (aCons (eLst (aCons (eC (.int 0)) (aCons (eC (.int 1)) (aCons (eC (.int 26)) (aCons (eC (.int 66)) (aCons (eC (.int 26)) (aCons (eC (.int 1)) aNil))))))) (aCons (eLst (aCons (eC (.int 0)) (aCons (eC (.int 24)) (aCons (eC (.int 0)) (aCons (eC (.int 0)) (aCons (eC (.int 0)) aNil)))))) (aCons (eTup (aCons (eC (.int 1)) (aCons (eC (.int 1)) aNil))) aNil))))) (eOp dEq (eCall 4 m_pair_by_hits (aCons (eLst (aCons (eC (.int 1)) (aCons (eC (.int 2)) (aCons (eC (.int 3)) aNil)))) (aCons (eC (.int 2)) (aCons (eC (.int 0)) (aCons (eC (.int 1)) aNil))))) (eTup (aCons (eC (.int 1)) (aCons (eC (.int 1)) aNil))))))))))))
def m_law : En → Option Res := bodyM [] 1 5 F_law
set_option maxHeartbeats 4000000 in
theorem ok_law {f : Addr} {fd : FuncData} (F : Fun K "law" "law" s_law f fd) (m_len : mg "len" = none) (m_min : mg "min" = none) (m_max : mg "max" = none) (m_range : mg "range" = none) (m_int : mg "int" = none) (m_list : mg "list" = none) (d_law_store : DefG P w K mg base "_law_store" ["script", "k"] 1 m_law_store) (d_law_low : DefG P w K mg base "_law_low" ["store", "most"] 3 m_law_low) (d_law_right : DefG P w K mg base "_law_right" ["store", "deal"] 7 m_law_right) (d_law_factorial : DefG P w K mg base "_law_factorial" ["upto"] 1 m_law_factorial) (d_hit_counts : DefG P w K mg base "hit_counts" ["team"] 5 m_hit_counts) (d_pair_by_hits : DefG P w K mg base "pair_by_hits" ["team", "worker", "job", "hits"] 5 m_pair_by_hits) : FnG P w K mg base CX0 8 f fd ["script"] (SpM K 1 m_law) := by
  have sc := sc_law
  refine funG F sc_law (fun vs H Q E h => h.1) (fun cdv A outer s H vs Q E hr h => ⟨_, (pss_cons (ps_for PassesOwn.never rfl (pi_range1 (by rfl) m_range (pa_cons (pe_callB (call_max2 rfl) (by rfl) m_max (by decide +kernel) (pa_cons pe_int (pa_cons (pe_callB (call_min2 rfl) (by rfl) m_min (by decide +kernel) (pa_cons pe_int (pa_cons (pe_callB call_len_seq (by rfl) m_len PySem.boot_len (pa_cons (pv 0) pa_nil)) pa_nil))) pa_nil))) pa_nil)) (pg_name (i := 1) sc.nd rfl (by first | exact .inl rfl | exact .inr rfl)) (pss_cons (ps_set (i := 2) sc.nd rfl (by first | exact .inl rfl | exact .inr rfl) (pe_dG (by exact d_law_store) (by rfl) (by exact hr) (by decide) (by rfl) (pa_cons (pv 0) (pa_cons (pv 1) pa_nil)) (by decide) (by rfl) (by rfl))) (pss_one (ps_for PassesOwn.never rfl (pi_list (pe_slice sl_list (pe_lst (pa_cons pe_int (pa_cons pe_int pa_nil))) (po_some (pe_callTy call_int1 (by rfl) m_int (by decide +kernel) (pa_cons (pe_cmpR op_gt (pv 1) pe_int (nomark _)) pa_nil))) po_none)) (pg_name (i := 3) sc.nd rfl (by first | exact .inl rfl | exact .inr rfl)) (pss_one (ps_if (pt_not (pt_val (pe_dG (by exact d_law_right) (by rfl) (by exact hr) (by decide) (by rfl) (pa_cons (pv 2) (pa_cons (pe_dG (by exact d_law_low) (by rfl) (by exact hr) (by decide) (by rfl) (pa_cons (pv 2) (pa_cons (pv 3) pa_nil)) (by decide) (by rfl) (by rfl)) pa_nil)) (by decide) (by rfl) (by rfl)))) (pss_one (ps_ret pe_bl)) pss_nil)))))) (pss_cons (ps_set (i := 4) sc.nd rfl (by first | exact .inl rfl | exact .inr rfl) (pe_dG (by exact d_law_factorial) (by rfl) (by exact hr) (by decide) (by rfl) (pa_cons pe_int pa_nil) (by decide) (by rfl) (by rfl))) (pss_cons (ps_set (i := 5) sc.nd rfl (by first | exact .inl rfl | exact .inr rfl) (pe_lst (pa_cons (pe_dG (by exact d_hit_counts) (by rfl) (by exact hr) (by decide) (by rfl) (pa_cons (pe_op op_rep (pe_lst (pa_cons pe_int pa_nil)) pe_int) pa_nil) (by decide) (by rfl) (by rfl)) (pa_cons (pe_dG (by exact d_hit_counts) (by rfl) (by exact hr) (by decide) (by rfl) (pa_cons (pe_op op_rep (pe_lst (pa_cons pe_int pa_nil)) pe_int) pa_nil) (by decide) (by rfl) (by rfl)) (pa_cons (pe_dG (by exact d_hit_counts) (by rfl) (by exact hr) (by decide) (by rfl) (pa_cons (pe_op op_rep (pe_lst (pa_cons pe_int pa_nil)) pe_int) pa_nil) (by decide) (by rfl) (by rfl)) pa_nil))))) (pss_cons (ps_if (pt_cmpR (op_neD hr.units) (pv 5) (pe_lst (pa_cons (pe_op op_cat (pe_op op_rep (pe_lst (pa_cons pe_int pa_nil)) pe_int) (pe_lst (pa_cons (pv 4) pa_nil))) (pa_cons (pe_op op_cat (pe_lst (pa_cons (pv 4) pa_nil)) (pe_op op_rep (pe_lst (pa_cons pe_int pa_nil)) pe_int)) (pa_cons (pe_op op_cat (pe_lst (pa_cons pe_int (pa_cons (pv 4) pa_nil))) (pe_op op_rep (pe_lst (pa_cons pe_int pa_nil)) pe_int)) pa_nil)))) (nomark _)) (pss_one (ps_ret pe_bl)) pss_nil) (pss_cons (ps_set (i := 5) sc.nd rfl (by first | exact .inl rfl | exact .inr rfl) (pe_lst (pa_cons (pe_dG (by exact d_hit_counts) (by rfl) (by exact hr) (by decide) (by rfl) (pa_cons (pe_listRg rfl (by rfl) m_list (prg_2 (by rfl) m_range pe_int pe_int)) pa_nil) (by decide) (by rfl) (by rfl)) (pa_cons (pe_dG (by exact d_hit_counts) (by rfl) (by exact hr) (by decide) (by rfl) (pa_cons (pe_lst (pa_cons pe_int (pa_cons pe_int (pa_cons pe_int (pa_cons pe_int pa_nil))))) pa_nil) (by decide) (by rfl) (by rfl)) (pa_cons (pe_dG (by exact d_pair_by_hits) (by rfl) (by exact hr) (by decide) (by rfl) (pa_cons (pe_lst (pa_cons pe_int (pa_cons pe_int (pa_cons pe_int pa_nil)))) (pa_cons pe_int (pa_cons pe_int (pa_cons pe_int pa_nil)))) (by decide) (by rfl) (by rfl)) pa_nil))))) (pss_one (ps_ret (pe_and (pe_cmpR (op_eqD hr.units) (pv 5) (pe_lst (pa_cons (pe_lst (pa_cons pe_int (pa_cons pe_int (pa_cons pe_int (pa_cons pe_int (pa_cons pe_int (pa_cons pe_int pa_nil))))))) (pa_cons (pe_lst (pa_cons pe_int (pa_cons pe_int (pa_cons pe_int (pa_cons pe_int (pa_cons pe_int pa_nil)))))) (pa_cons (pe_tup (pa_cons pe_int (pa_cons pe_int pa_nil))) pa_nil)))) (nomark _)) (pe_one (pe_cmpR (op_eqD hr.units) (pe_dG (by exact d_pair_by_hits) (by rfl) (by exact hr) (by decide) (by rfl) (pa_cons (pe_lst (pa_cons pe_int (pa_cons pe_int (pa_cons pe_int pa_nil)))) (pa_cons pe_int (pa_cons pe_int (pa_cons pe_int pa_nil)))) (by decide) (by rfl) (by rfl)) (pe_tup (pa_cons pe_int (pa_cons pe_int pa_nil))) (nomark _))))))))))), ?_⟩)
  exact body_ok (N := N_law) (n := 1) (k := 5) (fix := []) (F := F_law) rfl (by decide) (ss_seq (ss_for (si_r1 (sa_cons (se_cb rc_max2 (sa_cons se_int (sa_cons (se_cb rc_min2 (sa_cons se_int (sa_cons (se_cb rc_len (sa_cons se_var sa_nil)) sa_nil))) sa_nil))) sa_nil)) (sg_name (by decide)) (ss_seq (ss_set (se_call (n := 2) (m := m_law_store) (sa_cons se_var (sa_cons se_var sa_nil))) (by decide)) (ss_for (si_list (se_sl (se_lst (sa_cons se_int (sa_cons se_int sa_nil))) (so_some (se_cb rc_int (sa_cons (se_op ro_gt se_var se_int) sa_nil))) so_none)) (sg_name (by decide)) (ss_if (st_not (st_B (se_call1 (n := 2) (m := m_law_right) (sa_cons se_var (sa_cons (se_call1 (n := 2) (m := m_law_low) (sa_cons se_var (sa_cons se_var sa_nil))) sa_nil))))) (ss_ret se_bl) ss_next)))) (ss_seq (ss_set (se_call (n := 1) (m := m_law_factorial) (sa_cons se_int sa_nil)) (by decide)) (ss_seq (ss_set (se_lst (sa_cons (se_call (n := 1) (m := m_hit_counts) (sa_cons (se_opL rol_rep (se_lst (sa_cons se_int sa_nil)) se_int) sa_nil)) (sa_cons (se_call (n := 1) (m := m_hit_counts) (sa_cons (se_opL rol_rep (se_lst (sa_cons se_int sa_nil)) se_int) sa_nil)) (sa_cons (se_call (n := 1) (m := m_hit_counts) (sa_cons (se_opL rol_rep (se_lst (sa_cons se_int sa_nil)) se_int) sa_nil)) sa_nil)))) (by decide)) (ss_seq (ss_pre (i := 5) (ss_if (st_test (se_op ro_ne se_var (se_lst (sa_cons (se_opL rol_cat (se_opL rol_rep (se_lst (sa_cons se_int sa_nil)) se_int) (se_lst (sa_cons se_var sa_nil))) (sa_cons (se_opL rol_cat (se_lst (sa_cons se_var sa_nil)) (se_opL rol_rep (se_lst (sa_cons se_int sa_nil)) se_int)) (sa_cons (se_opL rol_cat (se_lst (sa_cons se_int (sa_cons se_var sa_nil))) (se_opL rol_rep (se_lst (sa_cons se_int sa_nil)) se_int)) sa_nil)))))) (ss_ret se_bl) ss_next)) (ss_seq (ss_set (se_lst (sa_cons (se_call (n := 1) (m := m_hit_counts) (sa_cons (se_lr2 se_int se_int) sa_nil)) (sa_cons (se_call (n := 1) (m := m_hit_counts) (sa_cons (se_lst (sa_cons se_int (sa_cons se_int (sa_cons se_int (sa_cons se_int sa_nil))))) sa_nil)) (sa_cons (se_call (n := 4) (m := m_pair_by_hits) (sa_cons (se_lst (sa_cons se_int (sa_cons se_int (sa_cons se_int sa_nil)))) (sa_cons se_int (sa_cons se_int (sa_cons se_int sa_nil))))) sa_nil)))) (by decide)) (ss_pre (i := 5) (ss_ret (se_and (se_op ro_eq se_var (se_lst (sa_cons (se_lst (sa_cons se_int (sa_cons se_int (sa_cons se_int (sa_cons se_int (sa_cons se_int (sa_cons se_int sa_nil))))))) (sa_cons (se_lst (sa_cons se_int (sa_cons se_int (sa_cons se_int (sa_cons se_int (sa_cons se_int sa_nil)))))) (sa_cons (se_tup (sa_cons se_int (sa_cons se_int sa_nil))) sa_nil))))) (se_op ro_eq (se_call (n := 4) (m := m_pair_by_hits) (sa_cons (se_lst (sa_cons se_int (sa_cons se_int (sa_cons se_int sa_nil)))) (sa_cons se_int (sa_cons se_int (sa_cons se_int sa_nil))))) (se_tup (sa_cons se_int (sa_cons se_int sa_nil)))))))))))) h
end
end Tk29

set_option Elab.async false
set_option linter.all false
set_option maxRecDepth 100000
set_option exponentiation.threshold 3000
namespace Tk29
open PySem PySem.Spec PyProof.Rows L2 Vm
def c_law_factorial (v_upto : Int) : M Int :=
 bd (rgM 2 (v_upto + 1)) fun t2 =>
 bd (forM (fun (s3 : Int) (x5 : Int) => (bd (mulM s3 x5) fun t7 =>
 pr t7 : M Int)) 1 t2) fun s8 =>
 pr s8
set_option maxHeartbeats 4000000 in
theorem t_law_factorial {v_upto : Int} {r : Int} (h : Hd (c_law_factorial v_upto) r) : ∃ e, m_law_factorial [.sh (D.int v_upto)] = some (.val (D.int r) e) := by
  unfold c_law_factorial at h
  exact m_val (E := D.int) (a := r) rfl (show Go F_law_factorial [.sh (D.int v_upto), .un, .un] ((OV D.int) r) from
 (g_seq (g_set (e2 := [.sh (D.int v_upto), .sh (D.int 1), .un]) ev_c rfl ((g_seq (hbind h fun t2 gt2 h2 =>
 hbind h2 fun s8 gs8 h5 =>
 g_for (E := D.int) (fun (s3 : Int) (j4 : Sl) => [.sh (D.int v_upto), .sh (D.int s3), j4]) (.un) gs8 (i_r2 ev_c (ev_op (ev_sh rfl) ev_c rfl rfl x_add) gt2) rfl (fun s3 x5 j4 r6 h3 => g_tgt (e1 := [.sh (D.int v_upto), .sh (D.int s3), .sh (D.int x5)]) rfl (hbind h3 fun t7 gt7 h4 =>
 g_set (e2 := [.sh (D.int v_upto), .sh (D.int t7), .sh (D.int x5)]) (ev_op (ev_sh rfl) (ev_sh rfl) rfl rfl (o_mul gt7)) rfl ((by have hq := hd_eq h4; (first | subst hq | cases hq); exact nq_nx (shape := (fun (s3 : Int) (j4 : Sl) => [.sh (D.int v_upto), .sh (D.int s3), j4])) (.sh (D.int x5)) rfl)))) (fun j9 => g_ret (ev_sh rfl) ((by have hq := hd_eq h5; (first | subst hq | cases hq); exact ov_val)))))))))

def c_law_store (v_script : (List Int)) (v_k : Int) : M (List Int) :=
 bd (cnd (decide (v_k < ((v_script).length : Int))) (bd (getM v_script v_k) fun t2 =>
 pr (absI t2)) (pr 0)) fun t3 =>
 bd (powM 10 18) fun t4 =>
 bd (powM 10 37) fun t5 =>
 bd (modM t3 (t5 + 43)) fun t6 =>
 bd (mulM t6 83) fun t7 =>
 bd (mulM 7 v_k) fun t8 =>
 pr [(mx2 0 (t3 - t4)), (t7 + t8), 0]
set_option maxHeartbeats 4000000 in
theorem t_law_store {v_script : (List Int)} {v_k : Int} {r : (List Int)} (h : Hd (c_law_store v_script v_k) r) : ∃ e, m_law_store [.sh (D.scr v_script), .sh (D.int v_k)] = some (.fr (List.map D.int r) e) := by
  unfold c_law_store at h
  exact m_fr (E := D.int) (a := r) rfl (show Go F_law_store [.sh (D.scr v_script), .sh (D.int v_k), .un] ((OF 2 D.int) r) from
 (g_seq (hbind h fun t3 gt3 h4 =>
 g_set (e2 := [.sh (D.scr v_script), .sh (D.int v_k), .sh (D.int t3)]) (ev_iteM (K := fun v => R.val (D.int v)) gt3 (tv_x (ev_op (ev_sh rfl) (ev_cb (av_1 (ev_sh rfl) av_0) rfl o_lenS) rfl rfl x_lt)) (fun w1 h1 => hbind h1 fun t2 gt2 h3 =>
 ev_pr (K := fun v => R.val (D.int v)) h3 (ev_cb (av_1 (ev_op (ev_sh rfl) (ev_sh rfl) rfl rfl (o_ixS gt2)) av_0) rfl o_abs)) (fun w1 h2 => ev_pr (K := fun v => R.val (D.int v)) h2 ev_c)) rfl (hbind h4 fun t4 gt4 h5 =>
 hbind h5 fun t5 gt5 h6 =>
 hbind h6 fun t6 gt6 h7 =>
 hbind h7 fun t7 gt7 h8 =>
 hbind h8 fun t8 gt8 h9 =>
 g_ret (ev_lst (ds := List.map D.int [(mx2 0 (t3 - t4)), (t7 + t8), 0]) (av_1 (ev_cb (av_1 ev_c (av_1 (ev_op (ev_sh rfl) (ev_op ev_c ev_c rfl rfl (o_pow gt4)) rfl rfl x_sub) av_0)) rfl o_max2) (av_1 (ev_op (ev_op (ev_op (ev_cb (av_1 (ev_sh rfl) av_0) rfl x_int) (ev_op (ev_op ev_c ev_c rfl rfl (o_pow gt5)) ev_c rfl rfl x_add) rfl rfl (o_mod gt6)) ev_c rfl rfl (o_mul gt7)) (ev_op ev_c (ev_sh rfl) rfl rfl (o_mul gt8)) rfl rfl x_add) (av_1 ev_c av_0))) rfl (Nat.le_of_ble_eq_true rfl)) ((by have hq := hd_eq h9; (first | subst hq | cases hq); exact of_fr))))))

def c_spares_of (v_levels : (List Int)) : M (List Int) :=
 bd (shortM ((enumL (srt v_levels))).length) fun t1 =>
 bd (mapM (fun (x2 : (Int × Int)) => pr (x2.2 - x2.1)) (enumL (srt v_levels))) fun t5 =>
 pr t5
set_option maxHeartbeats 4000000 in
theorem t_spares_of {v_levels : (List Int)} {r : (List Int)} (h : Hd (c_spares_of v_levels) r) : ∃ e, m_spares_of [.sh ((eL D.int) v_levels)] = some (.fr (List.map D.int r) e) := by
  unfold c_spares_of at h
  exact m_fr (E := D.int) (a := r) rfl (show Go F_spares_of [.sh ((eL D.int) v_levels), .un, .un] ((OF 1 D.int) r) from
 hbind h fun t1 gt1 h1 =>
 hbind h1 fun t5 gt5 h3 =>
 g_ret (ev_lcm (E := (eT2 D.int D.int)) (E' := D.int) [.sh ((eL D.int) v_levels), .un, .un] gt5 (i_enum (E := D.int) (ev_cbL (av_1 (ev_sh rfl) av_0) rfl (o_sorted (xs := v_levels))) rfl) gt1.ok rfl rfl rfl (fun x2 m3 => ⟨[.sh ((eL D.int) v_levels), .sh (D.int x2.1), .sh (D.int x2.2)], rfl, fun w4 h2 => (by have hq := hd_eq h2; (first | subst hq | cases hq); exact ⟨_, (ev_op (ev_sh rfl) (ev_sh rfl) rfl rfl x_sub), rfl⟩), rfl⟩)) ((by have hq := hd_eq h3; (first | subst hq | cases hq); exact of_fr)))

def c_is_whole (v_thing : D) : M Bool :=
 bd (isiD (eD v_thing) "int") fun t1 =>
 bd (cnd t1 (bd (isiD (eD v_thing) "bool") fun t2 =>
 pr (!t2)) (pr false)) fun t3 =>
 pr t3
set_option maxHeartbeats 4000000 in
theorem t_is_whole {v_thing : D} {r : Bool} (h : Hd (c_is_whole v_thing) r) : ∃ e, m_is_whole [.sh (eD v_thing)] = some (.val (D.bl r) e) := by
  unfold c_is_whole at h
  exact m_val (E := D.bl) (a := r) rfl (show Go F_is_whole [.sh (eD v_thing)] ((OV D.bl) r) from
 hbind h fun t1 gt1 h1 =>
 hbind h1 fun t3 gt3 h4 =>
 g_ret (ev_andM gt3 (ev_cb (av_1 (ev_sh rfl) (av_1 ev_c av_0)) rfl (o_isiD gt1)) (fun _ h2 => hbind h2 fun t2 gt2 h3 =>
 ev_pr (K := fun v => R.val (D.bl v)) h3 (ev_not (ev_cb (av_1 (ev_sh rfl) (av_1 ev_c av_0)) rfl (o_isiD gt2))))) ((by have hq := hd_eq h4; (first | subst hq | cases hq); exact ov_val)))

def c_is_team (v_thing : D) : M Bool :=
 bd (isiD (eD v_thing) "list") fun t1 =>
 bd (cnd (!t1) (pr true) (bd (asList v_thing) fun t2 =>
 pr (!(decide (1 ≤ ((t2).length : Int)) && decide (((t2).length : Int) ≤ 20))))) fun t3 =>
 cnd t3 (
 pr false) (
 bd (asList v_thing) fun t4 =>
 bd (shortM (t4).length) fun t5 =>
 bd (mapM (fun (x6 : D) => bd (c_is_whole x6) fun t8 =>
 bd (cnd t8 (bd (asInt x6) fun t9 =>
 pr (decide (0 ≤ t9))) (pr false)) fun t10 =>
 pr t10) t4) fun t12 =>
 cnd (!(List.all t12 id)) (
 pr false) (
 bd (asInts v_thing) fun t13 =>
 bd (c_spares_of t13) fun t14 =>
 bd (maxM t14) fun t15 =>
 pr (decide (t15 ≤ 40))))
set_option maxHeartbeats 4000000 in
theorem t_is_team {v_thing : D} {r : Bool} (h : Hd (c_is_team v_thing) r) : ∃ e, m_is_team [.sh (eD v_thing)] = some (.val (D.bl r) e) := by
  unfold c_is_team at h
  exact m_val (E := D.bl) (a := r) rfl (show Go F_is_team [.sh (eD v_thing), .un] ((OV D.bl) r) from
 (g_seq (hbind h fun t1 gt1 h1 =>
 hbind h1 fun t3 gt3 h4 =>
 g_if (tv_orM gt3 (tv_not (tv_x (ev_cb (av_1 (ev_sh rfl) (av_1 ev_c av_0)) rfl (o_isiD gt1)))) (fun _ h2 => hbind h2 fun t2 gt2 h3 =>
 tv_pr h3 (tv_not (tv_x (ev_chain ev_c (ev_cb (av_1 (ev_asList (ev_sh rfl) gt2) av_0) rfl (o_len (E := eD) (xs := t2))) rfl x_le ev_c rfl x_le))))) (fun h5 => have h6 := cnd_t h4 h5; g_ret ev_c ((by have hq := hd_eq h6; (first | subst hq | cases hq); exact ov_val))) (fun h5 => have h7 := cnd_f h4 h5; g_next ((g_seq (hbind h7 fun t4 gt4 h8 =>
 hbind h8 fun t5 gt5 h9 =>
 hbind h9 fun t12 gt12 h15 =>
 g_if (tv_not (tv_x (ev_cb (av_1 (ev_lcm (E := eD) (E' := D.bl) [.sh (eD v_thing), .un] gt12 (i_seq (E := eD) (ev_asList (ev_sh rfl) gt4) rfl) gt5.ok rfl rfl rfl (fun x6 m7 => ⟨[.sh (eD v_thing), .sh (eD x6)], rfl, fun w11 h10 => hbind h10 fun t8 gt8 h11 =>
 hbind h11 fun t10 gt10 h14 =>
 (by have hq := hd_eq h14; (first | subst hq | cases hq); exact ⟨_, (ev_andM gt10 (ev_call (ds := [eD x6]) (av_1 (ev_sh rfl) av_0) rfl rfl (t_is_whole gt8)) (fun _ h12 => hbind h12 fun t9 gt9 h13 =>
 ev_pr (K := fun v => R.val (D.bl v)) h13 (ev_op (ev_asInt (ev_sh rfl) gt9) ev_c rfl rfl x_ge))), rfl⟩), rfl⟩)) av_0) rfl (o_all (xs := t12))))) (fun h16 => have h17 := cnd_t h15 h16; g_ret ev_c ((by have hq := hd_eq h17; (first | subst hq | cases hq); exact ov_val))) (fun h16 => have h18 := cnd_f h15 h16; g_next (hbind h18 fun t13 gt13 h19 =>
 hbind h19 fun t14 gt14 h20 =>
 hbind h20 fun t15 gt15 h21 =>
 g_ret (ev_op (ev_cb (av_1 (ev_callL (ds := [(eL D.int) t13]) (av_1 (ev_asInts (ev_sh rfl) gt13) av_0) rfl rfl (t_spares_of gt14)) av_0) rfl (o_max gt15)) ev_c rfl rfl x_le) ((by have hq := hd_eq h21; (first | subst hq | cases hq); exact ov_val)))))))))))

def c_check_team (v_team : D) : M Unit :=
 bd (c_is_team v_team) fun t1 =>
 bd (mustM (!(!t1))) fun _ =>
 pr ()
set_option maxHeartbeats 4000000 in
theorem t_check_team {v_team : D} {r : Unit} (h : Hd (c_check_team v_team) r) : ∃ e, m_check_team [.sh (eD v_team)] = some (.val ((fun _ : Unit => D.non) r) e) := by
  unfold c_check_team at h
  exact m_val (E := (fun _ : Unit => D.non)) (a := r) rfl (show Go F_check_team [.sh (eD v_team)] ((OV (fun _ : Unit => D.non)) r) from
 hbind h fun t1 gt1 h1 =>
 hbind h1 fun _ h3 h4 => g_if (tv_not (tv_x (ev_call (ds := [eD v_team]) (av_1 (ev_sh rfl) av_0) rfl rfl (t_is_team gt1)))) (fun h2 => (must_no h3 h2).elim) (fun h2 => g_next ((by have hq := hd_eq h4; (first | subst hq | cases hq); exact ov_nx))))

def c_check_levels (v_team : D) : M Unit :=
 bd (c_check_team v_team) fun t1 =>
 bd (asInts v_team) fun t2 =>
 bd (maxM t2) fun t3 =>
 bd (asList v_team) fun t4 =>
 bd (mustM (!(decide (((t4).length : Int) < t3)))) fun _ =>
 pr ()
set_option maxHeartbeats 4000000 in
theorem t_check_levels {v_team : D} {r : Unit} (h : Hd (c_check_levels v_team) r) : ∃ e, m_check_levels [.sh (eD v_team)] = some (.val ((fun _ : Unit => D.non) r) e) := by
  unfold c_check_levels at h
  exact m_val (E := (fun _ : Unit => D.non)) (a := r) rfl (show Go F_check_levels [.sh (eD v_team)] ((OV (fun _ : Unit => D.non)) r) from
 (g_seq (hbind h fun t1 gt1 h1 =>
 g_expr (ev_call (ds := [eD v_team]) (av_1 (ev_sh rfl) av_0) rfl rfl (t_check_team gt1)) (hbind h1 fun t2 gt2 h2 =>
 hbind h2 fun t3 gt3 h3 =>
 hbind h3 fun t4 gt4 h4 =>
 hbind h4 fun _ h6 h7 => g_if (tv_x (ev_op (ev_cb (av_1 (ev_asInts (ev_sh rfl) gt2) av_0) rfl (o_max gt3)) (ev_cb (av_1 (ev_asList (ev_sh rfl) gt4) av_0) rfl (o_len (E := eD) (xs := t4))) rfl rfl x_gt)) (fun h5 => (must_no h6 h5).elim) (fun h5 => g_next ((by have hq := hd_eq h7; (first | subst hq | cases hq); exact ov_nx)))))))

def c_counts_with_next (v_found : (List Int)) (v_level : Int) : M (List Int) :=
 bd (catM v_found [0]) fun t1 =>
 bd (forM (fun (s2 : (List Int)) (x4 : (Int × Int)) => (bd (getM s2 (x4.1 + 1)) fun t6 =>
 bd (mulM x4.2 (v_level - x4.1)) fun t7 =>
 bd (setM s2 (x4.1 + 1) (t6 + t7)) fun t8 =>
 pr t8 : M (List Int))) t1 (enumL v_found)) fun s9 =>
 pr s9
set_option maxHeartbeats 4000000 in
theorem t_counts_with_next {v_found : (List Int)} {v_level : Int} {r : (List Int)} (h : Hd (c_counts_with_next v_found v_level) r) : ∃ e, m_counts_with_next [.sh ((eL D.int) v_found), .sh (D.int v_level)] = some (.fr (List.map D.int r) e) := by
  unfold c_counts_with_next at h
  exact m_fr (E := D.int) (a := r) rfl (show Go F_counts_with_next [.sh ((eL D.int) v_found), .sh (D.int v_level), .un, .un, .un] ((OF 2 D.int) r) from
 (g_seq (hbind h fun t1 gt1 h1 =>
 g_set (e2 := [.sh ((eL D.int) v_found), .sh (D.int v_level), .ow (List.map D.int t1), .un, .un]) (ev_opL (ev_sh rfl) (ev_lst (ds := List.map D.int [0]) (av_1 ev_c av_0) rfl (Nat.le_of_ble_eq_true rfl)) rfl rfl (o_cat (E := D.int) gt1)) rfl ((g_seq (hbind h1 fun s9 gs9 h6 =>
 g_for (E := (eT2 D.int D.int)) (fun (s2 : (List Int)) (j3 : (Sl × Sl)) => [.sh ((eL D.int) v_found), .sh (D.int v_level), .ow (List.map D.int s2), j3.1, j3.2]) (.un, .un) gs9 (i_enum (E := D.int) (ev_sh rfl) rfl) rfl (fun s2 x4 j3 r5 h2 => g_tgt (e1 := [.sh ((eL D.int) v_found), .sh (D.int v_level), .ow (List.map D.int s2), .sh (D.int x4.1), .sh (D.int x4.2)]) rfl (hbind h2 fun t6 gt6 h3 =>
 hbind h3 fun t7 gt7 h4 =>
 hbind h4 fun t8 gt8 h5 =>
 g_putAug (E := D.int) (v := (t6 + t7)) rfl (ev_op (ev_sh rfl) ev_c rfl rfl x_add) gt6 (ev_op (ev_sh rfl) (ev_op (ev_sh rfl) (ev_sh rfl) rfl rfl x_sub) rfl rfl (o_mul gt7)) rfl x_add gt8 (e2 := [.sh ((eL D.int) v_found), .sh (D.int v_level), .ow (List.map D.int t8), .sh (D.int x4.1), .sh (D.int x4.2)]) rfl ((by have hq := hd_eq h5; (first | subst hq | cases hq); exact nq_nx (shape := (fun (s2 : (List Int)) (j3 : (Sl × Sl)) => [.sh ((eL D.int) v_found), .sh (D.int v_level), .ow (List.map D.int s2), j3.1, j3.2])) (.sh (D.int x4.1), .sh (D.int x4.2)) rfl)))) (fun j10 => g_ret (ev_ow rfl) ((by have hq := hd_eq h6; (first | subst hq | cases hq); exact (of_al rfl (by decide)))))))))))

def c_counts_along (v_levels : (List Int)) : M (List Int) :=
 bd (forM (fun (s1 : (List Int)) (x3 : Int) => (bd (c_counts_with_next s1 x3) fun t5 =>
 pr t5 : M (List Int))) [1] v_levels) fun s6 =>
 pr s6
set_option maxHeartbeats 4000000 in
theorem t_counts_along {v_levels : (List Int)} {r : (List Int)} (h : Hd (c_counts_along v_levels) r) : ∃ e, m_counts_along [.sh ((eL D.int) v_levels)] = some (.fr (List.map D.int r) e) := by
  unfold c_counts_along at h
  exact m_fr (E := D.int) (a := r) rfl (show Go F_counts_along [.sh ((eL D.int) v_levels), .un, .un] ((OF 1 D.int) r) from
 (g_seq (g_set (e2 := [.sh ((eL D.int) v_levels), .ow (List.map D.int [1]), .un]) (ev_lst (ds := List.map D.int [1]) (av_1 ev_c av_0) rfl (Nat.le_of_ble_eq_true rfl)) rfl ((g_seq (hbind h fun s6 gs6 h3 =>
 g_for (E := D.int) (fun (s1 : (List Int)) (j2 : Sl) => [.sh ((eL D.int) v_levels), .ow (List.map D.int s1), j2]) (.un) gs6 (i_seq (E := D.int) (ev_sh rfl) rfl) rfl (fun s1 x3 j2 r4 h1 => g_tgt (e1 := [.sh ((eL D.int) v_levels), .ow (List.map D.int s1), .sh (D.int x3)]) rfl (g_seq (g_frz (e1 := [.sh ((eL D.int) v_levels), .sh ((eL D.int) s1), .sh (D.int x3)]) rfl rfl (hbind h1 fun t5 gt5 h2 =>
 g_set (e2 := [.sh ((eL D.int) v_levels), .ow (List.map D.int t5), .sh (D.int x3)]) (ev_callL (ds := [(eL D.int) s1, D.int x3]) (av_1 (ev_sh rfl) (av_1 (ev_sh rfl) av_0)) rfl rfl (t_counts_with_next gt5)) rfl ((by have hq := hd_eq h2; (first | subst hq | cases hq); exact nq_nx (shape := (fun (s1 : (List Int)) (j2 : Sl) => [.sh ((eL D.int) v_levels), .ow (List.map D.int s1), j2])) (.sh (D.int x3)) rfl)))))) (fun j7 => g_ret (ev_ow rfl) ((by have hq := hd_eq h3; (first | subst hq | cases hq); exact (of_al rfl (by decide)))))))))))

def c_item_or_0 (v_numbers : (List Int)) (v_place : Int) : M Int :=
 bd (cnd (decide (0 ≤ v_place) && decide (v_place < ((v_numbers).length : Int))) (bd (getM v_numbers v_place) fun t2 =>
 pr t2) (pr 0)) fun t3 =>
 pr t3
set_option maxHeartbeats 4000000 in
theorem t_item_or_0 {v_numbers : (List Int)} {v_place : Int} {r : Int} (h : Hd (c_item_or_0 v_numbers v_place) r) : ∃ e, m_item_or_0 [.sh ((eL D.int) v_numbers), .sh (D.int v_place)] = some (.val (D.int r) e) := by
  unfold c_item_or_0 at h
  exact m_val (E := D.int) (a := r) rfl (show Go F_item_or_0 [.sh ((eL D.int) v_numbers), .sh (D.int v_place)] ((OV D.int) r) from
 hbind h fun t3 gt3 h4 =>
 g_ret (ev_iteM (K := fun v => R.val (D.int v)) gt3 (tv_x (ev_chain ev_c (ev_sh rfl) rfl x_le (ev_cb (av_1 (ev_sh rfl) av_0) rfl (o_len (E := D.int) (xs := v_numbers))) rfl x_lt)) (fun w1 h1 => hbind h1 fun t2 gt2 h3 =>
 ev_pr (K := fun v => R.val (D.int v)) h3 (ev_op (ev_sh rfl) (ev_sh rfl) rfl rfl (o_ix (E := D.int) gt2))) (fun w1 h2 => ev_pr (K := fun v => R.val (D.int v)) h2 ev_c)) ((by have hq := hd_eq h4; (first | subst hq | cases hq); exact ov_val)))

def c_hits_along (v_levels : (List Int)) : M (List Int) :=
 bd (repM [0] (((v_levels).length : Int) + 1)) fun t1 =>
 bd (c_counts_along (srt v_levels)) fun t2 =>
 bd (dnM ((v_levels).length : Int) (-1) (-1)) fun t4 =>
 bd (forM (fun (s5 : (List Int)) (x7 : Int) => (bd (rgM 0 ((s5).length : Int)) fun t9 =>
 bd (shortM (t9).length) fun t10 =>
 bd (mapM (fun (x11 : Int) => bd (c_item_or_0 s5 (x11 - 1)) fun t13 =>
 bd (getM s5 x11) fun t14 =>
 pr (t13 - t14)) t9) fun t16 =>
 bd (getM t16 0) fun t17 =>
 bd (getM t2 x7) fun t18 =>
 bd (facM (((v_levels).length : Int) - x7)) fun t19 =>
 bd (mulM t18 t19) fun t20 =>
 bd (setM t16 0 (t17 + t20)) fun t21 =>
 pr t21 : M (List Int))) t1 t4) fun s22 =>
 pr s22
set_option maxHeartbeats 4000000 in
theorem t_hits_along {v_levels : (List Int)} {r : (List Int)} (h : Hd (c_hits_along v_levels) r) : ∃ e, m_hits_along [.sh ((eL D.int) v_levels)] = some (.fr (List.map D.int r) e) := by
  unfold c_hits_along at h
  exact m_fr (E := D.int) (a := r) rfl (show Go F_hits_along [.sh ((eL D.int) v_levels), .un, .un, .un, .un] ((OF 1 D.int) r) from
 (g_seq (hbind h fun t1 gt1 h1 =>
 g_set (e2 := [.sh ((eL D.int) v_levels), .ow (List.map D.int t1), .un, .un, .un]) (ev_opL (ev_lst (ds := List.map D.int [0]) (av_1 ev_c av_0) rfl (Nat.le_of_ble_eq_true rfl)) (ev_op (ev_cb (av_1 (ev_sh rfl) av_0) rfl (o_len (E := D.int) (xs := v_levels))) ev_c rfl rfl x_add) rfl rfl (o_rep (E := D.int) gt1)) rfl ((g_seq (hbind h1 fun t2 gt2 h2 =>
 g_set (e2 := [.sh ((eL D.int) v_levels), .ow (List.map D.int t1), .ow (List.map D.int t2), .un, .un]) (ev_callL (ds := [(eL D.int) (srt v_levels)]) (av_1 (ev_cbL (av_1 (ev_sh rfl) av_0) rfl (o_sorted (xs := v_levels))) av_0) rfl rfl (t_counts_along gt2)) rfl ((g_seq (hbind h2 fun t4 gt4 h4 =>
 hbind h4 fun s22 gs22 h17 =>
 g_for (E := D.int) (fun (s5 : (List Int)) (j6 : Sl) => [.sh ((eL D.int) v_levels), .ow (List.map D.int s5), .ow (List.map D.int t2), j6, .un]) (.un) gs22 (i_r3 (ev_cb (av_1 (ev_sh rfl) av_0) rfl (o_len (E := D.int) (xs := v_levels))) (ev_un ev_c rfl x_neg) (ev_un ev_c rfl x_neg) gt4) rfl (fun s5 x7 j6 r8 h5 => g_tgt (e1 := [.sh ((eL D.int) v_levels), .ow (List.map D.int s5), .ow (List.map D.int t2), .sh (D.int x7), .un]) rfl ((g_seq (hbind h5 fun t9 gt9 h6 =>
 hbind h6 fun t10 gt10 h7 =>
 hbind h7 fun t16 gt16 h11 =>
 g_set (e2 := [.sh ((eL D.int) v_levels), .ow (List.map D.int t16), .ow (List.map D.int t2), .sh (D.int x7), .un]) (ev_lcm (E := D.int) (E' := D.int) [.sh ((eL D.int) v_levels), .ow (List.map D.int s5), .ow (List.map D.int t2), .sh (D.int x7), .un] gt16 (i_r1 (ev_cb (av_1 (ev_ow rfl) av_0) rfl (o_len (E := D.int) (xs := s5))) gt9) gt10.ok rfl rfl rfl (fun x11 m12 => ⟨[.sh ((eL D.int) v_levels), .ow (List.map D.int s5), .ow (List.map D.int t2), .sh (D.int x7), .sh (D.int x11)], rfl, fun w15 h8 => hbind h8 fun t13 gt13 h9 =>
 hbind h9 fun t14 gt14 h10 =>
 (by have hq := hd_eq h10; (first | subst hq | cases hq); exact ⟨_, (ev_op (ev_callB (ds := [(eL D.int) s5, D.int (x11 - 1)]) (av_1 (ev_ow rfl) (av_1 (ev_op (ev_sh rfl) ev_c rfl rfl x_sub) av_0)) rfl rfl (t_item_or_0 gt13) rfl) (ev_op (ev_ow rfl) (ev_sh rfl) rfl rfl (o_ix (E := D.int) gt14)) rfl rfl x_sub), rfl⟩), rfl⟩)) rfl (hbind h11 fun t17 gt17 h12 =>
 hbind h12 fun t18 gt18 h13 =>
 hbind h13 fun t19 gt19 h14 =>
 hbind h14 fun t20 gt20 h15 =>
 hbind h15 fun t21 gt21 h16 =>
 g_putAug (E := D.int) (v := (t17 + t20)) rfl ev_c gt17 (ev_op (ev_op (ev_ow rfl) (ev_sh rfl) rfl rfl (o_ix (E := D.int) gt18)) (ev_cb (av_1 (ev_op (ev_cb (av_1 (ev_sh rfl) av_0) rfl (o_len (E := D.int) (xs := v_levels))) (ev_sh rfl) rfl rfl x_sub) av_0) rfl (o_factorial gt19)) rfl rfl (o_mul gt20)) rfl x_add gt21 (e2 := [.sh ((eL D.int) v_levels), .ow (List.map D.int t21), .ow (List.map D.int t2), .sh (D.int x7), .un]) rfl ((by have hq := hd_eq h16; (first | subst hq | cases hq); exact nq_nx (shape := (fun (s5 : (List Int)) (j6 : Sl) => [.sh ((eL D.int) v_levels), .ow (List.map D.int s5), .ow (List.map D.int t2), j6, .un])) (.sh (D.int x7)) rfl))))))) (fun j23 => g_ret (ev_ow rfl) ((by have hq := hd_eq h17; (first | subst hq | cases hq); exact (of_al rfl (by decide))))))))))))))

def c_hit_counts (v_team : D) : M (List Int) :=
 bd (c_check_levels v_team) fun t1 =>
 bd (asInts v_team) fun t2 =>
 bd (c_hits_along t2) fun t3 =>
 pr t3
set_option maxHeartbeats 4000000 in
theorem t_hit_counts {v_team : D} {r : (List Int)} (h : Hd (c_hit_counts v_team) r) : ∃ e, m_hit_counts [.sh (eD v_team)] = some (.fr (List.map D.int r) e) := by
  unfold c_hit_counts at h
  exact m_fr (E := D.int) (a := r) rfl (show Go F_hit_counts [.sh (eD v_team)] ((OF 1 D.int) r) from
 (g_seq (hbind h fun t1 gt1 h1 =>
 g_expr (ev_call (ds := [eD v_team]) (av_1 (ev_sh rfl) av_0) rfl rfl (t_check_levels gt1)) (hbind h1 fun t2 gt2 h2 =>
 hbind h2 fun t3 gt3 h3 =>
 g_ret (ev_callL (ds := [(eL D.int) t2]) (av_1 (ev_asInts (ev_sh rfl) gt2) av_0) rfl rfl (t_hits_along gt3)) ((by have hq := hd_eq h3; (first | subst hq | cases hq); exact of_fr))))))

def c_is_within (v_thing : D) (v_least : Int) (v_greatest : Int) : M Bool :=
 bd (c_is_whole v_thing) fun t1 =>
 bd (cnd t1 (bd (asInt v_thing) fun t2 =>
 pr (decide (v_least ≤ t2) && decide (t2 ≤ v_greatest))) (pr false)) fun t3 =>
 pr t3
set_option maxHeartbeats 4000000 in
theorem t_is_within {v_thing : D} {v_least : Int} {v_greatest : Int} {r : Bool} (h : Hd (c_is_within v_thing v_least v_greatest) r) : ∃ e, m_is_within [.sh (eD v_thing), .sh (D.int v_least), .sh (D.int v_greatest)] = some (.val (D.bl r) e) := by
  unfold c_is_within at h
  exact m_val (E := D.bl) (a := r) rfl (show Go F_is_within [.sh (eD v_thing), .sh (D.int v_least), .sh (D.int v_greatest)] ((OV D.bl) r) from
 hbind h fun t1 gt1 h1 =>
 hbind h1 fun t3 gt3 h4 =>
 g_ret (ev_andM gt3 (ev_call (ds := [eD v_thing]) (av_1 (ev_sh rfl) av_0) rfl rfl (t_is_whole gt1)) (fun _ h2 => hbind h2 fun t2 gt2 h3 =>
 ev_pr (K := fun v => R.val (D.bl v)) h3 (ev_chain (ev_sh rfl) (ev_asInt (ev_sh rfl) gt2) rfl x_le (ev_sh rfl) rfl x_le))) ((by have hq := hd_eq h4; (first | subst hq | cases hq); exact ov_val)))

def c_check_worker (v_team : (List Int)) (v_worker : Int) : M Unit :=
 bd (c_is_within (D.int v_worker) 0 (((v_team).length : Int) - 1)) fun t1 =>
 bd (mustM (!(!t1))) fun _ =>
 pr ()
set_option maxHeartbeats 4000000 in
theorem t_check_worker {v_team : (List Int)} {v_worker : Int} {r : Unit} (h : Hd (c_check_worker v_team v_worker) r) : ∃ e, m_check_worker [.sh ((eL D.int) v_team), .sh (D.int v_worker)] = some (.val ((fun _ : Unit => D.non) r) e) := by
  unfold c_check_worker at h
  exact m_val (E := (fun _ : Unit => D.non)) (a := r) rfl (show Go F_check_worker [.sh ((eL D.int) v_team), .sh (D.int v_worker)] ((OV (fun _ : Unit => D.non)) r) from
 hbind h fun t1 gt1 h1 =>
 hbind h1 fun _ h3 h4 => g_if (tv_not (tv_x (ev_call (ds := [eD (D.int v_worker), D.int 0, D.int (((v_team).length : Int) - 1)]) (av_1 (ev_sh rfl) (av_1 ev_c (av_1 (ev_op (ev_cb (av_1 (ev_sh rfl) av_0) rfl (o_len (E := D.int) (xs := v_team))) ev_c rfl rfl x_sub) av_0))) rfl rfl (t_is_within gt1)))) (fun h2 => (must_no h3 h2).elim) (fun h2 => g_next ((by have hq := hd_eq h4; (first | subst hq | cases hq); exact ov_nx))))

def c_check_many (v_team : (List Int)) (v_many : D) : M Unit :=
 bd (c_is_within v_many 0 ((v_team).length : Int)) fun t1 =>
 bd (mustM (!(!t1))) fun _ =>
 pr ()
set_option maxHeartbeats 4000000 in
theorem t_check_many {v_team : (List Int)} {v_many : D} {r : Unit} (h : Hd (c_check_many v_team v_many) r) : ∃ e, m_check_many [.sh ((eL D.int) v_team), .sh (eD v_many)] = some (.val ((fun _ : Unit => D.non) r) e) := by
  unfold c_check_many at h
  exact m_val (E := (fun _ : Unit => D.non)) (a := r) rfl (show Go F_check_many [.sh ((eL D.int) v_team), .sh (eD v_many)] ((OV (fun _ : Unit => D.non)) r) from
 hbind h fun t1 gt1 h1 =>
 hbind h1 fun _ h3 h4 => g_if (tv_not (tv_x (ev_call (ds := [eD v_many, D.int 0, D.int ((v_team).length : Int)]) (av_1 (ev_sh rfl) (av_1 ev_c (av_1 (ev_cb (av_1 (ev_sh rfl) av_0) rfl (o_len (E := D.int) (xs := v_team))) av_0))) rfl rfl (t_is_within gt1)))) (fun h2 => (must_no h3 h2).elim) (fun h2 => g_next ((by have hq := hd_eq h4; (first | subst hq | cases hq); exact ov_nx))))

def c_fraction (v_top : Int) (v_bottom : Int) : M (Int × Int) :=
 bd (pr (gcdI v_top v_bottom)) fun v_common1 =>
 bd (fdivM v_top v_common1) fun t2 =>
 bd (fdivM v_bottom v_common1) fun t3 =>
 pr (t2, t3)
set_option maxHeartbeats 4000000 in
theorem t_fraction {v_top : Int} {v_bottom : Int} {r : (Int × Int)} (h : Hd (c_fraction v_top v_bottom) r) : ∃ e, m_fraction [.sh (D.int v_top), .sh (D.int v_bottom)] = some (.val ((eT2 D.int D.int) r) e) := by
  unfold c_fraction at h
  exact m_val (E := (eT2 D.int D.int)) (a := r) rfl (show Go F_fraction [.sh (D.int v_top), .sh (D.int v_bottom), .un] ((OV (eT2 D.int D.int)) r) from
 (g_seq (hbind h fun v_common1 gv_common1 h1 =>
 g_set (e2 := [.sh (D.int v_top), .sh (D.int v_bottom), .sh (D.int v_common1)]) (ev_pr (K := fun v => R.val (D.int v)) gv_common1 (ev_cb (av_1 (ev_sh rfl) (av_1 (ev_sh rfl) av_0)) rfl o_gcd)) rfl (hbind h1 fun t2 gt2 h2 =>
 hbind h2 fun t3 gt3 h3 =>
 g_ret (ev_tup (ds := [D.int t2, D.int t3]) (av_1 (ev_op (ev_sh rfl) (ev_sh rfl) rfl rfl (o_fdiv gt2)) (av_1 (ev_op (ev_sh rfl) (ev_sh rfl) rfl rfl (o_fdiv gt3)) av_0)) rfl (Nat.le_of_ble_eq_true rfl)) ((by have hq := hd_eq h3; (first | subst hq | cases hq); exact ov_val))))))

def c_hits_behind (v_levels : (List Int)) (v_job : Int) (v_hits : Int) : M Int :=
 bd (getM v_levels 0) fun t1 =>
 bd (cnd (decide (v_job < t1)) (pr (v_hits - 1)) (pr v_hits)) fun t3 =>
 pr t3
set_option maxHeartbeats 4000000 in
theorem t_hits_behind {v_levels : (List Int)} {v_job : Int} {v_hits : Int} {r : Int} (h : Hd (c_hits_behind v_levels v_job v_hits) r) : ∃ e, m_hits_behind [.sh ((eL D.int) v_levels), .sh (D.int v_job), .sh (D.int v_hits)] = some (.val (D.int r) e) := by
  unfold c_hits_behind at h
  exact m_val (E := D.int) (a := r) rfl (show Go F_hits_behind [.sh ((eL D.int) v_levels), .sh (D.int v_job), .sh (D.int v_hits)] ((OV D.int) r) from
 hbind h fun t1 gt1 h1 =>
 hbind h1 fun t3 gt3 h4 =>
 g_ret (ev_iteM (K := fun v => R.val (D.int v)) gt3 (tv_x (ev_op (ev_sh rfl) (ev_op (ev_sh rfl) ev_c rfl rfl (o_ix (E := D.int) gt1)) rfl rfl x_lt)) (fun w2 h2 => ev_pr (K := fun v => R.val (D.int v)) h2 (ev_op (ev_sh rfl) ev_c rfl rfl x_sub)) (fun w2 h3 => ev_pr (K := fun v => R.val (D.int v)) h3 (ev_sh rfl))) ((by have hq := hd_eq h4; (first | subst hq | cases hq); exact ov_val)))

def c_levels_behind (v_levels : (List Int)) (v_job : Int) : M (List Int) :=
 bd (shortM ((cutI v_levels (some 1) none)).length) fun t1 =>
 bd (mapM (fun (x2 : Int) => bd (cnd (decide (v_job < x2)) (pr (x2 - 1)) (pr x2)) fun t5 =>
 pr t5) (cutI v_levels (some 1) none)) fun t7 =>
 pr t7
set_option maxHeartbeats 4000000 in
theorem t_levels_behind {v_levels : (List Int)} {v_job : Int} {r : (List Int)} (h : Hd (c_levels_behind v_levels v_job) r) : ∃ e, m_levels_behind [.sh ((eL D.int) v_levels), .sh (D.int v_job)] = some (.fr (List.map D.int r) e) := by
  unfold c_levels_behind at h
  exact m_fr (E := D.int) (a := r) rfl (show Go F_levels_behind [.sh ((eL D.int) v_levels), .sh (D.int v_job), .un] ((OF 2 D.int) r) from
 hbind h fun t1 gt1 h1 =>
 hbind h1 fun t7 gt7 h6 =>
 g_ret (ev_lcm (E := D.int) (E' := D.int) [.sh ((eL D.int) v_levels), .sh (D.int v_job), .un] gt7 (i_seq (E := D.int) (ev_sl (E := D.int) (xs := v_levels) (ev_sh rfl) (pv_so ev_c) pv_no rfl) rfl) gt1.ok rfl rfl rfl (fun x2 m3 => ⟨[.sh ((eL D.int) v_levels), .sh (D.int v_job), .sh (D.int x2)], rfl, fun w6 h2 => hbind h2 fun t5 gt5 h5 =>
 (by have hq := hd_eq h5; (first | subst hq | cases hq); exact ⟨_, (ev_iteM (K := fun v => R.val (D.int v)) gt5 (tv_x (ev_op (ev_sh rfl) (ev_sh rfl) rfl rfl x_gt)) (fun w4 h3 => ev_pr (K := fun v => R.val (D.int v)) h3 (ev_op (ev_sh rfl) ev_c rfl rfl x_sub)) (fun w4 h4 => ev_pr (K := fun v => R.val (D.int v)) h4 (ev_sh rfl))), rfl⟩), rfl⟩)) ((by have hq := hd_eq h6; (first | subst hq | cases hq); exact of_fr)))

def c_count_lists (v_levels : (List Int)) (v_job : Int) (v_hits : Int) : M Int :=
 bd (c_levels_behind v_levels v_job) fun t1 =>
 bd (c_hits_along t1) fun t2 =>
 bd (c_hits_behind v_levels v_job v_hits) fun t3 =>
 bd (c_item_or_0 t2 t3) fun t4 =>
 pr t4
set_option maxHeartbeats 4000000 in
theorem t_count_lists {v_levels : (List Int)} {v_job : Int} {v_hits : Int} {r : Int} (h : Hd (c_count_lists v_levels v_job v_hits) r) : ∃ e, m_count_lists [.sh ((eL D.int) v_levels), .sh (D.int v_job), .sh (D.int v_hits)] = some (.val (D.int r) e) := by
  unfold c_count_lists at h
  exact m_val (E := D.int) (a := r) rfl (show Go F_count_lists [.sh ((eL D.int) v_levels), .sh (D.int v_job), .sh (D.int v_hits)] ((OV D.int) r) from
 hbind h fun t1 gt1 h1 =>
 hbind h1 fun t2 gt2 h2 =>
 hbind h2 fun t3 gt3 h3 =>
 hbind h3 fun t4 gt4 h4 =>
 g_ret (ev_call (ds := [(eL D.int) t2, D.int t3]) (av_1 (ev_callL (ds := [(eL D.int) t1]) (av_1 (ev_callL (ds := [(eL D.int) v_levels, D.int v_job]) (av_1 (ev_sh rfl) (av_1 (ev_sh rfl) av_0)) rfl rfl (t_levels_behind gt1)) av_0) rfl rfl (t_hits_along gt2)) (av_1 (ev_call (ds := [(eL D.int) v_levels, D.int v_job, D.int v_hits]) (av_1 (ev_sh rfl) (av_1 (ev_sh rfl) (av_1 (ev_sh rfl) av_0))) rfl rfl (t_hits_behind gt3)) av_0)) rfl rfl (t_item_or_0 gt4)) ((by have hq := hd_eq h4; (first | subst hq | cases hq); exact ov_val)))

def c_pair_by_hits (v_team : (List Int)) (v_worker : Int) (v_job : Int) (v_hits : Int) : M (Int × Int) :=
 bd (c_check_levels ((eL D.int) v_team)) fun t1 =>
 bd (c_check_worker v_team v_worker) fun t2 =>
 bd (c_is_within (D.int v_job) 0 (((v_team).length : Int) - 1)) fun t3 =>
 bd (mustM (!(!t3))) fun _ =>
 bd (c_check_many v_team (D.int v_hits)) fun t4 =>
 bd (c_hits_along v_team) fun t5 =>
 bd (getM t5 v_hits) fun t6 =>
 bd (mustM (!(decide (t6 = 0)))) fun _ =>
 bd (getM v_team v_worker) fun t7 =>
 bd (catM [t7] (cutI v_team none (some v_worker))) fun t8 =>
 bd (catM t8 (cutI v_team (some (v_worker + 1)) none)) fun t9 =>
 bd (c_count_lists t9 v_job v_hits) fun t10 =>
 bd (c_fraction t10 t6) fun t11 =>
 pr t11
set_option maxHeartbeats 4000000 in
theorem t_pair_by_hits {v_team : (List Int)} {v_worker : Int} {v_job : Int} {v_hits : Int} {r : (Int × Int)} (h : Hd (c_pair_by_hits v_team v_worker v_job v_hits) r) : ∃ e, m_pair_by_hits [.sh ((eL D.int) v_team), .sh (D.int v_worker), .sh (D.int v_job), .sh (D.int v_hits)] = some (.val ((eT2 D.int D.int) r) e) := by
  unfold c_pair_by_hits at h
  exact m_val (E := (eT2 D.int D.int)) (a := r) rfl (show Go F_pair_by_hits [.sh ((eL D.int) v_team), .sh (D.int v_worker), .sh (D.int v_job), .sh (D.int v_hits), .un, .un] ((OV (eT2 D.int D.int)) r) from
 (g_seq (hbind h fun t1 gt1 h1 =>
 g_expr (ev_call (ds := [eD ((eL D.int) v_team)]) (av_1 (ev_sh rfl) av_0) rfl rfl (t_check_levels gt1)) ((g_seq (hbind h1 fun t2 gt2 h2 =>
 g_expr (ev_call (ds := [(eL D.int) v_team, D.int v_worker]) (av_1 (ev_sh rfl) (av_1 (ev_sh rfl) av_0)) rfl rfl (t_check_worker gt2)) ((g_seq (hbind h2 fun t3 gt3 h3 =>
 hbind h3 fun _ h5 h6 => g_if (tv_not (tv_x (ev_call (ds := [eD (D.int v_job), D.int 0, D.int (((v_team).length : Int) - 1)]) (av_1 (ev_sh rfl) (av_1 ev_c (av_1 (ev_op (ev_cb (av_1 (ev_sh rfl) av_0) rfl (o_len (E := D.int) (xs := v_team))) ev_c rfl rfl x_sub) av_0))) rfl rfl (t_is_within gt3)))) (fun h4 => (must_no h5 h4).elim) (fun h4 => g_next ((g_seq (hbind h6 fun t4 gt4 h7 =>
 g_expr (ev_call (ds := [(eL D.int) v_team, eD (D.int v_hits)]) (av_1 (ev_sh rfl) (av_1 (ev_sh rfl) av_0)) rfl rfl (t_check_many gt4)) ((g_seq (hbind h7 fun t5 gt5 h8 =>
 hbind h8 fun t6 gt6 h9 =>
 g_set (e2 := [.sh ((eL D.int) v_team), .sh (D.int v_worker), .sh (D.int v_job), .sh (D.int v_hits), .sh (D.int t6), .un]) (ev_op (ev_callL (ds := [(eL D.int) v_team]) (av_1 (ev_sh rfl) av_0) rfl rfl (t_hits_along gt5)) (ev_sh rfl) rfl rfl (o_ix (E := D.int) gt6)) rfl ((g_seq (hbind h9 fun _ h11 h12 => g_if (tv_x (ev_op (ev_sh rfl) ev_c rfl rfl (x_eqI))) (fun h10 => (must_no h11 h10).elim) (fun h10 => g_next ((g_seq (hbind h12 fun t7 gt7 h13 =>
 hbind h13 fun t8 gt8 h14 =>
 hbind h14 fun t9 gt9 h15 =>
 g_set (e2 := [.sh ((eL D.int) v_team), .sh (D.int v_worker), .sh (D.int v_job), .sh (D.int v_hits), .sh (D.int t6), .ow (List.map D.int t9)]) (ev_opL (ev_opL (ev_lst (ds := List.map D.int [t7]) (av_1 (ev_op (ev_sh rfl) (ev_sh rfl) rfl rfl (o_ix (E := D.int) gt7)) av_0) rfl (Nat.le_of_ble_eq_true rfl)) (ev_sl (E := D.int) (xs := v_team) (ev_sh rfl) pv_no (pv_so (ev_sh rfl)) rfl) rfl rfl (o_cat (E := D.int) gt8)) (ev_sl (E := D.int) (xs := v_team) (ev_sh rfl) (pv_so (ev_op (ev_sh rfl) ev_c rfl rfl x_add)) pv_no rfl) rfl rfl (o_cat (E := D.int) gt9)) rfl (g_seq (g_frz (e1 := [.sh ((eL D.int) v_team), .sh (D.int v_worker), .sh (D.int v_job), .sh (D.int v_hits), .sh (D.int t6), .sh ((eL D.int) t9)]) rfl rfl (hbind h15 fun t10 gt10 h16 =>
 hbind h16 fun t11 gt11 h17 =>
 g_ret (ev_call (ds := [D.int t10, D.int t6]) (av_1 (ev_call (ds := [(eL D.int) t9, D.int v_job, D.int v_hits]) (av_1 (ev_sh rfl) (av_1 (ev_sh rfl) (av_1 (ev_sh rfl) av_0))) rfl rfl (t_count_lists gt10)) (av_1 (ev_sh rfl) av_0)) rfl rfl (t_fraction gt11)) ((by have hq := hd_eq h17; (first | subst hq | cases hq); exact ov_val))))))))))))))))))))))))))))

def c_mean_hits (v_team : D) : M (Int × Int) :=
 bd (c_check_levels v_team) fun t1 =>
 bd (asInts v_team) fun t2 =>
 bd (asList v_team) fun t3 =>
 bd (c_fraction (List.sum t2) ((t3).length : Int)) fun t4 =>
 pr t4
set_option maxHeartbeats 4000000 in
theorem t_mean_hits {v_team : D} {r : (Int × Int)} (h : Hd (c_mean_hits v_team) r) : ∃ e, m_mean_hits [.sh (eD v_team)] = some (.val ((eT2 D.int D.int) r) e) := by
  unfold c_mean_hits at h
  exact m_val (E := (eT2 D.int D.int)) (a := r) rfl (show Go F_mean_hits [.sh (eD v_team)] ((OV (eT2 D.int D.int)) r) from
 (g_seq (hbind h fun t1 gt1 h1 =>
 g_expr (ev_call (ds := [eD v_team]) (av_1 (ev_sh rfl) av_0) rfl rfl (t_check_levels gt1)) (hbind h1 fun t2 gt2 h2 =>
 hbind h2 fun t3 gt3 h3 =>
 hbind h3 fun t4 gt4 h4 =>
 g_ret (ev_call (ds := [D.int (List.sum t2), D.int ((t3).length : Int)]) (av_1 (ev_cb (av_1 (ev_asInts (ev_sh rfl) gt2) av_0) rfl (o_sum (xs := t2))) (av_1 (ev_cb (av_1 (ev_asList (ev_sh rfl) gt3) av_0) rfl (o_len (E := eD) (xs := t3))) av_0)) rfl rfl (t_fraction gt4)) ((by have hq := hd_eq h4; (first | subst hq | cases hq); exact ov_val))))))

def c_law_counted (v_deal : (List Int)) : M (List Int) :=
 bd (pr ([] : (List Int))) fun v_row1 =>
 bd (pr ([] : (List Int))) fun v_found2 =>
 bd (rgM 0 (((v_deal).length : Int) + 1)) fun t4 =>
 bd (forM (fun (s5 : (List Int)) (x7 : Int) => (bd (forM (fun (s9 : Int) (x11 : (Int × Int)) => (bd (mulM s9 ((x7 + x11.2) - x11.1)) fun t13 =>
 pr t13 : M Int)) 1 (enumL (srt v_deal))) fun s14 =>
 bd (appM s5 s14) fun t16 =>
 pr t16 : M (List Int))) v_row1 t4) fun s17 =>
 bd (whileM (fun (s19 : ((List Int) × (List Int) × Int)) => pr (!(decide (s19.1 = ([] : (List Int)))))) (fun (s19 : ((List Int) × (List Int) × Int)) => bd (getM s19.1 0) fun t22 =>
 bd (fdivM t22 s19.2.2) fun t23 =>
 bd (appM s19.2.1 t23) fun t24 =>
 bd (mulM s19.2.2 ((t24).length : Int)) fun t25 =>
 bd (shortM ((List.zip s19.1 (cutI s19.1 (some 1) none))).length) fun t26 =>
 bd (mapM (fun (x27 : (Int × Int)) => pr (x27.2 - x27.1)) (List.zip s19.1 (cutI s19.1 (some 1) none))) fun t30 =>
 pr (t30, t24, t25)) 100 (s17, v_found2, 1)) fun s31 =>
 pr (List.reverse s31.2.1)
set_option maxHeartbeats 4000000 in
theorem t_law_counted {v_deal : (List Int)} {r : (List Int)} (h : Hd (c_law_counted v_deal) r) : ∃ e, m_law_counted [.sh ((eL D.int) v_deal)] = some (.fr (List.map D.int r) e) := by
  unfold c_law_counted at h
  exact m_fr (E := D.int) (a := r) rfl (show Go F_law_counted [.sh ((eL D.int) v_deal), .un, .un, .un, .un, .un, .un, .un, .un, .un] ((OF 1 D.int) r) from
 (g_seq (hbind h fun v_row1 gv_row1 h1 =>
 hbind h1 fun v_found2 gv_found2 h2 =>
 g_parN (e2 := [.sh ((eL D.int) v_deal), .ow (List.map D.int v_row1), .ow (List.map D.int v_found2), .sh (D.int 1), .un, .un, .un, .un, .un, .un]) (av_1 (ev_pr (K := fun v => R.fr (List.map D.int v)) gv_row1 (ev_lst (ds := []) av_0 rfl (Nat.le_of_ble_eq_true rfl))) (av_1 (ev_pr (K := fun v => R.fr (List.map D.int v)) gv_found2 (ev_lst (ds := []) av_0 rfl (Nat.le_of_ble_eq_true rfl))) (av_1 ev_c av_0))) rfl rfl ((g_seq (hbind h2 fun t4 gt4 h4 =>
 hbind h4 fun s17 gs17 h10 =>
 g_for (E := D.int) (fun (s5 : (List Int)) (j6 : (Sl × Sl × Sl × Sl)) => [.sh ((eL D.int) v_deal), .ow (List.map D.int s5), .ow (List.map D.int v_found2), .sh (D.int 1), j6.1, j6.2.1, j6.2.2.1, j6.2.2.2, .un, .un]) (.un, .un, .un, .un) gs17 (i_r1 (ev_op (ev_cb (av_1 (ev_sh rfl) av_0) rfl (o_len (E := D.int) (xs := v_deal))) ev_c rfl rfl x_add) gt4) rfl (fun s5 x7 j6 r8 h5 => g_tgt (e1 := [.sh ((eL D.int) v_deal), .ow (List.map D.int s5), .ow (List.map D.int v_found2), .sh (D.int 1), .sh (D.int x7), j6.2.1, j6.2.2.1, j6.2.2.2, .un, .un]) rfl ((g_seq (g_set (e2 := [.sh ((eL D.int) v_deal), .ow (List.map D.int s5), .ow (List.map D.int v_found2), .sh (D.int 1), .sh (D.int x7), .sh (D.int 1), j6.2.2.1, j6.2.2.2, .un, .un]) ev_c rfl ((g_seq (hbind h5 fun s14 gs14 h8 =>
 g_for (E := (eT2 D.int D.int)) (fun (s9 : Int) (j10 : (Sl × Sl)) => [.sh ((eL D.int) v_deal), .ow (List.map D.int s5), .ow (List.map D.int v_found2), .sh (D.int 1), .sh (D.int x7), .sh (D.int s9), j10.1, j10.2, .un, .un]) (j6.2.2.1, j6.2.2.2) gs14 (i_enum (E := D.int) (ev_cbL (av_1 (ev_sh rfl) av_0) rfl (o_sorted (xs := v_deal))) rfl) rfl (fun s9 x11 j10 r12 h6 => g_tgt (e1 := [.sh ((eL D.int) v_deal), .ow (List.map D.int s5), .ow (List.map D.int v_found2), .sh (D.int 1), .sh (D.int x7), .sh (D.int s9), .sh (D.int x11.1), .sh (D.int x11.2), .un, .un]) rfl (hbind h6 fun t13 gt13 h7 =>
 g_set (e2 := [.sh ((eL D.int) v_deal), .ow (List.map D.int s5), .ow (List.map D.int v_found2), .sh (D.int 1), .sh (D.int x7), .sh (D.int t13), .sh (D.int x11.1), .sh (D.int x11.2), .un, .un]) (ev_op (ev_sh rfl) (ev_op (ev_op (ev_sh rfl) (ev_sh rfl) rfl rfl x_add) (ev_sh rfl) rfl rfl x_sub) rfl rfl (o_mul gt13)) rfl ((by have hq := hd_eq h7; (first | subst hq | cases hq); exact nq_nx (shape := (fun (s9 : Int) (j10 : (Sl × Sl)) => [.sh ((eL D.int) v_deal), .ow (List.map D.int s5), .ow (List.map D.int v_found2), .sh (D.int 1), .sh (D.int x7), .sh (D.int s9), j10.1, j10.2, .un, .un])) (.sh (D.int x11.1), .sh (D.int x11.2)) rfl)))) (fun j15 => hbind h8 fun t16 gt16 h9 =>
 g_app (E := D.int) (v := s14) rfl (ev_sh rfl) rfl rfl gt16 (e2 := [.sh ((eL D.int) v_deal), .ow (List.map D.int t16), .ow (List.map D.int v_found2), .sh (D.int 1), .sh (D.int x7), .sh (D.int s14), j15.1, j15.2, .un, .un]) rfl ((by have hq := hd_eq h9; (first | subst hq | cases hq); exact nq_nx (shape := (fun (s5 : (List Int)) (j6 : (Sl × Sl × Sl × Sl)) => [.sh ((eL D.int) v_deal), .ow (List.map D.int s5), .ow (List.map D.int v_found2), .sh (D.int 1), j6.1, j6.2.1, j6.2.2.1, j6.2.2.2, .un, .un])) (.sh (D.int x7), .sh (D.int s14), j15.1, j15.2) rfl)))))))))) (fun j18 => (g_seq (hbind h10 fun s31 gs31 h20 =>
 g_while (fun (s19 : ((List Int) × (List Int) × Int)) (j20 : Unit) => [.sh ((eL D.int) v_deal), .ow (List.map D.int s19.1), .ow (List.map D.int s19.2.1), .sh (D.int s19.2.2), j18.1, j18.2.1, j18.2.2.1, j18.2.2.2, .un, .un]) () gs31 rfl (fun s19 j20 r21 h11 => tv_pr h11 (tv_x (ev_op (ev_ow rfl) (ev_lst (ds := []) av_0 rfl (Nat.le_of_ble_eq_true rfl)) rfl rfl (x_neL (xs := s19.1) (ys := ([] : (List Int))))))) (fun s19 j20 r21 h12 => (g_seq (hbind h12 fun t22 gt22 h13 =>
 hbind h13 fun t23 gt23 h14 =>
 hbind h14 fun t24 gt24 h15 =>
 g_app (E := D.int) (v := t23) rfl (ev_op (ev_op (ev_ow rfl) ev_c rfl rfl (o_ix (E := D.int) gt22)) (ev_sh rfl) rfl rfl (o_fdiv gt23)) rfl rfl gt24 (e2 := [.sh ((eL D.int) v_deal), .ow (List.map D.int s19.1), .ow (List.map D.int t24), .sh (D.int s19.2.2), j18.1, j18.2.1, j18.2.2.1, j18.2.2.2, .un, .un]) rfl ((g_seq (hbind h15 fun t25 gt25 h16 =>
 g_set (e2 := [.sh ((eL D.int) v_deal), .ow (List.map D.int s19.1), .ow (List.map D.int t24), .sh (D.int t25), j18.1, j18.2.1, j18.2.2.1, j18.2.2.2, .un, .un]) (ev_op (ev_sh rfl) (ev_cb (av_1 (ev_ow rfl) av_0) rfl (o_len (E := D.int) (xs := t24))) rfl rfl (o_mul gt25)) rfl (g_seq (g_frz (e1 := [.sh ((eL D.int) v_deal), .sh ((eL D.int) s19.1), .ow (List.map D.int t24), .sh (D.int t25), j18.1, j18.2.1, j18.2.2.1, j18.2.2.2, .un, .un]) rfl rfl (hbind h16 fun t26 gt26 h17 =>
 hbind h17 fun t30 gt30 h19 =>
 g_set (e2 := [.sh ((eL D.int) v_deal), .ow (List.map D.int t30), .ow (List.map D.int t24), .sh (D.int t25), j18.1, j18.2.1, j18.2.2.1, j18.2.2.2, .un, .un]) (ev_lcm (E := (eT2 D.int D.int)) (E' := D.int) [.sh ((eL D.int) v_deal), .sh ((eL D.int) s19.1), .ow (List.map D.int t24), .sh (D.int t25), j18.1, j18.2.1, j18.2.2.1, j18.2.2.2, .un, .un] gt30 (i_zip (E := D.int) (E' := D.int) (ev_sh rfl) (ev_sl (E := D.int) (xs := s19.1) (ev_sh rfl) (pv_so ev_c) pv_no rfl) rfl rfl) gt26.ok rfl rfl rfl (fun x27 m28 => ⟨[.sh ((eL D.int) v_deal), .sh ((eL D.int) s19.1), .ow (List.map D.int t24), .sh (D.int t25), j18.1, j18.2.1, j18.2.2.1, j18.2.2.2, .sh (D.int x27.1), .sh (D.int x27.2)], rfl, fun w29 h18 => (by have hq := hd_eq h18; (first | subst hq | cases hq); exact ⟨_, (ev_op (ev_sh rfl) (ev_sh rfl) rfl rfl x_sub), rfl⟩), rfl⟩)) rfl ((by have hq := hd_eq h19; (first | subst hq | cases hq); exact nq_nx (shape := (fun (s19 : ((List Int) × (List Int) × Int)) (j20 : Unit) => [.sh ((eL D.int) v_deal), .ow (List.map D.int s19.1), .ow (List.map D.int s19.2.1), .sh (D.int s19.2.2), j18.1, j18.2.1, j18.2.2.1, j18.2.2.2, .un, .un])) () rfl))))))))))) (fun j32 => g_ret (ev_rev (E := D.int) (xs := s31.2.1) (ev_ow rfl) rfl) ((by have hq := hd_eq h20; (first | subst hq | cases hq); exact of_fr))))))))))))

def c_law_hits (v_deal : (List Int)) : M (List Int) :=
 bd (pr ((v_deal).length : Int)) fun v_size_here1 =>
 bd (repM [0] (((v_deal).length : Int) + 1)) fun t2 =>
 bd (c_law_counted v_deal) fun t4 =>
 bd (forM (fun (s5 : ((List Int) × (List Int))) (x7 : (Int × Int)) => (bd (c_law_factorial (v_size_here1 - x7.1)) fun t9 =>
 bd (mulM x7.2 t9) fun t10 =>
 bd (forM (fun (s11 : (List Int)) (x13 : (Int × Int)) => (bd (getM s11 x13.1) fun t15 =>
 bd (mulM t10 x13.2) fun t16 =>
 bd (setM s11 x13.1 (t15 + t16)) fun t17 =>
 pr t17 : M (List Int))) s5.1 (enumL s5.2)) fun s18 =>
 bd (catM [0] s5.2) fun t20 =>
 bd (catM s5.2 [0]) fun t21 =>
 bd (shortM ((List.zip t20 t21)).length) fun t22 =>
 bd (mapM (fun (x23 : (Int × Int)) => pr (x23.1 - x23.2)) (List.zip t20 t21)) fun t26 =>
 pr (s18, t26) : M ((List Int) × (List Int)))) (t2, [1]) (enumL t4)) fun s27 =>
 pr s27.1
set_option maxHeartbeats 4000000 in
theorem t_law_hits {v_deal : (List Int)} {r : (List Int)} (h : Hd (c_law_hits v_deal) r) : ∃ e, m_law_hits [.sh ((eL D.int) v_deal)] = some (.fr (List.map D.int r) e) := by
  unfold c_law_hits at h
  exact m_fr (E := D.int) (a := r) rfl (show Go F_law_hits [.sh ((eL D.int) v_deal), .un, .un, .un, .un, .un, .un, .un, .un, .un, .un] ((OF 1 D.int) r) from
 (g_seq (hbind h fun v_size_here1 gv_size_here1 h1 =>
 hbind h1 fun t2 gt2 h2 =>
 g_parN (e2 := [.sh ((eL D.int) v_deal), .sh (D.int v_size_here1), .ow (List.map D.int t2), .ow (List.map D.int [1]), .un, .un, .un, .un, .un, .un, .un]) (av_1 (ev_pr (K := fun v => R.val (D.int v)) gv_size_here1 (ev_cb (av_1 (ev_sh rfl) av_0) rfl (o_len (E := D.int) (xs := v_deal)))) (av_1 (ev_opL (ev_lst (ds := List.map D.int [0]) (av_1 ev_c av_0) rfl (Nat.le_of_ble_eq_true rfl)) (ev_op (ev_cb (av_1 (ev_sh rfl) av_0) rfl (o_len (E := D.int) (xs := v_deal))) ev_c rfl rfl x_add) rfl rfl (o_rep (E := D.int) gt2)) (av_1 (ev_lst (ds := List.map D.int [1]) (av_1 ev_c av_0) rfl (Nat.le_of_ble_eq_true rfl)) av_0))) rfl rfl ((g_seq (hbind h2 fun t4 gt4 h4 =>
 hbind h4 fun s27 gs27 h18 =>
 g_for (E := (eT2 D.int D.int)) (fun (s5 : ((List Int) × (List Int))) (j6 : (Sl × Sl × Sl × Sl × Sl)) => [.sh ((eL D.int) v_deal), .sh (D.int v_size_here1), .ow (List.map D.int s5.1), .ow (List.map D.int s5.2), j6.1, j6.2.1, j6.2.2.1, j6.2.2.2.1, j6.2.2.2.2, .un, .un]) (.un, .un, .un, .un, .un) gs27 (i_enum (E := D.int) (ev_callL (ds := [(eL D.int) v_deal]) (av_1 (ev_sh rfl) av_0) rfl rfl (t_law_counted gt4)) rfl) rfl (fun s5 x7 j6 r8 h5 => g_tgt (e1 := [.sh ((eL D.int) v_deal), .sh (D.int v_size_here1), .ow (List.map D.int s5.1), .ow (List.map D.int s5.2), .sh (D.int x7.1), .sh (D.int x7.2), j6.2.2.1, j6.2.2.2.1, j6.2.2.2.2, .un, .un]) rfl ((g_seq (hbind h5 fun t9 gt9 h6 =>
 hbind h6 fun t10 gt10 h7 =>
 g_set (e2 := [.sh ((eL D.int) v_deal), .sh (D.int v_size_here1), .ow (List.map D.int s5.1), .ow (List.map D.int s5.2), .sh (D.int x7.1), .sh (D.int x7.2), .sh (D.int t10), j6.2.2.2.1, j6.2.2.2.2, .un, .un]) (ev_op (ev_sh rfl) (ev_call (ds := [D.int (v_size_here1 - x7.1)]) (av_1 (ev_op (ev_sh rfl) (ev_sh rfl) rfl rfl x_sub) av_0) rfl rfl (t_law_factorial gt9)) rfl rfl (o_mul gt10)) rfl ((g_seq (g_seq (g_frz (e1 := [.sh ((eL D.int) v_deal), .sh (D.int v_size_here1), .ow (List.map D.int s5.1), .sh ((eL D.int) s5.2), .sh (D.int x7.1), .sh (D.int x7.2), .sh (D.int t10), j6.2.2.2.1, j6.2.2.2.2, .un, .un]) rfl rfl (hbind h7 fun s18 gs18 h12 =>
 g_for (E := (eT2 D.int D.int)) (fun (s11 : (List Int)) (j12 : (Sl × Sl)) => [.sh ((eL D.int) v_deal), .sh (D.int v_size_here1), .ow (List.map D.int s11), .sh ((eL D.int) s5.2), .sh (D.int x7.1), .sh (D.int x7.2), .sh (D.int t10), j12.1, j12.2, .un, .un]) (j6.2.2.2.1, j6.2.2.2.2) gs18 (i_enum (E := D.int) (ev_sh rfl) rfl) rfl (fun s11 x13 j12 r14 h8 => g_tgt (e1 := [.sh ((eL D.int) v_deal), .sh (D.int v_size_here1), .ow (List.map D.int s11), .sh ((eL D.int) s5.2), .sh (D.int x7.1), .sh (D.int x7.2), .sh (D.int t10), .sh (D.int x13.1), .sh (D.int x13.2), .un, .un]) rfl (hbind h8 fun t15 gt15 h9 =>
 hbind h9 fun t16 gt16 h10 =>
 hbind h10 fun t17 gt17 h11 =>
 g_put (E := D.int) (v := (t15 + t16)) (xs0 := []) (ev_op (ev_op (ev_ow rfl) (ev_sh rfl) rfl rfl (o_ix (E := D.int) gt15)) (ev_op (ev_sh rfl) (ev_sh rfl) rfl rfl (o_mul gt16)) rfl rfl x_add) rfl rfl (ev_sh rfl) gt17 (e2 := [.sh ((eL D.int) v_deal), .sh (D.int v_size_here1), .ow (List.map D.int t17), .sh ((eL D.int) s5.2), .sh (D.int x7.1), .sh (D.int x7.2), .sh (D.int t10), .sh (D.int x13.1), .sh (D.int x13.2), .un, .un]) rfl ((by have hq := hd_eq h11; (first | subst hq | cases hq); exact nq_nx (shape := (fun (s11 : (List Int)) (j12 : (Sl × Sl)) => [.sh ((eL D.int) v_deal), .sh (D.int v_size_here1), .ow (List.map D.int s11), .sh ((eL D.int) s5.2), .sh (D.int x7.1), .sh (D.int x7.2), .sh (D.int t10), j12.1, j12.2, .un, .un])) (.sh (D.int x13.1), .sh (D.int x13.2)) rfl)))) (fun j19 => hbind h12 fun t20 gt20 h13 =>
 hbind h13 fun t21 gt21 h14 =>
 hbind h14 fun t22 gt22 h15 =>
 hbind h15 fun t26 gt26 h17 =>
 g_set (e2 := [.sh ((eL D.int) v_deal), .sh (D.int v_size_here1), .ow (List.map D.int s18), .ow (List.map D.int t26), .sh (D.int x7.1), .sh (D.int x7.2), .sh (D.int t10), j19.1, j19.2, .un, .un]) (ev_lcm (E := (eT2 D.int D.int)) (E' := D.int) [.sh ((eL D.int) v_deal), .sh (D.int v_size_here1), .ow (List.map D.int s18), .sh ((eL D.int) s5.2), .sh (D.int x7.1), .sh (D.int x7.2), .sh (D.int t10), j19.1, j19.2, .un, .un] gt26 (i_zip (E := D.int) (E' := D.int) (ev_opL (ev_lst (ds := List.map D.int [0]) (av_1 ev_c av_0) rfl (Nat.le_of_ble_eq_true rfl)) (ev_sh rfl) rfl rfl (o_cat (E := D.int) gt20)) (ev_opL (ev_sh rfl) (ev_lst (ds := List.map D.int [0]) (av_1 ev_c av_0) rfl (Nat.le_of_ble_eq_true rfl)) rfl rfl (o_cat (E := D.int) gt21)) rfl rfl) gt22.ok rfl rfl rfl (fun x23 m24 => ⟨[.sh ((eL D.int) v_deal), .sh (D.int v_size_here1), .ow (List.map D.int s18), .sh ((eL D.int) s5.2), .sh (D.int x7.1), .sh (D.int x7.2), .sh (D.int t10), j19.1, j19.2, .sh (D.int x23.1), .sh (D.int x23.2)], rfl, fun w25 h16 => (by have hq := hd_eq h16; (first | subst hq | cases hq); exact ⟨_, (ev_op (ev_sh rfl) (ev_sh rfl) rfl rfl x_sub), rfl⟩), rfl⟩)) rfl ((by have hq := hd_eq h17; (first | subst hq | cases hq); exact nq_nx (shape := (fun (s5 : ((List Int) × (List Int))) (j6 : (Sl × Sl × Sl × Sl × Sl)) => [.sh ((eL D.int) v_deal), .sh (D.int v_size_here1), .ow (List.map D.int s5.1), .ow (List.map D.int s5.2), j6.1, j6.2.1, j6.2.2.1, j6.2.2.2.1, j6.2.2.2.2, .un, .un])) (.sh (D.int x7.1), .sh (D.int x7.2), .sh (D.int t10), j19.1, j19.2) rfl)))))))))))) (fun j28 => g_ret (ev_ow rfl) ((by have hq := hd_eq h18; (first | subst hq | cases hq); exact (of_al rfl (by decide)))))))))))

def c_law_pick (v_store : (List Int)) (v_bound : Int) : M (Int × (List Int)) :=
 bd (getM v_store 0) fun t1 =>
 cnd (decide (0 < t1)) (
 bd (getM v_store 0) fun t2 =>
 bd (modM t2 v_bound) fun t3 =>
 bd (getM v_store 0) fun t4 =>
 bd (fdivM t4 v_bound) fun t5 =>
 bd (setM v_store 0 t5) fun t6 =>
 pr (t3, t6)) (
 bd (getM v_store 2) fun t7 =>
 bd (setM v_store 2 (t7 + 1)) fun t8 =>
 bd (getM t8 1) fun t9 =>
 bd (getM t8 2) fun t10 =>
 bd (mulM 32416187567 t10) fun t11 =>
 bd (powM (t9 + t11) 3) fun t12 =>
 bd (powM 10 40) fun t13 =>
 bd (modM t12 (t13 + 121)) fun t14 =>
 bd (getM t8 2) fun t15 =>
 bd (mulM 27644437 t15) fun t16 =>
 bd (powM (t14 + t16) 3) fun t17 =>
 bd (powM 10 39) fun t18 =>
 bd (modM t17 (t18 + 3)) fun t19 =>
 bd (fdivM t19 16381) fun t20 =>
 bd (modM t20 v_bound) fun t21 =>
 pr (t21, t8))
set_option maxHeartbeats 4000000 in
theorem t_law_pick {v_store : (List Int)} {v_bound : Int} {r : (Int × (List Int))} (h : Hd (c_law_pick v_store v_bound) r) : ∃ e, m_law_pick [.ow (List.map D.int v_store), .sh (D.int v_bound)] = some (.val (D.int r.1) (.ow (List.map D.int r.2) :: e)) := by
  unfold c_law_pick at h
  exact m_io (E := D.int) (a := r) rfl (show Go F_law_pick [.ow (List.map D.int v_store), .sh (D.int v_bound), .un, .un] ((OVo D.int D.int) r) from
 (g_seq (hbind h fun t1 gt1 h1 =>
 g_if (tv_x (ev_op (ev_op (ev_ow rfl) ev_c rfl rfl (o_ix (E := D.int) gt1)) ev_c rfl rfl x_gt)) (fun h2 => have h3 := cnd_t h1 h2; (g_seq (hbind h3 fun t2 gt2 h5 =>
 hbind h5 fun t3 gt3 h6 =>
 g_set (e2 := [.ow (List.map D.int v_store), .sh (D.int v_bound), .sh (D.int t3), .un]) (ev_op (ev_cb (av_1 (ev_op (ev_ow rfl) ev_c rfl rfl (o_ix (E := D.int) gt2)) av_0) rfl x_int) (ev_sh rfl) rfl rfl (o_mod gt3)) rfl ((g_seq (hbind h6 fun t4 gt4 h7 =>
 hbind h7 fun t5 gt5 h8 =>
 hbind h8 fun t6 gt6 h9 =>
 g_put (E := D.int) (v := t5) (xs0 := []) (ev_op (ev_op (ev_ow rfl) ev_c rfl rfl (o_ix (E := D.int) gt4)) (ev_sh rfl) rfl rfl (o_fdiv gt5)) rfl rfl ev_c gt6 (e2 := [.ow (List.map D.int t6), .sh (D.int v_bound), .sh (D.int t3), .un]) rfl (g_ret (ev_sh rfl) ((by have hq := hd_eq h9; (first | subst hq | cases hq); exact (ovo_val (r := (t3, t6)) rfl)))))))))) (fun h2 => have h4 := cnd_f h1 h2; g_next ((g_seq (hbind h4 fun t7 gt7 h10 =>
 hbind h10 fun t8 gt8 h11 =>
 g_put (E := D.int) (v := (t7 + 1)) (xs0 := []) (ev_op (ev_op (ev_ow rfl) ev_c rfl rfl (o_ix (E := D.int) gt7)) ev_c rfl rfl x_add) rfl rfl ev_c gt8 (e2 := [.ow (List.map D.int t8), .sh (D.int v_bound), .un, .un]) rfl ((g_seq (hbind h11 fun t9 gt9 h12 =>
 hbind h12 fun t10 gt10 h13 =>
 hbind h13 fun t11 gt11 h14 =>
 hbind h14 fun t12 gt12 h15 =>
 hbind h15 fun t13 gt13 h16 =>
 hbind h16 fun t14 gt14 h17 =>
 g_set (e2 := [.ow (List.map D.int t8), .sh (D.int v_bound), .un, .sh (D.int t14)]) (ev_op (ev_cb (av_1 (ev_op (ev_op (ev_op (ev_ow rfl) ev_c rfl rfl (o_ix (E := D.int) gt9)) (ev_op ev_c (ev_op (ev_ow rfl) ev_c rfl rfl (o_ix (E := D.int) gt10)) rfl rfl (o_mul gt11)) rfl rfl x_add) ev_c rfl rfl (o_pow gt12)) av_0) rfl x_int) (ev_op (ev_op ev_c ev_c rfl rfl (o_pow gt13)) ev_c rfl rfl x_add) rfl rfl (o_mod gt14)) rfl ((g_seq (hbind h17 fun t15 gt15 h18 =>
 hbind h18 fun t16 gt16 h19 =>
 hbind h19 fun t17 gt17 h20 =>
 hbind h20 fun t18 gt18 h21 =>
 hbind h21 fun t19 gt19 h22 =>
 g_set (e2 := [.ow (List.map D.int t8), .sh (D.int v_bound), .un, .sh (D.int t19)]) (ev_op (ev_cb (av_1 (ev_op (ev_op (ev_sh rfl) (ev_op ev_c (ev_op (ev_ow rfl) ev_c rfl rfl (o_ix (E := D.int) gt15)) rfl rfl (o_mul gt16)) rfl rfl x_add) ev_c rfl rfl (o_pow gt17)) av_0) rfl x_int) (ev_op (ev_op ev_c ev_c rfl rfl (o_pow gt18)) ev_c rfl rfl x_add) rfl rfl (o_mod gt19)) rfl (hbind h22 fun t20 gt20 h23 =>
 hbind h23 fun t21 gt21 h24 =>
 g_ret (ev_op (ev_cb (av_1 (ev_op (ev_sh rfl) ev_c rfl rfl (o_fdiv gt20)) av_0) rfl x_int) (ev_sh rfl) rfl rfl (o_mod gt21)) ((by have hq := hd_eq h24; (first | subst hq | cases hq); exact (ovo_val (r := (t21, t8)) rfl)))))))))))))))))

def c_law_lowest (v_top : Int) (v_bottom : Int) : M (Int × Int) :=
 bd (whileM (fun (s1 : (Int × Int)) => pr (decide (0 < s1.2))) (fun (s1 : (Int × Int)) => bd (modM s1.1 s1.2) fun t4 =>
 pr (s1.2, t4)) 3000 (v_top, v_bottom)) fun s5 =>
 bd (fdivM v_top s5.1) fun t7 =>
 bd (fdivM v_bottom s5.1) fun t8 =>
 pr (t7, t8)
set_option maxHeartbeats 4000000 in
theorem t_law_lowest {v_top : Int} {v_bottom : Int} {r : (Int × Int)} (h : Hd (c_law_lowest v_top v_bottom) r) : ∃ e, m_law_lowest [.sh (D.int v_top), .sh (D.int v_bottom)] = some (.val ((eT2 D.int D.int) r) e) := by
  unfold c_law_lowest at h
  exact m_val (E := (eT2 D.int D.int)) (a := r) rfl (show Go F_law_lowest [.sh (D.int v_top), .sh (D.int v_bottom), .un, .un] ((OV (eT2 D.int D.int)) r) from
 (g_seq (g_par (e2 := [.sh (D.int v_top), .sh (D.int v_bottom), .sh (D.int v_top), .sh (D.int v_bottom)]) (av_1 (ev_sh rfl) (av_1 (ev_sh rfl) av_0)) rfl ((g_seq (hbind h fun s5 gs5 h4 =>
 g_while (fun (s1 : (Int × Int)) (j2 : Unit) => [.sh (D.int v_top), .sh (D.int v_bottom), .sh (D.int s1.1), .sh (D.int s1.2)]) () gs5 rfl (fun s1 j2 r3 h1 => tv_pr h1 (tv_x (ev_op (ev_sh rfl) ev_c rfl rfl x_gt))) (fun s1 j2 r3 h2 => hbind h2 fun t4 gt4 h3 =>
 g_par (e2 := [.sh (D.int v_top), .sh (D.int v_bottom), .sh (D.int s1.2), .sh (D.int t4)]) (av_1 (ev_sh rfl) (av_1 (ev_op (ev_cb (av_1 (ev_sh rfl) av_0) rfl x_int) (ev_sh rfl) rfl rfl (o_mod gt4)) av_0)) rfl ((by have hq := hd_eq h3; (first | subst hq | cases hq); exact nq_nx (shape := (fun (s1 : (Int × Int)) (j2 : Unit) => [.sh (D.int v_top), .sh (D.int v_bottom), .sh (D.int s1.1), .sh (D.int s1.2)])) () rfl))) (fun j6 => hbind h4 fun t7 gt7 h5 =>
 hbind h5 fun t8 gt8 h6 =>
 g_ret (ev_tup (ds := [D.int t7, D.int t8]) (av_1 (ev_op (ev_sh rfl) (ev_sh rfl) rfl rfl (o_fdiv gt7)) (av_1 (ev_op (ev_sh rfl) (ev_sh rfl) rfl rfl (o_fdiv gt8)) av_0)) rfl (Nat.le_of_ble_eq_true rfl)) ((by have hq := hd_eq h6; (first | subst hq | cases hq); exact ov_val)))))))))

def c_law_pair_right (v_store : (List Int)) (v_deal : (List Int)) (v_rows : (List Int)) : M (Bool × (List Int)) :=
 bd (c_law_pick v_store ((v_deal).length : Int)) fun t1 =>
 bd (shortM ((enumL v_rows)).length) fun t2 =>
 bd (filM (fun (x3 : (Int × Int)) => pr (decide (0 < x3.2))) (fun (x3 : (Int × Int)) => pr x3.1) (enumL v_rows)) fun t6 =>
 bd (c_law_pick t1.2 ((t6).length : Int)) fun t7 =>
 bd (getM t6 t7.1) fun t8 =>
 bd (pr ([] : (List (Int × Int)))) fun v_due9 =>
 bd (rgM 0 ((v_deal).length : Int)) fun t11 =>
 bd (forM (fun (s12 : ((List (Int × Int)) × Int)) (x14 : Int) => (bd (catM (cutI v_deal none (some t1.1)) (cutI v_deal (some (t1.1 + 1)) none)) fun t16 =>
 bd (shortM (t16).length) fun t17 =>
 bd (mapM (fun (x18 : Int) => pr (x18 - (if (decide (x14 < x18)) then (1 : Int) else 0))) t16) fun t21 =>
 bd (c_law_hits t21) fun t22 =>
 bd (getM v_deal t1.1) fun t23 =>
 bd (pr (t8 - (if (decide (x14 < t23)) then (1 : Int) else 0))) fun v_left24 =>
 bd (cnd (decide (0 ≤ v_left24) && decide (v_left24 < ((t22).length : Int))) (bd (getM t22 v_left24) fun t26 =>
 pr t26) (pr 0)) fun t27 =>
 bd (getM v_rows t8) fun t28 =>
 bd (c_law_lowest t27 t28) fun t29 =>
 bd (appM s12.1 t29) fun t30 =>
 bd (pr (s12.2 + t27)) fun v_tops31 =>
 pr (t30, v_tops31) : M ((List (Int × Int)) × Int))) (v_due9, 0) t11) fun s32 =>
 bd (rgM 0 ((v_deal).length : Int)) fun t34 =>
 bd (shortM (t34).length) fun t35 =>
 bd (mapM (fun (x36 : Int) => bd (c_pair_by_hits v_deal t1.1 x36 t8) fun t38 =>
 pr t38) t34) fun t40 =>
 bd (reprDM ((eL (eT2 D.int D.int)) t40)) fun t41 =>
 bd (reprDM ((eL (eT2 D.int D.int)) s32.1)) fun t42 =>
 bd (cnd (decide (t41 = t42)) (bd (getM v_rows t8) fun t43 =>
 pr (decide (s32.2 = t43))) (pr false)) fun t44 =>
 pr (t44, t7.2)
set_option maxHeartbeats 4000000 in
theorem t_law_pair_right {v_store : (List Int)} {v_deal : (List Int)} {v_rows : (List Int)} {r : (Bool × (List Int))} (h : Hd (c_law_pair_right v_store v_deal v_rows) r) : ∃ e, m_law_pair_right [.ow (List.map D.int v_store), .sh ((eL D.int) v_deal), .sh ((eL D.int) v_rows)] = some (.val (D.bl r.1) (.ow (List.map D.int r.2) :: e)) := by
  unfold c_law_pair_right at h
  exact m_io (E := D.bl) (a := r) rfl (show Go F_law_pair_right [.ow (List.map D.int v_store), .sh ((eL D.int) v_deal), .sh ((eL D.int) v_rows), .un, .un, .un, .un, .un, .un, .un, .un, .un, .un, .un, .un, .un] ((OVo D.bl D.int) r) from
 (g_seq (hbind h fun t1 gt1 h1 =>
 hbind h1 fun t2 gt2 h2 =>
 hbind h2 fun t6 gt6 h5 =>
 g_parN (e2 := [.ow (List.map D.int t1.2), .sh ((eL D.int) v_deal), .sh ((eL D.int) v_rows), .sh (D.int t1.1), .ow (List.map D.int t6), .un, .un, .un, .un, .un, .un, .un, .un, .un, .un, .un]) (av_1 (ev_io (E := D.int) (e2 := [.ow (List.map D.int t1.2), .sh ((eL D.int) v_deal), .sh ((eL D.int) v_rows), .un, .un, .un, .un, .un, .un, .un, .un, .un, .un, .un, .un, .un]) (ds := [D.int ((v_deal).length : Int)]) (av_1 (ev_ow rfl) (av_1 (ev_cb (av_1 (ev_sh rfl) av_0) rfl (o_len (E := D.int) (xs := v_deal))) av_0)) rfl rfl rfl (t_law_pick gt1) rfl) (av_1 (ev_lcM (E := (eT2 D.int D.int)) (E' := D.int) [.ow (List.map D.int t1.2), .sh ((eL D.int) v_deal), .sh ((eL D.int) v_rows), .un, .un, .un, .un, .un, .un, .un, .un, .un, .un, .un, .un, .un] gt6 (i_enum (E := D.int) (ev_sh rfl) rfl) gt2.ok rfl rfl rfl (fun x3 m4 => ⟨[.ow (List.map D.int t1.2), .sh ((eL D.int) v_deal), .sh ((eL D.int) v_rows), .un, .un, .sh (D.int x3.1), .sh (D.int x3.2), .un, .un, .un, .un, .un, .un, .un, .un, .un], rfl, fun w5 h3 => tv_pr h3 (tv_x (ev_op (ev_sh rfl) ev_c rfl rfl x_gt)), fun w5 h4 => (by have hq := hd_eq h4; (first | subst hq | cases hq); exact ⟨_, (ev_sh rfl), rfl⟩), rfl⟩)) av_0)) rfl rfl ((g_seq (hbind h5 fun t7 gt7 h6 =>
 hbind h6 fun t8 gt8 h7 =>
 g_set (e2 := [.ow (List.map D.int t7.2), .sh ((eL D.int) v_deal), .sh ((eL D.int) v_rows), .sh (D.int t1.1), .ow (List.map D.int t6), .sh (D.int t8), .un, .un, .un, .un, .un, .un, .un, .un, .un, .un]) (ev_op (ev_ow rfl) (ev_io (E := D.int) (e2 := [.ow (List.map D.int t7.2), .sh ((eL D.int) v_deal), .sh ((eL D.int) v_rows), .sh (D.int t1.1), .ow (List.map D.int t6), .un, .un, .un, .un, .un, .un, .un, .un, .un, .un, .un]) (ds := [D.int ((t6).length : Int)]) (av_1 (ev_ow rfl) (av_1 (ev_cb (av_1 (ev_ow rfl) av_0) rfl (o_len (E := D.int) (xs := t6))) av_0)) rfl rfl rfl (t_law_pick gt7) rfl) rfl rfl (o_ix (E := D.int) gt8)) rfl ((g_seq (hbind h7 fun v_due9 gv_due9 h8 =>
 g_parN (e2 := [.ow (List.map D.int t7.2), .sh ((eL D.int) v_deal), .sh ((eL D.int) v_rows), .sh (D.int t1.1), .ow (List.map D.int t6), .sh (D.int t8), .un, .ow (List.map (eT2 D.int D.int) v_due9), .sh (D.int 0), .un, .un, .un, .un, .un, .un, .un]) (av_1 (ev_pr (K := fun v => R.fr (List.map (eT2 D.int D.int) v)) gv_due9 (ev_lst (ds := []) av_0 rfl (Nat.le_of_ble_eq_true rfl))) (av_1 ev_c av_0)) rfl rfl ((g_seq (hbind h8 fun t11 gt11 h10 =>
 hbind h10 fun s32 gs32 h27 =>
 g_for (E := D.int) (fun (s12 : ((List (Int × Int)) × Int)) (j13 : (Sl × Sl × Sl × Sl × Sl)) => [.ow (List.map D.int t7.2), .sh ((eL D.int) v_deal), .sh ((eL D.int) v_rows), .sh (D.int t1.1), .ow (List.map D.int t6), .sh (D.int t8), .un, .ow (List.map (eT2 D.int D.int) s12.1), .sh (D.int s12.2), j13.1, j13.2.1, j13.2.2.1, j13.2.2.2.1, j13.2.2.2.2, .un, .un]) (.un, .un, .un, .un, .un) gs32 (i_r1 (ev_cb (av_1 (ev_sh rfl) av_0) rfl (o_len (E := D.int) (xs := v_deal))) gt11) rfl (fun s12 x14 j13 r15 h11 => g_tgt (e1 := [.ow (List.map D.int t7.2), .sh ((eL D.int) v_deal), .sh ((eL D.int) v_rows), .sh (D.int t1.1), .ow (List.map D.int t6), .sh (D.int t8), .un, .ow (List.map (eT2 D.int D.int) s12.1), .sh (D.int s12.2), .sh (D.int x14), j13.2.1, j13.2.2.1, j13.2.2.2.1, j13.2.2.2.2, .un, .un]) rfl ((g_seq (hbind h11 fun t16 gt16 h12 =>
 hbind h12 fun t17 gt17 h13 =>
 hbind h13 fun t21 gt21 h15 =>
 g_set (e2 := [.ow (List.map D.int t7.2), .sh ((eL D.int) v_deal), .sh ((eL D.int) v_rows), .sh (D.int t1.1), .ow (List.map D.int t6), .sh (D.int t8), .un, .ow (List.map (eT2 D.int D.int) s12.1), .sh (D.int s12.2), .sh (D.int x14), .ow (List.map D.int t21), j13.2.2.1, j13.2.2.2.1, j13.2.2.2.2, .un, .un]) (ev_lcm (E := D.int) (E' := D.int) [.ow (List.map D.int t7.2), .sh ((eL D.int) v_deal), .sh ((eL D.int) v_rows), .sh (D.int t1.1), .ow (List.map D.int t6), .sh (D.int t8), .un, .ow (List.map (eT2 D.int D.int) s12.1), .sh (D.int s12.2), .sh (D.int x14), j13.2.1, j13.2.2.1, j13.2.2.2.1, j13.2.2.2.2, .un, .un] gt21 (i_seq (E := D.int) (ev_opL (ev_sl (E := D.int) (xs := v_deal) (ev_sh rfl) pv_no (pv_so (ev_sh rfl)) rfl) (ev_sl (E := D.int) (xs := v_deal) (ev_sh rfl) (pv_so (ev_op (ev_sh rfl) ev_c rfl rfl x_add)) pv_no rfl) rfl rfl (o_cat (E := D.int) gt16)) rfl) gt17.ok rfl rfl rfl (fun x18 m19 => ⟨[.ow (List.map D.int t7.2), .sh ((eL D.int) v_deal), .sh ((eL D.int) v_rows), .sh (D.int t1.1), .ow (List.map D.int t6), .sh (D.int t8), .un, .ow (List.map (eT2 D.int D.int) s12.1), .sh (D.int s12.2), .sh (D.int x14), j13.2.1, j13.2.2.1, j13.2.2.2.1, j13.2.2.2.2, .sh (D.int x18), .un], rfl, fun w20 h14 => (by have hq := hd_eq h14; (first | subst hq | cases hq); exact ⟨_, (ev_op (ev_sh rfl) (ev_cb (av_1 (ev_op (ev_sh rfl) (ev_sh rfl) rfl rfl x_gt) av_0) rfl rfl) rfl rfl x_sub), rfl⟩), rfl⟩)) rfl ((g_seq (g_seq (g_frz (e1 := [.ow (List.map D.int t7.2), .sh ((eL D.int) v_deal), .sh ((eL D.int) v_rows), .sh (D.int t1.1), .ow (List.map D.int t6), .sh (D.int t8), .un, .ow (List.map (eT2 D.int D.int) s12.1), .sh (D.int s12.2), .sh (D.int x14), .sh ((eL D.int) t21), j13.2.2.1, j13.2.2.2.1, j13.2.2.2.2, .un, .un]) rfl rfl (hbind h15 fun t22 gt22 h16 =>
 hbind h16 fun t23 gt23 h17 =>
 hbind h17 fun v_left24 gv_left24 h18 =>
 g_parN (e2 := [.ow (List.map D.int t7.2), .sh ((eL D.int) v_deal), .sh ((eL D.int) v_rows), .sh (D.int t1.1), .ow (List.map D.int t6), .sh (D.int t8), .un, .ow (List.map (eT2 D.int D.int) s12.1), .sh (D.int s12.2), .sh (D.int x14), .sh ((eL D.int) t21), .ow (List.map D.int t22), .sh (D.int v_left24), j13.2.2.2.2, .un, .un]) (av_1 (ev_callL (ds := [(eL D.int) t21]) (av_1 (ev_sh rfl) av_0) rfl rfl (t_law_hits gt22)) (av_1 (ev_pr (K := fun v => R.val (D.int v)) gv_left24 (ev_op (ev_sh rfl) (ev_cb (av_1 (ev_op (ev_sh rfl) (ev_op (ev_sh rfl) (ev_sh rfl) rfl rfl (o_ix (E := D.int) gt23)) rfl rfl x_lt) av_0) rfl rfl) rfl rfl x_sub)) av_0)) rfl rfl ((g_seq (hbind h18 fun t27 gt27 h22 =>
 g_set (e2 := [.ow (List.map D.int t7.2), .sh ((eL D.int) v_deal), .sh ((eL D.int) v_rows), .sh (D.int t1.1), .ow (List.map D.int t6), .sh (D.int t8), .un, .ow (List.map (eT2 D.int D.int) s12.1), .sh (D.int s12.2), .sh (D.int x14), .sh ((eL D.int) t21), .ow (List.map D.int t22), .sh (D.int v_left24), .sh (D.int t27), .un, .un]) (ev_iteM (K := fun v => R.val (D.int v)) gt27 (tv_x (ev_chain ev_c (ev_sh rfl) rfl x_le (ev_cb (av_1 (ev_ow rfl) av_0) rfl (o_len (E := D.int) (xs := t22))) rfl x_lt)) (fun w25 h19 => hbind h19 fun t26 gt26 h21 =>
 ev_pr (K := fun v => R.val (D.int v)) h21 (ev_op (ev_ow rfl) (ev_sh rfl) rfl rfl (o_ix (E := D.int) gt26))) (fun w25 h20 => ev_pr (K := fun v => R.val (D.int v)) h20 ev_c)) rfl ((g_seq (hbind h22 fun t28 gt28 h23 =>
 hbind h23 fun t29 gt29 h24 =>
 hbind h24 fun t30 gt30 h25 =>
 g_app (E := (eT2 D.int D.int)) (v := t29) rfl (ev_call (ds := [D.int t27, D.int t28]) (av_1 (ev_sh rfl) (av_1 (ev_op (ev_sh rfl) (ev_sh rfl) rfl rfl (o_ix (E := D.int) gt28)) av_0)) rfl rfl (t_law_lowest gt29)) rfl rfl gt30 (e2 := [.ow (List.map D.int t7.2), .sh ((eL D.int) v_deal), .sh ((eL D.int) v_rows), .sh (D.int t1.1), .ow (List.map D.int t6), .sh (D.int t8), .un, .ow (List.map (eT2 D.int D.int) t30), .sh (D.int s12.2), .sh (D.int x14), .sh ((eL D.int) t21), .ow (List.map D.int t22), .sh (D.int v_left24), .sh (D.int t27), .un, .un]) rfl (hbind h25 fun v_tops31 gv_tops31 h26 =>
 g_set (e2 := [.ow (List.map D.int t7.2), .sh ((eL D.int) v_deal), .sh ((eL D.int) v_rows), .sh (D.int t1.1), .ow (List.map D.int t6), .sh (D.int t8), .un, .ow (List.map (eT2 D.int D.int) t30), .sh (D.int v_tops31), .sh (D.int x14), .sh ((eL D.int) t21), .ow (List.map D.int t22), .sh (D.int v_left24), .sh (D.int t27), .un, .un]) (ev_pr (K := fun v => R.val (D.int v)) gv_tops31 (ev_op (ev_sh rfl) (ev_sh rfl) rfl rfl x_add)) rfl ((by have hq := hd_eq h26; (first | subst hq | cases hq); exact nq_nx (shape := (fun (s12 : ((List (Int × Int)) × Int)) (j13 : (Sl × Sl × Sl × Sl × Sl)) => [.ow (List.map D.int t7.2), .sh ((eL D.int) v_deal), .sh ((eL D.int) v_rows), .sh (D.int t1.1), .ow (List.map D.int t6), .sh (D.int t8), .un, .ow (List.map (eT2 D.int D.int) s12.1), .sh (D.int s12.2), j13.1, j13.2.1, j13.2.2.1, j13.2.2.2.1, j13.2.2.2.2, .un, .un])) (.sh (D.int x14), .sh ((eL D.int) t21), .ow (List.map D.int t22), .sh (D.int v_left24), .sh (D.int t27)) rfl)))))))))))))))))) (fun j33 => (g_seq (g_seq (g_drop (e1 := [.ow (List.map D.int t7.2), .sh ((eL D.int) v_deal), .sh ((eL D.int) v_rows), .sh (D.int t1.1), .ow (List.map D.int t6), .sh (D.int t8), .un, .ow (List.map (eT2 D.int D.int) s32.1), .sh (D.int s32.2), .un, j33.2.1, j33.2.2.1, j33.2.2.2.1, j33.2.2.2.2, .un, .un]) rfl (hbind h27 fun t34 gt34 h28 =>
 hbind h28 fun t35 gt35 h29 =>
 hbind h29 fun t40 gt40 h32 =>
 g_set (e2 := [.ow (List.map D.int t7.2), .sh ((eL D.int) v_deal), .sh ((eL D.int) v_rows), .sh (D.int t1.1), .ow (List.map D.int t6), .sh (D.int t8), .un, .ow (List.map (eT2 D.int D.int) s32.1), .sh (D.int s32.2), .un, j33.2.1, j33.2.2.1, j33.2.2.2.1, j33.2.2.2.2, .un, .ow (List.map (eT2 D.int D.int) t40)]) (ev_lcm (E := D.int) (E' := (eT2 D.int D.int)) [.ow (List.map D.int t7.2), .sh ((eL D.int) v_deal), .sh ((eL D.int) v_rows), .sh (D.int t1.1), .ow (List.map D.int t6), .sh (D.int t8), .un, .ow (List.map (eT2 D.int D.int) s32.1), .sh (D.int s32.2), .un, j33.2.1, j33.2.2.1, j33.2.2.2.1, j33.2.2.2.2, .un, .un] gt40 (i_r1 (ev_cb (av_1 (ev_sh rfl) av_0) rfl (o_len (E := D.int) (xs := v_deal))) gt34) gt35.ok rfl rfl rfl (fun x36 m37 => ⟨[.ow (List.map D.int t7.2), .sh ((eL D.int) v_deal), .sh ((eL D.int) v_rows), .sh (D.int t1.1), .ow (List.map D.int t6), .sh (D.int t8), .un, .ow (List.map (eT2 D.int D.int) s32.1), .sh (D.int s32.2), .sh (D.int x36), j33.2.1, j33.2.2.1, j33.2.2.2.1, j33.2.2.2.2, .un, .un], rfl, fun w39 h30 => hbind h30 fun t38 gt38 h31 =>
 (by have hq := hd_eq h31; (first | subst hq | cases hq); exact ⟨_, (ev_call (ds := [(eL D.int) v_deal, D.int t1.1, D.int x36, D.int t8]) (av_1 (ev_sh rfl) (av_1 (ev_sh rfl) (av_1 (ev_sh rfl) (av_1 (ev_sh rfl) av_0)))) rfl rfl (t_pair_by_hits gt38)), rfl⟩), rfl⟩)) rfl (hbind h32 fun t41 gt41 h33 =>
 hbind h33 fun t42 gt42 h34 =>
 hbind h34 fun t44 gt44 h37 =>
 g_ret (ev_andM gt44 (ev_op (ev_cb (av_1 (ev_ow rfl) av_0) rfl (o_reprD gt41)) (ev_cb (av_1 (ev_ow rfl) av_0) rfl (o_reprD gt42)) rfl rfl (o_eqS)) (fun _ h35 => hbind h35 fun t43 gt43 h36 =>
 ev_pr (K := fun v => R.val (D.bl v)) h36 (ev_op (ev_sh rfl) (ev_op (ev_sh rfl) (ev_sh rfl) rfl rfl (o_ix (E := D.int) gt43)) rfl rfl (x_eqI)))) ((by have hq := hd_eq h37; (first | subst hq | cases hq); exact (ovo_val (r := (t44, t7.2)) rfl)))))))))))))))))))))

def c_law_right (v_store : (List Int)) (v_deal : (List Int)) : M (Bool × (List Int)) :=
 bd (c_law_hits v_deal) fun t1 =>
 bd (c_hit_counts ((eL D.int) v_deal)) fun t2 =>
 bd (reprDM ((eL D.int) t2)) fun t3 =>
 bd (reprDM ((eL D.int) t1)) fun t4 =>
 bd (cnd (!(decide (t3 = t4))) (pr true) (bd (c_law_factorial ((v_deal).length : Int)) fun t5 =>
 pr (!(decide ((List.sum t1) = t5))))) fun t6 =>
 cnd t6 (
 pr (false, v_store)) (
 bd (shortM ((enumL t1)).length) fun t7 =>
 bd (mapM (fun (x8 : (Int × Int)) => bd (mulM x8.1 x8.2) fun t10 =>
 pr t10) (enumL t1)) fun t12 =>
 bd (pr (List.sum t12)) fun v_top13 =>
 bd (c_mean_hits ((eL D.int) v_deal)) fun t14 =>
 bd (reprDM ((eT2 D.int D.int) t14)) fun t15 =>
 bd (c_law_lowest v_top13 (List.sum t1)) fun t16 =>
 bd (reprDM ((eT2 D.int D.int) t16)) fun t17 =>
 bd (cnd (!(decide (t15 = t17))) (pr true) (bd (c_law_lowest (List.sum v_deal) ((v_deal).length : Int)) fun t18 =>
 bd (deqM ((eT2 D.int D.int) t14) ((eT2 D.int D.int) t18)) fun t19 =>
 pr (!t19))) fun t20 =>
 cnd t20 (
 pr (false, v_store)) (
 bd (c_law_pair_right v_store v_deal t1) fun t21 =>
 pr ((t21.1 && (decide (v_deal = v_deal))), t21.2)))
set_option maxHeartbeats 4000000 in
theorem t_law_right {v_store : (List Int)} {v_deal : (List Int)} {r : (Bool × (List Int))} (h : Hd (c_law_right v_store v_deal) r) : ∃ e, m_law_right [.ow (List.map D.int v_store), .sh ((eL D.int) v_deal)] = some (.val (D.bl r.1) (.ow (List.map D.int r.2) :: e)) := by
  unfold c_law_right at h
  exact m_io (E := D.bl) (a := r) rfl (show Go F_law_right [.ow (List.map D.int v_store), .sh ((eL D.int) v_deal), .un, .un, .un, .un, .un, .un] ((OVo D.bl D.int) r) from
 (g_seq (hbind h fun t1 gt1 h1 =>
 g_parN (e2 := [.ow (List.map D.int v_store), .sh ((eL D.int) v_deal), .ow (List.map D.int v_deal), .ow (List.map D.int t1), .un, .un, .un, .un]) (av_1 (ev_cbL (av_1 (ev_sh rfl) av_0) rfl (o_list (E := D.int) (xs := v_deal))) (av_1 (ev_callL (ds := [(eL D.int) v_deal]) (av_1 (ev_sh rfl) av_0) rfl rfl (t_law_hits gt1)) av_0)) rfl rfl ((g_seq (hbind h1 fun t2 gt2 h2 =>
 hbind h2 fun t3 gt3 h3 =>
 hbind h3 fun t4 gt4 h4 =>
 hbind h4 fun t6 gt6 h7 =>
 g_if (tv_orM gt6 (tv_x (ev_op (ev_cb (av_1 (ev_callL (ds := [eD ((eL D.int) v_deal)]) (av_1 (ev_sh rfl) av_0) rfl rfl (t_hit_counts gt2)) av_0) rfl (o_reprD gt3)) (ev_cb (av_1 (ev_ow rfl) av_0) rfl (o_reprD gt4)) rfl rfl (o_neS))) (fun _ h5 => hbind h5 fun t5 gt5 h6 =>
 tv_pr h6 (tv_x (ev_op (ev_cb (av_1 (ev_ow rfl) av_0) rfl (o_sum (xs := t1))) (ev_call (ds := [D.int ((v_deal).length : Int)]) (av_1 (ev_cb (av_1 (ev_sh rfl) av_0) rfl (o_len (E := D.int) (xs := v_deal))) av_0) rfl rfl (t_law_factorial gt5)) rfl rfl (x_neI))))) (fun h8 => have h9 := cnd_t h7 h8; g_ret ev_c ((by have hq := hd_eq h9; (first | subst hq | cases hq); exact (ovo_val (r := (false, v_store)) rfl)))) (fun h8 => have h10 := cnd_f h7 h8; g_next ((g_seq (g_seq (g_frz (e1 := [.ow (List.map D.int v_store), .sh ((eL D.int) v_deal), .ow (List.map D.int v_deal), .sh ((eL D.int) t1), .un, .un, .un, .un]) rfl rfl (hbind h10 fun t7 gt7 h11 =>
 hbind h11 fun t12 gt12 h14 =>
 hbind h14 fun v_top13 gv_top13 h15 =>
 g_set (e2 := [.ow (List.map D.int v_store), .sh ((eL D.int) v_deal), .ow (List.map D.int v_deal), .sh ((eL D.int) t1), .sh (D.int v_top13), .un, .un, .un]) (ev_pr (K := fun v => R.val (D.int v)) gv_top13 (ev_cb (av_1 (ev_lcm (E := (eT2 D.int D.int)) (E' := D.int) [.ow (List.map D.int v_store), .sh ((eL D.int) v_deal), .ow (List.map D.int v_deal), .sh ((eL D.int) t1), .un, .un, .un, .un] gt12 (i_enum (E := D.int) (ev_sh rfl) rfl) gt7.ok rfl rfl rfl (fun x8 m9 => ⟨[.ow (List.map D.int v_store), .sh ((eL D.int) v_deal), .ow (List.map D.int v_deal), .sh ((eL D.int) t1), .un, .sh (D.int x8.1), .sh (D.int x8.2), .un], rfl, fun w11 h12 => hbind h12 fun t10 gt10 h13 =>
 (by have hq := hd_eq h13; (first | subst hq | cases hq); exact ⟨_, (ev_op (ev_sh rfl) (ev_sh rfl) rfl rfl (o_mul gt10)), rfl⟩), rfl⟩)) av_0) rfl (o_sum (xs := t12)))) rfl ((g_seq (hbind h15 fun t14 gt14 h16 =>
 g_set (e2 := [.ow (List.map D.int v_store), .sh ((eL D.int) v_deal), .ow (List.map D.int v_deal), .sh ((eL D.int) t1), .sh (D.int v_top13), .un, .un, .sh ((eT2 D.int D.int) t14)]) (ev_call (ds := [eD ((eL D.int) v_deal)]) (av_1 (ev_sh rfl) av_0) rfl rfl (t_mean_hits gt14)) rfl ((g_seq (hbind h16 fun t15 gt15 h17 =>
 hbind h17 fun t16 gt16 h18 =>
 hbind h18 fun t17 gt17 h19 =>
 hbind h19 fun t20 gt20 h23 =>
 g_if (tv_orM gt20 (tv_x (ev_op (ev_cb (av_1 (ev_sh rfl) av_0) rfl (o_reprD gt15)) (ev_cb (av_1 (ev_call (ds := [D.int v_top13, D.int (List.sum t1)]) (av_1 (ev_sh rfl) (av_1 (ev_cb (av_1 (ev_sh rfl) av_0) rfl (o_sum (xs := t1))) av_0)) rfl rfl (t_law_lowest gt16)) av_0) rfl (o_reprD gt17)) rfl rfl (o_neS))) (fun _ h20 => hbind h20 fun t18 gt18 h21 =>
 hbind h21 fun t19 gt19 h22 =>
 tv_pr h22 (tv_x (ev_opV (lv_of (ev_sh rfl) (fun _ => rfl)) (lv_of (ev_call (ds := [D.int (List.sum v_deal), D.int ((v_deal).length : Int)]) (av_1 (ev_cb (av_1 (ev_sh rfl) av_0) rfl (o_sum (xs := v_deal))) (av_1 (ev_cb (av_1 (ev_sh rfl) av_0) rfl (o_len (E := D.int) (xs := v_deal))) av_0)) rfl rfl (t_law_lowest gt18)) (fun _ => rfl)) (o_neD gt19))))) (fun h24 => have h25 := cnd_t h23 h24; g_ret ev_c ((by have hq := hd_eq h25; (first | subst hq | cases hq); exact (ovo_val (r := (false, v_store)) rfl)))) (fun h24 => have h26 := cnd_f h23 h24; g_next (hbind h26 fun t21 gt21 h27 =>
 g_ret (ev_and (ev_io (E := D.int) (e2 := [.ow (List.map D.int t21.2), .sh ((eL D.int) v_deal), .ow (List.map D.int v_deal), .sh ((eL D.int) t1), .sh (D.int v_top13), .un, .un, .sh ((eT2 D.int D.int) t14)]) (ds := [(eL D.int) v_deal, (eL D.int) t1]) (av_1 (ev_ow rfl) (av_1 (ev_sh rfl) (av_1 (ev_sh rfl) av_0))) rfl rfl rfl (t_law_pair_right gt21) rfl) (ev_op (ev_sh rfl) (ev_ow rfl) rfl rfl (x_eqL (xs := v_deal) (ys := v_deal)))) ((by have hq := hd_eq h27; (first | subst hq | cases hq); exact (ovo_val (r := ((t21.1 && (decide (v_deal = v_deal))), t21.2)) rfl)))))))))))))))))))))))

def c_law_deal (v_store : (List Int)) (v_most : Int) (v_top : Int) : M ((List Int) × (List Int)) :=
 bd (c_law_pick v_store v_most) fun t1 =>
 bd (c_law_pick t1.2 6) fun t2 =>
 cnd (decide (((1 + t1.1), t2.1).2 = 1)) (
 bd (rgM 0 2) fun t3 =>
 bd (shortM (t3).length) fun t4 =>
 bd (lcS (fun (s7 : (List Int)) (x5 : Int) => bd (c_law_pick s7 (v_top + 1)) fun t8 =>
 pr (t8.1, t8.2)) t2.2 t3) fun t10 =>
 bd (rgM 0 ((1 + t1.1), t2.1).1) fun t11 =>
 bd (shortM (t11).length) fun t12 =>
 bd (lcS (fun (s15 : (List Int)) (x13 : Int) => bd (c_law_pick s15 2) fun t16 =>
 bd (getM t10.1 t16.1) fun t17 =>
 pr (t17, t16.2)) t10.2 t11) fun t19 =>
 pr (t19.1, t19.2)) (
 cnd (decide (((1 + t1.1), t2.1).2 = 2)) (
 bd (rgM 0 ((1 + t1.1), t2.1).1) fun t20 =>
 bd (shortM (t20).length) fun t21 =>
 bd (lcS (fun (s24 : (List Int)) (x22 : Int) => bd (c_law_pick s24 ((mn2 v_top 2) + 1)) fun t25 =>
 pr (t25.1, t25.2)) t2.2 t20) fun t27 =>
 pr (t27.1, t27.2)) (
 cnd (decide (((1 + t1.1), t2.1).2 = 3)) (
 bd (rgM 0 ((1 + t1.1), t2.1).1) fun t28 =>
 bd (shortM (t28).length) fun t29 =>
 bd (lcS (fun (s32 : (List Int)) (x30 : Int) => bd (c_law_pick s32 2) fun t33 =>
 pr ((mn2 v_top (x30 + t33.1)), t33.2)) t2.2 t28) fun t35 =>
 bd (rgM 0 ((1 + t1.1), t2.1).1) fun t36 =>
 bd (shortM (t36).length) fun t37 =>
 bd (lcS (fun (s40 : ((List Int) × (List Int))) (x38 : Int) => bd (c_law_pick s40.1 ((s40.2).length : Int)) fun t41 =>
 bd (popM s40.2 t41.1) fun t42 =>
 pr (t42.1, (t41.2, t42.2))) (t35.2, t35.1) t36) fun t44 =>
 pr (t44.1, t44.2.1)) (
 cnd (decide (((1 + t1.1), t2.1).2 = 4)) (
 bd (c_law_pick t2.2 (v_top + 1)) fun t45 =>
 bd (repM [t45.1] ((1 + t1.1), t2.1).1) fun t46 =>
 pr (t46, t45.2)) (
 bd (rgM 0 ((1 + t1.1), t2.1).1) fun t47 =>
 bd (shortM (t47).length) fun t48 =>
 bd (lcS (fun (s51 : (List Int)) (x49 : Int) => bd (getM [(v_top + 1), ((mn2 v_top 3) + 1)] (if (decide (((1 + t1.1), t2.1).2 = 5)) then (1 : Int) else 0)) fun t52 =>
 bd (c_law_pick s51 t52) fun t53 =>
 pr ((v_top - t53.1), t53.2)) t2.2 t47) fun t55 =>
 pr (t55.1, t55.2)))))
set_option maxHeartbeats 4000000 in
theorem t_law_deal {v_store : (List Int)} {v_most : Int} {v_top : Int} {r : ((List Int) × (List Int))} (h : Hd (c_law_deal v_store v_most v_top) r) : ∃ e, m_law_deal [.ow (List.map D.int v_store), .sh (D.int v_most), .sh (D.int v_top)] = some (.fr (List.map D.int r.1) (.ow (List.map D.int r.2) :: e)) := by
  unfold c_law_deal at h
  exact m_ioL (E := D.int) (a := r) rfl (show Go F_law_deal [.ow (List.map D.int v_store), .sh (D.int v_most), .sh (D.int v_top), .un, .un, .un, .un, .un, .un] ((OFo 3 D.int D.int) r) from
 (g_seq (hbind h fun t1 gt1 h1 =>
 hbind h1 fun t2 gt2 h2 =>
 g_asg (d := (eT2 D.int D.int) ((1 + t1.1), t2.1)) (ev_tup (ds := [D.int (1 + t1.1), D.int t2.1]) (av_1 (ev_op ev_c (ev_io (E := D.int) (e2 := [.ow (List.map D.int t1.2), .sh (D.int v_most), .sh (D.int v_top), .un, .un, .un, .un, .un, .un]) (ds := [D.int v_most]) (av_1 (ev_ow rfl) (av_1 (ev_sh rfl) av_0)) rfl rfl rfl (t_law_pick gt1) rfl) rfl rfl x_add) (av_1 (ev_io (E := D.int) (e2 := [.ow (List.map D.int t2.2), .sh (D.int v_most), .sh (D.int v_top), .un, .un, .un, .un, .un, .un]) (ds := [D.int 6]) (av_1 (ev_ow rfl) (av_1 ev_c av_0)) rfl rfl rfl (t_law_pick gt2) rfl) av_0)) rfl (Nat.le_of_ble_eq_true rfl)) rfl (e2 := [.ow (List.map D.int t2.2), .sh (D.int v_most), .sh (D.int v_top), .sh (D.int ((1 + t1.1), t2.1).1), .sh (D.int ((1 + t1.1), t2.1).2), .un, .un, .un, .un]) rfl ((g_seq (g_if (tv_x (ev_op (ev_sh rfl) ev_c rfl rfl (x_eqI))) (fun h3 => have h4 := cnd_t h2 h3; (g_seq (hbind h4 fun t3 gt3 h6 =>
 hbind h6 fun t4 gt4 h7 =>
 hbind h7 fun t10 gt10 h10 =>
 g_set (e2 := [.ow (List.map D.int t10.2), .sh (D.int v_most), .sh (D.int v_top), .sh (D.int ((1 + t1.1), t2.1).1), .sh (D.int ((1 + t1.1), t2.1).2), .ow (List.map D.int t10.1), .un, .un, .un]) (ev_lcS (E := D.int) (E' := D.int) (e1 := [.ow (List.map D.int t10.2), .sh (D.int v_most), .sh (D.int v_top), .sh (D.int ((1 + t1.1), t2.1).1), .sh (D.int ((1 + t1.1), t2.1).2), .un, .un, .un, .un]) (fun s7 : (List Int) => [.ow (List.map D.int s7), .sh (D.int v_most), .sh (D.int v_top), .sh (D.int ((1 + t1.1), t2.1).1), .sh (D.int ((1 + t1.1), t2.1).2), .un, .un, .un, .un]) gt10 (i_r1 ev_c gt3) gt4.ok rfl rfl (fun s7 x5 w9 h8 => hbind h8 fun t8 gt8 h9 =>
 (by have hq := hd_eq h9; (first | subst hq | cases hq); exact ⟨[.ow (List.map D.int s7), .sh (D.int v_most), .sh (D.int v_top), .sh (D.int ((1 + t1.1), t2.1).1), .sh (D.int ((1 + t1.1), t2.1).2), .un, .sh (D.int x5), .un, .un], _, [.ow (List.map D.int t8.2), .sh (D.int v_most), .sh (D.int v_top), .sh (D.int ((1 + t1.1), t2.1).1), .sh (D.int ((1 + t1.1), t2.1).2), .un, .sh (D.int x5), .un, .un], [.ow (List.map D.int t8.2), .sh (D.int v_most), .sh (D.int v_top), .sh (D.int ((1 + t1.1), t2.1).1), .sh (D.int ((1 + t1.1), t2.1).2), .un, .sh (D.int x5), .un, .un], rfl, (ev_io (E := D.int) (e2 := [.ow (List.map D.int t8.2), .sh (D.int v_most), .sh (D.int v_top), .sh (D.int ((1 + t1.1), t2.1).1), .sh (D.int ((1 + t1.1), t2.1).2), .un, .sh (D.int x5), .un, .un]) (ds := [D.int (v_top + 1)]) (av_1 (ev_ow rfl) (av_1 (ev_op (ev_sh rfl) ev_c rfl rfl x_add) av_0)) rfl rfl rfl (t_law_pick gt8) rfl), rfl, rfl⟩)) rfl) rfl (hbind h10 fun t11 gt11 h11 =>
 hbind h11 fun t12 gt12 h12 =>
 hbind h12 fun t19 gt19 h16 =>
 g_ret (ev_lcS (E := D.int) (E' := D.int) (e1 := [.ow (List.map D.int t19.2), .sh (D.int v_most), .sh (D.int v_top), .sh (D.int ((1 + t1.1), t2.1).1), .sh (D.int ((1 + t1.1), t2.1).2), .ow (List.map D.int t10.1), .un, .un, .un]) (fun s15 : (List Int) => [.ow (List.map D.int s15), .sh (D.int v_most), .sh (D.int v_top), .sh (D.int ((1 + t1.1), t2.1).1), .sh (D.int ((1 + t1.1), t2.1).2), .ow (List.map D.int t10.1), .un, .un, .un]) gt19 (i_r1 (ev_sh rfl) gt11) gt12.ok rfl rfl (fun s15 x13 w18 h13 => hbind h13 fun t16 gt16 h14 =>
 hbind h14 fun t17 gt17 h15 =>
 (by have hq := hd_eq h15; (first | subst hq | cases hq); exact ⟨[.ow (List.map D.int s15), .sh (D.int v_most), .sh (D.int v_top), .sh (D.int ((1 + t1.1), t2.1).1), .sh (D.int ((1 + t1.1), t2.1).2), .ow (List.map D.int t10.1), .sh (D.int x13), .un, .un], _, [.ow (List.map D.int t16.2), .sh (D.int v_most), .sh (D.int v_top), .sh (D.int ((1 + t1.1), t2.1).1), .sh (D.int ((1 + t1.1), t2.1).2), .ow (List.map D.int t10.1), .sh (D.int x13), .un, .un], [.ow (List.map D.int t16.2), .sh (D.int v_most), .sh (D.int v_top), .sh (D.int ((1 + t1.1), t2.1).1), .sh (D.int ((1 + t1.1), t2.1).2), .ow (List.map D.int t10.1), .sh (D.int x13), .un, .un], rfl, (ev_op (ev_ow rfl) (ev_io (E := D.int) (e2 := [.ow (List.map D.int t16.2), .sh (D.int v_most), .sh (D.int v_top), .sh (D.int ((1 + t1.1), t2.1).1), .sh (D.int ((1 + t1.1), t2.1).2), .ow (List.map D.int t10.1), .sh (D.int x13), .un, .un]) (ds := [D.int 2]) (av_1 (ev_ow rfl) (av_1 ev_c av_0)) rfl rfl rfl (t_law_pick gt16) rfl) rfl rfl (o_ix (E := D.int) gt17)), rfl, rfl⟩)) rfl) ((by have hq := hd_eq h16; (first | subst hq | cases hq); exact (ofo_fr (r := (t19.1, t19.2)) rfl))))))) (fun h3 => have h5 := cnd_f h2 h3; g_next ((g_seq (g_if (tv_x (ev_op (ev_sh rfl) ev_c rfl rfl (x_eqI))) (fun h17 => have h18 := cnd_t h5 h17; hbind h18 fun t20 gt20 h20 =>
 hbind h20 fun t21 gt21 h21 =>
 hbind h21 fun t27 gt27 h24 =>
 g_ret (ev_lcS (E := D.int) (E' := D.int) (e1 := [.ow (List.map D.int t27.2), .sh (D.int v_most), .sh (D.int v_top), .sh (D.int ((1 + t1.1), t2.1).1), .sh (D.int ((1 + t1.1), t2.1).2), .un, .un, .un, .un]) (fun s24 : (List Int) => [.ow (List.map D.int s24), .sh (D.int v_most), .sh (D.int v_top), .sh (D.int ((1 + t1.1), t2.1).1), .sh (D.int ((1 + t1.1), t2.1).2), .un, .un, .un, .un]) gt27 (i_r1 (ev_sh rfl) gt20) gt21.ok rfl rfl (fun s24 x22 w26 h22 => hbind h22 fun t25 gt25 h23 =>
 (by have hq := hd_eq h23; (first | subst hq | cases hq); exact ⟨[.ow (List.map D.int s24), .sh (D.int v_most), .sh (D.int v_top), .sh (D.int ((1 + t1.1), t2.1).1), .sh (D.int ((1 + t1.1), t2.1).2), .un, .sh (D.int x22), .un, .un], _, [.ow (List.map D.int t25.2), .sh (D.int v_most), .sh (D.int v_top), .sh (D.int ((1 + t1.1), t2.1).1), .sh (D.int ((1 + t1.1), t2.1).2), .un, .sh (D.int x22), .un, .un], [.ow (List.map D.int t25.2), .sh (D.int v_most), .sh (D.int v_top), .sh (D.int ((1 + t1.1), t2.1).1), .sh (D.int ((1 + t1.1), t2.1).2), .un, .sh (D.int x22), .un, .un], rfl, (ev_io (E := D.int) (e2 := [.ow (List.map D.int t25.2), .sh (D.int v_most), .sh (D.int v_top), .sh (D.int ((1 + t1.1), t2.1).1), .sh (D.int ((1 + t1.1), t2.1).2), .un, .sh (D.int x22), .un, .un]) (ds := [D.int ((mn2 v_top 2) + 1)]) (av_1 (ev_ow rfl) (av_1 (ev_op (ev_cb (av_1 (ev_sh rfl) (av_1 ev_c av_0)) rfl o_min2) ev_c rfl rfl x_add) av_0)) rfl rfl rfl (t_law_pick gt25) rfl), rfl, rfl⟩)) rfl) ((by have hq := hd_eq h24; (first | subst hq | cases hq); exact (ofo_fr (r := (t27.1, t27.2)) rfl)))) (fun h17 => have h19 := cnd_f h5 h17; g_next ((g_seq (g_if (tv_x (ev_op (ev_sh rfl) ev_c rfl rfl (x_eqI))) (fun h25 => have h26 := cnd_t h19 h25; (g_seq (hbind h26 fun t28 gt28 h28 =>
 hbind h28 fun t29 gt29 h29 =>
 hbind h29 fun t35 gt35 h32 =>
 g_set (e2 := [.ow (List.map D.int t35.2), .sh (D.int v_most), .sh (D.int v_top), .sh (D.int ((1 + t1.1), t2.1).1), .sh (D.int ((1 + t1.1), t2.1).2), .un, .un, .ow (List.map D.int t35.1), .un]) (ev_lcS (E := D.int) (E' := D.int) (e1 := [.ow (List.map D.int t35.2), .sh (D.int v_most), .sh (D.int v_top), .sh (D.int ((1 + t1.1), t2.1).1), .sh (D.int ((1 + t1.1), t2.1).2), .un, .un, .un, .un]) (fun s32 : (List Int) => [.ow (List.map D.int s32), .sh (D.int v_most), .sh (D.int v_top), .sh (D.int ((1 + t1.1), t2.1).1), .sh (D.int ((1 + t1.1), t2.1).2), .un, .un, .un, .un]) gt35 (i_r1 (ev_sh rfl) gt28) gt29.ok rfl rfl (fun s32 x30 w34 h30 => hbind h30 fun t33 gt33 h31 =>
 (by have hq := hd_eq h31; (first | subst hq | cases hq); exact ⟨[.ow (List.map D.int s32), .sh (D.int v_most), .sh (D.int v_top), .sh (D.int ((1 + t1.1), t2.1).1), .sh (D.int ((1 + t1.1), t2.1).2), .un, .un, .un, .sh (D.int x30)], _, [.ow (List.map D.int t33.2), .sh (D.int v_most), .sh (D.int v_top), .sh (D.int ((1 + t1.1), t2.1).1), .sh (D.int ((1 + t1.1), t2.1).2), .un, .un, .un, .sh (D.int x30)], [.ow (List.map D.int t33.2), .sh (D.int v_most), .sh (D.int v_top), .sh (D.int ((1 + t1.1), t2.1).1), .sh (D.int ((1 + t1.1), t2.1).2), .un, .un, .un, .sh (D.int x30)], rfl, (ev_cb (av_1 (ev_sh rfl) (av_1 (ev_op (ev_sh rfl) (ev_io (E := D.int) (e2 := [.ow (List.map D.int t33.2), .sh (D.int v_most), .sh (D.int v_top), .sh (D.int ((1 + t1.1), t2.1).1), .sh (D.int ((1 + t1.1), t2.1).2), .un, .un, .un, .sh (D.int x30)]) (ds := [D.int 2]) (av_1 (ev_ow rfl) (av_1 ev_c av_0)) rfl rfl rfl (t_law_pick gt33) rfl) rfl rfl x_add) av_0)) rfl o_min2), rfl, rfl⟩)) rfl) rfl (hbind h32 fun t36 gt36 h33 =>
 hbind h33 fun t37 gt37 h34 =>
 hbind h34 fun t44 gt44 h38 =>
 g_ret (ev_lcS (E := D.int) (E' := D.int) (e1 := [.ow (List.map D.int t44.2.1), .sh (D.int v_most), .sh (D.int v_top), .sh (D.int ((1 + t1.1), t2.1).1), .sh (D.int ((1 + t1.1), t2.1).2), .un, .un, .ow (List.map D.int t44.2.2), .un]) (fun s40 : ((List Int) × (List Int)) => [.ow (List.map D.int s40.1), .sh (D.int v_most), .sh (D.int v_top), .sh (D.int ((1 + t1.1), t2.1).1), .sh (D.int ((1 + t1.1), t2.1).2), .un, .un, .ow (List.map D.int s40.2), .un]) gt44 (i_r1 (ev_sh rfl) gt36) gt37.ok rfl rfl (fun s40 x38 w43 h35 => hbind h35 fun t41 gt41 h36 =>
 hbind h36 fun t42 gt42 h37 =>
 (by have hq := hd_eq h37; (first | subst hq | cases hq); exact ⟨[.ow (List.map D.int s40.1), .sh (D.int v_most), .sh (D.int v_top), .sh (D.int ((1 + t1.1), t2.1).1), .sh (D.int ((1 + t1.1), t2.1).2), .un, .sh (D.int x38), .ow (List.map D.int s40.2), .un], _, [.ow (List.map D.int t41.2), .sh (D.int v_most), .sh (D.int v_top), .sh (D.int ((1 + t1.1), t2.1).1), .sh (D.int ((1 + t1.1), t2.1).2), .un, .sh (D.int x38), .ow (List.map D.int t42.2), .un], [.ow (List.map D.int t41.2), .sh (D.int v_most), .sh (D.int v_top), .sh (D.int ((1 + t1.1), t2.1).1), .sh (D.int ((1 + t1.1), t2.1).2), .un, .sh (D.int x38), .ow (List.map D.int t42.2), .un], rfl, (ev_pop (E := D.int) (e2 := [.ow (List.map D.int t41.2), .sh (D.int v_most), .sh (D.int v_top), .sh (D.int ((1 + t1.1), t2.1).1), .sh (D.int ((1 + t1.1), t2.1).2), .un, .sh (D.int x38), .ow (List.map D.int t42.2), .un]) rfl (av_1 (ev_io (E := D.int) (e2 := [.ow (List.map D.int t41.2), .sh (D.int v_most), .sh (D.int v_top), .sh (D.int ((1 + t1.1), t2.1).1), .sh (D.int ((1 + t1.1), t2.1).2), .un, .sh (D.int x38), .ow (List.map D.int s40.2), .un]) (ds := [D.int ((s40.2).length : Int)]) (av_1 (ev_ow rfl) (av_1 (ev_cb (av_1 (ev_ow rfl) av_0) rfl (o_len (E := D.int) (xs := s40.2))) av_0)) rfl rfl rfl (t_law_pick gt41) rfl) av_0) rfl gt42 rfl), rfl, rfl⟩)) rfl) ((by have hq := hd_eq h38; (first | subst hq | cases hq); exact (ofo_fr (r := (t44.1, t44.2.1)) rfl))))))) (fun h25 => have h27 := cnd_f h19 h25; g_next ((g_seq (g_if (tv_x (ev_op (ev_sh rfl) ev_c rfl rfl (x_eqI))) (fun h39 => have h40 := cnd_t h27 h39; hbind h40 fun t45 gt45 h42 =>
 hbind h42 fun t46 gt46 h43 =>
 g_ret (ev_opL (ev_lst (ds := List.map D.int [t45.1]) (av_1 (ev_io (E := D.int) (e2 := [.ow (List.map D.int t45.2), .sh (D.int v_most), .sh (D.int v_top), .sh (D.int ((1 + t1.1), t2.1).1), .sh (D.int ((1 + t1.1), t2.1).2), .un, .un, .un, .un]) (ds := [D.int (v_top + 1)]) (av_1 (ev_ow rfl) (av_1 (ev_op (ev_sh rfl) ev_c rfl rfl x_add) av_0)) rfl rfl rfl (t_law_pick gt45) rfl) av_0) rfl (Nat.le_of_ble_eq_true rfl)) (ev_sh rfl) rfl rfl (o_rep (E := D.int) gt46)) ((by have hq := hd_eq h43; (first | subst hq | cases hq); exact (ofo_fr (r := (t46, t45.2)) rfl)))) (fun h39 => have h41 := cnd_f h27 h39; g_next (hbind h41 fun t47 gt47 h44 =>
 hbind h44 fun t48 gt48 h45 =>
 hbind h45 fun t55 gt55 h49 =>
 g_ret (ev_lcS (E := D.int) (E' := D.int) (e1 := [.ow (List.map D.int t55.2), .sh (D.int v_most), .sh (D.int v_top), .sh (D.int ((1 + t1.1), t2.1).1), .sh (D.int ((1 + t1.1), t2.1).2), .un, .un, .un, .un]) (fun s51 : (List Int) => [.ow (List.map D.int s51), .sh (D.int v_most), .sh (D.int v_top), .sh (D.int ((1 + t1.1), t2.1).1), .sh (D.int ((1 + t1.1), t2.1).2), .un, .un, .un, .un]) gt55 (i_r1 (ev_sh rfl) gt47) gt48.ok rfl rfl (fun s51 x49 w54 h46 => hbind h46 fun t52 gt52 h47 =>
 hbind h47 fun t53 gt53 h48 =>
 (by have hq := hd_eq h48; (first | subst hq | cases hq); exact ⟨[.ow (List.map D.int s51), .sh (D.int v_most), .sh (D.int v_top), .sh (D.int ((1 + t1.1), t2.1).1), .sh (D.int ((1 + t1.1), t2.1).2), .un, .sh (D.int x49), .un, .un], _, [.ow (List.map D.int t53.2), .sh (D.int v_most), .sh (D.int v_top), .sh (D.int ((1 + t1.1), t2.1).1), .sh (D.int ((1 + t1.1), t2.1).2), .un, .sh (D.int x49), .un, .un], [.ow (List.map D.int t53.2), .sh (D.int v_most), .sh (D.int v_top), .sh (D.int ((1 + t1.1), t2.1).1), .sh (D.int ((1 + t1.1), t2.1).2), .un, .sh (D.int x49), .un, .un], rfl, (ev_op (ev_sh rfl) (ev_io (E := D.int) (e2 := [.ow (List.map D.int t53.2), .sh (D.int v_most), .sh (D.int v_top), .sh (D.int ((1 + t1.1), t2.1).1), .sh (D.int ((1 + t1.1), t2.1).2), .un, .sh (D.int x49), .un, .un]) (ds := [D.int t52]) (av_1 (ev_ow rfl) (av_1 (ev_op (ev_lst (ds := List.map D.int [(v_top + 1), ((mn2 v_top 3) + 1)]) (av_1 (ev_op (ev_sh rfl) ev_c rfl rfl x_add) (av_1 (ev_op (ev_cb (av_1 (ev_sh rfl) (av_1 ev_c av_0)) rfl o_min2) ev_c rfl rfl x_add) av_0)) rfl (Nat.le_of_ble_eq_true rfl)) (ev_cb (av_1 (ev_op (ev_sh rfl) ev_c rfl rfl (x_eqI)) av_0) rfl rfl) rfl rfl (o_ix (E := D.int) gt52)) av_0)) rfl rfl rfl (t_law_pick gt53) rfl) rfl rfl x_sub), rfl, rfl⟩)) rfl) ((by have hq := hd_eq h49; (first | subst hq | cases hq); exact (ofo_fr (r := (t55.1, t55.2)) rfl)))))))))))))))))))))))

def c_law_low (v_store : (List Int)) (v_most : Int) : M ((List Int) × (List Int)) :=
 bd (c_law_pick v_store v_most) fun t1 =>
 bd (c_law_deal t1.2 v_most (1 + t1.1)) fun t2 =>
 bd (repM t2.1 (1 + t1.1)) fun t3 =>
 bd (catM t2.1 t3) fun t4 =>
 bd (shortM ((cutI t4 none (some (1 + t1.1)))).length) fun t5 =>
 bd (mapM (fun (x6 : Int) => pr (mn2 x6 (1 + t1.1))) (cutI t4 none (some (1 + t1.1)))) fun t9 =>
 pr (t9, t2.2)
set_option maxHeartbeats 4000000 in
theorem t_law_low {v_store : (List Int)} {v_most : Int} {r : ((List Int) × (List Int))} (h : Hd (c_law_low v_store v_most) r) : ∃ e, m_law_low [.ow (List.map D.int v_store), .sh (D.int v_most)] = some (.fr (List.map D.int r.1) (.ow (List.map D.int r.2) :: e)) := by
  unfold c_law_low at h
  exact m_ioL (E := D.int) (a := r) rfl (show Go F_law_low [.ow (List.map D.int v_store), .sh (D.int v_most), .un, .un, .un] ((OFo 2 D.int D.int) r) from
 (g_seq (hbind h fun t1 gt1 h1 =>
 g_set (e2 := [.ow (List.map D.int t1.2), .sh (D.int v_most), .sh (D.int (1 + t1.1)), .un, .un]) (ev_op ev_c (ev_io (E := D.int) (e2 := [.ow (List.map D.int t1.2), .sh (D.int v_most), .un, .un, .un]) (ds := [D.int v_most]) (av_1 (ev_ow rfl) (av_1 (ev_sh rfl) av_0)) rfl rfl rfl (t_law_pick gt1) rfl) rfl rfl x_add) rfl ((g_seq (hbind h1 fun t2 gt2 h2 =>
 g_set (e2 := [.ow (List.map D.int t2.2), .sh (D.int v_most), .sh (D.int (1 + t1.1)), .ow (List.map D.int t2.1), .un]) (ev_ioL (E := D.int) (e2 := [.ow (List.map D.int t2.2), .sh (D.int v_most), .sh (D.int (1 + t1.1)), .un, .un]) (ds := [D.int v_most, D.int (1 + t1.1)]) (av_1 (ev_ow rfl) (av_1 (ev_sh rfl) (av_1 (ev_sh rfl) av_0))) rfl rfl rfl (t_law_deal gt2) rfl) rfl (hbind h2 fun t3 gt3 h3 =>
 hbind h3 fun t4 gt4 h4 =>
 hbind h4 fun t5 gt5 h5 =>
 hbind h5 fun t9 gt9 h7 =>
 g_ret (ev_lcm (E := D.int) (E' := D.int) [.ow (List.map D.int t2.2), .sh (D.int v_most), .sh (D.int (1 + t1.1)), .ow (List.map D.int t2.1), .un] gt9 (i_seq (E := D.int) (ev_sl (E := D.int) (xs := t4) (ev_opL (ev_ow rfl) (ev_opL (ev_ow rfl) (ev_sh rfl) rfl rfl (o_rep (E := D.int) gt3)) rfl rfl (o_cat (E := D.int) gt4)) pv_no (pv_so (ev_sh rfl)) rfl) rfl) gt5.ok rfl rfl rfl (fun x6 m7 => ⟨[.ow (List.map D.int t2.2), .sh (D.int v_most), .sh (D.int (1 + t1.1)), .ow (List.map D.int t2.1), .sh (D.int x6)], rfl, fun w8 h6 => (by have hq := hd_eq h6; (first | subst hq | cases hq); exact ⟨_, (ev_cb (av_1 (ev_sh rfl) (av_1 (ev_sh rfl) av_0)) rfl o_min2), rfl⟩), rfl⟩)) ((by have hq := hd_eq h7; (first | subst hq | cases hq); exact (ofo_fr (r := (t9, t2.2)) rfl))))))))))

def c_law (v_script : (List Int)) : M Bool :=
 bd (rgM 0 (mx2 1 (mn2 3 ((v_script).length : Int)))) fun t2 =>
 bd (forX (fun (s3 : Unit) (x5 : Int) => (bd (c_law_store v_script x5) fun t7 =>
 bd (forX (fun (s8 : (List Int)) (x10 : Int) => (bd (c_law_low s8 x10) fun t12 =>
 bd (c_law_right t12.2 t12.1) fun t13 =>
 cnd (!t13.1) (
 pr (Fl.out false)) (
 pr (Fl.go t13.2)) : M (Fl Bool (List Int)))) t7 (cutI [20, 9] (some (if (decide (0 < x5)) then (1 : Int) else 0)) none)) fun s14 =>
 aft s14 (fun v => pr (Fl.out v)) (fun (s16 : (List Int)) =>
 pr (Fl.go ())) : M (Fl Bool Unit))) () t2) fun s18 =>
 aft s18 (fun v => pr v) (fun (s20 : Unit) =>
 bd (c_law_factorial 20) fun t22 =>
 bd (repM [20] 20) fun t23 =>
 bd (c_hit_counts ((eL D.int) t23)) fun t24 =>
 bd (repM [0] 20) fun t25 =>
 bd (c_hit_counts ((eL D.int) t25)) fun t26 =>
 bd (repM [1] 20) fun t27 =>
 bd (c_hit_counts ((eL D.int) t27)) fun t28 =>
 bd (pr [t24, t26, t28]) fun v_told29 =>
 bd (repM [0] 20) fun t30 =>
 bd (catM t30 [t22]) fun t31 =>
 bd (repM [0] 20) fun t32 =>
 bd (catM [t22] t32) fun t33 =>
 bd (repM [0] 19) fun t34 =>
 bd (catM [0, t22] t34) fun t35 =>
 bd (deqM ((eL (eL D.int)) v_told29) ((eL (eL D.int)) [t31, t33, t35])) fun t36 =>
 cnd (!t36) (
 pr false) (
 bd (lrgM 1 6) fun t37 =>
 bd (c_hit_counts ((eL D.int) t37)) fun t38 =>
 bd (c_hit_counts ((eL D.int) [0, 0, 0, 4])) fun t39 =>
 bd (c_pair_by_hits [1, 2, 3] 0 0 3) fun t40 =>
 bd (pr ([((eL D.int) t38), ((eL D.int) t39), ((eT2 D.int D.int) t40)] : List D)) fun v_told41 =>
 bd (deqM ((eL eD) v_told41) ((eL eD) ([((eL D.int) [0, 1, 26, 66, 26, 1]), ((eL D.int) [0, 24, 0, 0, 0]), ((eT2 D.int D.int) (1, 1))] : List D))) fun t42 =>
 bd (cnd t42 (bd (c_pair_by_hits [1, 2, 3] 2 0 1) fun t43 =>
 bd (deqM ((eT2 D.int D.int) t43) ((eT2 D.int D.int) (1, 1))) fun t44 =>
 pr t44) (pr false)) fun t45 =>
 pr t45))
set_option maxHeartbeats 4000000 in
theorem t_law {v_script : (List Int)} {r : Bool} (h : Hd (c_law v_script) r) : ∃ e, m_law [.sh (D.scr v_script)] = some (.val (D.bl r) e) := by
  unfold c_law at h
  exact m_val (E := D.bl) (a := r) rfl (show Go F_law [.sh (D.scr v_script), .un, .un, .un, .un, .un] ((OV D.bl) r) from
 (g_seq (hbind h fun t2 gt2 h2 =>
 hbind h2 fun s18 gs18 h13 =>
 g_forX (E := D.int) (fun (s3 : Unit) (j4 : (Sl × Sl × Sl)) => [.sh (D.scr v_script), j4.1, j4.2.1, j4.2.2, .un, .un]) (.un, .un, .un) (OV D.bl) gs18 (i_r1 (ev_cb (av_1 ev_c (av_1 (ev_cb (av_1 ev_c (av_1 (ev_cb (av_1 (ev_sh rfl) av_0) rfl o_lenS) av_0)) rfl o_min2) av_0)) rfl o_max2) gt2) rfl (fun s3 x5 j4 r6 h3 => g_tgt (e1 := [.sh (D.scr v_script), .sh (D.int x5), j4.2.1, j4.2.2, .un, .un]) rfl ((g_seq (hbind h3 fun t7 gt7 h4 =>
 g_set (e2 := [.sh (D.scr v_script), .sh (D.int x5), .ow (List.map D.int t7), j4.2.2, .un, .un]) (ev_callL (ds := [D.scr v_script, D.int x5]) (av_1 (ev_sh rfl) (av_1 (ev_sh rfl) av_0)) rfl rfl (t_law_store gt7)) rfl (hbind h4 fun s14 gs14 h11 =>
 g_forX (E := D.int) (fun (s8 : (List Int)) (j9 : Sl) => [.sh (D.scr v_script), .sh (D.int x5), .ow (List.map D.int s8), j9, .un, .un]) (j4.2.2) (OV D.bl) gs14 (i_seq (E := D.int) (ev_sl (E := D.int) (xs := [20, 9]) (ev_lst (ds := List.map D.int [20, 9]) (av_1 ev_c (av_1 ev_c av_0)) rfl (Nat.le_of_ble_eq_true rfl)) (pv_so (ev_cb (av_1 (ev_op (ev_sh rfl) ev_c rfl rfl x_gt) av_0) rfl rfl)) pv_no rfl) rfl) rfl (fun s8 x10 j9 r11 h5 => g_tgt (e1 := [.sh (D.scr v_script), .sh (D.int x5), .ow (List.map D.int s8), .sh (D.int x10), .un, .un]) rfl (hbind h5 fun t12 gt12 h6 =>
 hbind h6 fun t13 gt13 h7 =>
 g_if (tv_not (tv_x (ev_io (E := D.int) (e2 := [.sh (D.scr v_script), .sh (D.int x5), .ow (List.map D.int t13.2), .sh (D.int x10), .un, .un]) (ds := [(eL D.int) t12.1]) (av_1 (ev_ow rfl) (av_1 (ev_ioL (E := D.int) (e2 := [.sh (D.scr v_script), .sh (D.int x5), .ow (List.map D.int t12.2), .sh (D.int x10), .un, .un]) (ds := [D.int x10]) (av_1 (ev_ow rfl) (av_1 (ev_sh rfl) av_0)) rfl rfl rfl (t_law_low gt12) rfl) av_0)) rfl rfl rfl (t_law_right gt13) rfl))) (fun h8 => have h9 := cnd_t h7 h8; g_ret ev_c ((by have hq := hd_eq h9; (first | subst hq | cases hq); exact lq_rt (shape := (fun (s8 : (List Int)) (j9 : Sl) => [.sh (D.scr v_script), .sh (D.int x5), .ow (List.map D.int s8), j9, .un, .un])) (ov_val)))) (fun h8 => have h10 := cnd_f h7 h8; g_next ((by have hq := hd_eq h10; (first | subst hq | cases hq); exact lq_nx (shape := (fun (s8 : (List Int)) (j9 : Sl) => [.sh (D.scr v_script), .sh (D.int x5), .ow (List.map D.int s8), j9, .un, .un])) (.sh (D.int x10)) rfl))))) (fun s16 j15 e17 => have h12 := aft_go h11 e17; (by have hq := hd_eq h12; (first | subst hq | cases hq); exact lq_nx (shape := (fun (s3 : Unit) (j4 : (Sl × Sl × Sl)) => [.sh (D.scr v_script), j4.1, j4.2.1, j4.2.2, .un, .un])) (.sh (D.int x5), .ow (List.map D.int s16), j15) rfl)) (fun v o e q i => (by have hq := aft_out h11 e; cases hd_eq hq; obtain ⟨_, _, rfl⟩ := i; exact lq_out (shape := (fun (s3 : Unit) (j4 : (Sl × Sl × Sl)) => [.sh (D.scr v_script), j4.1, j4.2.1, j4.2.2, .un, .un])) q ⟨_, _, rfl⟩))))))) (fun s20 j19 e21 => have h14 := aft_go h13 e21; (g_seq (hbind h14 fun t22 gt22 h15 =>
 g_set (e2 := [.sh (D.scr v_script), j19.1, j19.2.1, j19.2.2, .sh (D.int t22), .un]) (ev_call (ds := [D.int 20]) (av_1 ev_c av_0) rfl rfl (t_law_factorial gt22)) rfl ((g_seq (hbind h15 fun t23 gt23 h16 =>
 hbind h16 fun t24 gt24 h17 =>
 hbind h17 fun t25 gt25 h18 =>
 hbind h18 fun t26 gt26 h19 =>
 hbind h19 fun t27 gt27 h20 =>
 hbind h20 fun t28 gt28 h21 =>
 hbind h21 fun v_told29 gv_told29 h22 =>
 g_set (e2 := [.sh (D.scr v_script), j19.1, j19.2.1, j19.2.2, .sh (D.int t22), .ow (List.map (eL D.int) v_told29)]) (ev_pr (K := fun v => R.fr (List.map (eL D.int) v)) gv_told29 (ev_lst (ds := List.map (eL D.int) [t24, t26, t28]) (av_1 (ev_callL (ds := [eD ((eL D.int) t23)]) (av_1 (ev_opL (ev_lst (ds := List.map D.int [20]) (av_1 ev_c av_0) rfl (Nat.le_of_ble_eq_true rfl)) ev_c rfl rfl (o_rep (E := D.int) gt23)) av_0) rfl rfl (t_hit_counts gt24)) (av_1 (ev_callL (ds := [eD ((eL D.int) t25)]) (av_1 (ev_opL (ev_lst (ds := List.map D.int [0]) (av_1 ev_c av_0) rfl (Nat.le_of_ble_eq_true rfl)) ev_c rfl rfl (o_rep (E := D.int) gt25)) av_0) rfl rfl (t_hit_counts gt26)) (av_1 (ev_callL (ds := [eD ((eL D.int) t27)]) (av_1 (ev_opL (ev_lst (ds := List.map D.int [1]) (av_1 ev_c av_0) rfl (Nat.le_of_ble_eq_true rfl)) ev_c rfl rfl (o_rep (E := D.int) gt27)) av_0) rfl rfl (t_hit_counts gt28)) av_0))) rfl (Nat.le_of_ble_eq_true rfl))) rfl ((g_seq (g_seq (g_frz (e1 := [.sh (D.scr v_script), j19.1, j19.2.1, j19.2.2, .sh (D.int t22), .sh ((eL (eL D.int)) v_told29)]) rfl rfl (hbind h22 fun t30 gt30 h23 =>
 hbind h23 fun t31 gt31 h24 =>
 hbind h24 fun t32 gt32 h25 =>
 hbind h25 fun t33 gt33 h26 =>
 hbind h26 fun t34 gt34 h27 =>
 hbind h27 fun t35 gt35 h28 =>
 hbind h28 fun t36 gt36 h29 =>
 g_if (tv_x (ev_opV (lv_of (ev_sh rfl) (fun _ => rfl)) (lv_of (ev_lst (ds := List.map (eL D.int) [t31, t33, t35]) (av_1 (ev_opL (ev_opL (ev_lst (ds := List.map D.int [0]) (av_1 ev_c av_0) rfl (Nat.le_of_ble_eq_true rfl)) ev_c rfl rfl (o_rep (E := D.int) gt30)) (ev_lst (ds := List.map D.int [t22]) (av_1 (ev_sh rfl) av_0) rfl (Nat.le_of_ble_eq_true rfl)) rfl rfl (o_cat (E := D.int) gt31)) (av_1 (ev_opL (ev_lst (ds := List.map D.int [t22]) (av_1 (ev_sh rfl) av_0) rfl (Nat.le_of_ble_eq_true rfl)) (ev_opL (ev_lst (ds := List.map D.int [0]) (av_1 ev_c av_0) rfl (Nat.le_of_ble_eq_true rfl)) ev_c rfl rfl (o_rep (E := D.int) gt32)) rfl rfl (o_cat (E := D.int) gt33)) (av_1 (ev_opL (ev_lst (ds := List.map D.int [0, t22]) (av_1 ev_c (av_1 (ev_sh rfl) av_0)) rfl (Nat.le_of_ble_eq_true rfl)) (ev_opL (ev_lst (ds := List.map D.int [0]) (av_1 ev_c av_0) rfl (Nat.le_of_ble_eq_true rfl)) ev_c rfl rfl (o_rep (E := D.int) gt34)) rfl rfl (o_cat (E := D.int) gt35)) av_0))) rfl (Nat.le_of_ble_eq_true rfl)) (fun _ => rfl)) (o_neD gt36))) (fun h30 => have h31 := cnd_t h29 h30; g_ret ev_c ((by have hq := hd_eq h31; (first | subst hq | cases hq); exact ov_val))) (fun h30 => have h32 := cnd_f h29 h30; g_next ((g_seq (hbind h32 fun t37 gt37 h33 =>
 hbind h33 fun t38 gt38 h34 =>
 hbind h34 fun t39 gt39 h35 =>
 hbind h35 fun t40 gt40 h36 =>
 hbind h36 fun v_told41 gv_told41 h37 =>
 g_set (e2 := [.sh (D.scr v_script), j19.1, j19.2.1, j19.2.2, .sh (D.int t22), .ow (List.map eD v_told41)]) (ev_pr (K := fun v => R.fr (List.map eD v)) gv_told41 (ev_lst (ds := List.map eD [((eL D.int) t38), ((eL D.int) t39), ((eT2 D.int D.int) t40)]) (av_1 (ev_callL (ds := [eD ((eL D.int) t37)]) (av_1 (ev_lr2 ev_c ev_c gt37) av_0) rfl rfl (t_hit_counts gt38)) (av_1 (ev_callL (ds := [eD ((eL D.int) [0, 0, 0, 4])]) (av_1 (ev_lst (ds := List.map D.int [0, 0, 0, 4]) (av_1 ev_c (av_1 ev_c (av_1 ev_c (av_1 ev_c av_0)))) rfl (Nat.le_of_ble_eq_true rfl)) av_0) rfl rfl (t_hit_counts gt39)) (av_1 (ev_call (ds := [(eL D.int) [1, 2, 3], D.int 0, D.int 0, D.int 3]) (av_1 (ev_lst (ds := List.map D.int [1, 2, 3]) (av_1 ev_c (av_1 ev_c (av_1 ev_c av_0))) rfl (Nat.le_of_ble_eq_true rfl)) (av_1 ev_c (av_1 ev_c (av_1 ev_c av_0)))) rfl rfl (t_pair_by_hits gt40)) av_0))) rfl (Nat.le_of_ble_eq_true rfl))) rfl (g_seq (g_frz (e1 := [.sh (D.scr v_script), j19.1, j19.2.1, j19.2.2, .sh (D.int t22), .sh ((eL eD) v_told41)]) rfl rfl (hbind h37 fun t42 gt42 h38 =>
 hbind h38 fun t45 gt45 h42 =>
 g_ret (ev_andM gt45 (ev_opV (lv_of (ev_sh rfl) (fun _ => rfl)) (lv_of (ev_lst (ds := List.map eD [((eL D.int) [0, 1, 26, 66, 26, 1]), ((eL D.int) [0, 24, 0, 0, 0]), ((eT2 D.int D.int) (1, 1))]) (av_1 (ev_lst (ds := List.map D.int [0, 1, 26, 66, 26, 1]) (av_1 ev_c (av_1 ev_c (av_1 ev_c (av_1 ev_c (av_1 ev_c (av_1 ev_c av_0)))))) rfl (Nat.le_of_ble_eq_true rfl)) (av_1 (ev_lst (ds := List.map D.int [0, 24, 0, 0, 0]) (av_1 ev_c (av_1 ev_c (av_1 ev_c (av_1 ev_c (av_1 ev_c av_0))))) rfl (Nat.le_of_ble_eq_true rfl)) (av_1 (ev_tup (ds := [D.int 1, D.int 1]) (av_1 ev_c (av_1 ev_c av_0)) rfl (Nat.le_of_ble_eq_true rfl)) av_0))) rfl (Nat.le_of_ble_eq_true rfl)) (fun _ => rfl)) (o_eqD gt42)) (fun _ h39 => hbind h39 fun t43 gt43 h40 =>
 hbind h40 fun t44 gt44 h41 =>
 ev_pr (K := fun v => R.val (D.bl v)) h41 (ev_opV (lv_of (ev_call (ds := [(eL D.int) [1, 2, 3], D.int 2, D.int 0, D.int 1]) (av_1 (ev_lst (ds := List.map D.int [1, 2, 3]) (av_1 ev_c (av_1 ev_c (av_1 ev_c av_0))) rfl (Nat.le_of_ble_eq_true rfl)) (av_1 ev_c (av_1 ev_c (av_1 ev_c av_0)))) rfl rfl (t_pair_by_hits gt43)) (fun _ => rfl)) (lv_of (ev_tup (ds := [D.int 1, D.int 1]) (av_1 ev_c (av_1 ev_c av_0)) rfl (Nat.le_of_ble_eq_true rfl)) (fun _ => rfl)) (o_eqD gt44)))) ((by have hq := hd_eq h42; (first | subst hq | cases hq); exact ov_val)))))))))))))))))))) (fun v o e q i => (by have hq := aft_out h13 e; cases hd_eq hq; obtain ⟨_, _, rfl⟩ := i; exact q)))))
end Tk29

set_option Elab.async false
set_option linter.all false
set_option maxRecDepth 100000
set_option exponentiation.threshold 3000
/-! S3: the law's draws out of a store -/
namespace Tk29
open PySem L2 Vm
/-- a store behind t draws -/
def Purse (t : Nat) (p : List Int) : Prop := ∃ a b c : Int, p = [a, b, c] ∧ 0 ≤ a ∧ b.natAbs < 2 ^ 160 ∧ 0 ≤ c ∧ c ≤ t
theorem Purse.mono {t u : Nat} {p : List Int} (h : Purse t p) (q : t ≤ u) : Purse u p := by
  obtain ⟨a, b, c, e, h1, h2, h3, h4⟩ := h
  exact ⟨a, b, c, e, h1, h2, h3, by omega⟩
theorem inI_of {n : Nat} {i : Int} (h : 0 ≤ i ∧ i < n) : inI n i := ⟨by omega, h.2⟩
theorem pick_ok {t : Nat} {p : List Int} {wide : Int} (P : Purse t p) (ht : t ≤ 1000000) (hw : 1 ≤ wide) (hw2 : wide < 2 ^ 60) :
    Sat (c_law_pick p wide) fun z => 0 ≤ z.1 ∧ z.1 < wide ∧ Purse (t + 1) z.2 := by
  obtain ⟨a, b, c, rfl, a0, b0, c0, ct⟩ := P
  have i0 : inI [a, b, c].length 0 := ⟨by simp, by simp⟩
  have i2 : inI [a, b, c].length 2 := ⟨by simp, by simp⟩
  by_cases ha : 0 < a
  · refine sat_hd (a := (a % wide, [a / wide, b, c])) ?_ ⟨Int.emod_nonneg _ (by omega), Int.emod_lt_of_pos _ (by omega), ⟨_, _, _, rfl, Int.ediv_nonneg a0 (by omega), b0, c0, by omega⟩⟩
    refine hd_bd a (hd_get i0) (hd_t (decide_eq_true ha) ?_)
    refine hd_bd a (hd_get i0) (hd_bd _ (hd_mod (by omega)) (hd_bd a (hd_get i0) (hd_bd _ (hd_fdiv (by omega) (lt_8000 (by omega))) (hd_bd [a / wide, b, c] (hd_set i0) hd_p))))
  · have j1 : inI [a, b, c + 1].length 1 := ⟨by simp, by simp⟩
    have j2 : inI [a, b, c + 1].length 2 := ⟨by simp, by simp⟩
    have q1 : (0 : Int) < 10 ^ (40 : Int).toNat + 121 := by decide
    have q2 : (0 : Int) < 10 ^ (39 : Int).toNat + 3 := by decide
    have s1 : (10 : Int) ^ (40 : Int).toNat + 121 < 2 ^ 160 := by decide
    have s2 : (10 : Int) ^ (39 : Int).toNat + 3 < 2 ^ 160 := by decide
    generalize hP : (10 : Int) ^ (40 : Int).toNat = P at q1 s1
    generalize hQ : (10 : Int) ^ (39 : Int).toNat = Q at q2 s2
    have k1 : (b + 32416187567 * (c + 1)).natAbs < 2 ^ 200 := by omega
    have n1 : 0 ≤ (b + 32416187567 * (c + 1)) ^ (3 : Int).toNat % (P + 121) := Int.emod_nonneg _ (by omega)
    have n2 : (b + 32416187567 * (c + 1)) ^ (3 : Int).toNat % (P + 121) < P + 121 := Int.emod_lt_of_pos _ q1
    obtain ⟨m1, hm1⟩ : ∃ m1, m1 = (b + 32416187567 * (c + 1)) ^ (3 : Int).toNat % (P + 121) := ⟨_, rfl⟩
    rw [← hm1] at n1 n2
    have k2 : (m1 + 27644437 * (c + 1)).natAbs < 2 ^ 200 := by omega
    obtain ⟨m2, hm2⟩ : ∃ m2, m2 = (m1 + 27644437 * (c + 1)) ^ (3 : Int).toNat % (Q + 3) := ⟨_, rfl⟩
    refine sat_hd (a := (m2 / 16381 % wide, [a, b, c + 1])) ?_ ⟨Int.emod_nonneg _ (by omega), Int.emod_lt_of_pos _ (by omega), ⟨_, _, _, rfl, a0, b0, by omega, by omega⟩⟩
    refine hd_bd a (hd_get i0) (hd_f (decide_eq_false ha) ?_)
    refine hd_bd c (hd_get i2) (hd_bd [a, b, c + 1] (hd_set i2) (hd_bd b (hd_get j1) (hd_bd (c + 1) (hd_get j2) (hd_bd _ (hd_mul (small_mul' (by decide))) (hd_bd _ (hd_pow (cube_ok k1)) ?_)))))
    refine hd_bd P ((hd_pow (ten_ok (by decide) (by decide))).to hP) (hd_bd m1 ((hd_mod q1).to hm1.symm) (hd_bd (c + 1) (hd_get j2) (hd_bd _ (hd_mul (small_mul' (by decide))) (hd_bd _ (hd_pow (cube_ok k2)) ?_))))
    exact hd_bd Q ((hd_pow (ten_ok (by decide) (by decide))).to hQ) (hd_bd m2 ((hd_mod q2).to hm2.symm) (hd_bd _ (hd_fdiv (by decide) (lt_8000 (by decide))) (hd_bd _ (hd_mod (by omega)) hd_p)))
theorem store_ok {sc : List Int} {k : Nat} (hk : k ≤ 100) : ∃ p, Hd (c_law_store sc k) p ∧ Purse 0 p := by
  have q1 : (0 : Int) < 10 ^ (37 : Int).toNat + 43 := by decide
  have s1 : ((10 : Int) ^ (37 : Int).toNat + 43) * 90 < 2 ^ 159 := by decide
  generalize hP : (10 : Int) ^ (37 : Int).toNat = P at q1 s1
  obtain ⟨x, hx⟩ : ∃ x, Hd (cnd (decide ((k : Int) < (sc.length : Int))) (bd (getM sc (k : Int)) fun t2 => pr (absI t2)) (pr 0)) x := by
    by_cases h : (k : Int) < sc.length
    · exact ⟨_, hd_t (decide_eq_true h) (hd_bd _ (hd_get (inI_of ⟨by omega, h⟩)) hd_p)⟩
    · exact ⟨_, hd_f (decide_eq_false h) hd_p⟩
  have n1 : 0 ≤ x % (P + 43) := Int.emod_nonneg _ (by omega)
  have n2 : x % (P + 43) < P + 43 := Int.emod_lt_of_pos _ q1
  refine ⟨_, hd_bd x hx (hd_bd _ (hd_pow (ten_ok (by decide) (by decide))) (hd_bd P ((hd_pow (ten_ok (by decide) (by decide))).to hP) (hd_bd _ (hd_mod q1) (hd_bd _ (hd_mul (small_mul (by decide))) (hd_bd _ (hd_mul (small_mul' (by decide))) hd_p))))), _, _, _, rfl, ?_, ?_, by decide, by decide⟩
  · unfold mx2
    split <;> omega
  · omega
theorem erase_perm {α : Type} : ∀ (xs : List α) (i : Nat) (h : i < xs.length), (xs[i] :: xs.eraseIdx i).Perm xs
  | [], i, h => absurd h (Nat.not_lt_zero i)
  | x :: xs, 0, _ => List.Perm.refl _
  | x :: xs, i + 1, h => by
    have hi : i < xs.length := by simpa using h
    have ih := erase_perm xs i hi
    show (xs[i] :: x :: xs.eraseIdx i).Perm (x :: xs)
    exact (List.Perm.swap x _ _).trans (List.Perm.cons x ih)
/-- many draws, one after the other -/
theorem draws_ok {β : Type} {t n : Nat} {p : List Int} {R : Nat → β → Prop} {f : List Int → Int → M (β × List Int)} (P : Purse t p) (ht : t + n ≤ 1000000)
    (hf : ∀ (i : Nat) (q : List Int), i < n → Purse (t + i) q → Sat (f q i) fun z => R i z.1 ∧ Purse (t + i + 1) z.2) :
    Sat (lcS f p (rgN n)) fun z => z.1.length = n ∧ (∀ (i : Nat) (x : β), z.1[i]? = some x → R i x) ∧ Purse (t + n) z.2 := by
  refine s_lcS (fun pre (ys : List β) (q : List Int) => ys.length = pre.length ∧ (∀ (i : Nat) (x : β), ys[i]? = some x → R i x) ∧ Purse (t + pre.length) q) ⟨rfl, by simp, P⟩ (fun pre x post ys q e ⟨h1, h2, h3⟩ => ?_) fun ys q ⟨h1, h2, h3⟩ => by rw [rgN_length] at h1 h3; exact ⟨h1, h2, h3⟩
  have hl : pre.length < n := by
    have := congrArg List.length e
    rw [rgN_length, List.length_append, List.length_cons] at this
    omega
  have hx : x = (pre.length : Int) := by
    have := rgN_get hl
    rw [e, List.getElem?_append_right (Nat.le_refl _), Nat.sub_self] at this
    exact Option.some.inj this
  subst hx
  refine (hf pre.length q hl h3).mono fun z ⟨a, b⟩ => ⟨by simp [h1], fun i y hy => ?_, b.mono (by simp; omega)⟩
  by_cases hi : i < ys.length
  · rw [List.getElem?_append_left hi] at hy
    exact h2 i y hy
  · rw [List.getElem?_append_right (by omega)] at hy
    have : i - ys.length = 0 := by
      cases q : i - ys.length with
      | zero => rfl
      | succ k => rw [q] at hy; cases hy
    rw [this] at hy
    cases hy
    have : i = pre.length := by omega
    rw [this]
    exact a
/-- all of a list, in a drawn sequence -/
theorem popped_ok {t n : Nat} {p left : List Int} (P : Purse t p) (ht : t + n ≤ 1000000) (hl : left.length = n) :
    Sat (lcS (fun (s : (List Int) × (List Int)) (x : Int) => bd (c_law_pick s.1 ((s.2).length : Int)) fun t27 => bd (popM s.2 t27.1) fun t28 => pr (t28.1, (t27.2, t28.2))) (p, left) (rgN n)) fun z => z.1.Perm left ∧ Purse (t + n) z.2.1 := by
  refine Sat.mono (P := fun z : List Int × List Int × List Int => z.2.2.length + n = n ∧ (z.1 ++ z.2.2).Perm left ∧ Purse (t + n) z.2.1) ?_ fun ⟨ys, q, rest⟩ ⟨h1, h2, h3⟩ => ?_
  · refine s_lcS (fun pre (ys : List Int) (s : List Int × List Int) => s.2.length + pre.length = n ∧ (ys ++ s.2).Perm left ∧ Purse (t + pre.length) s.1) ⟨by simpa using hl, by simp, P⟩ (fun pre x post ys ⟨q, lf⟩ e ⟨g2, g3, Q⟩ => ?_) fun ys s h => by rw [rgN_length] at h; exact h
    have hpl : pre.length < n := by
      have := congrArg List.length e
      rw [rgN_length, List.length_append, List.length_cons] at this
      omega
    simp only at g2 g3 Q ⊢
    refine st (pick_ok Q (by omega) (by omega) (by omega)) fun ⟨s1, q1⟩ ⟨c1, d1, Q1⟩ => ?_
    simp only at c1 d1 Q1 ⊢
    have hlt : s1.toNat < lf.length := by omega
    refine sb (a := (getI lf s1, lf.eraseIdx s1.toNat)) ⟨⟨c1, by show s1 < 2 ^ 63; omega, d1⟩, rfl⟩ (sat_p ⟨?_, ?_, ?_⟩)
    · show (lf.eraseIdx s1.toNat).length + _ = n
      rw [List.length_eraseIdx_of_lt hlt, List.length_append]
      simp only [List.length_cons, List.length_nil]
      omega
    · have hv : getI lf s1 = lf[s1.toNat] := by
        unfold getI
        rw [if_pos c1, List.getD_eq_getElem?_getD, List.getElem?_eq_getElem hlt]
        rfl
      have h3 : (lf[s1.toNat] :: lf.eraseIdx s1.toNat).Perm lf := erase_perm lf _ hlt
      show ((ys ++ [getI lf s1]) ++ lf.eraseIdx s1.toNat).Perm left
      rw [hv, List.append_assoc]
      exact (List.Perm.append_left ys h3).trans g3
    · exact Q1.mono (by rw [List.length_append]; simp only [List.length_cons, List.length_nil]; omega)
  · simp only at h1 h2 h3 ⊢
    have hrest : rest = [] := List.length_eq_zero_iff.mp (by omega)
    rw [hrest, List.append_nil] at h2
    exact ⟨h2, h3⟩
/-- what is dealt -/
theorem deal_ok {t : Nat} {p : List Int} {most top : Int} (P : Purse t p) (ht : t ≤ 900000) (hm : 1 ≤ most ∧ most ≤ 1000) (h1 : 0 ≤ top ∧ top ≤ 1000) :
    Sat (c_law_deal p most top) fun z => 1 ≤ z.1.length ∧ (z.1.length : Int) ≤ most ∧ (∀ x ∈ z.1, 0 ≤ x ∧ x ≤ top) ∧ Purse (t + 4 + 2 * z.1.length) z.2 := by
  refine st (pick_ok P (by omega) hm.1 (by omega)) fun ⟨r1, p1⟩ ⟨a1, b1, P1⟩ => ?_
  refine st (pick_ok P1 (by omega) (by decide) (by decide)) fun ⟨r2, p2⟩ ⟨a2, b2, P2⟩ => ?_
  simp only at a1 b1 P1 a2 b2 P2 ⊢
  obtain ⟨n, hn⟩ : ∃ n : Nat, 1 + r1 = (n : Int) := ⟨(1 + r1).toNat, by omega⟩
  have fin : ∀ (u : Nat) (zs : List Int) (q : List Int), zs.length = n → (∀ x ∈ zs, 0 ≤ x ∧ x ≤ top) → Purse (t + 2 + u) q → u ≤ 2 + 2 * n → (1 ≤ zs.length ∧ (zs.length : Int) ≤ most ∧ (∀ x ∈ zs, 0 ≤ x ∧ x ≤ top) ∧ Purse (t + 4 + 2 * zs.length) q) := fun u zs q h1 h2 h3 h4 => ⟨by omega, by omega, h2, h3.mono (by omega)⟩
  have all : ∀ {R : Int → Prop} {zs : List Int}, (∀ (i : Nat) (x : Int), zs[i]? = some x → R x) → ∀ x ∈ zs, R x := fun h x hx => by
    obtain ⟨i, hi, e⟩ := List.getElem_of_mem hx
    exact h i x (by rw [List.getElem?_eq_getElem hi, e])
  rw [hn]
  by_cases c1 : r2 = 1
  · refine sct (decide_eq_true c1) (sb (hd_rg (n := 2) rfl (by decide)) (sb (hd_short (by decide)) ?_))
    refine st (draws_ok (R := fun _ x => 0 ≤ x ∧ x ≤ top) P2 (by omega) fun i q hi Q => st (pick_ok Q (by omega) (by omega) (by omega)) fun ⟨s, q1⟩ ⟨c1, d1, Q1⟩ => sat_p ⟨⟨c1, by simp only at d1; show s ≤ top; omega⟩, Q1⟩) fun ⟨some', p3⟩ ⟨e1, e2, P3⟩ => ?_
    simp only at e1 e2 P3 ⊢
    refine sb (hd_rg (n := n) rfl (by omega)) (sb (hd_short (by rw [rgN_length]; omega)) ?_)
    refine st (draws_ok (R := fun _ x => 0 ≤ x ∧ x ≤ top) P3 (by omega) fun i q hi Q => st (pick_ok Q (by omega) (by decide) (by decide)) fun ⟨s, q1⟩ ⟨c1, d1, Q1⟩ => ?_) fun ⟨zs, p4⟩ ⟨f1, f2, P4⟩ => sat_p (fin (2 + n) zs p4 f1 (all f2) (P4.mono (by omega)) (by omega))
    simp only at c1 d1 Q1 ⊢
    obtain ⟨j, rfl⟩ : ∃ j : Nat, s = (j : Int) := ⟨s.toNat, by omega⟩
    have hj : some'[j]? = some some'[j] := List.getElem?_eq_getElem (by omega)
    exact sb (hd_getN hj) (sat_p ⟨e2 j _ hj, Q1⟩)
  refine scf (decide_eq_false c1) ?_
  by_cases c2 : r2 = 2
  · refine sct (decide_eq_true c2) (sb (hd_rg (n := n) rfl (by omega)) (sb (hd_short (by rw [rgN_length]; omega)) ?_))
    have w : 1 ≤ mn2 top 2 + 1 ∧ mn2 top 2 + 1 ≤ top + 1 ∧ mn2 top 2 + 1 ≤ 3 := by unfold mn2; split <;> omega
    exact st (draws_ok (R := fun _ x => 0 ≤ x ∧ x ≤ top) P2 (by omega) fun i q hi Q => st (pick_ok Q (by omega) w.1 (by omega)) fun ⟨s, q1⟩ ⟨c1, d1, Q1⟩ => sat_p ⟨⟨c1, by simp only at d1; show s ≤ top; omega⟩, Q1⟩) fun ⟨zs, p4⟩ ⟨f1, f2, P4⟩ => sat_p (fin n zs p4 f1 (all f2) P4 (by omega))
  refine scf (decide_eq_false c2) ?_
  by_cases c3 : r2 = 3
  · refine sct (decide_eq_true c3) (sb (hd_rg (n := n) rfl (by omega)) (sb (hd_short (by rw [rgN_length]; omega)) ?_))
    refine st (draws_ok (R := fun _ x => 0 ≤ x ∧ x ≤ top) P2 (by omega) fun i q hi Q => st (pick_ok Q (by omega) (by decide) (by decide)) fun ⟨s, q1⟩ ⟨c1, d1, Q1⟩ => sat_p ⟨⟨?_, ?_⟩, Q1⟩) fun ⟨fd, p3⟩ ⟨e1, e2, P3⟩ => ?_
    · simp only at c1
      show 0 ≤ mn2 top ((i : Int) + s)
      unfold mn2
      split <;> omega
    · show mn2 top ((i : Int) + s) ≤ top
      unfold mn2
      split <;> omega
    simp only at e1 e2 P3 ⊢
    refine sb (hd_rg (n := n) rfl (by omega)) (sb (hd_short (by rw [rgN_length]; omega)) ?_)
    refine st (popped_ok P3 (by omega) e1) fun ⟨zs, p4, rest⟩ ⟨f1, P4⟩ => ?_
    simp only at f1 P4 ⊢
    exact sat_p (fin (2 * n) zs p4 (by rw [f1.length_eq]; exact e1) (fun x hx => all e2 x (f1.mem_iff.mp hx)) (P4.mono (by omega)) (by omega))
  refine scf (decide_eq_false c3) ?_
  by_cases c4 : r2 = 4
  · refine sct (decide_eq_true c4) ?_
    refine st (pick_ok P2 (by omega) (by omega) (by omega)) fun ⟨s, p3⟩ ⟨g1, g2, P3⟩ => ?_
    simp only at g1 g2 P3 ⊢
    exact sb (hd_rep1 (by omega)) (sat_p (fin 1 _ p3 List.length_replicate (fun x hx => by rw [List.eq_of_mem_replicate hx]; omega) P3 (by omega)))
  refine scf (decide_eq_false c4) (sb (hd_rg (n := n) rfl (by omega)) (sb (hd_short (by rw [rgN_length]; omega)) ?_))
  have w : 0 ≤ mn2 top 3 ∧ mn2 top 3 ≤ top := by unfold mn2; split <;> omega
  have hg : ∃ wd : Int, Hd (getM [(top + 1), ((mn2 top 3) + 1)] (if (decide (r2 = 5)) then (1 : Int) else 0)) wd ∧ 1 ≤ wd ∧ wd ≤ top + 1 := by
    by_cases c5 : r2 = 5
    · rw [decide_eq_true c5]
      exact ⟨mn2 top 3 + 1, hd_getN (i := 1) rfl, by omega, by omega⟩
    · rw [decide_eq_false c5]
      exact ⟨top + 1, hd_getN (i := 0) rfl, by omega, by omega⟩
  obtain ⟨wd, hg, w1, w2⟩ := hg
  refine st (draws_ok (R := fun _ x => 0 ≤ x ∧ x ≤ top) P2 (by omega) fun i q hi Q => sb hg (st (pick_ok Q (by omega) w1 (by omega)) fun ⟨s, q1⟩ ⟨c1, d1, Q1⟩ => sat_p ⟨⟨?_, ?_⟩, Q1⟩)) fun ⟨zs, p4⟩ ⟨f1, f2, P4⟩ => sat_p (fin n zs p4 f1 (all f2) P4 (by omega))
  · simp only at d1
    show 0 ≤ top - s
    omega
  · simp only at c1
    show top - s ≤ top
    omega
end Tk29

set_option Elab.async false
set_option linter.all false
set_option maxRecDepth 100000
set_option exponentiation.threshold 9000
/-! G: teams and counts, where a team may be a value of any kind -/
namespace Tk29
open PySem L2 Vm
open Ar (along nx cf ab)
/-- a value of a kind that isinstance tells, and no script -/
def tame : D → Bool
  | .scr _ => false
  | d => tameD d
theorem tame_D {d : D} (h : tame d = true) : tameD d = true := by
  cases d <;> first
    | exact h
    | cases h
def lstD : D → Bool
  | .lst _ => true
  | _ => false
theorem isL_ok {d : D} (h : tame d = true) : Hd (isiD (eD d) "list") (lstD d) := by
  have e : isLs d = lstD d := by
    cases d <;> first
      | rfl
      | cases h
  rw [← e]
  exact isi_list (tame_D h)
theorem whole_d {d : D} (h : tame d = true) : Hd (c_is_whole d) (isW d) := by
  refine hd_bd _ (isi_int (tame_D h)) ?_
  cases d <;> first
    | exact hd_bd true (hd_t rfl (hd_bd false (isi_bool rfl) (hd_pe rfl))) hd_p
    | exact hd_bd false (hd_t rfl (hd_bd true (isi_bool rfl) (hd_pe rfl))) hd_p
    | exact hd_bd false (hd_f rfl (hd_pe rfl)) hd_p
    | cases h
theorem whole_ok (i : Int) : Hd (c_is_whole (.int i)) true := whole_d rfl
/-- the levels less their places -/
def sparesFrom : Nat → List Int → List Int
  | _, [] => []
  | k, x :: xs => (x - k) :: sparesFrom (k + 1) xs
def spares (ns : List Int) : List Int := sparesFrom 0 (srt ns)
theorem sparesFrom_len : ∀ (k : Nat) (ns : List Int), (sparesFrom k ns).length = ns.length
  | _, [] => rfl
  | k, n :: ns => congrArg (· + 1) (sparesFrom_len (k + 1) ns)
theorem sparesFrom_get : ∀ (k : Nat) (ns : List Int) (i : Nat), (sparesFrom k ns)[i]? = (ns[i]?).map fun x => x - ((k + i : Nat) : Int)
  | _, [], i => by simp [sparesFrom]
  | k, n :: ns, 0 => by simp [sparesFrom]
  | k, n :: ns, i + 1 => by
    show (sparesFrom (k + 1) ns)[i]? = (ns[i]?).map _
    rw [sparesFrom_get (k + 1) ns i, show k + 1 + i = k + (i + 1) by omega]
theorem spares_zip : ∀ (k : Nat) (ns : List Int), ((ns.zipIdx k).map fun p => ((p.2 : Int), p.1)).map (fun q : Int × Int => q.2 - q.1) = sparesFrom k ns
  | _, [] => rfl
  | k, n :: ns => by
    show _ :: _ = _
    rw [spares_zip (k + 1) ns]
    rfl
theorem srt_len (ns : List Int) : (srt ns).length = ns.length := (srt_perm ns).length_eq
theorem srt_mem {ns : List Int} {x : Int} : x ∈ srt ns ↔ x ∈ ns := (srt_perm ns).mem_iff
theorem spares_len (ns : List Int) : (spares ns).length = ns.length := by
  unfold spares
  rw [sparesFrom_len, srt_len]
theorem enumL_len {α : Type} (xs : List α) : (enumL xs).length = xs.length := by unfold enumL; simp
theorem spares_of_ok (ns : List Int) (h : ns.length < 1000000) : Hd (c_spares_of ns) (spares ns) := by
  refine hd_bd () (hd_short (by rw [enumL_len, srt_len]; exact h)) (hd_bd _ (hd_mapM (fun q : Int × Int => q.2 - q.1) fun x _ => hd_p) (hd_pe ?_))
  exact spares_zip 0 (srt ns)
/-- what a team is -/
structure Team (ns : List Int) : Prop where
  pos : 1 ≤ ns.length
  few : ns.length ≤ 20
  nn : ∀ x ∈ ns, 0 ≤ x
  sp : ∀ s ∈ spares ns, s ≤ 40
theorem Team.ne {ns : List Int} (T : Team ns) : ns ≠ [] := fun z => by
  have := T.pos
  rw [z] at this
  simp at this
/-- a natural number, as a value -/
def natD (d : D) : Bool := isW d && decide (0 ≤ unI d)
/-- a team, as a value -/
def isT : D → Bool
  | .lst ds => (decide (1 ≤ (ds.length : Int)) && decide ((ds.length : Int) ≤ 20)) && (ds.all natD && decide (maxL (spares (ds.map unI)) ≤ 40))
  | _ => false
theorem isT_lst (ds : List D) : isT (.lst ds) = ((decide (1 ≤ (ds.length : Int)) && decide ((ds.length : Int) ≤ 20)) && (ds.all natD && decide (maxL (spares (ds.map unI)) ≤ 40))) := rfl
/-- a value whose items, too, are of kinds that isinstance tells -/
def tameI : D → Bool
  | .lst ds => ds.all tame
  | d => tame d
theorem tameI_tame {d : D} (h : tameI d = true) : tame d = true := by
  cases d <;> first
    | exact h
    | rfl
theorem all_wholes : ∀ {ds : List D}, ds.all natD = true → ds = (ds.map unI).map D.int
  | [], _ => rfl
  | d :: ds, h => by
    have h : natD d = true ∧ ds.all natD = true := by simpa only [List.all_cons, Bool.and_eq_true] using h
    have e : d = .int (unI d) := by
      have h1 := h.1
      unfold natD at h1
      cases d <;> first
        | rfl
        | cases h1
    rw [List.map_cons, List.map_cons, ← e, ← all_wholes h.2]
theorem isteam_d {d : D} (h : tameI d = true) : Hd (c_is_team d) (isT d) := by
  by_cases hl : lstD d = true
  · have : ∃ ds, d = .lst ds := by
      cases d <;> first
        | exact ⟨_, rfl⟩
        | cases hl
    obtain ⟨ds, rfl⟩ := this
    have ht : ∀ x ∈ ds, tame x = true := List.all_eq_true.mp h
    refine hd_bd true (isL_ok rfl) ?_
    refine hd_bd _ (hd_f rfl (hd_bd ds (asList_ok ds) hd_p)) ?_
    cases hc : (decide (1 ≤ (ds.length : Int)) && decide ((ds.length : Int) ≤ 20)) with
    | false => exact hd_t rfl (hd_pe (by rw [isT_lst, hc]; rfl))
    | true =>
      have hc2 : 1 ≤ (ds.length : Int) ∧ (ds.length : Int) ≤ 20 := by simpa only [Bool.and_eq_true, decide_eq_true_eq] using hc
      refine hd_f rfl (hd_bd ds (asList_ok ds) (hd_bd () (hd_short (by omega)) (hd_bd _ (hd_mapM natD fun x hx => ?_) ?_)))
      · refine hd_bd _ (whole_d (ht x hx)) (hd_bd (natD x) ?_ hd_p)
        unfold natD
        cases x <;> first
          | exact hd_t rfl (hd_bd _ (asInt_ok _) (hd_pe rfl))
          | exact hd_f rfl (hd_pe rfl)
      · have e : List.all (ds.map natD) id = ds.all natD := by rw [List.all_map]; rfl
        rw [e]
        cases ha : ds.all natD with
        | false => exact hd_t rfl (hd_pe (by rw [isT_lst, hc, ha]; rfl))
        | true =>
          refine hd_f rfl (hd_bd (ds.map unI) ?_ (hd_bd _ (spares_of_ok _ (by rw [List.length_map]; omega)) (hd_bd _ (hd_max ?_) (hd_pe (by rw [isT_lst, hc, ha]; rfl)))))
          · have g := asInts_ok (ds.map unI)
            have e2 : D.lst ds = eL D.int (ds.map unI) := congrArg D.lst (all_wholes ha)
            rw [e2]
            exact g
          · intro z
            have := spares_len (ds.map unI)
            rw [z, List.length_map] at this
            simp at this
            omega
  · have hl : lstD d = false := by cases q : lstD d with
      | true => exact absurd q hl
      | false => rfl
    refine hd_bd _ (isL_ok (tameI_tame h)) (hd_bd true (hd_t (by rw [hl]; rfl) hd_p) (hd_t rfl (hd_pe ?_)))
    cases d <;> first
      | rfl
      | cases hl
theorem tameI_ints (ns : List Int) : tameI (eL D.int ns) = true := by
  show (ns.map D.int).all tame = true
  rw [List.all_map, List.all_eq_true]
  exact fun _ _ => rfl
theorem isT_ok {ns : List Int} (T : Team ns) : isT (eL D.int ns) = true := by
  have h1 : (1 : Int) ≤ (ns.length : Int) := by have := T.pos; omega
  have h2 : (ns.length : Int) ≤ 20 := by have := T.few; omega
  have hs : spares ns ≠ [] := fun z => by
    have := spares_len ns
    rw [z] at this
    have := T.pos
    simp at *
    omega
  show ((decide (1 ≤ ((ns.map D.int).length : Int)) && decide (((ns.map D.int).length : Int) ≤ 20)) && ((ns.map D.int).all natD && decide (maxL (spares ((ns.map D.int).map unI)) ≤ 40))) = true
  rw [unI_map, List.length_map, decide_eq_true h1, decide_eq_true h2, decide_eq_true (T.sp _ (maxL_mem hs)), List.all_map]
  simp only [Bool.and_true, Bool.true_and]
  exact List.all_eq_true.mpr fun x hx => by
    show (true && decide (0 ≤ x)) = true
    rw [decide_eq_true (T.nn x hx)]
    rfl
theorem is_team_ok {ns : List Int} (T : Team ns) : Hd (c_is_team (eL D.int ns)) true := by
  have h := isteam_d (tameI_ints ns)
  rw [isT_ok T] at h
  exact h
theorem check_team_ok {ns : List Int} (T : Team ns) : Hd (c_check_team (eL D.int ns)) () := hd_bd _ (is_team_ok T) (hd_bd () (hd_must rfl) hd_p)
theorem Team.le {ns : List Int} (T : Team ns) : ∀ x ∈ ns, x ≤ 59 := fun x hx => by
  have hx' := srt_mem.mpr hx
  obtain ⟨i, hi, e⟩ := List.getElem_of_mem hx'
  have : (spares ns)[i]? = some (x - (i : Int)) := by
    unfold spares
    rw [sparesFrom_get, List.getElem?_eq_getElem hi, e]
    simp
  have h1 := T.sp _ (List.mem_of_getElem? this)
  have := T.few
  rw [srt_len] at hi
  omega
theorem team_le {ns : List Int} (h1 : 1 ≤ ns.length) (h2 : ns.length ≤ 20) (h : ∀ x ∈ ns, 0 ≤ x ∧ x ≤ 40) : Team ns := by
  refine ⟨h1, h2, fun x hx => (h x hx).1, fun s hs => ?_⟩
  obtain ⟨i, hi, e⟩ := List.getElem_of_mem hs
  have hi' : i < (srt ns).length := by rw [srt_len, ← spares_len]; exact hi
  have : (spares ns)[i]? = some ((srt ns)[i] - (i : Int)) := by
    unfold spares
    rw [sparesFrom_get, List.getElem?_eq_getElem hi']
    simp
  rw [List.getElem?_eq_getElem hi, e] at this
  have h3 := Option.some.inj this
  have := (h _ (srt_mem.mp (List.getElem_mem hi'))).2
  omega
/-- what is drawn is a team -/
theorem team_of {ns : List Int} (h1 : 1 ≤ ns.length) (h2 : ns.length ≤ 20) (h0 : ∀ x ∈ ns, 0 ≤ x) {top : Int} (ht : top ≤ 40) (h : ∃ ms : List Int, ms.Perm ns ∧ ∀ (i : Nat) (x : Int), ms[i]? = some x → x ≤ top + i) : Team ns := by
  obtain ⟨ms, hp, hb⟩ := h
  refine ⟨h1, h2, h0, fun s hs => ?_⟩
  obtain ⟨i, hi, e⟩ := List.getElem_of_mem hs
  have hi' : i < (srt ns).length := by rw [srt_len, ← spares_len]; exact hi
  have q : (spares ns)[i]? = some ((srt ns)[i] - (i : Int)) := by
    unfold spares
    rw [sparesFrom_get, List.getElem?_eq_getElem hi']
    simp
  rw [List.getElem?_eq_getElem hi, e] at q
  have h3 := Option.some.inj q
  rcases Int.lt_or_le (top + i) (srt ns)[i] with hlt | hle
  · exfalso
    have hpw := srt_pw ns
    have c1 : ab (srt ns) (top + i) = ab ms (top + i) := Ar.ab_perm ((srt_perm ns).trans hp.symm) _
    have c2 : ab ms (top + i) = ab (ms.take (i + 1)) (top + i) + ab (ms.drop (i + 1)) (top + i) := by rw [← Ar.ab_append, List.take_append_drop]
    have c3 : ab (ms.take (i + 1)) (top + i) = 0 := Ar.ab_none fun x hx => by
      obtain ⟨j, hj, rfl⟩ := List.getElem_of_mem hx
      have hj' : j < i + 1 := by rw [List.length_take] at hj; omega
      have hj2 : j < ms.length := by rw [List.length_take] at hj; omega
      have := hb j (ms.take (i + 1))[j] (by rw [List.getElem_take, List.getElem?_eq_getElem hj2])
      omega
    have c4 := Ar.ab_le (ms.drop (i + 1)) (top + i)
    rw [List.length_drop, hp.length_eq] at c4
    have d2 : ab (srt ns) (top + i) = ab ((srt ns).take i) (top + i) + ab ((srt ns).drop i) (top + i) := by rw [← Ar.ab_append, List.take_append_drop]
    have d3 : ab ((srt ns).drop i) (top + i) = ((srt ns).drop i).length := Ar.ab_all fun x hx => by
      obtain ⟨j, hj, rfl⟩ := List.getElem_of_mem hx
      rw [List.getElem_drop]
      have hj2 : i + j < (srt ns).length := by rw [List.length_drop] at hj; omega
      rcases Nat.eq_zero_or_pos j with z | z
      · subst z
        exact hlt
      · have := List.pairwise_iff_getElem.mp hpw i (i + j) hi' hj2 (by omega)
        omega
    rw [List.length_drop, srt_len] at d3
    rw [srt_len] at hi'
    omega
  · omega
theorem getI_nat {α : Type} [Inhabited α] {xs : List α} {i : Nat} (h : i < xs.length) : getI xs (i : Int) = xs[i] := by
  unfold getI
  rw [if_pos (by omega), Int.toNat_natCast, List.getD_eq_getElem?_getD, List.getElem?_eq_getElem h]
  rfl
theorem sum_ones : ∀ xs : List Int, (xs.map fun _ => (1 : Int)).sum = xs.length
  | [] => rfl
  | x :: xs => by rw [List.map_cons, List.sum_cons, sum_ones xs, List.length_cons]; omega
theorem with_next_ok (cs : List Int) (b : Int) (hl : cs.length ≤ 1000) (hb : 0 ≤ b ∧ b ≤ 1000) : Hd (c_counts_with_next cs b) (nx b cs) := by
  refine Sat.hd (sb (hd_cat (by simp; omega)) (st (s_for (fun pre s => s = Ar.lg b 0 0 (pre.map (·.2)) (cs.drop pre.length ++ [0])) ?_ ?_ fun s h => h) ?_))
  · cases cs with
    | nil => rfl
    | cons c cs => simp [Ar.lg]
  · rintro pre ⟨k, x⟩ post s ex rfl
    have hel := congrArg List.length ex
    rw [enumL_len, List.length_append, List.length_cons] at hel
    have hlt : pre.length < cs.length := by omega
    have hz : (enumL cs)[pre.length]? = some (k, x) := by rw [ex]; simp
    unfold enumL at hz
    rw [List.getElem?_map, List.getElem?_zipIdx, List.getElem?_eq_getElem hlt] at hz
    have hkx : ((pre.length : Nat) : Int) = k ∧ cs[pre.length] = x := by simpa using hz
    obtain ⟨rfl, hx⟩ := hkx
    have hdrop : cs.drop pre.length ++ [0] = x :: (cs.drop (pre.length + 1) ++ [0]) := by
      rw [List.drop_eq_getElem_cons hlt, hx]
      rfl
    obtain ⟨r, rest, hr⟩ : ∃ r rest, cs.drop (pre.length + 1) ++ [0] = r :: rest := by
      cases q : cs.drop (pre.length + 1) with
      | nil => exact ⟨0, [], rfl⟩
      | cons a l => exact ⟨a, l ++ [0], rfl⟩
    have hpl : (pre.map (·.2)).length = pre.length := List.length_map _
    have g := Ar.lg_get b (pre.map (·.2)) x r 0 0 rest
    have stp := Ar.lg_step b (pre.map (·.2)) x r 0 0 rest
    have ln := Ar.lg_length b (pre.map (·.2)) (x :: r :: rest) 0 0 (by simp)
    rw [hpl] at g stp ln
    rw [Nat.zero_add] at stp
    rw [hdrop, hr]
    have e1 : ((pre.length : Int) + 1) = ((pre.length + 1 : Nat) : Int) := by omega
    refine sb (hd_getI e1 g) (sb (hd_mul (small_mul (by omega))) (sb (a := Ar.lg b 0 0 (pre.map (·.2) ++ [x]) (r :: rest)) ?_ (sat_p ?_)))
    · show Hd (setM _ ((pre.length : Int) + 1) _) _
      rw [e1, ← stp]
      exact hd_setN (by rw [ln]; simp)
    · rw [List.map_append, List.length_append]
      show _ = Ar.lg b 0 0 (_ ++ [x]) (cs.drop (pre.length + 1) ++ [0])
      rw [hr]
  · intro s hs
    refine sat_p ?_
    rw [hs, enumL_len]
    have e2 : (enumL cs).map (·.2) = cs := by unfold enumL; rw [List.map_map]; simp [Function.comp_def]
    rw [e2, List.drop_length, List.nil_append, Ar.lg_end]
    rfl
theorem counts_along_ok (ns : List Int) (hl : ns.length ≤ 900) (hb : ∀ b ∈ ns, 0 ≤ b ∧ b ≤ 1000) : Hd (c_counts_along ns) (along ns) := by
  refine Sat.hd (st (s_for (fun pre s => s = along pre) rfl ?_ fun s h => h) fun s h => sat_p h)
  rintro pre x post s ex rfl
  have hlen : (along pre).length ≤ 1000 := by
    rw [Ar.along_length]
    have := congrArg List.length ex
    simp at this
    omega
  exact sb (with_next_ok (along pre) x hlen (hb x (by rw [ex]; simp))) (sat_p (Ar.along_snoc pre x).symm)
def cnt (ns : List Int) : List Int := along (srt ns)
theorem cnt_length (ns : List Int) : (cnt ns).length = ns.length + 1 := by
  unfold cnt
  rw [Ar.along_length, srt_len]
/-- the greatest size -/
def gr (ns : List Int) : Int := minL ((rgN ns.length).map fun b => b + (ab ns b : Int))
theorem gr_le {ns : List Int} (h : ns ≠ []) (t : Nat) : gr ns ≤ t + ab ns (t : Int) := by
  have hp : 0 < ns.length := List.length_pos_iff.mpr h
  by_cases ht : t < ns.length
  · exact minL_le (List.mem_map.mpr ⟨(t : Int), mem_rgN.mpr ⟨by omega, by omega⟩, rfl⟩)
  · have h0 : gr ns ≤ 0 + ab ns 0 := minL_le (List.mem_map.mpr ⟨0, mem_rgN.mpr ⟨by omega, by omega⟩, rfl⟩)
    have := Ar.ab_le ns 0
    omega
theorem gr_mem {ns : List Int} (h : ns ≠ []) : ∃ t : Nat, t < ns.length ∧ gr ns = t + ab ns (t : Int) := by
  have hp : 0 < ns.length := List.length_pos_iff.mpr h
  have m := minL_mem (ns := (rgN ns.length).map fun b => b + (ab ns b : Int)) fun z => by
    have h0 := congrArg List.length z
    rw [List.length_map, rgN_length, List.length_nil] at h0
    omega
  obtain ⟨b, hb, e⟩ := List.mem_map.mp m
  obtain ⟨h0, h1⟩ := mem_rgN.mp hb
  refine ⟨b.toNat, by omega, ?_⟩
  have : ((b.toNat : Nat) : Int) = b := by omega
  rw [this]
  exact e.symm
/-- what comes of the counts: the likeliest sizes, the mean -/
def lk (cs : List Int) : List Int := ((enumL cs).filter fun p => decide (p.2 = maxL cs)).map fun p => p.1
theorem cnt_ne (ns : List Int) : cnt ns ≠ [] := fun z => by
  have := cnt_length ns
  rw [z] at this
  simp at this
def frac (a b : Int) : Int × Int := (a / gcdI a b, b / gcdI a b)
theorem fraction_ok {a b : Int} (h : 0 < b) (h2 : b.natAbs < 2 ^ 7999) : Hd (c_fraction a b) (frac a b) := by
  have g1 : Nat.gcd a.natAbs b.natAbs ≤ b.natAbs := Nat.gcd_le_right _ (by omega)
  have g0 : 0 < Nat.gcd a.natAbs b.natAbs := Nat.gcd_pos_of_pos_right _ (by omega)
  have p0 : 0 < gcdI a b := by unfold gcdI; omega
  have p1 : gcdI a b < 2 ^ 8000 := by
    unfold gcdI
    have : (2 : Nat) ^ 7999 < 2 ^ 8000 := Nat.pow_lt_pow_right (by decide) (by decide)
    have q : Nat.gcd a.natAbs b.natAbs < 2 ^ 8000 := by omega
    have q2 : ((Nat.gcd a.natAbs b.natAbs : Nat) : Int) < ((2 ^ 8000 : Nat) : Int) := Int.ofNat_lt.mpr q
    rw [Int.natCast_pow] at q2
    exact q2
  exact hd_bd _ hd_p (hd_bd _ (hd_fdiv p0 p1) (hd_bd _ (hd_fdiv p0 p1) hd_p))
def wsum (cs : List Int) : Int := ((enumL cs).map fun p => p.1 * p.2).sum
theorem srt_nn {ns : List Int} (T : Team ns) : ∀ x ∈ srt ns, 0 ≤ x := fun x hx => T.nn x (srt_mem.mp hx)
theorem cnt_nn {ns : List Int} (T : Team ns) : ∀ c ∈ cnt ns, 0 ≤ c := fun c hc => by
  obtain ⟨k, rfl⟩ := Ar.mem_along hc
  exact (Ar.cf_good (srt ns) (srt_pw ns) (srt_nn T)).1 k
theorem cnt_size {ns : List Int} (T : Team ns) : ∀ c ∈ cnt ns, c.natAbs ≤ 101 ^ 20 := fun c hc => by
  have := Ar.along_bd (q := 100) (ns := srt ns) (fun b hb j hj => by
    have h1 := T.nn b (srt_mem.mp hb)
    have h2 := T.le b (srt_mem.mp hb)
    have := T.few
    rw [srt_len] at hj
    omega) c hc
  rw [srt_len] at this
  have h3 : (100 + 1) ^ ns.length ≤ 101 ^ 20 := Nat.pow_le_pow_right (by decide) T.few
  omega
theorem cnt_sum {ns : List Int} (T : Team ns) : 0 < (cnt ns).sum ∧ (cnt ns).sum.natAbs < 2 ^ 7999 := by
  refine ⟨Ar.sum_pos (cnt_nn T) (Ar.one_mem_along _) (by decide), ?_⟩
  have h1 := Ar.sum_natAbs (cnt ns) (cnt_size T)
  rw [cnt_length] at h1
  have h2 : (ns.length + 1) * 101 ^ 20 ≤ 21 * 101 ^ 20 := Nat.mul_le_mul_right _ (by have := T.few; omega)
  have h3 : 21 * 101 ^ 20 < 2 ^ 200 := by decide
  have h4 : (2 : Nat) ^ 200 < 2 ^ 7999 := Nat.pow_lt_pow_right (by decide) (by decide)
  exact Nat.lt_of_le_of_lt (Nat.le_trans h1 h2) (Nat.lt_trans h3 h4)
theorem mem_enumL {α : Type} {xs : List α} {p : Int × α} (h : p ∈ enumL xs) : ∃ i : Nat, p.1 = i ∧ xs[i]? = some p.2 := by
  unfold enumL at h
  obtain ⟨⟨x, i⟩, hq, rfl⟩ := List.mem_map.mp h
  exact ⟨i, rfl, List.mk_mem_zipIdx_iff_getElem?.mp hq⟩
/-! ### which error -/
end Tk29

set_option Elab.async false
set_option linter.all false
set_option maxRecDepth 100000
set_option exponentiation.threshold 9000
/-! LC: the counts that the law reckons itself, job by job (from K04), of any list of numbers -/
namespace Tk29
open PySem L2 Vm
open Ar (along nx cf ab sideN op)
theorem dnI_split {a b x : Int} {pre post : List Int} (h : dnI a b = pre ++ x :: post) : x = a - pre.length ∧ pre.length < (a - b).toNat := by
  have hl : pre.length < (dnI a b).length := by rw [h]; simp
  have e : (dnI a b)[pre.length]? = some x := by rw [h]; simp
  unfold dnI at hl e
  rw [List.length_map, List.length_range] at hl
  rw [List.getElem?_map, List.getElem?_range hl] at e
  have e : a + ((pre.length : Nat) : Int) * -1 = x := Option.some.inj e
  exact ⟨by omega, hl⟩
theorem dnI_len (a b : Int) : (dnI a b).length = (a - b).toNat := by unfold dnI; rw [List.length_map, List.length_range]
theorem hd_dn {a b : Int} (h1 : -1000000 ≤ a) (h2 : a ≤ 1000000) (h3 : -1000000 ≤ b) (h4 : b ≤ 1000000) : Hd (dnM a b (-1)) (dnI a b) := ⟨⟨rfl, by omega, by omega, by omega, by omega⟩, rfl⟩
/-- the numbers f 0 .. f n -/
def lst (n : Nat) (f : Nat → Int) : List Int := (List.range (n + 1)).map f
theorem lst_len (n : Nat) (f : Nat → Int) : (lst n f).length = n + 1 := by unfold lst; rw [List.length_map, List.length_range]
theorem lst_get {n i : Nat} (f : Nat → Int) (h : i ≤ n) : (lst n f)[i]? = some (f i) := by
  unfold lst
  rw [List.getElem?_map, List.getElem?_range (by omega)]
  rfl
theorem lst_set {n i : Nat} {f g : Nat → Int} {v : Int} (h : g i = v) (h2 : ∀ j, j ≠ i → g j = f j) : (lst n f).set i v = lst n g := by
  refine List.ext_getElem? fun j => ?_
  by_cases hj : j ≤ n
  · rw [lst_get g hj, List.getElem?_set]
    by_cases e : i = j
    · subst e
      rw [if_pos rfl, if_pos (by rw [lst_len]; omega), h]
    · rw [if_neg e, lst_get f hj, h2 j (fun z => e z.symm)]
  · rw [List.getElem?_eq_none (by rw [List.length_set, lst_len]; omega), List.getElem?_eq_none (by rw [lst_len]; omega)]
theorem lst_ext {n : Nat} {f g : Nat → Int} (h : ∀ i, i ≤ n → f i = g i) : lst n f = lst n g := by
  unfold lst
  exact List.map_congr_left fun i hi => h i (by have := List.mem_range.mp hi; omega)
theorem inner_ok (n : Nat) (hn : n ≤ 1000) (f : Nat → Int) (b : Nat) (hb : b ≤ 1000) :
    Hd (forM (fun (s21 : List Int) (x23 : Int) => (bd (getM s21 x23) fun t25 => bd (getM s21 (x23 - 1)) fun t26 => bd (mulM t26 (((b : Int) - x23) + 1)) fun t27 => bd (setM s21 x23 (t25 + t27)) fun t28 => pr t28 : M (List Int))) (lst n f) (dnI (n : Int) 0)) (lst n (op b f)) := by
  refine Sat.hd (s_for (fun pre s => s = lst n fun i => if n - pre.length < i then op b f i else f i) ?_ ?_ ?_)
  · exact lst_ext fun i hi => by rw [if_neg (by simp; omega)]
  · intro pre x post s e hs
    obtain ⟨hx, hp⟩ := dnI_split e
    obtain ⟨k, hk⟩ : ∃ k : Nat, n - pre.length = k + 1 := ⟨n - pre.length - 1, by omega⟩
    have ex : x = ((k + 1 : Nat) : Int) := by omega
    subst ex
    subst hs
    have g1 : Hd (getM (lst n fun i => if n - pre.length < i then op b f i else f i) ((k + 1 : Nat) : Int)) (f (k + 1)) := hd_getN (by rw [lst_get _ (by omega), if_neg (by omega)])
    have g2 : Hd (getM (lst n fun i => if n - pre.length < i then op b f i else f i) (((k + 1 : Nat) : Int) - 1)) (f k) := hd_getI (j := k) (by omega) (by rw [lst_get _ (by omega), if_neg (by omega)])
    refine sb g1 (sb g2 (sb (hd_mul (small_mul (by omega))) (sb (hd_setN (by rw [lst_len]; omega)) (sat_p ?_))))
    refine lst_set ?_ fun j hj => ?_
    · rw [List.length_append, List.length_singleton, if_pos (by omega)]
      show f (k + 1) + ((b : Int) - k) * f k = _
      rw [Int.mul_comm (f k)]
      have : (b : Int) - ((k + 1 : Nat) : Int) + 1 = b - k := by omega
      rw [this]
    · rw [List.length_append, List.length_singleton]
      by_cases h : n - pre.length < j
      · rw [if_pos (by omega), if_pos h]
      · rw [if_neg (by omega), if_neg h]
  · intro s hs
    rw [hs, dnI_len]
    refine lst_ext fun i hi => ?_
    by_cases h : i = 0
    · subst h
      rw [if_neg (by omega)]
      rfl
    · rw [if_pos (by omega)]
theorem lst_d0 (n : Nat) : [1] ++ List.replicate n 0 = lst n Ar.d0 := by
  unfold lst
  rw [List.range_succ_eq_map, List.map_cons, List.map_map]
  show 1 :: _ = 1 :: _
  refine congrArg _ ?_
  show List.replicate n 0 = _
  refine List.ext_getElem? fun i => ?_
  rw [List.getElem?_map]
  by_cases h : i < n
  · rw [List.getElem?_range h, List.getElem?_replicate, if_pos h]
    rfl
  · rw [List.getElem?_eq_none (by simpa using h), List.getElem?_eq_none (by simpa using h)]
    rfl
theorem cnt_lst (ns : List Int) : cnt ns = lst ns.length (cf (srt ns)) := by
  refine List.ext_getElem? fun i => ?_
  by_cases h : i ≤ ns.length
  · rw [lst_get _ h, List.getElem?_eq_getElem (by rw [cnt_length]; omega)]
    have q := Ar.along_get (srt ns) i
    rw [List.getD_eq_getElem?_getD, show (along (srt ns))[i]? = some ((cnt ns)[i]'(by rw [cnt_length]; omega)) from List.getElem?_eq_getElem (by show i < (cnt ns).length; rw [cnt_length]; omega)] at q
    rw [← q]
    rfl
  · rw [List.getElem?_eq_none (by rw [cnt_length]; omega), List.getElem?_eq_none (by rw [lst_len]; omega)]
end Tk29

set_option Elab.async false
set_option linter.all false
set_option maxRecDepth 100000
set_option exponentiation.threshold 9000
/-! HT: full lists by their hits -/
namespace Tk29
open PySem L2 Vm
open Ar (along nx cf ab hv ev ff avF drv drvN prodS fc hval hlF mulY addHd it0 sm dj wS)
/-- a loop over the items with their places -/
theorem s_forE {α σ : Type} {st : σ → (Int × α) → M σ} {xs : List α} {s0 : σ} {P : σ → Prop} (I : Nat → σ → Prop) (h0 : I 0 s0) (hs : ∀ (i : Nat) (v : α) s, xs[i]? = some v → I i s → Sat (st s ((i : Int), v)) (I (i + 1))) (hP : ∀ s, I xs.length s → P s) : Sat (forM st s0 (enumL xs)) P := by
  refine s_for (fun pre s => I pre.length s) h0 (fun pre x post s e h => ?_) fun s h => hP s (by rw [enumL_len] at h; exact h)
  have hl : pre.length < xs.length := by
    have := congrArg List.length e
    rw [enumL_len, List.length_append, List.length_cons] at this
    omega
  have q : (enumL xs)[pre.length]? = some ((pre.length : Int), xs[pre.length]) := by
    unfold enumL
    rw [List.getElem?_map, List.getElem?_zipIdx, List.getElem?_eq_getElem hl]
    simp
  rw [e, List.getElem?_append_right (Nat.le_refl _), Nat.sub_self] at q
  have hx : x = ((pre.length : Int), xs[pre.length]) := Option.some.inj q
  rw [hx, List.length_append]
  exact hs pre.length _ s (List.getElem?_eq_getElem hl) h
theorem fac_eq : ∀ n : Nat, ((Builtin.Math.factorialNat n : Nat) : Int) = fc n
  | 0 => rfl
  | n + 1 => by
    have ih := fac_eq n
    have e : Builtin.Math.factorialNat (n + 1) = Builtin.Math.factorialNat n * (n + 1) := by
      unfold Builtin.Math.factorialNat
      rw [List.range_succ, List.foldl_append]
      rfl
    show _ = fc n * ((n : Int) + 1)
    rw [e, ← ih]
    push_cast
    rfl
theorem hd_fac {n : Nat} (h : n ≤ 20000) : Hd (facM (n : Int)) (fc n) := ⟨⟨by omega, by omega⟩, by
  show ((Builtin.Math.factorialNat ((n : Int)).toNat : Nat) : Int) = _
  rw [Int.toNat_natCast]
  exact fac_eq n⟩
theorem fc_small : ∀ k : Nat, k ≤ 20 → (fc k).natAbs < 2 ^ 62 := by decide +kernel
theorem law_factorial_ok {n : Nat} (h : n ≤ 100) : Hd (c_law_factorial (n : Int)) (fc n) := by
  cases n with
  | zero => exact hd_bd [] ⟨⟨by decide, by decide, by decide, by decide⟩, by decide⟩ (hd_bd 1 ⟨by first | trivial | decide, rfl⟩ hd_p)
  | succ m =>
    refine Sat.hd (sb (hd_rg2 (n := m) (by omega) (by decide) (by decide) (by omega)) (st (R := fun s : Int => s = fc (m + 1)) (s_for (fun pre s => s = fc (pre.length + 1)) rfl (fun pre x post s e hs => ?_) fun s hs => ?_) fun s hs => sat_p hs))
    · have hl : pre.length < m := by
        have := congrArg List.length e
        unfold rgF at this
        rw [List.length_map, List.length_range, List.length_append, List.length_cons] at this
        omega
      have hx : x = 2 + (pre.length : Int) := by
        have q : (rgF 2 m)[pre.length]? = some (2 + (pre.length : Int)) := by
          unfold rgF
          rw [List.getElem?_map, List.getElem?_range hl]
          rfl
        rw [e, List.getElem?_append_right (Nat.le_refl _), Nat.sub_self] at q
        exact Option.some.inj q
      subst hs
      refine sb (hd_mul (small_mul ⟨by omega, by omega⟩)) (sat_p ?_)
      rw [List.length_append, hx]
      show _ = fc (pre.length + 1) * (((pre.length + 1 : Nat) : Int) + 1)
      rw [show 2 + (pre.length : Int) = ((pre.length + 1 : Nat) : Int) + 1 by omega]
    · rw [hs]
      unfold rgF
      rw [List.length_map, List.length_range]
theorem item_ok {g : List Int} {f : Int} : Hd (c_item_or_0 g f) (it0 g f) := by
  unfold it0
  by_cases h0 : 0 ≤ f
  · by_cases h1 : f < g.length
    · obtain ⟨k, rfl⟩ : ∃ k : Nat, f = k := ⟨f.toNat, by omega⟩
      have hk : g[k]? = some g[k] := List.getElem?_eq_getElem (by omega)
      rw [if_pos h0, Int.toNat_natCast, List.getD_eq_getElem?_getD, hk]
      exact hd_bd _ (hd_t (by rw [decide_eq_true h0, decide_eq_true h1]; rfl) (hd_bd _ (hd_getN hk) hd_p)) hd_p
    · rw [if_pos h0, List.getD_eq_getElem?_getD, List.getElem?_eq_none (by omega)]
      exact hd_bd 0 (hd_f (by rw [decide_eq_false h1, Bool.and_false]) hd_p) hd_p
  · rw [if_neg h0]
    exact hd_bd 0 (hd_f (by rw [decide_eq_false h0, Bool.false_and]) hd_p) hd_p
theorem item_ok' {g : List Int} {f : Int} : Hd (cnd (decide (0 ≤ f) && decide (f < (g.length : Int))) (bd (getM g f) fun t26 => pr t26) (pr 0)) (it0 g f) := by
  have h := item_ok (g := g) (f := f)
  obtain ⟨h1, h2⟩ := h
  exact ⟨h1.1, h2⟩
theorem getD_pad (g : List Int) (r i : Nat) : (g ++ List.replicate r 0).getD i 0 = g.getD i 0 := by
  rw [List.getD_eq_getElem?_getD, List.getD_eq_getElem?_getD]
  by_cases h : i < g.length
  · rw [List.getElem?_append_left h]
  · rw [List.getElem?_append_right (by omega), List.getElem?_eq_none (l := g) (by omega), List.getElem?_replicate]
    split <;> rfl
theorem mulY_get (g : List Int) (i : Nat) (h : i ≤ g.length) : (mulY g)[i]? = some ((if i = 0 then 0 else g.getD (i - 1) 0) - g.getD i 0) := by
  have hl : i < (mulY g).length := by rw [Ar.mulY_len]; omega
  rw [List.getElem?_eq_getElem hl]
  refine congrArg some ?_
  have e1 : (mulY g)[i] = (([0] ++ g)[i]'(by simp; omega)) - ((g ++ [0])[i]'(by simp; omega)) := by
    simp only [mulY, List.getElem_map, List.getElem_zip]
  rw [e1]
  have e2 : (g ++ [0])[i]'(by simp; omega) = g.getD i 0 := by
    rw [List.getD_eq_getElem?_getD]
    by_cases q : i < g.length
    · rw [List.getElem_append_left q, List.getElem?_eq_getElem q]
      rfl
    · rw [List.getElem_append_right (by omega), List.getElem?_eq_none (by omega)]
      simp
  have e3 : ([0] ++ g)[i]'(by simp; omega) = if i = 0 then 0 else g.getD (i - 1) 0 := by
    cases i with
    | zero => rfl
    | succ i =>
      rw [if_neg (by omega), List.getD_eq_getElem?_getD, Nat.add_sub_cancel, List.getElem?_eq_getElem (by omega)]
      rfl
  rw [e2, e3]
/-- the numbers of full lists by their hits -/
def hl (ns : List Int) : List Int := hlF (along (srt ns))
theorem hl_len (ns : List Int) : (hl ns).length = ns.length + 1 := by
  unfold hl
  rw [Ar.hlF_len, Ar.along_length, srt_len]
/-- levels of full lists -/
def Low (ns : List Int) : Prop := ns.length ≤ 20 ∧ ∀ x ∈ ns, 0 ≤ x ∧ x ≤ ns.length
theorem Low.size {ns : List Int} (L : Low ns) : ∀ c ∈ along (srt ns), c.natAbs ≤ 101 ^ 20 := fun c hc => by
  have := Ar.along_bd (q := 100) (ns := srt ns) (fun b hb j hj => by
    have h1 := L.2 b (srt_mem.mp hb)
    have := L.1
    rw [srt_len] at hj
    omega) c hc
  rw [srt_len] at this
  have h3 : (100 + 1) ^ ns.length ≤ 101 ^ 20 := Nat.pow_le_pow_right (by decide) L.1
  omega
theorem hits_along_ok {ns : List Int} (L : Low ns) : Hd (c_hits_along ns) (hl ns) := by
  have few := L.1
  obtain ⟨cs, hcs⟩ : ∃ cs, cs = along (srt ns) := ⟨_, rfl⟩
  have cl : cs.length = ns.length + 1 := by rw [hcs, Ar.along_length, srt_len]
  have cb : ∀ c ∈ cs, c.natAbs < 2 ^ 200 := fun c hc => by
    have := L.size c (hcs ▸ hc)
    have h2 : 101 ^ 20 < 2 ^ 200 := by decide +kernel
    omega
  have e0 : ((ns.length : Int) + 1) = ((ns.length + 1 : Nat) : Int) := by omega
  refine Sat.hd ?_
  show Sat (bd (repM [0] ((ns.length : Int) + 1)) _) _
  rw [e0]
  refine sb (hd_rep1 (by omega)) (sb ((counts_along_ok (srt ns) (by rw [srt_len]; omega) fun b hb => by have := L.2 b (srt_mem.mp hb); omega).to hcs.symm) (sb (hd_dn (by omega) (by omega) (by decide) (by decide)) ?_))
  refine st (R := fun s : List Int => s = hl ns) (s_for (fun pre (s : List Int) => s = hlF (cs.drop (ns.length + 1 - pre.length)) ++ List.replicate (ns.length + 1 - pre.length) 0) ?_ (fun pre x post s e hs => ?_) fun s hs => ?_) fun s hs => sat_p hs
  · show _ = hlF (cs.drop (ns.length + 1 - 0)) ++ _
    rw [List.drop_of_length_le (by omega)]
    rfl
  · obtain ⟨hx, hpl⟩ := dnI_split e
    obtain ⟨k, hk⟩ : ∃ k, k = ns.length - pre.length := ⟨_, rfl⟩
    have hkn : k ≤ ns.length := by omega
    have hxk : x = (k : Int) := by omega
    have hkp : ns.length + 1 - pre.length = k + 1 := by omega
    rw [hkp] at hs
    obtain ⟨g, hg⟩ : ∃ g, g = hlF (cs.drop (k + 1)) := ⟨_, rfl⟩
    rw [← hg] at hs
    have gl : g.length = ns.length - k := by rw [hg, Ar.hlF_len, List.length_drop]; omega
    have sl : s.length = ns.length + 1 := by rw [hs, List.length_append, List.length_replicate]; omega
    have hck : cs[k]? = some cs[k] := List.getElem?_eq_getElem (by omega)
    have hw : ((rgN (ns.length + 1)).map fun h : Int => it0 s (h - 1) - s.getD h.toNat 0) = mulY g ++ List.replicate k 0 := by
      refine List.ext_getElem? fun i => ?_
      by_cases hi : i < ns.length + 1
      · rw [List.getElem?_map, rgN_get hi]
        show some (it0 s ((i : Int) - 1) - s.getD ((i : Int)).toNat 0) = _
        have e1 : it0 s ((i : Int) - 1) = if i = 0 then 0 else g.getD (i - 1) 0 := by
          unfold it0
          by_cases z : i = 0
          · rw [if_neg (by omega), if_pos z]
          · rw [if_pos (by omega), if_neg z, hs, getD_pad, show ((i : Int) - 1).toNat = i - 1 by omega]
        rw [e1, Int.toNat_natCast, hs, getD_pad]
        by_cases hig : i ≤ g.length
        · rw [List.getElem?_append_left (by rw [Ar.mulY_len]; omega), mulY_get g i hig]
        · have z1 : g.getD (i - 1) 0 = 0 := by rw [List.getD_eq_getElem?_getD, List.getElem?_eq_none (l := g) (by omega)]; rfl
          have z2 : g.getD i 0 = 0 := by rw [List.getD_eq_getElem?_getD, List.getElem?_eq_none (l := g) (by omega)]; rfl
          rw [List.getElem?_append_right (by rw [Ar.mulY_len]; omega), Ar.mulY_len, List.getElem?_replicate, if_neg (show ¬ i = 0 by omega), if_pos (show i - (g.length + 1) < k by omega), z1, z2]
          rfl
      · rw [List.getElem?_eq_none (by rw [List.length_map, rgN_length]; omega), List.getElem?_eq_none (by rw [List.length_append, Ar.mulY_len, List.length_replicate]; omega)]
    obtain ⟨a, as, ha⟩ : ∃ a as, mulY g = a :: as := by
      cases q : mulY g with
      | nil => have := Ar.mulY_len g; rw [q] at this; simp at this
      | cons a as => exact ⟨a, as, rfl⟩
    rw [sl]
    refine sb (hd_rg (n := ns.length + 1) rfl (by omega)) (sb (hd_short (by rw [rgN_length]; omega)) (sb ((hd_mapM (fun h : Int => it0 s (h - 1) - s.getD h.toNat 0) fun h hh => ?_).to hw) ?_))
    · have hm := mem_rgN.mp hh
      obtain ⟨j, rfl⟩ : ∃ j : Nat, h = (j : Int) := ⟨h.toNat, by omega⟩
      have hj : s[j]? = some s[j] := List.getElem?_eq_getElem (by omega)
      rw [Int.toNat_natCast, List.getD_eq_getElem?_getD, hj]
      exact hd_bd _ item_ok (hd_bd _ (hd_getN hj) hd_p)
    · rw [ha, hxk]
      have e2 : (ns.length : Int) - (k : Int) = ((ns.length - k : Nat) : Int) := by omega
      refine sb (hd_getN (i := 0) rfl) (sb (hd_getN hck) ?_)
      rw [e2]
      refine sb (hd_fac (by omega)) (sb (hd_mul (small_mul ?_)) (sb (hd_setN (i := 0) (by simp)) (sat_p ?_)))
      · have := fc_small (ns.length - k) (by omega)
        omega
      · rw [List.length_append, List.length_singleton, show ns.length + 1 - (pre.length + 1) = k by omega, List.drop_eq_getElem_cons (show k < cs.length by omega)]
        show (a + cs[k] * fc (ns.length - k)) :: (as ++ List.replicate k 0) = addHd (cs[k] * fc (cs.drop (k + 1)).length) (mulY (hlF (cs.drop (k + 1)))) ++ List.replicate k 0
        rw [← hg, ha, List.length_drop, show cs.length - (k + 1) = ns.length - k by omega]
        rfl
  · rw [hs, dnI_len, show ((ns.length : Int) - -1).toNat = ns.length + 1 by omega, Nat.sub_self, List.drop_zero, hcs]
    simp [hl]
/-! by the law -/
theorem difs (g : Int → Int) (n : Nat) (r : List Int) (h : (rgN (n + 1)).map g = g 0 :: r) : (List.zip ((rgN (n + 1)).map g) r).map (fun q : Int × Int => q.2 - q.1) = (rgN n).map fun x => g (x + 1) - g x := by
  have e : r = (rgN n).map fun x => g (x + 1) := by
    have h2 : (rgN (n + 1)).map g = g 0 :: (rgN n).map fun x => g (x + 1) := by
      unfold rgN
      rw [List.range_succ_eq_map]
      simp [Function.comp_def]
    rw [h2] at h
    exact (List.cons.inj h).2.symm
  subst e
  refine List.ext_getElem (by simp [rgN_length]) fun i h1 h2 => ?_
  simp [rgN]
theorem ff_fc : ∀ k : Nat, ff (k : Int) k = fc k
  | 0 => rfl
  | k + 1 => by
    rw [Ar.fac_succ, ff_fc k]
    rfl
theorem cut_1 {α : Type} (c : α) (q : List α) : cutI (c :: q) (some 1) none = q := by
  have e : (1 : Int) = ((1 : Nat) : Int) := rfl
  unfold cutI
  rw [e, HT.sIx_none, HT.sIx_nat]
  have : min 1 (c :: q).length = 1 := by simp
  rw [this]
  simp
theorem law_counted_ok {ns : List Int} (L : Low ns) : Hd (c_law_counted ns) (along (srt ns)) := by
  have few := L.1
  obtain ⟨cs, hcs⟩ : ∃ cs, cs = along (srt ns) := ⟨_, rfl⟩
  have cl : cs.length = ns.length + 1 := by rw [hcs, Ar.along_length, srt_len]
  rw [← hcs]
  have e0 : ((ns.length : Int) + 1) = ((ns.length + 1 : Nat) : Int) := by omega
  refine Sat.hd (sp (sp ?_))
  show Sat (bd (rgM 0 ((ns.length : Int) + 1)) _) _
  rw [e0]
  refine sb (hd_rg (n := ns.length + 1) rfl (by omega)) (st (R := fun s : List Int => s = (rgN (ns.length + 1)).map fun x => ev x cs) (s_forR (fun k (s : List Int) => s = (rgN k).map fun x => ev x cs) rfl (fun k s hk hs => ?_) fun s h => h) fun s hs => ?_)
  · refine st (R := fun v : Int => v = ev k cs) (s_forE (xs := srt ns) (fun i (v : Int) => v = Ar.prodS k 0 ((srt ns).take i)) rfl (fun i v s2 hv h2 => ?_) fun v h => ?_) fun v hv => ?_
    · have hi : i < (srt ns).length := (List.getElem?_eq_some_iff.mp hv).1
      have hb := L.2 v (srt_mem.mp (List.mem_of_getElem? hv))
      rw [srt_len] at hi
      refine sb (hd_mul (small_mul ⟨?_, ?_⟩)) (sat_p ?_)
      · show _ < (k : Int) + v - i
        omega
      · show (k : Int) + v - i < _
        omega
      · rw [h2, List.take_succ, hv, Ar.prodS_app, List.length_take, srt_len, show min i ns.length = i by omega]
        show Ar.prodS k 0 ((srt ns).take i) * ((k : Int) + v - i) = Ar.prodS k 0 ((srt ns).take i) * (((k : Int) + v - ((0 + i : Nat) : Int)) * 1)
        rw [Int.mul_one, Nat.zero_add]
    · rw [h, List.take_of_length_le (Nat.le_refl _), hcs, Ar.ev_along]
    · subst hv
      subst hs
      refine sb (hd_app (by rw [List.length_map, rgN_length]; omega)) (sat_p ?_)
      rw [rgN_succ, List.map_append]
      rfl
  · subst hs
    refine sb (hd_while (fuel := 100) (fun i => ((rgN (ns.length + 1 - i)).map (fun x => ev x (drvN i cs)), cs.reverse.take i, fc i)) (ns.length + 1) (by omega) (fun i hi => ?_) (fun i hi => ?_) ?_) (sat_p ?_)
    · refine hd_pe ?_
      obtain ⟨m, hm⟩ : ∃ m, ns.length + 1 - i = m + 1 := ⟨ns.length - i, by omega⟩
      rw [hm]
      unfold rgN
      rw [List.range_succ_eq_map]
      rfl
    · obtain ⟨m, hm⟩ : ∃ m, ns.length + 1 - i = m + 1 := ⟨ns.length - i, by omega⟩
      simp only [hm]
      obtain ⟨r, hr⟩ : ∃ r, ((rgN (m + 1)).map fun x => ev x (drvN i cs)) = ev 0 (drvN i cs) :: r := by
        unfold rgN
        rw [List.range_succ_eq_map]
        exact ⟨_, rfl⟩
      obtain ⟨c, hc, hev⟩ := Ar.ev_drvN (cs := cs) (k := i) (by omega)
      rw [ff_fc] at hev
      have f0 := Ar.fc_pos i
      have fs := fc_small i (by omega)
      have dif := difs (fun x => ev x (drvN i cs)) m r hr
      have hdr : ev 0 (drvN i cs) / fc i = c := by rw [hev, Int.mul_ediv_cancel _ (by omega)]
      have cut : cutI ((rgN (m + 1)).map fun x => ev x (drvN i cs)) (some 1) none = r := by rw [hr]; exact cut_1 _ _
      have hget : Hd (getM ((rgN (m + 1)).map fun x => ev x (drvN i cs)) 0) (ev 0 (drvN i cs)) := hd_getN (i := 0) (by rw [hr]; rfl)
      have happ : cs.reverse.take i ++ [c] = cs.reverse.take (i + 1) := by
        have hk2 : i < cs.reverse.length := by rw [List.length_reverse]; omega
        rw [List.take_succ, List.getElem?_reverse (by omega), hc]
        rfl
      have htl : (cs.reverse.take (i + 1)).length = i + 1 := by rw [List.length_take, List.length_reverse]; omega
      refine hd_bd _ hget (hd_bd c ((hd_fdiv f0 (lt_8000 (by omega))).to hdr) (hd_bd (cs.reverse.take (i + 1)) ((hd_app (by rw [List.length_take, List.length_reverse]; omega)).to happ) ?_))
      rw [htl]
      refine hd_bd (fc (i + 1)) (hd_mul (small_mul ⟨by omega, by omega⟩)) ?_
      rw [cut]
      refine hd_bd () (hd_short (by rw [List.length_zip, List.length_map, rgN_length]; omega)) (hd_bd _ hd_map (hd_pe ?_))
      rw [dif, show ns.length + 1 - (i + 1) = m by omega]
      refine Prod.ext ?_ rfl
      refine List.map_congr_left fun x _ => ?_
      exact Ar.ev_drv x (drvN i cs)
    · refine hd_pe ?_
      rw [Nat.sub_self]
      rfl
    · show (cs.reverse.take (ns.length + 1)).reverse = cs
      rw [List.take_of_length_le (by rw [List.length_reverse]; omega), List.reverse_reverse]
/-- one list, times o, on top of another -/
def addP (o : Int) : List Int → List Int → List Int
  | [], t => t
  | _ :: _, [] => []
  | f :: fs, t :: ts => (t + o * f) :: addP o fs ts
theorem addP_len (o : Int) : ∀ (f t : List Int), f.length ≤ t.length → (addP o f t).length = t.length
  | [], t, _ => rfl
  | f :: fs, [], h => by simp at h
  | f :: fs, t :: ts, h => congrArg (· + 1) (addP_len o fs ts (by simpa using h))
theorem addP_av (o x : Int) : ∀ (f t : List Int), f.length ≤ t.length → avF x (addP o f t) = avF x t + o * avF x f
  | [], t, _ => by show avF x t = avF x t + o * 0; omega
  | f :: fs, [], h => by simp at h
  | f :: fs, t :: ts, h => by
    show (t + o * f) + x * avF x (addP o fs ts) = (t + x * avF x ts) + o * (f + x * avF x fs)
    rw [addP_av o x fs ts (by simpa using h)]
    grind
theorem addP_at (o : Int) : ∀ (f t : List Int) (m : Nat), f.length = m → (addP o f t)[m]? = t[m]?
  | [], t, m, h => rfl
  | f :: fs, [], m, h => by simp [addP]
  | f :: fs, t :: ts, 0, h => by simp at h
  | f :: fs, t :: ts, m + 1, h => by
    show ((t + o * f) :: addP o fs ts)[m + 1]? = (t :: ts)[m + 1]?
    rw [List.getElem?_cons_succ, List.getElem?_cons_succ]
    exact addP_at o fs ts m (by simpa using h)
theorem addP_snoc (o c : Int) : ∀ (f t : List Int) (m : Nat) (v : Int), f.length = m → t[m]? = some v → addP o (f ++ [c]) t = (addP o f t).set m (v + o * c)
  | [], t, m, v, h, e => by
    have : m = 0 := h.symm
    subst this
    cases t with
    | nil => simp at e
    | cons a t => simp at e; subst e; rfl
  | f :: fs, [], m, v, h, e => by simp at e
  | f :: fs, t :: ts, 0, v, h, e => by simp at h
  | f :: fs, t :: ts, m + 1, v, h, e => by
    show (t + o * f) :: addP o (fs ++ [c]) ts = ((t + o * f) :: addP o fs ts).set (m + 1) (v + o * c)
    rw [List.set_cons_succ, addP_snoc o c fs ts m v (by simpa using h) (by simpa using e)]
theorem mulY_bd {g : List Int} {i : Nat} (h : ∀ c ∈ g, c.natAbs ≤ 2 ^ i) : ∀ c ∈ mulY g, c.natAbs ≤ 2 ^ (i + 1) := fun c hc => by
  obtain ⟨q, hq, rfl⟩ := List.mem_map.mp hc
  have hm := List.of_mem_zip hq
  have b1 : q.1.natAbs ≤ 2 ^ i := by
    rcases List.mem_append.mp hm.1 with h2 | h2
    · rw [List.mem_singleton.mp h2]; simp
    · exact h _ h2
  have b2 : q.2.natAbs ≤ 2 ^ i := by
    rcases List.mem_append.mp hm.2 with h2 | h2
    · exact h _ h2
    · rw [List.mem_singleton.mp h2]; simp
  show (q.1 - q.2).natAbs ≤ _
  rw [Nat.pow_succ]
  omega
theorem law_hits_ok {ns : List Int} (L : Low ns) : Hd (c_law_hits ns) (hl ns) := by
  have few := L.1
  obtain ⟨cs, hcs⟩ : ∃ cs, cs = along (srt ns) := ⟨_, rfl⟩
  have cl : cs.length = ns.length + 1 := by rw [hcs, Ar.along_length, srt_len]
  have e0 : ((ns.length : Int) + 1) = ((ns.length + 1 : Nat) : Int) := by omega
  refine Sat.hd (sp ?_)
  show Sat (bd (repM [0] ((ns.length : Int) + 1)) _) _
  rw [e0]
  refine sb (hd_rep1 (by omega)) (sb ((law_counted_ok L).to hcs.symm) ?_)
  refine st (R := fun s : List Int × List Int => s.1 = hl ns) (s_forE (xs := cs) (fun i (s : List Int × List Int) => s.1.length = ns.length + 1 ∧ (∀ y, avF y s.1 + (y - 1) ^ i * hval y (cs.drop i) = hval y cs) ∧ s.2.length = i + 1 ∧ (∀ y, avF y s.2 = (y - 1) ^ i) ∧ ∀ c ∈ s.2, c.natAbs ≤ 2 ^ i) ⟨List.length_replicate, fun y => ?_, rfl, fun y => ?_, ?_⟩ (fun i c s hc ⟨g1, g2, g3, g4, g5⟩ => ?_) fun s ⟨g1, g2, _⟩ => ?_) fun s h => sat_p h
  · show avF y (List.replicate (ns.length + 1) 0) + (y - 1) ^ 0 * hval y cs = hval y cs
    rw [Ar.avF_zeros, Int.pow_zero, Int.one_mul, Int.zero_add]
  · show (1 : Int) + y * 0 = (y - 1) ^ 0
    rw [Int.pow_zero]
    omega
  · intro c hc
    rw [List.mem_singleton.mp hc]
    decide
  · obtain ⟨found, power⟩ := s
    simp only at g1 g2 g3 g4 g5 ⊢
    have hi : i < cs.length := (List.getElem?_eq_some_iff.mp hc).1
    have hci : cs[i] = c := (List.getElem?_eq_some_iff.mp hc).2
    have e2 : (ns.length : Int) - (i : Int) = ((ns.length - i : Nat) : Int) := by omega
    rw [e2]
    have fsm := fc_small (ns.length - i) (by omega)
    have pb : ∀ d ∈ power, d.natAbs < 2 ^ 60 := fun d hd => by
      have q1 := g5 d hd
      have q2 : 2 ^ i ≤ 2 ^ 21 := Nat.pow_le_pow_right (by decide) (by omega)
      omega
    refine sb (law_factorial_ok (by omega)) (sb (hd_mul (small_mul ⟨by omega, by omega⟩)) ?_)
    obtain ⟨o, ho⟩ : ∃ o, o = c * fc (ns.length - i) := ⟨_, rfl⟩
    rw [← ho]
    refine st (R := fun s : List Int => s = addP o power found) (s_forE (xs := power) (fun m (s : List Int) => s = addP o (power.take m) found) rfl (fun m f s hf hs => ?_) fun s h => by rw [h, List.take_of_length_le (Nat.le_refl _)]) fun s hs => ?_
    · subst hs
      have hm : m < power.length := (List.getElem?_eq_some_iff.mp hf).1
      have hmt : m < found.length := by omega
      have htl : (power.take m).length = m := by rw [List.length_take]; omega
      have e1 : (addP o (power.take m) found)[m]? = some found[m] := by rw [addP_at o _ _ m htl, List.getElem?_eq_getElem hmt]
      have hl2 : (addP o (power.take m) found).length = found.length := addP_len o _ _ (by omega)
      have fb := pb f (List.mem_of_getElem? hf)
      refine sb (hd_getN e1) (sb (hd_mul (small_mul ⟨?_, ?_⟩)) (sb (hd_setN (by omega)) (sat_p ?_)))
      · show _ < f
        omega
      · show f < _
        omega
      rw [List.take_succ, hf]
      exact (addP_snoc o f _ _ m _ htl (List.getElem?_eq_getElem hmt)).symm
    · subst hs
      refine sb (hd_cat (by simp; omega)) (sb (hd_cat (by simp; omega)) (sb (hd_short (by rw [List.length_zip]; simp; omega)) (sb hd_map (sat_p ⟨?_, fun y => ?_, ?_, fun y => ?_, ?_⟩))))
      · show (addP o power found).length = _
        rw [addP_len o _ _ (by omega)]
        exact g1
      · show avF y (addP o power found) + _ = _
        rw [addP_av o y _ _ (by omega), g4, ← g2 y, List.drop_eq_getElem_cons hi, hci]
        show _ = avF y found + (y - 1) ^ i * (c * fc (cs.drop (i + 1)).length + (y - 1) * hval y (cs.drop (i + 1)))
        rw [List.length_drop, show cs.length - (i + 1) = ns.length - i by omega, Int.pow_succ, ho]
        grind
      · exact (Ar.mulY_len power).trans (by rw [g3])
      · show avF y (mulY power) = _
        rw [Ar.avF_mulY, g4, Int.pow_succ, Int.mul_comm]
      · exact mulY_bd g5
  · refine Ar.avF_eq (by rw [g1, hl_len]) fun y => ?_
    have := g2 y
    rw [List.drop_of_length_le (Nat.le_refl _)] at this
    have z : hval y [] = 0 := rfl
    rw [z, Int.mul_zero, Int.add_zero] at this
    rw [this, hcs]
    unfold hl
    rw [Ar.avF_hlF]
end Tk29

set_option Elab.async false
set_option linter.all false
set_option maxRecDepth 100000
set_option exponentiation.threshold 9000
/-! LOW2: lowest terms, by a loop while the second one is above 0 -/
namespace Tk29
open PySem L2 Vm
theorem euclid : ∀ (k x y fuel : Nat), y < 2 ^ k → 2 * k + 1 < fuel → Hd (whileM (fun (s1 : Int × Int) => pr (decide (0 < s1.2))) (fun (s1 : Int × Int) => bd (modM s1.1 s1.2) fun t4 => pr (s1.2, t4)) fuel ((x : Int), (y : Int))) (((Nat.gcd x y : Nat) : Int), 0)
  | k, x, 0, fuel + 1, _, _ => hd_bd false hd_p (hd_f rfl (hd_pe (by rw [Nat.gcd_zero_right]; rfl)))
  | 0, x, y + 1, fuel, h, _ => by omega
  | k + 1, x, y + 1, fuel + 1, h, hf => by
    have step : ∀ a b : Nat, Hd (bd (modM ((a : Int), ((b + 1 : Nat) : Int)).1 ((a : Int), ((b + 1 : Nat) : Int)).2) fun t4 => pr (((a : Int), ((b + 1 : Nat) : Int)).2, t4)) (((b + 1 : Nat) : Int), ((a % (b + 1) : Nat) : Int)) := fun a b =>
      hd_bd ((a % (b + 1) : Nat) : Int) ⟨by show (0 : Int) < ((b + 1 : Nat) : Int); omega, by show (a : Int) % ((b + 1 : Nat) : Int) = _; rw [Int.natCast_emod]⟩ hd_p
    have go : ∀ b : Nat, decide ((0 : Int) < ((b + 1 : Nat) : Int)) = true := fun b => decide_eq_true (by omega)
    refine hd_bd true (hd_pe (go y)) (hd_t rfl (hd_bd _ (step x y) ?_))
    have eg : Nat.gcd x (y + 1) = Nat.gcd (y + 1) (x % (y + 1)) := by
      rw [Nat.gcd_comm x, Nat.gcd_rec (y + 1) x, Nat.gcd_comm]
    rw [eg]
    have hr : x % (y + 1) < y + 1 := Nat.mod_lt _ (by omega)
    generalize x % (y + 1) = r at hr ⊢
    obtain ⟨f2, rfl⟩ : ∃ f2, fuel = f2 + 1 := ⟨fuel - 1, by omega⟩
    cases r with
    | zero => exact hd_bd false hd_p (hd_f rfl (hd_pe (by rw [Nat.gcd_zero_right]; rfl)))
    | succ r =>
      refine hd_bd true (hd_pe (go r)) (hd_t rfl (hd_bd _ (step (y + 1) r) ?_))
      have e2 : Nat.gcd (y + 1) (r + 1) = Nat.gcd (r + 1) ((y + 1) % (r + 1)) := by
        rw [Nat.gcd_comm (y + 1), Nat.gcd_rec (r + 1) (y + 1), Nat.gcd_comm]
      rw [e2]
      refine euclid k (r + 1) ((y + 1) % (r + 1)) f2 ?_ (by omega)
      have h1 : (y + 1) % (r + 1) < r + 1 := Nat.mod_lt _ (by omega)
      have h2 := Nat.div_add_mod (y + 1) (r + 1)
      have h3 : 1 ≤ (y + 1) / (r + 1) := Nat.div_pos (by omega) (by omega)
      have h4 : (r + 1) * 1 ≤ (r + 1) * ((y + 1) / (r + 1)) := Nat.mul_le_mul_left _ h3
      have h5 : 2 ^ (k + 1) = 2 * 2 ^ k := by rw [Nat.pow_succ]; omega
      omega
theorem lowest_ok {a b : Int} (ha : 0 ≤ a) (hb : 0 < b) (h2 : b.natAbs < 2 ^ 1000) : Hd (c_law_lowest a b) (frac a b) := by
  obtain ⟨x, rfl⟩ : ∃ x : Nat, a = x := ⟨a.toNat, by omega⟩
  obtain ⟨y, rfl⟩ : ∃ y : Nat, b = y := ⟨b.toNat, by omega⟩
  have g1 : Nat.gcd x y ≤ y := Nat.gcd_le_right _ (by omega)
  have g0 : 0 < Nat.gcd x y := Nat.gcd_pos_of_pos_right _ (by omega)
  have p0 : 0 < ((Nat.gcd x y : Nat) : Int) := by omega
  have p1 : ((Nat.gcd x y : Nat) : Int) < 2 ^ 8000 := by
    have : (2 : Nat) ^ 1000 < 2 ^ 8000 := Nat.pow_lt_pow_right (by decide) (by decide)
    have q : Nat.gcd x y < 2 ^ 8000 := by
      have : y < 2 ^ 1000 := h2
      omega
    have q2 : ((Nat.gcd x y : Nat) : Int) < ((2 ^ 8000 : Nat) : Int) := Int.ofNat_lt.mpr q
    rw [Int.natCast_pow] at q2
    exact q2
  exact hd_bd _ (euclid 1000 x y 3000 h2 (by decide)) (hd_bd _ (hd_fdiv p0 p1) (hd_bd _ (hd_fdiv p0 p1) hd_p))
theorem frac_mul {a b k : Int} (hk : 0 < k) : frac (a * k) (b * k) = frac a b := by
  have e : gcdI (a * k) (b * k) = gcdI a b * k := by
    unfold gcdI
    rw [Int.natAbs_mul, Int.natAbs_mul, Nat.gcd_mul_right]
    have : (k.natAbs : Int) = k := by omega
    rw [Int.natCast_mul, this]
  unfold frac
  rw [e, Int.mul_ediv_mul_of_pos_left _ _ hk, Int.mul_ediv_mul_of_pos_left _ _ hk]
theorem frac_bd {a b : Int} (ha : 0 ≤ a) (hb : 0 ≤ b) : 0 ≤ (frac a b).1 ∧ (frac a b).1 ≤ a ∧ 0 ≤ (frac a b).2 ∧ (frac a b).2 ≤ b := by
  have g : 0 ≤ gcdI a b := Int.natCast_nonneg _
  exact ⟨Int.ediv_nonneg ha g, Int.ediv_le_self _ ha, Int.ediv_nonneg hb g, Int.ediv_le_self _ hb⟩
end Tk29

set_option Elab.async false
set_option linter.all false
set_option maxRecDepth 100000
set_option exponentiation.threshold 9000
/-! HR: the numbers of full lists, by one worker's jobs; what they come to -/
namespace Tk29
open PySem L2 Vm
open Ar (along nx cf ab hv ev ff avF drv drvN prodS fc hval hlF mulY addHd it0 sm dj wS)
theorem dj_mono (j : Int) {a b : Int} (h : a ≤ b) : dj j a ≤ dj j b := by
  unfold dj
  split <;> split <;> omega
theorem srt_dj (rest : List Int) (j : Int) : srt (rest.map (dj j)) = (srt rest).map (dj j) := (srt_unique ((srt_perm rest).map _) (List.pairwise_map.mpr ((srt_pw rest).imp fun h => dj_mono j h))).symm
theorem low_dj {rest : List Int} {n : Nat} (hn : n = rest.length + 1) (h20 : n ≤ 20) (h : ∀ x ∈ rest, 0 ≤ x ∧ x ≤ n) {j : Int} (h0 : 0 ≤ j) (h1 : j < n) : Low (rest.map (dj j)) := by
  refine ⟨by rw [List.length_map]; omega, fun x hx => ?_⟩
  obtain ⟨b, hb, rfl⟩ := List.mem_map.mp hx
  have := h b hb
  rw [List.length_map]
  unfold dj
  split <;> omega
theorem hits_split {ns rest : List Int} {l : Int} (p : (l :: rest).Perm ns) (L : Low ns) {f : Nat} (hf : f ≤ ns.length) : (hl ns)[f]? = some (sm (fun j => it0 (hl (rest.map (dj j))) ((f : Int) - (if j < l then 1 else 0))) 0 ns.length) := by
  obtain ⟨b1, hb1⟩ : ∃ b, b = (srt rest).filter fun x => decide (x ≤ l) := ⟨_, rfl⟩
  obtain ⟨b2, hb2⟩ : ∃ b, b = (srt rest).filter fun x => !decide (x ≤ l) := ⟨_, rfl⟩
  have m1 : ∀ b ∈ b1, b ≤ l := fun b hb => by rw [hb1] at hb; exact of_decide_eq_true (List.mem_filter.mp hb).2
  have m2 : ∀ b ∈ b2, l < b := fun b hb => by
    rw [hb2] at hb
    have := (List.mem_filter.mp hb).2
    simp only [Bool.not_eq_true', decide_eq_false_iff_not] at this
    omega
  have p1 : b1.Pairwise (· ≤ ·) := by rw [hb1]; exact (srt_pw rest).sublist List.filter_sublist
  have p2 : b2.Pairwise (· ≤ ·) := by rw [hb2]; exact (srt_pw rest).sublist List.filter_sublist
  have pp : (b1 ++ b2).Perm (srt rest) := by rw [hb1, hb2]; exact List.filter_append_perm _ _
  have e1 : srt rest = b1 ++ b2 := (srt_unique (pp.trans (srt_perm rest)) (List.pairwise_append.mpr ⟨p1, p2, fun a ha b hb => by have := m1 a ha; have := m2 b hb; omega⟩)).symm
  have e2 : b1 ++ l :: b2 = srt ns := srt_unique (List.perm_middle.trans (((pp.trans (srt_perm rest)).cons l).trans p)) (List.pairwise_append.mpr ⟨p1, List.pairwise_cons.mpr ⟨fun b hb => by have := m2 b hb; omega, p2⟩, fun a ha b hb => by
    have := m1 a ha
    rcases List.mem_cons.mp hb with q | q
    · omega
    · have := m2 b q
      omega⟩)
  have hl1 := L.2 l (p.mem_iff.mp List.mem_cons_self)
  have hln : ns.length = (srt rest).length + 1 := by rw [srt_len]; exact p.length_eq.symm
  have h := Ar.hits_row (r := srt rest) (b1 := b1) (b2 := b2) (l := l) (n := ns.length) (m := l.toNat) (by omega) hl1.2 e1 (srt_pw rest) (fun b hb => L.2 b (p.mem_iff.mp (List.mem_cons_of_mem _ (srt_mem.mp hb)))) m1 (fun b hb => by have := m2 b hb; omega) hln hf
  rw [e2] at h
  rw [show hl ns = hlF (along (srt ns)) from rfl, h]
  refine congrArg some (Ar.sm_congr fun j _ _ => ?_)
  show it0 (hlF (along ((srt rest).map (dj j)))) _ = it0 (hl (rest.map (dj j))) _
  rw [show hl (rest.map (dj j)) = hlF (along (srt (rest.map (dj j)))) from rfl, srt_dj]
theorem it0_nn {g : List Int} (h : ∀ c ∈ g, 0 ≤ c) (f : Int) : 0 ≤ it0 g f := by
  unfold it0
  split
  · rw [List.getD_eq_getElem?_getD]
    cases q : g[f.toNat]? with
    | none => exact Int.le_refl 0
    | some v => exact h v (List.mem_of_getElem? q)
  · exact Int.le_refl 0
theorem hl_nn : ∀ (n : Nat) (ns : List Int), ns.length = n → Low ns → ∀ c ∈ hl ns, 0 ≤ c
  | 0, ns, hn, _, c, hc => by
    have : ns = [] := List.length_eq_zero_iff.mp hn
    subst this
    have e : srt ([] : List Int) = [] := (srt_unique (List.Perm.refl _) List.Pairwise.nil).symm
    have e2 : hl [] = [1] := by
      unfold hl
      rw [e]
      decide
    rw [e2, List.mem_singleton] at hc
    omega
  | n + 1, [], hn, _, c, hc => by simp at hn
  | n + 1, l :: rest, hn, L, c, hc => by
    obtain ⟨f, hf, e⟩ := List.getElem_of_mem hc
    have hf2 := hf
    rw [hl_len] at hf2
    have h := hits_split (List.Perm.refl (l :: rest)) L (f := f) (by omega)
    rw [List.getElem?_eq_getElem hf, e] at h
    rw [Option.some.inj h]
    refine Ar.sm_nn fun j h0 h1 => it0_nn (hl_nn n _ (by rw [List.length_map]; simpa using hn) (low_dj (n := (l :: rest).length) rfl L.1 (fun x hx => L.2 x (List.mem_cons_of_mem _ hx)) h0 (by omega))) _
theorem av1_sum : ∀ g : List Int, avF 1 g = g.sum
  | [] => rfl
  | c :: g => by
    show c + 1 * avF 1 g = _
    rw [av1_sum g, List.sum_cons, Int.one_mul]
theorem le_sum : ∀ {g : List Int}, (∀ c ∈ g, 0 ≤ c) → ∀ c ∈ g, c ≤ g.sum
  | [], _, c, hc => by simp at hc
  | d :: g, h, c, hc => by
    have h1 := h d List.mem_cons_self
    have h2 : 0 ≤ g.sum := by
      clear hc
      induction g with
      | nil => exact Int.le_refl 0
      | cons e g ih =>
        rw [List.sum_cons]
        have := h e (by simp)
        have := ih fun c hc => h c (by rcases List.mem_cons.mp hc with q | q <;> simp [q])
        omega
    rw [List.sum_cons]
    rcases List.mem_cons.mp hc with e | hc
    · omega
    · have := le_sum (fun d hd => h d (List.mem_cons_of_mem _ hd)) c hc
      omega
theorem along_one (ns : List Int) : ∃ cs, along ns = 1 :: cs ∧ cs.length = ns.length := by
  have h := Ar.along_get ns 0
  rw [Ar.cf_zero] at h
  have hl := Ar.along_length ns
  cases e : along ns with
  | nil => rw [e] at hl; simp at hl
  | cons c cs =>
    rw [e] at h hl
    have h : c = 1 := h
    exact ⟨cs, by rw [h], by simpa using hl⟩
theorem cf_one (ns : List Int) : cf ns 1 = ns.sum := by
  refine Ar.rev_ind (P := fun ns => cf ns 1 = ns.sum) rfl (fun xs x ih => ?_) ns
  rw [Ar.cf_snoc, List.sum_append]
  show cf xs 1 + (x - ((0 : Nat) : Int)) * cf xs 0 = _
  rw [ih, Ar.cf_zero, Int.mul_one]
  show _ + (x - 0) = _ + (x + 0)
  omega
theorem hl_sum (ns : List Int) : (hl ns).sum = fc ns.length := by
  obtain ⟨cs, e, h⟩ := along_one (srt ns)
  rw [← av1_sum]
  unfold hl
  rw [Ar.avF_hlF, e, Ar.hval_1, h, srt_len, Int.one_mul]
theorem sum_perm {a b : List Int} (h : a.Perm b) : a.sum = b.sum := by
  induction h with
  | nil => rfl
  | cons a _ ih => rw [List.sum_cons, List.sum_cons, ih]
  | swap a b l => rw [List.sum_cons, List.sum_cons, List.sum_cons, List.sum_cons]; omega
  | trans _ _ h1 h2 => rw [h1, h2]
theorem hl_mean {ns : List Int} {n : Nat} (hn : ns.length = n + 1) : wS 0 (hl ns) = ns.sum * fc n := by
  obtain ⟨cs, e, h⟩ := along_one (srt ns)
  rw [srt_len] at h
  cases cs with
  | nil => simp at h; omega
  | cons d ds =>
    have h1 := Ar.along_get (srt ns) 1
    rw [e, cf_one, sum_perm (srt_perm ns)] at h1
    have h1 : d = ns.sum := h1
    unfold hl
    rw [e, Ar.wS_hlF, h1]
    have : ds.length = n := by simp at h; omega
    rw [this]
theorem wS_enum : ∀ (g : List Int) (k : Nat), (((g.zipIdx k).map fun p => ((p.2 : Int), p.1)).map fun p : Int × Int => p.1 * p.2).sum = wS k g
  | [], _ => rfl
  | c :: g, k => by
    show ((k : Int) * c + _) = (k : Int) * c + wS (k + 1) g
    rw [← wS_enum g (k + 1)]
    rfl
theorem hl_bd {ns : List Int} (L : Low ns) : ∀ c ∈ hl ns, 0 ≤ c ∧ c < 2 ^ 62 := fun c hc => by
  have nn := hl_nn ns.length ns rfl L
  have h1 := le_sum nn c hc
  rw [hl_sum] at h1
  have := fc_small ns.length L.1
  exact ⟨nn c hc, by omega⟩
theorem it0_bd {ns : List Int} (L : Low ns) (f : Int) : 0 ≤ it0 (hl ns) f ∧ it0 (hl ns) f < 2 ^ 62 := by
  refine ⟨it0_nn (fun c hc => (hl_bd L c hc).1) f, ?_⟩
  unfold it0
  split
  · rw [List.getD_eq_getElem?_getD]
    cases q : (hl ns)[f.toNat]? with
    | none => decide
    | some v => exact (hl_bd L v (List.mem_of_getElem? q)).2
  · decide
end Tk29

set_option Elab.async false
set_option linter.all false
set_option maxRecDepth 100000
set_option exponentiation.threshold 9000
/-! HP: hits of a team, shares of pairs; low teams out of a store -/
namespace Tk29
open PySem L2 Vm
open Ar (along nx cf ab hv ev ff avF drv drvN prodS fc hval hlF mulY addHd it0 sm dj wS)
/-- a team for full lists -/
structure Full (ns : List Int) : Prop where
  pos : 1 ≤ ns.length
  low : Low ns
theorem Full.team {ns : List Int} (F : Full ns) : Team ns := team_le F.pos F.low.1 fun x hx => by have := F.low.2 x hx; have := F.low.1; omega
theorem check_levels_ok {ns : List Int} (F : Full ns) : Hd (c_check_levels (eL D.int ns)) () := by
  have ne := F.team.ne
  have hm := (F.low.2 _ (maxL_mem ne)).2
  exact hd_bd () (check_team_ok F.team) (hd_bd _ (asInts_ok _) (hd_bd _ (hd_max ne) (hd_bd _ (asList_I ns) (hd_bd () (hd_must (by rw [List.length_map, decide_eq_false (by omega)]; rfl)) hd_p))))
theorem hit_counts_ok {ns : List Int} (F : Full ns) : Hd (c_hit_counts (eL D.int ns)) (hl ns) := hd_bd () (check_levels_ok F) (hd_bd _ (asInts_ok _) (hd_bd _ (hits_along_ok F.low) hd_p))
theorem mean_hits_ok {ns : List Int} (F : Full ns) : Hd (c_mean_hits (eL D.int ns)) (frac ns.sum ns.length) := by
  have h20 := F.low.1
  have hp := F.pos
  refine hd_bd () (check_levels_ok F) (hd_bd _ (asInts_ok _) (hd_bd _ (asList_I ns) (hd_bd _ ?_ hd_p)))
  rw [List.length_map]
  refine fraction_ok (by omega) ?_
  have : (20 : Nat) < 2 ^ 7999 := by decide +kernel
  omega
theorem within_ok {i a b : Int} (h1 : a ≤ i) (h2 : i ≤ b) : Hd (c_is_within (.int i) a b) true := hd_bd true (whole_ok i) (hd_bd true (hd_t rfl (hd_bd i (asInt_ok i) (hd_pe (by rw [decide_eq_true h1, decide_eq_true h2]; rfl)))) hd_p)
theorem cut_to {A B : List Int} {l : Int} : cutI (A ++ l :: B) none (some (A.length : Int)) = A := by
  unfold cutI
  rw [HT.sIx_none, HT.sIx_nat, List.drop_zero]
  have : min A.length (A ++ l :: B).length - 0 = A.length := by simp <;> omega
  rw [this]
  simp
theorem cut_from {A B : List Int} {l : Int} : cutI (A ++ l :: B) (some ((A.length : Int) + 1)) none = B := by
  unfold cutI
  have e1 : (A.length : Int) + 1 = ((A.length + 1 : Nat) : Int) := by omega
  rw [e1, HT.sIx_none, HT.sIx_nat]
  have : min (A.length + 1) (A ++ l :: B).length = A.length + 1 := by simp <;> omega
  rw [this, List.take_of_length_le (by rw [List.length_drop]; omega)]
  rw [show A ++ l :: B = (A ++ [l]) ++ B by simp, List.drop_left' (by simp)]
theorem levels_behind_ok {l : Int} {rest : List Int} {j : Int} (h : rest.length ≤ 1000) : Hd (c_levels_behind (l :: rest) j) (rest.map (dj j)) := by
  show Hd (bd (shortM (cutI (l :: rest) (some 1) none).length) _) _
  rw [cut_1]
  refine hd_bd () (hd_short (by omega)) (hd_bd _ (hd_mapM (dj j) fun x _ => ?_) hd_p)
  unfold dj
  by_cases q : j < x
  · rw [if_pos q]
    exact hd_bd _ (hd_t (decide_eq_true q) hd_p) hd_p
  · rw [if_neg q]
    exact hd_bd _ (hd_f (decide_eq_false q) hd_p) hd_p
/-- the number of lists with a pair -/
theorem count_lists_ok {l : Int} {rest : List Int} {j f : Int} (L : Low (rest.map (dj j))) : Hd (c_count_lists (l :: rest) j f) (it0 (hl (rest.map (dj j))) (f - (if j < l then 1 else 0))) := by
  have h20 := L.1
  rw [List.length_map] at h20
  refine hd_bd _ (levels_behind_ok (by omega)) (hd_bd _ (hits_along_ok L) (hd_bd (f - (if j < l then 1 else 0)) ?_ (hd_bd _ item_ok hd_p)))
  refine hd_bd l (hd_getN (i := 0) rfl) ?_
  by_cases q : j < l
  · rw [if_pos q]
    exact hd_bd _ (hd_t (decide_eq_true q) hd_p) hd_p
  · rw [if_neg q]
    exact hd_bd _ (hd_f (decide_eq_false q) (hd_pe (by omega))) hd_p
theorem pair_ok {ns A B : List Int} {l : Int} (F : Full ns) (e : ns = A ++ l :: B) {j : Int} (h0 : 0 ≤ j) (h1 : j < ns.length) {f : Nat} (hf : f ≤ ns.length) {v : Int} (hv : (hl ns)[f]? = some v) (v0 : 0 < v) : Hd (c_pair_by_hits ns (A.length : Int) j (f : Int)) (frac (it0 (hl ((A ++ B).map (dj j))) ((f : Int) - (if j < l then 1 else 0))) v) := by
  have h20 := F.low.1
  have hlen : ns.length = (A ++ B).length + 1 := by rw [e]; simp; omega
  have hA : A.length < ns.length := by rw [e]; simp
  have vb := (hl_bd F.low v (List.mem_of_getElem? hv)).2
  have low : Low ((A ++ B).map (dj j)) := low_dj hlen h20 (fun x hx => F.low.2 x (by
    rw [e]
    rcases List.mem_append.mp hx with q | q
    · exact List.mem_append_left _ q
    · exact List.mem_append_right _ (List.mem_cons_of_mem _ q))) h0 h1
  have chw : Hd (c_check_worker ns (A.length : Int)) () := hd_bd true (within_ok (by omega) (by omega)) (hd_bd () (hd_must rfl) hd_p)
  have chm : Hd (c_check_many ns (.int (f : Int))) () := hd_bd true (within_ok (by omega) (by omega)) (hd_bd () (hd_must rfl) hd_p)
  have gl : Hd (getM ns (A.length : Int)) l := hd_getN (by rw [e]; simp)
  have c1 : cutI ns none (some (A.length : Int)) = A := by rw [e]; exact cut_to
  have c2 : cutI ns (some ((A.length : Int) + 1)) none = B := by rw [e]; exact cut_from
  have hab : A.length + B.length ≤ 20 := by rw [List.length_append] at hlen; omega
  refine hd_bd () (check_levels_ok F) (hd_bd () chw (hd_bd true (within_ok h0 (by omega)) (hd_bd () (hd_must rfl) (hd_bd () chm (hd_bd _ (hits_along_ok F.low) (hd_bd v (hd_getN hv) (hd_bd () (hd_must (by rw [decide_eq_false (by omega)]; rfl)) (hd_bd l gl ?_))))))))
  rw [c1, c2]
  refine hd_bd (l :: A) (hd_cat (by simp; omega)) (hd_bd (l :: (A ++ B)) ((hd_cat (by simp; omega)).to (by simp)) (hd_bd _ (count_lists_ok low) (hd_bd _ (fraction_ok v0 ?_) hd_p)))
  have : (2 : Nat) ^ 62 < 2 ^ 7999 := Nat.pow_lt_pow_right (by decide) (by decide)
  generalize (2 : Nat) ^ 7999 = Z at *
  omega
theorem shys_pairs : ∀ {ps : List (Int × Int)}, (∀ p ∈ ps, p.1.natAbs < 2 ^ 1000 ∧ p.2.natAbs < 2 ^ 1000) → Shys (ps.map (eT2 D.int D.int)) 1 (2011 * ps.length)
  | [], _ => shys_nil
  | p :: ps, h => by
    obtain ⟨h1, h2⟩ := h p List.mem_cons_self
    have ih := shys_pairs fun q hq => h q (List.mem_cons_of_mem _ hq)
    have hs : Shys ([p.1, p.2].map D.int) 0 (1003 * 2) := shys_ints fun n hn => by
      simp only [List.mem_cons, List.not_mem_nil, or_false] at hn
      rcases hn with rfl | rfl
      · exact h1
      · exact h2
    have q := shys_cons (shy_tup hs) ih
    exact ⟨q.g, q.d, Nat.le_trans q.l (by rw [List.length_cons]; omega)⟩
theorem repr_pairs {ps : List (Int × Int)} (hl : ps.length ≤ 100) (h : ∀ p ∈ ps, p.1.natAbs < 2 ^ 1000 ∧ p.2.natAbs < 2 ^ 1000) : Hd (reprDM (eL (eT2 D.int D.int) ps)) (reprDM (eL (eT2 D.int D.int) ps)).val := shy_repr (shy_lst (shys_pairs h)) (by decide) (by omega)
theorem repr_pair {p : Int × Int} (h : p.1.natAbs < 2 ^ 1000 ∧ p.2.natAbs < 2 ^ 1000) : Hd (reprDM (eT2 D.int D.int p)) (reprDM (eT2 D.int D.int p)).val := by
  have hs : Shys ([p.1, p.2].map D.int) 0 (1003 * 2) := shys_ints fun n hn => by
    simp only [List.mem_cons, List.not_mem_nil, or_false] at hn
    rcases hn with rfl | rfl
    · exact h.1
    · exact h.2
  exact shy_repr (shy_tup hs) (by decide) (by decide)
theorem repr_ints {ns : List Int} (hl : ns.length ≤ 900) (h : ∀ n ∈ ns, n.natAbs < 2 ^ 1000) : Hd (reprDM (eL D.int ns)) (reprDM (eL D.int ns)).val := shy_repr (shy_lst (shys_ints h)) (by decide) (by omega)
theorem low_ok {t : Nat} {p : List Int} {most : Int} (P : Purse t p) (ht : t ≤ 800000) (hm : 1 ≤ most ∧ most ≤ 20) : Sat (c_law_low p most) fun z => Full z.1 ∧ (z.1.length : Int) ≤ most ∧ Purse (t + 50) z.2 := by
  refine st (pick_ok P (by omega) hm.1 (by omega)) fun ⟨r1, p1⟩ ⟨a1, b1, P1⟩ => ?_
  simp only at a1 b1 P1 ⊢
  obtain ⟨n, hn⟩ : ∃ n : Nat, 1 + r1 = (n : Int) := ⟨(1 + r1).toNat, by omega⟩
  rw [hn]
  refine st (deal_ok P1 (by omega) ⟨hm.1, by omega⟩ ⟨by omega, by omega⟩) fun ⟨ds, p2⟩ ⟨d1, d2, d3, P2⟩ => ?_
  simp only at d1 d2 d3 P2 ⊢
  have hrep : ds.length * ((n : Int)).toNat ≤ 16000 := by
    rw [Int.toNat_natCast]
    have : ds.length * n ≤ 20 * 20 := Nat.mul_le_mul (by omega) (by omega)
    omega
  obtain ⟨rs, hrs⟩ : ∃ rs, rs = (List.replicate ((n : Int)).toNat ds).flatten := ⟨_, rfl⟩
  have rl : rs.length = n * ds.length := by
    rw [hrs, Int.toNat_natCast, List.length_flatten]
    simp
  have rm : ∀ x ∈ rs, 0 ≤ x ∧ x ≤ (n : Int) := fun x hx => by
    rw [hrs] at hx
    obtain ⟨l, hl, hx⟩ := List.mem_flatten.mp hx
    rw [List.eq_of_mem_replicate hl] at hx
    exact d3 x hx
  have rl2 : n ≤ rs.length := by
    rw [rl]
    exact Nat.le_mul_of_pos_right _ (by omega)
  have rl3 : rs.length ≤ 400 := by
    rw [rl]
    have : n * ds.length ≤ 20 * 20 := Nat.mul_le_mul (by omega) (by omega)
    omega
  refine sb ((hd_rep (by omega) (by omega) hrep).to hrs.symm) (sb (hd_cat (by omega)) ?_)
  have cut : cutI (ds ++ rs) none (some (n : Int)) = (ds ++ rs).take n := by
    unfold cutI
    rw [HT.sIx_none, HT.sIx_nat, List.drop_zero]
    have : min n (ds ++ rs).length - 0 = n := by rw [List.length_append]; omega
    rw [this]
  rw [cut]
  have tl : ((ds ++ rs).take n).length = n := by rw [List.length_take, List.length_append]; omega
  refine sb (hd_short (by omega)) (sb (hd_map (g := fun x : Int => mn2 x (n : Int))) (sat_p ⟨⟨by rw [List.length_map, tl]; omega, by rw [List.length_map, tl]; omega, fun x hx => ?_⟩, by show (((((ds ++ rs).take n).map fun x : Int => mn2 x (n : Int)).length : Nat) : Int) ≤ most; rw [List.length_map, tl]; omega, P2.mono (by omega)⟩))
  rw [List.length_map, tl]
  obtain ⟨b, hb, rfl⟩ := List.mem_map.mp hx
  have hb := List.mem_of_mem_take hb
  have : 0 ≤ b ∧ b ≤ (n : Int) := by
    rcases List.mem_append.mp hb with q | q
    · exact d3 b q
    · exact rm b q
  unfold mn2
  split <;> omega
end Tk29

set_option Elab.async false
set_option linter.all false
set_option maxRecDepth 100000
set_option exponentiation.threshold 9000
/-! L29: the law -/
namespace Tk29
open PySem L2 Vm
open Ar (along nx cf ab hv ev ff avF drv drvN prodS fc hval hlF mulY addHd it0 sm dj wS)
theorem hd_eqT {x y : D} {b : Bool} (h : eqD x y = some b) : Hd (deqM x y) b := by
  refine ⟨?_, ?_⟩
  · show (eqD x y).isSome = true
    rw [h]; rfl
  · show (eqD x y).getD false = b
    rw [h]; rfl
theorem big {a : Int} (h0 : 0 ≤ a) (h : a < 2 ^ 70) : a.natAbs < 2 ^ 1000 := by
  have : (2 : Nat) ^ 70 < 2 ^ 1000 := Nat.pow_lt_pow_right (by decide) (by decide)
  generalize (2 : Nat) ^ 1000 = Z at *
  omega
theorem one_of {w : Int} {ns : List Int} (h : 0 ≤ w ∧ w < ns.length) : ∃ A l B, ns = A ++ l :: B ∧ (A.length : Int) = w := by
  have hz : w.toNat < ns.length := by omega
  refine ⟨ns.take w.toNat, ns[w.toNat], ns.drop (w.toNat + 1), ?_, ?_⟩
  · rw [← List.drop_eq_getElem_cons hz, List.take_append_drop]
  · rw [List.length_take]
    omega
theorem pair_right_ok {t : Nat} {p ns : List Int} (P : Purse t p) (ht : t ≤ 900000) (F : Full ns) : Sat (c_law_pair_right p ns (hl ns)) fun z => z.1 = true ∧ Purse (t + 2) z.2 := by
  have h20 := F.low.1
  have hp := F.pos
  refine st (pick_ok P (by omega) (by omega) (by omega)) fun ⟨w, p1⟩ ⟨a1, b1, P1⟩ => ?_
  simp only at a1 b1 P1 ⊢
  obtain ⟨A, l, B, e, hA⟩ := one_of ⟨a1, b1⟩
  subst hA
  have hlen : ns.length = (A ++ B).length + 1 := by rw [e]; simp; omega
  obtain ⟨lots, hlots⟩ : ∃ lots, lots = ((enumL (hl ns)).filter fun q : Int × Int => decide (0 < q.2)).map fun q => q.1 := ⟨_, rfl⟩
  have lmem : ∀ f ∈ lots, ∃ i : Nat, f = i ∧ ∃ v, (hl ns)[i]? = some v ∧ 0 < v := fun f hf => by
    rw [hlots] at hf
    obtain ⟨q, hq, rfl⟩ := List.mem_map.mp hf
    obtain ⟨h1, h2⟩ := List.mem_filter.mp hq
    obtain ⟨i, e1, e2⟩ := mem_enumL h1
    exact ⟨i, e1, q.2, e2, of_decide_eq_true h2⟩
  have lpos : 0 < lots.length := by
    have : ∃ c ∈ hl ns, 0 < c := by
      refine Classical.byContradiction fun no => ?_
      have all : ∀ c ∈ hl ns, c ≤ 0 := fun c hc => by
        rcases Int.lt_or_le 0 c with q | q
        · exact absurd ⟨c, hc, q⟩ no
        · exact q
      have hs : ∀ g : List Int, (∀ c ∈ g, c ≤ 0) → g.sum ≤ 0 := fun g => by
        induction g with
        | nil => intro _; exact Int.le_refl 0
        | cons c g ih =>
          intro h
          rw [List.sum_cons]
          have := h c List.mem_cons_self
          have := ih fun d hd => h d (List.mem_cons_of_mem _ hd)
          omega
      have h1 := hs _ all
      rw [hl_sum] at h1
      have := Ar.fc_pos ns.length
      omega
    obtain ⟨c, hc, c0⟩ := this
    obtain ⟨i, hi, ei⟩ := List.getElem_of_mem hc
    refine List.length_pos_of_mem (a := (i : Int)) ?_
    rw [hlots]
    refine List.mem_map.mpr ⟨((i : Int), c), List.mem_filter.mpr ⟨?_, decide_eq_true c0⟩, rfl⟩
    unfold enumL
    exact List.mem_map.mpr ⟨(c, i), List.mk_mem_zipIdx_iff_getElem?.mpr (by rw [List.getElem?_eq_getElem hi, ei]), rfl⟩
  have llen : lots.length ≤ 21 := by
    rw [hlots, List.length_map]
    refine Nat.le_trans (List.length_filter_le _ _) ?_
    rw [enumL_len, hl_len]
    omega
  refine sb (hd_short (by rw [enumL_len, hl_len]; omega)) (sb ((hd_filter (fun q : Int × Int => decide (0 < q.2)) (fun q => q.1) (fun _ _ => hd_p) fun _ _ _ => hd_p).to hlots.symm) ?_)
  refine st (pick_ok P1 (by omega) (by omega) (by omega)) fun ⟨x, p2⟩ ⟨a2, b2, P2⟩ => ?_
  simp only at a2 b2 P2 ⊢
  obtain ⟨y, rfl⟩ : ∃ y : Nat, x = (y : Int) := ⟨x.toNat, by omega⟩
  have hy : y < lots.length := by omega
  obtain ⟨f, ef, v, hv, v0⟩ := lmem lots[y] (List.getElem_mem hy)
  have hf : f ≤ ns.length := by
    have := (List.getElem?_eq_some_iff.mp hv).1
    rw [hl_len] at this
    omega
  have gf : Hd (getM lots (y : Int)) (f : Int) := hd_getN (by rw [List.getElem?_eq_getElem hy, ef])
  have gv : Hd (getM (hl ns) (f : Int)) v := hd_getN hv
  have gl : Hd (getM ns (A.length : Int)) l := hd_getN (by rw [e]; simp)
  have vb := hl_bd F.low v (List.mem_of_getElem? hv)
  have v1000 := big vb.1 (by omega)
  have c1 : cutI ns none (some (A.length : Int)) = A := by rw [e]; exact cut_to
  have c2 : cutI ns (some ((A.length : Int) + 1)) none = B := by rw [e]; exact cut_from
  have hmem : ∀ x ∈ A ++ B, 0 ≤ x ∧ x ≤ ns.length := fun x hx => F.low.2 x (by
    rw [e]
    rcases List.mem_append.mp hx with q | q
    · exact List.mem_append_left _ q
    · exact List.mem_append_right _ (List.mem_cons_of_mem _ q))
  have low : ∀ j : Int, 0 ≤ j → j < ns.length → Low ((A ++ B).map (dj j)) := fun j h0 h1 => low_dj hlen h20 hmem h0 h1
  have hab : A.length + B.length ≤ 20 := by rw [List.length_append] at hlen; omega
  obtain ⟨G, hG⟩ : ∃ G : Int → Int, G = fun j => it0 (hl ((A ++ B).map (dj j))) ((f : Int) - (if j < l then 1 else 0)) := ⟨_, rfl⟩
  have Gb : ∀ j : Int, 0 ≤ j → j < ns.length → 0 ≤ G j ∧ G j < 2 ^ 62 := fun j h0 h1 => by rw [hG]; exact it0_bd (low j h0 h1) _
  refine sb gf (sp (sb (hd_rg (n := ns.length) rfl (by omega)) ?_))
  refine st (R := fun s : List (Int × Int) × Int => s.1 = ((rgN ns.length).map fun j => frac (G j) v) ∧ s.2 = sm G 0 ns.length) (s_forR (fun k (s : List (Int × Int) × Int) => s.1 = ((rgN k).map fun j => frac (G j) v) ∧ s.2 = sm G 0 k) ⟨rfl, rfl⟩ (fun k s hk ⟨g1, g2⟩ => ?_) fun s h => h) fun ⟨due, tops⟩ ⟨g1, g2⟩ => ?_
  · obtain ⟨due, tops⟩ := s
    simp only at g1 g2 ⊢
    have lk := low k (by omega) (by omega)
    rw [c1, c2]
    refine sb (hd_cat (by omega)) (sb (hd_short (by rw [List.length_append]; omega)) (sb (hd_mapM (dj (k : Int)) fun x _ => hd_pe ?_) (sb (law_hits_ok lk) (sb gl ?_))))
    · unfold dj
      by_cases q : (k : Int) < x
      · rw [if_pos q, decide_eq_true q]; rfl
      · rw [if_neg q, decide_eq_false q]; exact Int.sub_zero x
    have el : (f : Int) - (if (decide ((k : Int) < l)) then (1 : Int) else 0) = (f : Int) - (if (k : Int) < l then 1 else 0) := by
      by_cases q : (k : Int) < l
      · rw [if_pos q, decide_eq_true q]; rfl
      · rw [if_neg q, decide_eq_false q]; rfl
    rw [el]
    have gk := Gb k (by omega) (by omega)
    refine sp (sb (a := G k) (by rw [hG]; exact item_ok') (sb gv (sb (lowest_ok gk.1 v0 v1000) (sb (hd_app (by rw [g1, List.length_map, rgN_length]; omega)) (sp (sat_p ⟨?_, ?_⟩))))))
    · show due ++ [frac (G k) v] = _
      rw [g1, rgN_succ, List.map_append]
      rfl
    · show tops + G k = sm G 0 k + G (0 + k)
      rw [g2, Int.zero_add]
  simp only at g1 g2 ⊢
  have tl : (rgN ns.length).length ≤ 20 := by rw [rgN_length]; omega
  have small : ∀ q ∈ (rgN ns.length).map (fun j => frac (G j) v), q.1.natAbs < 2 ^ 1000 ∧ q.2.natAbs < 2 ^ 1000 := fun q hq => by
    obtain ⟨j, hj, rfl⟩ := List.mem_map.mp hq
    have hj := mem_rgN.mp hj
    have gj := Gb j hj.1 hj.2
    have fb := frac_bd gj.1 (by omega : 0 ≤ v)
    exact ⟨big fb.1 (by omega), big fb.2.2.1 (by omega)⟩
  have rep := repr_pairs (by rw [List.length_map]; omega) small
  subst g1
  refine sb (hd_rg (n := ns.length) rfl (by omega)) (sb (hd_short (by omega)) (sb (hd_mapM (fun j => frac (G j) v) fun j hj => ?_) (sb rep (sb rep (sb (a := true) (hd_t (decide_eq_true rfl) (hd_bd v gv (hd_pe ?_))) (sat_p ⟨rfl, P2.mono (by omega)⟩))))))
  · have hj := mem_rgN.mp hj
    rw [hG]
    exact hd_bd _ (pair_ok F e hj.1 hj.2 hf hv v0) hd_p
  · have h := hits_split (ns := ns) (rest := A ++ B) (l := l) (by rw [e]; exact List.perm_middle.symm) F.low hf
    rw [hv] at h
    refine decide_eq_true ?_
    rw [g2, Option.some.inj h, hG]
theorem right_ok {t : Nat} {p ns : List Int} (P : Purse t p) (ht : t ≤ 900000) (F : Full ns) : Sat (c_law_right p ns) fun z => z.1 = true ∧ Purse (t + 2) z.2 := by
  have h20 := F.low.1
  have hp := F.pos
  obtain ⟨n, hn⟩ : ∃ n, ns.length = n + 1 := ⟨ns.length - 1, by omega⟩
  have hb : ∀ c ∈ hl ns, c.natAbs < 2 ^ 1000 := fun c hc => by
    have := hl_bd F.low c hc
    exact big this.1 (by omega)
  have rep := repr_ints (ns := hl ns) (by rw [hl_len]; omega) hb
  have s0 : 0 ≤ ns.sum := by
    have : ∀ g : List Int, (∀ c ∈ g, 0 ≤ c) → 0 ≤ g.sum := fun g => by
      induction g with
      | nil => intro _; exact Int.le_refl 0
      | cons c g ih =>
        intro h
        rw [List.sum_cons]
        have := h c List.mem_cons_self
        have := ih fun d hd => h d (List.mem_cons_of_mem _ hd)
        omega
    exact this ns fun c hc => (F.low.2 c hc).1
  have s1 : ns.sum ≤ 400 := by
    have : ∀ g : List Int, (∀ c ∈ g, c ≤ 20) → g.sum ≤ 20 * g.length := fun g => by
      induction g with
      | nil => intro _; exact Int.le_refl 0
      | cons c g ih =>
        intro h
        rw [List.sum_cons, List.length_cons]
        have := h c List.mem_cons_self
        have := ih fun d hd => h d (List.mem_cons_of_mem _ hd)
        omega
    have := this ns fun c hc => by have := F.low.2 c hc; omega
    omega
  have fp := Ar.fc_pos n
  have fs := fc_small n (by omega)
  have fs1 := fc_small ns.length h20
  have fsu : fc ns.length = ns.length * fc n := by
    rw [hn]
    show fc n * ((n : Int) + 1) = _
    rw [Int.mul_comm, show ((n + 1 : Nat) : Int) = (n : Int) + 1 by omega]
  have fr : frac (ns.sum * fc n) (fc ns.length) = frac ns.sum ns.length := by rw [fsu]; exact frac_mul fp
  have fb := frac_bd s0 (show (0 : Int) ≤ (ns.length : Int) by omega)
  have rep2 := repr_pair (p := frac ns.sum ns.length) ⟨big fb.1 (by omega), big fb.2.2.1 (by omega)⟩
  refine sb (law_hits_ok F.low) (sb (hit_counts_ok F) (sb rep (sb rep (sb (a := false) (hd_f (by rw [decide_eq_true rfl]; rfl) (hd_bd _ (law_factorial_ok (by omega)) (hd_pe (by rw [decide_eq_true (hl_sum ns)]; rfl)))) (scf rfl ?_)))))
  refine sb (hd_short (by rw [enumL_len, hl_len]; omega)) (sb (hd_mapM (fun q : Int × Int => q.1 * q.2) fun q hq => hd_bd _ (hd_mul (small_mul' ?_)) hd_p) (sp ?_))
  · obtain ⟨i, e1, e2⟩ := mem_enumL hq
    have := (List.getElem?_eq_some_iff.mp e2).1
    rw [hl_len] at this
    omega
  have hw : ((enumL (hl ns)).map fun q : Int × Int => q.1 * q.2).sum = ns.sum * fc n := by rw [← hl_mean hn]; exact wS_enum (hl ns) 0
  rw [hw, hl_sum]
  refine sb (mean_hits_ok F) (sb rep2 (sb ((lowest_ok (Int.mul_nonneg s0 (Int.le_of_lt fp)) (Ar.fc_pos _) (big (Int.le_of_lt (Ar.fc_pos _)) (by omega))).to fr) (sb rep2 (sb (a := false) (hd_f (by rw [decide_eq_true rfl]; rfl) (hd_bd _ (lowest_ok s0 (by omega) (big (by omega) (by omega))) (hd_bd true (deq_t (enc_T2 enc_int enc_int) (by decide) rfl) hd_p))) (scf rfl ?_)))))
  refine st (pair_right_ok P ht F) fun ⟨b, q⟩ ⟨hb2, Q⟩ => sat_p ⟨?_, Q⟩
  simp only at hb2
  show (b && decide (ns = ns)) = true
  rw [hb2, decide_eq_true rfl]
  rfl
theorem srt_sorted {ns : List Int} (h : ns.Pairwise (· ≤ ·)) : srt ns = ns := (srt_unique (List.Perm.refl _) h).symm
theorem full_of {ns : List Int} (h1 : 1 ≤ ns.length := by decide) (h2 : ns.length ≤ 20 := by decide) (h3 : ∀ x ∈ ns, 0 ≤ x ∧ x ≤ ns.length := by decide) : Full ns := ⟨h1, h2, h3⟩
theorem hl_sorted {ns : List Int} (h : ns.Pairwise (· ≤ ·)) : hl ns = hlF (along ns) := by unfold hl; rw [srt_sorted h]
theorem law_sat (sc : List Int) (hsc : sc.length ≤ 63) : Sat (c_law sc) fun b => b = true := by
  obtain ⟨n, hn, hj⟩ : ∃ n : Nat, n ≤ 3 ∧ mx2 1 (mn2 3 (sc.length : Int)) = (n : Int) := by
    refine ⟨(mx2 1 (mn2 3 (sc.length : Int))).toNat, ?_, ?_⟩ <;> (unfold mx2 mn2; split <;> split <;> omega)
  refine sb (hd_rg hj (by omega)) (st (s_forGRx (fun _ _ => True) trivial (fun k s hk _ => ?_)) ?_)
  · obtain ⟨p, hp, P⟩ := store_ok (sc := sc) (k := k) (by omega)
    obtain ⟨ms, hms, hm2⟩ : ∃ ms : List Int, cutI [20, 9] (some (if (decide ((0 : Int) < (k : Int))) then (1 : Int) else 0)) none = ms ∧ ms.length ≤ 2 ∧ ∀ m ∈ ms, 1 ≤ m ∧ m ≤ 20 := by
      by_cases q : (0 : Int) < (k : Int)
      · rw [decide_eq_true q]
        exact ⟨[9], by decide, by decide, by decide⟩
      · rw [decide_eq_false q]
        exact ⟨[20, 9], by decide, by decide, by decide⟩
    refine sb hp ?_
    rw [hms]
    refine st (s_forGx (fun pre q => Purse (60 * pre.length) q) P (fun pre most post q ex Q => ?_)) ?_
    · have hlen : pre.length ≤ 2 := by
        have := congrArg List.length ex
        rw [List.length_append] at this
        omega
      refine st (low_ok Q (by omega) (hm2.2 most (by rw [ex]; simp))) fun ⟨ns, q1⟩ ⟨F, _, Q1⟩ => ?_
      simp only at F Q1 ⊢
      refine st (right_ok Q1 (by omega) F) fun ⟨r, q2⟩ ⟨hr, Q2⟩ => ?_
      simp only at hr Q2 ⊢
      subst hr
      exact scf rfl (s_go (Q2.mono (by rw [List.length_append]; simp only [List.length_cons, List.length_nil]; omega)))
    · rintro _ ⟨q, rfl, _⟩
      exact sgo (s_go trivial)
  rintro _ ⟨_, rfl, _⟩
  refine sgo ?_
  have F20 : Full (List.replicate 20 (20 : Int)) := full_of
  have F0 : Full (List.replicate 20 (0 : Int)) := full_of
  have F1 : Full (List.replicate 20 (1 : Int)) := full_of
  have F5 : Full ([1, 2, 3, 4, 5] : List Int) := full_of
  have F4 : Full ([0, 0, 0, 4] : List Int) := full_of
  have F3 : Full ([1, 2, 3] : List Int) := full_of
  have e20 : hl (List.replicate 20 20) = List.replicate 20 0 ++ [fc 20] := by rw [hl_sorted (by decide)]; decide +kernel
  have e0 : hl (List.replicate 20 0) = fc 20 :: List.replicate 20 0 := by rw [hl_sorted (by decide)]; decide +kernel
  have e1 : hl (List.replicate 20 1) = [0, fc 20] ++ List.replicate 19 0 := by rw [hl_sorted (by decide)]; decide +kernel
  have e5 : hl [1, 2, 3, 4, 5] = [0, 1, 26, 66, 26, 1] := by rw [hl_sorted (by decide)]; decide +kernel
  have e4 : hl [0, 0, 0, 4] = [0, 24, 0, 0, 0] := by rw [hl_sorted (by decide)]; decide +kernel
  have e3 : hl [1, 2, 3] = [0, 1, 4, 1] := by rw [hl_sorted (by decide)]; decide +kernel
  have d1 : hl (([] ++ [2, 3] : List Int).map (dj 0)) = [0, 1, 1] := by
    have : (([] ++ [2, 3] : List Int).map (dj 0)) = [1, 2] := by decide
    rw [this, hl_sorted (by decide)]
    decide +kernel
  have d2 : hl (([1, 2] ++ [] : List Int).map (dj 0)) = [1, 1, 0] := by
    have : (([1, 2] ++ [] : List Int).map (dj 0)) = [0, 1] := by decide
    rw [this, hl_sorted (by decide)]
    decide +kernel
  have q1 := pair_ok (A := []) (l := 1) (B := [2, 3]) F3 rfl (j := 0) (by decide) (by decide) (f := 3) (by decide) (v := 1) (by rw [e3]; rfl) (by decide)
  have q2 := pair_ok (A := [1, 2]) (l := 3) (B := []) F3 rfl (j := 0) (by decide) (by decide) (f := 1) (by decide) (v := 1) (by rw [e3]; rfl) (by decide)
  rw [d1] at q1
  rw [d2] at q2
  have k1 : frac (it0 [0, 1, 1] (((3 : Nat) : Int) - (if (0 : Int) < 1 then 1 else 0))) 1 = (1, 1) := by decide +kernel
  have k2 : frac (it0 [1, 1, 0] (((1 : Nat) : Int) - (if (0 : Int) < 3 then 1 else 0))) 1 = (1, 1) := by decide +kernel
  rw [k1] at q1
  rw [k2] at q2
  have fact := law_factorial_ok (n := 20) (by decide)
  refine sb fact (sb (hd_rep1 (x := (20 : Int)) (n := 20) (by decide)) (sb ((hit_counts_ok F20).to e20) (sb (hd_rep1 (x := (0 : Int)) (n := 20) (by decide)) (sb ((hit_counts_ok F0).to e0) (sb (hd_rep1 (x := (1 : Int)) (n := 20) (by decide)) (sb ((hit_counts_ok F1).to e1) (sp ?_)))))))
  refine sb (hd_rep1 (x := (0 : Int)) (n := 20) (by decide)) (sb (hd_cat (by decide)) (sb (hd_rep1 (x := (0 : Int)) (n := 20) (by decide)) (sb (hd_cat (by decide)) (sb (hd_rep1 (x := (0 : Int)) (n := 19) (by decide)) (sb (hd_cat (by decide)) (sb (a := true) (deq_t (enc_L (enc_L enc_int)) (by decide) rfl) (scf rfl ?_)))))))
  refine sb (a := [1, 2, 3, 4, 5]) ⟨⟨by decide, by decide, by decide, by decide, by decide⟩, by decide⟩ (sb ((hit_counts_ok F5).to e5) (sb ((hit_counts_ok F4).to e4) (sb q1 (sp (sb (a := true) (hd_eqT (by decide +kernel)) (sb (a := true) (hd_t rfl (hd_bd _ q2 (hd_bd true (deq_t (enc_T2 enc_int enc_int) (by decide) rfl) hd_p))) (sat_p rfl)))))))
theorem law_true (ns : List Int) (h : ns.length ≤ 63) : ∃ e, m_law [.sh (.scr ns)] = some (.val (.bl true) e) := t_law (law_sat ns h).hd
end Tk29

set_option Elab.async false
set_option linter.all false
set_option maxRecDepth 100000
namespace Tk29
open PySem PySem.Spec PyProof.Rows L2 Evl Vm
/-! ### the end -/
def spLaw (K : PySem.W.Frag) : Sp := fun vs H Q _ => ∃ (a : Addr) (ns : List Int), vs = [.ref a] ∧ SqL K H a (ns.map V.int) ∧ ns.length ≤ 63 ∧ ∀ H', Q (.bl true) H'
theorem spLaw_of (law_true : ∀ ns : List Int, ns.length ≤ 63 → ∃ e, m_law [.sh (.scr ns)] = some (.val (.bl true) e)) {K : PySem.W.Frag} (vs : List V) (H : Hp) (Q : VK) (E : XK) (h : spLaw K vs H Q E) : SpM K 1 m_law vs H Q E := by
  obtain ⟨a, ns, rfl, hS, hl, q⟩ := h
  obtain ⟨e, he⟩ := law_true ns hl
  refine ⟨rfl, H, _, _, ⟨fun _ _ z => (nomatch (show none = some _ from z)), Ex.refl _, Ex.refl _, fun q z => .inl z, rfl, fun i t ht => ?_, fun i j p xs ys e1 => ?_, fun j z => by cases z⟩, he, fun v B' H' _ _ r => ?_⟩
  · match i, ht with
    | 0, ht =>
      cases ht
      exact ⟨_, rfl, .scr hS⟩
    | i + 1, ht => cases ht
  · match i, e1 with
    | 0, e1 => cases e1
    | i + 1, e1 => cases e1
  · have r : Rep K B' v (.bl true) := r
    cases r
    exact q H'
theorem all_mk {l : PySem.W.OpenLaw} {w : World} {K : PySem.W.Frag} {h : Heap} {mg : Str → Option Value} {fa : Addr} (X : K.In h) (G : h.Ns mainGlobals mg) (hfa : mg "law" = some (.ref fa))
    (hl : l.prog = PySem.Challenge.pw_nestboards_k29_hits_of_great_teams) (law_true : ∀ ns : List Int, ns.length ≤ 63 → ∃ e, m_law [.sh (.scr ns)] = some (.val (.bl true) e))
    {f0 : Addr} {od0 an0 : Option Addr} {sl0 : Array (Option Value)} {oc0 kV0 dc0 pm0 cd0 ct0 : Value} (a0 : PySem.W.nsIn K mainGlobals "_law_factorial" = some (some (.ref f0))) (l0 : K.lookup f0 = some ⟨oc0, od0, .func (PySem.W.fnOf "_law_factorial" "_law_factorial" (defArgs s_law_factorial) (defBody s_law_factorial) (defScope s_law_factorial) .none kV0 dc0 pm0 an0 cd0 ct0), sl0⟩) (c0 : PySem.W.codeIn K cd0 "_law_factorial" = true) (k0 : PySem.W.keepIn K (.ref f0) = true)
    {f1 : Addr} {od1 an1 : Option Addr} {sl1 : Array (Option Value)} {oc1 kV1 dc1 pm1 cd1 ct1 : Value} (a1 : PySem.W.nsIn K mainGlobals "_law_store" = some (some (.ref f1))) (l1 : K.lookup f1 = some ⟨oc1, od1, .func (PySem.W.fnOf "_law_store" "_law_store" (defArgs s_law_store) (defBody s_law_store) (defScope s_law_store) .none kV1 dc1 pm1 an1 cd1 ct1), sl1⟩) (c1 : PySem.W.codeIn K cd1 "_law_store" = true) (k1 : PySem.W.keepIn K (.ref f1) = true)
    {f2 : Addr} {od2 an2 : Option Addr} {sl2 : Array (Option Value)} {oc2 kV2 dc2 pm2 cd2 ct2 : Value} (a2 : PySem.W.nsIn K mainGlobals "spares_of" = some (some (.ref f2))) (l2 : K.lookup f2 = some ⟨oc2, od2, .func (PySem.W.fnOf "spares_of" "spares_of" (defArgs s_spares_of) (defBody s_spares_of) (defScope s_spares_of) .none kV2 dc2 pm2 an2 cd2 ct2), sl2⟩) (c2 : PySem.W.codeIn K cd2 "spares_of" = true) (k2 : PySem.W.keepIn K (.ref f2) = true)
    {f3 : Addr} {od3 an3 : Option Addr} {sl3 : Array (Option Value)} {oc3 kV3 dc3 pm3 cd3 ct3 : Value} (a3 : PySem.W.nsIn K mainGlobals "is_whole" = some (some (.ref f3))) (l3 : K.lookup f3 = some ⟨oc3, od3, .func (PySem.W.fnOf "is_whole" "is_whole" (defArgs s_is_whole) (defBody s_is_whole) (defScope s_is_whole) .none kV3 dc3 pm3 an3 cd3 ct3), sl3⟩) (c3 : PySem.W.codeIn K cd3 "is_whole" = true) (k3 : PySem.W.keepIn K (.ref f3) = true)
    {f4 : Addr} {od4 an4 : Option Addr} {sl4 : Array (Option Value)} {oc4 kV4 dc4 pm4 cd4 ct4 : Value} (a4 : PySem.W.nsIn K mainGlobals "is_team" = some (some (.ref f4))) (l4 : K.lookup f4 = some ⟨oc4, od4, .func (PySem.W.fnOf "is_team" "is_team" (defArgs s_is_team) (defBody s_is_team) (defScope s_is_team) .none kV4 dc4 pm4 an4 cd4 ct4), sl4⟩) (c4 : PySem.W.codeIn K cd4 "is_team" = true) (k4 : PySem.W.keepIn K (.ref f4) = true)
    {f5 : Addr} {od5 an5 : Option Addr} {sl5 : Array (Option Value)} {oc5 kV5 dc5 pm5 cd5 ct5 : Value} (a5 : PySem.W.nsIn K mainGlobals "check_team" = some (some (.ref f5))) (l5 : K.lookup f5 = some ⟨oc5, od5, .func (PySem.W.fnOf "check_team" "check_team" (defArgs s_check_team) (defBody s_check_team) (defScope s_check_team) .none kV5 dc5 pm5 an5 cd5 ct5), sl5⟩) (c5 : PySem.W.codeIn K cd5 "check_team" = true) (k5 : PySem.W.keepIn K (.ref f5) = true)
    {f6 : Addr} {od6 an6 : Option Addr} {sl6 : Array (Option Value)} {oc6 kV6 dc6 pm6 cd6 ct6 : Value} (a6 : PySem.W.nsIn K mainGlobals "check_levels" = some (some (.ref f6))) (l6 : K.lookup f6 = some ⟨oc6, od6, .func (PySem.W.fnOf "check_levels" "check_levels" (defArgs s_check_levels) (defBody s_check_levels) (defScope s_check_levels) .none kV6 dc6 pm6 an6 cd6 ct6), sl6⟩) (c6 : PySem.W.codeIn K cd6 "check_levels" = true) (k6 : PySem.W.keepIn K (.ref f6) = true)
    {f7 : Addr} {od7 an7 : Option Addr} {sl7 : Array (Option Value)} {oc7 kV7 dc7 pm7 cd7 ct7 : Value} (a7 : PySem.W.nsIn K mainGlobals "counts_with_next" = some (some (.ref f7))) (l7 : K.lookup f7 = some ⟨oc7, od7, .func (PySem.W.fnOf "counts_with_next" "counts_with_next" (defArgs s_counts_with_next) (defBody s_counts_with_next) (defScope s_counts_with_next) .none kV7 dc7 pm7 an7 cd7 ct7), sl7⟩) (c7 : PySem.W.codeIn K cd7 "counts_with_next" = true) (k7 : PySem.W.keepIn K (.ref f7) = true)
    {f8 : Addr} {od8 an8 : Option Addr} {sl8 : Array (Option Value)} {oc8 kV8 dc8 pm8 cd8 ct8 : Value} (a8 : PySem.W.nsIn K mainGlobals "counts_along" = some (some (.ref f8))) (l8 : K.lookup f8 = some ⟨oc8, od8, .func (PySem.W.fnOf "counts_along" "counts_along" (defArgs s_counts_along) (defBody s_counts_along) (defScope s_counts_along) .none kV8 dc8 pm8 an8 cd8 ct8), sl8⟩) (c8 : PySem.W.codeIn K cd8 "counts_along" = true) (k8 : PySem.W.keepIn K (.ref f8) = true)
    {f9 : Addr} {od9 an9 : Option Addr} {sl9 : Array (Option Value)} {oc9 kV9 dc9 pm9 cd9 ct9 : Value} (a9 : PySem.W.nsIn K mainGlobals "item_or_0" = some (some (.ref f9))) (l9 : K.lookup f9 = some ⟨oc9, od9, .func (PySem.W.fnOf "item_or_0" "item_or_0" (defArgs s_item_or_0) (defBody s_item_or_0) (defScope s_item_or_0) .none kV9 dc9 pm9 an9 cd9 ct9), sl9⟩) (c9 : PySem.W.codeIn K cd9 "item_or_0" = true) (k9 : PySem.W.keepIn K (.ref f9) = true)
    {f10 : Addr} {od10 an10 : Option Addr} {sl10 : Array (Option Value)} {oc10 kV10 dc10 pm10 cd10 ct10 : Value} (a10 : PySem.W.nsIn K mainGlobals "hits_along" = some (some (.ref f10))) (l10 : K.lookup f10 = some ⟨oc10, od10, .func (PySem.W.fnOf "hits_along" "hits_along" (defArgs s_hits_along) (defBody s_hits_along) (defScope s_hits_along) .none kV10 dc10 pm10 an10 cd10 ct10), sl10⟩) (c10 : PySem.W.codeIn K cd10 "hits_along" = true) (k10 : PySem.W.keepIn K (.ref f10) = true)
    {f11 : Addr} {od11 an11 : Option Addr} {sl11 : Array (Option Value)} {oc11 kV11 dc11 pm11 cd11 ct11 : Value} (a11 : PySem.W.nsIn K mainGlobals "hit_counts" = some (some (.ref f11))) (l11 : K.lookup f11 = some ⟨oc11, od11, .func (PySem.W.fnOf "hit_counts" "hit_counts" (defArgs s_hit_counts) (defBody s_hit_counts) (defScope s_hit_counts) .none kV11 dc11 pm11 an11 cd11 ct11), sl11⟩) (c11 : PySem.W.codeIn K cd11 "hit_counts" = true) (k11 : PySem.W.keepIn K (.ref f11) = true)
    {f12 : Addr} {od12 an12 : Option Addr} {sl12 : Array (Option Value)} {oc12 kV12 dc12 pm12 cd12 ct12 : Value} (a12 : PySem.W.nsIn K mainGlobals "is_within" = some (some (.ref f12))) (l12 : K.lookup f12 = some ⟨oc12, od12, .func (PySem.W.fnOf "is_within" "is_within" (defArgs s_is_within) (defBody s_is_within) (defScope s_is_within) .none kV12 dc12 pm12 an12 cd12 ct12), sl12⟩) (c12 : PySem.W.codeIn K cd12 "is_within" = true) (k12 : PySem.W.keepIn K (.ref f12) = true)
    {f13 : Addr} {od13 an13 : Option Addr} {sl13 : Array (Option Value)} {oc13 kV13 dc13 pm13 cd13 ct13 : Value} (a13 : PySem.W.nsIn K mainGlobals "check_worker" = some (some (.ref f13))) (l13 : K.lookup f13 = some ⟨oc13, od13, .func (PySem.W.fnOf "check_worker" "check_worker" (defArgs s_check_worker) (defBody s_check_worker) (defScope s_check_worker) .none kV13 dc13 pm13 an13 cd13 ct13), sl13⟩) (c13 : PySem.W.codeIn K cd13 "check_worker" = true) (k13 : PySem.W.keepIn K (.ref f13) = true)
    {f14 : Addr} {od14 an14 : Option Addr} {sl14 : Array (Option Value)} {oc14 kV14 dc14 pm14 cd14 ct14 : Value} (a14 : PySem.W.nsIn K mainGlobals "check_many" = some (some (.ref f14))) (l14 : K.lookup f14 = some ⟨oc14, od14, .func (PySem.W.fnOf "check_many" "check_many" (defArgs s_check_many) (defBody s_check_many) (defScope s_check_many) .none kV14 dc14 pm14 an14 cd14 ct14), sl14⟩) (c14 : PySem.W.codeIn K cd14 "check_many" = true) (k14 : PySem.W.keepIn K (.ref f14) = true)
    {f15 : Addr} {od15 an15 : Option Addr} {sl15 : Array (Option Value)} {oc15 kV15 dc15 pm15 cd15 ct15 : Value} (a15 : PySem.W.nsIn K mainGlobals "fraction" = some (some (.ref f15))) (l15 : K.lookup f15 = some ⟨oc15, od15, .func (PySem.W.fnOf "fraction" "fraction" (defArgs s_fraction) (defBody s_fraction) (defScope s_fraction) .none kV15 dc15 pm15 an15 cd15 ct15), sl15⟩) (c15 : PySem.W.codeIn K cd15 "fraction" = true) (k15 : PySem.W.keepIn K (.ref f15) = true)
    {f16 : Addr} {od16 an16 : Option Addr} {sl16 : Array (Option Value)} {oc16 kV16 dc16 pm16 cd16 ct16 : Value} (a16 : PySem.W.nsIn K mainGlobals "hits_behind" = some (some (.ref f16))) (l16 : K.lookup f16 = some ⟨oc16, od16, .func (PySem.W.fnOf "hits_behind" "hits_behind" (defArgs s_hits_behind) (defBody s_hits_behind) (defScope s_hits_behind) .none kV16 dc16 pm16 an16 cd16 ct16), sl16⟩) (c16 : PySem.W.codeIn K cd16 "hits_behind" = true) (k16 : PySem.W.keepIn K (.ref f16) = true)
    {f17 : Addr} {od17 an17 : Option Addr} {sl17 : Array (Option Value)} {oc17 kV17 dc17 pm17 cd17 ct17 : Value} (a17 : PySem.W.nsIn K mainGlobals "levels_behind" = some (some (.ref f17))) (l17 : K.lookup f17 = some ⟨oc17, od17, .func (PySem.W.fnOf "levels_behind" "levels_behind" (defArgs s_levels_behind) (defBody s_levels_behind) (defScope s_levels_behind) .none kV17 dc17 pm17 an17 cd17 ct17), sl17⟩) (c17 : PySem.W.codeIn K cd17 "levels_behind" = true) (k17 : PySem.W.keepIn K (.ref f17) = true)
    {f18 : Addr} {od18 an18 : Option Addr} {sl18 : Array (Option Value)} {oc18 kV18 dc18 pm18 cd18 ct18 : Value} (a18 : PySem.W.nsIn K mainGlobals "count_lists" = some (some (.ref f18))) (l18 : K.lookup f18 = some ⟨oc18, od18, .func (PySem.W.fnOf "count_lists" "count_lists" (defArgs s_count_lists) (defBody s_count_lists) (defScope s_count_lists) .none kV18 dc18 pm18 an18 cd18 ct18), sl18⟩) (c18 : PySem.W.codeIn K cd18 "count_lists" = true) (k18 : PySem.W.keepIn K (.ref f18) = true)
    {f19 : Addr} {od19 an19 : Option Addr} {sl19 : Array (Option Value)} {oc19 kV19 dc19 pm19 cd19 ct19 : Value} (a19 : PySem.W.nsIn K mainGlobals "pair_by_hits" = some (some (.ref f19))) (l19 : K.lookup f19 = some ⟨oc19, od19, .func (PySem.W.fnOf "pair_by_hits" "pair_by_hits" (defArgs s_pair_by_hits) (defBody s_pair_by_hits) (defScope s_pair_by_hits) .none kV19 dc19 pm19 an19 cd19 ct19), sl19⟩) (c19 : PySem.W.codeIn K cd19 "pair_by_hits" = true) (k19 : PySem.W.keepIn K (.ref f19) = true)
    {f20 : Addr} {od20 an20 : Option Addr} {sl20 : Array (Option Value)} {oc20 kV20 dc20 pm20 cd20 ct20 : Value} (a20 : PySem.W.nsIn K mainGlobals "mean_hits" = some (some (.ref f20))) (l20 : K.lookup f20 = some ⟨oc20, od20, .func (PySem.W.fnOf "mean_hits" "mean_hits" (defArgs s_mean_hits) (defBody s_mean_hits) (defScope s_mean_hits) .none kV20 dc20 pm20 an20 cd20 ct20), sl20⟩) (c20 : PySem.W.codeIn K cd20 "mean_hits" = true) (k20 : PySem.W.keepIn K (.ref f20) = true)
    {f21 : Addr} {od21 an21 : Option Addr} {sl21 : Array (Option Value)} {oc21 kV21 dc21 pm21 cd21 ct21 : Value} (a21 : PySem.W.nsIn K mainGlobals "_law_counted" = some (some (.ref f21))) (l21 : K.lookup f21 = some ⟨oc21, od21, .func (PySem.W.fnOf "_law_counted" "_law_counted" (defArgs s_law_counted) (defBody s_law_counted) (defScope s_law_counted) .none kV21 dc21 pm21 an21 cd21 ct21), sl21⟩) (c21 : PySem.W.codeIn K cd21 "_law_counted" = true) (k21 : PySem.W.keepIn K (.ref f21) = true)
    {f22 : Addr} {od22 an22 : Option Addr} {sl22 : Array (Option Value)} {oc22 kV22 dc22 pm22 cd22 ct22 : Value} (a22 : PySem.W.nsIn K mainGlobals "_law_hits" = some (some (.ref f22))) (l22 : K.lookup f22 = some ⟨oc22, od22, .func (PySem.W.fnOf "_law_hits" "_law_hits" (defArgs s_law_hits) (defBody s_law_hits) (defScope s_law_hits) .none kV22 dc22 pm22 an22 cd22 ct22), sl22⟩) (c22 : PySem.W.codeIn K cd22 "_law_hits" = true) (k22 : PySem.W.keepIn K (.ref f22) = true)
    {f23 : Addr} {od23 an23 : Option Addr} {sl23 : Array (Option Value)} {oc23 kV23 dc23 pm23 cd23 ct23 : Value} (a23 : PySem.W.nsIn K mainGlobals "_law_pick" = some (some (.ref f23))) (l23 : K.lookup f23 = some ⟨oc23, od23, .func (PySem.W.fnOf "_law_pick" "_law_pick" (defArgs s_law_pick) (defBody s_law_pick) (defScope s_law_pick) .none kV23 dc23 pm23 an23 cd23 ct23), sl23⟩) (c23 : PySem.W.codeIn K cd23 "_law_pick" = true) (k23 : PySem.W.keepIn K (.ref f23) = true)
    {f24 : Addr} {od24 an24 : Option Addr} {sl24 : Array (Option Value)} {oc24 kV24 dc24 pm24 cd24 ct24 : Value} (a24 : PySem.W.nsIn K mainGlobals "_law_lowest" = some (some (.ref f24))) (l24 : K.lookup f24 = some ⟨oc24, od24, .func (PySem.W.fnOf "_law_lowest" "_law_lowest" (defArgs s_law_lowest) (defBody s_law_lowest) (defScope s_law_lowest) .none kV24 dc24 pm24 an24 cd24 ct24), sl24⟩) (c24 : PySem.W.codeIn K cd24 "_law_lowest" = true) (k24 : PySem.W.keepIn K (.ref f24) = true)
    {f25 : Addr} {od25 an25 : Option Addr} {sl25 : Array (Option Value)} {oc25 kV25 dc25 pm25 cd25 ct25 : Value} (a25 : PySem.W.nsIn K mainGlobals "_law_pair_right" = some (some (.ref f25))) (l25 : K.lookup f25 = some ⟨oc25, od25, .func (PySem.W.fnOf "_law_pair_right" "_law_pair_right" (defArgs s_law_pair_right) (defBody s_law_pair_right) (defScope s_law_pair_right) .none kV25 dc25 pm25 an25 cd25 ct25), sl25⟩) (c25 : PySem.W.codeIn K cd25 "_law_pair_right" = true) (k25 : PySem.W.keepIn K (.ref f25) = true)
    {f26 : Addr} {od26 an26 : Option Addr} {sl26 : Array (Option Value)} {oc26 kV26 dc26 pm26 cd26 ct26 : Value} (a26 : PySem.W.nsIn K mainGlobals "_law_right" = some (some (.ref f26))) (l26 : K.lookup f26 = some ⟨oc26, od26, .func (PySem.W.fnOf "_law_right" "_law_right" (defArgs s_law_right) (defBody s_law_right) (defScope s_law_right) .none kV26 dc26 pm26 an26 cd26 ct26), sl26⟩) (c26 : PySem.W.codeIn K cd26 "_law_right" = true) (k26 : PySem.W.keepIn K (.ref f26) = true)
    {f27 : Addr} {od27 an27 : Option Addr} {sl27 : Array (Option Value)} {oc27 kV27 dc27 pm27 cd27 ct27 : Value} (a27 : PySem.W.nsIn K mainGlobals "_law_deal" = some (some (.ref f27))) (l27 : K.lookup f27 = some ⟨oc27, od27, .func (PySem.W.fnOf "_law_deal" "_law_deal" (defArgs s_law_deal) (defBody s_law_deal) (defScope s_law_deal) .none kV27 dc27 pm27 an27 cd27 ct27), sl27⟩) (c27 : PySem.W.codeIn K cd27 "_law_deal" = true) (k27 : PySem.W.keepIn K (.ref f27) = true)
    {f28 : Addr} {od28 an28 : Option Addr} {sl28 : Array (Option Value)} {oc28 kV28 dc28 pm28 cd28 ct28 : Value} (a28 : PySem.W.nsIn K mainGlobals "_law_low" = some (some (.ref f28))) (l28 : K.lookup f28 = some ⟨oc28, od28, .func (PySem.W.fnOf "_law_low" "_law_low" (defArgs s_law_low) (defBody s_law_low) (defScope s_law_low) .none kV28 dc28 pm28 an28 cd28 ct28), sl28⟩) (c28 : PySem.W.codeIn K cd28 "_law_low" = true) (k28 : PySem.W.keepIn K (.ref f28) = true)
    {f29 : Addr} {od29 an29 : Option Addr} {sl29 : Array (Option Value)} {oc29 kV29 dc29 pm29 cd29 ct29 : Value} (a29 : PySem.W.nsIn K mainGlobals "law" = some (some (.ref f29))) (l29 : K.lookup f29 = some ⟨oc29, od29, .func (PySem.W.fnOf "law" "law" (defArgs s_law) (defBody s_law) (defScope s_law) .none kV29 dc29 pm29 an29 cd29 ct29), sl29⟩) (c29 : PySem.W.codeIn K cd29 "law" = true) (k29 : PySem.W.keepIn K (.ref f29) = true)
    (z_abs : PySem.W.nsIn K mainGlobals "abs" = some none)
    (z_all : PySem.W.nsIn K mainGlobals "all" = some none)
    (z_bool : PySem.W.nsIn K mainGlobals "bool" = some none)
    (z_enumerate : PySem.W.nsIn K mainGlobals "enumerate" = some none)
    (z_int : PySem.W.nsIn K mainGlobals "int" = some none)
    (z_isinstance : PySem.W.nsIn K mainGlobals "isinstance" = some none)
    (z_len : PySem.W.nsIn K mainGlobals "len" = some none)
    (z_list : PySem.W.nsIn K mainGlobals "list" = some none)
    (z_max : PySem.W.nsIn K mainGlobals "max" = some none)
    (z_min : PySem.W.nsIn K mainGlobals "min" = some none)
    (z_range : PySem.W.nsIn K mainGlobals "range" = some none)
    (z_repr : PySem.W.nsIn K mainGlobals "repr" = some none)
    (z_sorted : PySem.W.nsIn K mainGlobals "sorted" = some none)
    (z_sum : PySem.W.nsIn K mainGlobals "sum" = some none)
    (z_zip : PySem.W.nsIn K mainGlobals "zip" = some none)
    {tk_GREATEST_SPARE : Tok} (y_GREATEST_SPARE : PySem.W.nsIn K mainGlobals "GREATEST_SPARE" = some (some (.int 40 tk_GREATEST_SPARE)))
    {tk_MOST_WORKERS : Tok} (y_MOST_WORKERS : PySem.W.nsIn K mainGlobals "MOST_WORKERS" = some (some (.int 20 tk_MOST_WORKERS)))
    (yb_factorial : PySem.W.nsIn K mainGlobals "factorial" = some (some (.builtin "math.factorial")))
    (yb_gcd : PySem.W.nsIn K mainGlobals "gcd" = some (some (.builtin "math.gcd"))) :
    ∃ fd : FuncData, (∀ (s : Shared) (v : Value), BindsTo s fd ⟨[v], []⟩ [("script", v)]) ∧ ∀ base : Heap, K.In base → base.Ns mainGlobals mg → FnG l.prog w K mg base CX0 8 fa fd ["script"] (spLaw K) := by
  have e := hfa.symm.trans (PySem.W.mg_of X G a29)
  cases e
  have F0 := fun_mk (st := s_law_factorial) l0 c0 k0
  have F1 := fun_mk (st := s_law_store) l1 c1 k1
  have F2 := fun_mk (st := s_spares_of) l2 c2 k2
  have F3 := fun_mk (st := s_is_whole) l3 c3 k3
  have F4 := fun_mk (st := s_is_team) l4 c4 k4
  have F5 := fun_mk (st := s_check_team) l5 c5 k5
  have F6 := fun_mk (st := s_check_levels) l6 c6 k6
  have F7 := fun_mk (st := s_counts_with_next) l7 c7 k7
  have F8 := fun_mk (st := s_counts_along) l8 c8 k8
  have F9 := fun_mk (st := s_item_or_0) l9 c9 k9
  have F10 := fun_mk (st := s_hits_along) l10 c10 k10
  have F11 := fun_mk (st := s_hit_counts) l11 c11 k11
  have F12 := fun_mk (st := s_is_within) l12 c12 k12
  have F13 := fun_mk (st := s_check_worker) l13 c13 k13
  have F14 := fun_mk (st := s_check_many) l14 c14 k14
  have F15 := fun_mk (st := s_fraction) l15 c15 k15
  have F16 := fun_mk (st := s_hits_behind) l16 c16 k16
  have F17 := fun_mk (st := s_levels_behind) l17 c17 k17
  have F18 := fun_mk (st := s_count_lists) l18 c18 k18
  have F19 := fun_mk (st := s_pair_by_hits) l19 c19 k19
  have F20 := fun_mk (st := s_mean_hits) l20 c20 k20
  have F21 := fun_mk (st := s_law_counted) l21 c21 k21
  have F22 := fun_mk (st := s_law_hits) l22 c22 k22
  have F23 := fun_mk (st := s_law_pick) l23 c23 k23
  have F24 := fun_mk (st := s_law_lowest) l24 c24 k24
  have F25 := fun_mk (st := s_law_pair_right) l25 c25 k25
  have F26 := fun_mk (st := s_law_right) l26 c26 k26
  have F27 := fun_mk (st := s_law_deal) l27 c27 k27
  have F28 := fun_mk (st := s_law_low) l28 c28 k28
  have F29 := fun_mk (st := s_law) l29 c29 k29
  have m_abs := PySem.W.mg_none_of X G z_abs
  have m_all := PySem.W.mg_none_of X G z_all
  have m_bool := PySem.W.mg_none_of X G z_bool
  have m_enumerate := PySem.W.mg_none_of X G z_enumerate
  have m_int := PySem.W.mg_none_of X G z_int
  have m_isinstance := PySem.W.mg_none_of X G z_isinstance
  have m_len := PySem.W.mg_none_of X G z_len
  have m_list := PySem.W.mg_none_of X G z_list
  have m_max := PySem.W.mg_none_of X G z_max
  have m_min := PySem.W.mg_none_of X G z_min
  have m_range := PySem.W.mg_none_of X G z_range
  have m_repr := PySem.W.mg_none_of X G z_repr
  have m_sorted := PySem.W.mg_none_of X G z_sorted
  have m_sum := PySem.W.mg_none_of X G z_sum
  have m_zip := PySem.W.mg_none_of X G z_zip
  have c_GREATEST_SPARE := PySem.W.mg_of X G y_GREATEST_SPARE
  have c_MOST_WORKERS := PySem.W.mg_of X G y_MOST_WORKERS
  have b_factorial := PySem.W.mg_of X G yb_factorial
  have b_gcd := PySem.W.mg_of X G yb_gcd
  have b0 := F0.binds (ps := ["upto"]) fun _ _ _ _ _ _ us hl => match us, hl with | [_], _ => rfl
  have b1 := F1.binds (ps := ["script", "k"]) fun _ _ _ _ _ _ us hl => match us, hl with | [_, _], _ => rfl
  have b2 := F2.binds (ps := ["levels"]) fun _ _ _ _ _ _ us hl => match us, hl with | [_], _ => rfl
  have b3 := F3.binds (ps := ["thing"]) fun _ _ _ _ _ _ us hl => match us, hl with | [_], _ => rfl
  have b4 := F4.binds (ps := ["thing"]) fun _ _ _ _ _ _ us hl => match us, hl with | [_], _ => rfl
  have b5 := F5.binds (ps := ["team"]) fun _ _ _ _ _ _ us hl => match us, hl with | [_], _ => rfl
  have b6 := F6.binds (ps := ["team"]) fun _ _ _ _ _ _ us hl => match us, hl with | [_], _ => rfl
  have b7 := F7.binds (ps := ["found", "level"]) fun _ _ _ _ _ _ us hl => match us, hl with | [_, _], _ => rfl
  have b8 := F8.binds (ps := ["levels"]) fun _ _ _ _ _ _ us hl => match us, hl with | [_], _ => rfl
  have b9 := F9.binds (ps := ["numbers", "place"]) fun _ _ _ _ _ _ us hl => match us, hl with | [_, _], _ => rfl
  have b10 := F10.binds (ps := ["levels"]) fun _ _ _ _ _ _ us hl => match us, hl with | [_], _ => rfl
  have b11 := F11.binds (ps := ["team"]) fun _ _ _ _ _ _ us hl => match us, hl with | [_], _ => rfl
  have b12 := F12.binds (ps := ["thing", "least", "greatest"]) fun _ _ _ _ _ _ us hl => match us, hl with | [_, _, _], _ => rfl
  have b13 := F13.binds (ps := ["team", "worker"]) fun _ _ _ _ _ _ us hl => match us, hl with | [_, _], _ => rfl
  have b14 := F14.binds (ps := ["team", "many"]) fun _ _ _ _ _ _ us hl => match us, hl with | [_, _], _ => rfl
  have b15 := F15.binds (ps := ["top", "bottom"]) fun _ _ _ _ _ _ us hl => match us, hl with | [_, _], _ => rfl
  have b16 := F16.binds (ps := ["levels", "job", "hits"]) fun _ _ _ _ _ _ us hl => match us, hl with | [_, _, _], _ => rfl
  have b17 := F17.binds (ps := ["levels", "job"]) fun _ _ _ _ _ _ us hl => match us, hl with | [_, _], _ => rfl
  have b18 := F18.binds (ps := ["levels", "job", "hits"]) fun _ _ _ _ _ _ us hl => match us, hl with | [_, _, _], _ => rfl
  have b19 := F19.binds (ps := ["team", "worker", "job", "hits"]) fun _ _ _ _ _ _ us hl => match us, hl with | [_, _, _, _], _ => rfl
  have b20 := F20.binds (ps := ["team"]) fun _ _ _ _ _ _ us hl => match us, hl with | [_], _ => rfl
  have b21 := F21.binds (ps := ["deal"]) fun _ _ _ _ _ _ us hl => match us, hl with | [_], _ => rfl
  have b22 := F22.binds (ps := ["deal"]) fun _ _ _ _ _ _ us hl => match us, hl with | [_], _ => rfl
  have b23 := F23.binds (ps := ["store", "bound"]) fun _ _ _ _ _ _ us hl => match us, hl with | [_, _], _ => rfl
  have b24 := F24.binds (ps := ["top", "bottom"]) fun _ _ _ _ _ _ us hl => match us, hl with | [_, _], _ => rfl
  have b25 := F25.binds (ps := ["store", "deal", "rows"]) fun _ _ _ _ _ _ us hl => match us, hl with | [_, _, _], _ => rfl
  have b26 := F26.binds (ps := ["store", "deal"]) fun _ _ _ _ _ _ us hl => match us, hl with | [_, _], _ => rfl
  have b27 := F27.binds (ps := ["store", "most", "top"]) fun _ _ _ _ _ _ us hl => match us, hl with | [_, _, _], _ => rfl
  have b28 := F28.binds (ps := ["store", "most"]) fun _ _ _ _ _ _ us hl => match us, hl with | [_, _], _ => rfl
  refine ⟨PySem.W.fnOf "law" "law" (defArgs s_law) (defBody s_law) (defScope s_law) .none kV29 dc29 pm29 an29 cd29 ct29, fun s v => .of_eq rfl, fun base _ _ => ?_⟩
  have d_law_factorial : DefG l.prog w K mg base "_law_factorial" ["upto"] 1 m_law_factorial := ⟨_, _, PySem.W.mg_of X G a0, ok_law_factorial F0 (m_range := m_range), F0.kp, b0⟩
  have d_law_store : DefG l.prog w K mg base "_law_store" ["script", "k"] 1 m_law_store := ⟨_, _, PySem.W.mg_of X G a1, ok_law_store F1 (m_len := m_len) (m_abs := m_abs) (m_int := m_int) (m_max := m_max), F1.kp, b1⟩
  have d_spares_of : DefG l.prog w K mg base "spares_of" ["levels"] 1 m_spares_of := ⟨_, _, PySem.W.mg_of X G a2, ok_spares_of F2 (m_sorted := m_sorted) (m_enumerate := m_enumerate), F2.kp, b2⟩
  have d_is_whole : DefG l.prog w K mg base "is_whole" ["thing"] 1 m_is_whole := ⟨_, _, PySem.W.mg_of X G a3, ok_is_whole F3 (m_int := m_int) (m_isinstance := m_isinstance) (m_bool := m_bool), F3.kp, b3⟩
  have d_is_team : DefG l.prog w K mg base "is_team" ["thing"] 2 m_is_team := ⟨_, _, PySem.W.mg_of X G a4, ok_is_team F4 (m_list := m_list) (m_isinstance := m_isinstance) (m_len := m_len) (m_all := m_all) (m_max := m_max) (c_MOST_WORKERS := c_MOST_WORKERS) (c_GREATEST_SPARE := c_GREATEST_SPARE) (d_is_whole := d_is_whole) (d_spares_of := d_spares_of), F4.kp, b4⟩
  have d_check_team : DefG l.prog w K mg base "check_team" ["team"] 3 m_check_team := ⟨_, _, PySem.W.mg_of X G a5, ok_check_team F5 (d_is_team := d_is_team), F5.kp, b5⟩
  have d_check_levels : DefG l.prog w K mg base "check_levels" ["team"] 4 m_check_levels := ⟨_, _, PySem.W.mg_of X G a6, ok_check_levels F6 (m_max := m_max) (m_len := m_len) (d_check_team := d_check_team), F6.kp, b6⟩
  have d_counts_with_next : DefG l.prog w K mg base "counts_with_next" ["found", "level"] 1 m_counts_with_next := ⟨_, _, PySem.W.mg_of X G a7, ok_counts_with_next F7 (m_enumerate := m_enumerate), F7.kp, b7⟩
  have d_counts_along : DefG l.prog w K mg base "counts_along" ["levels"] 2 m_counts_along := ⟨_, _, PySem.W.mg_of X G a8, ok_counts_along F8 (d_counts_with_next := d_counts_with_next), F8.kp, b8⟩
  have d_item_or_0 : DefG l.prog w K mg base "item_or_0" ["numbers", "place"] 1 m_item_or_0 := ⟨_, _, PySem.W.mg_of X G a9, ok_item_or_0 F9 (m_len := m_len), F9.kp, b9⟩
  have d_hits_along : DefG l.prog w K mg base "hits_along" ["levels"] 3 m_hits_along := ⟨_, _, PySem.W.mg_of X G a10, ok_hits_along F10 (m_len := m_len) (m_sorted := m_sorted) (m_range := m_range) (d_counts_along := d_counts_along) (d_item_or_0 := d_item_or_0) (b_factorial := b_factorial), F10.kp, b10⟩
  have d_hit_counts : DefG l.prog w K mg base "hit_counts" ["team"] 5 m_hit_counts := ⟨_, _, PySem.W.mg_of X G a11, ok_hit_counts F11 (d_check_levels := d_check_levels) (d_hits_along := d_hits_along), F11.kp, b11⟩
  have d_is_within : DefG l.prog w K mg base "is_within" ["thing", "least", "greatest"] 2 m_is_within := ⟨_, _, PySem.W.mg_of X G a12, ok_is_within F12 (d_is_whole := d_is_whole), F12.kp, b12⟩
  have d_check_worker : DefG l.prog w K mg base "check_worker" ["team", "worker"] 3 m_check_worker := ⟨_, _, PySem.W.mg_of X G a13, ok_check_worker F13 (m_len := m_len) (d_is_within := d_is_within), F13.kp, b13⟩
  have d_check_many : DefG l.prog w K mg base "check_many" ["team", "many"] 3 m_check_many := ⟨_, _, PySem.W.mg_of X G a14, ok_check_many F14 (m_len := m_len) (d_is_within := d_is_within), F14.kp, b14⟩
  have d_fraction : DefG l.prog w K mg base "fraction" ["top", "bottom"] 1 m_fraction := ⟨_, _, PySem.W.mg_of X G a15, ok_fraction F15 (b_gcd := b_gcd), F15.kp, b15⟩
  have d_hits_behind : DefG l.prog w K mg base "hits_behind" ["levels", "job", "hits"] 1 m_hits_behind := ⟨_, _, PySem.W.mg_of X G a16, ok_hits_behind F16 , F16.kp, b16⟩
  have d_levels_behind : DefG l.prog w K mg base "levels_behind" ["levels", "job"] 1 m_levels_behind := ⟨_, _, PySem.W.mg_of X G a17, ok_levels_behind F17 , F17.kp, b17⟩
  have d_count_lists : DefG l.prog w K mg base "count_lists" ["levels", "job", "hits"] 4 m_count_lists := ⟨_, _, PySem.W.mg_of X G a18, ok_count_lists F18 (d_hits_behind := d_hits_behind) (d_levels_behind := d_levels_behind) (d_hits_along := d_hits_along) (d_item_or_0 := d_item_or_0), F18.kp, b18⟩
  have d_pair_by_hits : DefG l.prog w K mg base "pair_by_hits" ["team", "worker", "job", "hits"] 5 m_pair_by_hits := ⟨_, _, PySem.W.mg_of X G a19, ok_pair_by_hits F19 (m_len := m_len) (d_check_levels := d_check_levels) (d_check_worker := d_check_worker) (d_is_within := d_is_within) (d_check_many := d_check_many) (d_hits_along := d_hits_along) (d_count_lists := d_count_lists) (d_fraction := d_fraction), F19.kp, b19⟩
  have d_mean_hits : DefG l.prog w K mg base "mean_hits" ["team"] 5 m_mean_hits := ⟨_, _, PySem.W.mg_of X G a20, ok_mean_hits F20 (m_len := m_len) (m_sum := m_sum) (d_check_levels := d_check_levels) (d_fraction := d_fraction), F20.kp, b20⟩
  have d_law_counted : DefG l.prog w K mg base "_law_counted" ["deal"] 1 m_law_counted := ⟨_, _, PySem.W.mg_of X G a21, ok_law_counted F21 (m_len := m_len) (m_range := m_range) (m_sorted := m_sorted) (m_enumerate := m_enumerate) (m_zip := m_zip), F21.kp, b21⟩
  have d_law_hits : DefG l.prog w K mg base "_law_hits" ["deal"] 2 m_law_hits := ⟨_, _, PySem.W.mg_of X G a22, ok_law_hits F22 (m_len := m_len) (m_enumerate := m_enumerate) (m_zip := m_zip) (d_law_counted := d_law_counted) (d_law_factorial := d_law_factorial), F22.kp, b22⟩
  have d_law_pick : DefG l.prog w K mg base "_law_pick" ["store", "bound"] 1 m_law_pick := ⟨_, _, PySem.W.mg_of X G a23, ok_law_pick F23 (m_int := m_int), F23.kp, b23⟩
  have d_law_lowest : DefG l.prog w K mg base "_law_lowest" ["top", "bottom"] 1 m_law_lowest := ⟨_, _, PySem.W.mg_of X G a24, ok_law_lowest F24 (m_int := m_int), F24.kp, b24⟩
  have d_law_pair_right : DefG l.prog w K mg base "_law_pair_right" ["store", "deal", "rows"] 6 m_law_pair_right := ⟨_, _, PySem.W.mg_of X G a25, ok_law_pair_right F25 (m_enumerate := m_enumerate) (m_len := m_len) (m_range := m_range) (m_int := m_int) (m_repr := m_repr) (d_law_pick := d_law_pick) (d_law_hits := d_law_hits) (d_law_lowest := d_law_lowest) (d_pair_by_hits := d_pair_by_hits), F25.kp, b25⟩
  have d_law_right : DefG l.prog w K mg base "_law_right" ["store", "deal"] 7 m_law_right := ⟨_, _, PySem.W.mg_of X G a26, ok_law_right F26 (m_list := m_list) (m_repr := m_repr) (m_sum := m_sum) (m_len := m_len) (m_enumerate := m_enumerate) (d_law_hits := d_law_hits) (d_hit_counts := d_hit_counts) (d_law_factorial := d_law_factorial) (d_mean_hits := d_mean_hits) (d_law_lowest := d_law_lowest) (d_law_pair_right := d_law_pair_right), F26.kp, b26⟩
  have d_law_deal : DefG l.prog w K mg base "_law_deal" ["store", "most", "top"] 2 m_law_deal := ⟨_, _, PySem.W.mg_of X G a27, ok_law_deal F27 (m_range := m_range) (m_min := m_min) (m_len := m_len) (m_int := m_int) (d_law_pick := d_law_pick), F27.kp, b27⟩
  have d_law_low : DefG l.prog w K mg base "_law_low" ["store", "most"] 3 m_law_low := ⟨_, _, PySem.W.mg_of X G a28, ok_law_low F28 (m_min := m_min) (d_law_pick := d_law_pick) (d_law_deal := d_law_deal), F28.kp, b28⟩
  exact (ok_law F29 (m_len := m_len) (m_min := m_min) (m_max := m_max) (m_range := m_range) (m_int := m_int) (m_list := m_list) (d_law_store := d_law_store) (d_law_low := d_law_low) (d_law_right := d_law_right) (d_law_factorial := d_law_factorial) (d_hit_counts := d_hit_counts) (d_pair_by_hits := d_pair_by_hits)).imp (spLaw_of law_true)
end Tk29
open PySem PySem.W PyProof.Rows
set_option maxHeartbeats 0 in
theorem PySem.Challenge.cw_nestboards_k29_hits_of_great_teams_holds : PySem.Challenge.rw_nestboards_k29_hits_of_great_teams.Holds := by
  w_on; o_law; k_head; (case hw => w_witness2)
  k_fill
  refine Vm.walk_G (l := PySem.Challenge.rw_nestboards_k29_hits_of_great_teams) (n := 63) (k := 8) (x := "script") (sp := fun w => Tk29.spLaw _) rfl (by decide) rfl ⟨rfl, by decide, by decide⟩ (fun w h Y => PySem.W.kIn_of Y) ?F (fun _ _ a ns hl _ hS => ⟨a, ns, rfl, hS, hl, fun _ => rfl⟩)
  case F =>
    intro w mg fa h KX G hmg
    refine' Tk29.all_mk KX G hmg rfl Tk29.law_true ?a0 ?l0 ?c0 ?k0 ?a1 ?l1 ?c1 ?k1 ?a2 ?l2 ?c2 ?k2 ?a3 ?l3 ?c3 ?k3 ?a4 ?l4 ?c4 ?k4 ?a5 ?l5 ?c5 ?k5 ?a6 ?l6 ?c6 ?k6 ?a7 ?l7 ?c7 ?k7 ?a8 ?l8 ?c8 ?k8 ?a9 ?l9 ?c9 ?k9 ?a10 ?l10 ?c10 ?k10 ?a11 ?l11 ?c11 ?k11 ?a12 ?l12 ?c12 ?k12 ?a13 ?l13 ?c13 ?k13 ?a14 ?l14 ?c14 ?k14 ?a15 ?l15 ?c15 ?k15 ?a16 ?l16 ?c16 ?k16 ?a17 ?l17 ?c17 ?k17 ?a18 ?l18 ?c18 ?k18 ?a19 ?l19 ?c19 ?k19 ?a20 ?l20 ?c20 ?k20 ?a21 ?l21 ?c21 ?k21 ?a22 ?l22 ?c22 ?k22 ?a23 ?l23 ?c23 ?k23 ?a24 ?l24 ?c24 ?k24 ?a25 ?l25 ?c25 ?k25 ?a26 ?l26 ?c26 ?k26 ?a27 ?l27 ?c27 ?k27 ?a28 ?l28 ?c28 ?k28 ?a29 ?l29 ?c29 ?k29 ?z_abs ?z_all ?z_bool ?z_enumerate ?z_int ?z_isinstance ?z_len ?z_list ?z_max ?z_min ?z_range ?z_repr ?z_sorted ?z_sum ?z_zip ?y_GREATEST_SPARE ?y_MOST_WORKERS ?yb_factorial ?yb_gcd
    (case a0 => k_is); (case l0 => k_is); (case c0 => k_is); (case k0 => k_is)
    (case a1 => k_is); (case l1 => k_is); (case c1 => k_is); (case k1 => k_is)
    (case a2 => k_is); (case l2 => k_is); (case c2 => k_is); (case k2 => k_is)
    (case a3 => k_is); (case l3 => k_is); (case c3 => k_is); (case k3 => k_is)
    (case a4 => k_is); (case l4 => k_is); (case c4 => k_is); (case k4 => k_is)
    (case a5 => k_is); (case l5 => k_is); (case c5 => k_is); (case k5 => k_is)
    (case a6 => k_is); (case l6 => k_is); (case c6 => k_is); (case k6 => k_is)
    (case a7 => k_is); (case l7 => k_is); (case c7 => k_is); (case k7 => k_is)
    (case a8 => k_is); (case l8 => k_is); (case c8 => k_is); (case k8 => k_is)
    (case a9 => k_is); (case l9 => k_is); (case c9 => k_is); (case k9 => k_is)
    (case a10 => k_is); (case l10 => k_is); (case c10 => k_is); (case k10 => k_is)
    (case a11 => k_is); (case l11 => k_is); (case c11 => k_is); (case k11 => k_is)
    (case a12 => k_is); (case l12 => k_is); (case c12 => k_is); (case k12 => k_is)
    (case a13 => k_is); (case l13 => k_is); (case c13 => k_is); (case k13 => k_is)
    (case a14 => k_is); (case l14 => k_is); (case c14 => k_is); (case k14 => k_is)
    (case a15 => k_is); (case l15 => k_is); (case c15 => k_is); (case k15 => k_is)
    (case a16 => k_is); (case l16 => k_is); (case c16 => k_is); (case k16 => k_is)
    (case a17 => k_is); (case l17 => k_is); (case c17 => k_is); (case k17 => k_is)
    (case a18 => k_is); (case l18 => k_is); (case c18 => k_is); (case k18 => k_is)
    (case a19 => k_is); (case l19 => k_is); (case c19 => k_is); (case k19 => k_is)
    (case a20 => k_is); (case l20 => k_is); (case c20 => k_is); (case k20 => k_is)
    (case a21 => k_is); (case l21 => k_is); (case c21 => k_is); (case k21 => k_is)
    (case a22 => k_is); (case l22 => k_is); (case c22 => k_is); (case k22 => k_is)
    (case a23 => k_is); (case l23 => k_is); (case c23 => k_is); (case k23 => k_is)
    (case a24 => k_is); (case l24 => k_is); (case c24 => k_is); (case k24 => k_is)
    (case a25 => k_is); (case l25 => k_is); (case c25 => k_is); (case k25 => k_is)
    (case a26 => k_is); (case l26 => k_is); (case c26 => k_is); (case k26 => k_is)
    (case a27 => k_is); (case l27 => k_is); (case c27 => k_is); (case k27 => k_is)
    (case a28 => k_is); (case l28 => k_is); (case c28 => k_is); (case k28 => k_is)
    (case a29 => k_is); (case l29 => k_is); (case c29 => k_is); (case k29 => k_is)
    (case z_abs => k_is)
    (case z_all => k_is)
    (case z_bool => k_is)
    (case z_enumerate => k_is)
    (case z_int => k_is)
    (case z_isinstance => k_is)
    (case z_len => k_is)
    (case z_list => k_is)
    (case z_max => k_is)
    (case z_min => k_is)
    (case z_range => k_is)
    (case z_repr => k_is)
    (case z_sorted => k_is)
    (case z_sum => k_is)
    (case z_zip => k_is)
    (case y_GREATEST_SPARE => k_is)
    (case y_MOST_WORKERS => k_is)
    (case yb_factorial => k_is)
    (case yb_gcd => k_is)
