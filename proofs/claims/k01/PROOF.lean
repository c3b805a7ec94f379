import PyProof.Rows.All
import Wide.All
import OpenK.AllK
import Wide.FinOn
import HandS.ForMost
import HandS.Wide
import HandS.IsInst
import HandS.Flow
import HandS.Gcd
import HandS.Defaults
import HandS.Conv
import HandS.Zip
import HandS.Walk
import HandS.NoneIn
import HandS.Style
import HandS.Ends
import HandS.Codes
import HandS.Words
import HandS.WordsList
import HandS.Head0
import HandS.Head1
import HandS.Head2
import HandS.Head3
import HandS.HeadEnd
import HandS.HeadHook1
import HandS.HeadHook2
import HandS.HeadHook3
import HandS.HeadHook4
import PySem.Challenge.RW_ringsorways_k01_whole_sides_of_lines
set_option Elab.async false
set_option linter.all false
set_option maxRecDepth 100000
set_option maxHeartbeats 4000000
set_option exponentiation.threshold 100000
namespace Dl
open PySem PySem.Spec PyProof.Rows L2

/-! ## plain data, plain heaps -/
inductive D where
  | non | bl (b : Bool) | int (i : Int) | str (x : Str) | tup (ds : List D) | ref (n : Nat) | raw (v : V) | fls (ds : List D)

inductive Ob where
  | lst (ds : List D)

abbrev Hd := List Ob
abbrev Ev := List (Option D)

/-- a list that nobody changes -/
def SqF (K : PySem.W.Frag) (H : Hp) (a : Addr) (xs : List V) : Prop := (∃ o, H a = some (.frz o (.lst xs))) ∨ SqL K (fun _ => none) a xs
theorem sql_none {K : PySem.W.Frag} {H : Hp} {a : Addr} {xs : List V} (h : SqL K (fun _ => none) a xs) : SqL K H a xs := by
  rcases h with (h | ⟨o, h⟩) | h
  · cases h
  · cases h
  · exact .inr h
theorem SqF.sq {K : PySem.W.Frag} {H : Hp} {a : Addr} {xs : List V} (h : SqF K H a xs) : SqL K H a xs := by
  rcases h with ⟨o, h⟩ | h
  · exact .inl (.inr ⟨o, h⟩)
  · exact sql_none h
theorem SqF.new {K : PySem.W.Frag} {H : Hp} {a p : Addr} {o : HO} {xs : List V} (h : SqF K H a xs) (n : H p = none) : SqF K (upd H p o) a xs := by
  rcases h with ⟨b, h⟩ | h
  · exact .inl ⟨b, by rw [upd_ne (ne_of_none h n)]; exact h⟩
  · exact .inr h
theorem SqF.put {K : PySem.W.Frag} {H : Hp} {a p : Addr} {o : HO} {xs ys : List V} (h : SqF K H a xs) (n : H p = some (.lst ys)) : SqF K (upd H p o) a xs := by
  rcases h with ⟨b, h⟩ | h
  · exact .inl ⟨b, by rw [upd_ne (ne_of h n (fun z => nomatch z))]; exact h⟩
  · exact .inr h
mutual
def Rep (K : PySem.W.Frag) (ρ : List Addr) (H : Hp) : D → V → Prop
  | .non, v => v = .non
  | .bl b, v => v = .bl b
  | .int i, v => v = .int i
  | .str x, v => v = .str x
  | .tup ds, v => ∃ a vs, v = .ref a ∧ SqT K H a vs ∧ RepL K ρ H ds vs
  | .ref n, v => ∃ a, v = .ref a ∧ ρ[n]? = some a
  | .raw u, v => v = u
  | .fls ds, v => ∃ a vs, v = .ref a ∧ SqF K H a vs ∧ RepL K ρ H ds vs
def RepL (K : PySem.W.Frag) (ρ : List Addr) (H : Hp) : List D → List V → Prop
  | [], vs => vs = []
  | d :: ds, vs => ∃ v r, vs = v :: r ∧ Rep K ρ H d v ∧ RepL K ρ H ds r
end

def Ext (K : PySem.W.Frag) (H H' : Hp) : Prop := (∀ a xs, SqT K H a xs → SqT K H' a xs) ∧ ∀ a xs, SqF K H a xs → SqF K H' a xs
theorem Ext.refl {K : PySem.W.Frag} {H : Hp} : Ext K H H := ⟨fun _ _ h => h, fun _ _ h => h⟩
theorem Ext.trans {K : PySem.W.Frag} {H H1 H2 : Hp} (a : Ext K H H1) (b : Ext K H1 H2) : Ext K H H2 := ⟨fun _ _ h => b.1 _ _ (a.1 _ _ h), fun _ _ h => b.2 _ _ (a.2 _ _ h)⟩
theorem Ext.new {K : PySem.W.Frag} {H : Hp} {p : Addr} {o : HO} (n : H p = none) : Ext K H (upd H p o) := ⟨fun a xs h => by
  rcases h with h | h
  · refine .inl ?_
    rcases h with h | ⟨b, h⟩
    · exact .inl (by rw [upd_ne (ne_of_none h n)]; exact h)
    · exact .inr ⟨b, by rw [upd_ne (ne_of_none h n)]; exact h⟩
  · exact .inr h, fun a xs h => h.new n⟩
theorem Ext.put {K : PySem.W.Frag} {H : Hp} {p : Addr} {ys : List V} {o : HO} (n : H p = some (.lst ys)) : Ext K H (upd H p o) := ⟨fun a xs h => by
  rcases h with h | h
  · refine .inl ?_
    rcases h with h | ⟨b, h⟩
    · exact .inl (by rw [upd_ne (ne_of h n (fun z => nomatch z))]; exact h)
    · exact .inr ⟨b, by rw [upd_ne (ne_of h n (fun z => nomatch z))]; exact h⟩
  · exact .inr h, fun a xs h => h.put n⟩

theorem pre_get {α : Type} {l l' : List α} (h : l <+: l') {n : Nat} {a : α} (e : l[n]? = some a) : l'[n]? = some a := by
  obtain ⟨t, rfl⟩ := h
  rw [List.getElem?_append_left]
  · exact e
  · exact (List.getElem?_eq_some_iff.mp e).1

mutual
theorem Rep.mono {K : PySem.W.Frag} {ρ ρ' : List Addr} {H H' : Hp} (p : ρ <+: ρ') (x : Ext K H H') : ∀ (d : D) (v : V), Rep K ρ H d v → Rep K ρ' H' d v
  | .non, v, h => by simp only [Rep] at h ⊢; exact h
  | .bl b, v, h => by simp only [Rep] at h ⊢; exact h
  | .int i, v, h => by simp only [Rep] at h ⊢; exact h
  | .str z, v, h => by simp only [Rep] at h ⊢; exact h
  | .raw u, v, h => by simp only [Rep] at h ⊢; exact h
  | .ref n, v, h => by
    simp only [Rep] at h ⊢
    obtain ⟨a, e, q⟩ := h
    exact ⟨a, e, pre_get p q⟩
  | .tup ds, v, h => by
    simp only [Rep] at h ⊢
    obtain ⟨a, vs, e, q, r⟩ := h
    exact ⟨a, vs, e, x.1 _ _ q, RepL.mono p x ds vs r⟩
  | .fls ds, v, h => by
    simp only [Rep] at h ⊢
    obtain ⟨a, vs, e, q, r⟩ := h
    exact ⟨a, vs, e, x.2 _ _ q, RepL.mono p x ds vs r⟩
theorem RepL.mono {K : PySem.W.Frag} {ρ ρ' : List Addr} {H H' : Hp} (p : ρ <+: ρ') (x : Ext K H H') : ∀ (ds : List D) (vs : List V), RepL K ρ H ds vs → RepL K ρ' H' ds vs
  | [], vs, h => by simp only [RepL] at h ⊢; exact h
  | d :: ds, vs, h => by
    simp only [RepL] at h ⊢
    obtain ⟨v, r, e, q, t⟩ := h
    exact ⟨v, r, e, Rep.mono p x d v q, RepL.mono p x ds r t⟩
end
section
variable {K : PySem.W.Frag} {ρ : List Addr} {H : Hp}
theorem RepL.length : ∀ {ds : List D} {vs : List V}, RepL K ρ H ds vs → ds.length = vs.length
  | [], vs, h => by simp only [RepL] at h; subst h; rfl
  | d :: ds, vs, h => by
    simp only [RepL] at h
    obtain ⟨v, r, rfl, _, t⟩ := h
    simp [RepL.length t]
theorem RepL.get : ∀ {ds : List D} {vs : List V} {i : Nat} {d : D}, RepL K ρ H ds vs → ds[i]? = some d → ∃ v, vs[i]? = some v ∧ Rep K ρ H d v
  | [], _, _, _, _, e => by simp at e
  | d :: ds, vs, 0, d', h, e => by
    simp only [RepL] at h
    obtain ⟨v, r, rfl, q, _⟩ := h
    simp at e; subst e
    exact ⟨v, rfl, q⟩
  | d :: ds, vs, i + 1, d', h, e => by
    simp only [RepL] at h
    obtain ⟨v, r, rfl, _, t⟩ := h
    obtain ⟨v', e', q⟩ := RepL.get (i := i) t (by simpa using e)
    exact ⟨v', by simpa using e', q⟩
theorem RepL.append : ∀ {ds es : List D} {vs ws : List V}, RepL K ρ H ds vs → RepL K ρ H es ws → RepL K ρ H (ds ++ es) (vs ++ ws)
  | [], _, _, _, h, h' => by simp only [RepL] at h; subst h; exact h'
  | d :: ds, es, vs, ws, h, h' => by
    simp only [RepL] at h
    obtain ⟨v, r, rfl, q, t⟩ := h
    show RepL K ρ H (d :: (ds ++ es)) (v :: (r ++ ws))
    simp only [RepL]
    exact ⟨v, _, rfl, q, RepL.append t h'⟩
theorem RepL.one {d : D} {v : V} (h : Rep K ρ H d v) : RepL K ρ H [d] [v] := by
  simp only [RepL]; exact ⟨v, [], rfl, h, rfl⟩
theorem RepL.nil : RepL K ρ H [] [] := by simp only [RepL]
theorem RepL.set : ∀ {ds : List D} {vs : List V} {i : Nat} {d : D} {v : V}, RepL K ρ H ds vs → Rep K ρ H d v → RepL K ρ H (ds.set i d) (vs.set i v)
  | [], vs, i, d, v, h, q => by simp only [RepL] at h; subst h; simp [RepL]
  | e :: ds, vs, 0, d, v, h, q => by
    simp only [RepL] at h
    obtain ⟨w, r, rfl, _, t⟩ := h
    show RepL K ρ H (d :: ds) (v :: r)
    simp only [RepL]; exact ⟨v, r, rfl, q, t⟩
  | e :: ds, vs, i + 1, d, v, h, q => by
    simp only [RepL] at h
    obtain ⟨w, r, rfl, s, t⟩ := h
    show RepL K ρ H (e :: ds.set i d) (w :: r.set i v)
    simp only [RepL]; exact ⟨w, _, rfl, s, RepL.set t q⟩
theorem RepL.take (n : Nat) : ∀ {ds : List D} {vs : List V}, RepL K ρ H ds vs → RepL K ρ H (ds.take n) (vs.take n) := by
  induction n with
  | zero => intro ds vs _; simp [RepL]
  | succ n ih =>
    intro ds vs h
    cases ds with
    | nil => simp only [RepL] at h; subst h; simp [RepL]
    | cons d ds =>
      simp only [RepL] at h
      obtain ⟨v, r, rfl, q, t⟩ := h
      show RepL K ρ H (d :: ds.take n) (v :: r.take n)
      simp only [RepL]; exact ⟨v, _, rfl, q, ih t⟩
theorem RepL.drop (n : Nat) : ∀ {ds : List D} {vs : List V}, RepL K ρ H ds vs → RepL K ρ H (ds.drop n) (vs.drop n) := by
  induction n with
  | zero => intro ds vs h; exact h
  | succ n ih =>
    intro ds vs h
    cases ds with
    | nil => simp only [RepL] at h; subst h; simp [RepL]
    | cons d ds =>
      simp only [RepL] at h
      obtain ⟨v, r, rfl, q, t⟩ := h
      exact ih t
end

/-! ## the heap -/
def ObR (K : PySem.W.Frag) (ρ : List Addr) (H : Hp) (a : Addr) : Ob → Prop
  | .lst ds => ∃ vs, H a = some (.lst vs) ∧ RepL K ρ H ds vs
structure Rel (K : PySem.W.Frag) (ρ : List Addr) (H : Hp) (hd : Hd) : Prop where
  len : ρ.length = hd.length
  nd : ρ.Nodup
  ob : ∀ (n : Nat) (a : Addr) (o : Ob), ρ[n]? = some a → hd[n]? = some o → ObR K ρ H a o
theorem ObR.there {K : PySem.W.Frag} {ρ : List Addr} {H : Hp} {a : Addr} {o : Ob} (h : ObR K ρ H a o) : ∃ u, H a = some u := by
  cases o with
  | lst ds => obtain ⟨vs, q, _⟩ := h; exact ⟨_, q⟩
theorem ObR.mono {K : PySem.W.Frag} {ρ ρ' : List Addr} {H H' : Hp} {a : Addr} {o : Ob} (h : ObR K ρ H a o) (p : ρ <+: ρ') (x : Ext K H H') (e : ∀ u, H a = some u → H' a = some u) : ObR K ρ' H' a o := by
  cases o with
  | lst ds => obtain ⟨vs, q, r⟩ := h; exact ⟨vs, e _ q, r.mono p x⟩
theorem Rel.there {K : PySem.W.Frag} {ρ : List Addr} {H : Hp} {hd : Hd} (r : Rel K ρ H hd) {a : Addr} (h : a ∈ ρ) : ∃ u, H a = some u := by
  obtain ⟨n, hn, rfl⟩ := List.getElem_of_mem h
  have hl : n < hd.length := by rw [← r.len]; exact hn
  exact (r.ob n _ _ (List.getElem?_eq_getElem hn) (List.getElem?_eq_getElem hl)).there
theorem Rel.fresh {K : PySem.W.Frag} {ρ : List Addr} {H : Hp} {hd : Hd} (r : Rel K ρ H hd) {p : Addr} (h : H p = none) : p ∉ ρ := fun m => by
  obtain ⟨u, e⟩ := r.there m
  rw [h] at e; cases e
theorem nodup_get {l : List Addr} (h : l.Nodup) {n m : Nat} {a : Addr} (e1 : l[n]? = some a) (e2 : l[m]? = some a) : n = m := by
  obtain ⟨h1, e1⟩ := List.getElem?_eq_some_iff.mp e1
  obtain ⟨h2, e2⟩ := List.getElem?_eq_some_iff.mp e2
  have p := List.pairwise_iff_getElem.mp h
  rcases Nat.lt_trichotomy n m with c | c | c
  · exact absurd (e1.trans e2.symm) (p n m h1 h2 c)
  · exact c
  · exact absurd (e2.trans e1.symm) (p m n h2 h1 c)
/-- the slots -/
def SRel (K : PySem.W.Frag) (ρ : List Addr) (H : Hp) (env : Ev) (σ : L2.St) : Prop :=
  σ.length = env.length ∧ ∀ (i : Nat) (d : D), env[i]? = some (some d) → ∃ v, σ[i]? = some (some v) ∧ Rep K ρ H d v
theorem SRel.mono {K : PySem.W.Frag} {ρ ρ' : List Addr} {H H' : Hp} {env : Ev} {σ : L2.St} (h : SRel K ρ H env σ) (p : ρ <+: ρ') (x : Ext K H H') : SRel K ρ' H' env σ :=
  ⟨h.1, fun i d e => let ⟨v, e', r⟩ := h.2 i d e; ⟨v, e', r.mono p x⟩⟩
theorem SRel.set {K : PySem.W.Frag} {ρ : List Addr} {H : Hp} {env : Ev} {σ : L2.St} {i : Nat} {d : D} {v : V} (h : SRel K ρ H env σ) (q : Rep K ρ H d v) : SRel K ρ H (env.set i (some d)) (σ.set i (some v)) := by
  refine ⟨by rw [List.length_set, List.length_set, h.1], fun j e hj => ?_⟩
  by_cases ij : i = j
  · subst ij
    by_cases hl : i < env.length
    · rw [List.getElem?_set_self hl] at hj
      cases hj
      exact ⟨v, List.getElem?_set_self (by rw [h.1]; exact hl), q⟩
    · rw [List.getElem?_eq_none (by rw [List.length_set]; omega)] at hj; cases hj
  · rw [List.getElem?_set_ne ij] at hj
    rw [List.getElem?_set_ne ij]
    exact h.2 j e hj
/-- what an evaluation leaves -/
structure Post (K : PySem.W.Frag) (ρ ρ' : List Addr) (H H' : Hp) (hd' : Hd) : Prop where
  pre : ρ <+: ρ'
  ext : Ext K H H'
  rel : Rel K ρ' H' hd'
  fr : ∀ a o, H a = some o → a ∉ ρ → H' a = some o ∧ a ∉ ρ'
theorem Post.refl {K : PySem.W.Frag} {ρ : List Addr} {H : Hp} {hd : Hd} (r : Rel K ρ H hd) : Post K ρ ρ H H hd := ⟨List.prefix_refl _, .refl, r, fun _ _ h n => ⟨h, n⟩⟩
theorem Post.trans {K : PySem.W.Frag} {ρ ρ1 ρ2 : List Addr} {H H1 H2 : Hp} {hd1 hd2 : Hd} (a : Post K ρ ρ1 H H1 hd1) (b : Post K ρ1 ρ2 H1 H2 hd2) : Post K ρ ρ2 H H2 hd2 :=
  ⟨a.pre.trans b.pre, a.ext.trans b.ext, b.rel, fun x o h n => let ⟨h1, n1⟩ := a.fr x o h n; b.fr x o h1 n1⟩

/-- what stays as it is -/
theorem Rel.keep {K : PySem.W.Frag} {ρ : List Addr} {H H' : Hp} {hd : Hd} (r : Rel K ρ H hd) (x : Ext K H H') (e : ∀ a ∈ ρ, ∀ u, H a = some u → H' a = some u) : Rel K ρ H' hd :=
  ⟨r.len, r.nd, fun n a o ea eo => ObR.mono (r.ob n a o ea eo) (List.prefix_refl _) x (e a (List.mem_of_getElem? ea))⟩
theorem Post.newT {K : PySem.W.Frag} {ρ : List Addr} {H : Hp} {hd : Hd} {p : Addr} {o : HO} (r : Rel K ρ H hd) (n : H p = none) : Post K ρ ρ H (upd H p o) hd :=
  ⟨List.prefix_refl _, .new n, r.keep (.new n) fun a _ u h => by rw [upd_ne (ne_of_none h n)]; exact h, fun a u h m => ⟨by rw [upd_ne (ne_of_none h n)]; exact h, m⟩⟩
/-- an object that was made aside comes in -/
theorem Rel.adopt {K : PySem.W.Frag} {ρ : List Addr} {H : Hp} {hd : Hd} {p : Addr} {o : Ob} (r : Rel K ρ H hd) (np : p ∉ ρ) (q : ObR K ρ H p o) : Rel K (ρ ++ [p]) H (hd ++ [o]) := by
  have pp : ρ <+: ρ ++ [p] := List.prefix_append _ _
  refine ⟨by simp [r.len], ?_, fun i a ob ea eo => ?_⟩
  · rw [List.nodup_append]
    exact ⟨r.nd, by simp, fun a ha b hb e => np (by rw [List.mem_singleton] at hb; rw [← hb, ← e]; exact ha)⟩
  · by_cases hi : i < hd.length
    · rw [List.getElem?_append_left (by rw [r.len]; exact hi)] at ea
      rw [List.getElem?_append_left hi] at eo
      exact ObR.mono (r.ob i a ob ea eo) pp .refl fun _ h => h
    · rw [List.getElem?_append_right (by omega)] at eo
      have hz : i - hd.length = 0 := by
        have := (List.getElem?_eq_some_iff.mp eo).1
        simp at this; omega
      rw [hz] at eo
      rw [List.getElem?_append_right (by rw [r.len]; omega), r.len, hz] at ea
      simp at ea eo
      subst ea eo
      exact ObR.mono q pp .refl fun _ h => h
/-- a new list -/
theorem Post.newL {K : PySem.W.Frag} {ρ : List Addr} {H : Hp} {hd : Hd} {p : Addr} {ds : List D} {vs : List V} (r : Rel K ρ H hd) (n : H p = none) (q : RepL K ρ H ds vs) : Post K ρ (ρ ++ [p]) H (upd H p (.lst vs)) (hd ++ [.lst ds]) := by
  refine ⟨List.prefix_append _ _, .new n, Rel.adopt (Post.newT r n).rel (r.fresh n) ⟨vs, upd_same, q.mono (List.prefix_refl _) (.new n)⟩, fun a u h m => ⟨by rw [upd_ne (ne_of_none h n)]; exact h, fun z => ?_⟩⟩
  rcases List.mem_append.mp z with z | z
  · exact m z
  · exact ne_of_none h n (by simpa using z)
/-- a list changed -/
theorem Post.put {K : PySem.W.Frag} {ρ : List Addr} {H : Hp} {hd : Hd} {p : Addr} {i : Nat} {ds es : List D} {ws : List V} (r : Rel K ρ H hd) (ep : ρ[i]? = some p) (eo : hd[i]? = some (.lst ds)) (q : RepL K ρ H es ws) : Post K ρ ρ H (upd H p (.lst ws)) (hd.set i (.lst es)) := by
  obtain ⟨vs, hp, _⟩ := r.ob i p _ ep eo
  have hi : i < hd.length := (List.getElem?_eq_some_iff.mp eo).1
  refine ⟨List.prefix_refl _, .put hp, ⟨by simp [r.len], r.nd, fun n a ob ea eb => ?_⟩, fun a u h m => ⟨by rw [upd_ne (show a ≠ p from fun z => m (by rw [z]; exact List.mem_of_getElem? ep))]; exact h, m⟩⟩
  by_cases e : i = n
  · subst e
    rw [List.getElem?_set_self hi] at eb
    cases eb
    rw [ep] at ea; cases ea
    exact ⟨ws, upd_same, q.mono (List.prefix_refl _) (.put hp)⟩
  · rw [List.getElem?_set_ne e] at eb
    have na : a ≠ p := fun z => e (nodup_get r.nd ep (by rw [← z]; exact ea))
    exact ObR.mono (r.ob n a ob ea eb) (List.prefix_refl _) (.put hp) fun u h => by rw [upd_ne na]; exact h
/-- a list aside is written -/
theorem Rel.aside {K : PySem.W.Frag} {ρ : List Addr} {H : Hp} {hd : Hd} {p : Addr} {vs : List V} {o : HO} (r : Rel K ρ H hd) (h : H p = some (.lst vs)) (np : p ∉ ρ) : Rel K ρ (upd H p o) hd :=
  r.keep (.put h) fun a ha u e => by rw [upd_ne (show a ≠ p from fun z => np (by rw [← z]; exact ha))]; exact e

/-! ## judgements -/
abbrev EM := Ev → Hd → Option (D × Hd)
abbrev AM := Ev → Hd → Option (List D × Hd)
abbrev BM := Ev → Hd → Option (Bool × Hd)
inductive Fl where
  | nx | rt (d : D) | bk | ct
abbrev SM := Ev → Hd → Option (Fl × Ev × Hd)

/-- the state a piece of code starts from -/
structure At (K : PySem.W.Frag) (ρ : List Addr) (σ : L2.St) (H : Hp) (env : Ev) (hd : Hd) : Prop where
  rel : Rel K ρ H hd
  sl : SRel K ρ H env σ
theorem At.post {K : PySem.W.Frag} {ρ ρ' : List Addr} {σ : L2.St} {H H' : Hp} {env : Ev} {hd hd' : Hd} (a : At K ρ σ H env hd) (p : Post K ρ ρ' H H' hd') : At K ρ' σ H' env hd' := ⟨p.rel, a.sl.mono p.pre p.ext⟩
def tM (K : PySem.W.Frag) (f : EM) : TE := fun σ H Q => ∃ ρ env hd d hd', At K ρ σ H env hd ∧ f env hd = some (d, hd') ∧ ∀ v ρ' H', Post K ρ ρ' H H' hd' → Rep K ρ' H' d v → Q v H'
def tA (K : PySem.W.Frag) (f : AM) : TA := fun σ H Q => ∃ ρ env hd ds hd', At K ρ σ H env hd ∧ f env hd = some (ds, hd') ∧ ∀ vs ρ' H', Post K ρ ρ' H H' hd' → RepL K ρ' H' ds vs → Q vs H'
def tT (K : PySem.W.Frag) (f : BM) : TT := fun σ H Q => ∃ ρ env hd b hd', At K ρ σ H env hd ∧ f env hd = some (b, hd') ∧ ∀ ρ' H', Post K ρ ρ' H H' hd' → Q b H'
def endF (K : PySem.W.Frag) (D : Ends) (ρ' : List Addr) (σ' : L2.St) (H' : Hp) : Fl → Prop
  | .nx => D.nx σ' H'
  | .rt d => ∀ v, Rep K ρ' H' d v → D.rt v H'
  | .bk => D.bk σ' H'
  | .ct => D.ct σ' H'
def tS (K : PySem.W.Frag) (f : SM) : TS := fun D σ H => ∃ ρ env hd fl env' hd', At K ρ σ H env hd ∧ f env hd = some (fl, env', hd') ∧ ∀ ρ' σ' H', Post K ρ ρ' H H' hd' → SRel K ρ' H' env' σ' → endF K D ρ' σ' H' fl

theorem PE.to {X : Cx} {e : Expr} {t t' : TE} (h : PE X e t) (m : ∀ σ H Q, t' σ H Q → t σ H Q) : PE X e t' := ⟨fun pins s σ H Q I q => h.run pins s σ H Q I (m σ H Q q)⟩
theorem PT.to {X : Cx} {e : Expr} {t t' : TT} (h : PT X e t) (m : ∀ σ H Q, t' σ H Q → t σ H Q) : PT X e t' := ⟨fun pins s σ H Q I q => h.run pins s σ H Q I (m σ H Q q)⟩
theorem PA.to {X : Cx} {es : List Expr} {t t' : TA} (h : PA X es t) (m : ∀ σ H Q, t' σ H Q → t σ H Q) : PA X es t' := ⟨fun pos pins s σ H Q I q => h.run pos pins s σ H Q I (m σ H Q q)⟩
theorem PS.to {X : Cx} {e : Stmt} {t t' : TS} (h : PS X e t) (m : ∀ D σ H, t' D σ H → t D σ H) : PS X e t' := ⟨fun pins s σ H D I q => h.run pins s σ H D I (m D σ H q)⟩
theorem PSs.to {X : Cx} {e : List Stmt} {t t' : TS} (h : PSs X e t) (m : ∀ D σ H, t' D σ H → t D σ H) : PSs X e t' := ⟨fun pins s σ H D I q => h.run pins s σ H D I (m D σ H q)⟩
end Dl

namespace Dl
open PySem PySem.Spec PyProof.Rows L2
/-! ## operations -/
abbrev G2 := D → D → Hd → Option (D × Hd)
abbrev GN := List D → Hd → Option (D × Hd)
def rM (K : PySem.W.Frag) (g : G2) : R2 := fun x y H Q => ∃ ρ hd a b d hd', Rel K ρ H hd ∧ Rep K ρ H a x ∧ Rep K ρ H b y ∧ g a b hd = some (d, hd') ∧ ∀ v ρ' H', Post K ρ ρ' H H' hd' → Rep K ρ' H' d v → Q v H'
def rU1 (K : PySem.W.Frag) (g : D → Hd → Option (D × Hd)) : V → Hp → VK → Prop := fun x H Q => ∃ ρ hd a d hd', Rel K ρ H hd ∧ Rep K ρ H a x ∧ g a hd = some (d, hd') ∧ ∀ v ρ' H', Post K ρ ρ' H H' hd' → Rep K ρ' H' d v → Q v H'
def rN (K : PySem.W.Frag) (g : GN) : List V → Hp → VK → Prop := fun xs H Q => ∃ ρ hd ds d hd', Rel K ρ H hd ∧ RepL K ρ H ds xs ∧ g ds hd = some (d, hd') ∧ ∀ v ρ' H', Post K ρ ρ' H H' hd' → Rep K ρ' H' d v → Q v H'
theorem OpR.to {X : Cx} {f : Value → Value → Sem Value} {r r' : R2} (h : OpR X f r) (m : ∀ x y H Q, r' x y H Q → r x y H Q) : OpR X f r' := fun pins s σ H x y v u Q I a b q => h pins s σ H x y v u Q I a b (m _ _ _ _ q)
theorem UnR.to {X : Cx} {f : Value → Sem Value} {r r' : V → Hp → VK → Prop} (h : UnR X f r) (m : ∀ x H Q, r' x H Q → r x H Q) : UnR X f r' := fun pins s σ H x v Q I a q => h pins s σ H x v Q I a (m _ _ _ q)
theorem CallR.to {X : Cx} {f : Value} {r r' : List V → Hp → VK → Prop} (h : CallR X f r) (m : ∀ x H Q, r' x H Q → r x H Q) : CallR X f r' := fun pins s σ H x v Q I a q => h pins s σ H x v Q I a (m _ _ _ q)
theorem CallR.or {X : Cx} {f : Value} {r r' : List V → Hp → VK → Prop} (h : CallR X f r) (h' : CallR X f r') : CallR X f (fun x H Q => r x H Q ∨ r' x H Q) := fun pins s σ H x v Q I a q => q.elim (h pins s σ H x v Q I a) (h' pins s σ H x v Q I a)

theorem rep_int {K ρ H i v} : Rep K ρ H (.int i) v ↔ v = .int i := by simp only [Rep]
theorem rep_bl {K ρ H i v} : Rep K ρ H (.bl i) v ↔ v = .bl i := by simp only [Rep]
theorem rep_str {K ρ H i v} : Rep K ρ H (.str i) v ↔ v = .str i := by simp only [Rep]
theorem rep_non {K ρ H v} : Rep K ρ H .non v ↔ v = .non := by simp only [Rep]
theorem rep_raw {K ρ H u v} : Rep K ρ H (.raw u) v ↔ v = u := by simp only [Rep]
theorem rep_tup {K ρ H ds v} : Rep K ρ H (.tup ds) v ↔ ∃ a vs, v = .ref a ∧ SqT K H a vs ∧ RepL K ρ H ds vs := by simp only [Rep]
theorem rep_fls {K ρ H ds v} : Rep K ρ H (.fls ds) v ↔ ∃ a vs, v = .ref a ∧ SqF K H a vs ∧ RepL K ρ H ds vs := by simp only [Rep]
theorem rep_ref {K ρ H n v} : Rep K ρ H (.ref n) v ↔ ∃ a, v = .ref a ∧ ρ[n]? = some a := by simp only [Rep]

def lsOf (hd : Hd) (n : Nat) : Option (List D) := match hd[n]? with | some (.lst ds) => some ds | none => none
theorem lsOf_sq {K ρ H hd n ds a} (r : Rel K ρ H hd) (e : lsOf hd n = some ds) (ea : ρ[n]? = some a) : ∃ vs, SqL K H a vs ∧ RepL K ρ H ds vs := by
  unfold lsOf at e
  split at e
  · rename_i xs h; cases e
    obtain ⟨vs, q, t⟩ := r.ob n a _ ea h
    exact ⟨vs, .of q, t⟩
  · cases e

/-- ints of any kind -/
def addD : G2
  | .int i, .int j, hd => some (.int (i + j), hd)
  | .str x, .str y, hd => if x.length + y.length ≤ 1000000 then some (.str (x ++ y), hd) else none
  | .tup xs, .tup ys, hd => if xs.length ≠ 0 ∧ ys.length ≠ 0 ∧ xs.length + ys.length ≤ 1000000 then some (.tup (xs ++ ys), hd) else none
  | .ref n, .ref m, hd => match hd[n]?, hd[m]? with
    | some (.lst xs), some (.lst ys) => if xs.length + ys.length ≤ 1000000 then some (.ref hd.length, hd ++ [.lst (xs ++ ys)]) else none
    | _, _ => none
  | _, _, _ => none
def subD : G2
  | .int i, .int j, hd => some (.int (i - j), hd)
  | _, _, _ => none
def mulD : G2
  | .int i, .int j, hd => if i.natAbs < 2 ^ 20000 ∧ j.natAbs < 2 ^ 20000 then some (.int (i * j), hd) else none
  | _, _, _ => none
def divD : G2
  | .int i, .int j, hd => if j ≠ 0 ∧ j.natAbs < 2 ^ 8000 then some (.int (i.fdiv j), hd) else none
  | _, _, _ => none
def modD : G2
  | .int i, .int j, hd => if j ≠ 0 then some (.int (i.fmod j), hd) else none
  | _, _, _ => none
def powD : G2
  | .int i, .int j, hd => if 0 ≤ j ∧ j ≤ 100 ∧ i.natAbs < 2 ^ 20000 then some (.int (i ^ j.toNat), hd) else none
  | _, _, _ => none
theorem line1M : 1000000 ≤ sizeLine := by rw [sizeLine_eq]; decide
section
variable {X : Cx}
theorem om_add : OpR X (binaryOp .Add) (rM X.K addD) := by
  refine OpR.to (OpR.or op_add (OpR.or op_add_str (OpR.or op_catT op_cat))) fun x y H Q ⟨ρ, hd, a, b, d, hd', r, ra, rb, e, q⟩ => ?_
  cases a <;> cases b <;> simp only [addD] at e <;> try contradiction
  · rw [rep_int] at ra rb; cases e
    exact .inl ⟨_, _, ra, rb, q _ ρ H (.refl r) (rep_int.mpr rfl)⟩
  · rw [rep_str] at ra rb
    split at e
    · rename_i h; cases e
      exact .inr (.inl ⟨_, _, ra, rb, Nat.le_trans h line1M, q _ ρ H (.refl r) (rep_str.mpr rfl)⟩)
    · cases e
  · rw [rep_tup] at ra rb
    obtain ⟨a, vs, rfl, sa, la⟩ := ra
    obtain ⟨b, ws, rfl, sb, lb⟩ := rb
    split at e
    · rename_i h; cases e
      have l1 := la.length
      have l2 := lb.length
      refine .inr (.inr (.inl ⟨a, b, vs, ws, rfl, rfl, sa, sb, fun z => ?_, ?_, fun z => ?_, fun z p np => ?_⟩))
      · subst z; simp at l1; exact h.1 (by simp [l1])
      · have := line1M; omega
      · subst z; simp at l2; exact absurd (by simp [l2]) h.2.1
      · refine q _ ρ _ (.newT r np) (rep_tup.mpr ⟨p, _, rfl, .of upd_same, ?_⟩)
        exact (la.append lb).mono (List.prefix_refl _) (.new np)
    · cases e
  · rename_i n m
    rw [rep_ref] at ra rb
    obtain ⟨a, rfl, ea⟩ := ra
    obtain ⟨b, rfl, eb⟩ := rb
    split at e
    · rename_i xs ys hn hm
      split at e
      · rename_i h; cases e
        obtain ⟨vs, va, la⟩ := r.ob n a _ ea hn
        obtain ⟨ws, wa, lb⟩ := r.ob m b _ eb hm
        have l1 := la.length
        have l2 := lb.length
        refine .inr (.inr (.inr ⟨a, b, vs, ws, rfl, rfl, va, wa, ?_, fun p np => ?_⟩))
        · have := line1M; omega
        · exact q _ _ _ (.newL r np (la.append lb)) (rep_ref.mpr ⟨p, rfl, by rw [List.getElem?_append_right (by rw [r.len]; exact Nat.le_refl _), r.len]; simp⟩)
      · cases e
    · cases e
theorem om_sub : OpR X (binaryOp .Sub) (rM X.K subD) := by
  refine OpR.to op_sub fun x y H Q ⟨ρ, hd, a, b, d, hd', r, ra, rb, e, q⟩ => ?_
  cases a <;> cases b <;> simp only [subD] at e <;> try contradiction
  rw [rep_int] at ra rb; cases e
  exact ⟨_, _, ra, rb, q _ ρ H (.refl r) (rep_int.mpr rfl)⟩
theorem om_mul : OpR X (binaryOp .Mult) (rM X.K mulD) := by
  refine OpR.to op_mulW fun x y H Q ⟨ρ, hd, a, b, d, hd', r, ra, rb, e, q⟩ => ?_
  cases a <;> cases b <;> simp only [mulD] at e <;> try contradiction
  rw [rep_int] at ra rb
  split at e
  · rename_i h; cases e
    exact ⟨_, _, ra, rb, wide_mul h.1 h.2 (by decide) (by decide) (by decide), q _ ρ H (.refl r) (rep_int.mpr rfl)⟩
  · cases e
theorem op_fdivA : OpR X (binaryOp .FloorDiv) (rI (fun _ j => j ≠ 0 ∧ j.natAbs < 2 ^ 8000) fun i j => .int (i.fdiv j)) := opI fun i j _ _ _ _ _ hc q =>
  floordiv_int hc.1 q (.inl (PyProof.noPylong_of_log2 (Nat.lt_of_lt_of_le (PySem.Flt.log2_lt_of (by decide) hc.2) (by decide))))
theorem om_div : OpR X (binaryOp .FloorDiv) (rM X.K divD) := by
  refine OpR.to op_fdivA fun x y H Q ⟨ρ, hd, a, b, d, hd', r, ra, rb, e, q⟩ => ?_
  cases a <;> cases b <;> simp only [divD] at e <;> try contradiction
  rw [rep_int] at ra rb
  split at e
  · rename_i h; cases e
    exact ⟨_, _, ra, rb, h, q _ ρ H (.refl r) (rep_int.mpr rfl)⟩
  · cases e
theorem om_mod : OpR X (binaryOp .Mod) (rM X.K modD) := by
  refine OpR.to op_modN fun x y H Q ⟨ρ, hd, a, b, d, hd', r, ra, rb, e, q⟩ => ?_
  cases a <;> cases b <;> simp only [modD] at e <;> try contradiction
  rw [rep_int] at ra rb
  split at e
  · rename_i h; cases e
    exact ⟨_, _, ra, rb, h, q _ ρ H (.refl r) (rep_int.mpr rfl)⟩
  · cases e
theorem op_powA : OpR X (binaryOp .Pow) (rI (fun i j => 0 ≤ j ∧ j ≤ 100 ∧ i.natAbs < 2 ^ 20000) fun i j => .int (i ^ j.toNat)) := opI fun i j _ _ _ _ _ hc q =>
  pow_int hc.1 (by
    have h1 := PySem.Flt.log2_lt_of (show 0 < 20000 by decide) hc.2.2
    have h2 : Builtin.Int.intBits i ≤ 20001 := by unfold Builtin.Int.intBits; split <;> omega
    have h3 : (Builtin.Int.intBits i : Int) * j ≤ 20001 * 100 := by
      have ha : (Builtin.Int.intBits i : Int) * j ≤ (Builtin.Int.intBits i : Int) * 100 := Int.mul_le_mul_of_nonneg_left hc.2.1 (Int.natCast_nonneg _)
      have hb : (Builtin.Int.intBits i : Int) * 100 ≤ 20001 * 100 := by omega
      omega
    have h4 : (20001 * 100 : Int) ≤ 2 ^ 27 := by decide
    omega) q
theorem om_pow : OpR X (binaryOp .Pow) (rM X.K powD) := by
  refine OpR.to op_powA fun x y H Q ⟨ρ, hd, a, b, d, hd', r, ra, rb, e, q⟩ => ?_
  cases a <;> cases b <;> simp only [powD] at e <;> try contradiction
  rw [rep_int] at ra rb
  split at e
  · rename_i h; cases e
    exact ⟨_, _, ra, rb, h, q _ ρ H (.refl r) (rep_int.mpr rfl)⟩
  · cases e
def negD : D → Hd → Option (D × Hd)
  | .int i, hd => some (.int (-i), hd)
  | _, _ => none
theorem um_neg : UnR X (unaryOp .USub) (rU1 X.K negD) := by
  refine UnR.to un_neg fun x H Q ⟨ρ, hd, a, d, hd', r, ra, e, q⟩ => ?_
  cases a <;> simp only [negD] at e <;> try contradiction
  rw [rep_int] at ra; cases e
  exact ⟨_, ra, q _ ρ H (.refl r) (rep_int.mpr rfl)⟩

/-! ### comparisons -/
def cmpI (p : Int → Int → Bool) : G2
  | .int i, .int j, hd => some (.bl (p i j), hd)
  | _, _, _ => none
theorem om_int {op : CmpOp} {p : Int → Int → Bool} (h : OpR X (compareOp op) (rI0 fun i j => .bl (p i j))) : OpR X (compareOp op) (rM X.K (cmpI p)) := by
  refine OpR.to h fun x y H Q ⟨ρ, hd, a, b, d, hd', r, ra, rb, e, q⟩ => ?_
  cases a <;> cases b <;> simp only [cmpI] at e <;> try contradiction
  rw [rep_int] at ra rb; cases e
  exact ⟨_, _, ra, rb, q _ ρ H (.refl r) (rep_bl.mpr rfl)⟩
theorem om_lt : OpR X (compareOp .Lt) (rM X.K (cmpI fun i j => decide (i < j))) := om_int op_lt
theorem om_le : OpR X (compareOp .LtE) (rM X.K (cmpI fun i j => decide (i ≤ j))) := om_int op_le
theorem om_gt : OpR X (compareOp .Gt) (rM X.K (cmpI fun i j => decide (j < i))) := om_int op_gt
theorem om_ge : OpR X (compareOp .GtE) (rM X.K (cmpI fun i j => decide (j ≤ i))) := om_int op_ge

/-- data -/
def optL (f : D → Option PyData) : List D → Option (List PyData)
  | [] => some []
  | d :: ds => match f d, optL f ds with | some p, some ps => some (p :: ps) | _, _ => none
def toPy (hd : Hd) : Nat → D → Option PyData
  | _, .non => some .none
  | _, .bl b => some (.bool b)
  | _, .int i => some (.int i)
  | _, .str x => if PyData.strOk x then some (.str x) else none
  | k + 1, .tup ds => (optL (toPy hd k) ds).map .tuple
  | k + 1, .fls ds => (optL (toPy hd k) ds).map .list
  | k + 1, .ref n => (lsOf hd n).bind fun ds => (optL (toPy hd k) ds).map .list
  | _, _ => none
end
end Dl

namespace Dl
open PySem PySem.Spec PyProof.Rows L2
/-! ## data -/
theorem optL_cons {f : D → Option PyData} {d : D} {ds : List D} {ps : List PyData} (e : optL f (d :: ds) = some ps) : ∃ p r, f d = some p ∧ optL f ds = some r ∧ ps = p :: r := by
  simp only [optL] at e
  split at e
  · rename_i p r h1 h2; cases e; exact ⟨p, r, h1, h2, rfl⟩
  · cases e
section
variable {K : PySem.W.Frag} {ρ : List Addr} {H : Hp} {hd : Hd}
theorem dpAll_of {f : D → Option PyData} (hf : ∀ d v p, f d = some p → Rep K ρ H d v → Dp K H v p) : ∀ (ds : List D) (vs : List V) (ps : List PyData), optL f ds = some ps → RepL K ρ H ds vs → DpAll K H vs ps
  | [], vs, ps, e, r => by
    simp only [optL] at e; cases e
    simp only [RepL] at r; subst r
    exact .nil
  | d :: ds, vs, ps, e, r => by
    obtain ⟨p, q, h1, h2, rfl⟩ := optL_cons e
    simp only [RepL] at r
    obtain ⟨v, w, rfl, r1, r2⟩ := r
    exact .cons (hf d v p h1 r1) (dpAll_of hf ds w q h2 r2)
theorem dp_of (r : Rel K ρ H hd) : ∀ (k : Nat) (d : D) (v : V) (p : PyData), toPy hd k d = some p → Rep K ρ H d v → Dp K H v p := by
  intro k
  induction k with
  | zero =>
    intro d v p e q
    cases d <;> simp only [toPy] at e <;> try contradiction
    · rw [rep_non] at q; subst q; cases e; exact .non
    · rw [rep_bl] at q; subst q; cases e; exact .bl _
    · rw [rep_int] at q; subst q; cases e; exact .int _
    · rw [rep_str] at q; subst q
      split at e
      · cases e; exact .str _
      · cases e
  | succ k ih =>
    intro d v p e q
    cases d <;> simp only [toPy] at e <;> try contradiction
    · rw [rep_non] at q; subst q; cases e; exact .non
    · rw [rep_bl] at q; subst q; cases e; exact .bl _
    · rw [rep_int] at q; subst q; cases e; exact .int _
    · rw [rep_str] at q; subst q
      split at e
      · cases e; exact .str _
      · cases e
    · rw [rep_tup] at q
      obtain ⟨a, vs, rfl, s, l⟩ := q
      obtain ⟨ps, h, rfl⟩ := Option.map_eq_some_iff.mp e
      exact .tup s (dpAll_of (fun d v p => ih d v p) _ _ _ h l)
    · rw [rep_ref] at q
      obtain ⟨a, rfl, ea⟩ := q
      obtain ⟨ds, h1, h2⟩ := Option.bind_eq_some_iff.mp e
      obtain ⟨ps, h, rfl⟩ := Option.map_eq_some_iff.mp h2
      obtain ⟨vs, s, l⟩ := lsOf_sq r h1 ea
      exact .lst s (dpAll_of (fun d v p => ih d v p) _ _ _ h l)
    · rw [rep_fls] at q
      obtain ⟨a, vs, rfl, s, l⟩ := q
      obtain ⟨ps, h, rfl⟩ := Option.map_eq_some_iff.mp e
      exact .lst s.sq (dpAll_of (fun d v p => ih d v p) _ _ _ h l)
end
theorem depthAll_le {f : D → Option PyData} {k : Nat} (hf : ∀ d p, f d = some p → p.depth ≤ k) : ∀ (ds : List D) (ps : List PyData), optL f ds = some ps → PyData.depthAll ps ≤ k
  | [], ps, e => by simp only [optL] at e; cases e; simp [PyData.depthAll]
  | d :: ds, ps, e => by
    obtain ⟨p, q, h1, h2, rfl⟩ := optL_cons e
    have a := hf d p h1
    have b := depthAll_le hf ds q h2
    simp only [PyData.depthAll]; omega
theorem toPy_depth {hd : Hd} : ∀ (k : Nat) (d : D) (p : PyData), toPy hd k d = some p → p.depth ≤ k := by
  intro k
  induction k with
  | zero =>
    intro d p e
    cases d <;> simp only [toPy] at e <;> first | contradiction | (cases e; simp [PyData.depth]) | (split at e <;> cases e; simp [PyData.depth])
  | succ k ih =>
    intro d p e
    cases d <;> simp only [toPy] at e <;> try contradiction
    · cases e; simp [PyData.depth]
    · cases e; simp [PyData.depth]
    · cases e; simp [PyData.depth]
    · split at e <;> cases e; simp [PyData.depth]
    · obtain ⟨ps, h, rfl⟩ := Option.map_eq_some_iff.mp e
      have := depthAll_le (fun d p => ih d p) _ _ h
      simp only [PyData.depth]; omega
    · obtain ⟨ds, h1, h2⟩ := Option.bind_eq_some_iff.mp e
      obtain ⟨ps, h, rfl⟩ := Option.map_eq_some_iff.mp h2
      have := depthAll_le (fun d p => ih d p) _ _ h
      simp only [PyData.depth]; omega
    · obtain ⟨ps, h, rfl⟩ := Option.map_eq_some_iff.mp e
      have := depthAll_le (fun d p => ih d p) _ _ h
      simp only [PyData.depth]; omega
theorem layAll_of {f : D → Option PyData} (hf : ∀ d p, f d = some p → p.canLay0 = true) : ∀ (ds : List D) (ps : List PyData), optL f ds = some ps → PyData.canLayAll0 ps = true
  | [], ps, e => by simp only [optL] at e; cases e; simp [PyData.canLayAll0]
  | d :: ds, ps, e => by
    obtain ⟨p, q, h1, h2, rfl⟩ := optL_cons e
    have a := hf d p h1
    have b := layAll_of hf ds q h2
    simp only [PyData.canLayAll0, a, b]; rfl
theorem toPy_lay {hd : Hd} : ∀ (k : Nat) (d : D) (p : PyData), toPy hd k d = some p → p.canLay0 = true := by
  intro k
  induction k with
  | zero =>
    intro d p e
    cases d <;> simp only [toPy] at e <;> try contradiction
    · cases e; simp [PyData.canLay0]
    · cases e; simp [PyData.canLay0]
    · cases e; simp [PyData.canLay0]
    · split at e
      · rename_i h; cases e; simpa [PyData.canLay0] using h
      · cases e
  | succ k ih =>
    intro d p e
    cases d <;> simp only [toPy] at e <;> try contradiction
    · cases e; simp [PyData.canLay0]
    · cases e; simp [PyData.canLay0]
    · cases e; simp [PyData.canLay0]
    · split at e
      · rename_i h; cases e; simpa [PyData.canLay0] using h
      · cases e
    · obtain ⟨ps, h, rfl⟩ := Option.map_eq_some_iff.mp e
      simp only [PyData.canLay0]
      exact layAll_of (fun d p => ih d p) _ _ h
    · obtain ⟨ds, h1, h2⟩ := Option.bind_eq_some_iff.mp e
      obtain ⟨ps, h, rfl⟩ := Option.map_eq_some_iff.mp h2
      simp only [PyData.canLay0]
      exact layAll_of (fun d p => ih d p) _ _ h
    · obtain ⟨ps, h, rfl⟩ := Option.map_eq_some_iff.mp e
      simp only [PyData.canLay0]
      exact layAll_of (fun d p => ih d p) _ _ h
theorem toPy_shaped {hd : Hd} {k : Nat} (hk : k ≤ 64) {d : D} {p : PyData} (e : toPy hd k d = some p) : SeqAt.shaped p = true := by
  unfold SeqAt.shaped
  rw [toPy_lay k d p e, Bool.true_and]
  exact decide_eq_true (Nat.le_trans (toPy_depth k d p e) hk)

def strsOf : D → D → Option (Str × Str)
  | .str x, .str y => some (x, y)
  | _, _ => none
def eqD : G2 := fun a b hd => match strsOf a b with
  | some (x, y) => some (.bl (decide (x = y)), hd)
  | none => (toPy hd 8 a).bind fun p => (toPy hd 8 b).bind fun q => some (.bl (PyData.eqv p q), hd)
def neD : G2 := fun a b hd => match strsOf a b with
  | some (x, y) => some (.bl (!decide (x = y)), hd)
  | none => (toPy hd 8 a).bind fun p => (toPy hd 8 b).bind fun q => some (.bl (!PyData.eqv p q), hd)
theorem strsOf_eq {a b : D} {x y : Str} (h : strsOf a b = some (x, y)) : a = .str x ∧ b = .str y := by
  unfold strsOf at h
  split at h
  · cases h; exact ⟨rfl, rfl⟩
  · cases h
theorem dec_vstr {x y : Str} : decide (V.str x = V.str y) = decide (x = y) := by
  by_cases h : x = y
  · subst h; simp
  · simp [h]
section
variable {X : Cx}
theorem om_eq (hu : X.A.units + 64 < cLine) : OpR X (compareOp .Eq) (rM X.K eqD) := by
  refine OpR.to (OpR.or op_eq (op_eqD hu)) fun x y H Q ⟨ρ, hd, a, b, d, hd', r, ra, rb, e, q⟩ => ?_
  unfold eqD at e
  split at e
  · rename_i x' y' hs
    obtain ⟨rfl, rfl⟩ := strsOf_eq hs
    rw [rep_str] at ra rb; subst ra rb
    cases e
    exact .inl ⟨rfl, q _ ρ H (.refl r) (by rw [rep_bl, dec_vstr])⟩
  obtain ⟨p, h1, e⟩ := Option.bind_eq_some_iff.mp e
  obtain ⟨p', h2, e⟩ := Option.bind_eq_some_iff.mp e
  cases e
  exact .inr ⟨p, p', dp_of r _ _ _ _ h1 ra, dp_of r _ _ _ _ h2 rb, toPy_shaped (by decide) h1, toPy_shaped (by decide) h2, q _ ρ H (.refl r) (rep_bl.mpr rfl)⟩
theorem om_ne (hu : X.A.units + 64 < cLine) : OpR X (compareOp .NotEq) (rM X.K neD) := by
  refine OpR.to (OpR.or op_ne (op_neD hu)) fun x y H Q ⟨ρ, hd, a, b, d, hd', r, ra, rb, e, q⟩ => ?_
  unfold neD at e
  split at e
  · rename_i x' y' hs
    obtain ⟨rfl, rfl⟩ := strsOf_eq hs
    rw [rep_str] at ra rb; subst ra rb
    cases e
    exact .inl ⟨rfl, q _ ρ H (.refl r) (by rw [rep_bl, dec_vstr])⟩
  obtain ⟨p, h1, e⟩ := Option.bind_eq_some_iff.mp e
  obtain ⟨p', h2, e⟩ := Option.bind_eq_some_iff.mp e
  cases e
  exact .inr ⟨p, p', dp_of r _ _ _ _ h1 ra, dp_of r _ _ _ _ h2 rb, toPy_shaped (by decide) h1, toPy_shaped (by decide) h2, q _ ρ H (.refl r) (rep_bl.mpr rfl)⟩
/-- is None: of anything whose value is seen -/
def isNon : D → Bool
  | .non => true
  | .raw v => decide (v = .non)
  | _ => false
def isD : G2 := fun a b hd => match b with | .non => some (.bl (isNon a), hd) | _ => none
def isnD : G2 := fun a b hd => match b with | .non => some (.bl (!isNon a), hd) | _ => none
theorem isNon_rep {K ρ H} {a : D} {x : V} (r : Rep K ρ H a x) : decide (x = .non) = isNon a := by
  cases a
  · rw [rep_non] at r; subst r; rfl
  · rw [rep_bl] at r; subst r; rfl
  · rw [rep_int] at r; subst r; rfl
  · rw [rep_str] at r; subst r; rfl
  · rw [rep_tup] at r; obtain ⟨a, vs, rfl, _⟩ := r; rfl
  · rw [rep_ref] at r; obtain ⟨a, rfl, _⟩ := r; rfl
  · rw [rep_raw] at r; subst r; rfl
  · rw [rep_fls] at r; obtain ⟨a, vs, rfl, _⟩ := r; rfl
theorem om_is : OpR X (compareOp .Is) (rM X.K isD) := by
  refine OpR.to op_isN fun x y H Q ⟨ρ, hd, a, b, d, hd', r, ra, rb, e, q⟩ => ?_
  cases b <;> simp only [isD] at e <;> try contradiction
  rw [rep_non] at rb; cases e
  exact ⟨rb, q _ ρ H (.refl r) (by rw [rep_bl, isNon_rep ra])⟩
theorem om_isn : OpR X (compareOp .IsNot) (rM X.K isnD) := by
  refine OpR.to op_notN fun x y H Q ⟨ρ, hd, a, b, d, hd', r, ra, rb, e, q⟩ => ?_
  cases b <;> simp only [isnD] at e <;> try contradiction
  rw [rep_non] at rb; cases e
  exact ⟨rb, q _ ρ H (.refl r) (by rw [rep_bl, isNon_rep ra])⟩

/-! ### repr -/
mutual
def pw : PyData → Nat
  | .none => 10
  | .bool _ => 10
  | .int _ => 2000
  | .str x => 10 * x.length + 10
  | .list xs => pwL xs + 10
  | .tuple xs => pwL xs + 10
  | .dict _ => 0
def pwL : List PyData → Nat
  | [] => 0
  | x :: xs => pw x + 2 + pwL xs
end
end
theorem piled_le_all : ∀ (ts : List PyData), (∀ t ∈ ts, (PyData.shown t).length ≤ pw t) → piled (PyData.shownAll ts) ≤ pwL ts
  | [], _ => by simp [PyData.shownAll, piled, pwL]
  | t :: ts, h => by
    have a := h t (by simp)
    have b := piled_le_all ts (fun u hu => h u (by simp [hu]))
    simp only [PyData.shownAll, piled_cons, pwL]; omega
theorem textFrom_le : ∀ (ts : List Str) (k : Nat) (acc : Str), (textFrom k acc ts).length ≤ acc.length + piled ts
  | [], k, acc => by simp [textFrom, piled]
  | t :: r, k, acc => by
    have ih := textFrom_le r (k + 1) (acc ++ (if k > 0 then ", " else "" : String) ++ t)
    have e : (acc ++ (if k > 0 then ", " else "" : String) ++ t).length ≤ acc.length + 2 + t.length := by
      rw [strLen_append, strLen_append]
      split
      · have : (((", " : String)) : Str).length = 2 := rfl
        omega
      · have : ((("" : String)) : Str).length = 0 := rfl
        omega
    simp only [textFrom, piled_cons]; omega
theorem listText_le (ts : List Str) : (listText ts).length ≤ piled ts + 2 := by
  have h := textFrom_le ts 0 "["
  unfold listText
  rw [strLen_append]
  have e1 : ((("[" : String) : Str)).length = 1 := rfl
  have e2 : ((("]" : String) : Str)).length = 1 := rfl
  omega
theorem tupleText_le (ts : List Str) : (tupleText ts).length ≤ piled ts + 3 := by
  unfold tupleText
  rw [strLen_append, strLen_append]
  have e1 : ((("(" : String) : Str)).length = 1 := rfl
  have e3 : (((if ts.length == 1 then ",)" else ")" : String) : Str)).length ≤ 2 := by split <;> decide
  by_cases h : ts = []
  · subst h
    have : (Str.join ", " []).length = 0 := rfl
    omega
  · have := join_length_add ts h
    omega
theorem cps_small {x : Str} (h : PyData.strOk x = true) : ∀ c ∈ x.cps.toList, c < 16 ^ 8 := fun c hc => by
  unfold PyData.strOk at h
  rw [Array.all_eq_true'] at h
  have := h c (by simpa using hc)
  have := of_decide_eq_true this
  omega
mutual
theorem shown_le : ∀ (p : PyData), p.showable = true → p.canLay0 = true → (PyData.shown p).length ≤ pw p
  | .none, _, _ => by simp only [PyData.shown, pw]; decide
  | .bool b, _, _ => by cases b <;> simp only [PyData.shown, pw] <;> decide
  | .int i, h, _ => by
    simp only [PyData.showable, decide_eq_true_eq] at h
    simp only [PyData.shown, pw]
    have := int_text_len_1921 h
    exact Nat.le_trans this (by decide)
  | .str x, _, h => by
    simp only [PyData.canLay0] at h
    simp only [PyData.shown, pw]
    have := PySem.StrLaws.reprText_len x (cps_small h)
    omega
  | .list xs, h, h' => by
    simp only [PyData.showable] at h
    simp only [PyData.canLay0] at h'
    have a := listText_le (PyData.shownAll xs)
    have b := shownAll_le xs h h'
    simp only [PyData.shown, pw]; omega
  | .tuple xs, h, h' => by
    simp only [PyData.showable] at h
    simp only [PyData.canLay0] at h'
    have a := tupleText_le (PyData.shownAll xs)
    have b := shownAll_le xs h h'
    simp only [PyData.shown, pw]; omega
  | .dict kvs, _, h' => by simp [PyData.canLay0] at h'
theorem shownAll_le : ∀ (ps : List PyData), PyData.showableAll ps = true → PyData.canLayAll0 ps = true → piled (PyData.shownAll ps) ≤ pwL ps
  | [], _, _ => by simp [PyData.shownAll, piled, pwL]
  | p :: ps, h, h' => by
    simp only [PyData.showableAll, Bool.and_eq_true] at h
    simp only [PyData.canLayAll0, Bool.and_eq_true] at h'
    have a := shown_le p h.1 h'.1
    have b := shownAll_le ps h.2 h'.2
    simp only [PyData.shownAll, piled_cons, pwL]; omega
end
def reprD : GN := fun ds hd => match ds with
  | [a] => (toPy hd 8 a).bind fun p => if p.showable = true ∧ pw p ≤ 16000000 then some (.str p.shown, hd) else none
  | _ => none
theorem toPy_ref {hd : Hd} {k : Nat} {a : D} {p : PyData} (e : toPy hd k a = some p) : (a = .non ∧ p = .none) ∨ (∃ b, a = .bl b ∧ p = .bool b) ∨ (∃ i, a = .int i ∧ p = .int i) ∨ (∃ x, a = .str x ∧ p = .str x) ∨ (∃ n, a = .ref n) ∨ (∃ ds, a = .tup ds) ∨ ∃ ds, a = .fls ds := by
  cases k <;> cases a <;> simp only [toPy] at e <;> try contradiction
  all_goals first
    | (cases e; simp)
    | (split at e <;> cases e; simp)
    | simp
theorem pw_line {p : PyData} (h : pw p ≤ 16000000) (h1 : p.showable = true) (h2 : p.canLay0 = true) : (PyData.shown p).length ≤ sizeLine := by
  have := shown_le p h1 h2
  have : sizeLine = 16777216 := sizeLine_eq
  omega
theorem cm_repr {X : Cx} (hu : X.A.units + 64 < cLine) (hg : X.A.guards = some []) : CallR X (.builtin "repr") (rN X.K reprD) := by
  intro pins s σ H xs us Q I r h
  obtain ⟨ρ, hd, ds, d, hd', rel, ra, e, q⟩ := h
  unfold reprD at e
  split at e
  · rename_i a
    obtain ⟨p, hp, e⟩ := Option.bind_eq_some_iff.mp e
    split at e
    · rename_i hc
      cases e
      simp only [RepL] at ra
      obtain ⟨v, w, rfl, rv, rfl⟩ := ra
      obtain ⟨u, rfl, ru⟩ := vals1 r
      have hl := pw_line hc.2 hc.1 (toPy_lay _ _ _ hp)
      have fin : ∀ (t : Tok) (s' : Shared), Inv X pins σ H s' → EP X pins σ Q (.str p.shown t) s' := fun t s' I' => ⟨.str p.shown, H, I', ⟨_, rfl⟩, q _ ρ H (.refl rel) (rep_str.mpr rfl)⟩
      have viaRef : ∀ (b : Addr), u = .ref b → wpAny (model X.prog X.w) X.A (call (.builtin "repr") [u]) (EP X pins σ Q) X.xe s := fun b hb => by
        subst hb
        obtain ⟨as, rd⟩ := Dp.reads I p v _ (dp_of rel _ _ _ _ hp rv) ru
        refine repr_of_reads' rd hc.1 (PyData.noDict_hsm (PyData.hasDict_of_canLay _ (toPy_lay _ _ _ hp))) hg ?_ (fun _ _ z => z) (fun h' t tk hk => fin t _ (I.kept hk)) hl
        have := toPy_depth _ _ _ hp
        omega
      rcases toPy_ref hp with ⟨rfl, rfl⟩ | ⟨b, rfl, rfl⟩ | ⟨i, rfl, rfl⟩ | ⟨x, rfl, rfl⟩ | ⟨n, rfl⟩ | ⟨es, rfl⟩ | ⟨es, rfl⟩
      · rw [rep_non] at rv; subst rv; cases ru
        exact PySem.P.repr_of_none (fin _ _ (I.tok _))
      · rw [rep_bl] at rv; subst rv; cases ru
        exact PySem.P.repr_of_bool (by have := fin s.toks { s with toks := s.toks + 1 } (I.tok _); simpa only [PyData.shown] using this)
      · rw [rep_int] at rv; subst rv; obtain ⟨t, rfl⟩ := ru
        have hi : i.natAbs.log2 < 1920 := by simpa only [PyData.showable, decide_eq_true_eq] using hc.1
        exact PySem.P.repr_of_int hi (by have := fin s.toks { s with toks := s.toks + 1 } (I.tok _); simpa only [PyData.shown] using this)
      · rw [rep_str] at rv; subst rv; obtain ⟨t, rfl⟩ := ru
        exact PySem.P.repr_of_str (by have := fin s.toks { s with toks := s.toks + 1 } (I.tok _); simpa only [PyData.shown] using this) (by simpa only [PyData.shown] using hl)
      · rw [rep_ref] at rv; obtain ⟨b, rfl, _⟩ := rv
        exact viaRef b ru
      · rw [rep_tup] at rv; obtain ⟨b, vs, rfl, _⟩ := rv
        exact viaRef b ru
      · rw [rep_fls] at rv; obtain ⟨b, vs, rfl, _⟩ := rv
        exact viaRef b ru
    · cases e
  · cases e
end Dl

namespace Dl
open PySem PySem.Spec PyProof.Rows L2
section
variable {K : PySem.W.Frag} {ρ : List Addr} {H : Hp} {hd : Hd}
theorem repL1 {a : D} {xs : List V} (r : RepL K ρ H [a] xs) : ∃ v, xs = [v] ∧ Rep K ρ H a v := by
  simp only [RepL] at r
  obtain ⟨v, w, rfl, h, rfl⟩ := r
  exact ⟨v, rfl, h⟩
theorem repL2 {a b : D} {xs : List V} (r : RepL K ρ H [a, b] xs) : ∃ v w, xs = [v, w] ∧ Rep K ρ H a v ∧ Rep K ρ H b w := by
  simp only [RepL] at r
  obtain ⟨v, _, rfl, h, w, _, rfl, h2, rfl⟩ := r
  exact ⟨v, w, rfl, h, h2⟩
theorem repL3 {a b c : D} {xs : List V} (r : RepL K ρ H [a, b, c] xs) : ∃ v w z, xs = [v, w, z] ∧ Rep K ρ H a v ∧ Rep K ρ H b w ∧ Rep K ρ H c z := by
  simp only [RepL] at r
  obtain ⟨v, _, rfl, h, w, _, rfl, h2, z, _, rfl, h3, rfl⟩ := r
  exact ⟨v, w, z, rfl, h, h2, h3⟩
def intsOf : List D → Option (List Int)
  | [] => some []
  | .int i :: ds => (intsOf ds).map (i :: ·)
  | _ :: _ => none
theorem intsOf_rep : ∀ {ds : List D} {ns : List Int} {vs : List V}, intsOf ds = some ns → RepL K ρ H ds vs → vs = ns.map V.int
  | [], ns, vs, e, r => by simp only [intsOf] at e; cases e; simp only [RepL] at r; subst r; rfl
  | d :: ds, ns, vs, e, r => by
    cases d <;> simp only [intsOf] at e <;> try contradiction
    obtain ⟨ms, h, rfl⟩ := Option.map_eq_some_iff.mp e
    simp only [RepL] at r
    obtain ⟨v, w, rfl, q, t⟩ := r
    rw [rep_int] at q; subst q
    rw [intsOf_rep h t]; rfl
def blsOf : List D → Option (List Bool)
  | [] => some []
  | .bl i :: ds => (blsOf ds).map (i :: ·)
  | _ :: _ => none
theorem blsOf_rep : ∀ {ds : List D} {ns : List Bool} {vs : List V}, blsOf ds = some ns → RepL K ρ H ds vs → vs = ns.map V.bl
  | [], ns, vs, e, r => by simp only [blsOf] at e; cases e; simp only [RepL] at r; subst r; rfl
  | d :: ds, ns, vs, e, r => by
    cases d <;> simp only [blsOf] at e <;> try contradiction
    obtain ⟨ms, h, rfl⟩ := Option.map_eq_some_iff.mp e
    simp only [RepL] at r
    obtain ⟨v, w, rfl, q, t⟩ := r
    rw [rep_bl] at q; subst q
    rw [blsOf_rep h t]; rfl
end
/-- the items of a list or a tuple -/
def itemsOf (hd : Hd) : D → Option (List D)
  | .tup ds => some ds
  | .fls ds => some ds
  | .ref n => lsOf hd n
  | _ => none
def absD : GN := fun ds hd => match ds with | [.int i] => some (.int (if i < 0 then -i else i), hd) | _ => none
def intD : GN := fun ds hd => match ds with | [.int i] => some (.int i, hd) | [.bl b] => some (.int (if b then 1 else 0), hd) | _ => none
def lenD : GN := fun ds hd => match ds with
  | [.str x] => if x.length ≤ 1000000 then some (.int x.length, hd) else none
  | [.tup es] => some (.int es.length, hd)
  | [.fls es] => some (.int es.length, hd)
  | [.ref n] => (lsOf hd n).map fun es => (.int es.length, hd)
  | _ => none
def maxI : Int → List Int → Int
  | m, [] => m
  | m, x :: r => maxI (if x > m then x else m) r
def minI : Int → List Int → Int
  | m, [] => m
  | m, x :: r => minI (if x < m then x else m) r
def maxD : GN := fun ds hd => match ds with
  | [.int i, .int j] => some (.int (if j > i then j else i), hd)
  | [.int i, .int j, .int k] => some (.int (if j > i then (if k > j then k else j) else (if k > i then k else i)), hd)
  | [.ref n] => (lsOf hd n).bind fun es => match intsOf es with | some (m :: ms) => some (.int (maxI m ms), hd) | _ => none
  | _ => none
def minD : GN := fun ds hd => match ds with
  | [.int i, .int j] => some (.int (if j < i then j else i), hd)
  | [.int i, .int j, .int k] => some (.int (if j < i then (if k < j then k else j) else (if k < i then k else i)), hd)
  | [.ref n] => (lsOf hd n).bind fun es => match intsOf es with | some (m :: ms) => some (.int (minI m ms), hd) | _ => none
  | _ => none
def sumD : GN := fun ds hd => match ds with
  | [.ref n] => (lsOf hd n).bind fun es => (intsOf es).map fun ns => (.int ns.sum, hd)
  | _ => none
def allD : GN := fun ds hd => match ds with
  | [.ref n] => (lsOf hd n).bind fun es => (blsOf es).map fun ns => (.bl (ns.all id), hd)
  | _ => none
def anyD : GN := fun ds hd => match ds with
  | [.ref n] => (lsOf hd n).bind fun es => (blsOf es).map fun ns => (.bl (ns.any id), hd)
  | _ => none
def listD : GN := fun ds hd => match ds with
  | [a] => (itemsOf hd a).map fun es => (.ref hd.length, hd ++ [.lst es])
  | _ => none
def tupleD : GN := fun ds hd => match ds with
  | [a] => (itemsOf hd a).map fun es => (.tup es, hd)
  | _ => none
theorem maxI_ge : ∀ (ms : List Int) (m : Int), m ≤ maxI m ms ∧ (maxI m ms = m ∨ maxI m ms ∈ ms) ∧ ∀ y ∈ ms, y ≤ maxI m ms
  | [], m => by simp [maxI]
  | x :: r, m => by
    have h := maxI_ge r (if x > m then x else m)
    have k1 : m ≤ (if x > m then x else m) ∧ x ≤ (if x > m then x else m) := by split <;> omega
    simp only [maxI]
    refine ⟨?_, ?_, fun y hy => ?_⟩
    · have := h.1; omega
    · rcases h.2.1 with e | e
      · split at e
        · right; rw [if_pos (by assumption), e]; simp
        · left; rw [if_neg (by assumption)]; exact e
      · right; exact List.mem_cons_of_mem _ e
    · rcases List.mem_cons.mp hy with rfl | hy
      · have := h.1; omega
      · exact h.2.2 y hy
theorem minI_le : ∀ (ms : List Int) (m : Int), minI m ms ≤ m ∧ (minI m ms = m ∨ minI m ms ∈ ms) ∧ ∀ y ∈ ms, minI m ms ≤ y
  | [], m => by simp [minI]
  | x :: r, m => by
    have h := minI_le r (if x < m then x else m)
    have k1 : (if x < m then x else m) ≤ m ∧ (if x < m then x else m) ≤ x := by split <;> omega
    simp only [minI]
    refine ⟨?_, ?_, fun y hy => ?_⟩
    · have := h.1; omega
    · rcases h.2.1 with e | e
      · split at e
        · right; rw [if_pos (by assumption), e]; simp
        · left; rw [if_neg (by assumption)]; exact e
      · right; exact List.mem_cons_of_mem _ e
    · rcases List.mem_cons.mp hy with rfl | hy
      · have := h.1; omega
      · exact h.2.2 y hy
section
variable {X : Cx}
theorem cm_abs : CallR X (.builtin "abs") (rN X.K absD) := by
  refine CallR.to call_abs fun xs H Q ⟨ρ, hd, ds, d, hd', r, ra, e, q⟩ => ?_
  unfold absD at e
  split at e
  · cases e
    obtain ⟨v, rfl, rv⟩ := repL1 ra
    rw [rep_int] at rv; subst rv
    exact ⟨_, rfl, q _ ρ H (.refl r) (rep_int.mpr rfl)⟩
  · cases e
theorem cm_int : CallR X (.type "int") (rN X.K intD) := by
  refine CallR.to call_int1 fun xs H Q ⟨ρ, hd, ds, d, hd', r, ra, e, q⟩ => ?_
  unfold intD at e
  split at e
  · cases e
    obtain ⟨v, rfl, rv⟩ := repL1 ra
    rw [rep_int] at rv; subst rv
    exact .inl ⟨_, rfl, q _ ρ H (.refl r) (rep_int.mpr rfl)⟩
  · cases e
    obtain ⟨v, rfl, rv⟩ := repL1 ra
    rw [rep_bl] at rv; subst rv
    exact .inr ⟨_, rfl, q _ ρ H (.refl r) (rep_int.mpr rfl)⟩
  · cases e
theorem cm_len : CallR X (.builtin "len") (rN X.K lenD) := by
  refine CallR.to call_len fun xs H Q ⟨ρ, hd, ds, d, hd', r, ra, e, q⟩ => ?_
  unfold lenD at e
  split at e
  · split at e
    · rename_i h; cases e
      obtain ⟨v, rfl, rv⟩ := repL1 ra
      rw [rep_str] at rv; subst rv
      exact ⟨_, _, rfl, ⟨Nat.le_trans h line1M, rfl⟩, q _ ρ H (.refl r) (rep_int.mpr rfl)⟩
    · cases e
  · cases e
    obtain ⟨v, rfl, rv⟩ := repL1 ra
    rw [rep_tup] at rv; obtain ⟨a, vs, rfl, s, l⟩ := rv
    exact ⟨_, _, rfl, .inr ⟨vs, s, rfl⟩, q _ ρ H (.refl r) (by rw [rep_int, l.length])⟩
  · cases e
    obtain ⟨v, rfl, rv⟩ := repL1 ra
    rw [rep_fls] at rv; obtain ⟨a, vs, rfl, s, l⟩ := rv
    exact ⟨_, _, rfl, .inl ⟨vs, s.sq, rfl⟩, q _ ρ H (.refl r) (by rw [rep_int, l.length])⟩
  · obtain ⟨es, he, e⟩ := Option.map_eq_some_iff.mp e
    cases e
    obtain ⟨v, rfl, rv⟩ := repL1 ra
    rw [rep_ref] at rv; obtain ⟨a, rfl, ea⟩ := rv
    obtain ⟨vs, s, l⟩ := lsOf_sq r he ea
    exact ⟨_, _, rfl, .inl ⟨vs, s, rfl⟩, q _ ρ H (.refl r) (by rw [rep_int, l.length])⟩
  · cases e
theorem call_max3 (hc : X.calm = true) : CallR X (.builtin "max") (fun xs H Q => ∃ i j k, xs = [.int i, .int j, .int k] ∧ Q (.int (if j > i then (if k > j then k else j) else (if k > i then k else i))) H) := by
  intro pins s σ H xs us Q I r h
  obtain ⟨i, j, k, rfl, q⟩ := h
  obtain ⟨t, u, y, rfl⟩ : ∃ t u y, us = [Value.int i t, .int j u, .int k y] := by
    cases r with
    | cons r1 r2 =>
      cases r2 with
      | cons r3 r4 =>
        cases r4 with
        | cons r5 r6 =>
          cases r6
          obtain ⟨t, rfl⟩ := r1
          obtain ⟨u, rfl⟩ := r3
          obtain ⟨y, rfl⟩ := r5
          exact ⟨t, u, y, rfl⟩
  refine max_three_ints (I.ok.hd hc) fun h' tk kk => ⟨_, H, I.kept kk, ?_, q⟩
  split <;> split <;> exact ⟨_, rfl⟩
theorem cm_max (hc : X.calm = true) : CallR X (.builtin "max") (rN X.K maxD) := by
  refine CallR.to (CallR.or (call_max2 hc) (CallR.or (call_max3 hc) (cr_max hc))) fun xs H Q ⟨ρ, hd, ds, d, hd', r, ra, e, q⟩ => ?_
  unfold maxD at e
  split at e
  · cases e
    obtain ⟨v, w, rfl, rv, rw_⟩ := repL2 ra
    rw [rep_int] at rv rw_; subst rv rw_
    exact .inl ⟨_, _, rfl, q _ ρ H (.refl r) (rep_int.mpr rfl)⟩
  · cases e
    obtain ⟨v, w, z, rfl, rv, rw_, rz⟩ := repL3 ra
    rw [rep_int] at rv rw_ rz; subst rv rw_ rz
    exact .inr (.inl ⟨_, _, _, rfl, q _ ρ H (.refl r) (rep_int.mpr rfl)⟩)
  · obtain ⟨es, he, e⟩ := Option.bind_eq_some_iff.mp e
    split at e
    · rename_i m ms hi
      cases e
      obtain ⟨v, rfl, rv⟩ := repL1 ra
      rw [rep_ref] at rv; obtain ⟨a, rfl, ea⟩ := rv
      obtain ⟨vs, s, l⟩ := lsOf_sq r he ea
      have hv := intsOf_rep hi l
      subst hv
      refine .inr (.inr ⟨a, m :: ms, rfl, s, by simp, fun k hk hle => ?_⟩)
      have g := maxI_ge ms m
      have e1 : k = maxI m ms := by
        have a1 : maxI m ms ≤ k := by
          rcases g.2.1 with z | z
          · rw [z]; exact hle _ (by simp)
          · exact hle _ (by simp [z])
        have a2 : k ≤ maxI m ms := by
          rcases List.mem_cons.mp hk with z | z
          · rw [z]; exact g.1
          · exact g.2.2 k z
        omega
      rw [e1]
      exact q _ ρ H (.refl r) (rep_int.mpr rfl)
    · cases e
  · cases e
theorem call_min3 (hc : X.calm = true) : CallR X (.builtin "min") (fun xs H Q => ∃ i j k, xs = [.int i, .int j, .int k] ∧ Q (.int (if j < i then (if k < j then k else j) else (if k < i then k else i))) H) := by
  intro pins s σ H xs us Q I r h
  obtain ⟨i, j, k, rfl, q⟩ := h
  obtain ⟨t, u, y, rfl⟩ : ∃ t u y, us = [Value.int i t, .int j u, .int k y] := by
    cases r with
    | cons r1 r2 =>
      cases r2 with
      | cons r3 r4 =>
        cases r4 with
        | cons r5 r6 =>
          cases r6
          obtain ⟨t, rfl⟩ := r1
          obtain ⟨u, rfl⟩ := r3
          obtain ⟨y, rfl⟩ := r5
          exact ⟨t, u, y, rfl⟩
  refine min_three_ints (I.ok.hd hc) fun h' tk kk => ⟨_, H, I.kept kk, ?_, q⟩
  split <;> split <;> exact ⟨_, rfl⟩
theorem cm_min (hc : X.calm = true) : CallR X (.builtin "min") (rN X.K minD) := by
  refine CallR.to (CallR.or (call_min2 hc) (CallR.or (call_min3 hc) (cr_min hc))) fun xs H Q ⟨ρ, hd, ds, d, hd', r, ra, e, q⟩ => ?_
  unfold minD at e
  split at e
  · cases e
    obtain ⟨v, w, rfl, rv, rw_⟩ := repL2 ra
    rw [rep_int] at rv rw_; subst rv rw_
    exact .inl ⟨_, _, rfl, q _ ρ H (.refl r) (rep_int.mpr rfl)⟩
  · cases e
    obtain ⟨v, w, z, rfl, rv, rw_, rz⟩ := repL3 ra
    rw [rep_int] at rv rw_ rz; subst rv rw_ rz
    exact .inr (.inl ⟨_, _, _, rfl, q _ ρ H (.refl r) (rep_int.mpr rfl)⟩)
  · obtain ⟨es, he, e⟩ := Option.bind_eq_some_iff.mp e
    split at e
    · rename_i m ms hi
      cases e
      obtain ⟨v, rfl, rv⟩ := repL1 ra
      rw [rep_ref] at rv; obtain ⟨a, rfl, ea⟩ := rv
      obtain ⟨vs, s, l⟩ := lsOf_sq r he ea
      have hv := intsOf_rep hi l
      subst hv
      refine .inr (.inr ⟨a, m :: ms, rfl, s, by simp, fun k hk hle => ?_⟩)
      have g := minI_le ms m
      have e1 : k = minI m ms := by
        have a1 : k ≤ minI m ms := by
          rcases g.2.1 with z | z
          · rw [z]; exact hle _ (by simp)
          · exact hle _ (by simp [z])
        have a2 : minI m ms ≤ k := by
          rcases List.mem_cons.mp hk with z | z
          · rw [z]; exact g.1
          · exact g.2.2 k z
        omega
      rw [e1]
      exact q _ ρ H (.refl r) (rep_int.mpr rfl)
    · cases e
  · cases e
theorem cm_sum (hc : X.calm = true) : CallR X (.builtin "sum") (rN X.K sumD) := by
  refine CallR.to (cr_sum hc) fun xs H Q ⟨ρ, hd, ds, d, hd', r, ra, e, q⟩ => ?_
  unfold sumD at e
  split at e
  · obtain ⟨es, he, e⟩ := Option.bind_eq_some_iff.mp e
    obtain ⟨ns, hi, e⟩ := Option.map_eq_some_iff.mp e
    cases e
    obtain ⟨v, rfl, rv⟩ := repL1 ra
    rw [rep_ref] at rv; obtain ⟨a, rfl, ea⟩ := rv
    obtain ⟨vs, s, l⟩ := lsOf_sq r he ea
    have hv := intsOf_rep hi l
    subst hv
    exact ⟨a, ns, rfl, s, q _ ρ H (.refl r) (rep_int.mpr rfl)⟩
  · cases e
theorem cm_all (hc : X.calm = true) : CallR X (.builtin "all") (rN X.K allD) := by
  refine CallR.to (cr_all hc) fun xs H Q ⟨ρ, hd, ds, d, hd', r, ra, e, q⟩ => ?_
  unfold allD at e
  split at e
  · obtain ⟨es, he, e⟩ := Option.bind_eq_some_iff.mp e
    obtain ⟨ns, hi, e⟩ := Option.map_eq_some_iff.mp e
    cases e
    obtain ⟨v, rfl, rv⟩ := repL1 ra
    rw [rep_ref] at rv; obtain ⟨a, rfl, ea⟩ := rv
    obtain ⟨vs, s, l⟩ := lsOf_sq r he ea
    have hv := blsOf_rep hi l
    subst hv
    exact ⟨a, ns, rfl, s, q _ ρ H (.refl r) (rep_bl.mpr rfl)⟩
  · cases e
theorem cm_any (hc : X.calm = true) : CallR X (.builtin "any") (rN X.K anyD) := by
  refine CallR.to (cr_any hc) fun xs H Q ⟨ρ, hd, ds, d, hd', r, ra, e, q⟩ => ?_
  unfold anyD at e
  split at e
  · obtain ⟨es, he, e⟩ := Option.bind_eq_some_iff.mp e
    obtain ⟨ns, hi, e⟩ := Option.map_eq_some_iff.mp e
    cases e
    obtain ⟨v, rfl, rv⟩ := repL1 ra
    rw [rep_ref] at rv; obtain ⟨a, rfl, ea⟩ := rv
    obtain ⟨vs, s, l⟩ := lsOf_sq r he ea
    have hv := blsOf_rep hi l
    subst hv
    exact ⟨a, ns, rfl, s, q _ ρ H (.refl r) (rep_bl.mpr rfl)⟩
  · cases e
theorem items_rep {K ρ H hd} {a : D} {v : V} {es : List D} (r : Rel K ρ H hd) (e : itemsOf hd a = some es) (q : Rep K ρ H a v) : ∃ p vs, v = .ref p ∧ (SqL K H p vs ∨ (a = .tup es ∧ SqT K H p vs)) ∧ RepL K ρ H es vs := by
  cases a <;> simp only [itemsOf] at e <;> try contradiction
  · cases e
    rw [rep_tup] at q
    obtain ⟨p, vs, rfl, s, l⟩ := q
    exact ⟨p, vs, rfl, .inr ⟨rfl, s⟩, l⟩
  · rw [rep_ref] at q
    obtain ⟨p, rfl, ep⟩ := q
    obtain ⟨vs, s, l⟩ := lsOf_sq r e ep
    exact ⟨p, vs, rfl, .inl s, l⟩
  · cases e
    rw [rep_fls] at q
    obtain ⟨p, vs, rfl, s, l⟩ := q
    exact ⟨p, vs, rfl, .inl s.sq, l⟩
theorem rep_new {K ρ H hd} {p : Addr} (r : Rel K ρ H hd) {H' : Hp} : Rep K (ρ ++ [p]) H' (.ref hd.length) (.ref p) := by
  rw [rep_ref]
  exact ⟨p, rfl, by rw [List.getElem?_append_right (by rw [r.len]; exact Nat.le_refl _), r.len]; simp⟩
theorem cm_list : CallR X (.type "list") (rN X.K listD) := by
  refine CallR.to call_list_of fun xs H Q ⟨ρ, hd, ds, d, hd', r, ra, e, q⟩ => ?_
  unfold listD at e
  split at e
  · obtain ⟨es, he, e⟩ := Option.map_eq_some_iff.mp e
    cases e
    obtain ⟨v, rfl, rv⟩ := repL1 ra
    obtain ⟨p, vs, rfl, h, l⟩ := items_rep r he rv
    refine ⟨p, vs, rfl, h.elim .inl (fun s => .inr s.2), fun z hz => q _ _ _ (.newL r hz l) (rep_new r)⟩
  · cases e
theorem cm_tuple : CallR X (.type "tuple") (rN X.K tupleD) := by
  refine CallR.to call_tuple_of fun xs H Q ⟨ρ, hd, ds, d, hd', r, ra, e, q⟩ => ?_
  unfold tupleD at e
  split at e
  · obtain ⟨es, he, e⟩ := Option.map_eq_some_iff.mp e
    cases e
    obtain ⟨v, rfl, rv⟩ := repL1 ra
    obtain ⟨p, vs, rfl, h, l⟩ := items_rep r he rv
    rcases h with s | ⟨_, s⟩
    · exact ⟨p, vs, rfl, .inl ⟨s, fun z hz => q _ ρ _ (.newT r hz) (rep_tup.mpr ⟨z, vs, rfl, .of upd_same, l.mono (List.prefix_refl _) (.new hz)⟩)⟩⟩
    · exact ⟨p, vs, rfl, .inr ⟨s, q _ ρ H (.refl r) (rep_tup.mpr ⟨p, vs, rfl, s, l⟩)⟩⟩
  · cases e
end
end Dl

namespace Dl
open PySem PySem.Spec PyProof.Rows L2
/-! ## expressions -/
def mVar (i : Nat) : EM := fun env hd => match env[i]? with | some (some d) => some (d, hd) | _ => none
def mC (d : D) : EM := fun _ hd => some (d, hd)
def mBin (g : G2) (a b : EM) : EM := fun env hd => (a env hd).bind fun p => (b env p.2).bind fun q => g p.1 q.1 q.2
def mUn (g : D → Hd → Option (D × Hd)) (a : EM) : EM := fun env hd => (a env hd).bind fun p => g p.1 p.2
def mNil : AM := fun _ hd => some ([], hd)
def mCons (a : EM) (r : AM) : AM := fun env hd => (a env hd).bind fun p => (r env p.2).bind fun q => some (p.1 :: q.1, q.2)
def mCall (g : GN) (r : AM) : EM := fun env hd => (r env hd).bind fun p => g p.1 p.2
def mTup (r : AM) : EM := fun env hd => (r env hd).bind fun p => if p.1.length ≤ 1000 then some (.tup p.1, p.2) else none
def mLst (r : AM) : EM := fun env hd => (r env hd).bind fun p => if p.1.length ≤ 1000 then some (.ref p.2.length, p.2 ++ [.lst p.1]) else none
def mChain (g g' : G2) (a b c : EM) : EM := fun env hd => (a env hd).bind fun p => (b env p.2).bind fun q => (g p.1 q.1 q.2).bind fun r => match r.1 with
  | .bl true => (c env r.2).bind fun z => g' q.1 z.1 z.2
  | .bl false => some (.bl false, r.2)
  | _ => none
def mAnd (a b : EM) : EM := fun env hd => (a env hd).bind fun p => match p.1 with | .bl true => b env p.2 | .bl false => some (.bl false, p.2) | _ => none
def mOr (a b : EM) : EM := fun env hd => (a env hd).bind fun p => match p.1 with | .bl false => b env p.2 | .bl true => some (.bl true, p.2) | _ => none
def mNot (a : EM) : EM := fun env hd => (a env hd).bind fun p => match p.1 with | .bl b => some (.bl (!b), p.2) | _ => none
def mIf (c : BM) (a b : EM) : EM := fun env hd => (c env hd).bind fun p => if p.1 = true then a env p.2 else b env p.2
/-- tests -/
def truD : D → Hd → Option Bool
  | .non, _ => some false
  | .bl b, _ => some b
  | .int i, _ => some (i != 0)
  | .str x, _ => if x.length ≤ 1000000 then some ((x.length : Int) != 0) else none
  | .tup ds, _ => some (!ds.isEmpty)
  | .fls ds, _ => some (!ds.isEmpty)
  | .ref n, hd => (lsOf hd n).map fun ds => !ds.isEmpty
  | .raw _, _ => none
def bTru (a : EM) : BM := fun env hd => (a env hd).bind fun p => (truD p.1 p.2).map fun b => (b, p.2)
def bCmp (a : EM) : BM := fun env hd => (a env hd).bind fun p => match p.1 with | .bl b => some (b, p.2) | _ => none
def bAnd (a b : BM) : BM := fun env hd => (a env hd).bind fun p => if p.1 = true then b env p.2 else some (false, p.2)
def bOr (a b : BM) : BM := fun env hd => (a env hd).bind fun p => if p.1 = true then some (true, p.2) else b env p.2
def bNot (a : BM) : BM := fun env hd => (a env hd).bind fun p => some (!p.1, p.2)

section
variable {K : PySem.W.Frag} {σ : L2.St} {H : Hp}
theorem bin_mono {g : G2} {fa fb : EM} {Q : VK} (h : tM K (mBin g fa fb) σ H Q) : tOp (rM K g) (tM K fa) (tM K fb) σ H Q := by
  obtain ⟨ρ, env, hd, d, hd', A, e, q⟩ := h
  obtain ⟨⟨x, h1⟩, e1, e⟩ := Option.bind_eq_some_iff.mp e
  obtain ⟨⟨y, h2⟩, e2, e⟩ := Option.bind_eq_some_iff.mp e
  refine ⟨ρ, env, hd, x, h1, A, e1, fun v1 ρ1 H1 P1 r1 => ⟨ρ1, env, h1, y, h2, A.post P1, e2, fun v2 ρ2 H2 P2 r2 => ?_⟩⟩
  exact ⟨ρ2, h2, x, y, d, hd', P2.rel, r1.mono P2.pre P2.ext, r2, e, fun v ρ3 H3 P3 r3 => q v ρ3 H3 (P1.trans (P2.trans P3)) r3⟩
theorem un_mono {g : D → Hd → Option (D × Hd)} {fa : EM} {Q : VK} (h : tM K (mUn g fa) σ H Q) : tUn (rU1 K g) (tM K fa) σ H Q := by
  obtain ⟨ρ, env, hd, d, hd', A, e, q⟩ := h
  obtain ⟨⟨x, h1⟩, e1, e⟩ := Option.bind_eq_some_iff.mp e
  exact ⟨ρ, env, hd, x, h1, A, e1, fun v1 ρ1 H1 P1 r1 => ⟨ρ1, h1, x, d, hd', P1.rel, r1, e, fun v ρ3 H3 P3 r3 => q v ρ3 H3 (P1.trans P3) r3⟩⟩
theorem cons_mono {fa : EM} {fr : AM} {Q : List V → Hp → Prop} (h : tA K (mCons fa fr) σ H Q) : tCons (tM K fa) (tA K fr) σ H Q := by
  obtain ⟨ρ, env, hd, d, hd', A, e, q⟩ := h
  obtain ⟨⟨x, h1⟩, e1, e⟩ := Option.bind_eq_some_iff.mp e
  obtain ⟨⟨y, h2⟩, e2, e⟩ := Option.bind_eq_some_iff.mp e
  cases e
  refine ⟨ρ, env, hd, x, h1, A, e1, fun v1 ρ1 H1 P1 r1 => ⟨ρ1, env, h1, y, h2, A.post P1, e2, fun v2 ρ2 H2 P2 r2 => q _ ρ2 H2 (P1.trans P2) ?_⟩⟩
  simp only [RepL]
  exact ⟨v1, v2, rfl, r1.mono P2.pre P2.ext, r2⟩
theorem nil_mono {Q : List V → Hp → Prop} (h : tA K mNil σ H Q) : tNil σ H Q := by
  obtain ⟨ρ, env, hd, d, hd', A, e, q⟩ := h
  cases e
  exact q [] ρ H (.refl A.rel) .nil
theorem call_mono {g : GN} {fr : AM} {Q : VK} (h : tM K (mCall g fr) σ H Q) : tCB (rN K g) (tA K fr) σ H Q := by
  obtain ⟨ρ, env, hd, d, hd', A, e, q⟩ := h
  obtain ⟨⟨x, h1⟩, e1, e⟩ := Option.bind_eq_some_iff.mp e
  exact ⟨ρ, env, hd, x, h1, A, e1, fun v1 ρ1 H1 P1 r1 => ⟨ρ1, h1, x, d, hd', P1.rel, r1, e, fun v ρ3 H3 P3 r3 => q v ρ3 H3 (P1.trans P3) r3⟩⟩
theorem len1000 {n : Nat} (h : n ≤ 1000) : n ≤ sizeLine := Nat.le_trans h (Nat.le_trans (by decide) line1M)
theorem tup_mono {fr : AM} {Q : VK} (h : tM K (mTup fr) σ H Q) : tTup (tA K fr) σ H Q := by
  obtain ⟨ρ, env, hd, d, hd', A, e, q⟩ := h
  obtain ⟨⟨x, h1⟩, e1, e⟩ := Option.bind_eq_some_iff.mp e
  split at e
  · rename_i hl
    cases e
    refine ⟨ρ, env, hd, x, h1, A, e1, fun vs ρ1 H1 P1 r1 => ⟨by rw [← r1.length]; exact len1000 hl, fun p np => ?_⟩⟩
    exact q _ ρ1 _ (P1.trans (.newT P1.rel np)) (rep_tup.mpr ⟨p, vs, rfl, .of upd_same, r1.mono (List.prefix_refl _) (.new np)⟩)
  · cases e
theorem lst_mono {fr : AM} {Q : VK} (h : tM K (mLst fr) σ H Q) : tLst (tA K fr) σ H Q := by
  obtain ⟨ρ, env, hd, d, hd', A, e, q⟩ := h
  obtain ⟨⟨x, h1⟩, e1, e⟩ := Option.bind_eq_some_iff.mp e
  split at e
  · rename_i hl
    cases e
    refine ⟨ρ, env, hd, x, h1, A, e1, fun vs ρ1 H1 P1 r1 => ⟨by rw [← r1.length]; exact len1000 hl, fun p np => ?_⟩⟩
    exact q _ _ _ (P1.trans (.newL P1.rel np r1)) (rep_new P1.rel)
  · cases e
theorem chain_mono {g g' : G2} {fa fb fc : EM} {Q : VK} (h : tM K (mChain g g' fa fb fc) σ H Q) : tChain (rM K g) (rM K g') (tM K fa) (tM K fb) (tM K fc) σ H Q := by
  obtain ⟨ρ, env, hd, d, hd', A, e, q⟩ := h
  obtain ⟨⟨x, h1⟩, e1, e⟩ := Option.bind_eq_some_iff.mp e
  obtain ⟨⟨y, h2⟩, e2, e⟩ := Option.bind_eq_some_iff.mp e
  obtain ⟨⟨z, h3⟩, e3, e⟩ := Option.bind_eq_some_iff.mp e
  refine ⟨ρ, env, hd, x, h1, A, e1, fun v1 ρ1 H1 P1 r1 => ⟨ρ1, env, h1, y, h2, A.post P1, e2, fun v2 ρ2 H2 P2 r2 => ?_⟩⟩
  refine ⟨ρ2, h2, x, y, z, h3, P2.rel, r1.mono P2.pre P2.ext, r2, e3, fun v ρ3 H3 P3 r3 => ?_⟩
  have A3 : At K ρ3 σ H3 env h3 := ((A.post P1).post P2).post P3
  dsimp only at e
  split at e
  · rw [rep_bl] at r3; subst r3
    refine ⟨true, rfl, ?_⟩
    rw [if_pos rfl]
    obtain ⟨⟨c, h4⟩, e4, e⟩ := Option.bind_eq_some_iff.mp e
    refine ⟨ρ3, env, h3, c, h4, A3, e4, fun v4 ρ4 H4 P4 r4 => ?_⟩
    exact ⟨ρ4, h4, y, c, d, hd', P4.rel, r2.mono (P3.pre.trans P4.pre) (P3.ext.trans P4.ext), r4, e, fun v ρ5 H5 P5 r5 => q v ρ5 H5 (P1.trans (P2.trans (P3.trans (P4.trans P5)))) r5⟩
  · rw [rep_bl] at r3; subst r3
    refine ⟨false, rfl, ?_⟩
    rw [if_neg Bool.false_ne_true]
    cases e
    exact q _ ρ3 H3 (P1.trans (P2.trans P3)) (rep_bl.mpr rfl)
  · cases e
theorem and_mono {fa fb : EM} {Q : VK} (h : tM K (mAnd fa fb) σ H Q) : tAndV (tM K fa) (tM K fb) σ H Q := by
  obtain ⟨ρ, env, hd, d, hd', A, e, q⟩ := h
  obtain ⟨⟨x, h1⟩, e1, e⟩ := Option.bind_eq_some_iff.mp e
  refine ⟨ρ, env, hd, x, h1, A, e1, fun v1 ρ1 H1 P1 r1 => ?_⟩
  dsimp only at e
  split at e
  · rw [rep_bl] at r1; subst r1
    refine ⟨true, rfl, ?_⟩
    rw [if_pos rfl]
    exact ⟨ρ1, env, h1, d, hd', A.post P1, e, fun v ρ2 H2 P2 r2 => q v ρ2 H2 (P1.trans P2) r2⟩
  · rw [rep_bl] at r1; subst r1
    refine ⟨false, rfl, ?_⟩
    rw [if_neg Bool.false_ne_true]
    cases e
    exact q _ ρ1 H1 P1 (rep_bl.mpr rfl)
  · cases e
theorem or_mono {fa fb : EM} {Q : VK} (h : tM K (mOr fa fb) σ H Q) : tOrV (tM K fa) (tM K fb) σ H Q := by
  obtain ⟨ρ, env, hd, d, hd', A, e, q⟩ := h
  obtain ⟨⟨x, h1⟩, e1, e⟩ := Option.bind_eq_some_iff.mp e
  refine ⟨ρ, env, hd, x, h1, A, e1, fun v1 ρ1 H1 P1 r1 => ?_⟩
  dsimp only at e
  split at e
  · rw [rep_bl] at r1; subst r1
    refine ⟨false, rfl, ?_⟩
    rw [if_neg Bool.false_ne_true]
    exact ⟨ρ1, env, h1, d, hd', A.post P1, e, fun v ρ2 H2 P2 r2 => q v ρ2 H2 (P1.trans P2) r2⟩
  · rw [rep_bl] at r1; subst r1
    refine ⟨true, rfl, ?_⟩
    rw [if_pos rfl]
    cases e
    exact q _ ρ1 H1 P1 (rep_bl.mpr rfl)
  · cases e
theorem not_mono {fa : EM} {Q : VK} (h : tM K (mNot fa) σ H Q) : tNotV (tM K fa) σ H Q := by
  obtain ⟨ρ, env, hd, d, hd', A, e, q⟩ := h
  obtain ⟨⟨x, h1⟩, e1, e⟩ := Option.bind_eq_some_iff.mp e
  refine ⟨ρ, env, hd, x, h1, A, e1, fun v1 ρ1 H1 P1 r1 => ?_⟩
  dsimp only at e
  split at e
  · rw [rep_bl] at r1; subst r1; cases e
    exact ⟨_, rfl, q _ ρ1 H1 P1 (rep_bl.mpr rfl)⟩
  · cases e
theorem if_mono {fc : BM} {fa fb : EM} {Q : VK} (h : tM K (mIf fc fa fb) σ H Q) : tIf (tT K fc) (tM K fa) (tM K fb) σ H Q := by
  obtain ⟨ρ, env, hd, d, hd', A, e, q⟩ := h
  obtain ⟨⟨x, h1⟩, e1, e⟩ := Option.bind_eq_some_iff.mp e
  refine ⟨ρ, env, hd, x, h1, A, e1, fun ρ1 H1 P1 => ?_⟩
  dsimp only at e
  split at e
  · rename_i hx; rw [if_pos hx]
    exact ⟨ρ1, env, h1, d, hd', A.post P1, e, fun v ρ2 H2 P2 r2 => q v ρ2 H2 (P1.trans P2) r2⟩
  · rename_i hx; rw [if_neg hx]
    exact ⟨ρ1, env, h1, d, hd', A.post P1, e, fun v ρ2 H2 P2 r2 => q v ρ2 H2 (P1.trans P2) r2⟩
theorem bcmp_mono {fa : EM} {Q : Bool → Hp → Prop} (h : tT K (bCmp fa) σ H Q) : tTest (tM K fa) σ H Q := by
  obtain ⟨ρ, env, hd, d, hd', A, e, q⟩ := h
  obtain ⟨⟨x, h1⟩, e1, e⟩ := Option.bind_eq_some_iff.mp e
  refine ⟨ρ, env, hd, x, h1, A, e1, fun v1 ρ1 H1 P1 r1 => ?_⟩
  dsimp only at e
  split at e
  · cases e
    rw [rep_bl] at r1
    exact ⟨_, r1, q ρ1 H1 P1⟩
  · cases e
theorem empty_eq {α β : Type} {l : List α} {m : List β} (h : l.length = m.length) : (!l.isEmpty) = !m.isEmpty := by
  cases l <;> cases m <;> first | rfl | (simp at h)
theorem tru_of {ρ hd} {x : D} {v : V} {b : Bool} (r : Rel K ρ H hd) (q : Rep K ρ H x v) (hb : truD x hd = some b) : TruV K v H b := by
  cases x <;> simp only [truD] at hb <;> try contradiction
  · rw [rep_non] at q; subst q; cases hb; rfl
  · rw [rep_bl] at q; subst q; cases hb; rfl
  · rw [rep_int] at q; subst q; cases hb; rfl
  · rw [rep_str] at q; subst q
    split at hb
    · rename_i hl; cases hb; exact ⟨Nat.le_trans hl line1M, rfl⟩
    · cases hb
  · rw [rep_tup] at q; obtain ⟨a, vs, rfl, s, l⟩ := q
    cases hb
    exact .inr (.inl ⟨vs, s, empty_eq l.length⟩)
  · rw [rep_ref] at q; obtain ⟨a, rfl, ea⟩ := q
    obtain ⟨ds, hl, e⟩ := Option.map_eq_some_iff.mp hb
    subst e
    obtain ⟨vs, s, l⟩ := lsOf_sq r hl ea
    exact .inl ⟨vs, s, empty_eq l.length⟩
  · rw [rep_fls] at q; obtain ⟨a, vs, rfl, s, l⟩ := q
    cases hb
    exact .inl ⟨vs, s.sq, empty_eq l.length⟩
theorem btru_mono {fa : EM} {Q : Bool → Hp → Prop} (h : tT K (bTru fa) σ H Q) : tM K fa σ H fun x H' => ∃ k, TruV K x H' k ∧ Q k H' := by
  obtain ⟨ρ, env, hd, b, hd', A, e, q⟩ := h
  obtain ⟨⟨x, h1⟩, e1, e⟩ := Option.bind_eq_some_iff.mp e
  obtain ⟨b', hb, e⟩ := Option.map_eq_some_iff.mp e
  obtain ⟨rfl, rfl⟩ := Prod.mk.inj e
  exact ⟨ρ, env, hd, x, h1, A, e1, fun v1 ρ1 H1 P1 r1 => ⟨b', tru_of P1.rel r1 hb, q ρ1 H1 P1⟩⟩
theorem band_mono {fa fb : BM} {Q : Bool → Hp → Prop} (h : tT K (bAnd fa fb) σ H Q) : tAnd (tT K fa) (tT K fb) σ H Q := by
  obtain ⟨ρ, env, hd, d, hd', A, e, q⟩ := h
  obtain ⟨⟨x, h1⟩, e1, e⟩ := Option.bind_eq_some_iff.mp e
  refine ⟨ρ, env, hd, x, h1, A, e1, fun ρ1 H1 P1 => ?_⟩
  dsimp only at e
  split at e
  · rename_i hx; rw [if_pos hx]
    exact ⟨ρ1, env, h1, d, hd', A.post P1, e, fun ρ2 H2 P2 => q ρ2 H2 (P1.trans P2)⟩
  · rename_i hx; rw [if_neg hx]; cases e
    exact q ρ1 H1 P1
theorem bor_mono {fa fb : BM} {Q : Bool → Hp → Prop} (h : tT K (bOr fa fb) σ H Q) : tOr (tT K fa) (tT K fb) σ H Q := by
  obtain ⟨ρ, env, hd, d, hd', A, e, q⟩ := h
  obtain ⟨⟨x, h1⟩, e1, e⟩ := Option.bind_eq_some_iff.mp e
  refine ⟨ρ, env, hd, x, h1, A, e1, fun ρ1 H1 P1 => ?_⟩
  dsimp only at e
  split at e
  · rename_i hx; rw [if_pos hx]; cases e
    exact q ρ1 H1 P1
  · rename_i hx; rw [if_neg hx]
    exact ⟨ρ1, env, h1, d, hd', A.post P1, e, fun ρ2 H2 P2 => q ρ2 H2 (P1.trans P2)⟩
theorem bnot_mono {fa : BM} {Q : Bool → Hp → Prop} (h : tT K (bNot fa) σ H Q) : L2.tNot (tT K fa) σ H Q := by
  obtain ⟨ρ, env, hd, d, hd', A, e, q⟩ := h
  obtain ⟨⟨x, h1⟩, e1, e⟩ := Option.bind_eq_some_iff.mp e
  cases e
  exact ⟨ρ, env, hd, x, h1, A, e1, fun ρ1 H1 P1 => q ρ1 H1 P1⟩
end

section
variable {X : Cx} {pos : Pos} {a b c e : Expr} {es : List Expr} {fa fb fc : EM} {fr : AM} {ba bb : BM}
theorem pm_var {i : Nat} (h : PE X a (tVar i)) : PE X a (tM X.K (mVar i)) := PE.to h fun σ H Q ⟨ρ, env, hd, d, hd', A, e, q⟩ => by
  unfold mVar at e
  split at e
  · rename_i d' hd
    cases e
    obtain ⟨v, h1, h2⟩ := A.sl.2 i d hd
    exact ⟨v, h1, q v ρ H (.refl A.rel) h2⟩
  · cases e
theorem pm_c {v : V} {d : D} (h : PE X a (tC v)) (r : ∀ K ρ H, Rep K ρ H d v) : PE X a (tM X.K (mC d)) := PE.to h fun σ H Q ⟨ρ, env, hd, d', hd', A, e, q⟩ => by
  cases e
  exact q v ρ H (.refl A.rel) (r _ _ _)
theorem pm_int {i j} : PE X (.Constant (.int i) j pos) (tM X.K (mC (.int i))) := pm_c pe_int fun _ _ _ => rep_int.mpr rfl
theorem pm_bl {i j} : PE X (.Constant (.bool i) j pos) (tM X.K (mC (.bl i))) := pm_c pe_bl fun _ _ _ => rep_bl.mpr rfl
theorem pm_str {i j} : PE X (.Constant (.str i) j pos) (tM X.K (mC (.str i))) := pm_c pe_str fun _ _ _ => rep_str.mpr rfl
theorem pm_non {j} : PE X (.Constant .none j pos) (tM X.K (mC .non)) := pm_c pe_non fun _ _ _ => rep_non.mpr rfl
theorem pm_raw {v : V} (h : PE X a (tC v)) : PE X a (tM X.K (mC (.raw v))) := pm_c h fun _ _ _ => rep_raw.mpr rfl
theorem pm_bin {op : Operator} {g : G2} (ho : OpR X (binaryOp op) (rM X.K g)) (ha : PE X a (tM X.K fa)) (hb : PE X b (tM X.K fb)) : PE X (.BinOp a op b pos) (tM X.K (mBin g fa fb)) := PE.to (pe_op ho ha hb) fun _ _ _ => bin_mono
theorem pm_cmp {op : CmpOp} {g : G2} (ho : OpR X (compareOp op) (rM X.K g)) (ha : PE X a (tM X.K fa)) (hb : PE X b (tM X.K fb)) (hm : behindInMarks op b = false) : PE X (.Compare a [op] [b] pos) (tM X.K (mBin g fa fb)) := PE.to (pe_cmpR ho ha hb hm) fun _ _ _ => bin_mono
theorem pm_un {op : UnaryOp} {g : D → Hd → Option (D × Hd)} (ho : UnR X (unaryOp op) (rU1 X.K g)) (ha : PE X a (tM X.K fa)) : PE X (.UnaryOp op a pos) (tM X.K (mUn g fa)) := PE.to (pe_un ho ha) fun _ _ _ => un_mono
theorem pm_chain {op op' : CmpOp} {g g' : G2} (ho : OpR X (compareOp op) (rM X.K g)) (ho' : OpR X (compareOp op') (rM X.K g')) (ha : PE X a (tM X.K fa)) (hb : PE X b (tM X.K fb)) (hc : PE X c (tM X.K fc))
    (hm : lastMarks [op, op'] [b, c] = false := by with_unfolding_all rfl) : PE X (.Compare a [op, op'] [b, c] pos) (tM X.K (mChain g g' fa fb fc)) := PE.to (pe_chain ho ho' ha hb hc hm) fun _ _ _ => chain_mono
theorem pm_nil : PA X [] (tA X.K mNil) := PA.to pa_nil fun _ _ _ => nil_mono
theorem pm_cons (ha : PE X e (tM X.K fa)) (hr : PA X es (tA X.K fr)) (hs : starEach (e :: es) X.env = (false, eval e X.env) :: starEach es X.env := by rfl) : PA X (e :: es) (tA X.K (mCons fa fr)) := PA.to (pa_cons ha hr hs) fun _ _ _ => cons_mono
theorem pm_tup {x1} (h : PA X es (tA X.K fr)) : PE X (.Tuple es x1 pos) (tM X.K (mTup fr)) := PE.to (pe_tup h) fun _ _ _ => tup_mono
theorem pm_lst (h : PA X es (tA X.K fr)) : PE X (.List es pos) (tM X.K (mLst fr)) := PE.to (pe_lst h) fun _ _ _ => lst_mono
theorem pm_one {op} (h : PE X a (tM X.K fa)) : PE X (.BoolOp op [a] pos) (tM X.K fa) := pe_one h
theorem pm_and {rest : List Expr} (ha : PE X a (tM X.K fa)) (hb : PE X (.BoolOp .And (b :: rest) pos) (tM X.K fb)) : PE X (.BoolOp .And (a :: b :: rest) pos) (tM X.K (mAnd fa fb)) := PE.to (pe_and ha hb) fun _ _ _ => and_mono
theorem pm_or {rest : List Expr} (ha : PE X a (tM X.K fa)) (hb : PE X (.BoolOp .Or (b :: rest) pos) (tM X.K fb)) : PE X (.BoolOp .Or (a :: b :: rest) pos) (tM X.K (mOr fa fb)) := PE.to (pe_or ha hb) fun _ _ _ => or_mono
theorem pm_not (ha : PE X a (tM X.K fa)) : PE X (.UnaryOp .Not a pos) (tM X.K (mNot fa)) := PE.to (pe_not ha) fun _ _ _ => not_mono
theorem pm_if (hc : PT X c (tT X.K ba)) (ha : PE X a (tM X.K fa)) (hb : PE X b (tM X.K fb)) : PE X (.IfExp c a b pos) (tM X.K (mIf ba fa fb)) := PE.to (pe_ifExp hc ha hb) fun _ _ _ => if_mono
theorem pm_callB {x : Str} {id : String} {p : Pos} {g : GN} (hc : CallR X (.builtin id) (rN X.K g)) (hg : Gl X x) (hm : X.mg x = none) (hv : bootBuiltins x = some (.builtin id)) (ha : PA X (e :: es) (tA X.K fr)) (hn : x ≠ "__name__" := by decide) (hdb : (x == ("__debug__" : Str)) = false := by decide)
    (he : starEach (e :: es) X.env = (false, eval e X.env) :: starEach es X.env := by rfl) (hpl : (backTo pos (starEach es X.env)).any (·.1) = false := by rfl) : PE X (.Call (.Name x p) (e :: es) [] pos) (tM X.K (mCall g fr)) := PE.to (pe_callB hc hg hm hv ha hn hdb he hpl) fun _ _ _ => call_mono
theorem pm_callTy {x : Str} {T : String} {p : Pos} {g : GN} (hc : CallR X (.type T) (rN X.K g)) (hg : Gl X x) (hm : X.mg x = none) (hv : bootBuiltins x = some (.type T)) (ha : PA X (e :: es) (tA X.K fr)) (hn : x ≠ "__name__" := by decide) (hdb : (x == ("__debug__" : Str)) = false := by decide)
    (he : starEach (e :: es) X.env = (false, eval e X.env) :: starEach es X.env := by rfl) (hpl : (backTo pos (starEach es X.env)).any (·.1) = false := by rfl) : PE X (.Call (.Name x p) (e :: es) [] pos) (tM X.K (mCall g fr)) := PE.to (pe_callTy hc hg hm hv ha hn hdb he hpl) fun _ _ _ => call_mono
theorem pm_callF {x : Str} {id : String} {p : Pos} {g : GN} (hc : CallR X (.builtin id) (rN X.K g)) (hg : Gl X x) (hm : X.mg x = some (.builtin id)) (ha : PA X (e :: es) (tA X.K fr)) (hdb : (x == ("__debug__" : Str)) = false := by decide)
    (he : starEach (e :: es) X.env = (false, eval e X.env) :: starEach es X.env := by rfl) (hpl : (backTo pos (starEach es X.env)).any (·.1) = false := by rfl) : PE X (.Call (.Name x p) (e :: es) [] pos) (tM X.K (mCall g fr)) := PE.to (pe_callBfun hc hg hm ha hdb he hpl) fun _ _ _ => call_mono
theorem pt_tru (ha : PE X a (tM X.K fa)) (he : ∀ whole, isTrue a X.env whole = (do let v ← whole; standAt a.pos; holding [v] (truthy v)) := by intro _; rfl) : PT X a (tT X.K (bTru fa)) := PT.to (pt_truth ha he) fun _ _ _ => btru_mono
theorem pt_cm {op : CmpOp} {g : G2} (ho : OpR X (compareOp op) (rM X.K g)) (ha : PE X a (tM X.K fa)) (hb : PE X b (tM X.K fb)) (hm : behindInMarks op b = false) : PT X (.Compare a [op] [b] pos) (tT X.K (bCmp (mBin g fa fb))) :=
  PT.to (pt_cmpR ho ha hb hm) fun σ H Q h => by
    have := bcmp_mono h
    exact bin_mono this
theorem pt_ch {op op' : CmpOp} {g g' : G2} (ho : OpR X (compareOp op) (rM X.K g)) (ho' : OpR X (compareOp op') (rM X.K g')) (ha : PE X a (tM X.K fa)) (hb : PE X b (tM X.K fb)) (hc : PE X c (tM X.K fc))
    (hm : lastMarks [op, op'] [b, c] = false := by with_unfolding_all rfl) : PT X (.Compare a [op, op'] [b, c] pos) (tT X.K (bCmp (mChain g g' fa fb fc))) :=
  PT.to (pt_chain ho ho' ha hb hc hm) fun σ H Q h => by
    have := bcmp_mono h
    exact chain_mono this
theorem PW.to {e : Expr} {t t' : TT} (h : PW X e t) (m : ∀ σ H Q, t' σ H Q → t σ H Q) : PW X e t' := ⟨fun wh pins s σ H Q I q => h.run wh pins s σ H Q I (m σ H Q q)⟩
theorem pwm_and1 (ha : PT X a (tT X.K ba)) : PW X (.BoolOp .And [a] pos) (tT X.K ba) := pw_and1 ha
theorem pwm_or1 (ha : PT X a (tT X.K ba)) : PW X (.BoolOp .Or [a] pos) (tT X.K ba) := pw_or1 ha
theorem pwm_and {rest : List Expr} (ha : PT X a (tT X.K ba)) (hb : PW X (.BoolOp .And (b :: rest) pos) (tT X.K bb)) : PW X (.BoolOp .And (a :: b :: rest) pos) (tT X.K (bAnd ba bb)) := PW.to (pw_and ha hb) fun _ _ _ => band_mono
theorem pwm_or {rest : List Expr} (ha : PT X a (tT X.K ba)) (hb : PW X (.BoolOp .Or (b :: rest) pos) (tT X.K bb)) : PW X (.BoolOp .Or (a :: b :: rest) pos) (tT X.K (bOr ba bb)) := PW.to (pw_or ha hb) fun _ _ _ => bor_mono
theorem ptm_not (ha : PT X a (tT X.K ba)) : PT X (.UnaryOp .Not a pos) (tT X.K (bNot ba)) := PT.to (pt_not ha) fun _ _ _ => bnot_mono
end
end Dl

namespace Dl
open PySem PySem.Spec PyProof.Rows L2
/-! ## statements -/
def mSeq (f g : SM) : SM := fun env hd => (f env hd).bind fun p => match p.1 with | .nx => g p.2.1 p.2.2 | _ => some p
def mSkip : SM := fun env hd => some (.nx, env, hd)
def mNone : SM := fun _ _ => none
def mRet (a : EM) : SM := fun env hd => (a env hd).bind fun p => some (.rt p.1, env, p.2)
def mExpr (a : EM) : SM := fun env hd => (a env hd).bind fun p => some (.nx, env, p.2)
def mIfS (c : BM) (f g : SM) : SM := fun env hd => (c env hd).bind fun p => if p.1 = true then f env p.2 else g env p.2
abbrev GT := D → Ev → Hd → Option (Ev × Hd)
def mAsg (a : EM) (g : GT) : SM := fun env hd => (a env hd).bind fun p => (g p.1 env p.2).bind fun q => some (.nx, q.1, q.2)
def gNm (i : Nat) : GT := fun d env hd => some (env.set i (some d), hd)
abbrev GTs := List D → Ev → Hd → Option (Ev × Hd)
def gsNil : GTs := fun ds env hd => match ds with | [] => some (env, hd) | _ => none
def gsCons (g : GT) (r : GTs) : GTs := fun ds env hd => match ds with | d :: ds => (g d env hd).bind fun p => r ds p.1 p.2 | [] => none
def gTp (r : GTs) : GT := fun d env hd => match d with | .tup ds => r ds env hd | .ref n => (lsOf hd n).bind fun ds => r ds env hd | _ => none
def mPar (i j : Nat) (r : AM) : SM := fun env hd => (r env hd).bind fun p => match p.1 with | [a, b] => some (.nx, (env.set i (some a)).set j (some b), p.2) | _ => none
def mPar3 (i j l : Nat) (r : AM) : SM := fun env hd => (r env hd).bind fun p => match p.1 with | [a, b, c] => some (.nx, ((env.set i (some a)).set j (some b)).set l (some c), p.2) | _ => none

theorem wipe_set_mem {i : Nat} {v : Option V} : ∀ {vs : List Nat} {σ : L2.St}, i ∈ vs → wipe (σ.set i v) vs = wipe σ vs
  | [], _, h => by simp at h
  | j :: vs, σ, h => by
    unfold wipe
    by_cases hv : i ∈ vs
    · rw [wipe_set_mem hv]
    · have e : i = j := by
        rcases List.mem_cons.mp h with h | h
        · exact h
        · exact absurd h hv
      subst e
      have out : ∀ (vs : List Nat) (σ : L2.St), i ∉ vs → wipe (σ.set i v) vs = (wipe σ vs).set i v := by
        intro vs
        induction vs with
        | nil => intro σ _; rfl
        | cons k ks ih =>
          intro σ hk
          simp only [List.mem_cons, not_or] at hk
          unfold wipe
          rw [ih σ hk.2, List.set_comm _ _ hk.1]
      rw [out vs σ hv, List.set_set]
theorem wipe_mem_none {i : Nat} : ∀ {vs : List Nat} {σ : L2.St}, i ∈ vs → (wipe σ vs).set i none = wipe σ vs
  | [], _, h => by simp at h
  | j :: vs, σ, h => by
    unfold wipe
    by_cases e : i = j
    · subst e; rw [List.set_set]
    · have hv : i ∈ vs := by
        rcases List.mem_cons.mp h with h | h
        · exact absurd h e
        · exact h
      rw [List.set_comm _ _ (fun z => e z.symm), wipe_mem_none hv]
theorem wipe_wipe : ∀ (ws vs : List Nat) (σ : L2.St), (∀ i ∈ ws, i ∈ vs) → wipe (wipe σ vs) ws = wipe σ vs
  | [], _, _, _ => rfl
  | i :: ws, vs, σ, h => by
    show (wipe (wipe σ vs) ws).set i none = wipe σ vs
    rw [wipe_wipe ws vs σ (fun j hj => h j (List.mem_cons_of_mem _ hj))]
    exact wipe_mem_none (h i (by simp))

/-- what a target's store leaves -/
def gM (K : PySem.W.Frag) (sl : List Nat) (g : GT) : TG := fun v σ H Q => ∃ ρ env hd d env' hd', At K ρ σ H env hd ∧ Rep K ρ H d v ∧ g d env hd = some (env', hd') ∧ ∀ ρ' σ' H', Post K ρ ρ' H H' hd' → SRel K ρ' H' env' σ' → (∀ vs, (∀ i ∈ sl, i ∈ vs) → wipe σ' vs = wipe σ vs) → Q σ' H'
def gsM (K : PySem.W.Frag) (sl : List Nat) (g : GTs) : TGs := fun vs σ H Q => ∃ ρ env hd ds env' hd', At K ρ σ H env hd ∧ RepL K ρ H ds vs ∧ g ds env hd = some (env', hd') ∧ ∀ ρ' σ' H', Post K ρ ρ' H H' hd' → SRel K ρ' H' env' σ' → (∀ vs, (∀ i ∈ sl, i ∈ vs) → wipe σ' vs = wipe σ vs) → Q σ' H'
theorem PG.to {X : Cx} {e : Expr} {t t' : TG} (h : PG X e t) (m : ∀ v σ H Q, t' v σ H Q → t v σ H Q) : PG X e t' := ⟨fun pins s σ H v u Q I r q => h.run pins s σ H v u Q I r (m v σ H Q q)⟩
theorem PGs.to {X : Cx} {e : List Expr} {t t' : TGs} (h : PGs X e t) (m : ∀ v σ H Q, t' v σ H Q → t v σ H Q) : PGs X e t' := ⟨fun pins s σ H v u Q I r q => h.run pins s σ H v u Q I r (m v σ H Q q)⟩
section
variable {X : Cx} {pos : Pos} {a b c e : Expr} {es : List Expr} {st : Stmt} {sts : List Stmt} {fa fb fc : EM} {fr : AM} {ba bb : BM} {fs gs : SM} {g : GT} {rs : GTs} {sl sl' : List Nat}
theorem pgm_name {i : Nat} {x : Str} (hN : X.N.Nodup) (hi : X.N[i]? = some x) (hx : Loc X.env.scope x) (hf : X.fn x = true ∨ X.env.scope.names.lookup x = some .local := by first | exact .inl rfl | exact .inr rfl | assumption) : PG X (.Name x pos) (gM X.K [i] (gNm i)) :=
  PG.to (pg_name hN hi hx hf) fun v σ H Q ⟨ρ, env, hd, d, env', hd', A, r, e, q⟩ => by
    cases e
    exact q ρ _ H (.refl A.rel) (A.sl.set r) fun vs h => wipe_set_mem (h i (by simp))
theorem pgsm_nil : PGs X [] (gsM X.K [] gsNil) := PGs.to pgs_nil fun vs σ H Q ⟨ρ, env, hd, ds, env', hd', A, r, e, q⟩ => by
  unfold gsNil at e
  split at e
  · cases e
    simp only [RepL] at r
    exact ⟨r, q ρ σ H (.refl A.rel) A.sl fun _ _ => rfl⟩
  · cases e
theorem pgsm_cons (h1 : PG X e (gM X.K sl g)) (h2 : PGs X es (gsM X.K sl' rs))
    (hs : (assignEach (e :: es) X.env).map (·.2) = assign e X.env :: (assignEach es X.env).map (·.2) := by rfl) : PGs X (e :: es) (gsM X.K (sl ++ sl') (gsCons g rs)) :=
  PGs.to (pgs_cons h1 h2 hs) fun vs σ H Q ⟨ρ, env, hd, ds, env', hd', A, r, e, q⟩ => by
    unfold gsCons at e
    split at e
    · rename_i d ds'
      obtain ⟨⟨env1, hd1⟩, e1, e⟩ := Option.bind_eq_some_iff.mp e
      simp only [RepL] at r
      obtain ⟨v, w, rfl, r1, r2⟩ := r
      refine ⟨v, w, rfl, ρ, env, hd, d, env1, hd1, A, r1, e1, fun ρ1 σ1 H1 P1 S1 w1 => ?_⟩
      exact ⟨ρ1, env1, hd1, ds', env', hd', ⟨P1.rel, S1⟩, r2.mono P1.pre P1.ext, e, fun ρ2 σ2 H2 P2 S2 w2 => q ρ2 σ2 H2 (P1.trans P2) S2 fun vs h => (w2 vs fun i hi => h i (List.mem_append_right _ hi)).trans (w1 vs fun i hi => h i (List.mem_append_left _ hi))⟩
    · cases e
theorem gs_len : ∀ {es : List Expr} {n : Nat}, True := trivial
theorem PG.orG {X : Cx} {e : Expr} {t t' : TG} (h : PG X e t) (h' : PG X e t') : PG X e (fun v σ H Q => t v σ H Q ∨ t' v σ H Q) := ⟨fun pins s σ H v u Q I r q => q.elim (h.run pins s σ H v u Q I r) (h'.run pins s σ H v u Q I r)⟩
theorem pgm_tup {k n : Nat} (hc : X.calm = true) (h : PGs X es (gsM X.K sl rs)) (hlen : ∀ ds env hd r, rs ds env hd = some r → ds.length = n)
    (hn : (assignEach es X.env).length = n := by rfl) (hst : (assignEach es X.env).findIdx? (·.1) = none := by rfl) : PG X (.Tuple es k pos) (gM X.K sl (gTp rs)) :=
  PG.to (PG.orG (pg_tup hc h hn hst) (pg_unl hc h hn hst)) fun v σ H Q ⟨ρ, env, hd, d, env', hd', A, r, e, q⟩ => by
    unfold gTp at e
    split at e
    · rename_i ds
      rw [rep_tup] at r
      obtain ⟨p, vs, rfl, s, l⟩ := r
      exact .inl ⟨p, vs, rfl, s, by rw [← l.length]; exact hlen _ _ _ _ e, ρ, env, hd, ds, env', hd', A, l, e, q⟩
    · rename_i m
      obtain ⟨ds, hl, e⟩ := Option.bind_eq_some_iff.mp e
      rw [rep_ref] at r
      obtain ⟨p, rfl, ea⟩ := r
      obtain ⟨vs, sq, l⟩ := lsOf_sq A.rel hl ea
      exact .inr ⟨p, vs, rfl, sq, by rw [← l.length]; exact hlen _ _ _ _ e, ρ, env, hd, ds, env', hd', A, l, e, q⟩
    · cases e
theorem gsNil_len : ∀ ds env hd r, gsNil ds env hd = some r → ds.length = 0 := fun ds env hd r e => by
  unfold gsNil at e
  split at e
  · rfl
  · cases e
theorem gsCons_len {n : Nat} {g : GT} {rs : GTs} (h : ∀ ds env hd r, rs ds env hd = some r → ds.length = n) : ∀ ds env hd r, gsCons g rs ds env hd = some r → ds.length = n + 1 := fun ds env hd r e => by
  unfold gsCons at e
  split at e
  · obtain ⟨p, e1, e⟩ := Option.bind_eq_some_iff.mp e
    simp [h _ _ _ _ e]
  · cases e

theorem psm_nil : PSs X [] (tS X.K mSkip) := PSs.to pss_nil fun D σ H ⟨ρ, env, hd, fl, env', hd', A, e, q⟩ => by
  cases e
  exact q ρ σ H (.refl A.rel) A.sl
theorem psm_pass : PS X (.Pass pos) (tS X.K mSkip) := PS.to ps_pass fun D σ H ⟨ρ, env, hd, fl, env', hd', A, e, q⟩ => by
  cases e
  exact q ρ σ H (.refl A.rel) A.sl
theorem psm_cons (h1 : PS X st (tS X.K fs)) (h2 : PSs X sts (tS X.K gs)) : PSs X (st :: sts) (tS X.K (mSeq fs gs)) := PSs.to (pss_cons h1 h2) fun D σ H ⟨ρ, env, hd, fl, env', hd', A, e, q⟩ => by
  obtain ⟨⟨fl1, env1, hd1⟩, e1, e⟩ := Option.bind_eq_some_iff.mp e
  refine ⟨ρ, env, hd, fl1, env1, hd1, A, e1, fun ρ1 σ1 H1 P1 S1 => ?_⟩
  dsimp only at e
  split at e
  · exact ⟨ρ1, env1, hd1, fl, env', hd', ⟨P1.rel, S1⟩, e, fun ρ2 σ2 H2 P2 S2 => q ρ2 σ2 H2 (P1.trans P2) S2⟩
  · rename_i hne
    cases e
    have := q ρ1 σ1 H1 P1 S1
    cases fl
    · exact (hne rfl).elim
    · exact this
    · exact this
    · exact this
theorem psm_one (h1 : PS X st (tS X.K fs)) : PSs X [st] (tS X.K fs) := pss_one h1
theorem psm_never : PS X st (tS X.K mNone) := PS.to ps_never fun D σ H ⟨ρ, env, hd, fl, env', hd', A, e, q⟩ => by cases e
theorem psm_ret (ha : PE X a (tM X.K fa)) : PS X (.Return (some a) pos) (tS X.K (mRet fa)) := PS.to (ps_ret ha) fun D σ H ⟨ρ, env, hd, fl, env', hd', A, e, q⟩ => by
  obtain ⟨⟨x, h1⟩, e1, e⟩ := Option.bind_eq_some_iff.mp e
  cases e
  exact ⟨ρ, env, hd, x, h1, A, e1, fun v ρ1 H1 P1 r1 => q ρ1 σ H1 P1 (A.sl.mono P1.pre P1.ext) v r1⟩
theorem psm_expr (ha : PE X a (tM X.K fa)) (hs : swapsWith a none pos.line X.env = pure false := by rfl) : PS X (.Expr a pos) (tS X.K (mExpr fa)) := PS.to (ps_expr ha hs) fun D σ H ⟨ρ, env, hd, fl, env', hd', A, e, q⟩ => by
  obtain ⟨⟨x, h1⟩, e1, e⟩ := Option.bind_eq_some_iff.mp e
  cases e
  exact ⟨ρ, env, hd, x, h1, A, e1, fun v ρ1 H1 P1 r1 => q ρ1 σ H1 P1 (A.sl.mono P1.pre P1.ext)⟩
theorem psm_if {fs gs : SM} {xs ys : List Stmt} (hc : PT X c (tT X.K ba)) (h1 : PSs X xs (tS X.K fs)) (h2 : PSs X ys (tS X.K gs)) : PS X (.If c xs ys pos) (tS X.K (mIfS ba fs gs)) := PS.to (ps_if hc h1 h2) fun D σ H ⟨ρ, env, hd, fl, env', hd', A, e, q⟩ => by
  obtain ⟨⟨x, h1⟩, e1, e⟩ := Option.bind_eq_some_iff.mp e
  refine ⟨ρ, env, hd, x, h1, A, e1, fun ρ1 H1 P1 => ?_⟩
  dsimp only at e
  split at e
  · rename_i hx; rw [if_pos hx]
    exact ⟨ρ1, env, h1, fl, env', hd', A.post P1, e, fun ρ2 σ2 H2 P2 S2 => q ρ2 σ2 H2 (P1.trans P2) S2⟩
  · rename_i hx; rw [if_neg hx]
    exact ⟨ρ1, env, h1, fl, env', hd', A.post P1, e, fun ρ2 σ2 H2 P2 S2 => q ρ2 σ2 H2 (P1.trans P2) S2⟩
theorem psm_asg {tg : Expr} (ha : PE X a (tM X.K fa)) (hg : PG X tg (gM X.K sl g)) (hs : swapsWithSole [tg] a pos.line X.env = pure false := by rfl) (hw : swappedStores [tg] a X.env = pure none := by rfl)
    (h1 : (assignEach [tg] X.env).map (·.2) = [assign tg X.env] := by rfl) : PS X (.Assign [tg] a pos) (tS X.K (mAsg fa g)) := PS.to (ps_asg ha hg hs hw h1) fun D σ H ⟨ρ, env, hd, fl, env', hd', A, e, q⟩ => by
  obtain ⟨⟨x, h1⟩, e1, e⟩ := Option.bind_eq_some_iff.mp e
  obtain ⟨⟨env1, hd1⟩, e2, e⟩ := Option.bind_eq_some_iff.mp e
  cases e
  exact ⟨ρ, env, hd, x, h1, A, e1, fun v ρ1 H1 P1 r1 => ⟨ρ1, env, h1, x, env1, hd1, A.post P1, r1, e2, fun ρ2 σ2 H2 P2 S2 _ => q ρ2 σ2 H2 (P1.trans P2) S2⟩⟩
theorem psm_par {i j : Nat} {x y : Str} {px py pt : Pos} {kt k2 pt2} (hc : X.calm = true) (hN : X.N.Nodup) (hi : X.N[i]? = some x) (hj : X.N[j]? = some y) (hij : i ≠ j) (hx : X.env.scope.names.lookup x = some .local) (hy : X.env.scope.names.lookup y = some .local)
    (ha : PA X [a, b] (tA X.K fr)) (hw : swappedStores [Expr.Tuple [Expr.Name x px, Expr.Name y py] kt pt] (Expr.Tuple [a, b] k2 pt2) X.env = pure (some [x, y])) (hs : swapsWithSole [Expr.Tuple [Expr.Name x px, Expr.Name y py] kt pt] (Expr.Tuple [a, b] k2 pt2) pos.line X.env = pure false := by rfl) :
    PS X (.Assign [Expr.Tuple [Expr.Name x px, Expr.Name y py] kt pt] (Expr.Tuple [a, b] k2 pt2) pos) (tS X.K (mPar i j fr)) := PS.to (ps_par hc hN hi hj hij hx hy ha hw hs) fun D σ H ⟨ρ, env, hd, fl, env', hd', A, e, q⟩ => by
  obtain ⟨⟨xs, h1⟩, e1, e⟩ := Option.bind_eq_some_iff.mp e
  dsimp only at e
  split at e
  · cases e
    refine ⟨ρ, env, hd, _, hd', A, e1, fun vs ρ1 H1 P1 r1 => ?_⟩
    obtain ⟨v, w, rfl, rv, rw_⟩ := repL2 r1
    exact ⟨v, w, rfl, q ρ1 _ H1 P1 (((A.sl.mono P1.pre P1.ext).set rv).set rw_)⟩
  · cases e
end
end Dl

namespace Dl
open PySem PySem.Spec PyProof.Rows L2 RZ
/-! ## walks -/
structure ItD where
  items : List D
  keep : List (Nat × List D)
def keepOk (k : List (Nat × List D)) (hd : Hd) : Prop := ∀ p ∈ k, lsOf hd p.1 = some p.2
abbrev IM := Ev → Hd → Option (ItD × Hd)
structure IsIt (K : PySem.W.Frag) (ρ0 : List Addr) (H0 : Hp) (J : It) (it : ItD) : Prop where
  go : ∀ ρ H hd i, ρ0 <+: ρ → Ext K H0 H → Rel K ρ H hd → keepOk it.keep hd → i < it.items.length → J.go i H
  stop : ∀ ρ H hd, ρ0 <+: ρ → Ext K H0 H → Rel K ρ H hd → keepOk it.keep hd → J.stop it.items.length H
  yld : ∀ ρ H hd i x H', ρ0 <+: ρ → Ext K H0 H → Rel K ρ H hd → keepOk it.keep hd → i < it.items.length → J.yld i H x H' → ∃ d, it.items[i]? = some d ∧ Post K ρ ρ H H' hd ∧ Rep K ρ H' d x
def iM (K : PySem.W.Frag) (f : IM) : TI := fun σ H R => ∃ ρ env hd it hd', At K ρ σ H env hd ∧ f env hd = some (it, hd') ∧ ∀ ρ' H' J, Post K ρ ρ' H H' hd' → IsIt K ρ' H' J it → R J H'
theorem PI.to {X : Cx} {tg e : Expr} {t t' : TI} (h : PI X tg e t) (m : ∀ σ H Q, t' σ H Q → t σ H Q) : PI X tg e t' := ⟨fun pins s σ H R I q => h.run pins s σ H R I (m σ H R q)⟩
theorem PI.or {X : Cx} {tg e : Expr} {t t' : TI} (h : PI X tg e t) (h' : PI X tg e t') : PI X tg e (fun σ H R => t σ H R ∨ t' σ H R) := ⟨fun pins s σ H R I q => q.elim (h.run pins s σ H R I) (h'.run pins s σ H R I)⟩
def iSeq (a : EM) : IM := fun env hd => (a env hd).bind fun p => match p.1 with
  | .ref n => (lsOf p.2 n).map fun ds => (⟨ds, [(n, ds)]⟩, p.2)
  | .tup ds => some (⟨ds, []⟩, p.2)
  | .fls ds => some (⟨ds, []⟩, p.2)
  | _ => none
def rangeL (a b : Int) : List D := (List.range (b - a).toNat).map fun k => .int (a + (k : Nat))
def iRange1 (r : AM) : IM := fun env hd => (r env hd).bind fun p => match p.1 with
  | [.int j] => if -1000000 ≤ j ∧ j ≤ 1000000 then some (⟨rangeL 0 j, []⟩, p.2) else none
  | _ => none
def iRange2 (r : AM) : IM := fun env hd => (r env hd).bind fun p => match p.1 with
  | [.int i, .int j] => if -1000000 ≤ i ∧ i ≤ 1000000 ∧ -1000000 ≤ j ∧ j ≤ 1000000 then some (⟨rangeL i j, []⟩, p.2) else none
  | _ => none
def zipL : List D → List D → List D
  | x :: xs, y :: ys => .tup [x, y] :: zipL xs ys
  | _, _ => []
def iZipM (r : AM) : IM := fun env hd => (r env hd).bind fun p => match p.1 with
  | [.ref n, .ref m] => (lsOf p.2 n).bind fun xs => (lsOf p.2 m).map fun ys => (⟨zipL xs ys, [(n, xs), (m, ys)]⟩, p.2)
  | [.tup xs, .tup ys] => some (⟨zipL xs ys, []⟩, p.2)
  | _ => none
def enumL : Nat → List D → List D
  | _, [] => []
  | k, x :: xs => .tup [.int (k : Nat), x] :: enumL (k + 1) xs
def iEnumM (r : AM) : IM := fun env hd => (r env hd).bind fun p => match p.1 with
  | [.ref n] => (lsOf p.2 n).map fun xs => (⟨enumL 0 xs, [(n, xs)]⟩, p.2)
  | _ => none
theorem zipL_get : ∀ (xs ys : List D) (i : Nat), (zipL xs ys)[i]? = (match xs[i]?, ys[i]? with | some x, some y => some (.tup [x, y]) | _, _ => none)
  | [], ys, i => by simp [zipL]
  | x :: xs, [], i => by simp only [zipL]; cases (x :: xs)[i]? <;> simp
  | x :: xs, y :: ys, 0 => by simp [zipL]
  | x :: xs, y :: ys, i + 1 => by simp only [zipL, List.getElem?_cons_succ]; exact zipL_get xs ys i
theorem zipL_len : ∀ (xs ys : List D), (zipL xs ys).length = min xs.length ys.length
  | [], ys => by simp [zipL]
  | x :: xs, [] => by simp [zipL]
  | x :: xs, y :: ys => by simp only [zipL, List.length_cons, zipL_len xs ys]; omega
theorem enumL_get : ∀ (xs : List D) (k i : Nat), (enumL k xs)[i]? = (xs[i]?).map fun x => .tup [.int ((k + i : Nat) : Int), x]
  | [], k, i => by simp [enumL]
  | x :: xs, k, 0 => by simp [enumL]
  | x :: xs, k, i + 1 => by
    simp only [enumL, List.getElem?_cons_succ]
    rw [enumL_get xs (k + 1) i]
    have : k + 1 + i = k + (i + 1) := by omega
    rw [this]
theorem enumL_len : ∀ (xs : List D) (k : Nat), (enumL k xs).length = xs.length
  | [], k => rfl
  | x :: xs, k => by simp only [enumL, List.length_cons, enumL_len xs]
theorem rangeL_get {a b : Int} {i : Nat} (h : i < (b - a).toNat) : (rangeL a b)[i]? = some (.int (a + (i : Nat))) := by
  unfold rangeL
  rw [List.getElem?_map, List.getElem?_range h]; rfl
theorem rangeL_len (a b : Int) : (rangeL a b).length = (b - a).toNat := by unfold rangeL; rw [List.length_map, List.length_range]

section
variable {K : PySem.W.Frag} {ρ0 : List Addr} {H0 : Hp}
theorem isIt_list {a : Addr} {n : Nat} {ds : List D} (ea : ρ0[n]? = some a) : IsIt K ρ0 H0 (Itl K a) ⟨ds, [(n, ds)]⟩ where
  go ρ H hd i p x r k hi := by
    obtain ⟨vs, s, l⟩ := lsOf_sq r (k (n, ds) (by simp)) (pre_get p ea)
    have := l.length
    have hi' : i < vs.length := by rw [← this]; exact hi
    exact ⟨vs, vs[i], s, List.getElem?_eq_getElem hi'⟩
  stop ρ H hd p x r k := by
    obtain ⟨vs, s, l⟩ := lsOf_sq r (k (n, ds) (by simp)) (pre_get p ea)
    exact ⟨vs, s, Nat.le_of_eq l.length.symm⟩
  yld ρ H hd i x H' p xx r k hi y := by
    obtain ⟨rfl, y⟩ := y
    obtain ⟨vs, s, l⟩ := lsOf_sq r (k (n, ds) (by simp)) (pre_get p ea)
    have hi' : i < ds.length := hi
    obtain ⟨v, hv, q⟩ := l.get (List.getElem?_eq_getElem hi')
    have e := (y vs s).symm.trans hv
    cases e
    exact ⟨_, List.getElem?_eq_getElem hi', .refl r, q⟩
theorem isIt_tup {a : Addr} {ds : List D} {vs : List V} (s : SqT K H0 a vs) (l : RepL K ρ0 H0 ds vs) : IsIt K ρ0 H0 (Itt K a) ⟨ds, []⟩ where
  go ρ H hd i p x r k hi := by
    have hi' : i < vs.length := by rw [← l.length]; exact hi
    exact ⟨vs, vs[i], x.1 _ _ s, List.getElem?_eq_getElem hi'⟩
  stop ρ H hd p x r k := ⟨vs, x.1 _ _ s, Nat.le_of_eq l.length.symm⟩
  yld ρ H hd i z H' p x r k hi y := by
    obtain ⟨rfl, y⟩ := y
    have hi' : i < ds.length := hi
    obtain ⟨v, hv, q⟩ := l.get (List.getElem?_eq_getElem hi')
    have e := (y vs (x.1 _ _ s)).symm.trans hv
    cases e
    exact ⟨_, List.getElem?_eq_getElem hi', .refl r, q.mono p x⟩
theorem isIt_fls {a : Addr} {ds : List D} {vs : List V} (s : SqF K H0 a vs) (l : RepL K ρ0 H0 ds vs) : IsIt K ρ0 H0 (Itl K a) ⟨ds, []⟩ where
  go ρ H hd i p x r k hi := by
    have hi' : i < vs.length := by rw [← l.length]; exact hi
    exact ⟨vs, vs[i], (x.2 _ _ s).sq, List.getElem?_eq_getElem hi'⟩
  stop ρ H hd p x r k := ⟨vs, (x.2 _ _ s).sq, Nat.le_of_eq l.length.symm⟩
  yld ρ H hd i z H' p x r k hi y := by
    obtain ⟨rfl, y⟩ := y
    have hi' : i < ds.length := hi
    obtain ⟨v, hv, q⟩ := l.get (List.getElem?_eq_getElem hi')
    have e := (y vs (x.2 _ _ s).sq).symm.trans hv
    cases e
    exact ⟨_, List.getElem?_eq_getElem hi', .refl r, q.mono p x⟩
theorem isIt_range {lo hi : Int} {n : Nat} (hn : n = (hi - lo).toNat) : IsIt K ρ0 H0 (Itr lo n) ⟨rangeL lo hi, []⟩ where
  go ρ H hd i p x r k hi := by rw [rangeL_len] at hi; rw [hn]; exact hi
  stop ρ H hd p x r k := by show n ≤ _; rw [rangeL_len, hn]; exact Nat.le_refl _
  yld ρ H hd i z H' p x r k hi y := by
    obtain ⟨rfl, rfl⟩ := y
    rw [rangeL_len] at hi
    exact ⟨_, rangeL_get hi, .refl r, rep_int.mpr rfl⟩
theorem pair_new {ρ H hd T} {d e : D} {x y : V} (r : Rel K ρ H hd) (nT : H T = none) (q1 : Rep K ρ H d x) (q2 : Rep K ρ H e y) : Rep K ρ (upd H T (.tup [x, y])) (.tup [d, e]) (.ref T) := by
  rw [rep_tup]
  refine ⟨T, [x, y], rfl, .of upd_same, ?_⟩
  simp only [RepL]
  exact ⟨x, [y], rfl, q1.mono (List.prefix_refl _) (.new nT), y, [], rfl, q2.mono (List.prefix_refl _) (.new nT), rfl⟩
theorem isIt_enum {a : Addr} {n : Nat} {ds : List D} (ea : ρ0[n]? = some a) : IsIt K ρ0 H0 (Ite K a) ⟨enumL 0 ds, [(n, ds)]⟩ where
  go ρ H hd i p x r k hi := by
    obtain ⟨vs, s, l⟩ := lsOf_sq r (k (n, ds) (by simp)) (pre_get p ea)
    rw [enumL_len] at hi
    have hi' : i < vs.length := by rw [← l.length]; exact hi
    exact ⟨vs, vs[i], s, List.getElem?_eq_getElem hi'⟩
  stop ρ H hd p x r k := by
    obtain ⟨vs, s, l⟩ := lsOf_sq r (k (n, ds) (by simp)) (pre_get p ea)
    rw [enumL_len]
    exact ⟨vs, s, Nat.le_of_eq l.length.symm⟩
  yld ρ H hd i z H' p x r k hi y := by
    obtain ⟨T, w, rfl, nT, rfl, y⟩ := y
    obtain ⟨vs, s, l⟩ := lsOf_sq r (k (n, ds) (by simp)) (pre_get p ea)
    rw [enumL_len] at hi
    have hi' : i < ds.length := hi
    obtain ⟨v, hv, q⟩ := l.get (List.getElem?_eq_getElem hi')
    have e := (y vs s).symm.trans hv
    cases e
    refine ⟨.tup [.int ((0 + i : Nat) : Int), ds[i]], ?_, .newT r nT, ?_⟩
    · rw [enumL_get, List.getElem?_eq_getElem hi']; rfl
    · rw [Nat.zero_add]; exact pair_new r nT (rep_int.mpr rfl) q
theorem isIt_zipL {a b : Addr} {n m : Nat} {xs ys : List D} (ea : ρ0[n]? = some a) (eb : ρ0[m]? = some b) : IsIt K ρ0 H0 (Itz K a b) ⟨zipL xs ys, [(n, xs), (m, ys)]⟩ where
  go ρ H hd i p x r k hi := by
    obtain ⟨vs, s, l⟩ := lsOf_sq r (k (n, xs) (by simp)) (pre_get p ea)
    obtain ⟨ws, s2, l2⟩ := lsOf_sq r (k (m, ys) (by simp)) (pre_get p eb)
    rw [zipL_len] at hi
    have h1 : i < vs.length := by rw [← l.length]; show i < xs.length; omega
    have h2 : i < ws.length := by rw [← l2.length]; show i < ys.length; omega
    exact ⟨vs, ws, vs[i], ws[i], s, s2, List.getElem?_eq_getElem h1, List.getElem?_eq_getElem h2⟩
  stop ρ H hd p x r k := by
    obtain ⟨vs, s, l⟩ := lsOf_sq r (k (n, xs) (by simp)) (pre_get p ea)
    obtain ⟨ws, s2, l2⟩ := lsOf_sq r (k (m, ys) (by simp)) (pre_get p eb)
    have e1 := l.length
    have e2 := l2.length
    rw [zipL_len]
    refine ⟨vs, ws, s, s2, ?_⟩
    dsimp only at e1 e2
    omega
  yld ρ H hd i z H' p x r k hi y := by
    obtain ⟨T, u, w, rfl, nT, rfl, y1, y2⟩ := y
    obtain ⟨vs, s, l⟩ := lsOf_sq r (k (n, xs) (by simp)) (pre_get p ea)
    obtain ⟨ws, s2, l2⟩ := lsOf_sq r (k (m, ys) (by simp)) (pre_get p eb)
    rw [zipL_len] at hi
    have h1 : i < xs.length := by omega
    have h2 : i < ys.length := by omega
    obtain ⟨v, hv, q⟩ := l.get (List.getElem?_eq_getElem h1)
    obtain ⟨v2, hv2, q2⟩ := l2.get (List.getElem?_eq_getElem h2)
    have e := (y1 vs s).symm.trans hv
    cases e
    have e := (y2 ws s2).symm.trans hv2
    cases e
    refine ⟨.tup [xs[i], ys[i]], ?_, .newT r nT, pair_new r nT q q2⟩
    rw [zipL_get, List.getElem?_eq_getElem h1, List.getElem?_eq_getElem h2]
theorem isIt_zipT {a b : Addr} {xs ys : List D} {vs ws : List V} (s : SqT K H0 a vs) (l : RepL K ρ0 H0 xs vs) (s2 : SqT K H0 b ws) (l2 : RepL K ρ0 H0 ys ws) : IsIt K ρ0 H0 (ItzT K a b) ⟨zipL xs ys, []⟩ where
  go ρ H hd i p x r k hi := by
    rw [zipL_len] at hi
    have h1 : i < vs.length := by rw [← l.length]; omega
    have h2 : i < ws.length := by rw [← l2.length]; omega
    exact ⟨vs, ws, vs[i], ws[i], x.1 _ _ s, x.1 _ _ s2, List.getElem?_eq_getElem h1, List.getElem?_eq_getElem h2⟩
  stop ρ H hd p x r k := by
    have e1 := l.length
    have e2 := l2.length
    rw [zipL_len]
    refine ⟨vs, ws, x.1 _ _ s, x.1 _ _ s2, ?_⟩
    omega
  yld ρ H hd i z H' p x r k hi y := by
    obtain ⟨T, u, w, rfl, nT, rfl, y1, y2⟩ := y
    rw [zipL_len] at hi
    have h1 : i < xs.length := by omega
    have h2 : i < ys.length := by omega
    obtain ⟨v, hv, q⟩ := l.get (List.getElem?_eq_getElem h1)
    obtain ⟨v2, hv2, q2⟩ := l2.get (List.getElem?_eq_getElem h2)
    have e := (y1 vs (x.1 _ _ s)).symm.trans hv
    cases e
    have e := (y2 ws (x.1 _ _ s2)).symm.trans hv2
    cases e
    refine ⟨.tup [xs[i], ys[i]], ?_, .newT r nT, pair_new r nT (q.mono p x) (q2.mono p x)⟩
    rw [zipL_get, List.getElem?_eq_getElem h1, List.getElem?_eq_getElem h2]
end
section
variable {X : Cx} {tg a e e2 : Expr} {fa : EM} {fr : AM}
theorem pim_seq (ha : PE X a (tM X.K fa)) : PI X tg a (iM X.K (iSeq fa)) := PI.to (PI.or (pi_list ha) (pi_tup ha)) fun σ H R ⟨ρ, env, hd, it, hd', A, e, q⟩ => by
  obtain ⟨⟨x, h1⟩, e1, e⟩ := Option.bind_eq_some_iff.mp e
  dsimp only at e
  split at e
  · rename_i n
    obtain ⟨ds, hl, e⟩ := Option.map_eq_some_iff.mp e
    cases e
    refine .inl ⟨ρ, env, hd, _, hd', A, e1, fun v ρ1 H1 P1 r1 => ?_⟩
    rw [rep_ref] at r1
    obtain ⟨p, rfl, ep⟩ := r1
    obtain ⟨vs, s, l⟩ := lsOf_sq P1.rel hl ep
    exact ⟨p, rfl, ⟨vs, s⟩, q ρ1 H1 _ P1 (isIt_list ep)⟩
  · cases e
    refine .inr ⟨ρ, env, hd, _, hd', A, e1, fun v ρ1 H1 P1 r1 => ?_⟩
    rw [rep_tup] at r1
    obtain ⟨p, vs, rfl, s, l⟩ := r1
    exact ⟨p, rfl, ⟨vs, s⟩, q ρ1 H1 _ P1 (isIt_tup s l)⟩
  · cases e
    refine .inl ⟨ρ, env, hd, _, hd', A, e1, fun v ρ1 H1 P1 r1 => ?_⟩
    rw [rep_fls] at r1
    obtain ⟨p, vs, rfl, s, l⟩ := r1
    exact ⟨p, rfl, ⟨vs, s.sq⟩, q ρ1 H1 _ P1 (isIt_fls s l)⟩
  · cases e
theorem pim_range1 {p pos : Pos} (hg : Gl X "range") (hm : X.mg "range" = none) (ha : PA X [a] (tA X.K fr)) (hs : starEach [a] X.env = [(false, eval a X.env)] := by rfl) : PI X tg (.Call (.Name "range" p) [a] [] pos) (iM X.K (iRange1 fr)) := PI.to (pi_range1 hg hm ha hs) fun σ H R ⟨ρ, env, hd, it, hd', A, e, q⟩ => by
  obtain ⟨⟨x, h1⟩, e1, e⟩ := Option.bind_eq_some_iff.mp e
  dsimp only at e
  split at e
  · rename_i j
    split at e
    · rename_i hj
      cases e
      refine ⟨ρ, env, hd, _, hd', A, e1, fun v ρ1 H1 P1 r1 => ?_⟩
      obtain ⟨v, rfl, rv⟩ := repL1 r1
      rw [rep_int] at rv; subst rv
      exact ⟨j, rfl, by omega, by omega, q ρ1 H1 _ P1 (isIt_range (by simp))⟩
    · cases e
  · cases e
theorem pim_range2 {b : Expr} {p pos : Pos} (hg : Gl X "range") (hm : X.mg "range" = none) (ha : PA X [a, b] (tA X.K fr)) (hs : starEach [a, b] X.env = [(false, eval a X.env), (false, eval b X.env)] := by rfl) (hs2 : starEach [b] X.env = [(false, eval b X.env)] := by rfl) : PI X tg (.Call (.Name "range" p) [a, b] [] pos) (iM X.K (iRange2 fr)) := PI.to (pi_range2 hg hm ha hs hs2) fun σ H R ⟨ρ, env, hd, it, hd', A, e, q⟩ => by
  obtain ⟨⟨x, h1⟩, e1, e⟩ := Option.bind_eq_some_iff.mp e
  dsimp only at e
  split at e
  · rename_i i j
    split at e
    · rename_i hj
      cases e
      refine ⟨ρ, env, hd, _, hd', A, e1, fun v ρ1 H1 P1 r1 => ?_⟩
      obtain ⟨v, w, rfl, rv, rw_⟩ := repL2 r1
      rw [rep_int] at rv rw_; subst rv rw_
      exact ⟨i, j, rfl, ⟨by omega, by omega, by omega, by omega⟩, q ρ1 H1 _ P1 (isIt_range rfl)⟩
    · cases e
  · cases e
theorem pim_enum {elts : List Expr} {kk : Nat} {p pos tpos : Pos} (hg : Gl X "enumerate") (hm : X.mg "enumerate" = none) (ha : PA X [a] (tA X.K fr)) (hs : starEach [a] X.env = [(false, eval a X.env)] := by rfl) : PI X (.Tuple elts kk tpos) (.Call (.Name "enumerate" p) [a] [] pos) (iM X.K (iEnumM fr)) := PI.to (pi_enum hg hm ha hs) fun σ H R ⟨ρ, env, hd, it, hd', A, e, q⟩ => by
  obtain ⟨⟨x, h1⟩, e1, e⟩ := Option.bind_eq_some_iff.mp e
  dsimp only at e
  split at e
  · rename_i n
    obtain ⟨ds, hl, e⟩ := Option.map_eq_some_iff.mp e
    cases e
    refine ⟨ρ, env, hd, _, hd', A, e1, fun v ρ1 H1 P1 r1 => ?_⟩
    obtain ⟨v, rfl, rv⟩ := repL1 r1
    rw [rep_ref] at rv
    obtain ⟨p, rfl, ep⟩ := rv
    obtain ⟨vs, s, l⟩ := lsOf_sq P1.rel hl ep
    exact ⟨p, vs, rfl, s, q ρ1 H1 _ P1 (isIt_enum ep)⟩
  · cases e
theorem pim_zip {elts : List Expr} {kk : Nat} {p pos tpos : Pos} (hg : Gl X "zip") (hm : X.mg "zip" = none) (ha : PA X [e, e2] (tA X.K fr))
    (hs : starEach [e, e2] X.env = (false, eval e X.env) :: starEach [e2] X.env := by rfl) (hpl : (backTo pos (starEach [e2] X.env)).any (·.1) = false := by rfl) : PI X (.Tuple elts kk tpos) (.Call (.Name "zip" p) [e, e2] [] pos) (iM X.K (iZipM fr)) := PI.to (pi_zipA hg hm ha hs hpl) fun σ H R ⟨ρ, env, hd, it, hd', A, e, q⟩ => by
  obtain ⟨⟨x, h1⟩, e1, e⟩ := Option.bind_eq_some_iff.mp e
  dsimp only at e
  split at e
  · rename_i n m
    obtain ⟨xs, hl, e⟩ := Option.bind_eq_some_iff.mp e
    obtain ⟨ys, hl2, e⟩ := Option.map_eq_some_iff.mp e
    cases e
    refine ⟨ρ, env, hd, _, hd', A, e1, fun v ρ1 H1 P1 r1 => ?_⟩
    obtain ⟨v, w, rfl, rv, rw_⟩ := repL2 r1
    rw [rep_ref] at rv rw_
    obtain ⟨p, rfl, ep⟩ := rv
    obtain ⟨p2, rfl, ep2⟩ := rw_
    obtain ⟨vs, s, l⟩ := lsOf_sq P1.rel hl ep
    obtain ⟨ws, s2, l2⟩ := lsOf_sq P1.rel hl2 ep2
    exact ⟨p, p2, vs, ws, rfl, .inl ⟨s, s2, q ρ1 H1 _ P1 (isIt_zipL ep ep2)⟩⟩
  · cases e
    refine ⟨ρ, env, hd, _, hd', A, e1, fun v ρ1 H1 P1 r1 => ?_⟩
    obtain ⟨v, w, rfl, rv, rw_⟩ := repL2 r1
    rw [rep_tup] at rv rw_
    obtain ⟨p, vs, rfl, s, l⟩ := rv
    obtain ⟨p2, ws, rfl, s2, l2⟩ := rw_
    exact ⟨p, p2, vs, ws, rfl, .inr ⟨s, s2, q ρ1 H1 _ P1 (isIt_zipT s l s2 l2)⟩⟩
  · cases e
end
end Dl

namespace Dl
open PySem PySem.Spec PyProof.Rows L2
open Classical in
noncomputable def forL (kp : List (Nat × List D)) (g : GT) (body : SM) : List D → SM
  | [], env, hd => if keepOk kp hd then some (.nx, env, hd) else none
  | d :: ds, env, hd => if keepOk kp hd then (g d env hd).bind fun p => (body p.1 p.2).bind fun q => match q.1 with
      | .nx => forL kp g body ds q.2.1 q.2.2
      | .ct => forL kp g body ds q.2.1 q.2.2
      | .bk => some (.nx, q.2.1, q.2.2)
      | .rt v => some (.rt v, q.2.1, q.2.2)
    else none
noncomputable def mFor (i : IM) (g : GT) (body : SM) : SM := fun env hd => (i env hd).bind fun p => forL p.1.keep g body p.1.items env p.2
def whileL (c : BM) (body : SM) : Nat → SM
  | 0, _, _ => none
  | n + 1, env, hd => (c env hd).bind fun p => if p.1 = true then (body env p.2).bind fun q => match q.1 with
      | .nx => whileL c body n q.2.1 q.2.2
      | .ct => whileL c body n q.2.1 q.2.2
      | .bk => some (.nx, q.2.1, q.2.2)
      | .rt v => some (.rt v, q.2.1, q.2.2)
    else some (.nx, env, p.2)
def mWhile (fuel : Ev → Hd → Nat) (c : BM) (body : SM) : SM := fun env hd => whileL c body (fuel env hd) env hd
open Classical in
noncomputable def compL (kp : List (Nat × List D)) (g : GT) (tt : BM) (te : EM) (env : Ev) : List D → Hd → Option (List D × Hd)
  | [], hd => if keepOk kp hd then some ([], hd) else none
  | d :: ds, hd => if keepOk kp hd then (g d env hd).bind fun p => (tt p.1 p.2).bind fun b => if b.1 = true then (te p.1 b.2).bind fun q => (compL kp g tt te env ds q.2).bind fun r => some (q.1 :: r.1, r.2) else compL kp g tt te env ds b.2
    else none
def wipeE (env : Ev) : List Nat → Ev
  | [] => env
  | v :: vs => (wipeE env vs).set v none
noncomputable def mComp (i : IM) (g : GT) (tt : BM) (te : EM) (vs : List Nat) : EM := fun env hd => (i env hd).bind fun p => (compL p.1.keep g tt te (wipeE env vs) p.1.items p.2).bind fun r => if r.1.length ≤ 1000000 then some (.ref r.2.length, r.2 ++ [.lst r.1]) else none
def bYes : BM := fun _ hd => some (true, hd)

theorem wipeE_length (env : Ev) : ∀ vs, (wipeE env vs).length = env.length
  | [] => rfl
  | v :: vs => by unfold wipeE; rw [List.length_set, wipeE_length env vs]
theorem wipeE_some {env : Ev} {i : Nat} {d : D} : ∀ {vs : List Nat}, (wipeE env vs)[i]? = some (some d) → env[i]? = some (some d) ∧ i ∉ vs
  | [], h => ⟨h, by simp⟩
  | v :: vs, h => by
    unfold wipeE at h
    by_cases hv : v = i
    · subst hv
      by_cases hl : v < (wipeE env vs).length
      · rw [List.getElem?_set_self hl] at h; cases h
      · rw [List.getElem?_eq_none (by simpa using hl)] at h; cases h
    · rw [List.getElem?_set_ne hv] at h
      obtain ⟨h1, h2⟩ := wipeE_some h
      exact ⟨h1, by simp only [List.mem_cons, not_or]; exact ⟨fun e => hv e.symm, h2⟩⟩
theorem wipe_keep {σ : L2.St} {i : Nat} : ∀ {vs : List Nat}, i ∉ vs → (wipe σ vs)[i]? = σ[i]?
  | [], _ => rfl
  | v :: vs, h => by
    simp only [List.mem_cons, not_or] at h
    unfold wipe
    rw [List.getElem?_set_ne (fun e => h.1 e.symm)]
    exact wipe_keep h.2
theorem SRel.wipe {K : PySem.W.Frag} {ρ : List Addr} {H : Hp} {env : Ev} {σ : L2.St} (h : SRel K ρ H env σ) (vs : List Nat) : SRel K ρ H (wipeE env vs) (L2.wipe σ vs) := by
  refine ⟨by rw [wipe_length, wipeE_length, h.1], fun i d e => ?_⟩
  obtain ⟨e1, e2⟩ := wipeE_some e
  obtain ⟨v, hv, r⟩ := h.2 i d e1
  exact ⟨v, by rw [wipe_keep e2]; exact hv, r⟩

section
variable {X : Cx} {pos : Pos} {c e : Expr} {ba : BM} {g : GT} {sl : List Nat} {fi : IM} {fb : SM} {fa : EM}
theorem psm_for {tg iter : Expr} {body : List Stmt} (hp : PassesOwn (model X.prog X.w) X.A X.env X.xe) (hc : X.calm = true) (hi : PI X tg iter (iM X.K fi)) (hg : PG X tg (gM X.K sl g)) (hb : PSs X body (tS X.K fb))
    (hs : ∀ x, foldedSetIterable iter X.env x = pure x := by intro _; rfl) : PS X (.For tg iter body [] pos) (tS X.K (mFor fi g fb)) := PS.to (ps_for hp hc hi hg hb hs) fun D σ H ⟨ρ, env, hd, fl, env', hd', A, e, q⟩ => by
  obtain ⟨⟨it, h1⟩, e1, e⟩ := Option.bind_eq_some_iff.mp e
  refine ⟨ρ, env, hd, it, h1, A, e1, fun ρ1 H1 J P1 isit => ?_⟩
  refine ⟨fun i m σ2 H2 => ∃ ρ2 env2 hd2, At X.K ρ2 σ2 H2 env2 hd2 ∧ Post X.K ρ1 ρ2 H1 H2 hd2 ∧ i ≤ it.items.length ∧ m = it.items.length - i ∧ forL it.keep g fb (it.items.drop i) env2 hd2 = some (fl, env', hd'), ⟨it.items.length, ρ1, env, h1, A.post P1, .refl P1.rel, Nat.zero_le _, by simp, e⟩, ?_⟩
  rintro i m σ2 H2 ⟨ρ2, env2, hd2, A2, P2, hi, rfl, e2⟩
  by_cases hlt : i < it.items.length
  · right
    rw [List.drop_eq_getElem_cons hlt] at e2
    unfold forL at e2
    split at e2
    · rename_i hk
      refine ⟨isit.go ρ2 H2 hd2 i P2.pre P2.ext A2.rel hk hlt, _, fun σ' H' n => ⟨it.items.length - (i + 1), by omega, n⟩, fun x H' y => ?_⟩
      obtain ⟨d, hd_, P3, r3⟩ := isit.yld ρ2 H2 hd2 i x H' P2.pre P2.ext A2.rel hk hlt y
      rw [List.getElem?_eq_getElem hlt] at hd_
      cases hd_
      obtain ⟨⟨env3, hd3⟩, e3, e2⟩ := Option.bind_eq_some_iff.mp e2
      obtain ⟨⟨fl4, env4, hd4⟩, e4, e2⟩ := Option.bind_eq_some_iff.mp e2
      refine ⟨ρ2, env2, hd2, _, env3, hd3, A2.post P3, r3, e3, fun ρ4 σ4 H4 P4 S4 _ => ?_⟩
      refine ⟨ρ4, env3, hd3, fl4, env4, hd4, ⟨P4.rel, S4⟩, e4, fun ρ5 σ5 H5 P5 S5 => ?_⟩
      have P := P2.trans (P3.trans (P4.trans P5))
      cases fl4 with
      | nx => exact ⟨ρ5, env4, hd4, ⟨P5.rel, S5⟩, P, hlt, rfl, e2⟩
      | ct => exact ⟨ρ5, env4, hd4, ⟨P5.rel, S5⟩, P, hlt, rfl, e2⟩
      | bk =>
        cases e2
        exact q ρ5 σ5 H5 (P1.trans P) S5
      | rt v =>
        cases e2
        exact q ρ5 σ5 H5 (P1.trans P) S5
    · cases e2
  · left
    have hi' : i = it.items.length := by omega
    subst hi'
    rw [List.drop_length] at e2
    unfold forL at e2
    split at e2
    · rename_i hk
      cases e2
      exact ⟨isit.stop ρ2 H2 _ P2.pre P2.ext A2.rel hk, q ρ2 σ2 H2 (P1.trans P2) A2.sl⟩
    · cases e2
theorem psm_while {body : List Stmt} (fuel : Ev → Hd → Nat) (hp : PassesOwn (model X.prog X.w) X.A X.env X.xe) (hc : PT X c (tT X.K ba)) (hb : PSs X body (tS X.K fb)) : PS X (.While c body [] pos) (tS X.K (mWhile fuel ba fb)) := PS.to (ps_while hp hc hb) fun D σ H ⟨ρ, env, hd, fl, env', hd', A, e, q⟩ => by
  refine ⟨fun m σ2 H2 => ∃ ρ2 env2 hd2, At X.K ρ2 σ2 H2 env2 hd2 ∧ Post X.K ρ ρ2 H H2 hd2 ∧ whileL ba fb m env2 hd2 = some (fl, env', hd'), ⟨fuel env hd, ρ, env, hd, A, .refl A.rel, e⟩, ?_⟩
  rintro m σ2 H2 ⟨ρ2, env2, hd2, A2, P2, e2⟩
  cases m with
  | zero => cases e2
  | succ n =>
    unfold whileL at e2
    obtain ⟨⟨b, h3⟩, e3, e2⟩ := Option.bind_eq_some_iff.mp e2
    refine ⟨ρ2, env2, hd2, b, h3, A2, e3, fun ρ3 H3 P3 => ?_⟩
    dsimp only at e2
    split at e2
    · rename_i hb'
      rw [if_pos hb']
      obtain ⟨⟨fl4, env4, hd4⟩, e4, e2⟩ := Option.bind_eq_some_iff.mp e2
      refine ⟨_, fun σ' H' n' => ⟨n, Nat.lt_succ_self n, n'⟩, ρ3, env2, h3, fl4, env4, hd4, A2.post P3, e4, fun ρ5 σ5 H5 P5 S5 => ?_⟩
      have P := P2.trans (P3.trans P5)
      cases fl4 with
      | nx => exact ⟨ρ5, env4, hd4, ⟨P5.rel, S5⟩, P, e2⟩
      | ct => exact ⟨ρ5, env4, hd4, ⟨P5.rel, S5⟩, P, e2⟩
      | bk =>
        cases e2
        exact q ρ5 σ5 H5 P S5
      | rt v =>
        cases e2
        exact q ρ5 σ5 H5 P S5
    · rename_i hb'
      rw [if_neg hb']
      cases e2
      exact q ρ3 σ2 H3 (P2.trans P3) (A2.sl.mono P3.pre P3.ext)
theorem comp_mono {vs : List Nat} {K : PySem.W.Frag} {bt : BM} {fe : EM} {σ : L2.St} {H : Hp} {Q : VK} (hv : ∀ i ∈ sl, i ∈ vs)
    (h : tM K (mComp fi g bt fe vs) σ H Q) : tLc (iM K fi) (gM K sl g) (tT K bt) (tM K fe) vs σ H Q := by
  obtain ⟨ρ, env, hd, d, hd', A, e, q⟩ := h
  obtain ⟨⟨it, h1⟩, e1, e⟩ := Option.bind_eq_some_iff.mp e
  obtain ⟨⟨ys, h2⟩, e2, e⟩ := Option.bind_eq_some_iff.mp e
  dsimp only at e
  split at e
  · rename_i hl
    cases e
    refine ⟨ρ, env, hd, it, h1, A, e1, fun ρ1 H1 J P1 isit L nL => ?_⟩
    refine ⟨fun i m H2 => ∃ ρ2 hd2 acc done rest, SRel K ρ2 H2 (wipeE env vs) (wipe σ vs) ∧ Post K ρ1 ρ2 H1 H2 hd2 ∧ H2 L = some (.lst acc) ∧ L ∉ ρ2 ∧ RepL K ρ2 H2 done acc ∧ i ≤ it.items.length ∧ m = it.items.length - i ∧
      compL it.keep g bt fe (wipeE env vs) (it.items.drop i) hd2 = some (rest, h2) ∧ ys = done ++ rest, ⟨it.items.length, ?_⟩, ?_⟩
    · have A1 := A.post P1
      have P0 : Post K ρ1 ρ1 H1 (upd H1 L (.lst [])) h1 := .newT P1.rel nL
      exact ⟨ρ1, h1, [], [], ys, (A1.sl.mono P0.pre P0.ext).wipe vs, P0, upd_same, P1.rel.fresh nL, .nil, Nat.zero_le _, by simp, e2, rfl⟩
    rintro i m H2 ⟨ρ2, hd2, acc, done, rest, S2, P2, eL, nL2, lacc, hi, rfl, e2, ey⟩
    by_cases hlt : i < it.items.length
    · right
      rw [List.drop_eq_getElem_cons hlt] at e2
      unfold compL at e2
      split at e2
      · rename_i hk
        refine ⟨isit.go ρ2 H2 hd2 i P2.pre P2.ext P2.rel hk hlt, _, fun H' n => ⟨it.items.length - (i + 1), by omega, n⟩, fun x H' y => ?_⟩
        obtain ⟨d, hd_, P3, r3⟩ := isit.yld ρ2 H2 hd2 i x H' P2.pre P2.ext P2.rel hk hlt y
        rw [List.getElem?_eq_getElem hlt] at hd_
        cases hd_
        obtain ⟨⟨env3, hd3⟩, e3, e2⟩ := Option.bind_eq_some_iff.mp e2
        obtain ⟨⟨b4, hd4⟩, e4, e2⟩ := Option.bind_eq_some_iff.mp e2
        obtain ⟨eL3, nL3⟩ := P3.fr L _ eL nL2
        refine ⟨ρ2, wipeE env vs, hd2, _, env3, hd3, ⟨P3.rel, S2.mono P3.pre P3.ext⟩, r3, e3, fun ρ4 σ4 H4 P4 S4 w4 => ⟨?_, ?_⟩⟩
        · rw [w4 vs hv, wipe_wipe vs vs σ fun _ h => h]
        obtain ⟨eL4, nL4⟩ := P4.fr L _ eL3 nL3
        refine ⟨ρ4, env3, hd3, b4, hd4, ⟨P4.rel, S4⟩, e4, fun ρ5 H5 P5 => ?_⟩
        obtain ⟨eL5, nL5⟩ := P5.fr L _ eL4 nL4
        have P25 := P3.trans (P4.trans P5)
        split at e2
        · rename_i hb
          rw [if_pos hb]
          obtain ⟨⟨y6, hd6⟩, e6, e2⟩ := Option.bind_eq_some_iff.mp e2
          obtain ⟨⟨rest', hd7⟩, e7, e2⟩ := Option.bind_eq_some_iff.mp e2
          cases e2
          refine ⟨ρ5, env3, hd4, y6, hd6, ⟨P5.rel, S4.mono P5.pre P5.ext⟩, e6, fun v ρ6 H6 P6 r6 => ?_⟩
          obtain ⟨eL6, nL6⟩ := P6.fr L _ eL5 nL5
          have P26 := P25.trans P6
          have la := lacc.mono P26.pre P26.ext
          have hlen : acc.length < sizeLine := by
            rw [← la.length]
            have h1 : done.length + (y6 :: rest').length = ys.length := by rw [ey, List.length_append]
            rw [List.length_cons] at h1
            have := line1M
            omega
          refine ⟨acc, eL6, hlen, ρ6, hd6, acc ++ [v], done ++ [y6], rest', ?_, ?_, upd_same, nL6, ?_, hlt, rfl, e7, by rw [ey, List.append_assoc]; rfl⟩
          · exact S2.mono P26.pre (P26.ext.trans (.put eL6))
          · have P := P2.trans P26
            exact ⟨P.pre, P.ext.trans (.put eL6), P.rel.aside eL6 nL6, fun a o h m => ⟨by rw [upd_ne (ne_of_none h nL)]; exact (P.fr a o h m).1, (P.fr a o h m).2⟩⟩
          · exact (la.append (RepL.one r6)).mono (List.prefix_refl _) (.put eL6)
        · rename_i hb
          rw [if_neg hb]
          exact ⟨ρ5, hd4, acc, done, rest, S2.mono P25.pre P25.ext, P2.trans P25, eL5, nL5, lacc.mono P25.pre P25.ext, hlt, rfl, e2, ey⟩
      · cases e2
    · left
      have hi' : i = it.items.length := by omega
      subst hi'
      rw [List.drop_length] at e2
      unfold compL at e2
      split at e2
      · rename_i hk
        cases e2
        refine ⟨isit.stop ρ2 H2 _ P2.pre P2.ext P2.rel hk, ?_⟩
        rw [List.append_nil] at ey
        subst ey
        have P := P1.trans P2
        have ob : ObR K ρ2 H2 L (.lst ys) := ⟨acc, eL, lacc⟩
        refine q _ (ρ2 ++ [L]) H2 ⟨P.pre.trans (List.prefix_append _ _), P.ext, P.rel.adopt nL2 ob, fun a o h m => ?_⟩ (rep_new P2.rel)
        obtain ⟨h1', m1⟩ := P1.fr a o h m
        obtain ⟨h2', m2⟩ := P2.fr a o h1' m1
        refine ⟨h2', fun z => ?_⟩
        rcases List.mem_append.mp z with z | z
        · exact m2 z
        · exact ne_of_none h1' nL (by simpa using z)
      · cases e2
  · cases e
theorem pm_comp {elt tg iter : Expr} {ifs : List Expr} {scope : Scope} {own : List (Str × Nat)} {bt : BM} {fe : EM} (hc : X.calm = true) (hN : X.N.Nodup) (hi : PI X tg iter (iM X.K fi)) (ok : BlkOk X.N X.env.scope scope own) (hv : ∀ i ∈ sl, i ∈ own.map (·.2))
    (hg : ∀ (s : Shared) (H : Hp) (C : Addr) (cl : List (Str × Addr)) (fp : List Addr), PG (X.blk s H scope (compEnvC scope cl C X.env) fp) tg (gM X.K sl g)) (ht : ∀ (s : Shared) (H : Hp) (C : Addr) (cl : List (Str × Addr)) (fp : List Addr), PTs (X.blk s H scope (compEnvC scope cl C X.env) fp) ifs (tT X.K bt))
    (he : ∀ (s : Shared) (H : Hp) (C : Addr) (cl : List (Str × Addr)) (fp : List Addr), PE (X.blk s H scope (compEnvC scope cl C X.env) fp) elt (tM X.K fe)) (hs : ∀ x, foldedSetIterable iter X.env x = pure x := by intro _; rfl) :
    PE X (.ListComp elt [⟨tg, iter, ifs, 0⟩] scope pos) (tM X.K (mComp fi g bt fe (own.map (·.2)))) := PE.to (pe_lc hc hN hi ok hg ht he hs) fun _ _ _ => comp_mono hv
theorem ptsm_nil : PTs X [] (tT X.K bYes) := ⟨fun pins s σ H Q I h => pts_nil.run pins s σ H Q I (by
  obtain ⟨ρ, env, hd, b, hd', A, e, q⟩ := h
  cases e
  exact q ρ H (.refl A.rel))⟩
theorem ptsm_one {bt : BM} (h : PT X c (tT X.K bt)) : PTs X [c] (tT X.K bt) := pts_one h
theorem psm_setc {i : Nat} {y : Str} {py : Pos} {elt tg iter : Expr} {ifs : List Expr} {scope : Scope} {own : List (Str × Nat)} {spos : Pos} {bt : BM} {fe : EM} (hc : X.calm = true) (hN : X.N.Nodup) (hy : X.N[i]? = some y) (hyl : X.env.scope.names.lookup y = some .local)
    (hsw : swapsWith (.ListComp elt [⟨tg, iter, ifs, 0⟩] scope pos) (some (.Name y py)) spos.line X.env = pure true) (hi : PI X tg iter (iM X.K fi)) (ok : BlkOk X.N X.env.scope scope own) (hv : ∀ i ∈ sl, i ∈ own.map (·.2))
    (hg : ∀ (s : Shared) (H : Hp) (C : Addr) (cl : List (Str × Addr)) (fp : List Addr), PG (X.blk s H scope (compEnvC scope cl C X.env) fp) tg (gM X.K sl g)) (ht : ∀ (s : Shared) (H : Hp) (C : Addr) (cl : List (Str × Addr)) (fp : List Addr), PTs (X.blk s H scope (compEnvC scope cl C X.env) fp) ifs (tT X.K bt))
    (he : ∀ (s : Shared) (H : Hp) (C : Addr) (cl : List (Str × Addr)) (fp : List Addr), PE (X.blk s H scope (compEnvC scope cl C X.env) fp) elt (tM X.K fe)) (hs : ∀ x, foldedSetIterable iter X.env x = pure x := by intro _; rfl) :
    PS X (.Assign [.Name y py] (.ListComp elt [⟨tg, iter, ifs, 0⟩] scope pos) spos) (tS X.K (mAsg (mComp fi g bt fe (own.map (·.2))) (gNm i))) := PS.to (ps_setLc (i := i) hc hN hy hyl hsw hi ok hg ht he hs) fun D σ H ⟨ρ, env, hd, fl, env', hd', A, e, q⟩ => by
  obtain ⟨⟨x, h1⟩, e1, e⟩ := Option.bind_eq_some_iff.mp e
  cases e
  exact comp_mono hv ⟨ρ, env, hd, x, _, A, e1, fun v ρ1 H1 P1 r1 => q ρ1 _ H1 P1 ((A.sl.mono P1.pre P1.ext).set r1)⟩
end
end Dl

namespace Dl
open PySem PySem.Spec PyProof.Rows L2
theorem IxR.to {X : Cx} {r r' : R2} (h : IxR X r) (m : ∀ x y H Q, r' x y H Q → r x y H Q) : IxR X r' := fun value slice pins s σ H x y v u Q I a b q hs => h value slice pins s σ H x y v u Q I a b (m _ _ _ _ q) hs
theorem SlR.to {X : Cx} {r r' : V → Option Int → Option Int → Hp → VK → Prop} (h : SlR X r) (m : ∀ x l u H Q, r' x l u H Q → r x l u H Q) : SlR X r' := fun pins s σ H x v vl vu lo hi sl Q I rx hs pl pu q => h pins s σ H x v vl vu lo hi sl Q I rx hs pl pu (m _ _ _ _ _ q)
theorem SlR.or {X : Cx} {r r' : V → Option Int → Option Int → Hp → VK → Prop} (h : SlR X r) (h' : SlR X r') : SlR X (fun x l u H Q => r x l u H Q ∨ r' x l u H Q) := fun pins s σ H x v vl vu lo hi sl Q I rx hs pl pu q =>
  q.elim (h pins s σ H x v vl vu lo hi sl Q I rx hs pl pu) (h' pins s σ H x v vl vu lo hi sl Q I rx hs pl pu)
theorem RepL.atI {K ρ H} {ds : List D} {vs : List V} {i : Int} {d : D} (l : RepL K ρ H ds vs) (e : atI ds i = some d) : ∃ v, atI vs i = some v ∧ Rep K ρ H d v := by
  unfold L2.atI at e ⊢
  rw [← l.length]
  obtain ⟨j, hj, e⟩ := Option.bind_eq_some_iff.mp e
  obtain ⟨v, hv, r⟩ := l.get e
  exact ⟨v, by rw [hj]; exact hv, r⟩
def idxD : G2
  | .tup ds, .int i, hd => (atI ds i).map fun d => (d, hd)
  | .fls ds, .int i, hd => (atI ds i).map fun d => (d, hd)
  | .ref n, .int i, hd => (lsOf hd n).bind fun ds => (atI ds i).map fun d => (d, hd)
  | .str x, .int i, hd => if x.length ≤ 1000000 then (atI x.cps.toList i).map fun c => (.str ⟨#[c]⟩, hd) else none
  | _, _, _ => none
def cutL (ds : List D) (lo hi : Option Int) : List D := (ds.drop (HT.sIx ds.length 0 lo)).take (HT.sIx ds.length ds.length hi - HT.sIx ds.length 0 lo)
theorem RepL.cut {K ρ H} {ds : List D} {vs : List V} (l : RepL K ρ H ds vs) (lo hi : Option Int) : RepL K ρ H (cutL ds lo hi) (cutV vs lo hi) := by
  unfold cutL cutV
  rw [l.length]
  exact (l.drop _).take _
def sliD (a : D) (lo hi : Option Int) (hd : Hd) : Option (D × Hd) := match a with
  | .ref n => (lsOf hd n).map fun ds => (.ref hd.length, hd ++ [.lst (cutL ds lo hi)])
  | .fls ds => some (.ref hd.length, hd ++ [.lst (cutL ds lo hi)])
  | .tup ds => if HT.sIx ds.length 0 lo = 0 ∧ HT.sIx ds.length ds.length hi = ds.length then none else some (.tup (cutL ds lo hi), hd)
  | .str x => if x.length ≤ 1000000 then some (.str (cutS x lo hi), hd) else none
  | _ => none
abbrev OM := Ev → Hd → Option (Option Int × Hd)
def oNone : OM := fun _ hd => some (none, hd)
def oSome (a : EM) : OM := fun env hd => (a env hd).bind fun p => match p.1 with | .int i => some (some i, p.2) | _ => none
def mSl (a : EM) (l u : OM) : EM := fun env hd => (a env hd).bind fun p => (l env p.2).bind fun q => (u env q.2).bind fun r => sliD p.1 q.1 r.1 r.2
def mApp (o a : EM) : EM := fun env hd => (o env hd).bind fun p => match p.1 with
  | .ref n => (lsOf p.2 n).bind fun _ => (a env p.2).bind fun q => match q.2[n]? with
    | some (.lst ds) => if ds.length < 1000000 then some (.non, q.2.set n (.lst (ds ++ [q.1]))) else none
    | _ => none
  | _ => none
def mExt (o a : EM) : EM := fun env hd => (o env hd).bind fun p => match p.1 with
  | .ref n => (lsOf p.2 n).bind fun _ => (a env p.2).bind fun q => match q.1 with
    | .ref m => match q.2[n]?, q.2[m]? with
      | some (.lst ds), some (.lst es) => if ds.length + es.length ≤ 1000000 then some (.non, q.2.set n (.lst (ds ++ es))) else none
      | _, _ => none
    | _ => none
  | _ => none
def gSb (o i : EM) : GT := fun d env hd => (o env hd).bind fun p => (i env p.2).bind fun q => match p.1, q.1 with
  | .ref n, .int k => match q.2[n]? with
    | some (.lst ds) => (ixN ds.length k).map fun j => (env, q.2.set n (.lst (ds.set j d)))
    | _ => none
  | _, _ => none
section
variable {X : Cx} {pos : Pos} {a b e o i : Expr} {fa fb fo fe : EM} {fr : AM} {ol ou : OM}
theorem xm_idx : IxR X (rM X.K idxD) := by
  refine IxR.to ix_seq fun x y H Q ⟨ρ, hd, a, b, d, hd', r, ra, rb, e, q⟩ => ?_
  cases a <;> cases b <;> simp only [idxD] at e <;> try contradiction
  · rw [rep_str] at ra; rw [rep_int] at rb; subst ra rb
    split at e
    · rename_i hl
      obtain ⟨c, hc, e⟩ := Option.map_eq_some_iff.mp e
      cases e
      exact .inr (.inr ⟨_, _, c, rfl, rfl, Nat.le_trans hl line1M, hc, q _ ρ H (.refl r) (rep_str.mpr rfl)⟩)
    · cases e
  · rw [rep_tup] at ra; rw [rep_int] at rb; subst rb
    obtain ⟨p, vs, rfl, s, l⟩ := ra
    obtain ⟨c, hc, e⟩ := Option.map_eq_some_iff.mp e
    cases e
    obtain ⟨v, hv, rv⟩ := l.atI hc
    exact .inr (.inl ⟨p, vs, _, v, rfl, rfl, s, hv, q v ρ H (.refl r) rv⟩)
  · rw [rep_ref] at ra; rw [rep_int] at rb; subst rb
    obtain ⟨p, rfl, ep⟩ := ra
    obtain ⟨ds, hl, e⟩ := Option.bind_eq_some_iff.mp e
    obtain ⟨c, hc, e⟩ := Option.map_eq_some_iff.mp e
    cases e
    obtain ⟨vs, s, l⟩ := lsOf_sq r hl ep
    obtain ⟨v, hv, rv⟩ := l.atI hc
    exact .inl ⟨p, vs, _, v, rfl, rfl, s, hv, q v ρ H (.refl r) rv⟩
  · rw [rep_fls] at ra; rw [rep_int] at rb; subst rb
    obtain ⟨p, vs, rfl, s, l⟩ := ra
    obtain ⟨c, hc, e⟩ := Option.map_eq_some_iff.mp e
    cases e
    obtain ⟨v, hv, rv⟩ := l.atI hc
    exact .inl ⟨p, vs, _, v, rfl, rfl, s.sq, hv, q v ρ H (.refl r) rv⟩
theorem pm_ix (ha : PE X a (tM X.K fa)) (hb : PE X b (tM X.K fb)) (hs : PlainIx b := by intro _ _; rfl) : PE X (.Subscript a b pos) (tM X.K (mBin idxD fa fb)) := PE.to (pe_ix xm_idx ha hb hs) fun _ _ _ => bin_mono
def tO (K : PySem.W.Frag) (f : OM) : TO := fun σ H Q => ∃ ρ env hd o hd', At K ρ σ H env hd ∧ f env hd = some (o, hd') ∧ ∀ ρ' H', Post K ρ ρ' H H' hd' → Q o H'
theorem PO.to {X : Cx} {e : Option Expr} {t t' : TO} (h : PO X e t) (m : ∀ σ H Q, t' σ H Q → t σ H Q) : PO X e t' := ⟨fun pins s σ H Q I q => h.run pins s σ H Q I (m σ H Q q)⟩
theorem pom_none : PO X none (tO X.K oNone) := PO.to po_none fun σ H Q ⟨ρ, env, hd, o, hd', A, e, q⟩ => by
  cases e
  exact q ρ H (.refl A.rel)
theorem pom_some (h : PE X e (tM X.K fe)) : PO X (some e) (tO X.K (oSome fe)) := PO.to (po_some h) fun σ H Q ⟨ρ, env, hd, o, hd', A, e, q⟩ => by
  obtain ⟨⟨x, h1⟩, e1, e⟩ := Option.bind_eq_some_iff.mp e
  refine ⟨ρ, env, hd, x, h1, A, e1, fun v ρ1 H1 P1 r1 => ?_⟩
  dsimp only at e
  split at e
  · cases e
    rw [rep_int] at r1
    exact ⟨_, r1, q ρ1 H1 P1⟩
  · cases e
def rSlM (K : PySem.W.Frag) : V → Option Int → Option Int → Hp → VK → Prop := fun x lo hi H Q => ∃ ρ hd a d hd', Rel K ρ H hd ∧ Rep K ρ H a x ∧ sliD a lo hi hd = some (d, hd') ∧ ∀ v ρ' H', Post K ρ ρ' H H' hd' → Rep K ρ' H' d v → Q v H'
theorem sm_sl : SlR X (rSlM X.K) := by
  refine SlR.to (SlR.or sl_list (SlR.or sl_tup sl_str)) fun x lo hi H Q ⟨ρ, hd, a, d, hd', r, ra, e, q⟩ => ?_
  cases a <;> simp only [sliD] at e <;> try contradiction
  · rw [rep_str] at ra; subst ra
    split at e
    · rename_i hl; cases e
      exact .inr (.inr ⟨_, rfl, Nat.le_trans hl line1M, q _ ρ H (.refl r) (rep_str.mpr rfl)⟩)
    · cases e
  · rw [rep_tup] at ra
    obtain ⟨p, vs, rfl, s, l⟩ := ra
    split at e
    · cases e
    · rename_i hn; cases e
      refine .inr (.inl ⟨p, vs, rfl, s, by rw [← l.length]; exact hn, fun z nz => ?_⟩)
      exact q _ ρ _ (.newT r nz) (rep_tup.mpr ⟨z, _, rfl, .of upd_same, (l.cut lo hi).mono (List.prefix_refl _) (.new nz)⟩)
  · rw [rep_ref] at ra
    obtain ⟨p, rfl, ep⟩ := ra
    obtain ⟨ds, hl, e⟩ := Option.map_eq_some_iff.mp e
    cases e
    obtain ⟨vs, s, l⟩ := lsOf_sq r hl ep
    exact .inl ⟨p, vs, rfl, s, fun z nz => q _ _ _ (.newL r nz (l.cut lo hi)) (rep_new r)⟩
  · rw [rep_fls] at ra
    obtain ⟨p, vs, rfl, s, l⟩ := ra
    cases e
    exact .inl ⟨p, vs, rfl, s.sq, fun z nz => q _ _ _ (.newL r nz (l.cut lo hi)) (rep_new r)⟩
theorem pm_sl {lo hi : Option Expr} {p2 : Pos} (ha : PE X a (tM X.K fa)) (hl : PO X lo (tO X.K ol)) (hu : PO X hi (tO X.K ou)) : PE X (.Subscript a (.Slice lo hi none p2) pos) (tM X.K (mSl fa ol ou)) := PE.to (pe_slice sm_sl ha hl hu) fun σ H Q ⟨ρ, env, hd, d, hd', A, e, q⟩ => by
  obtain ⟨⟨x, h1⟩, e1, e⟩ := Option.bind_eq_some_iff.mp e
  obtain ⟨⟨y, h2⟩, e2, e⟩ := Option.bind_eq_some_iff.mp e
  obtain ⟨⟨z, h3⟩, e3, e⟩ := Option.bind_eq_some_iff.mp e
  refine ⟨ρ, env, hd, x, h1, A, e1, fun v1 ρ1 H1 P1 r1 => ⟨ρ1, env, h1, y, h2, A.post P1, e2, fun ρ2 H2 P2 => ⟨ρ2, env, h2, z, h3, (A.post P1).post P2, e3, fun ρ3 H3 P3 => ?_⟩⟩⟩
  exact ⟨ρ3, h3, x, d, hd', P3.rel, r1.mono (P2.pre.trans P3.pre) (P2.ext.trans P3.ext), e, fun v ρ4 H4 P4 r4 => q v ρ4 H4 (P1.trans (P2.trans (P3.trans P4))) r4⟩
theorem pm_app {apos cpos : Pos} (ho : PE X o (tM X.K fo)) (ha : PE X e (tM X.K fa)) (hse : starEach [e] X.env = (false, eval e X.env) :: starEach [] X.env := by rfl)
    (hb : attributeBase o "append" X.env (eval o X.env) = eval o X.env := by rfl)
    (hf : ((backTo cpos (starEach [e] X.env)).all (fun x => !x.1) && (backToKw cpos (keywordEach [] X.env)).all (fun x => x.1.isSome) && decide ([e].length + ([] : List Keyword).length + (if ([] : List Keyword).isEmpty then 0 else 1) < 30)) = true := by rfl)
    (hli : (apos.endLine == cpos.line) = true := by rfl) (hpl : (backTo cpos (starEach [] X.env)).any (·.1) = false := by rfl) :
    PE X (.Call (.Attribute o "append" apos) [e] [] cpos) (tM X.K (mApp fo fa)) :=
  PE.to (pe_bm PySem.F.plainAttrs_list PySem.F.slot_list_append PySem.F.type_list_append mt_append ho (pa_cons ha pa_nil hse) hb hf hli hse hpl) fun σ H Q ⟨ρ, env, hd, d, hd', A, e, q⟩ => by
  obtain ⟨⟨x, h1⟩, e1, e⟩ := Option.bind_eq_some_iff.mp e
  dsimp only at e
  split at e
  · rename_i n
    obtain ⟨es, hl, e⟩ := Option.bind_eq_some_iff.mp e
    obtain ⟨⟨y, h2⟩, e2, e⟩ := Option.bind_eq_some_iff.mp e
    refine ⟨ρ, env, hd, _, h1, A, e1, fun v1 ρ1 H1 P1 r1 => ?_⟩
    rw [rep_ref] at r1
    obtain ⟨p, rfl, ep⟩ := r1
    obtain ⟨vs, s, l⟩ := lsOf_sq P1.rel hl ep
    refine ⟨.inl ⟨rfl, vs, s⟩, ρ1, env, h1, y, h2, A.post P1, e2, fun v2 ρ2 H2 P2 r2 => ?_⟩
    dsimp only at e
    split at e
    · rename_i ds hn
      split at e
      · rename_i hz
        cases e
        have ep2 := pre_get P2.pre ep
        obtain ⟨ws, hw, lw⟩ := P2.rel.ob _ p _ ep2 hn
        refine ⟨p, ws, v2, rfl, rfl, hw, by rw [← lw.length]; exact Nat.lt_of_lt_of_le hz line1M, ?_⟩
        exact q _ ρ2 _ (P1.trans (P2.trans (.put P2.rel ep2 hn (lw.append (RepL.one r2))))) (rep_non.mpr rfl)
      · cases e
    · cases e
  · cases e
theorem pm_ext {apos cpos : Pos} (ho : PE X o (tM X.K fo)) (ha : PE X e (tM X.K fa)) (hse : starEach [e] X.env = (false, eval e X.env) :: starEach [] X.env := by rfl)
    (hb : attributeBase o "extend" X.env (eval o X.env) = eval o X.env := by rfl)
    (hf : ((backTo cpos (starEach [e] X.env)).all (fun x => !x.1) && (backToKw cpos (keywordEach [] X.env)).all (fun x => x.1.isSome) && decide ([e].length + ([] : List Keyword).length + (if ([] : List Keyword).isEmpty then 0 else 1) < 30)) = true := by rfl)
    (hli : (apos.endLine == cpos.line) = true := by rfl) (hpl : (backTo cpos (starEach [] X.env)).any (·.1) = false := by rfl) :
    PE X (.Call (.Attribute o "extend" apos) [e] [] cpos) (tM X.K (mExt fo fa)) :=
  PE.to (pe_bm PySem.F.plainAttrs_list PySem.F.slot_list_extend PySem.F.type_list_extend mt_extend ho (pa_cons ha pa_nil hse) hb hf hli hse hpl) fun σ H Q ⟨ρ, env, hd, d, hd', A, e, q⟩ => by
  obtain ⟨⟨x, h1⟩, e1, e⟩ := Option.bind_eq_some_iff.mp e
  dsimp only at e
  split at e
  · rename_i n
    obtain ⟨es, hl, e⟩ := Option.bind_eq_some_iff.mp e
    obtain ⟨⟨y, h2⟩, e2, e⟩ := Option.bind_eq_some_iff.mp e
    refine ⟨ρ, env, hd, _, h1, A, e1, fun v1 ρ1 H1 P1 r1 => ?_⟩
    rw [rep_ref] at r1
    obtain ⟨p, rfl, ep⟩ := r1
    obtain ⟨vs, s, l⟩ := lsOf_sq P1.rel hl ep
    refine ⟨.inl ⟨rfl, vs, s⟩, ρ1, env, h1, y, h2, A.post P1, e2, fun v2 ρ2 H2 P2 r2 => ?_⟩
    dsimp only at e
    split at e
    · rename_i m
      split at e
      · rename_i ds es hn hm
        split at e
        · rename_i hz
          cases e
          rw [rep_ref] at r2
          obtain ⟨p2, rfl, ep'⟩ := r2
          have ep2 := pre_get P2.pre ep
          obtain ⟨ws, hw, lw⟩ := P2.rel.ob _ p _ ep2 hn
          obtain ⟨us, hu, lu⟩ := P2.rel.ob m p2 _ ep' hm
          refine ⟨p, p2, ws, us, rfl, rfl, hw, hu, by rw [← lw.length, ← lu.length]; exact Nat.le_trans hz line1M, ?_⟩
          exact q _ ρ2 _ (P1.trans (P2.trans (.put P2.rel ep2 hn (lw.append lu)))) (rep_non.mpr rfl)
        · cases e
      · cases e
    · cases e
  · cases e
theorem pgm_sub (ho : PE X o (tM X.K fo)) (hi : PE X i (tM X.K fa)) (ha : ∀ v, assign (.Subscript o i pos) X.env v = (do
      let ov ← holding [v] (eval o X.env)
      let iv ← holding [v, ov] (eval i X.env)
      standAt pos; holding [v, ov, iv] (setItem ov iv v); release [v, ov, iv] []) := by intro _; rfl) : PG X (.Subscript o i pos) (gM X.K [] (gSb fo fa)) :=
  PG.to (pg_sub ho hi set_list ha) fun v σ H Q ⟨ρ, env, hd, d, env', hd', A, r, e, q⟩ => by
  obtain ⟨⟨x, h1⟩, e1, e⟩ := Option.bind_eq_some_iff.mp e
  obtain ⟨⟨y, h2⟩, e2, e⟩ := Option.bind_eq_some_iff.mp e
  cases x <;> try contradiction
  rename_i n
  cases y <;> try contradiction
  rename_i k
  dsimp only at e
  split at e
  · rename_i ds hn
    obtain ⟨j, hj, e⟩ := Option.map_eq_some_iff.mp e
    cases e
    refine ⟨ρ, env, hd, _, h1, A, e1, fun v1 ρ1 H1 P1 r1 => ⟨ρ1, env, h1, _, h2, A.post P1, e2, fun v2 ρ2 H2 P2 r2 => ?_⟩⟩
    rw [rep_ref] at r1
    obtain ⟨p, rfl, ep⟩ := r1
    rw [rep_int] at r2; subst r2
    have ep2 := pre_get P2.pre ep
    obtain ⟨ws, hw, lw⟩ := P2.rel.ob _ p _ ep2 hn
    have P12 := P1.trans P2
    refine ⟨p, ws, _, j, rfl, rfl, hw, by rw [← lw.length]; exact hj, ?_⟩
    have P3 := Post.put P2.rel ep2 hn (lw.set (i := j) (r.mono P12.pre P12.ext))
    have P := P12.trans P3
    exact q ρ2 σ _ P (A.sl.mono P.pre P.ext) fun _ _ => rfl
  · cases e
end
end Dl

namespace Dl
open PySem PySem.Spec PyProof.Rows L2
/-! ## more built-ins -/
section
variable {X : Cx} {pos : Pos} {a b e : Expr} {es : List Expr} {fa fb : EM} {fr : AM}
def gcdI : List Int → Nat → Nat
  | [], g => g
  | i :: r, g => gcdI r (g.gcd i.natAbs)
def gcdD : GN := fun ds hd => match ds with
  | [.int i, .int j] => some (.int ((i.natAbs.gcd j.natAbs : Nat) : Int), hd)
  | [.int i, .int j, .int k] => some (.int (((i.natAbs.gcd j.natAbs).gcd k.natAbs : Nat) : Int), hd)
  | _ => none
theorem run_gcd3 (a : Int) (t : Tok) (b : Int) (u : Tok) (c : Int) (z : Tok) : Gives (Builtin.«math.gcd» ⟨[.int a t, .int b u, .int c z], []⟩) (.int (((((Nat.gcd 0 a.natAbs).gcd b.natAbs).gcd c.natAbs : Nat) : Int))) :=
  .of_wp fun M A E s Q h => by obtain ⟨hp, g, d, tk, os⟩ := s; wp_walk; exact ⟨_, rfl, h⟩
theorem args_gcd3 (a b c : Value) : argsOk "math.gcd" ⟨[a, b, c], []⟩ := by unfold argsOk; kernel_rfl
theorem cm_gcd : CallR X (.builtin "math.gcd") (rN X.K gcdD) := by
  intro pins s σ H xs us Q I r h
  obtain ⟨ρ, hd, ds, d, hd', rel, ra, e, q⟩ := h
  unfold gcdD at e
  split at e
  · cases e
    obtain ⟨v, w, rfl, rv, rw_⟩ := repL2 ra
    rw [rep_int] at rv rw_; subst rv rw_
    exact cr_gcd pins s σ H _ us Q I r ⟨_, _, rfl, q _ ρ H (.refl rel) (rep_int.mpr rfl)⟩
  · rename_i i j k
    cases e
    obtain ⟨v, w, z, rfl, rv, rw_, rz⟩ := repL3 ra
    rw [rep_int] at rv rw_ rz; subst rv rw_ rz
    obtain ⟨t, u, y, rfl⟩ : ∃ t u y, us = [Value.int i t, .int j u, .int k y] := by
      cases r with
      | cons r1 r2 =>
        cases r2 with
        | cons r3 r4 =>
          cases r4 with
          | cons r5 r6 =>
            cases r6
            obtain ⟨t, rfl⟩ := r1
            obtain ⟨u, rfl⟩ := r3
            obtain ⟨y, rfl⟩ := r5
            exact ⟨t, u, y, rfl⟩
    have g := run_gcd3 i t j u k y
    rw [Nat.gcd_zero_left] at g
    exact call_function_meets PySem.W.MGF.kind_gcd PySem.W.MGF.plain_gcd PySem.W.MGF.entry_gcd (args_gcd3 _ _ _) g.meets ⟨.int _, H, I.tok _, ⟨_, rfl⟩, q _ ρ H (.refl rel) (rep_int.mpr rfl)⟩
  · cases e
def tyN : D → Option String
  | .non => some "NoneType"
  | .bl _ => some "bool"
  | .int _ => some "int"
  | .str _ => some "str"
  | .tup _ => some "tuple"
  | .ref _ => some "list"
  | .fls _ => some "list"
  | .raw _ => none
def isiD : GN := fun ds hd => match ds with
  | [a, .raw (.ty T)] => (tyN a).bind fun n => (kitB n T).map fun b => (.bl b, hd)
  | _ => none
theorem tyX_of {K ρ H hd} {a : D} {v : V} {n : String} (r : Rel K ρ H hd) (q : Rep K ρ H a v) (h : tyN a = some n) : TyX K H v (.type n) := by
  cases a <;> simp only [tyN] at h <;> try contradiction
  · cases h; rw [rep_non] at q; subst q; exact .base .non
  · cases h; rw [rep_bl] at q; subst q; exact .base (.bl _)
  · cases h; rw [rep_int] at q; subst q; exact .base (.int _)
  · cases h; rw [rep_str] at q; subst q; exact .base (.str _)
  · cases h; rw [rep_tup] at q; obtain ⟨p, vs, rfl, s, l⟩ := q
    rcases s with (s | ⟨o, s⟩) | ⟨o, its, m, hk, hc, _⟩
    · exact .base (.tup s)
    · exact .fTuple s
    · exact .kTuple hk hc
  · cases h; rw [rep_ref] at q; obtain ⟨p, rfl, ep⟩ := q
    have hl := (List.getElem?_eq_some_iff.mp ep).1
    rw [r.len] at hl
    obtain ⟨ob, hob⟩ : ∃ ob, hd[_]? = some ob := ⟨_, List.getElem?_eq_getElem hl⟩
    have q := r.ob _ p _ ep hob
    cases ob with
    | lst ds =>
      obtain ⟨vs, q, _⟩ := q
      exact .base (.lst q)
  · cases h; rw [rep_fls] at q; obtain ⟨p, vs, rfl, s, l⟩ := q
    rcases s with ⟨o, s⟩ | s
    · exact .base (.frz s)
    · rcases s with (s | ⟨o, s⟩) | ⟨o, its, m, hk, hc, _⟩
      · cases s
      · cases s
      · exact .kList hk hc
theorem cm_isi : CallR X (.builtin "isinstance") (rN X.K isiD) := by
  refine CallR.to call_isi fun xs H Q ⟨ρ, hd, ds, d, hd', r, ra, e, q⟩ => ?_
  unfold isiD at e
  split at e
  · obtain ⟨n, hn, e⟩ := Option.bind_eq_some_iff.mp e
    obtain ⟨b, hb, e⟩ := Option.map_eq_some_iff.mp e
    cases e
    obtain ⟨v, w, rfl, rv, rw_⟩ := repL2 ra
    rw [rep_raw] at rw_; subst rw_
    exact ⟨_, _, _, _, b, rfl, .ty _, tyX_of r rv hn, kit_ty hb, q _ ρ H (.refl r) (rep_bl.mpr rfl)⟩
  · cases e
/-- list(range(..)) -/
def mLstRg (f : Ev → Hd → Option ((Int × Int) × Hd)) : EM := fun env hd => (f env hd).bind fun p => if -1000000 ≤ p.1.1 ∧ p.1.1 ≤ 1000000 ∧ -1000000 ≤ p.1.2 ∧ p.1.2 ≤ 1000000 then some (.ref p.2.length, p.2 ++ [.lst (rangeL p.1.1 p.1.2)]) else none
def rg1 (a : EM) : Ev → Hd → Option ((Int × Int) × Hd) := fun env hd => (a env hd).bind fun p => match p.1 with | .int n => some ((0, n), p.2) | _ => none
theorem rangeL_rep {K ρ H} (a b : Int) : RepL K ρ H (rangeL a b) (rgV a b) := by
  unfold rangeL rgV
  generalize List.range (b - a).toNat = l
  induction l with
  | nil => exact .nil
  | cons x r ih => simp only [List.map_cons, RepL]; exact ⟨_, _, rfl, rep_int.mpr rfl, ih⟩
theorem pm_listRg1 {p pos p2 pos2 : Pos} (hc : X.calm = true) (hg : Gl X "list") (hm : X.mg "list" = none) (hg2 : Gl X "range") (hm2 : X.mg "range" = none) (ha : PE X a (tM X.K fa)) (na : starEach [a] X.env = (false, eval a X.env) :: starEach [] X.env := by rfl)
    (nb : starEach [.Call (.Name "range" p2) [a] [] pos2] X.env = (false, eval (.Call (.Name "range" p2) [a] [] pos2) X.env) :: starEach [] X.env := by rfl) :
    PE X (.Call (.Name "list" p) [.Call (.Name "range" p2) [a] [] pos2] [] pos) (tM X.K (mLstRg (rg1 fa))) := PE.to (pe_listRg hc hg hm (prg_1 hg2 hm2 ha na) nb) fun σ H Q ⟨ρ, env, hd, d, hd', A, e, q⟩ => by
  obtain ⟨⟨⟨lo, hi⟩, h1⟩, e1, e⟩ := Option.bind_eq_some_iff.mp e
  obtain ⟨⟨x, h2⟩, e2, e1⟩ := Option.bind_eq_some_iff.mp e1
  refine ⟨ρ, env, hd, x, h2, A, e2, fun v ρ1 H1 P1 r1 => ?_⟩
  dsimp only at e1
  split at e1
  · cases e1
    rw [rep_int] at r1
    dsimp only at e
    split at e
    · rename_i hb
      cases e
      refine ⟨_, r1, ⟨by omega, by omega, by omega, by omega, by omega⟩, fun z nz => ?_⟩
      exact q _ _ _ (P1.trans (.newL P1.rel nz (rangeL_rep _ _))) (rep_new P1.rel)
    · cases e
  · cases e1
end
/-! ## defs and calls -/
def mFn (n m : Nat) (body : SM) : GN := fun ds hd => if ds.length = n then (body (ds.map some ++ List.replicate m none) hd).bind fun p => match p.1 with | .nx => some (.non, p.2.2) | .rt d => some (d, p.2.2) | _ => none else none
structure FnG (P : Program) (w : World) (K : PySem.W.Frag) (mg : Str → Option Value) (base : Heap) (k : Nat) (f : Addr) (fd : FuncData) (ps : List Str) (F : GN) : Prop where
  len : ∀ ds hd r, F ds hd = some r → ds.length = ps.length
  run : ∀ (A : Around) (outer : List Env) (s : Shared) (H : Hp) (args : Args) (us : List Value) (vs : List V) (Q : VK), Room k A → A.guards = some [] → Env0 P w K mg base A outer s H → BindsTo s fd args (ps.zip us) → Vals vs us → rN K F vs H Q →
    codeAny (model P w) A (.call (.ref f) args) (CR L2.CX0 outer P w H s Q L2.E0) s
theorem FnG.mono {P w K mg base j k f fd ps F} (G : FnG P w K mg base j f fd ps F) (h : j ≤ k) : FnG P w K mg base k f fd ps F := ⟨G.len, fun A outer s H args us vs Q hr => G.run A outer s H args us vs Q (hr.mono h)⟩
theorem FnG.imp {P w K mg base k f fd ps F F'} (G : FnG P w K mg base k f fd ps F) (h : ∀ ds hd r, F' ds hd = some r → F ds hd = some r) : FnG P w K mg base k f fd ps F' :=
  ⟨fun ds hd r e => G.len ds hd r (h _ _ _ e), fun A outer s H args us vs Q hr hg e0 hb hv ⟨ρ, hd, ds, d, hd', r, ra, e, q⟩ => G.run A outer s H args us vs Q hr hg e0 hb hv ⟨ρ, hd, ds, d, hd', r, ra, h _ _ _ e, q⟩⟩
theorem fng_of {P : Program} {w : World} {K : PySem.W.Frag} {mg : Str → Option Value} {base : Heap} {x qual : Str} {params : Arguments} {body : List Stmt} {scope : Scope} {dvs : List V} {kws : List (Str × V)} {f : Addr} {fd : FuncData} {N ps : List Str} {k n m : Nat} {fb : SM}
    (F : FunD K x qual params body scope dvs kws f fd) (S : FnScope N ps scope) (hn : ps.length = n) (hm : N.length - ps.length = m)
    (hbody : ∀ (cdv : Value) (A : Around) (outer : List Env) (s : Shared) (H : Hp), Room k (A.deeper (envOfC qual scope s.heap.objs.size f cdv)) → (A.deeper (envOfC qual scope s.heap.objs.size f cdv)).guards = some [] →
      PSs (cxOf L2.CX0 P w K mg base N qual scope f cdv A outer s H L2.E0) body (tS K fb)) :
    FnG P w K mg base (k + 1) f fd ps (mFn n m fb) := by
  obtain ⟨oc, od, dV, kV, doc, pm, an, cdv, ct, osl, rfl, lk, hcd, _, _⟩ := F.ex
  refine ⟨fun ds hd r e => ?_, fun A outer s H args us vs Q hr hG e0 hb hv hq => ?_⟩
  · unfold mFn at e
    split at e
    · rename_i h; rw [h, hn]
    · cases e
  obtain ⟨ρ, hd, ds, d, hd', rel, ra, e, q⟩ := hq
  unfold mFn at e
  split at e
  rotate_left
  · cases e
  rename_i hlen
  obtain ⟨⟨fl, env', hd2⟩, eb, e⟩ := Option.bind_eq_some_iff.mp e
  have hvl : vs.length = ps.length := by rw [← ra.length, hlen, hn]
  have inK : K.In s.heap := e0.mod.kin.keeps fun b o z => (e0.bs b o z).1
  have nol : s.heap.NoLimit := e0.mod.nolimit.keeps fun b o z => (e0.bs b o z).1
  have kinds : ∀ y ∈ ps.zip us, scope.names.lookup y.1 = some .local ∨ (scope.names.lookup y.1 = some .cell ∧ ((cellsFrom (s.heap.objs.size + 1) scope.names []).lookup y.1).isSome = true) := by
    rintro ⟨z, v⟩ hy
    rcases S.par z (List.of_mem_zip hy).1 with q | q
    · left; exact q
    · right; exact ⟨q, PySem.W.cellsFrom_some _ _ _ (.inl q)⟩
  refine codeAny_call_function hr.depth (inK _ _ lk) rfl S.co S.gen rfl (PySem.W.codeRec_of inK hcd) (hb _ _ _ _ ?_)
  refine wpAny_newFunctionEnv_cells S.kind kinds fun env henv s1 xc => ?_
  subst henv
  refine ⟨nol.keeps xc.toInCall.keep, codeAny_func ?_⟩
  have I0 : Inv (cxOf L2.CX0 P w K mg base N qual scope f cdv A outer s H L2.E0) [] (L2.start N vs) H s1 := inv_start S hr.hd e0 hvl hv xc
  have S0 : SRel K ρ H (ds.map some ++ List.replicate m none) (L2.start N vs) := by
    unfold L2.start
    refine ⟨by simp [ra.length, hvl, ← hm, hlen, hn], fun i d' h => ?_⟩
    by_cases hi : i < ds.length
    · rw [List.getElem?_append_left (by simpa using hi), List.getElem?_map] at h
      obtain ⟨d2, h2, h3⟩ := Option.map_eq_some_iff.mp h
      cases h3
      obtain ⟨v, hv', r'⟩ := ra.get h2
      exact ⟨v, by rw [List.getElem?_append_left (by rw [List.length_map, ← ra.length]; exact hi), List.getElem?_map, hv']; rfl, r'⟩
    · rw [List.getElem?_append_right (by simpa using hi), List.getElem?_replicate] at h
      split at h <;> simp at h
  have goal : tS K fb { nx := fun _ H' => Q .non H', rt := Q } (L2.start N vs) H := by
    refine ⟨ρ, _, hd, fl, env', hd2, ⟨rel, S0⟩, eb, fun ρ' σ' H' P' S' => ?_⟩
    cases fl with
    | nx => cases e; exact q _ ρ' H' P' (rep_non.mpr rfl)
    | rt d2 => cases e; exact fun v rv => q v ρ' H' P' rv
    | bk => cases e
    | ct => cases e
  refine wpAny_mono ((hbody cdv A outer s H (hr.deeper _) hG).run [] s1 (L2.start N vs) H _ I0 goal) (fun fl2 s2 hs => ?_) fun e2 s2 hs => hs
  have done : ∀ {σ2 : L2.St} {H2 : Hp} {v : V} {u : Value}, Inv (cxOf L2.CX0 P w K mg base N qual scope f cdv A outer s H L2.E0) [] σ2 H2 s2 → RelV v u → Q v H2 → CE outer P w H s Q u s2 :=
    fun {σ2 H2 v u} J rv qv => ⟨v, H2, J.os, J.bare, J.base, J.hok, rv, qv⟩
  cases fl2 with
  | ret u => obtain ⟨v, σ2, H2, J, rv, qv⟩ := hs; exact done J rv qv
  | next => obtain ⟨σ2, H2, J, qv⟩ := hs; exact done (v := V.non) (u := Value.none) J rfl qv
  | brk => obtain ⟨_, _, _, qv⟩ := hs; exact qv.elim
  | cont => obtain ⟨_, _, _, qv⟩ := hs; exact qv.elim
section
variable {X : Cx} {pos p : Pos} {e : Expr} {es : List Expr} {fr : AM} {F : GN} {k : Nat} {f : Addr} {fd : FuncData} {ps : List Str} {x : Str}
theorem pm_call (G : FnG X.prog X.w X.K X.mg X.base k f fd ps F) (hr : Room k X.A) (hG : X.A.guards = some []) (hg : Gl X x) (hm : X.mg x = some (.ref f)) (hk : PySem.W.keepIn X.K (.ref f) = true) (hb : Binds X.K fd ps [])
    (ha : PA X (e :: es) (tA X.K fr)) (hdb : (x == ("__debug__" : Str)) = false := by decide) (he : starEach (e :: es) X.env = (false, eval e X.env) :: starEach es X.env := by rfl) (hpl : (backTo pos (starEach es X.env)).any (·.1) = false := by rfl) :
    PE X (.Call (.Name x p) (e :: es) [] pos) (tM X.K (mCall F fr)) := by
  refine ⟨fun pins s σ H Q I h => ?_⟩
  refine wpAny_Call_Name_kw (ld_glob I hg hm ?_ hdb)
  refine PySem.W.callWith_K (h₀ := X.base) I.ok.mod.kin hk (thn (ha.run pos pins s σ H _ I (call_mono h)) fun us s1 ⟨vs, H1, I1, r, q⟩ => ⟨I1.kIn, ?_⟩) he hpl
  have hl : us.length = ps.length := by
    obtain ⟨ρ, hd, ds, d, hd', rel, ra, ee, _⟩ := q
    rw [← r.length, ← ra.length]
    exact G.len _ _ _ ee
  have hb' := hb s1 us I1.kIn (by rw [List.append_nil]; exact hl)
  rw [List.append_nil] at hb'
  refine wpAny_call (codeAny_mono (G.run X.A X.stack s1 H1 ⟨us, []⟩ us vs Q hr hG I1.env0 hb' r q) fun r2 s2 hq => ?_)
  cases r2 with
  | error er => exact False.elim hq
  | ok fl =>
    cases fl with
    | ret u => exact I1.after hq
    | next => exact False.elim hq
    | brk => exact False.elim hq
    | cont => exact False.elim hq
end
end Dl

namespace Dl
open PySem PySem.Spec PyProof.Rows L2
theorem ints_rep {K ρ H} : ∀ (ns : List Int), RepL K ρ H (ns.map D.int) (ns.map V.int)
  | [] => .nil
  | n :: r => by simp only [List.map_cons, RepL]; exact ⟨_, _, rfl, rep_int.mpr rfl, ints_rep r⟩
theorem law_end {P : Program} {w : World} {K : PySem.W.Frag} {mg mb : Str → Option Value} {k : Nat} {fa a : Addr} {fd : FuncData} {x : Str} {F : GN} {s : Shared} {vs : List Value} {ns : List Int}
    (KX : K.In s.heap) (n1 : s.heap.Ns mainGlobals mg) (n2 : s.heap.Ns builtinsNs mb) (n3 : ∀ y : Str, y ≠ "__name__" → mb y = bootBuiltins y) (lim : s.heap.NoLimit) (gens : s.gens = #[])
    (ea : s.heap.get? a = some { cls := .type "list", data := .seq vs.toArray }) (iv : IntsAre vs ns) (hl : ns.length ≤ sizeLine) (hr : Room k callerA)
    (G : ∀ base : Heap, K.In base → base.Ns mainGlobals mg → FnG P w K mg base k fa fd [x] F) (bind : ∀ (s : Shared) (u : Value), BindsTo s fd ⟨[u], []⟩ [(x, u)])
    (hF : ∃ hd', F [.fls (ns.map .int)] [] = some (.bl true, hd')) :
    codeAny (model P w) callerA (.call (.ref fa) ⟨[.ref a], []⟩) (fun r s' => r = .ok (.ret (.bool true)) ∧ OldK s.heap s'.heap ∧ s'.os = s.os ∧ AllBare s'.gens) s := by
  obtain ⟨hd', hF⟩ := hF
  have rv := vals_ints iv
  have hlen := iv.length
  -- the script may be tracked, nothing else is
  have go : ∀ H : Hp, SqF K H a (ns.map V.int) → HOk P w H s.heap → (∀ b, H b = none ∨ (b = a ∧ ∃ o ys, H b = some (.frz o (.lst ys)) ∧ K.lookup a = none)) →
      codeAny (model P w) callerA (.call (.ref fa) ⟨[.ref a], []⟩) (fun r s' => r = .ok (.ret (.bool true)) ∧ OldK s.heap s'.heap ∧ s'.os = s.os ∧ AllBare s'.gens) s := by
    intro H sq ok only
    have keepB : ∀ {b : Addr} {o : Obj}, s.heap.get? b = some o → H b = none → (hidT s.heap H).get? b = some o := fun e n => hidT_get e n
    have dictFree : ∀ {b : Addr} {o : Obj} {es : Array DictEntry} {ep : Nat}, s.heap.get? b = some o → o.data = .dict es ep → H b = none := by
      intro b o es ep e d
      rcases only b with z | ⟨rfl, _⟩
      · exact z
      · rw [ea] at e
        cases e
        exact nomatch (show Data.seq vs.toArray _ = Data.dict es ep from d)
    have nsB : ∀ {b : Addr} {m : Str → Option Value}, s.heap.Ns b m → (hidT s.heap H).Ns b m := fun ⟨o, es, ep, e, d, r⟩ => ⟨o, es, ep, keepB e (dictFree e d), d, r⟩
    have inB : K.In (hidT s.heap H) := fun b o e => keepB (KX b o e) (by
      rcases only b with z | ⟨rfl, _, _, _, z⟩
      · exact z
      · rw [z] at e; cases e)
    have md : Mod K mg (hidT s.heap H) := by
      obtain ⟨mc, l1, l2⟩ := lim
      exact ⟨inB, nsB n1, ⟨mb, nsB n2, n3⟩, ⟨mc, nsB l1, l2⟩⟩
    have env0 : Env0 P w K mg (hidT s.heap H) callerA [] s H :=
      ⟨rfl, md, fun b o e => of_hidT e, Nat.le_of_eq (hidT_size _ _), trivial, fun b hb => (List.not_mem_nil (show b ∈ ([] : List Addr) from hb)).elim, ok, .of_eq gens⟩
    have want : rN K F [.ref a] H (fun v _ => v = .bl true) :=
      ⟨[], [], [.fls (ns.map .int)], .bl true, hd', ⟨rfl, List.nodup_nil, fun n _ _ e => by simp at e⟩, RepL.one (rep_fls.mpr ⟨a, _, rfl, sq, ints_rep ns⟩), hF, fun v ρ' H' _ r => rep_bl.mp r⟩
    refine codeAny_mono ((G _ inB (nsB n1)).run callerA [] s H ⟨[.ref a], []⟩ [.ref a] [.ref a] _ hr rfl env0 (bind s (.ref a)) (.cons rfl .nil) want) fun r s' hq => ?_
    cases r with
    | error e => exact False.elim hq
    | ok fl =>
      cases fl with
      | next => exact False.elim hq
      | brk => exact False.elim hq
      | cont => exact False.elim hq
      | ret u =>
        obtain ⟨v, H', os, bare, un, ok', rv', hv⟩ := hq
        subst hv
        have hu : u = Value.bool true := rv'
        subst hu
        refine ⟨rfl, OldK.of_keep fun b o e => ?_, os, bare⟩
        rcases only b with z | ⟨_, ob, ys, z, _⟩
        · exact un.keep b o e z (fun y => (List.not_mem_nil (show b ∈ ([] : List Addr) from y)).elim) (List.not_mem_nil)
        · have h1 := (ok b _ z).1
          have h2 := (ok' b _ (un.frzs b ob _ z)).1
          rw [e] at h1
          cases h1
          exact h2
  cases hk : K.lookup a with
  | some o =>
    have e := KX a o hk
    rw [ea] at e
    cases e
    exact go (fun _ => none) (.inr (.inr ⟨_, vs.toArray, _, hk, rfl, rfl, rfl, by rw [List.size_toArray, hlen]; exact hl, by simpa using rv⟩)) (fun b u z => nomatch (show (none : Option HO) = some u from z)) fun b => .inl rfl
  | none =>
    refine go (upd (fun _ => none) a (.frz { cls := .type "list", data := .seq vs.toArray } (.lst (ns.map V.int)))) (.inl ⟨_, upd_same⟩) (fun b u z => ?_) fun b => ?_
    · by_cases hb : b = a
      · subst hb
        rw [upd_same] at z
        cases z
        exact ⟨ea, by rw [List.length_map]; exact hl, vs, _, rv, ea⟩
      · rw [upd_ne hb] at z
        cases z
    · by_cases hb : b = a
      · subst hb
        exact .inr ⟨rfl, _, _, upd_same, hk⟩
      · exact .inl (by rw [upd_ne hb])
theorem walk_G {l : PySem.W.OpenLaw} {n k : Nat} {q : Program} {loose : List Str} {XP : (Str → Option Value) → Heap → Prop} {YP : World → Heap → Prop} {d : DefRec} {x : Str}
    (hn : l.most = some n) (hn2 : n ≤ sizeLine) (hdf : d.params.defaults = []) (hr : Room k callerA)
    (W : ∀ (w : World) (mg : Str → Option Value) (fa : Addr) (h : Heap), YP w h → h.Ns mainGlobals mg → mg d.name = some (.ref fa) →
      ∃ (K : PySem.W.Frag) (fd : FuncData) (F : GN), K.In h ∧ (∀ (s : Shared) (u : Value), BindsTo s fd ⟨[u], []⟩ [(x, u)]) ∧
        (∀ ns : List Int, ns.length ≤ n → ∃ hd', F [.fls (ns.map .int)] [] = some (.bl true, hd')) ∧ ∀ base : Heap, K.In base → base.Ns mainGlobals mg → FnG l.prog w K mg base k fa fd [x] F) :
    PySem.W.WalkO q loose XP YP l.row.toRowW d [] (fun f vs => PySem.call f vs) := by
  refine Att.attach_call hn hdf fun w s₀ s₁ mg mb fa o pm cd doc a vs ns G Y ho hd hcd hmg hobj hints hlen hg => ?_
  obtain ⟨K, fd, F, KX, hb, hF, hG⟩ := W w mg fa _ Y G.T.g hmg
  exact law_end KX G.T.g G.T.b G.T.builtins G.T.nolimit hg hobj hints (Nat.le_trans hlen hn2) hr hG hb (hF ns hlen)
end Dl

namespace Dl
open PySem PySem.Spec PyProof.Rows L2
/-- a def that may be called by its name -/
def Df (P : Program) (w : World) (K : PySem.W.Frag) (mg : Str → Option Value) (base : Heap) (k : Nat) (x : Str) (ps : List Str) (F : GN) : Prop :=
  ∃ (f : Addr) (fd : FuncData), FnG P w K mg base k f fd ps F ∧ mg x = some (.ref f) ∧ PySem.W.keepIn K (.ref f) = true ∧ Binds K fd ps []
theorem df_of {P : Program} {w : World} {K : PySem.W.Frag} {mg : Str → Option Value} {base : Heap} {x : Str} {params : Arguments} {body : List Stmt} {scope : Scope} {f : Addr} {N ps : List Str} {k n m : Nat} {fb : SM}
    (F : ∃ fd, FunD K x x params body scope [] [] f fd) (g : mg x = some (.ref f)) (S : FnScope N ps scope) (hn : ps.length = n) (hm : N.length - ps.length = m)
    (hb : ∀ (kV doc pm : Value) (an : Option Addr) (cdv ct : Value) (us : List Value), us.length = ps.length → bindArgs (PySem.W.fnOf x x params body scope .none kV doc pm an cdv ct) ⟨us, []⟩ = pure (ps.zip us))
    (hbody : ∀ (cdv : Value) (A : Around) (outer : List Env) (s : Shared) (H : Hp), Room k (A.deeper (envOfC x scope s.heap.objs.size f cdv)) → (A.deeper (envOfC x scope s.heap.objs.size f cdv)).guards = some [] →
      PSs (cxOf L2.CX0 P w K mg base N x scope f cdv A outer s H L2.E0).nox body (tS K fb)) : Df P w K mg base (k + 1) x ps (mFn n m fb) := by
  obtain ⟨fd, F⟩ := F
  exact ⟨f, fd, fng_of F S hn hm (fun cdv A outer s H hr hG => PSs.nox (hbody cdv A outer s H hr hG)), g, F.kp, F.bindsN hb⟩
theorem pm_callD {X : Cx} {pos p : Pos} {e : Expr} {es : List Expr} {fr : AM} {F : GN} {k : Nat} {ps : List Str} {x : Str} (C : Df X.prog X.w X.K X.mg X.base k x ps F) (hr : Room k X.A) (hG : X.A.guards = some []) (hg : Gl X x)
    (ha : PA X (e :: es) (tA X.K fr)) (hdb : (x == ("__debug__" : Str)) = false := by decide) (he : starEach (e :: es) X.env = (false, eval e X.env) :: starEach es X.env := by rfl) (hpl : (backTo pos (starEach es X.env)).any (·.1) = false := by rfl) :
    PE X (.Call (.Name x p) (e :: es) [] pos) (tM X.K (mCall F fr)) := by
  obtain ⟨f, fd, G, hm, hk, hb⟩ := C
  exact pm_call G hr hG hg hm hk hb ha hdb he hpl
/-- fuel: what the ints of the frame are together -/
def fuelD : Option D → Nat
  | some (.int i) => i.natAbs + 1
  | _ => 0
def fuelE : Ev → Hd → Nat := fun env _ => (env.map fuelD).sum + 1
end Dl

namespace Dl
open PySem PySem.Spec PyProof.Rows L2
/-! ## sizes -/
class Sz (x : Int) (n : outParam Nat) : Prop where
  h : x.natAbs < 2 ^ n
theorem Sz.mono {x : Int} {n m : Nat} (s : Sz x n) (h : n ≤ m) : x.natAbs < 2 ^ m := Nat.lt_of_lt_of_le s.h (Nat.pow_le_pow_right (by decide) h)
instance szMul {x y : Int} {a b : Nat} [s : Sz x a] [t : Sz y b] : Sz (x * y) (a + b) := ⟨by
  rw [Int.natAbs_mul, Nat.pow_add]; exact Nat.mul_lt_mul'' s.h t.h⟩
theorem two_pow_le_add {a b : Nat} : 2 ^ a + 2 ^ b ≤ 2 ^ (a + b + 1) := by
  have h1 : 2 ^ a ≤ 2 ^ (a + b) := Nat.pow_le_pow_right (by decide) (by omega)
  have h2 : 2 ^ b ≤ 2 ^ (a + b) := Nat.pow_le_pow_right (by decide) (by omega)
  rw [Nat.pow_succ]; omega
theorem two_pow_le_max {a b : Nat} : 2 ^ a + 2 ^ b ≤ 2 ^ (max a b + 1) := by
  have h1 : 2 ^ a ≤ 2 ^ (max a b) := Nat.pow_le_pow_right (by decide) (by omega)
  have h2 : 2 ^ b ≤ 2 ^ (max a b) := Nat.pow_le_pow_right (by decide) (by omega)
  rw [Nat.pow_succ]; omega
instance szAdd {x y : Int} {a b : Nat} [s : Sz x a] [t : Sz y b] : Sz (x + y) (max a b + 1) := ⟨by
  have := s.h; have := t.h; have := @two_pow_le_max a b; omega⟩
instance szSub {x y : Int} {a b : Nat} [s : Sz x a] [t : Sz y b] : Sz (x - y) (max a b + 1) := ⟨by
  have := s.h; have := t.h; have := @two_pow_le_max a b; omega⟩
instance szNeg {x : Int} {a : Nat} [s : Sz x a] : Sz (-x) a := ⟨by have := s.h; omega⟩
instance szLit {n : Nat} : Sz (OfNat.ofNat n) (n.log2 + 1) := ⟨by
  show n < _
  exact Nat.lt_log2_self⟩
instance szNatLit {n : Nat} : Sz ((OfNat.ofNat n : Nat) : Int) (n.log2 + 1) := ⟨by
  show n < _
  exact Nat.lt_log2_self⟩
/-! ## rationals -/
class Bq (r : Rat) (n : outParam Nat) : Prop where
  num : r.num.natAbs < 2 ^ n
  den : r.den < 2 ^ n
instance szNum {r : Rat} {n : Nat} [b : Bq r n] : Sz r.num n := ⟨b.num⟩
instance szDen {r : Rat} {n : Nat} [b : Bq r n] : Sz (r.den : Int) n := ⟨by have := b.den; omega⟩
theorem dvd_num {t b : Int} (hb : b ≠ 0) : (Rat.divInt t b).num.natAbs ≤ t.natAbs := by
  rw [Rat.num_divInt]
  by_cases hz : t = 0
  · subst hz; simp
  · have h1 : (b.sign * t / (b.gcd t : Int)).natAbs ≤ (b.sign * t).natAbs := Int.natAbs_ediv_le_natAbs _ _
    have h2 : (b.sign * t).natAbs = t.natAbs := by
      rw [Int.natAbs_mul]
      rcases Int.lt_trichotomy b 0 with h | h | h
      · rw [Int.sign_eq_neg_one_of_neg h]; simp
      · exact absurd h hb
      · rw [Int.sign_eq_one_of_pos h]; simp
    omega
theorem dvd_den {t b : Int} (hb : b ≠ 0) : (Rat.divInt t b).den ≤ b.natAbs := by
  rw [Rat.den_divInt, if_neg hb]
  exact Nat.div_le_self _ _
theorem bq_divInt {t b : Int} {m n : Nat} (s : t.natAbs < 2 ^ m) (u : b.natAbs < 2 ^ n) (hb : b ≠ 0) : Bq (Rat.divInt t b) (max m n) := by
  have h1 : 2 ^ m ≤ 2 ^ (max m n) := Nat.pow_le_pow_right (by decide) (by omega)
  have h2 : 2 ^ n ≤ 2 ^ (max m n) := Nat.pow_le_pow_right (by decide) (by omega)
  have := @dvd_num t b hb
  have := @dvd_den t b hb
  exact ⟨by omega, by omega⟩
theorem den_ne (r : Rat) : (r.den : Int) ≠ 0 := by have := r.den_pos; omega
instance bqAdd {r s : Rat} {a b : Nat} [x : Bq r a] [y : Bq s b] : Bq (r + s) (a + b + 1) := by
  have e : r + s = Rat.divInt (r.num * s.den + s.num * r.den) (r.den * s.den) := by
    rw [← Rat.divInt_add_divInt _ _ (den_ne r) (den_ne s), Rat.num_divInt_den, Rat.num_divInt_den]
  have hb : (r.den : Int) * s.den ≠ 0 := Int.mul_ne_zero (den_ne r) (den_ne s)
  have h1 := dvd_num (t := r.num * s.den + s.num * r.den) hb
  have h2 := dvd_den (t := r.num * s.den + s.num * r.den) hb
  have p1 : (r.num * (s.den : Int)).natAbs < 2 ^ (a + b) := (@szMul r.num s.den a b szNum szDen).h
  have p2 : (s.num * (r.den : Int)).natAbs < 2 ^ (b + a) := (@szMul s.num r.den b a szNum szDen).h
  have p3 : ((r.den : Int) * (s.den : Int)).natAbs < 2 ^ (a + b) := (@szMul r.den s.den a b szDen szDen).h
  rw [Nat.add_comm b a] at p2
  have p4 : 2 ^ (a + b + 1) = 2 ^ (a + b) * 2 := Nat.pow_succ ..
  rw [e]
  exact ⟨by omega, by omega⟩
instance bqNeg {r : Rat} {a : Nat} [x : Bq r a] : Bq (-r) a := ⟨by have := x.num; rw [Rat.neg_num]; omega, by rw [Rat.neg_den]; exact x.den⟩
instance bqSub {r s : Rat} {a b : Nat} [x : Bq r a] [y : Bq s b] : Bq (r - s) (a + b + 1) := by
  rw [Rat.sub_eq_add_neg]; infer_instance
instance bqMul {r s : Rat} {a b : Nat} [x : Bq r a] [y : Bq s b] : Bq (r * s) (a + b) := by
  have e : r * s = Rat.divInt (r.num * s.num) (r.den * s.den) := by
    rw [← Rat.divInt_mul_divInt, Rat.num_divInt_den, Rat.num_divInt_den]
  have hb : (r.den : Int) * s.den ≠ 0 := Int.mul_ne_zero (den_ne r) (den_ne s)
  have h1 := dvd_num (t := r.num * s.num) hb
  have h2 := dvd_den (t := r.num * s.num) hb
  have p1 : (r.num * s.num).natAbs < 2 ^ (a + b) := (@szMul r.num s.num a b szNum szNum).h
  have p3 : ((r.den : Int) * (s.den : Int)).natAbs < 2 ^ (a + b) := (@szMul r.den s.den a b szDen szDen).h
  rw [e]
  exact ⟨by omega, by omega⟩
instance bq0 : Bq 0 1 := ⟨by decide, by decide⟩
instance bq1 : Bq 1 1 := ⟨by decide, by decide⟩
/-- a fraction as the laws tell it -/
def fr (r : Rat) : D := .tup [.int r.num, .int (r.den : Nat)]
/-- the same number -/
theorem fr_num (n : Int) : fr (n : Rat) = .tup [.int n, .int 1] := by simp [fr]
end Dl

namespace Dl
open PySem PySem.Spec PyProof.Rows L2
/-! ## evaluation -/
section
variable {env : Ev} {hd : Hd} {f g : SM} {a b c o : EM} {r : AM} {t u : BM} {d e : D} {ds es : List D}
@[simp] theorem e_seq : mSeq f g env hd = (f env hd).bind fun p => match p.1 with | .nx => g p.2.1 p.2.2 | _ => some p := rfl
@[simp] theorem e_skip : mSkip env hd = some (.nx, env, hd) := rfl
@[simp] theorem e_none : mNone env hd = none := rfl
@[simp] theorem e_ret : mRet a env hd = (a env hd).bind fun p => some (.rt p.1, env, p.2) := rfl
@[simp] theorem e_expr : mExpr a env hd = (a env hd).bind fun p => some (.nx, env, p.2) := rfl
@[simp] theorem e_ifs : mIfS t f g env hd = (t env hd).bind fun p => if p.1 = true then f env p.2 else g env p.2 := rfl
@[simp] theorem e_asg {x : GT} : mAsg a x env hd = (a env hd).bind fun p => (x p.1 env p.2).bind fun q => some (.nx, q.1, q.2) := rfl
@[simp] theorem e_gnm {i : Nat} : gNm i d env hd = some (env.set i (some d), hd) := rfl
@[simp] theorem e_gsnil : gsNil [] env hd = some (env, hd) := rfl
@[simp] theorem e_gscons {x : GT} {y : GTs} : gsCons x y (d :: ds) env hd = (x d env hd).bind fun p => y ds p.1 p.2 := rfl
@[simp] theorem e_gtp {y : GTs} : gTp y (.tup ds) env hd = y ds env hd := rfl
@[simp] theorem e_gtpr {y : GTs} {n : Nat} : gTp y (.ref n) env hd = (lsOf hd n).bind fun ds => y ds env hd := rfl
@[simp] theorem e_par {i j : Nat} : mPar i j r env hd = (r env hd).bind fun p => match p.1 with | [a, b] => some (.nx, (env.set i (some a)).set j (some b), p.2) | _ => none := rfl
@[simp] theorem e_var {i : Nat} : mVar i env hd = match env[i]? with | some (some d) => some (d, hd) | _ => none := rfl
@[simp] theorem e_c : mC d env hd = some (d, hd) := rfl
@[simp] theorem e_bin {x : G2} : mBin x a b env hd = (a env hd).bind fun p => (b env p.2).bind fun q => x p.1 q.1 q.2 := rfl
@[simp] theorem e_un {x : D → Hd → Option (D × Hd)} : mUn x a env hd = (a env hd).bind fun p => x p.1 p.2 := rfl
@[simp] theorem e_nil : mNil env hd = some ([], hd) := rfl
@[simp] theorem e_cons : mCons a r env hd = (a env hd).bind fun p => (r env p.2).bind fun q => some (p.1 :: q.1, q.2) := rfl
@[simp] theorem e_call {x : GN} : mCall x r env hd = (r env hd).bind fun p => x p.1 p.2 := rfl
@[simp] theorem e_tup : mTup r env hd = (r env hd).bind fun p => if p.1.length ≤ 1000 then some (.tup p.1, p.2) else none := rfl
@[simp] theorem e_lst : mLst r env hd = (r env hd).bind fun p => if p.1.length ≤ 1000 then some (.ref p.2.length, p.2 ++ [.lst p.1]) else none := rfl
@[simp] theorem e_chain {x y : G2} : mChain x y a b c env hd = (a env hd).bind fun p => (b env p.2).bind fun q => (x p.1 q.1 q.2).bind fun r => match r.1 with
  | .bl true => (c env r.2).bind fun z => y q.1 z.1 z.2
  | .bl false => some (.bl false, r.2)
  | _ => none := rfl
@[simp] theorem e_and : mAnd a b env hd = (a env hd).bind fun p => match p.1 with | .bl true => b env p.2 | .bl false => some (.bl false, p.2) | _ => none := rfl
@[simp] theorem e_or : mOr a b env hd = (a env hd).bind fun p => match p.1 with | .bl false => b env p.2 | .bl true => some (.bl true, p.2) | _ => none := rfl
@[simp] theorem e_not : mNot a env hd = (a env hd).bind fun p => match p.1 with | .bl b => some (.bl (!b), p.2) | _ => none := rfl
@[simp] theorem e_if : mIf t a b env hd = (t env hd).bind fun p => if p.1 = true then a env p.2 else b env p.2 := rfl
@[simp] theorem e_tru_bl {b : Bool} : truD (.bl b) hd = some b := rfl
@[simp] theorem e_tru_int {i : Int} : truD (.int i) hd = some (i != 0) := rfl
@[simp] theorem e_btru : bTru a env hd = (a env hd).bind fun p => (truD p.1 p.2).map fun b => (b, p.2) := rfl
@[simp] theorem e_bcmp : bCmp a env hd = (a env hd).bind fun p => match p.1 with | .bl b => some (b, p.2) | _ => none := rfl
@[simp] theorem e_band : bAnd t u env hd = (t env hd).bind fun p => if p.1 = true then u env p.2 else some (false, p.2) := rfl
@[simp] theorem e_bor : bOr t u env hd = (t env hd).bind fun p => if p.1 = true then some (true, p.2) else u env p.2 := rfl
@[simp] theorem e_bnot : bNot t env hd = (t env hd).bind fun p => some (!p.1, p.2) := rfl
@[simp] theorem e_yes : bYes env hd = some (true, hd) := rfl
@[simp] theorem e_sl {l m : OM} : mSl a l m env hd = (a env hd).bind fun p => (l env p.2).bind fun q => (m env q.2).bind fun r => sliD p.1 q.1 r.1 r.2 := rfl
@[simp] theorem e_onone : oNone env hd = some (none, hd) := rfl
@[simp] theorem e_osome : oSome a env hd = (a env hd).bind fun p => match p.1 with | .int i => some (some i, p.2) | _ => none := rfl
@[simp] theorem e_iseq_tup : iSeq a env hd = (a env hd).bind fun p => match p.1 with
  | .ref n => (lsOf p.2 n).map fun ds => (⟨ds, [(n, ds)]⟩, p.2)
  | .tup ds => some (⟨ds, []⟩, p.2)
  | .fls ds => some (⟨ds, []⟩, p.2)
  | _ => none := rfl
@[simp] theorem e_irange1 : iRange1 r env hd = (r env hd).bind fun p => match p.1 with
  | [.int j] => if -1000000 ≤ j ∧ j ≤ 1000000 then some (⟨rangeL 0 j, []⟩, p.2) else none
  | _ => none := rfl
@[simp] theorem e_izip : iZipM r env hd = (r env hd).bind fun p => match p.1 with
  | [.ref n, .ref m] => (lsOf p.2 n).bind fun xs => (lsOf p.2 m).map fun ys => (⟨zipL xs ys, [(n, xs), (m, ys)]⟩, p.2)
  | [.tup xs, .tup ys] => some (⟨zipL xs ys, []⟩, p.2)
  | _ => none := rfl
@[simp] theorem e_for {i : IM} {x : GT} : mFor i x f env hd = (i env hd).bind fun p => forL p.1.keep x f p.1.items env p.2 := rfl
@[simp] theorem e_while {fu : Ev → Hd → Nat} : mWhile fu t f env hd = whileL t f (fu env hd) env hd := rfl
@[simp] theorem e_comp {i : IM} {x : GT} {vs : List Nat} : mComp i x t a vs env hd = (i env hd).bind fun p => (compL p.1.keep x t a (wipeE env vs) p.1.items p.2).bind fun r => if r.1.length ≤ 1000000 then some (.ref r.2.length, r.2 ++ [.lst r.1]) else none := rfl
@[simp] theorem e_wipe0 : wipeE env [] = env := rfl
@[simp] theorem e_wipe1 {v : Nat} {vs : List Nat} : wipeE env (v :: vs) = (wipeE env vs).set v none := rfl
@[simp] theorem keep_nil : keepOk [] hd := fun p h => by cases h
@[simp] theorem keep_cons {n : Nat} {k : List (Nat × List D)} : keepOk ((n, ds) :: k) hd ↔ lsOf hd n = some ds ∧ keepOk k hd := by
  unfold keepOk
  constructor
  · intro h; exact ⟨h (n, ds) (by simp), fun p hp => h p (by simp [hp])⟩
  · rintro ⟨h1, h2⟩ p hp
    rcases List.mem_cons.mp hp with rfl | hp
    · exact h1
    · exact h2 p hp
@[simp] theorem e_for0 {k : List (Nat × List D)} {x : GT} (h : keepOk k hd) : forL k x f [] env hd = some (.nx, env, hd) := by unfold forL; rw [if_pos h]
theorem e_for1 {k : List (Nat × List D)} {x : GT} (h : keepOk k hd) : forL k x f (d :: ds) env hd = (x d env hd).bind fun p => (f p.1 p.2).bind fun q => match q.1 with
      | .nx => forL k x f ds q.2.1 q.2.2
      | .ct => forL k x f ds q.2.1 q.2.2
      | .bk => some (.nx, q.2.1, q.2.2)
      | .rt v => some (.rt v, q.2.1, q.2.2) := by
  conv => lhs; unfold forL; rw [if_pos h]
  try rfl
@[simp] theorem e_comp0 {k : List (Nat × List D)} {x : GT} (h : keepOk k hd) : compL k x t a env [] hd = some ([], hd) := by unfold compL; rw [if_pos h]
@[simp] theorem e_comp1 {k : List (Nat × List D)} {x : GT} (h : keepOk k hd) : compL k x t a env (d :: ds) hd = (x d env hd).bind fun p => (t p.1 p.2).bind fun b => if b.1 = true then (a p.1 b.2).bind fun q => (compL k x t a env ds q.2).bind fun r => some (q.1 :: r.1, r.2) else compL k x t a env ds b.2 := by
  conv => lhs; unfold compL; rw [if_pos h]
@[simp] theorem e_addii {i j : Int} : addD (.int i) (.int j) hd = some (.int (i + j), hd) := rfl
@[simp] theorem e_subii {i j : Int} : subD (.int i) (.int j) hd = some (.int (i - j), hd) := rfl
@[simp] theorem e_mulii {i j : Int} {m n : Nat} [s : Sz i m] [t : Sz j n] (h : (decide (m ≤ 20000) && decide (n ≤ 20000)) = true) : mulD (.int i) (.int j) hd = some (.int (i * j), hd) := by
  simp only [Bool.and_eq_true, decide_eq_true_eq] at h
  show (if _ then _ else _) = _
  rw [if_pos ⟨s.mono h.1, t.mono h.2⟩]
theorem e_divii {i j : Int} {n : Nat} [t : Sz j n] (hj : j ≠ 0) (h : n ≤ 8000) : divD (.int i) (.int j) hd = some (.int (i.fdiv j), hd) := by
  show (if _ then _ else _) = _
  rw [if_pos ⟨hj, t.mono h⟩]
theorem e_modii {i j : Int} (hj : j ≠ 0) : modD (.int i) (.int j) hd = some (.int (i.fmod j), hd) := by
  show (if _ then _ else _) = _
  rw [if_pos hj]
@[simp] theorem e_neg {i : Int} : negD (.int i) hd = some (.int (-i), hd) := rfl
@[simp] theorem e_cmp {p : Int → Int → Bool} {i j : Int} : cmpI p (.int i) (.int j) hd = some (.bl (p i j), hd) := rfl
@[simp] theorem e_abs {i : Int} : absD [.int i] hd = some (.int (if i < 0 then -i else i), hd) := rfl
@[simp] theorem e_inti {i : Int} : intD [.int i] hd = some (.int i, hd) := rfl
@[simp] theorem e_intb {b : Bool} : intD [.bl b] hd = some (.int (if b then 1 else 0), hd) := rfl
@[simp] theorem e_gcd2 {i j : Int} : gcdD [.int i, .int j] hd = some (.int ((i.natAbs.gcd j.natAbs : Nat) : Int), hd) := rfl
@[simp] theorem e_gcd3 {i j k : Int} : gcdD [.int i, .int j, .int k] hd = some (.int (((i.natAbs.gcd j.natAbs).gcd k.natAbs : Nat) : Int), hd) := rfl
@[simp] theorem e_lent : lenD [.tup ds] hd = some (.int ds.length, hd) := rfl
@[simp] theorem e_lenf : lenD [.fls ds] hd = some (.int ds.length, hd) := rfl
@[simp] theorem e_lenr {n : Nat} : lenD [.ref n] hd = (lsOf hd n).map fun es => (.int es.length, hd) := rfl
@[simp] theorem e_max2 {i j : Int} : maxD [.int i, .int j] hd = some (.int (if j > i then j else i), hd) := rfl
@[simp] theorem e_min2 {i j : Int} : minD [.int i, .int j] hd = some (.int (if j < i then j else i), hd) := rfl
@[simp] theorem e_ixt {i : Int} : idxD (.tup ds) (.int i) hd = (atI ds i).map fun d => (d, hd) := rfl
@[simp] theorem e_ixf {i : Int} : idxD (.fls ds) (.int i) hd = (atI ds i).map fun d => (d, hd) := rfl
@[simp] theorem e_ixr {n : Nat} {i : Int} : idxD (.ref n) (.int i) hd = (lsOf hd n).bind fun ds => (atI ds i).map fun d => (d, hd) := rfl
theorem atI_at {i : Nat} (h : i < ds.length) : atI ds (i : Int) = ds[i]? := by
  unfold atI ixN
  rw [if_pos (by omega), if_pos (by omega)]
  simp
@[simp] theorem at0 : atI (d :: ds) 0 = some d := by rw [show (0 : Int) = ((0 : Nat) : Int) from rfl, atI_at (by simp)]; rfl
@[simp] theorem at1 {x : D} : atI (d :: x :: ds) 1 = some x := by rw [show (1 : Int) = ((1 : Nat) : Int) from rfl, atI_at (by simp)]; rfl
@[simp] theorem at2 {x y : D} : atI (d :: x :: y :: ds) 2 = some y := by rw [show (2 : Int) = ((2 : Nat) : Int) from rfl, atI_at (by simp)]; rfl
@[simp] theorem at3 {x y z : D} : atI (d :: x :: y :: z :: ds) 3 = some z := by rw [show (3 : Int) = ((3 : Nat) : Int) from rfl, atI_at (by simp)]; rfl
@[simp] theorem e_ls_new : lsOf (hd ++ [.lst ds]) hd.length = some ds := by unfold lsOf; simp
@[simp] theorem e_ls_new1 {o1 : Ob} : lsOf (hd ++ [.lst ds, o1]) hd.length = some ds := by unfold lsOf; simp
@[simp] theorem e_tupleT : tupleD [.tup ds] hd = some (.tup ds, hd) := rfl
@[simp] theorem e_tupleR {n : Nat} : tupleD [.ref n] hd = (lsOf hd n).map fun es => (.tup es, hd) := rfl
@[simp] theorem e_all {n : Nat} : allD [.ref n] hd = (lsOf hd n).bind fun es => (blsOf es).map fun ns => (.bl (ns.all id), hd) := rfl
@[simp] theorem e_bls0 : blsOf [] = some [] := rfl
@[simp] theorem e_bls1 {b : Bool} : blsOf (.bl b :: ds) = (blsOf ds).map (b :: ·) := rfl
@[simp] theorem e_isi_ii {i : Int} : isiD [.int i, .raw (.ty "int")] hd = some (.bl true, hd) := by
  simp only [isiD, tyN, Option.bind_some, show kitB "int" "int" = some true by decide +kernel, Option.map_some]
@[simp] theorem e_isi_ib {i : Int} : isiD [.int i, .raw (.ty "bool")] hd = some (.bl false, hd) := by
  simp only [isiD, tyN, Option.bind_some, show kitB "int" "bool" = some false by decide +kernel, Option.map_some]
@[simp] theorem e_isi_tt : isiD [.tup ds, .raw (.ty "tuple")] hd = some (.bl true, hd) := by
  simp only [isiD, tyN, Option.bind_some, show kitB "tuple" "tuple" = some true by decide +kernel, Option.map_some]
theorem e_fn {n m : Nat} (h : ds.length = n) : mFn n m f ds hd = (f (ds.map some ++ List.replicate m none) hd).bind fun p => match p.1 with | .nx => some (.non, p.2.2) | .rt d => some (d, p.2.2) | _ => none := by
  unfold mFn; rw [if_pos h]; try rfl
end
end Dl

namespace Dl
open PySem PySem.Spec PyProof.Rows L2
/-! ## fractions: mathematics -/
theorem gcd_dvd_l (t b : Int) : ((t.natAbs.gcd b.natAbs : Nat) : Int) ∣ t := Int.natAbs_dvd_natAbs.mp (by simpa using Nat.gcd_dvd_left t.natAbs b.natAbs)
theorem gcd_dvd_r (t b : Int) : ((t.natAbs.gcd b.natAbs : Nat) : Int) ∣ b := Int.natAbs_dvd_natAbs.mp (by simpa using Nat.gcd_dvd_right t.natAbs b.natAbs)
theorem gcd_pos_of {t b : Int} (hb : b ≠ 0) : 0 < t.natAbs.gcd b.natAbs := Nat.gcd_pos_of_pos_right _ (by omega)
theorem fdiv_exact {x g q : Int} (hg : g ≠ 0) (h : x = g * q) : x.fdiv g = q := by
  subst h
  rw [Int.fdiv_eq_ediv_of_dvd (Int.dvd_mul_right g q), Int.mul_ediv_cancel_left _ hg]
theorem frac_num {t b : Int} (hb : b ≠ 0) {s : Int} (hs : s = if 0 < b then ((t.natAbs.gcd b.natAbs : Nat) : Int) else -((t.natAbs.gcd b.natAbs : Nat) : Int)) : t.fdiv s = (Rat.divInt t b).num := by
  obtain ⟨q, hq⟩ := gcd_dvd_l t b
  have hg := gcd_pos_of (t := t) hb
  rw [Rat.num_divInt]
  have e : (b.gcd t : Int) = ((t.natAbs.gcd b.natAbs : Nat) : Int) := by rw [Int.gcd_comm]; rfl
  rw [e]
  generalize hG : ((t.natAbs.gcd b.natAbs : Nat) : Int) = G at *
  have hG0 : G ≠ 0 := by omega
  split at hs
  · rename_i h
    rw [Int.sign_eq_one_of_pos h, hs, fdiv_exact hG0 hq, Int.one_mul]
    conv => rhs; rw [hq]
    rw [Int.mul_ediv_cancel_left _ hG0]
  · rename_i h
    have hn : b < 0 := by omega
    rw [Int.sign_eq_neg_one_of_neg hn, hs, fdiv_exact (q := -q) (by omega) (by rw [Int.neg_mul_neg]; exact hq)]
    have : -1 * t = G * (-q) := by rw [hq, Int.mul_neg, Int.neg_one_mul]
    rw [this, Int.mul_ediv_cancel_left _ hG0]
theorem frac_den {t b : Int} (hb : b ≠ 0) {s : Int} (hs : s = if 0 < b then ((t.natAbs.gcd b.natAbs : Nat) : Int) else -((t.natAbs.gcd b.natAbs : Nat) : Int)) : b.fdiv s = ((Rat.divInt t b).den : Nat) := by
  obtain ⟨q, hq⟩ := gcd_dvd_r t b
  have hg := gcd_pos_of (t := t) hb
  rw [Rat.den_divInt, if_neg hb]
  have e : b.gcd t = t.natAbs.gcd b.natAbs := by rw [Int.gcd_comm]; rfl
  rw [e]
  have hG0 : ((t.natAbs.gcd b.natAbs : Nat) : Int) ≠ 0 := by omega
  have key : ((b.natAbs / t.natAbs.gcd b.natAbs : Nat) : Int) = (b.natAbs : Int) / ((t.natAbs.gcd b.natAbs : Nat) : Int) := by simp
  rw [key]
  generalize hG : ((t.natAbs.gcd b.natAbs : Nat) : Int) = G at *
  split at hs
  · rename_i h
    have hbn : (b.natAbs : Int) = b := by omega
    rw [hs, fdiv_exact hG0 hq, hbn]
    conv => rhs; rw [hq]
    rw [Int.mul_ediv_cancel_left _ hG0]
  · rename_i h
    have hbn : (b.natAbs : Int) = -b := by omega
    rw [hs, fdiv_exact (q := -q) (by omega) (by rw [Int.neg_mul_neg]; exact hq), hbn]
    have : -b = G * (-q) := by rw [Int.mul_neg, ← hq]
    rw [this, Int.mul_ediv_cancel_left _ hG0]
theorem divInt_add (r s : Rat) : Rat.divInt (r.num * s.den + s.num * r.den) (r.den * s.den) = r + s := by
  rw [← Rat.divInt_add_divInt _ _ (den_ne r) (den_ne s), Rat.num_divInt_den, Rat.num_divInt_den]
theorem divInt_sub (r s : Rat) : Rat.divInt (r.num * s.den - s.num * r.den) (r.den * s.den) = r - s := by
  rw [← Rat.divInt_sub_divInt _ _ (den_ne r) (den_ne s), Rat.num_divInt_den, Rat.num_divInt_den]
theorem divInt_mul (r s : Rat) : Rat.divInt (r.num * s.num) (r.den * s.den) = r * s := by
  rw [← Rat.divInt_mul_divInt, Rat.num_divInt_den, Rat.num_divInt_den]
theorem den_mul_ne (r s : Rat) : (r.den : Int) * s.den ≠ 0 := Int.mul_ne_zero (den_ne r) (den_ne s)
/-- a gcd is small -/
theorem gcd_sz {t b : Int} {n : Nat} [s : Sz b n] (hb : b ≠ 0) : Sz ((t.natAbs.gcd b.natAbs : Nat) : Int) n := ⟨by
  have := Nat.le_of_dvd (by omega) (Nat.gcd_dvd_right t.natAbs b.natAbs)
  have := s.h
  omega⟩
/-! ## points -/
def pt (x y : Rat) : D := .tup [fr x, fr y]
def hG (x y : Rat) : Nat := Nat.gcd x.den y.den
def hX (x y : Rat) : Int := x.num * ((y.den / hG x y : Nat) : Int)
def hY (x y : Rat) : Int := y.num * ((x.den / hG x y : Nat) : Int)
def hB (x y : Rat) : Int := ((x.den / hG x y : Nat) : Int) * (y.den : Int)
/-- a point as the program has it -/
def hp (x y : Rat) : D := .tup [.int (hX x y), .int (hY x y), .int (hB x y)]
theorem hG_pos (x y : Rat) : 0 < hG x y := Nat.gcd_pos_of_pos_left _ x.den_pos
theorem hG_l (x y : Rat) : x.den / hG x y * hG x y = x.den := Nat.div_mul_cancel (Nat.gcd_dvd_left _ _)
theorem hG_r (x y : Rat) : y.den / hG x y * hG x y = y.den := Nat.div_mul_cancel (Nat.gcd_dvd_right _ _)
theorem hl_pos (x y : Rat) : 0 < x.den / hG x y := Nat.pos_of_ne_zero fun h => by
  have := hG_l x y; rw [h, Nat.zero_mul] at this; have := x.den_pos; omega
theorem hr_pos (x y : Rat) : 0 < y.den / hG x y := Nat.pos_of_ne_zero fun h => by
  have := hG_r x y; rw [h, Nat.zero_mul] at this; have := y.den_pos; omega
theorem hB_pos (x y : Rat) : 0 < hB x y := by
  unfold hB
  have := hl_pos x y
  have := y.den_pos
  exact Int.mul_pos (by omega) (by omega)
theorem hB_eq (x y : Rat) : hB x y = (y.den / hG x y : Nat) * (x.den : Int) := by
  unfold hB
  have h1 := hG_l x y
  have h2 := hG_r x y
  generalize x.den / hG x y = p at *
  generalize y.den / hG x y = q at *
  rw [← h1, ← h2]
  push_cast
  grind
instance szHX {x y : Rat} {a b : Nat} [r : Bq x a] [s : Bq y b] : Sz (hX x y) (a + b) := ⟨by
  unfold hX
  have := Nat.div_le_self y.den (hG x y)
  have h1 : Sz (((y.den / hG x y : Nat)) : Int) b := ⟨by rw [Int.natAbs_natCast]; exact Nat.lt_of_le_of_lt this s.den⟩
  exact (@szMul _ _ a b szNum h1).h⟩
instance szHY {x y : Rat} {a b : Nat} [r : Bq x a] [s : Bq y b] : Sz (hY x y) (b + a) := ⟨by
  unfold hY
  have := Nat.div_le_self x.den (hG x y)
  have h1 : Sz (((x.den / hG x y : Nat)) : Int) a := ⟨by rw [Int.natAbs_natCast]; exact Nat.lt_of_le_of_lt this r.den⟩
  exact (@szMul _ _ b a szNum h1).h⟩
instance szHB {x y : Rat} {a b : Nat} [r : Bq x a] [s : Bq y b] : Sz (hB x y) (a + b) := ⟨by
  unfold hB
  have := Nat.div_le_self x.den (hG x y)
  have h1 : Sz (((x.den / hG x y : Nat)) : Int) a := ⟨by rw [Int.natAbs_natCast]; exact Nat.lt_of_le_of_lt this r.den⟩
  exact (@szMul _ _ a b h1 szDen).h⟩
theorem cast_num (x : Rat) : (x.num : Rat) = x * (x.den : Rat) := by
  have h := Rat.num_divInt_den x
  rw [Rat.divInt_eq_div] at h
  have hd : ((x.den : Int) : Rat) ≠ 0 := by
    have := x.den_pos
    intro z
    have : ((x.den : Int) : Rat) = ((0 : Int) : Rat) := by simpa using z
    rw [Rat.intCast_inj] at this; omega
  have e : ((x.den : Int) : Rat) = (x.den : Rat) := rfl
  rw [e] at h hd
  grind
theorem hX_eq (x y : Rat) : (hX x y : Rat) = x * (hB x y : Rat) := by
  rw [hB_eq]
  unfold hX
  rw [Rat.intCast_mul, Rat.intCast_mul, cast_num x]
  have e : ((x.den : Int) : Rat) = (x.den : Rat) := rfl
  rw [e]
  grind
theorem hY_eq (x y : Rat) : (hY x y : Rat) = y * (hB x y : Rat) := by
  unfold hY hB
  rw [Rat.intCast_mul, Rat.intCast_mul, cast_num y]
  have e : ((y.den : Int) : Rat) = (y.den : Rat) := rfl
  rw [e]
  grind
/-- no number above 1 divides all three -/
theorem hp_gcd (x y : Rat) : ((hX x y).natAbs.gcd (hY x y).natAbs).gcd (hB x y).natAbs = 1 := by
  have eX : (hX x y).natAbs = x.num.natAbs * (y.den / hG x y) := by unfold hX; rw [Int.natAbs_mul, Int.natAbs_natCast]
  have eY : (hY x y).natAbs = y.num.natAbs * (x.den / hG x y) := by unfold hY; rw [Int.natAbs_mul, Int.natAbs_natCast]
  have eB : (hB x y).natAbs = x.den * (y.den / hG x y) := by rw [hB_eq, Int.natAbs_mul, Int.natAbs_natCast, Int.natAbs_natCast, Nat.mul_comm]
  have c1 : Nat.gcd x.num.natAbs x.den = 1 := x.reduced
  have c2 : Nat.Coprime y.num.natAbs (y.den / hG x y) := Nat.Coprime.coprime_dvd_right (Nat.div_dvd_of_dvd (Nat.gcd_dvd_right _ _)) y.reduced
  have c3 : Nat.Coprime (x.den / hG x y) (y.den / hG x y) := Nat.coprime_div_gcd_div_gcd (hG_pos x y)
  rw [eX, eY, eB, Nat.gcd_assoc, Nat.gcd_comm (y.num.natAbs * _), ← Nat.gcd_assoc, Nat.gcd_mul_right, c1, Nat.one_mul]
  exact Nat.Coprime.symm (Nat.Coprime.mul_left c2 c3)
end Dl

namespace Dl
open PySem PySem.Spec PyProof.Rows L2
theorem canon {X Y B : Int} {x y : Rat} (hB0 : 0 < B) (ex : (X : Rat) = x * (B : Rat)) (ey : (Y : Rat) = y * (B : Rat)) {g : Int} (hg : g = (((X.natAbs.gcd Y.natAbs).gcd B.natAbs : Nat) : Int)) :
    X = g * hX x y ∧ Y = g * hY x y ∧ B = g * hB x y ∧ 0 < g := by
  have hb := hB_pos x y
  have c1 : X * hB x y = hX x y * B := by
    have h := hX_eq x y
    rw [← Rat.intCast_inj, Rat.intCast_mul, Rat.intCast_mul, ex, h]; grind
  have c2 : Y * hB x y = hY x y * B := by
    have h := hY_eq x y
    rw [← Rat.intCast_inj, Rat.intCast_mul, Rat.intCast_mul, ey, h]; grind
  have n1 : X.natAbs * (hB x y).natAbs = (hX x y).natAbs * B.natAbs := by rw [← Int.natAbs_mul, ← Int.natAbs_mul, c1]
  have n2 : Y.natAbs * (hB x y).natAbs = (hY x y).natAbs * B.natAbs := by rw [← Int.natAbs_mul, ← Int.natAbs_mul, c2]
  have key : ((X.natAbs.gcd Y.natAbs).gcd B.natAbs) * (hB x y).natAbs = B.natAbs := by
    rw [← Nat.gcd_mul_right, ← Nat.gcd_mul_right, n1, n2, Nat.mul_comm B.natAbs, Nat.gcd_mul_right, Nat.gcd_mul_right, hp_gcd, Nat.one_mul]
  have eB : B = g * hB x y := by
    have a1 : (B.natAbs : Int) = B := by omega
    have a2 : ((hB x y).natAbs : Int) = hB x y := by omega
    have key' : (((X.natAbs.gcd Y.natAbs).gcd B.natAbs : Nat) : Int) * ((hB x y).natAbs : Int) = (B.natAbs : Int) := by rw [← Int.natCast_mul, key]
    rw [a2, a1] at key'
    rw [hg]
    exact key'.symm
  have gp : 0 < g := by
    rcases Int.lt_trichotomy g 0 with h | h | h
    · have : g * hB x y < 0 := Int.mul_neg_of_neg_of_pos h hb
      omega
    · rw [h, Int.zero_mul] at eB; omega
    · exact h
  refine ⟨?_, ?_, eB, gp⟩
  · apply Int.eq_of_mul_eq_mul_right (a := hB x y) (by omega)
    rw [c1]; conv => lhs; rw [eB]
    grind
  · apply Int.eq_of_mul_eq_mul_right (a := hB x y) (by omega)
    rw [c2]; conv => lhs; rw [eB]
    grind
/-- the side -/
def sg (r : Rat) : Int := if r = 0 then 0 else if 0 < r then 1 else -1
theorem int_sg {T : Int} {k r : Rat} (h : (T : Rat) = k * r) (hk : 0 < k) : (if T = 0 then (0 : Int) else if 0 < T then 1 else -1) = sg r := by
  have h0 : T = 0 ↔ r = 0 := by
    constructor
    · intro z
      rw [z] at h
      have : k * r = 0 := by rw [← h]; rfl
      rcases Rat.mul_eq_zero.mp this with q | q
      · rw [q] at hk; exact absurd hk (by decide)
      · exact q
    · intro z
      rw [z, Rat.mul_zero] at h
      exact Rat.intCast_inj.mp (by rw [h]; rfl)
  have h1 : 0 < T ↔ 0 < r := by
    have e : (0 < T) ↔ (0 : Rat) < (T : Rat) := by
      have := @Rat.intCast_lt_intCast 0 T
      exact this.symm
    rw [e, h]
    constructor
    · intro z
      by_cases q : r < 0
      · exfalso
        have : k * r < k * 0 := Rat.mul_lt_mul_of_pos_left q hk
        rw [Rat.mul_zero] at this
        exact absurd z (Rat.not_lt.mpr (Rat.le_of_lt this))
      · by_cases q' : r = 0
        · rw [q', Rat.mul_zero] at z; exact absurd z (by decide)
        · grind
    · intro z
      have : k * 0 < k * r := Rat.mul_lt_mul_of_pos_left z hk
      rwa [Rat.mul_zero] at this
  unfold sg
  by_cases c : T = 0
  · rw [if_pos c, if_pos (h0.mp c)]
  · rw [if_neg c, if_neg (fun z => c (h0.mpr z))]
    by_cases d : 0 < T
    · rw [if_pos d, if_pos (h1.mp d)]
    · rw [if_neg d, if_neg (fun z => d (h1.mpr z))]
def crs (ax ay bx by_ cx cy : Rat) : Rat := (bx - ax) * (cy - ay) - (by_ - ay) * (cx - ax)
def detI (a b c d e f g h i : Int) : Int := a * (e * i - f * h) - b * (d * i - f * g) + c * (d * h - e * g)
theorem int_pos_rat {b : Int} (h : 0 < b) : (0 : Rat) < (b : Rat) := (@Rat.intCast_lt_intCast 0 b).mpr h
theorem det_sg (ax ay bx by_ cx cy : Rat) :
    (if detI (hX ax ay) (hY ax ay) (hB ax ay) (hX bx by_) (hY bx by_) (hB bx by_) (hX cx cy) (hY cx cy) (hB cx cy) = 0 then (0 : Int) else if 0 < detI (hX ax ay) (hY ax ay) (hB ax ay) (hX bx by_) (hY bx by_) (hB bx by_) (hX cx cy) (hY cx cy) (hB cx cy) then 1 else -1) = sg (crs ax ay bx by_ cx cy) := by
  have h1 := hX_eq ax ay
  have h2 := hY_eq ax ay
  have h3 := hX_eq bx by_
  have h4 := hY_eq bx by_
  have h5 := hX_eq cx cy
  have h6 := hY_eq cx cy
  have p1 := int_pos_rat (hB_pos ax ay)
  have p2 := int_pos_rat (hB_pos bx by_)
  have p3 := int_pos_rat (hB_pos cx cy)
  refine int_sg (k := (hB ax ay : Rat) * (hB bx by_ : Rat) * (hB cx cy : Rat)) ?_ (Rat.mul_pos (Rat.mul_pos p1 p2) p3)
  unfold detI crs
  simp only [Rat.intCast_add, Rat.intCast_sub, Rat.intCast_mul, h1, h2, h3, h4, h5, h6]
  grind
section
variable {hd : Hd}
@[simp] theorem e_eqii {i j : Int} : eqD (.int i) (.int j) hd = some (.bl (i == j), hd) := by simp [eqD, strsOf, toPy, PyData.eqv]
@[simp] theorem e_neii {i j : Int} : neD (.int i) (.int j) hd = some (.bl (!(i == j)), hd) := by simp [neD, strsOf, toPy, PyData.eqv]
@[simp] theorem e_eqss {x y : Str} : eqD (.str x) (.str y) hd = some (.bl (decide (x = y)), hd) := rfl
@[simp] theorem e_ness {x y : Str} : neD (.str x) (.str y) hd = some (.bl (!decide (x = y)), hd) := rfl
/-- repr of data -/
theorem repr_of {d : D} {p : PyData} (h : toPy hd 8 d = some p) (h1 : p.showable = true) (h2 : pw p ≤ 16000000) : reprD [d] hd = some (.str p.shown, hd) := by
  show (toPy hd 8 d).bind _ = _
  rw [h, Option.bind_some, if_pos ⟨h1, h2⟩]
theorem show_int {i : Int} {n : Nat} [s : Sz i n] (h : n ≤ 1920) : (PyData.int i).showable = true := by
  simp only [PyData.showable, decide_eq_true_eq]
  exact PySem.Flt.log2_lt_of (by decide) (s.mono h)
end
end Dl

namespace Dl
open PySem PySem.Spec PyProof.Rows L2
/-! ## a pot of draws -/
structure Pot (n : Nat) (hd : Hd) (c : Nat) : Prop where
  ex : ∃ o m k : Int, hd[n]? = some (.lst [.int o, .int m, .int k]) ∧ 0 ≤ o ∧ o.natAbs < 2 ^ 1000 ∧ 0 ≤ m ∧ m.natAbs < 2 ^ 62 ∧ 0 ≤ k ∧ k ≤ (c : Int)
/-- all but the pot stays -/
def Kp (n : Nat) (hd hd' : Hd) : Prop := hd.length ≤ hd'.length ∧ ∀ m, m ≠ n → m < hd.length → hd'[m]? = hd[m]?
theorem Kp.refl {n : Nat} {hd : Hd} : Kp n hd hd := ⟨Nat.le_refl _, fun _ _ _ => rfl⟩
theorem Kp.trans {n : Nat} {a b c : Hd} (h : Kp n a b) (k : Kp n b c) : Kp n a c := ⟨Nat.le_trans h.1 k.1, fun m hm hl => (k.2 m hm (Nat.lt_of_lt_of_le hl h.1)).trans (h.2 m hm hl)⟩
theorem Kp.app {n : Nat} {a : Hd} (l : Hd) : Kp n a (a ++ l) := ⟨by simp, fun m _ hl => List.getElem?_append_left hl⟩
theorem Kp.set {n : Nat} {a : Hd} {o : Ob} : Kp n a (a.set n o) := ⟨by simp, fun m hm _ => List.getElem?_set_ne (fun e => hm e.symm)⟩
theorem Pot.app {n c : Nat} {a : Hd} (P : Pot n a c) (l : Hd) : Pot n (a ++ l) c := by
  obtain ⟨o, m, k, h, r⟩ := P.ex
  exact ⟨o, m, k, by rw [List.getElem?_append_left (List.getElem?_eq_some_iff.mp h).1]; exact h, r⟩
theorem Pot.mono {n c d : Nat} {a : Hd} (P : Pot n a c) (h : c ≤ d) : Pot n a d := by
  obtain ⟨o, m, k, e, a1, a2, a3, a4, a5, a6⟩ := P.ex
  exact ⟨o, m, k, e, a1, a2, a3, a4, a5, by omega⟩
theorem Pot.lt {n c : Nat} {a : Hd} (P : Pot n a c) : n < a.length := by
  obtain ⟨o, m, k, h, r⟩ := P.ex
  exact (List.getElem?_eq_some_iff.mp h).1
theorem lsOf_get {n : Nat} {hd : Hd} {ds : List D} (h : hd[n]? = some (.lst ds)) : lsOf hd n = some ds := by unfold lsOf; rw [h]
theorem lsOf_of {n : Nat} {hd : Hd} {ds : List D} (h : lsOf hd n = some ds) : hd[n]? = some (.lst ds) := by
  unfold lsOf at h
  split at h
  · cases h; assumption
  · cases h
theorem Kp.ls {n m : Nat} {a b : Hd} {ds : List D} (h : Kp n a b) (hm : m ≠ n) (e : lsOf a m = some ds) : lsOf b m = some ds := by
  have e' := lsOf_of e
  exact lsOf_get ((h.2 m hm (List.getElem?_eq_some_iff.mp e').1).trans e')
section
variable {env : Ev} {hd : Hd} {a b o i : EM} {d : D}
@[simp] theorem e_gsb : gSb o i d env hd = (o env hd).bind fun p => (i env p.2).bind fun q => match p.1, q.1 with
  | .ref n, .int k => match q.2[n]? with
    | some (.lst ds) => (ixN ds.length k).map fun j => (env, q.2.set n (.lst (ds.set j d)))
    | _ => none
  | _, _ => none := rfl
theorem e_powii {i j : Int} {m : Nat} [s : Sz i m] (h0 : 0 ≤ j) (h1 : j ≤ 100) (h : m ≤ 20000) : powD (.int i) (.int j) hd = some (.int (i ^ j.toNat), hd) := by
  show (if _ then _ else _) = _
  rw [if_pos ⟨h0, h1, s.mono h⟩]
end
theorem fmod_lo {x u : Int} (h : 0 < u) : 0 ≤ x.fmod u := by rw [Int.fmod_eq_emod_of_nonneg _ (by omega)]; exact Int.emod_nonneg _ (by omega)
theorem fmod_hi {x u : Int} (h : 0 < u) : x.fmod u < u := by rw [Int.fmod_eq_emod_of_nonneg _ (by omega)]; exact Int.emod_lt_of_pos _ h
theorem fdiv_nn {x u : Int} (hx : 0 ≤ x) (h : 0 < u) : 0 ≤ x.fdiv u ∧ x.fdiv u ≤ x := by
  rw [Int.fdiv_eq_ediv_of_nonneg _ (by omega)]
  exact ⟨Int.ediv_nonneg hx (by omega), Int.ediv_le_self _ hx⟩
theorem sz_of {x : Int} {n : Nat} (h0 : 0 ≤ x) (h : x < 2 ^ n) : Sz x n := ⟨by
  have e : ((x.natAbs : Nat) : Int) = x := by omega
  have : ((x.natAbs : Nat) : Int) < ((2 ^ n : Nat) : Int) := by rw [e]; simpa using h
  omega⟩
end Dl

namespace Dl
open PySem PySem.Spec PyProof.Rows L2
/-! ## more of evaluation -/
section
variable {env : Ev} {hd : Hd} {d e : D} {ds es : List D}
@[simp] theorem e_max3 {i j k : Int} : maxD [.int i, .int j, .int k] hd = some (.int (if j > i then (if k > j then k else j) else (if k > i then k else i)), hd) := rfl
theorem e_addtt (h : (decide (ds.length ≠ 0) && decide (es.length ≠ 0) && decide (ds.length + es.length ≤ 1000000)) = true) : addD (.tup ds) (.tup es) hd = some (.tup (ds ++ es), hd) := by
  simp only [Bool.and_eq_true, decide_eq_true_eq] at h
  show (if _ then _ else _) = _
  rw [if_pos ⟨h.1.1, h.1.2, h.2⟩]
theorem e_maxr {n : Nat} {i : Int} {is : List Int} (hl : lsOf hd n = some ((i :: is).map .int)) : maxD [.ref n] hd = some (.int (maxI i is), hd) := by
  have h : intsOf ((i :: is).map D.int) = some (i :: is) := by
    clear hl
    generalize i :: is = l
    induction l with
    | nil => rfl
    | cons x l ih => simp [intsOf, ih]
  show ((lsOf hd n).bind _) = _
  rw [hl, Option.bind_some, h]
theorem maxI_le : ∀ (ms : List Int) (m b : Int), maxI m ms ≤ b → m ≤ b ∧ ∀ y ∈ ms, y ≤ b := by
  intro ms m b h
  have g := maxI_ge ms m
  exact ⟨Int.le_trans g.1 h, fun y hy => Int.le_trans (g.2.2 y hy) h⟩
/-- the comprehension of a plain tuple of ints -/
theorem comp_abs {v : Nat} : ∀ (is : List Int) (hd : Hd) (env : Ev), v < env.length →
    compL [] (gNm v) bYes (mCall absD (mCons (mVar v) mNil)) env (is.map .int) hd = some (is.map fun i => .int (if i < 0 then -i else i), hd)
  | [], hd, env, _ => by simp
  | i :: is, hd, env, h => by
    rw [List.map_cons, e_comp1 keep_nil]
    simp only [e_gnm, Option.bind_some, e_yes, if_true, e_call, e_cons, e_var, e_nil, List.getElem?_set_self h, e_abs]
    rw [comp_abs is hd env h]
    rfl
theorem Bq.mono {r : Rat} {n m : Nat} (b : Bq r n) (h : n ≤ m) : Bq r m := ⟨Nat.lt_of_lt_of_le b.num (Nat.pow_le_pow_right (by decide) h), Nat.lt_of_lt_of_le b.den (Nat.pow_le_pow_right (by decide) h)⟩
theorem range3 : rangeL 0 3 = [.int 0, .int 1, .int 2] := rfl
end
/-! ## whole coordinates -/
theorem hG_one {x y : Rat} (h : hB x y = 1) : x.den = 1 ∧ y.den = 1 := by
  have h1 : x.den / hG x y * y.den = 1 := by
    have := h
    unfold hB at this
    exact_mod_cast this
  have h2 : y.den = 1 := Nat.eq_one_of_mul_eq_one_left h1
  have h3 : y.den / hG x y * x.den = 1 := by
    have := hB_eq x y
    rw [h] at this
    exact_mod_cast this.symm
  exact ⟨Nat.eq_one_of_mul_eq_one_left h3, h2⟩
theorem hp_int (i j : Int) : hp (i : Rat) (j : Rat) = .tup [.int i, .int j, .int 1] := by
  unfold hp hX hY hB hG
  simp
theorem whole_of {x y : Rat} (h : hB x y = 1) : x = (hX x y : Rat) ∧ y = (hY x y : Rat) := by
  have h1 := hX_eq x y
  have h2 := hY_eq x y
  rw [h] at h1 h2
  constructor
  · rw [h1]; grind
  · rw [h2]; grind
theorem hp_whole {x y : Rat} (h : hB x y = 1) : hp x y = .tup [.int (hX x y), .int (hY x y), .int 1] := by
  unfold hp; rw [h]
def half : Rat := ⟨1, 2, by decide, by decide⟩
instance bqHalf : Bq half 2 := ⟨by decide, by decide⟩
theorem fr_half : D.tup [.int 1, .int 2] = fr half := rfl
theorem half_two : half + half = 1 := by decide +kernel
theorem half_nn : 0 ≤ half := by decide +kernel
theorem half_le : half ≤ 1 := by decide +kernel
theorem sg_neg (r : Rat) : sg (-r) = -sg r := by
  unfold sg
  by_cases h : r = 0
  · subst h; simp
  · by_cases h1 : 0 < r
    · have a : ¬ (-r = 0) := by grind
      have b : ¬ (0 < -r) := by grind
      simp [h, h1, a, b]
    · have a : ¬ (-r = 0) := by grind
      have b : 0 < -r := by grind
      simp [h, h1, a, b]
theorem sg_sz (r : Rat) : Sz (sg r) 1 := by
  constructor
  unfold sg
  split
  · decide
  · split <;> decide
theorem sg_num (r : Rat) : (if decide (0 < r.num) = true then (1 : Int) else 0) - (if decide (r.num < 0) = true then (1 : Int) else 0) = sg r := by
  unfold sg
  have h0 : 0 ≤ r ↔ 0 ≤ r.num := Rat.num_nonneg.symm
  have h1 : 0 ≤ -r ↔ 0 ≤ (-r).num := Rat.num_nonneg.symm
  rw [Rat.neg_num] at h1
  by_cases a : 0 ≤ r.num
  · by_cases b : 0 ≤ -r.num
    · have e : r.num = 0 := by omega
      have z : r = 0 := by have := h0.mpr a; have := h1.mpr b; grind
      simp [e, z]
    · have z : ¬ r = 0 := fun z => by subst z; simp at b
      have p : 0 < r := by have := h0.mpr a; grind
      simp [z, p, show 0 < r.num by omega, show ¬ r.num < 0 by omega]
  · have z : ¬ r = 0 := fun z => by subst z; simp at a
    have p : ¬ 0 < r := fun p => a (h0.mp (by grind))
    simp [z, p, show ¬ 0 < r.num by omega, show r.num < 0 by omega]
end Dl

namespace ringsorways_k01_whole_sides_of_lines
open PySem PySem.Spec PyProof.Rows L2 Dl
def topS (i : Nat) : Stmt := PySem.Challenge.pw_ringsorways_k01_whole_sides_of_lines.main.body.getD i (.Pass ⟨0, 0, 0, 0⟩)
abbrev s__law_pot : Stmt := topS 20
abbrev s__law_cells : Stmt := topS 23
abbrev s_turn : Stmt := topS 7
abbrev s_is_whole_number : Stmt := topS 10
abbrev s_are_integers : Stmt := topS 11
abbrev s_is_point : Stmt := topS 14
abbrev s_check_points : Stmt := topS 18
abbrev s_side : Stmt := topS 16
abbrev s_point_at : Stmt := topS 6
abbrev s_point_between : Stmt := topS 8
abbrev s_is_fraction : Stmt := topS 12
abbrev s_is_share : Stmt := topS 13
abbrev s_between : Stmt := topS 17
abbrev s__law_frac_common : Stmt := topS 24
abbrev s__law_point_told : Stmt := topS 29
abbrev s__law_frac : Stmt := topS 25
abbrev s__law_frac_less : Stmt := topS 27
abbrev s__law_point_less : Stmt := topS 30
abbrev s__law_frac_times : Stmt := topS 28
abbrev s__law_plane_twice : Stmt := topS 31
abbrev s__law_plane_side : Stmt := topS 32
abbrev s__law_take : Stmt := topS 21
abbrev s__law_of : Stmt := topS 22
abbrev s__law_any_point : Stmt := topS 33
abbrev s__law_frac_plus : Stmt := topS 26
abbrev s__law_gone : Stmt := topS 34
abbrev s__law_three : Stmt := topS 35
abbrev s__law_right : Stmt := topS 36
abbrev s_law : Stmt := topS 37
abbrev N__law_pot : List Str := ["script", "place", "cell", "own", "small"]
theorem sc__law_pot : FnScope N__law_pot ["script", "place"] (defScope s__law_pot) := ⟨rfl, rfl, rfl, by decide +kernel, rfl, by decide +kernel, by decide +kernel⟩
abbrev N__law_cells : List Str := ["script", "most"]
theorem sc__law_cells : FnScope N__law_cells ["script", "most"] (defScope s__law_cells) := ⟨rfl, rfl, rfl, by decide +kernel, rfl, by decide +kernel, by decide +kernel⟩
abbrev N_turn : List Str := ["a", "b", "c", "total"]
theorem sc_turn : FnScope N_turn ["a", "b", "c"] (defScope s_turn) := ⟨rfl, rfl, rfl, by decide +kernel, rfl, by decide +kernel, by decide +kernel⟩
abbrev N_is_whole_number : List Str := ["value"]
theorem sc_is_whole_number : FnScope N_is_whole_number ["value"] (defScope s_is_whole_number) := ⟨rfl, rfl, rfl, by decide +kernel, rfl, by decide +kernel, by decide +kernel⟩
abbrev N_are_integers : List Str := ["value", "many", "part"]
theorem sc_are_integers : FnScope N_are_integers ["value", "many"] (defScope s_are_integers) := ⟨rfl, rfl, rfl, by decide +kernel, rfl, by decide +kernel, by decide +kernel⟩
abbrev N_is_point : List Str := ["value"]
theorem sc_is_point : FnScope N_is_point ["value"] (defScope s_is_point) := ⟨rfl, rfl, rfl, by decide +kernel, rfl, by decide +kernel, by decide +kernel⟩
abbrev N_check_points : List Str := ["values", "value"]
theorem sc_check_points : FnScope N_check_points ["values"] (defScope s_check_points) := ⟨rfl, rfl, rfl, by decide +kernel, rfl, by decide +kernel, by decide +kernel⟩
abbrev N_side : List Str := ["a", "b", "c"]
theorem sc_side : FnScope N_side ["a", "b", "c"] (defScope s_side) := ⟨rfl, rfl, rfl, by decide +kernel, rfl, by decide +kernel, by decide +kernel⟩
abbrev N_point_at : List Str := ["x", "y", "bottom", "common"]
theorem sc_point_at : FnScope N_point_at ["x", "y", "bottom"] (defScope s_point_at) := ⟨rfl, rfl, rfl, by decide +kernel, rfl, by decide +kernel, by decide +kernel⟩
abbrev N_point_between : List Str := ["a", "b", "share", "behind", "ahead"]
theorem sc_point_between : FnScope N_point_between ["a", "b", "share"] (defScope s_point_between) := ⟨rfl, rfl, rfl, by decide +kernel, rfl, by decide +kernel, by decide +kernel⟩
abbrev N_is_fraction : List Str := ["value"]
theorem sc_is_fraction : FnScope N_is_fraction ["value"] (defScope s_is_fraction) := ⟨rfl, rfl, rfl, by decide +kernel, rfl, by decide +kernel, by decide +kernel⟩
abbrev N_is_share : List Str := ["value"]
theorem sc_is_share : FnScope N_is_share ["value"] (defScope s_is_share) := ⟨rfl, rfl, rfl, by decide +kernel, rfl, by decide +kernel, by decide +kernel⟩
abbrev N_between : List Str := ["a", "b", "share"]
theorem sc_between : FnScope N_between ["a", "b", "share"] (defScope s_between) := ⟨rfl, rfl, rfl, by decide +kernel, rfl, by decide +kernel, by decide +kernel⟩
abbrev N__law_frac_common : List Str := ["one", "other"]
theorem sc__law_frac_common : FnScope N__law_frac_common ["one", "other"] (defScope s__law_frac_common) := ⟨rfl, rfl, rfl, by decide +kernel, rfl, by decide +kernel, by decide +kernel⟩
abbrev N__law_point_told : List Str := ["point", "by", "x", "low", "y", "high"]
theorem sc__law_point_told : FnScope N__law_point_told ["point"] (defScope s__law_point_told) := ⟨rfl, rfl, rfl, by decide +kernel, rfl, by decide +kernel, by decide +kernel⟩
abbrev N__law_frac : List Str := ["top", "bottom", "by"]
theorem sc__law_frac : FnScope N__law_frac ["top", "bottom"] (defScope s__law_frac) := ⟨rfl, rfl, rfl, by decide +kernel, rfl, by decide +kernel, by decide +kernel⟩
abbrev N__law_frac_less : List Str := ["one", "other"]
theorem sc__law_frac_less : FnScope N__law_frac_less ["one", "other"] (defScope s__law_frac_less) := ⟨rfl, rfl, rfl, by decide +kernel, rfl, by decide +kernel, by decide +kernel⟩
abbrev N__law_point_less : List Str := ["one", "other"]
theorem sc__law_point_less : FnScope N__law_point_less ["one", "other"] (defScope s__law_point_less) := ⟨rfl, rfl, rfl, by decide +kernel, rfl, by decide +kernel, by decide +kernel⟩
abbrev N__law_frac_times : List Str := ["one", "other"]
theorem sc__law_frac_times : FnScope N__law_frac_times ["one", "other"] (defScope s__law_frac_times) := ⟨rfl, rfl, rfl, by decide +kernel, rfl, by decide +kernel, by decide +kernel⟩
abbrev N__law_plane_twice : List Str := ["one", "other"]
theorem sc__law_plane_twice : FnScope N__law_plane_twice ["one", "other"] (defScope s__law_plane_twice) := ⟨rfl, rfl, rfl, by decide +kernel, rfl, by decide +kernel, by decide +kernel⟩
abbrev N__law_plane_side : List Str := ["a", "b", "c", "number"]
theorem sc__law_plane_side : FnScope N__law_plane_side ["a", "b", "c"] (defScope s__law_plane_side) := ⟨rfl, rfl, rfl, by decide +kernel, rfl, by decide +kernel, by decide +kernel⟩
abbrev N__law_take : List Str := ["pot", "upto", "prime", "blend", "digit"]
theorem sc__law_take : FnScope N__law_take ["pot", "upto"] (defScope s__law_take) := ⟨rfl, rfl, rfl, by decide +kernel, rfl, by decide +kernel, by decide +kernel⟩
abbrev N__law_of : List Str := ["pot", "some"]
theorem sc__law_of : FnScope N__law_of ["pot", "some"] (defScope s__law_of) := ⟨rfl, rfl, rfl, by decide +kernel, rfl, by decide +kernel, by decide +kernel⟩
abbrev N__law_any_point : List Str := ["pot", "far", "low", "high"]
theorem sc__law_any_point : FnScope N__law_any_point ["pot"] (defScope s__law_any_point) := ⟨rfl, rfl, rfl, by decide +kernel, rfl, by decide +kernel, by decide +kernel⟩
abbrev N__law_frac_plus : List Str := ["one", "other"]
theorem sc__law_frac_plus : FnScope N__law_frac_plus ["one", "other"] (defScope s__law_frac_plus) := ⟨rfl, rfl, rfl, by decide +kernel, rfl, by decide +kernel, by decide +kernel⟩
abbrev N__law_gone : List Str := ["point", "way", "share", "here", "more"]
theorem sc__law_gone : FnScope N__law_gone ["point", "way", "share"] (defScope s__law_gone) := ⟨rfl, rfl, rfl, by decide +kernel, rfl, by decide +kernel, by decide +kernel⟩
abbrev N__law_three : List Str := ["pot", "way", "a", "b", "c", "share", "spot", "lap", "number"]
theorem sc__law_three : FnScope N__law_three ["pot"] (defScope s__law_three) := ⟨rfl, rfl, rfl, by decide +kernel, rfl, by decide +kernel, by decide +kernel⟩
abbrev N__law_right : List Str := ["pot", "own", "due", "far", "a", "b", "c", "point", "number"]
theorem sc__law_right : FnScope N__law_right ["pot"] (defScope s__law_right) := ⟨rfl, rfl, rfl, by decide +kernel, rfl, by decide +kernel, by decide +kernel⟩
abbrev N_law : List Str := ["script", "place"]
theorem sc_law : FnScope N_law ["script"] (defScope s_law) := ⟨rfl, rfl, rfl, by decide +kernel, rfl, by decide +kernel, by decide +kernel⟩
/-! ### names -/
structure Nms (mg : Str → Option Value) : Prop where
  n_abs : mg "abs" = none
  n_all : mg "all" = none
  n_bool : mg "bool" = none
  n_int : mg "int" = none
  n_isinstance : mg "isinstance" = none
  n_len : mg "len" = none
  n_list : mg "list" = none
  n_max : mg "max" = none
  n_min : mg "min" = none
  n_range : mg "range" = none
  n_repr : mg "repr" = none
  n_sum : mg "sum" = none
  n_tuple : mg "tuple" = none
  n_zip : mg "zip" = none
  g_gcd : mg "gcd" = some (.builtin "math.gcd")

noncomputable  def F__law_pot : SM := (mSeq (mAsg (mIf (bCmp (mBin (cmpI fun i j => decide (i < j)) (mVar 1) (mCall lenD (mCons (mVar 0) mNil)))) (mBin idxD (mVar 0) (mVar 1)) (mBin addD (mBin addD (mBin modD (mCall sumD (mCons (mSl (mVar 0) oNone (oSome (mC (.int 1)))) mNil)) (mC (.int 1000003))) (mBin mulD (mC (.int 1102)) (mVar 1))) (mC (.int 480)))) (gNm 2)) (mSeq (mAsg (mBin mulD (mBin modD (mCall intD (mCons (mCall absD (mCons (mVar 2) mNil)) mNil)) (mBin powD (mBin powD (mC (.int 10)) (mC (.int 60))) (mC (.int 5)))) (mCall intD (mCons (mBin (cmpI fun i j => decide (j ≤ i)) (mCall absD (mCons (mVar 2) mNil)) (mBin powD (mC (.int 10)) (mC (.int 18)))) mNil))) (gNm 3)) (mSeq (mAsg (mBin modD (mCall intD (mCons (mVar 2) mNil)) (mC (.int 2305843009213693951))) (gNm 4)) (mRet (mLst (mCons (mVar 3) (mCons (mBin modD (mCall intD (mCons (mBin addD (mBin addD (mBin mulD (mVar 4) (mC (.int 70950))) (mBin mulD (mBin mulD (mC (.int 7296)) (mVar 1)) (mVar 1))) (mC (.int 390))) mNil)) (mC (.int 2305843009213693921))) (mCons (mC (.int 0)) mNil))))))))
noncomputable def D__law_pot : GN := mFn 2 3 F__law_pot
noncomputable  def F__law_cells : SM := (mRet (mLstRg (rg1 (mCall maxD (mCons (mC (.int 1)) (mCons (mCall minD (mCons (mVar 1) (mCons (mCall lenD (mCons (mVar 0) mNil)) mNil))) mNil))))))
noncomputable def D__law_cells : GN := mFn 2 0 F__law_cells
noncomputable  def F_turn : SM := (mSeq (mAsg (mBin addD (mBin subD (mBin mulD (mBin idxD (mVar 0) (mC (.int 0))) (mBin subD (mBin mulD (mBin idxD (mVar 1) (mC (.int 1))) (mBin idxD (mVar 2) (mC (.int 2)))) (mBin mulD (mBin idxD (mVar 1) (mC (.int 2))) (mBin idxD (mVar 2) (mC (.int 1)))))) (mBin mulD (mBin idxD (mVar 0) (mC (.int 1))) (mBin subD (mBin mulD (mBin idxD (mVar 1) (mC (.int 0))) (mBin idxD (mVar 2) (mC (.int 2)))) (mBin mulD (mBin idxD (mVar 1) (mC (.int 2))) (mBin idxD (mVar 2) (mC (.int 0))))))) (mBin mulD (mBin idxD (mVar 0) (mC (.int 2))) (mBin subD (mBin mulD (mBin idxD (mVar 1) (mC (.int 0))) (mBin idxD (mVar 2) (mC (.int 1)))) (mBin mulD (mBin idxD (mVar 1) (mC (.int 1))) (mBin idxD (mVar 2) (mC (.int 0))))))) (gNm 3)) (mSeq (mIfS (bCmp (mBin eqD (mVar 3) (mC (.int 0)))) (mRet (mC (.int 0))) mSkip) (mRet (mIf (bCmp (mBin (cmpI fun i j => decide (j < i)) (mVar 3) (mC (.int 0)))) (mC (.int 1)) (mUn negD (mC (.int 1)))))))
noncomputable def D_turn : GN := mFn 3 1 F_turn
noncomputable  def F_is_whole_number : SM := (mRet (mAnd (mCall isiD (mCons (mVar 0) (mCons (mC (.raw (.ty "int"))) mNil))) (mNot (mCall isiD (mCons (mVar 0) (mCons (mC (.raw (.ty "bool"))) mNil))))))
noncomputable def D_is_whole_number : GN := mFn 1 0 F_is_whole_number
noncomputable  def F_are_integers : SM := (mRet (mAnd (mCall isiD (mCons (mVar 0) (mCons (mC (.raw (.ty "tuple"))) mNil))) (mAnd (mBin eqD (mCall lenD (mCons (mVar 0) mNil)) (mVar 1)) (mCall allD (mCons (mComp (iSeq (mVar 0)) (gNm 2) bYes (mCall D_is_whole_number (mCons (mVar 2) mNil)) [2]) mNil)))))
noncomputable def D_are_integers : GN := mFn 2 1 F_are_integers
noncomputable  def F_is_point : SM := (mRet (mAnd (mCall D_are_integers (mCons (mVar 0) (mCons (mC (.int 3)) mNil))) (mAnd (mBin (cmpI fun i j => decide (j ≤ i)) (mBin idxD (mVar 0) (mC (.int 2))) (mC (.int 1))) (mBin eqD (mCall gcdD (mCons (mBin idxD (mVar 0) (mC (.int 0))) (mCons (mBin idxD (mVar 0) (mC (.int 1))) (mCons (mBin idxD (mVar 0) (mC (.int 2))) mNil)))) (mC (.int 1))))))
noncomputable def D_is_point : GN := mFn 1 0 F_is_point
noncomputable  def F_check_points : SM := (mFor (iSeq (mVar 0)) (gNm 1) (mIfS (bNot (bTru (mCall D_is_point (mCons (mVar 1) mNil)))) mNone mSkip))
noncomputable def D_check_points : GN := mFn 1 1 F_check_points
noncomputable  def F_side : SM := (mSeq (mExpr (mCall D_check_points (mCons (mTup (mCons (mVar 0) (mCons (mVar 1) (mCons (mVar 2) mNil)))) mNil))) (mRet (mCall D_turn (mCons (mVar 0) (mCons (mVar 1) (mCons (mVar 2) mNil))))))
noncomputable def D_side : GN := mFn 3 0 F_side
noncomputable  def F_point_at : SM := (mSeq (mAsg (mCall gcdD (mCons (mVar 0) (mCons (mVar 1) (mCons (mVar 2) mNil)))) (gNm 3)) (mSeq (mIfS (bCmp (mBin (cmpI fun i j => decide (i < j)) (mVar 2) (mC (.int 0)))) (mAsg (mUn negD (mVar 3)) (gNm 3)) mSkip) (mRet (mTup (mCons (mBin divD (mVar 0) (mVar 3)) (mCons (mBin divD (mVar 1) (mVar 3)) (mCons (mBin divD (mVar 2) (mVar 3)) mNil)))))))
noncomputable def D_point_at : GN := mFn 3 1 F_point_at
noncomputable  def F_point_between : SM := (mSeq (mAsg (mBin mulD (mBin idxD (mVar 2) (mC (.int 0))) (mBin idxD (mVar 0) (mC (.int 2)))) (gNm 3)) (mSeq (mAsg (mBin mulD (mBin subD (mBin idxD (mVar 2) (mC (.int 1))) (mBin idxD (mVar 2) (mC (.int 0)))) (mBin idxD (mVar 1) (mC (.int 2)))) (gNm 4)) (mRet (mCall D_point_at (mCons (mBin addD (mBin mulD (mBin idxD (mVar 0) (mC (.int 0))) (mVar 4)) (mBin mulD (mBin idxD (mVar 1) (mC (.int 0))) (mVar 3))) (mCons (mBin addD (mBin mulD (mBin idxD (mVar 0) (mC (.int 1))) (mVar 4)) (mBin mulD (mBin idxD (mVar 1) (mC (.int 1))) (mVar 3))) (mCons (mBin mulD (mBin mulD (mBin idxD (mVar 0) (mC (.int 2))) (mBin idxD (mVar 1) (mC (.int 2)))) (mBin idxD (mVar 2) (mC (.int 1)))) mNil)))))))
noncomputable def D_point_between : GN := mFn 3 2 F_point_between
noncomputable  def F_is_fraction : SM := (mRet (mAnd (mCall D_are_integers (mCons (mVar 0) (mCons (mC (.int 2)) mNil))) (mAnd (mBin (cmpI fun i j => decide (j ≤ i)) (mBin idxD (mVar 0) (mC (.int 1))) (mC (.int 1))) (mBin eqD (mCall gcdD (mCons (mBin idxD (mVar 0) (mC (.int 0))) (mCons (mBin idxD (mVar 0) (mC (.int 1))) mNil))) (mC (.int 1))))))
noncomputable def D_is_fraction : GN := mFn 1 0 F_is_fraction
noncomputable  def F_is_share : SM := (mRet (mAnd (mCall D_is_fraction (mCons (mVar 0) mNil)) (mChain (cmpI fun i j => decide (i ≤ j)) (cmpI fun i j => decide (i ≤ j)) (mC (.int 0)) (mBin idxD (mVar 0) (mC (.int 0))) (mBin idxD (mVar 0) (mC (.int 1))))))
noncomputable def D_is_share : GN := mFn 1 0 F_is_share
noncomputable  def F_between : SM := (mSeq (mExpr (mCall D_check_points (mCons (mTup (mCons (mVar 0) (mCons (mVar 1) mNil))) mNil))) (mSeq (mIfS (bNot (bTru (mCall D_is_share (mCons (mVar 2) mNil)))) mNone mSkip) (mRet (mCall D_point_between (mCons (mVar 0) (mCons (mVar 1) (mCons (mVar 2) mNil)))))))
noncomputable def D_between : GN := mFn 3 0 F_between
def fuel__law_frac_common : Ev → Hd → Nat := fuelE
noncomputable  def F__law_frac_common : SM := (mSeq (mPar 0 1 (mCons (mCall absD (mCons (mVar 0) mNil)) (mCons (mCall absD (mCons (mVar 1) mNil)) mNil))) (mSeq (mWhile fuel__law_frac_common (bCmp (mBin (cmpI fun i j => decide (j < i)) (mVar 1) (mC (.int 0)))) (mPar 0 1 (mCons (mVar 1) (mCons (mBin modD (mCall intD (mCons (mVar 0) mNil)) (mVar 1)) mNil)))) (mRet (mVar 0))))
noncomputable def D__law_frac_common : GN := mFn 2 0 F__law_frac_common
noncomputable  def F__law_point_told : SM := (mSeq (mAsg (mVar 0) (gTp (gsCons (gTp (gsCons (gNm 2) (gsCons (gNm 3) gsNil))) (gsCons (gTp (gsCons (gNm 4) (gsCons (gNm 5) gsNil))) gsNil)))) (mSeq (mAsg (mCall D__law_frac_common (mCons (mVar 3) (mCons (mVar 5) mNil))) (gNm 1)) (mRet (mTup (mCons (mBin mulD (mVar 2) (mBin divD (mVar 5) (mVar 1))) (mCons (mBin mulD (mVar 4) (mBin divD (mVar 3) (mVar 1))) (mCons (mBin mulD (mBin divD (mVar 3) (mVar 1)) (mVar 5)) mNil)))))))
noncomputable def D__law_point_told : GN := mFn 1 5 F__law_point_told
noncomputable  def F__law_frac : SM := (mSeq (mAsg (mCall D__law_frac_common (mCons (mVar 0) (mCons (mVar 1) mNil))) (gNm 2)) (mSeq (mAsg (mIf (bCmp (mBin (cmpI fun i j => decide (j < i)) (mVar 1) (mC (.int 0)))) (mVar 2) (mUn negD (mVar 2))) (gNm 2)) (mRet (mTup (mCons (mBin divD (mVar 0) (mVar 2)) (mCons (mBin divD (mVar 1) (mVar 2)) mNil))))))
noncomputable def D__law_frac : GN := mFn 2 1 F__law_frac
noncomputable  def F__law_frac_less : SM := (mRet (mCall D__law_frac (mCons (mBin subD (mBin mulD (mBin idxD (mVar 0) (mC (.int 0))) (mBin idxD (mVar 1) (mC (.int 1)))) (mBin mulD (mBin idxD (mVar 1) (mC (.int 0))) (mBin idxD (mVar 0) (mC (.int 1))))) (mCons (mBin mulD (mBin idxD (mVar 0) (mC (.int 1))) (mBin idxD (mVar 1) (mC (.int 1)))) mNil))))
noncomputable def D__law_frac_less : GN := mFn 2 0 F__law_frac_less
noncomputable  def F__law_point_less : SM := (mRet (mTup (mCons (mCall D__law_frac_less (mCons (mBin idxD (mVar 0) (mC (.int 0))) (mCons (mBin idxD (mVar 1) (mC (.int 0))) mNil))) (mCons (mCall D__law_frac_less (mCons (mBin idxD (mVar 0) (mC (.int 1))) (mCons (mBin idxD (mVar 1) (mC (.int 1))) mNil))) mNil))))
noncomputable def D__law_point_less : GN := mFn 2 0 F__law_point_less
noncomputable  def F__law_frac_times : SM := (mRet (mCall D__law_frac (mCons (mBin mulD (mBin idxD (mVar 0) (mC (.int 0))) (mBin idxD (mVar 1) (mC (.int 0)))) (mCons (mBin mulD (mBin idxD (mVar 0) (mC (.int 1))) (mBin idxD (mVar 1) (mC (.int 1)))) mNil))))
noncomputable def D__law_frac_times : GN := mFn 2 0 F__law_frac_times
noncomputable  def F__law_plane_twice : SM := (mRet (mCall D__law_frac_less (mCons (mCall D__law_frac_times (mCons (mBin idxD (mVar 0) (mC (.int 0))) (mCons (mBin idxD (mVar 1) (mC (.int 1))) mNil))) (mCons (mCall D__law_frac_times (mCons (mBin idxD (mVar 0) (mC (.int 1))) (mCons (mBin idxD (mVar 1) (mC (.int 0))) mNil))) mNil))))
noncomputable def D__law_plane_twice : GN := mFn 2 0 F__law_plane_twice
noncomputable  def F__law_plane_side : SM := (mSeq (mAsg (mBin idxD (mCall D__law_plane_twice (mCons (mCall D__law_point_less (mCons (mVar 1) (mCons (mVar 0) mNil))) (mCons (mCall D__law_point_less (mCons (mVar 2) (mCons (mVar 0) mNil))) mNil))) (mC (.int 0))) (gNm 3)) (mRet (mBin subD (mCall intD (mCons (mBin (cmpI fun i j => decide (j < i)) (mVar 3) (mC (.int 0))) mNil)) (mCall intD (mCons (mBin (cmpI fun i j => decide (i < j)) (mVar 3) (mC (.int 0))) mNil)))))
noncomputable def D__law_plane_side : GN := mFn 3 1 F__law_plane_side
noncomputable  def F__law_take : SM := (mSeq (mIfS (bCmp (mBin (cmpI fun i j => decide (j < i)) (mBin idxD (mVar 0) (mC (.int 0))) (mC (.int 0)))) (mSeq (mAsg (mBin modD (mCall intD (mCons (mBin idxD (mVar 0) (mC (.int 0))) mNil)) (mVar 1)) (gNm 4)) (mSeq (mAsg (mBin divD (mBin idxD (mVar 0) (mC (.int 0))) (mVar 1)) (gSb (mVar 0) (mC (.int 0)))) (mRet (mVar 4)))) mSkip) (mSeq (mAsg (mBin addD (mBin idxD (mVar 0) (mC (.int 2))) (mC (.int 1))) (gSb (mVar 0) (mC (.int 2)))) (mSeq (mAsg (mBin idxD (mLst (mCons (mC (.int 2147483647)) (mCons (mC (.int 2147483629)) (mCons (mC (.int 2147483587)) (mCons (mC (.int 2147483579)) (mCons (mC (.int 2147483563)) mNil)))))) (mBin modD (mCall intD (mCons (mBin idxD (mVar 0) (mC (.int 2))) mNil)) (mC (.int 5)))) (gNm 2)) (mSeq (mAsg (mBin modD (mCall intD (mCons (mBin powD (mCall intD (mCons (mBin addD (mBin addD (mBin idxD (mVar 0) (mC (.int 1))) (mBin mulD (mBin mulD (mC (.int 97752)) (mBin idxD (mVar 0) (mC (.int 2)))) (mBin idxD (mVar 0) (mC (.int 2))))) (mC (.int 602))) mNil)) (mC (.int 3))) mNil)) (mVar 2)) (gNm 3)) (mSeq (mAsg (mBin modD (mCall intD (mCons (mBin mulD (mVar 3) (mBin addD (mBin modD (mCall intD (mCons (mVar 3) mNil)) (mC (.int 10178))) (mBin mulD (mC (.int 126)) (mBin idxD (mVar 0) (mC (.int 2)))))) mNil)) (mC (.int 2305843009213693907))) (gNm 3)) (mRet (mBin modD (mCall intD (mCons (mBin divD (mVar 3) (mC (.int 167))) mNil)) (mVar 1))))))))
noncomputable def D__law_take : GN := mFn 2 3 F__law_take
noncomputable  def F__law_of : SM := (mRet (mBin idxD (mVar 1) (mCall D__law_take (mCons (mVar 0) (mCons (mCall lenD (mCons (mVar 1) mNil)) mNil)))))
noncomputable def D__law_of : GN := mFn 2 0 F__law_of
noncomputable  def F__law_any_point : SM := (mSeq (mAsg (mCall D__law_of (mCons (mVar 0) (mCons (mLst (mCons (mC (.int 3)) (mCons (mC (.int 9)) (mCons (mC (.int 9)) (mCons (mC (.int 1000)) (mCons (mBin powD (mC (.int 10)) (mC (.int 6))) mNil)))))) mNil))) (gNm 1)) (mSeq (mPar 2 3 (mCons (mCall D__law_of (mCons (mVar 0) (mCons (mLst (mCons (mC (.int 1)) (mCons (mC (.int 1)) (mCons (mC (.int 2)) (mCons (mC (.int 3)) (mCons (mC (.int 7)) mNil)))))) mNil))) (mCons (mCall D__law_of (mCons (mVar 0) (mCons (mLst (mCons (mC (.int 1)) (mCons (mC (.int 1)) (mCons (mC (.int 1)) (mCons (mC (.int 2)) (mCons (mC (.int 5)) (mCons (mC (.int 10007)) mNil))))))) mNil))) mNil))) (mRet (mTup (mCons (mCall D__law_frac (mCons (mBin subD (mCall D__law_take (mCons (mVar 0) (mCons (mBin addD (mBin mulD (mC (.int 2)) (mVar 1)) (mC (.int 1))) mNil))) (mVar 1)) (mCons (mVar 2) mNil))) (mCons (mCall D__law_frac (mCons (mBin subD (mCall D__law_take (mCons (mVar 0) (mCons (mBin addD (mBin mulD (mC (.int 2)) (mVar 1)) (mC (.int 1))) mNil))) (mVar 1)) (mCons (mVar 3) mNil))) mNil))))))
noncomputable def D__law_any_point : GN := mFn 1 3 F__law_any_point
noncomputable  def F__law_frac_plus : SM := (mRet (mCall D__law_frac (mCons (mBin addD (mBin mulD (mBin idxD (mVar 0) (mC (.int 0))) (mBin idxD (mVar 1) (mC (.int 1)))) (mBin mulD (mBin idxD (mVar 1) (mC (.int 0))) (mBin idxD (mVar 0) (mC (.int 1))))) (mCons (mBin mulD (mBin idxD (mVar 0) (mC (.int 1))) (mBin idxD (mVar 1) (mC (.int 1)))) mNil))))
noncomputable def D__law_frac_plus : GN := mFn 2 0 F__law_frac_plus
noncomputable  def F__law_gone : SM := (mRet (mCall tupleD (mCons (mComp (iZipM (mCons (mVar 0) (mCons (mVar 1) mNil))) (gTp (gsCons (gNm 3) (gsCons (gNm 4) gsNil))) bYes (mCall D__law_frac_plus (mCons (mVar 3) (mCons (mCall D__law_frac_times (mCons (mVar 2) (mCons (mVar 4) mNil))) mNil))) [3, 4]) mNil)))
noncomputable def D__law_gone : GN := mFn 3 2 F__law_gone
noncomputable  def F__law_three : SM := (mSeq (mAsg (mComp (iRange1 (mCons (mC (.int 3)) mNil)) (gNm 7) bYes (mCall D__law_any_point (mCons (mVar 0) mNil)) [7]) (gTp (gsCons (gNm 2) (gsCons (gNm 3) (gsCons (gNm 4) gsNil))))) (mSeq (mAsg (mCall D__law_take (mCons (mVar 0) (mCons (mC (.int 6)) mNil))) (gNm 1)) (mSeq (mIfS (bCmp (mBin eqD (mVar 1) (mC (.int 0)))) (mRet (mTup (mCons (mVar 2) (mCons (mVar 2) (mCons (mVar 4) mNil))))) mSkip) (mSeq (mIfS (bCmp (mBin eqD (mVar 1) (mC (.int 1)))) (mRet (mTup (mCons (mVar 2) (mCons (mVar 3) (mCons (mCall D__law_of (mCons (mVar 0) (mCons (mLst (mCons (mVar 2) (mCons (mVar 3) mNil))) mNil))) mNil))))) mSkip) (mSeq (mIfS (bCmp (mBin eqD (mVar 1) (mC (.int 2)))) (mSeq (mAsg (mCall D__law_frac (mCons (mBin subD (mCall D__law_take (mCons (mVar 0) (mCons (mC (.int 9)) mNil))) (mC (.int 4))) (mCons (mCall D__law_of (mCons (mVar 0) (mCons (mLst (mCons (mC (.int 1)) (mCons (mC (.int 2)) (mCons (mC (.int 3)) mNil)))) mNil))) mNil))) (gNm 5)) (mSeq (mAsg (mCall D__law_gone (mCons (mVar 2) (mCons (mCall D__law_point_less (mCons (mVar 3) (mCons (mVar 2) mNil))) (mCons (mVar 5) mNil)))) (gNm 6)) (mIfS (bCmp (mBin (cmpI fun i j => decide (i < j)) (mCall maxD (mCons (mComp (iSeq (mCall D__law_point_told (mCons (mVar 6) mNil))) (gNm 8) bYes (mCall absD (mCons (mVar 8) mNil)) [8]) mNil)) (mBin powD (mC (.int 10)) (mC (.int 12))))) (mRet (mTup (mCons (mVar 2) (mCons (mVar 3) (mCons (mVar 6) mNil))))) mSkip))) mSkip) (mRet (mTup (mCons (mVar 2) (mCons (mVar 3) (mCons (mVar 4) mNil))))))))))
noncomputable def D__law_three : GN := mFn 1 8 F__law_three
noncomputable  def F__law_right : SM := (mSeq (mAsg (mCall D__law_three (mCons (mVar 0) mNil)) (gNm 1)) (mSeq (mAsg (mComp (iSeq (mVar 1)) (gNm 7) bYes (mCall D__law_point_told (mCons (mVar 7) mNil)) [7]) (gTp (gsCons (gNm 4) (gsCons (gNm 5) (gsCons (gNm 6) gsNil))))) (mSeq (mAsg (mCall D__law_plane_side (mCons (mBin idxD (mVar 1) (mC (.int 0))) (mCons (mBin idxD (mVar 1) (mC (.int 1))) (mCons (mBin idxD (mVar 1) (mC (.int 2))) mNil)))) (gNm 2)) (mSeq (mIfS (bCmp (mBin neD (mCall reprD (mCons (mLst (mCons (mCall D_side (mCons (mVar 4) (mCons (mVar 5) (mCons (mVar 6) mNil)))) (mCons (mCall D_side (mCons (mVar 5) (mCons (mVar 6) (mCons (mVar 4) mNil)))) (mCons (mCall D_side (mCons (mVar 6) (mCons (mVar 4) (mCons (mVar 5) mNil)))) mNil)))) mNil)) (mCall reprD (mCons (mLst (mCons (mVar 2) (mCons (mVar 2) (mCons (mVar 2) mNil)))) mNil)))) (mRet (mC (.bl false))) mSkip) (mSeq (mIfS (bCmp (mBin neD (mCall reprD (mCons (mLst (mCons (mCall D_side (mCons (mVar 5) (mCons (mVar 4) (mCons (mVar 6) mNil)))) (mCons (mCall D_side (mCons (mVar 4) (mCons (mVar 6) (mCons (mVar 5) mNil)))) (mCons (mCall D_side (mCons (mVar 6) (mCons (mVar 5) (mCons (mVar 4) mNil)))) mNil)))) mNil)) (mCall reprD (mCons (mLst (mCons (mUn negD (mVar 2)) (mCons (mUn negD (mVar 2)) (mCons (mUn negD (mVar 2)) mNil)))) mNil)))) (mRet (mC (.bl false))) mSkip) (mSeq (mIfS (bOr (bCmp (mBin (cmpI fun i j => decide (j < i)) (mCall maxD (mCons (mBin idxD (mVar 4) (mC (.int 2))) (mCons (mBin idxD (mVar 5) (mC (.int 2))) (mCons (mBin idxD (mVar 6) (mC (.int 2))) mNil)))) (mC (.int 1)))) (bCmp (mBin (cmpI fun i j => decide (j < i)) (mCall maxD (mCons (mComp (iSeq (mBin addD (mBin addD (mVar 4) (mVar 5)) (mVar 6))) (gNm 8) bYes (mCall absD (mCons (mVar 8) mNil)) [8]) mNil)) (mC (.int 1000))))) (mRet (mC (.bl true))) mSkip) (mSeq (mAsg (mTup (mCons (mBin subD (mBin addD (mBin idxD (mVar 4) (mC (.int 0))) (mBin idxD (mVar 5) (mC (.int 0)))) (mBin idxD (mVar 6) (mC (.int 0)))) (mCons (mBin subD (mBin addD (mBin idxD (mVar 4) (mC (.int 1))) (mBin idxD (mVar 5) (mC (.int 1)))) (mBin idxD (mVar 6) (mC (.int 1)))) (mCons (mC (.int 1)) mNil)))) (gNm 3)) (mRet (mAnd (mBin eqD (mCall reprD (mCons (mCall D_side (mCons (mVar 4) (mCons (mVar 5) (mCons (mVar 3) mNil)))) mNil)) (mCall reprD (mCons (mUn negD (mVar 2)) mNil))) (mBin eqD (mCall reprD (mCons (mCall D_between (mCons (mVar 3) (mCons (mVar 6) (mCons (mTup (mCons (mC (.int 1)) (mCons (mC (.int 2)) mNil))) mNil)))) mNil)) (mCall reprD (mCons (mCall D_between (mCons (mVar 4) (mCons (mVar 5) (mCons (mTup (mCons (mC (.int 1)) (mCons (mC (.int 2)) mNil))) mNil)))) mNil))))))))))))
noncomputable def D__law_right : GN := mFn 1 8 F__law_right
noncomputable  def F_law : SM := (mRet (mCall allD (mCons (mComp (iSeq (mCall D__law_cells (mCons (mVar 0) (mCons (mC (.int 2)) mNil)))) (gNm 1) bYes (mCall D__law_right (mCons (mCall D__law_pot (mCons (mVar 0) (mCons (mVar 1) mNil))) mNil)) [1]) mNil)))
noncomputable def D_law : GN := mFn 1 1 F_law
theorem gcd_loop {hd : Hd} : ∀ (n a b : Nat), b < n →
    whileL (bCmp (mBin (cmpI fun i j => decide (j < i)) (mVar 1) (mC (.int 0)))) (mPar 0 1 (mCons (mVar 1) (mCons (mBin modD (mCall intD (mCons (mVar 0) mNil)) (mVar 1)) mNil))) n [some (.int a), some (.int b)] hd = some (.nx, [some (.int (a.gcd b : Nat)), some (.int 0)], hd) := by
  intro n
  induction n with
  | zero => intro a b h; omega
  | succ n ih =>
    intro a b h
    unfold whileL
    by_cases hb : b = 0
    · subst hb; simp
    · have h0 : (0 : Int) < (b : Int) := by omega
      have hm : a % b < b := Nat.mod_lt _ (by omega)
      have e : (a : Int).fmod (b : Int) = ((a % b : Nat) : Int) := by rw [Int.fmod_eq_emod_of_nonneg _ (by omega)]; simp
      simp only [e_bcmp, e_bin, e_var, e_c, e_par, e_cons, e_call, e_nil, List.getElem?_cons_zero, List.getElem?_cons_succ, Option.bind_some, e_cmp, e_inti, h0, decide_true, if_true, e_modii (show (b : Int) ≠ 0 by omega), e, List.set_cons_zero, List.set_cons_succ]
      rw [ih b (a % b) (by omega)]
      rw [Nat.gcd_comm a b, Nat.gcd_rec b a, Nat.gcd_comm (a % b) b]
theorem common_ok {hd : Hd} {a b : Int} : D__law_frac_common [.int a, .int b] hd = some (.int (a.natAbs.gcd b.natAbs : Nat), hd) := by
  have ha : (if a < 0 then -a else a) = (a.natAbs : Int) := by split <;> omega
  have hb : (if b < 0 then -b else b) = (b.natAbs : Int) := by split <;> omega
  unfold D__law_frac_common
  rw [e_fn (n := 2) (by rfl)]
  unfold F__law_frac_common
  simp only [e_seq, e_par, e_cons, e_call, e_var, e_nil, e_while, List.map_cons, List.map_nil, List.replicate, List.append_nil, List.getElem?_cons_zero, List.getElem?_cons_succ, Option.bind_some, e_abs, List.set_cons_zero, List.set_cons_succ, ha, hb, fuel__law_frac_common]
  rw [gcd_loop]
  · simp
  · simp [fuelE, fuelD]; omega
theorem frac_ok {hd : Hd} {t b : Int} {n : Nat} [s : Sz b n] (hb : b ≠ 0) (hn : n ≤ 8000) : D__law_frac [.int t, .int b] hd = some (fr (Rat.divInt t b), hd) := by
  have sz := @gcd_sz t b n s hb
  have gp := gcd_pos_of (t := t) hb
  unfold D__law_frac
  rw [e_fn (n := 2) (by rfl)]
  unfold F__law_frac
  simp only [e_seq, e_asg, e_call, e_cons, e_nil, e_var, e_gnm, e_if, e_bcmp, e_bin, e_c, e_cmp, e_un, e_neg, e_ret, e_tup, List.map_cons, List.map_nil, List.replicate, List.cons_append, List.nil_append, List.getElem?_cons_zero, List.getElem?_cons_succ, Option.bind_some, List.set_cons_zero, List.set_cons_succ, common_ok, decide_eq_true_eq]
  by_cases h : 0 < b
  · simp only [if_pos h, Option.bind_some, List.getElem?_cons_zero, List.getElem?_cons_succ]
    rw [e_divii (n := n) (by omega) hn]
    simp only [Option.bind_some]
    rw [e_divii (n := n) (by omega) hn]
    rw [frac_num hb (if_pos h).symm, frac_den hb (if_pos h).symm]
    simp [fr]
  · simp only [if_neg h, Option.bind_some, List.getElem?_cons_zero, List.getElem?_cons_succ]
    rw [e_divii (n := n) (by omega) hn]
    simp only [Option.bind_some]
    rw [e_divii (n := n) (by omega) hn]
    rw [frac_num hb (if_neg h).symm, frac_den hb (if_neg h).symm]
    simp [fr]
theorem plus_ok {hd : Hd} {r s : Rat} {a b : Nat} [x : Bq r a] [y : Bq s b] (h : (decide (a ≤ 3000) && decide (b ≤ 3000)) = true) : D__law_frac_plus [fr r, fr s] hd = some (fr (r + s), hd) := by
  simp only [Bool.and_eq_true, decide_eq_true_eq] at h
  unfold D__law_frac_plus
  rw [e_fn (n := 2) (by rfl)]
  unfold F__law_frac_plus fr
  simp (disch := (simp; omega)) only [e_ret, e_call, e_cons, e_nil, e_bin, e_var, e_c, e_ixt, at0, at1, e_mulii, e_addii, List.map_cons, List.map_nil, List.replicate, List.append_nil, List.getElem?_cons_zero, List.getElem?_cons_succ, Option.bind_some, Option.map_some]
  rw [frac_ok (n := a + b) (den_mul_ne r s) (by omega), divInt_add]
  simp [fr]
theorem less_ok {hd : Hd} {r s : Rat} {a b : Nat} [x : Bq r a] [y : Bq s b] (h : (decide (a ≤ 3000) && decide (b ≤ 3000)) = true) : D__law_frac_less [fr r, fr s] hd = some (fr (r - s), hd) := by
  simp only [Bool.and_eq_true, decide_eq_true_eq] at h
  unfold D__law_frac_less
  rw [e_fn (n := 2) (by rfl)]
  unfold F__law_frac_less fr
  simp (disch := (simp; omega)) only [e_ret, e_call, e_cons, e_nil, e_bin, e_var, e_c, e_ixt, at0, at1, e_mulii, e_subii, List.map_cons, List.map_nil, List.replicate, List.append_nil, List.getElem?_cons_zero, List.getElem?_cons_succ, Option.bind_some, Option.map_some]
  rw [frac_ok (n := a + b) (den_mul_ne r s) (by omega), divInt_sub]
  simp [fr]
theorem times_ok {hd : Hd} {r s : Rat} {a b : Nat} [x : Bq r a] [y : Bq s b] (h : (decide (a ≤ 3000) && decide (b ≤ 3000)) = true) : D__law_frac_times [fr r, fr s] hd = some (fr (r * s), hd) := by
  simp only [Bool.and_eq_true, decide_eq_true_eq] at h
  unfold D__law_frac_times
  rw [e_fn (n := 2) (by rfl)]
  unfold F__law_frac_times fr
  simp (disch := (simp; omega)) only [e_ret, e_call, e_cons, e_nil, e_bin, e_var, e_c, e_ixt, at0, at1, e_mulii, List.map_cons, List.map_nil, List.replicate, List.append_nil, List.getElem?_cons_zero, List.getElem?_cons_succ, Option.bind_some, Option.map_some]
  rw [frac_ok (n := a + b) (den_mul_ne r s) (by omega), divInt_mul]
  simp [fr]
theorem told_ok {hd : Hd} {x y : Rat} {a b : Nat} [r : Bq x a] [s : Bq y b] (h : (decide (a ≤ 3000) && decide (b ≤ 3000)) = true) : D__law_point_told [pt x y] hd = some (hp x y, hd) := by
  simp only [Bool.and_eq_true, decide_eq_true_eq] at h
  have gp := hG_pos x y
  have eg : ((x.den : Int).natAbs.gcd (y.den : Int).natAbs : Nat) = hG x y := by simp [hG]
  have g0 : ((hG x y : Nat) : Int) ≠ 0 := by omega
  have sg : Sz ((hG x y : Nat) : Int) b := ⟨by
    rw [Int.natAbs_natCast]
    exact Nat.lt_of_le_of_lt (Nat.le_of_dvd y.den_pos (Nat.gcd_dvd_right _ _)) s.den⟩
  have d1 : (y.den : Int).fdiv (hG x y : Nat) = ((y.den / hG x y : Nat) : Int) := by rw [Int.fdiv_eq_ediv_of_nonneg _ (by omega)]; simp
  have d2 : (x.den : Int).fdiv (hG x y : Nat) = ((x.den / hG x y : Nat) : Int) := by rw [Int.fdiv_eq_ediv_of_nonneg _ (by omega)]; simp
  have z1 : Sz ((y.den / hG x y : Nat) : Int) b := ⟨by rw [Int.natAbs_natCast]; exact Nat.lt_of_le_of_lt (Nat.div_le_self _ _) s.den⟩
  have z2 : Sz ((x.den / hG x y : Nat) : Int) a := ⟨by rw [Int.natAbs_natCast]; exact Nat.lt_of_le_of_lt (Nat.div_le_self _ _) r.den⟩
  unfold D__law_point_told
  rw [e_fn (n := 1) (by rfl)]
  unfold F__law_point_told pt fr
  simp only [e_seq, e_asg, e_call, e_cons, e_nil, e_var, e_gtp, e_gscons, e_gsnil, e_gnm, e_ret, e_tup, e_bin, List.map_cons, List.map_nil, List.replicate, List.cons_append, List.nil_append, List.getElem?_cons_zero, List.getElem?_cons_succ, Option.bind_some, List.set_cons_zero, List.set_cons_succ, common_ok, eg]
  simp (disch := (first | assumption | omega | (simp; omega))) only [e_divii (n := b) g0, d1, d2, Option.bind_some, e_mulii]
  simp [hp, hX, hY, hB]
theorem pless_ok {hd : Hd} {x y u v : Rat} {a b c d : Nat} [Bq x a] [Bq y b] [Bq u c] [Bq v d] (h : (decide (a ≤ 3000) && decide (b ≤ 3000) && decide (c ≤ 3000) && decide (d ≤ 3000)) = true) : D__law_point_less [pt x y, pt u v] hd = some (pt (x - u) (y - v), hd) := by
  simp only [Bool.and_eq_true, decide_eq_true_eq] at h
  unfold D__law_point_less
  rw [e_fn (n := 2) (by rfl)]
  unfold F__law_point_less pt
  simp (disch := (simp; omega)) only [e_ret, e_call, e_cons, e_nil, e_bin, e_var, e_c, e_ixt, at0, at1, less_ok, e_tup, List.map_cons, List.map_nil, List.replicate, List.append_nil, List.getElem?_cons_zero, List.getElem?_cons_succ, Option.bind_some, Option.map_some]
  simp
theorem turn_ok {hd : Hd} {ax ay bx by_ cx cy : Rat} {a b c d e f : Nat} [Bq ax a] [Bq ay b] [Bq bx c] [Bq by_ d] [Bq cx e] [Bq cy f] (h : (decide (a ≤ 1500) && decide (b ≤ 1500) && decide (c ≤ 1500) && decide (d ≤ 1500) && decide (e ≤ 1500) && decide (f ≤ 1500)) = true) :
    D_turn [hp ax ay, hp bx by_, hp cx cy] hd = some (.int (sg (crs ax ay bx by_ cx cy)), hd) := by
  simp only [Bool.and_eq_true, decide_eq_true_eq] at h
  have key := det_sg ax ay bx by_ cx cy
  unfold detI at key
  unfold D_turn
  rw [e_fn (n := 3) (by rfl)]
  unfold F_turn hp
  simp (disch := (first | omega | (simp; omega))) only [e_seq, e_asg, e_gnm, e_ret, e_ifs, e_skip, e_bcmp, e_if, e_un, e_neg, e_bin, e_var, e_c, e_ixt, at0, at1, at2, e_mulii, e_subii, e_addii, e_eqii, e_cmp, List.map_cons, List.map_nil, List.replicate, List.cons_append, List.nil_append, List.getElem?_cons_zero, List.getElem?_cons_succ, List.set_cons_zero, List.set_cons_succ, Option.bind_some, Option.map_some]
  generalize hX ax ay * (hY bx by_ * hB cx cy - hB bx by_ * hY cx cy) - hY ax ay * (hX bx by_ * hB cx cy - hB bx by_ * hX cx cy) + hB ax ay * (hX bx by_ * hY cx cy - hY bx by_ * hX cx cy) = T at *
  by_cases h0 : T = 0
  · simp [h0] at key ⊢; exact key
  · by_cases h1 : 0 < T
    · simp [h0, h1] at key ⊢; exact key
    · simp [h0, h1] at key ⊢; exact key
theorem iswn_ok {hd : Hd} {i : Int} : D_is_whole_number [.int i] hd = some (.bl true, hd) := by
  unfold D_is_whole_number
  rw [e_fn (n := 1) (by rfl)]
  unfold F_is_whole_number
  simp
theorem areint3_ok {hd : Hd} {i j k : Int} : D_are_integers [.tup [.int i, .int j, .int k], .int 3] hd = some (.bl true, hd ++ [.lst [.bl true, .bl true, .bl true]]) := by
  unfold D_are_integers
  rw [e_fn (n := 2) (by rfl)]
  unfold F_are_integers
  simp [iswn_ok]
theorem ispoint_ok {hd : Hd} {x y : Rat} : D_is_point [hp x y] hd = some (.bl true, hd ++ [.lst [.bl true, .bl true, .bl true]]) := by
  have h1 := hB_pos x y
  have h2 : decide (1 ≤ hB x y) = true := decide_eq_true (by omega)
  unfold D_is_point
  rw [e_fn (n := 1) (by rfl)]
  unfold F_is_point hp
  simp [areint3_ok, h2, hp_gcd]
theorem check1_ok {hd : Hd} {x y : Rat} {ds : List D} {env : Ev} {v : D} {p : Option D} : forL [] (gNm 1) (mIfS (bNot (bTru (mCall D_is_point (mCons (mVar 1) mNil)))) mNone mSkip) (hp x y :: ds) [some v, p] hd = forL [] (gNm 1) (mIfS (bNot (bTru (mCall D_is_point (mCons (mVar 1) mNil)))) mNone mSkip) ds [some v, some (hp x y)] (hd ++ [.lst [.bl true, .bl true, .bl true]]) := by
  rw [e_for1 keep_nil]
  simp [ispoint_ok]
theorem check2_ok {hd : Hd} {x y u v : Rat} : ∃ l1 l2, D_check_points [.tup [hp x y, hp u v]] hd = some (.non, hd ++ [l1, l2]) := by
  refine ⟨.lst [.bl true, .bl true, .bl true], .lst [.bl true, .bl true, .bl true], ?_⟩
  unfold D_check_points
  rw [e_fn (n := 1) (by rfl)]
  unfold F_check_points
  simp only [e_for, e_iseq_tup, e_var, List.map_cons, List.map_nil, List.replicate, List.cons_append, List.nil_append, List.getElem?_cons_zero, List.getElem?_cons_succ, Option.bind_some]
  rw [check1_ok (env := []), check1_ok (env := []), e_for0 keep_nil]
  simp only [Option.bind_some, List.append_assoc, List.cons_append, List.nil_append]
theorem check3_ok {hd : Hd} {x y u v s t : Rat} : ∃ l1 l2 l3, D_check_points [.tup [hp x y, hp u v, hp s t]] hd = some (.non, hd ++ [l1, l2, l3]) := by
  refine ⟨.lst [.bl true, .bl true, .bl true], .lst [.bl true, .bl true, .bl true], .lst [.bl true, .bl true, .bl true], ?_⟩
  unfold D_check_points
  rw [e_fn (n := 1) (by rfl)]
  unfold F_check_points
  simp only [e_for, e_iseq_tup, e_var, List.map_cons, List.map_nil, List.replicate, List.cons_append, List.nil_append, List.getElem?_cons_zero, List.getElem?_cons_succ, Option.bind_some]
  rw [check1_ok (env := []), check1_ok (env := []), check1_ok (env := []), e_for0 keep_nil]
  simp only [Option.bind_some, List.append_assoc, List.cons_append, List.nil_append]
theorem side_ok {hd : Hd} {ax ay bx by_ cx cy : Rat} {a b c d e f : Nat} [Bq ax a] [Bq ay b] [Bq bx c] [Bq by_ d] [Bq cx e] [Bq cy f] (h : (decide (a ≤ 1500) && decide (b ≤ 1500) && decide (c ≤ 1500) && decide (d ≤ 1500) && decide (e ≤ 1500) && decide (f ≤ 1500)) = true) :
    ∃ l1 l2 l3, D_side [hp ax ay, hp bx by_, hp cx cy] hd = some (.int (sg (crs ax ay bx by_ cx cy)), hd ++ [l1, l2, l3]) := by
  obtain ⟨l1, l2, l3, e⟩ := check3_ok (hd := hd) (x := ax) (y := ay) (u := bx) (v := by_) (s := cx) (t := cy)
  refine ⟨l1, l2, l3, ?_⟩
  unfold D_side
  rw [e_fn (n := 3) (by rfl)]
  unfold F_side
  simp [e, turn_ok h]
theorem hpat_ok {hd : Hd} {X Y B : Int} {x y : Rat} {n : Nat} [s : Sz B n] (hn : n ≤ 8000) (hB0 : 0 < B) (ex : (X : Rat) = x * (B : Rat)) (ey : (Y : Rat) = y * (B : Rat)) : D_point_at [.int X, .int Y, .int B] hd = some (hp x y, hd) := by
  obtain ⟨g, hg⟩ : ∃ g, g = (((X.natAbs.gcd Y.natAbs).gcd B.natAbs : Nat) : Int) := ⟨_, rfl⟩
  obtain ⟨c1, c2, c3, c4⟩ := canon hB0 ex ey hg
  have sz : Sz g n := ⟨by
    have h1 : g.natAbs ≤ B.natAbs := by rw [hg, Int.natAbs_natCast]; exact Nat.le_of_dvd (by omega) (Nat.gcd_dvd_right _ _)
    have := s.h
    omega⟩
  have g0 : g ≠ 0 := by omega
  unfold D_point_at
  rw [e_fn (n := 3) (by rfl)]
  unfold F_point_at
  simp only [e_seq, e_asg, e_gnm, e_ifs, e_bcmp, e_skip, e_un, e_neg, e_ret, e_tup, e_call, e_cons, e_nil, e_var, e_bin, e_c, e_cmp, e_gcd3, ← hg, List.map_cons, List.map_nil, List.replicate, List.cons_append, List.nil_append, List.getElem?_cons_zero, List.getElem?_cons_succ, List.set_cons_zero, List.set_cons_succ, Option.bind_some, show ¬ B < 0 by omega, decide_false, Bool.false_eq_true, if_false]
  simp only [e_divii (n := n) g0 hn, Option.bind_some, fdiv_exact g0 c1, fdiv_exact g0 c2, fdiv_exact g0 c3]
  simp [hp]
theorem pbtw_ok {hd : Hd} {x y u v s : Rat} {a b c d e : Nat} [Bq x a] [Bq y b] [Bq u c] [Bq v d] [Bq s e] (h : (decide (a ≤ 1000) && decide (b ≤ 1000) && decide (c ≤ 1000) && decide (d ≤ 1000) && decide (e ≤ 1000)) = true) :
    D_point_between [hp x y, hp u v, fr s] hd = some (hp (x + s * (u - x)) (y + s * (v - y)), hd) := by
  simp only [Bool.and_eq_true, decide_eq_true_eq] at h
  have p1 := hB_pos x y
  have p2 := hB_pos u v
  have p3 : (0 : Int) < (s.den : Int) := by have := s.den_pos; omega
  have h1 := hX_eq x y
  have h2 := hY_eq x y
  have h3 := hX_eq u v
  have h4 := hY_eq u v
  have h5 := cast_num s
  have h6 : ((s.den : Int) : Rat) = (s.den : Rat) := rfl
  unfold D_point_between
  rw [e_fn (n := 3) (by rfl)]
  unfold F_point_between hp fr
  simp (disch := (first | omega | (simp; omega))) only [e_seq, e_asg, e_gnm, e_ret, e_call, e_cons, e_nil, e_bin, e_var, e_c, e_ixt, at0, at1, at2, e_mulii, e_subii, e_addii, List.map_cons, List.map_nil, List.replicate, List.cons_append, List.nil_append, List.getElem?_cons_zero, List.getElem?_cons_succ, List.set_cons_zero, List.set_cons_succ, Option.bind_some, Option.map_some]
  rw [hpat_ok (x := x + s * (u - x)) (y := y + s * (v - y)) (n := (a + b) + (c + d) + e) (by omega) (Int.mul_pos (Int.mul_pos p1 p2) p3) ?ex ?ey]
  · simp [hp]
  · simp only [Rat.intCast_add, Rat.intCast_sub, Rat.intCast_mul, h1, h3, h5, h6]; grind
  · simp only [Rat.intCast_add, Rat.intCast_sub, Rat.intCast_mul, h2, h4, h5, h6]; grind
theorem areint2_ok {hd : Hd} {i j : Int} : D_are_integers [.tup [.int i, .int j], .int 2] hd = some (.bl true, hd ++ [.lst [.bl true, .bl true]]) := by
  unfold D_are_integers
  rw [e_fn (n := 2) (by rfl)]
  unfold F_are_integers
  simp [iswn_ok]
theorem isshare_ok {hd : Hd} {s : Rat} (h0 : 0 ≤ s) (h1 : s ≤ 1) : D_is_share [fr s] hd = some (.bl true, hd ++ [.lst [.bl true, .bl true]]) := by
  have d1 : (1 : Int) ≤ (s.den : Int) := by have := s.den_pos; omega
  have n0 : (0 : Int) ≤ s.num := Rat.num_nonneg.mpr h0
  have n1 : s.num ≤ (s.den : Int) := by
    have := Rat.le_iff s 1
    rw [this] at h1
    simpa using h1
  have gc : s.num.natAbs.gcd s.den = 1 := s.reduced
  unfold D_is_share
  rw [e_fn (n := 1) (by rfl)]
  unfold F_is_share
  have e : D_is_fraction [fr s] hd = some (.bl true, hd ++ [.lst [.bl true, .bl true]]) := by
    unfold D_is_fraction
    rw [e_fn (n := 1) (by rfl)]
    unfold F_is_fraction fr
    simp [areint2_ok, d1, gc]
  unfold fr at e ⊢
  simp [e, n0, n1]
theorem btw_ok {hd : Hd} {x y u v s : Rat} {a b c d e : Nat} [Bq x a] [Bq y b] [Bq u c] [Bq v d] [Bq s e] (h : (decide (a ≤ 1000) && decide (b ≤ 1000) && decide (c ≤ 1000) && decide (d ≤ 1000) && decide (e ≤ 1000)) = true) (h0 : 0 ≤ s) (h1 : s ≤ 1) :
    ∃ l1 l2 l3, D_between [hp x y, hp u v, fr s] hd = some (hp (x + s * (u - x)) (y + s * (v - y)), hd ++ [l1, l2, l3]) := by
  obtain ⟨l1, l2, e2⟩ := check2_ok (hd := hd) (x := x) (y := y) (u := u) (v := v)
  refine ⟨l1, l2, .lst [.bl true, .bl true], ?_⟩
  unfold D_between
  rw [e_fn (n := 3) (by rfl)]
  unfold F_between
  simp [e2, isshare_ok h0 h1, pbtw_ok h]
instance szl0 : Sz 0 1 := ⟨by decide⟩
instance szl1 : Sz 1 1 := ⟨by decide⟩
instance szl2 : Sz 2 2 := ⟨by decide⟩
instance szl3 : Sz 3 2 := ⟨by decide⟩
instance szl4 : Sz 4 3 := ⟨by decide⟩
instance szl5 : Sz 5 3 := ⟨by decide⟩
instance szl6 : Sz 6 3 := ⟨by decide⟩
instance szl7 : Sz 7 3 := ⟨by decide⟩
instance szl9 : Sz 9 4 := ⟨by decide⟩
instance szl10 : Sz 10 4 := ⟨by decide⟩
instance szl12 : Sz 12 4 := ⟨by decide⟩
instance szl18 : Sz 18 5 := ⟨by decide⟩
instance szl60 : Sz 60 6 := ⟨by decide⟩
instance szl126 : Sz 126 7 := ⟨by decide⟩
instance szl167 : Sz 167 8 := ⟨by decide⟩
instance szl390 : Sz 390 9 := ⟨by decide⟩
instance szl480 : Sz 480 9 := ⟨by decide⟩
instance szl602 : Sz 602 10 := ⟨by decide⟩
instance szl1000 : Sz 1000 10 := ⟨by decide⟩
instance szl1102 : Sz 1102 11 := ⟨by decide⟩
instance szl7296 : Sz 7296 13 := ⟨by decide⟩
instance szl10007 : Sz 10007 14 := ⟨by decide⟩
instance szl10178 : Sz 10178 14 := ⟨by decide⟩
instance szl70950 : Sz 70950 17 := ⟨by decide⟩
instance szl97752 : Sz 97752 17 := ⟨by decide⟩
instance szl1000003 : Sz 1000003 20 := ⟨by decide⟩
instance szl2147483563 : Sz 2147483563 31 := ⟨by decide⟩
instance szl2147483579 : Sz 2147483579 31 := ⟨by decide⟩
instance szl2147483587 : Sz 2147483587 31 := ⟨by decide⟩
instance szl2147483629 : Sz 2147483629 31 := ⟨by decide⟩
instance szl2147483647 : Sz 2147483647 31 := ⟨by decide⟩
instance szl2305843009213693907 : Sz 2305843009213693907 61 := ⟨by decide⟩
instance szl2305843009213693921 : Sz 2305843009213693921 61 := ⟨by decide⟩
instance szl2305843009213693951 : Sz 2305843009213693951 61 := ⟨by decide⟩
theorem take_ok {n c : Nat} {hd : Hd} {u : Int} (P : Pot n hd c) (hc : c ≤ 100000) (h0 : 0 < u) (h1 : u < 2 ^ 40) : ∃ d hd', D__law_take [.ref n, .int u] hd = some (.int d, hd') ∧ 0 ≤ d ∧ d < u ∧ Pot n hd' (c + 1) ∧ Kp n hd hd' := by
  obtain ⟨o, m, k, e, o0, o1, m0, m1, k0, k1⟩ := P.ex
  have hn := (List.getElem?_eq_some_iff.mp e).1
  have hl := lsOf_get e
  have su : Sz u 40 := sz_of (by omega) h1
  have u0 : u ≠ 0 := by omega
  by_cases ho : 0 < o
  · refine ⟨o.fmod u, hd.set n (.lst [.int (o.fdiv u), .int m, .int k]), ?_, fmod_lo h0, fmod_hi h0, ?_, .set⟩
    · unfold D__law_take
      rw [e_fn (n := 2) (by rfl)]
      unfold F__law_take
      simp [hl, e, ho, e_modii u0, e_divii u0 (show 40 ≤ 8000 by decide), ixN]
    · have := fdiv_nn o0 h0
      exact ⟨o.fdiv u, m, k, by rw [List.getElem?_set_self hn], this.1, by omega, m0, m1, k0, by omega⟩
  · have sk : Sz (k + 1) 20 := sz_of (by omega) (by omega)
    have sm : Sz m 62 := ⟨m1⟩
    obtain ⟨pr, hpr, p0, p1⟩ : ∃ pr : Int, atI [D.int 2147483647, .int 2147483629, .int 2147483587, .int 2147483579, .int 2147483563] ((k + 1).fmod 5) = some (.int pr) ∧ 0 < pr ∧ pr < 2 ^ 31 := by
      have a := @fmod_lo (k + 1) 5 (by decide)
      have b := @fmod_hi (k + 1) 5 (by decide)
      generalize (k + 1).fmod 5 = r at a b
      have : r = 0 ∨ r = 1 ∨ r = 2 ∨ r = 3 ∨ r = 4 := by omega
      rcases this with rfl | rfl | rfl | rfl | rfl
      · exact ⟨_, at0, by decide, by decide⟩
      · exact ⟨_, at1, by decide, by decide⟩
      · exact ⟨_, at2, by decide, by decide⟩
      · exact ⟨_, at3, by decide, by decide⟩
      · exact ⟨2147483563, by rw [show (4 : Int) = ((4 : Nat) : Int) from rfl, atI_at (by simp)]; rfl, by decide, by decide⟩
    generalize hh : hd.set n (.lst [.int o, .int m, .int (k + 1)]) = hd1
    have e1 : hd1[n]? = some (.lst [.int o, .int m, .int (k + 1)]) := by rw [← hh, List.getElem?_set_self hn]
    have n1 := (List.getElem?_eq_some_iff.mp e1).1
    generalize hg : hd1 ++ [.lst [D.int 2147483647, .int 2147483629, .int 2147483587, .int 2147483579, .int 2147483563]] = hd2
    have e2 : hd2[n]? = some (.lst [.int o, .int m, .int (k + 1)]) := by rw [← hg, List.getElem?_append_left n1]; exact e1
    have l1 := lsOf_get e1
    have l2 := lsOf_get e2
    have l3 : lsOf hd2 hd1.length = some [D.int 2147483647, .int 2147483629, .int 2147483587, .int 2147483579, .int 2147483563] := by rw [← hg]; exact e_ls_new
    have kp : Kp n hd hd2 := by rw [← hg, ← hh]; exact Kp.set.trans (.app _)
    have pot : Pot n hd2 (c + 1) := ⟨o, m, k + 1, e2, o0, o1, m0, m1, by omega, by omega⟩
    have q0 : pr ≠ 0 := by omega
    have main : ∃ d, D__law_take [.ref n, .int u] hd = some (.int (Int.fmod d u), hd2) := by
      unfold D__law_take
      rw [e_fn (n := 2) (by rfl)]
      unfold F__law_take
      simp only [e_seq, e_ifs, e_bcmp, e_bin, e_var, e_c, e_skip, e_ixr, hl, at0, at1, at2, e_cmp, ho, decide_false, Bool.false_eq_true, if_false, List.map_cons, List.map_nil, List.replicate, List.cons_append, List.nil_append, List.getElem?_cons_zero, List.getElem?_cons_succ, Option.bind_some, Option.map_some, e_asg, e_addii, e_gsb, e, ixN, List.length_cons, List.length_nil, e_gnm, e_lst, e_cons, e_nil, e_call, e_inti]
      simp only [show (0 : Int) ≤ 2 by decide, if_true, show (2 : Int) < ((0 + 1 + 1 + 1 : Nat) : Int) by decide, Option.map_some, Option.bind_some, show Int.toNat 2 = 2 from rfl, List.set_cons_zero, List.set_cons_succ, hh, l1, at2, at1, Option.map_some, Option.bind_some, show 0 + 1 + 1 + 1 + 1 + 1 ≤ 1000 by decide, if_true, hg, l2, l3, e_ixr, e_inti, e_modii (show (5 : Int) ≠ 0 by decide), hpr, List.getElem?_cons_zero, List.getElem?_cons_succ]
      simp (disch := (first | assumption | omega | decide | (simp; omega))) only [e_mulii, e_addii, Option.bind_some, Option.map_some, e_powii, e_inti, e_modii q0, e_ixr, l2, at0, at1, at2,  List.getElem?_cons_zero, List.getElem?_cons_succ, List.set_cons_zero, List.set_cons_succ]
      generalize hx : Int.fmod _ pr = x
      have x0 : 0 ≤ x := by rw [← hx]; exact fmod_lo p0
      have x1 : x < pr := by rw [← hx]; exact fmod_hi p0
      have sx : Sz x 31 := sz_of x0 (by omega)
      rw [e_modii (by decide)]
      simp only [Option.bind_some]
      generalize hy : Int.fmod x _ = y
      have y0 : 0 ≤ y := by rw [← hy]; exact fmod_lo (by decide)
      have y1 : y < 2 ^ 20 := by rw [← hy]; exact Int.lt_of_lt_of_le (fmod_hi (by decide)) (by decide)
      have sy : Sz y 20 := sz_of y0 y1
      simp (disch := (first | assumption | omega | decide | (simp; omega))) only [e_mulii, e_addii, Option.bind_some, Option.map_some, e_inti, e_ixr, l2, at0, at1, at2, e_modii, e_ret, e_bin, e_call, e_cons, e_nil, e_var, e_c, List.getElem?_cons_zero, List.getElem?_cons_succ, List.set_cons_zero, List.set_cons_succ]
      rw [e_divii (n := 8) (by decide) (by decide)]
      simp (disch := (first | assumption | omega | decide)) only [Option.bind_some, e_inti, e_modii]
      exact ⟨_, rfl⟩
    obtain ⟨d, hd_⟩ := main
    exact ⟨_, hd2, hd_, fmod_lo h0, fmod_hi h0, pot, kp⟩
theorem of_ok {n m c : Nat} {hd : Hd} {ds : List D} (P : Pot n hd c) (hc : c ≤ 100000) (hm : m ≠ n) (hl : lsOf hd m = some ds) (h0 : 0 < ds.length) (h1 : ds.length ≤ 1000) : ∃ d hd', D__law_of [.ref n, .ref m] hd = some (d, hd') ∧ d ∈ ds ∧ Pot n hd' (c + 1) ∧ Kp n hd hd' := by
  obtain ⟨i, hd', e, i0, i1, P', k⟩ := take_ok (u := ds.length) P hc (by omega) (by omega)
  have hl' := k.ls hm hl
  have hi : i.toNat < ds.length := by omega
  have ei : i = ((i.toNat : Nat) : Int) := by omega
  refine ⟨ds[i.toNat], hd', ?_, List.getElem_mem hi, P', k⟩
  have at' : atI ds i = some ds[i.toNat] := by
    have z := atI_at hi
    rw [← ei, List.getElem?_eq_getElem hi] at z
    exact z
  unfold D__law_of
  rw [e_fn (n := 2) (by rfl)]
  unfold F__law_of
  simp [hl, e, hl', at']
theorem coord_ok {t b : Int} (h0 : -1000000 ≤ t) (h1 : t ≤ 1000000) (b0 : 0 < b) (b1 : b ≤ 10007) : Bq (Rat.divInt t b) 20 := by
  have e := bq_divInt (t := t) (b := b) (m := 20) (n := 14) (by omega) (by omega) (by omega)
  exact e
theorem any_ok {n c : Nat} {hd : Hd} (P : Pot n hd c) (hc : c ≤ 90000) : ∃ x y hd', D__law_any_point [.ref n] hd = some (pt x y, hd') ∧ Bq x 20 ∧ Bq y 20 ∧ Pot n hd' (c + 5) ∧ Kp n hd hd' := by
  have ln := P.lt
  obtain ⟨far, h1, e1, m1, P1, k1⟩ := of_ok (m := hd.length) (ds := [.int 3, .int 9, .int 9, .int 1000, .int 1000000]) (P.app _) (by omega) (by omega) e_ls_new (by simp) (by simp)
  obtain ⟨f, rfl, f0, f1⟩ : ∃ f : Int, far = .int f ∧ 1 ≤ f ∧ f ≤ 1000000 := by
    simp only [List.mem_cons, List.not_mem_nil, or_false] at m1
    rcases m1 with rfl | rfl | rfl | rfl | rfl <;> exact ⟨_, rfl, by decide, by decide⟩
  obtain ⟨low, h2, e2, m2, P2, k2⟩ := of_ok (m := h1.length) (ds := [.int 1, .int 1, .int 2, .int 3, .int 7]) (P1.app _) (by omega) (by have := P1.lt; omega) e_ls_new (by simp) (by simp)
  obtain ⟨l, rfl, l0, l1⟩ : ∃ l : Int, low = .int l ∧ 1 ≤ l ∧ l ≤ 10007 := by
    simp only [List.mem_cons, List.not_mem_nil, or_false] at m2
    rcases m2 with rfl | rfl | rfl | rfl | rfl <;> exact ⟨_, rfl, by decide, by decide⟩
  obtain ⟨high, h3, e3, m3, P3, k3⟩ := of_ok (m := h2.length) (ds := [.int 1, .int 1, .int 1, .int 2, .int 5, .int 10007]) (P2.app _) (by omega) (by have := P2.lt; omega) e_ls_new (by simp) (by simp)
  obtain ⟨g, rfl, g0, g1⟩ : ∃ l : Int, high = .int l ∧ 1 ≤ l ∧ l ≤ 10007 := by
    simp only [List.mem_cons, List.not_mem_nil, or_false] at m3
    rcases m3 with rfl | rfl | rfl | rfl | rfl | rfl <;> exact ⟨_, rfl, by decide, by decide⟩
  obtain ⟨d4, h4, e4, a4, b4, P4, k4⟩ := take_ok (u := 2 * f + 1) P3 (by omega) (by omega) (by omega)
  obtain ⟨d5, h5, e5, a5, b5, P5, k5⟩ := take_ok (u := 2 * f + 1) P4 (by omega) (by omega) (by omega)
  have sf : Sz f 20 := sz_of (by omega) (by omega)
  have sl : Sz l 14 := sz_of (by omega) (by omega)
  have sg : Sz g 14 := sz_of (by omega) (by omega)
  refine ⟨Rat.divInt (d4 - f) l, Rat.divInt (d5 - f) g, h5, ?_, coord_ok (by omega) (by omega) (by omega) l1, coord_ok (by omega) (by omega) (by omega) g1, P5, ?_⟩
  · unfold D__law_any_point
    rw [e_fn (n := 1) (by rfl)]
    unfold F__law_any_point
    simp (disch := (first | assumption | omega | decide)) only [e_seq, e_asg, e_gnm, e_par, e_ret, e_tup, e_lst, e_call, e_cons, e_nil, e_var, e_c, e_bin, e_powii, show ((10 : Int) ^ (Int.toNat 6)) = 1000000 from rfl, List.map_cons, List.map_nil, List.replicate, List.cons_append, List.nil_append, List.getElem?_cons_zero, List.getElem?_cons_succ, List.set_cons_zero, List.set_cons_succ, Option.bind_some, List.length_cons, List.length_nil, show 0 + 1 + 1 + 1 + 1 + 1 ≤ 1000 by decide, show 0 + 1 + 1 + 1 + 1 + 1 + 1 ≤ 1000 by decide, if_true, e1, e2, e3, e_mulii, e_addii, e_subii, e4, e5]
    rw [frac_ok (n := 14) (by omega) (by decide)]
    simp only [Option.bind_some, e5, e_subii]
    rw [frac_ok (n := 14) (by omega) (by decide)]
    simp [pt]
  · exact (Kp.app _).trans (k1.trans ((Kp.app _).trans (k2.trans ((Kp.app _).trans (k3.trans (k4.trans k5))))))
theorem bit01 {c : Bool} : 0 ≤ (if c = true then (1 : Int) else 0) ∧ (if c = true then (1 : Int) else 0) ≤ 1 := by cases c <;> decide
theorem p300 : ((10 : Int) ^ 60) ^ 5 = 10 ^ 300 := by rw [← Int.pow_mul]
theorem pot_ok {hd : Hd} {ns : List Int} {pl : Nat} (hp : pl ≤ 63) (hn : ns.length ≤ 63) : ∃ n hd', D__law_pot [.fls (ns.map .int), .int (pl : Nat)] hd = some (.ref n, hd') ∧ Pot n hd' 0 ∧ hd.length ≤ n ∧ ∃ l, hd' = hd ++ l := by
  have spl : Sz (pl : Nat) 6 := ⟨by rw [Int.natAbs_natCast]; omega⟩
  -- the cell
  have cell : ∃ (l : Hd) (x : Int), mIf (bCmp (mBin (cmpI fun i j => decide (i < j)) (mVar 1) (mCall lenD (mCons (mVar 0) mNil)))) (mBin idxD (mVar 0) (mVar 1)) (mBin addD (mBin addD (mBin modD (mCall sumD (mCons (mSl (mVar 0) oNone (oSome (mC (.int 1)))) mNil)) (mC (.int 1000003))) (mBin mulD (mC (.int 1102)) (mVar 1))) (mC (.int 480))) [some (.fls (ns.map .int)), some (.int (pl : Nat)), none, none, none] hd = some (.int x, hd ++ l) := by
    by_cases h : pl < ns.length
    · have h' : ((pl : Nat) : Int) < ((ns.length : Nat) : Int) := by omega
      refine ⟨[], ns[pl], ?_⟩
      simp only [e_if, e_bcmp, e_bin, e_var, e_call, e_cons, e_nil, e_lenf, List.getElem?_cons_zero, List.getElem?_cons_succ, Option.bind_some, e_cmp, List.length_map, h', decide_true, if_true, e_ixf]
      rw [atI_at (by simpa using h)]
      simp [h]
    · have h' : ¬ ((pl : Nat) : Int) < ((ns.length : Nat) : Int) := by omega
      refine ⟨[.lst ((ns.map D.int).take 1)], ?_⟩
      have cut : cutL (ns.map D.int) none (some 1) = (ns.map D.int).take 1 := by
        unfold cutL
        rw [HT.sIx_none, show (some (1 : Int)) = some ((1 : Nat) : Int) from rfl, HT.sIx_nat]
        cases ns <;> simp
      have hint : intsOf ((ns.map D.int).take 1) = some (ns.take 1) := by cases ns <;> simp [intsOf]
      simp (disch := (first | assumption | omega | decide)) only [e_if, e_bcmp, e_bin, e_var, e_c, e_call, e_cons, e_nil, e_lenf, List.getElem?_cons_zero, List.getElem?_cons_succ, Option.bind_some, e_cmp, List.length_map, h', decide_false, Bool.false_eq_true, if_false, e_sl, e_onone, e_osome, sliD, cut, sumD, e_ls_new, hint, Option.map_some, e_modii, e_mulii, e_addii]
      exact ⟨_, rfl⟩
  obtain ⟨l, x, ec⟩ := cell
  have sb : Sz (if (decide (((10 : Int) ^ (18 : Int).toNat) ≤ (if x < 0 then -x else x))) = true then (1 : Int) else 0) 1 := sz_of bit01.1 (Int.lt_of_le_of_lt bit01.2 (by decide))
  have p0 : (0 : Int) < ((10 : Int) ^ (60 : Int).toNat) ^ (5 : Int).toNat := by decide +kernel
  have pz : Sz ((10 : Int) ^ (60 : Int).toNat) 200 := ⟨by decide +kernel⟩
  generalize hX : Int.fmod (if x < 0 then -x else x) (((10 : Int) ^ (60 : Int).toNat) ^ (5 : Int).toNat) = X at *
  have X0 : 0 ≤ X := by rw [← hX]; exact fmod_lo p0
  have X1 : X < 2 ^ 999 := by rw [← hX]; exact Int.lt_of_lt_of_le (fmod_hi p0) (by decide +kernel)
  have sX : Sz X 999 := sz_of X0 X1
  generalize hB : (if (decide (((10 : Int) ^ (18 : Int).toNat) ≤ (if x < 0 then -x else x))) = true then (1 : Int) else 0) = b at *
  have b0 : 0 ≤ b := by rw [← hB]; exact bit01.1
  have b1 : b ≤ 1 := by rw [← hB]; exact bit01.2
  generalize hm : Int.fmod x 2305843009213693951 = y at *
  have y0 : 0 ≤ y := by rw [← hm]; exact fmod_lo (by decide)
  have y1 : y < 2 ^ 61 := by rw [← hm]; exact Int.lt_of_lt_of_le (fmod_hi (by decide)) (by decide)
  have sy : Sz y 61 := sz_of y0 y1
  have main : ∃ z, D__law_pot [.fls (ns.map .int), .int (pl : Nat)] hd = some (.ref (hd ++ l).length, (hd ++ l) ++ [.lst [.int (X * b), .int (Int.fmod z 2305843009213693921), .int 0]]) := by
    unfold D__law_pot
    rw [e_fn (n := 2) (by rfl)]
    unfold F__law_pot
    simp only [e_seq, e_asg, e_gnm, List.map_cons, List.map_nil, List.replicate, List.cons_append, List.nil_append, ec, Option.bind_some, List.set_cons_zero, List.set_cons_succ]
    simp (disch := (first | assumption | omega | decide)) only [e_bin, e_call, e_cons, e_nil, e_var, e_c, List.getElem?_cons_zero, List.getElem?_cons_succ, Option.bind_some, e_abs, e_inti, e_intb, e_powii, e_modii, e_cmp, hX, hB, e_mulii, List.set_cons_zero, List.set_cons_succ, hm, e_ret, e_lst, List.length_cons, List.length_nil, show 0 + 1 + 1 + 1 ≤ 1000 by decide, if_true, e_addii]
    exact ⟨_, rfl⟩
  obtain ⟨z, ez⟩ := main
  refine ⟨_, _, ez, ⟨X * b, Int.fmod z 2305843009213693921, 0, by rw [List.getElem?_append_right (Nat.le_refl _)]; simp, Int.mul_nonneg X0 b0, ?_, fmod_lo (by decide), ?_, Int.le_refl _, by simp⟩, by simp, l ++ [.lst [.int (X * b), .int (Int.fmod z 2305843009213693921), .int 0]], by rw [List.append_assoc]⟩
  · have s1 : Sz b 1 := sz_of b0 (by omega)
    exact (@szMul X b 999 1 sX s1).h
  · have h1 := @fmod_lo z 2305843009213693921 (by decide)
    have h2 := @fmod_hi z 2305843009213693921 (by decide)
    omega
theorem cells_ok {hd : Hd} {ns : List Int} {u : Nat} (hu : u ≤ 63) (hu0 : 1 ≤ u) : ∃ j : Nat, 1 ≤ j ∧ j ≤ u ∧ D__law_cells [.fls (ns.map .int), .int (u : Nat)] hd = some (.ref hd.length, hd ++ [.lst (rangeL 0 (j : Nat))]) := by
  refine ⟨max 1 (min u ns.length), by omega, by omega, ?_⟩
  unfold D__law_cells
  rw [e_fn (n := 2) (by rfl)]
  unfold F__law_cells
  have e : (if (if ((ns.length : Nat) : Int) < ((u : Nat) : Int) then ((ns.length : Nat) : Int) else ((u : Nat) : Int)) > 1 then (if ((ns.length : Nat) : Int) < ((u : Nat) : Int) then ((ns.length : Nat) : Int) else ((u : Nat) : Int)) else (1 : Int)) = ((max 1 (min u ns.length) : Nat) : Int) := by
    split <;> split <;> omega
  simp only [e_ret, mLstRg, rg1, e_call, e_cons, e_nil, e_var, e_c, List.map_cons, List.map_nil, List.replicate, List.append_nil, List.getElem?_cons_zero, List.getElem?_cons_succ, Option.bind_some, e_lenf, e_min2, e_max2, List.length_map]
  rw [e]
  rw [if_pos (by omega)]
  simp
theorem gone_ok {hd : Hd} {x y u v s : Rat} {a b c d e : Nat} [Bq x a] [Bq y b] [Bq u c] [Bq v d] [Bq s e] (h : (decide (a ≤ 500) && decide (b ≤ 500) && decide (c ≤ 500) && decide (d ≤ 500) && decide (e ≤ 500)) = true) : ∃ zs, D__law_gone [pt x y, pt u v, fr s] hd = some (pt (x + s * u) (y + s * v), hd ++ [.lst zs]) := by
  simp only [Bool.and_eq_true, decide_eq_true_eq] at h
  refine ⟨[fr (x + s * u), fr (y + s * v)], ?_⟩
  unfold D__law_gone
  rw [e_fn (n := 3) (by rfl)]
  unfold F__law_gone
  simp only [pt, e_ret, e_call, e_comp, e_izip, e_cons, e_nil, e_var, List.map_cons, List.map_nil, List.replicate, List.cons_append, List.nil_append, List.getElem?_cons_zero, List.getElem?_cons_succ, List.set_cons_zero, List.set_cons_succ, Option.bind_some, zipL, e_wipe1, e_wipe0, e_comp1 keep_nil, e_comp0 keep_nil, e_gtp, e_gscons, e_gsnil, e_gnm, e_yes, if_true]
  simp (disch := (simp; omega)) only [times_ok, plus_ok, Option.bind_some]
  simp [e_tupleR, pt]
theorem twice_ok {hd : Hd} {x y u v : Rat} {a b c d : Nat} [Bq x a] [Bq y b] [Bq u c] [Bq v d] (h : (decide (a ≤ 1400) && decide (b ≤ 1400) && decide (c ≤ 1400) && decide (d ≤ 1400)) = true) : D__law_plane_twice [pt x y, pt u v] hd = some (fr (x * v - y * u), hd) := by
  simp only [Bool.and_eq_true, decide_eq_true_eq] at h
  unfold D__law_plane_twice
  rw [e_fn (n := 2) (by rfl)]
  unfold F__law_plane_twice pt
  simp (disch := (simp; omega)) only [e_ret, e_call, e_cons, e_nil, e_bin, e_var, e_c, e_ixt, at0, at1, times_ok, less_ok, List.map_cons, List.map_nil, List.replicate, List.append_nil, List.getElem?_cons_zero, List.getElem?_cons_succ, Option.bind_some, Option.map_some]
theorem pside_ok {hd : Hd} {ax ay bx by_ cx cy : Rat} {a b c d e f : Nat} [Bq ax a] [Bq ay b] [Bq bx c] [Bq by_ d] [Bq cx e] [Bq cy f] (h : (decide (a ≤ 600) && decide (b ≤ 600) && decide (c ≤ 600) && decide (d ≤ 600) && decide (e ≤ 600) && decide (f ≤ 600)) = true) :
    D__law_plane_side [pt ax ay, pt bx by_, pt cx cy] hd = some (.int (sg (crs ax ay bx by_ cx cy)), hd) := by
  simp only [Bool.and_eq_true, decide_eq_true_eq] at h
  unfold D__law_plane_side
  rw [e_fn (n := 3) (by rfl)]
  unfold F__law_plane_side
  simp (disch := (simp; omega)) only [e_seq, e_asg, e_gnm, e_ret, e_call, e_cons, e_nil, e_bin, e_var, e_c, pless_ok, twice_ok, List.map_cons, List.map_nil, List.replicate, List.cons_append, List.nil_append, List.getElem?_cons_zero, List.getElem?_cons_succ, List.set_cons_zero, List.set_cons_succ, Option.bind_some]
  rw [show fr ((bx - ax) * (cy - ay) - (by_ - ay) * (cx - ax)) = .tup [.int (crs ax ay bx by_ cx cy).num, .int (crs ax ay bx by_ cx cy).den] from rfl]
  simp only [e_ixt, at0, Option.map_some, Option.bind_some, e_seq, e_ret, e_asg, e_gnm, e_call, e_cons, e_nil, e_bin, e_var, e_c, e_cmp, e_intb, e_subii, List.getElem?_cons_zero, List.getElem?_cons_succ, List.set_cons_zero, List.set_cons_succ, sg_num]
theorem any3_ok {n c : Nat} {hd : Hd} (P : Pot n hd c) (hc : c ≤ 80000) : ∃ x1 y1 x2 y2 x3 y3 hd', mComp (iRange1 (mCons (mC (.int 3)) mNil)) (gNm 7) bYes (mCall D__law_any_point (mCons (mVar 0) mNil)) [7] [some (.ref n), none, none, none, none, none, none, none, none] hd = some (.ref hd'.length, hd' ++ [.lst [pt x1 y1, pt x2 y2, pt x3 y3]]) ∧ Bq x1 20 ∧ Bq y1 20 ∧ Bq x2 20 ∧ Bq y2 20 ∧ Bq x3 20 ∧ Bq y3 20 ∧ Pot n hd' (c + 15) ∧ Kp n hd hd' := by
  obtain ⟨x1, y1, h1, e1, a1, b1, P1, k1⟩ := any_ok P (by omega)
  obtain ⟨x2, y2, h2, e2, a2, b2, P2, k2⟩ := any_ok P1 (by omega)
  obtain ⟨x3, y3, h3, e3, a3, b3, P3, k3⟩ := any_ok P2 (by omega)
  refine ⟨x1, y1, x2, y2, x3, y3, h3, ?_, a1, b1, a2, b2, a3, b3, P3, k1.trans (k2.trans k3)⟩
  simp only [e_comp, e_irange1, e_cons, e_nil, e_c, e_var, Option.bind_some, show (-1000000 : Int) ≤ 3 ∧ (3 : Int) ≤ 1000000 by decide, and_self, if_true, range3, e_wipe1, e_wipe0, List.set_cons_zero, List.set_cons_succ, e_comp1 keep_nil, e_comp0 keep_nil, e_gnm, e_yes, e_call, List.getElem?_cons_zero, List.getElem?_cons_succ, e1, e2, e3, List.length_cons, List.length_nil, Nat.reduceAdd, Nat.reduceLeDiff]
theorem max_told {v : Nat} {hd : Hd} {env : Ev} {x y : Rat} {a b : Nat} [Bq x a] [Bq y b] (h : (decide (a ≤ 3000) && decide (b ≤ 3000)) = true) {i : Nat} (hv : env[i]? = some (some (pt x y))) (hl : v < env.length) : ∃ m zs, mComp (iSeq (mCall D__law_point_told (mCons (mVar i) mNil))) (gNm v) bYes (mCall absD (mCons (mVar v) mNil)) [v] env hd = some (.ref hd.length, hd ++ [.lst zs]) ∧ maxD [.ref hd.length] (hd ++ [.lst zs]) = some (.int m, hd ++ [.lst zs]) := by
  refine ⟨maxI (if hX x y < 0 then -hX x y else hX x y) [if hY x y < 0 then -hY x y else hY x y, if hB x y < 0 then -hB x y else hB x y], [hX x y, hY x y, hB x y].map fun i => .int (if i < 0 then -i else i), ?_, ?_⟩
  · have c := comp_abs (v := v) [hX x y, hY x y, hB x y] hd (env.set v none) (by simpa using hl)
    simp only [List.map_cons, List.map_nil] at c
    simp only [e_call, e_cons, e_nil, e_comp, e_iseq_tup, e_var, hv, told_ok h, hp, Option.bind_some, e_wipe1, e_wipe0, c, List.length_cons, List.length_nil, Nat.reduceAdd, Nat.reduceLeDiff, if_true, List.map_cons, List.map_nil]
  · exact e_maxr (by simp)
theorem three_ok {n c : Nat} {hd : Hd} (P : Pot n hd c) (hc : c ≤ 70000) : ∃ x1 y1 x2 y2 x3 y3 hd', D__law_three [.ref n] hd = some (.tup [pt x1 y1, pt x2 y2, pt x3 y3], hd') ∧ Bq x1 20 ∧ Bq y1 20 ∧ Bq x2 20 ∧ Bq y2 20 ∧ Bq x3 120 ∧ Bq y3 120 ∧ Kp n hd hd' := by
  obtain ⟨x1, y1, x2, y2, x3, y3, h1, e1, a1, b1, a2, b2, a3, b3, P1, k1⟩ := any3_ok P (by omega)
  generalize g2 : h1 ++ [.lst [pt x1 y1, pt x2 y2, pt x3 y3]] = h2 at e1
  have l2 : lsOf h2 h1.length = some [pt x1 y1, pt x2 y2, pt x3 y3] := by rw [← g2]; exact e_ls_new
  have P2 : Pot n h2 (c + 15) := by rw [← g2]; exact P1.app _
  have k2 : Kp n hd h2 := by rw [← g2]; exact k1.trans (.app _)
  obtain ⟨w, h3, e3, w0, w1, P3, k3⟩ := take_ok (u := 6) P2 (by omega) (by decide) (by decide)
  have k13 := k2.trans k3
  by_cases hw0 : w = 0
  · refine ⟨x1, y1, x1, y1, x3, y3, h3, ?_, a1, b1, a1, b1, a3.mono (by decide), b3.mono (by decide), k13⟩
    subst hw0
    unfold D__law_three
    rw [e_fn (n := 1) (by rfl)]
    unfold F__law_three
    simp only [List.map_cons, List.map_nil, List.replicate, List.cons_append, List.nil_append]
    simp (disch := decide) only [e_seq, e_asg, e_gnm, e_par, e_ifs, e_skip, e_bcmp, e_btru, e_bnot, e_band, e_bor, e_tru_bl, e_if, e_un, e_neg, e_not, e_and, e_or, e_bin, e_var, e_c, e_ret, e_expr, e_tup, e_lst, e_call, e_cons, e_nil, e_gtp, e_gscons, e_gsnil, List.map_cons, List.map_nil, List.replicate, List.cons_append, List.nil_append, List.append_nil, List.getElem?_cons_zero, List.getElem?_cons_succ, List.set_cons_zero, List.set_cons_succ, Option.bind_some, Option.map_some, List.length_cons, List.length_nil, if_true, if_false, decide_true, decide_false, Bool.not_true, Bool.not_false, Bool.false_eq_true, Nat.reduceAdd, Nat.reduceLeDiff, e_ness, e_eqss, e_addii, e_subii, e_cmp, e_inti, e_intb, e_gtpr, l2, e1, e3, e_eqii, beq_iff_eq, reduceCtorEq, beq_self_eq_true]
  by_cases hw1 : w = 1
  · subst hw1
    obtain ⟨d, h4, e4, m4, P4, k4⟩ := of_ok (m := h3.length) (ds := [pt x1 y1, pt x2 y2]) (P3.app _) (by omega) (by have := P3.lt; omega) e_ls_new (by simp) (by simp)
    have kk := k13.trans ((Kp.app _).trans k4)
    have ex : D__law_three [.ref n] hd = some (.tup [pt x1 y1, pt x2 y2, d], h4) := by
      unfold D__law_three
      rw [e_fn (n := 1) (by rfl)]
      unfold F__law_three
      simp only [List.map_cons, List.map_nil, List.replicate, List.cons_append, List.nil_append]
      simp (disch := decide) only [e_seq, e_asg, e_gnm, e_par, e_ifs, e_skip, e_bcmp, e_btru, e_bnot, e_band, e_bor, e_tru_bl, e_if, e_un, e_neg, e_not, e_and, e_or, e_bin, e_var, e_c, e_ret, e_expr, e_tup, e_lst, e_call, e_cons, e_nil, e_gtp, e_gscons, e_gsnil, List.map_cons, List.map_nil, List.replicate, List.cons_append, List.nil_append, List.append_nil, List.getElem?_cons_zero, List.getElem?_cons_succ, List.set_cons_zero, List.set_cons_succ, Option.bind_some, Option.map_some, List.length_cons, List.length_nil, if_true, if_false, decide_true, decide_false, Bool.not_true, Bool.not_false, Bool.false_eq_true, Nat.reduceAdd, Nat.reduceLeDiff, e_ness, e_eqss, e_addii, e_subii, e_cmp, e_inti, e_intb, e_gtpr, l2, e1, e3, e4, e_eqii, beq_iff_eq, reduceCtorEq, show (1 : Int) = 0 ↔ False by decide, beq_self_eq_true]
    simp only [List.mem_cons, List.not_mem_nil, or_false] at m4
    rcases m4 with rfl | rfl
    · exact ⟨x1, y1, x2, y2, x1, y1, h4, ex, a1, b1, a2, b2, a1.mono (by decide), b1.mono (by decide), kk⟩
    · exact ⟨x1, y1, x2, y2, x2, y2, h4, ex, a1, b1, a2, b2, a2.mono (by decide), b2.mono (by decide), kk⟩
  by_cases hw2 : w = 2
  · subst hw2
    obtain ⟨d, h4, e4, d0, d1, P4, k4⟩ := take_ok (u := 9) P3 (by omega) (by decide) (by decide)
    obtain ⟨bo, h5, e5, m5, P5, k5⟩ := of_ok (m := h4.length) (ds := [.int 1, .int 2, .int 3]) (P4.app _) (by omega) (by have := P4.lt; omega) e_ls_new (by simp) (by simp)
    obtain ⟨b, rfl, bb0, bb1⟩ : ∃ l : Int, bo = .int l ∧ 1 ≤ l ∧ l ≤ 10007 := by
      simp only [List.mem_cons, List.not_mem_nil, or_false] at m5
      rcases m5 with rfl | rfl | rfl <;> exact ⟨_, rfl, by decide, by decide⟩
    have sl : Sz b 14 := sz_of (by omega) (by omega)
    have bs : Bq (Rat.divInt (d - 4) b) 20 := coord_ok (by omega) (by omega) (by omega) bb1
    generalize hs : Rat.divInt (d - 4) b = s at bs
    have ef : ∀ hd : Hd, D__law_frac [.int (d - 4), .int b] hd = some (fr s, hd) := fun hd => by rw [frac_ok (n := 14) (by omega) (by decide), hs]
    obtain ⟨z6, e6⟩ := gone_ok (hd := h5) (x := x1) (y := y1) (u := x2 - x1) (v := y2 - y1) (s := s) (by decide)
    generalize g6 : h5 ++ [.lst z6] = h6 at e6
    have bx : Bq (x1 + s * (x2 - x1)) 82 := inferInstance
    have by_ : Bq (y1 + s * (y2 - y1)) 82 := inferInstance
    obtain ⟨m, z7, e7, e7'⟩ := max_told (v := 8) (hd := h6) (env := [some (.ref n), some (.int 2), some (pt x1 y1), some (pt x2 y2), some (pt x3 y3), some (fr s), some (pt (x1 + s * (x2 - x1)) (y1 + s * (y2 - y1))), none, none]) (x := x1 + s * (x2 - x1)) (y := y1 + s * (y2 - y1)) (by decide) (i := 6) (by simp) (by simp)
    have k5' := k4.trans ((Kp.app _).trans k5)
    have k6 : Kp n h5 (h6 ++ [.lst z7]) := by rw [← g6]; exact (Kp.app _).trans (.app _)
    have kk := k13.trans (k5'.trans k6)
    have sub4 : ∀ hd : Hd, subD (.int d) (.int 4) hd = some (.int (d - 4), hd) := fun _ => rfl
    by_cases hm : m < 1000000000000
    · refine ⟨x1, y1, x2, y2, _, _, _, ?_, a1, b1, a2, b2, bx.mono (by decide), by_.mono (by decide), kk⟩
      unfold D__law_three
      rw [e_fn (n := 1) (by rfl)]
      unfold F__law_three
      simp only [List.map_cons, List.map_nil, List.replicate, List.cons_append, List.nil_append]
      simp (disch := decide) only [e_seq, e_asg, e_gnm, e_par, e_ifs, e_skip, e_bcmp, e_btru, e_bnot, e_band, e_bor, e_tru_bl, e_if, e_un, e_neg, e_not, e_and, e_or, e_bin, e_var, e_c, e_ret, e_expr, e_tup, e_lst, e_call, e_cons, e_nil, e_gtp, e_gscons, e_gsnil, List.map_cons, List.map_nil, List.replicate, List.cons_append, List.nil_append, List.append_nil, List.getElem?_cons_zero, List.getElem?_cons_succ, List.set_cons_zero, List.set_cons_succ, Option.bind_some, Option.map_some, List.length_cons, List.length_nil, if_true, if_false, decide_true, decide_false, Bool.not_true, Bool.not_false, Bool.false_eq_true, Nat.reduceAdd, Nat.reduceLeDiff, e_ness, e_eqss, e_addii, e_subii, e_cmp, e_inti, e_intb, e_gtpr, l2, e1, e3, e4, e5, ef, sub4, pless_ok, e6, e7, e7', e_eqii, e_powii, show ((10 : Int) ^ (Int.toNat 12)) = 1000000000000 from rfl, hm, beq_iff_eq, reduceCtorEq, hw0, hw1, beq_self_eq_true]
    · refine ⟨x1, y1, x2, y2, x3, y3, _, ?_, a1, b1, a2, b2, a3.mono (by decide), b3.mono (by decide), kk⟩
      unfold D__law_three
      rw [e_fn (n := 1) (by rfl)]
      unfold F__law_three
      simp only [List.map_cons, List.map_nil, List.replicate, List.cons_append, List.nil_append]
      simp (disch := decide) only [e_seq, e_asg, e_gnm, e_par, e_ifs, e_skip, e_bcmp, e_btru, e_bnot, e_band, e_bor, e_tru_bl, e_if, e_un, e_neg, e_not, e_and, e_or, e_bin, e_var, e_c, e_ret, e_expr, e_tup, e_lst, e_call, e_cons, e_nil, e_gtp, e_gscons, e_gsnil, List.map_cons, List.map_nil, List.replicate, List.cons_append, List.nil_append, List.append_nil, List.getElem?_cons_zero, List.getElem?_cons_succ, List.set_cons_zero, List.set_cons_succ, Option.bind_some, Option.map_some, List.length_cons, List.length_nil, if_true, if_false, decide_true, decide_false, Bool.not_true, Bool.not_false, Bool.false_eq_true, Nat.reduceAdd, Nat.reduceLeDiff, e_ness, e_eqss, e_addii, e_subii, e_cmp, e_inti, e_intb, e_gtpr, l2, e1, e3, e4, e5, ef, sub4, pless_ok, e6, e7, e7', e_eqii, e_powii, show ((10 : Int) ^ (Int.toNat 12)) = 1000000000000 from rfl, hm, beq_iff_eq, reduceCtorEq, hw0, hw1, beq_self_eq_true]
  · refine ⟨x1, y1, x2, y2, x3, y3, h3, ?_, a1, b1, a2, b2, a3.mono (by decide), b3.mono (by decide), k13⟩
    unfold D__law_three
    rw [e_fn (n := 1) (by rfl)]
    unfold F__law_three
    simp only [List.map_cons, List.map_nil, List.replicate, List.cons_append, List.nil_append]
    simp (disch := decide) only [e_seq, e_asg, e_gnm, e_par, e_ifs, e_skip, e_bcmp, e_btru, e_bnot, e_band, e_bor, e_tru_bl, e_if, e_un, e_neg, e_not, e_and, e_or, e_bin, e_var, e_c, e_ret, e_expr, e_tup, e_lst, e_call, e_cons, e_nil, e_gtp, e_gscons, e_gsnil, List.map_cons, List.map_nil, List.replicate, List.cons_append, List.nil_append, List.append_nil, List.getElem?_cons_zero, List.getElem?_cons_succ, List.set_cons_zero, List.set_cons_succ, Option.bind_some, Option.map_some, List.length_cons, List.length_nil, if_true, if_false, decide_true, decide_false, Bool.not_true, Bool.not_false, Bool.false_eq_true, Nat.reduceAdd, Nat.reduceLeDiff, e_ness, e_eqss, e_addii, e_subii, e_cmp, e_inti, e_intb, e_gtpr, l2, e1, e3, e_eqii, beq_iff_eq, reduceCtorEq, hw0, hw1, hw2]
theorem repr_i3 {hd : Hd} {k : Nat} {d : Int} [Sz d 1] (hl : lsOf hd k = some [.int d, .int d, .int d]) : reprD [.ref k] hd = some (.str (PyData.shown (.list [.int d, .int d, .int d])), hd) := by
  refine repr_of (by simp [toPy, optL, hl]) ?_ ?_
  · simp only [PyData.showable, PyData.showableAll, Bool.and_true, Bool.and_eq_true]
    exact ⟨show_int (n := 1) (by omega), show_int (n := 1) (by omega), show_int (n := 1) (by omega)⟩
  · simp [pw, pwL]
theorem repr_i1 {hd : Hd} {d : Int} [Sz d 1] : reprD [.int d] hd = some (.str (PyData.shown (.int d)), hd) :=
  repr_of (by simp [toPy]) (show_int (n := 1) (by omega)) (by simp [pw])
theorem repr_hpz {x y : Rat} {a b : Nat} [Bq x a] [Bq y b] (h : (decide (a + b ≤ 1900)) = true) : ∃ z, ∀ hd : Hd, reprD [hp x y] hd = some (.str z, hd) := by
  have h' : a + b ≤ 1900 := of_decide_eq_true h
  refine ⟨PyData.shown (.tuple [.int (hX x y), .int (hY x y), .int (hB x y)]), fun hd => repr_of (by simp [hp, toPy, optL]) ?_ (by simp [pw, pwL])⟩
  simp only [PyData.showable, PyData.showableAll, Bool.and_true, Bool.and_eq_true]
  exact ⟨show_int (n := a + b) (by omega), show_int (n := b + a) (by omega), show_int (n := a + b) (by omega)⟩
theorem told3_ok {hd : Hd} {x1 y1 x2 y2 x3 y3 : Rat} {n : Nat} [Bq x1 20] [Bq y1 20] [Bq x2 20] [Bq y2 20] [Bq x3 120] [Bq y3 120] : mComp (iSeq (mVar 1)) (gNm 7) bYes (mCall D__law_point_told (mCons (mVar 7) mNil)) [7] [some (.ref n), some (.tup [pt x1 y1, pt x2 y2, pt x3 y3]), none, none, none, none, none, none, none] hd = some (.ref hd.length, hd ++ [.lst [hp x1 y1, hp x2 y2, hp x3 y3]]) := by
  simp (disch := decide) only [e_comp, e_iseq_tup, e_cons, e_nil, e_c, e_var, Option.bind_some, e_wipe1, e_wipe0, List.set_cons_zero, List.set_cons_succ, e_comp1 keep_nil, e_comp0 keep_nil, e_gnm, e_yes, e_call, List.getElem?_cons_zero, List.getElem?_cons_succ, told_ok, List.length_cons, List.length_nil, Nat.reduceAdd, Nat.reduceLeDiff, if_true]
theorem max9_ok {hd : Hd} {x1 y1 x2 y2 x3 y3 : Rat} {d : Int} {o1 o2 : Option D} : ∃ m zs, mComp (iSeq (mBin addD (mBin addD (mVar 4) (mVar 5)) (mVar 6))) (gNm 8) bYes (mCall absD (mCons (mVar 8) mNil)) [8] [o1, o2, some (.int d), none, some (hp x1 y1), some (hp x2 y2), some (hp x3 y3), none, none] hd = some (.ref hd.length, hd ++ [.lst zs]) ∧ maxD [.ref hd.length] (hd ++ [.lst zs]) = some (.int m, hd ++ [.lst zs]) := by
  refine ⟨maxI (if hX x1 y1 < 0 then -hX x1 y1 else hX x1 y1) ([hY x1 y1, hB x1 y1, hX x2 y2, hY x2 y2, hB x2 y2, hX x3 y3, hY x3 y3, hB x3 y3].map fun i => if i < 0 then -i else i), [hX x1 y1, hY x1 y1, hB x1 y1, hX x2 y2, hY x2 y2, hB x2 y2, hX x3 y3, hY x3 y3, hB x3 y3].map fun i => .int (if i < 0 then -i else i), ?_, ?_⟩
  rotate_left
  · exact e_maxr (by simp)
  · have c := comp_abs (v := 8) [hX x1 y1, hY x1 y1, hB x1 y1, hX x2 y2, hY x2 y2, hB x2 y2, hX x3 y3, hY x3 y3, hB x3 y3] hd [o1, o2, some (.int d), none, some (hp x1 y1), some (hp x2 y2), some (hp x3 y3), none, none] (by simp)
    simp only [List.map_cons, List.map_nil] at c
    unfold hp at c ⊢
    simp (disch := simp) only [e_comp, e_iseq_tup, e_bin, e_var, e_addtt, List.getElem?_cons_zero, List.getElem?_cons_succ, Option.bind_some, List.cons_append, List.nil_append, e_wipe1, e_wipe0, List.set_cons_zero, List.set_cons_succ, c, List.length_cons, List.length_nil, Nat.reduceAdd, Nat.reduceLeDiff, if_true, List.map_cons, List.map_nil]
theorem crs_bca (a b c d e f : Rat) : crs c d e f a b = crs a b c d e f := by unfold crs; grind
theorem crs_cab (a b c d e f : Rat) : crs e f a b c d = crs a b c d e f := by unfold crs; grind
theorem crs_bac (a b c d e f : Rat) : crs c d a b e f = -crs a b c d e f := by unfold crs; grind
theorem crs_acb (a b c d e f : Rat) : crs a b e f c d = -crs a b c d e f := by unfold crs; grind
theorem crs_cba (a b c d e f : Rat) : crs e f c d a b = -crs a b c d e f := by unfold crs; grind
theorem right_ok {n c : Nat} {hd : Hd} (P : Pot n hd c) (hc : c ≤ 70000) : ∃ hd', D__law_right [.ref n] hd = some (.bl true, hd') ∧ Kp n hd hd' := by
  obtain ⟨x1, y1, x2, y2, x3, y3, h1, e1, a1, b1, a2, b2, a3, b3, k1⟩ := three_ok P (by omega)
  generalize g2 : h1 ++ [.lst [hp x1 y1, hp x2 y2, hp x3 y3]] = h2
  have e2 : mComp (iSeq (mVar 1)) (gNm 7) bYes (mCall D__law_point_told (mCons (mVar 7) mNil)) [7] [some (.ref n), some (.tup [pt x1 y1, pt x2 y2, pt x3 y3]), none, none, none, none, none, none, none] h1 = some (.ref h1.length, h2) := by rw [← g2]; exact told3_ok
  have l2 : lsOf h2 h1.length = some [hp x1 y1, hp x2 y2, hp x3 y3] := by rw [← g2]; exact e_ls_new
  have e3 := pside_ok (hd := h2) (ax := x1) (ay := y1) (bx := x2) (by_ := y2) (cx := x3) (cy := y3) (by decide)
  obtain ⟨p1, p2, p3, f1⟩ := side_ok (hd := h2) (ax := x1) (ay := y1) (bx := x2) (by_ := y2) (cx := x3) (cy := y3) (by decide)
  generalize g3 : h2 ++ [p1, p2, p3] = h3 at f1
  obtain ⟨q1, q2, q3, f2⟩ := side_ok (hd := h3) (ax := x2) (ay := y2) (bx := x3) (by_ := y3) (cx := x1) (cy := y1) (by decide)
  generalize g4 : h3 ++ [q1, q2, q3] = h4 at f2
  obtain ⟨r1, r2, r3, f3⟩ := side_ok (hd := h4) (ax := x3) (ay := y3) (bx := x1) (by_ := y1) (cx := x2) (cy := y2) (by decide)
  generalize g5 : h4 ++ [r1, r2, r3] = h5 at f3
  rw [crs_bca] at f2
  rw [crs_cab] at f3
  have sd := sg_sz (crs x1 y1 x2 y2 x3 y3)
  generalize g6 : h5 ++ [.lst [.int (sg (crs x1 y1 x2 y2 x3 y3)), .int (sg (crs x1 y1 x2 y2 x3 y3)), .int (sg (crs x1 y1 x2 y2 x3 y3))]] = h6
  have l6 : lsOf h6 h5.length = some [.int (sg (crs x1 y1 x2 y2 x3 y3)), .int (sg (crs x1 y1 x2 y2 x3 y3)), .int (sg (crs x1 y1 x2 y2 x3 y3))] := by rw [← g6]; exact e_ls_new
  generalize g7 : h6 ++ [.lst [.int (sg (crs x1 y1 x2 y2 x3 y3)), .int (sg (crs x1 y1 x2 y2 x3 y3)), .int (sg (crs x1 y1 x2 y2 x3 y3))]] = h7
  have l7 : lsOf h7 h6.length = some [.int (sg (crs x1 y1 x2 y2 x3 y3)), .int (sg (crs x1 y1 x2 y2 x3 y3)), .int (sg (crs x1 y1 x2 y2 x3 y3))] := by rw [← g7]; exact e_ls_new
  obtain ⟨s1, s2, s3, f4⟩ := side_ok (hd := h7) (ax := x2) (ay := y2) (bx := x1) (by_ := y1) (cx := x3) (cy := y3) (by decide)
  generalize g8 : h7 ++ [s1, s2, s3] = h8 at f4
  obtain ⟨t1, t2, t3, f5⟩ := side_ok (hd := h8) (ax := x1) (ay := y1) (bx := x3) (by_ := y3) (cx := x2) (cy := y2) (by decide)
  generalize g9 : h8 ++ [t1, t2, t3] = h9 at f5
  obtain ⟨u1, u2, u3, f6⟩ := side_ok (hd := h9) (ax := x3) (ay := y3) (bx := x2) (by_ := y2) (cx := x1) (cy := y1) (by decide)
  generalize g10 : h9 ++ [u1, u2, u3] = h10 at f6
  rw [crs_bac, sg_neg] at f4
  rw [crs_acb, sg_neg] at f5
  rw [crs_cba, sg_neg] at f6
  generalize g11 : h10 ++ [.lst [.int (-sg (crs x1 y1 x2 y2 x3 y3)), .int (-sg (crs x1 y1 x2 y2 x3 y3)), .int (-sg (crs x1 y1 x2 y2 x3 y3))]] = h11
  have l11 : lsOf h11 h10.length = some [.int (-sg (crs x1 y1 x2 y2 x3 y3)), .int (-sg (crs x1 y1 x2 y2 x3 y3)), .int (-sg (crs x1 y1 x2 y2 x3 y3))] := by rw [← g11]; exact e_ls_new
  generalize g12 : h11 ++ [.lst [.int (-sg (crs x1 y1 x2 y2 x3 y3)), .int (-sg (crs x1 y1 x2 y2 x3 y3)), .int (-sg (crs x1 y1 x2 y2 x3 y3))]] = h12
  have l12 : lsOf h12 h11.length = some [.int (-sg (crs x1 y1 x2 y2 x3 y3)), .int (-sg (crs x1 y1 x2 y2 x3 y3)), .int (-sg (crs x1 y1 x2 y2 x3 y3))] := by rw [← g12]; exact e_ls_new
  have k12 : Kp n hd h12 := by
    rw [← g12, ← g11, ← g10, ← g9, ← g8, ← g7, ← g6, ← g5, ← g4, ← g3, ← g2]
    exact k1.trans ((Kp.app _).trans ((Kp.app _).trans ((Kp.app _).trans ((Kp.app _).trans ((Kp.app _).trans ((Kp.app _).trans ((Kp.app _).trans ((Kp.app _).trans ((Kp.app _).trans ((Kp.app _).trans (Kp.app _)))))))))))
  have r6 := repr_i3 l6
  have r7 := repr_i3 l7
  have r11 := repr_i3 l11
  have r12 := repr_i3 l12
  have gx1 : ∀ hd : Hd, idxD (hp x1 y1) (.int 2) hd = some (.int (hB x1 y1), hd) := fun hd => by unfold hp; simp
  have gx2 : ∀ hd : Hd, idxD (hp x2 y2) (.int 2) hd = some (.int (hB x2 y2), hd) := fun hd => by unfold hp; simp
  have gx3 : ∀ hd : Hd, idxD (hp x3 y3) (.int 2) hd = some (.int (hB x3 y3), hd) := fun hd => by unfold hp; simp
  obtain ⟨M, hM⟩ : ∃ M : Int, (if hB x2 y2 > hB x1 y1 then (if hB x3 y3 > hB x2 y2 then hB x3 y3 else hB x2 y2) else (if hB x3 y3 > hB x1 y1 then hB x3 y3 else hB x1 y1)) = M := ⟨_, rfl⟩
  have em : ∀ hd : Hd, maxD [.int (hB x1 y1), .int (hB x2 y2), .int (hB x3 y3)] hd = some (.int M, hd) := fun hd => by rw [e_max3, hM]
  obtain ⟨m, zs, e9, e9'⟩ := max9_ok (hd := h12) (x1 := x1) (y1 := y1) (x2 := x2) (y2 := y2) (x3 := x3) (y3 := y3) (d := sg (crs x1 y1 x2 y2 x3 y3)) (o1 := some (.ref n)) (o2 := some (.tup [pt x1 y1, pt x2 y2, pt x3 y3]))
  generalize g13 : h12 ++ [.lst zs] = h13 at e9 e9'
  have k13 : Kp n hd h13 := by rw [← g13]; exact k12.trans (.app _)
  by_cases hM1 : 1 < M
  · refine ⟨h12, ?_, k12⟩
    unfold D__law_right
    rw [e_fn (n := 1) (by rfl)]
    unfold F__law_right
    simp only [List.map_cons, List.map_nil, List.replicate, List.cons_append, List.nil_append]
    simp (disch := decide) only [e_seq, e_asg, e_gnm, e_par, e_ifs, e_skip, e_bcmp, e_btru, e_bnot, e_band, e_bor, e_tru_bl, e_if, e_un, e_neg, e_not, e_and, e_or, e_bin, e_var, e_c, e_ret, e_expr, e_tup, e_lst, e_call, e_cons, e_nil, e_gtp, e_gscons, e_gsnil, List.map_cons, List.map_nil, List.replicate, List.cons_append, List.nil_append, List.append_nil, List.getElem?_cons_zero, List.getElem?_cons_succ, List.set_cons_zero, List.set_cons_succ, Option.bind_some, Option.map_some, List.length_cons, List.length_nil, if_true, if_false, decide_true, decide_false, Bool.not_true, Bool.not_false, Bool.false_eq_true, Nat.reduceAdd, Nat.reduceLeDiff, e_ness, e_eqss, e_addii, e_subii, e_cmp, e_inti, e_intb, e_gtpr, e_ixt, at0, at1, at2, e1, e2, l2, e3, f1, f2, f3, g6, r6, g7, r7, f4, f5, f6, g11, r11, g12, r12, gx1, gx2, gx3, em, hM1, beq_self_eq_true]
  by_cases hm1 : 1000 < m
  · refine ⟨h13, ?_, k13⟩
    unfold D__law_right
    rw [e_fn (n := 1) (by rfl)]
    unfold F__law_right
    simp only [List.map_cons, List.map_nil, List.replicate, List.cons_append, List.nil_append]
    simp (disch := decide) only [e_seq, e_asg, e_gnm, e_par, e_ifs, e_skip, e_bcmp, e_btru, e_bnot, e_band, e_bor, e_tru_bl, e_if, e_un, e_neg, e_not, e_and, e_or, e_bin, e_var, e_c, e_ret, e_expr, e_tup, e_lst, e_call, e_cons, e_nil, e_gtp, e_gscons, e_gsnil, List.map_cons, List.map_nil, List.replicate, List.cons_append, List.nil_append, List.append_nil, List.getElem?_cons_zero, List.getElem?_cons_succ, List.set_cons_zero, List.set_cons_succ, Option.bind_some, Option.map_some, List.length_cons, List.length_nil, if_true, if_false, decide_true, decide_false, Bool.not_true, Bool.not_false, Bool.false_eq_true, Nat.reduceAdd, Nat.reduceLeDiff, e_ness, e_eqss, e_addii, e_subii, e_cmp, e_inti, e_intb, e_gtpr, e_ixt, at0, at1, at2, e1, e2, l2, e3, f1, f2, f3, g6, r6, g7, r7, f4, f5, f6, g11, r11, g12, r12, gx1, gx2, gx3, em, hM1, e9, e9', hm1, beq_self_eq_true]
  have w1 := hB_pos x1 y1
  have w2 := hB_pos x2 y2
  have w3 := hB_pos x3 y3
  have v1 : hB x1 y1 = 1 := by split at hM <;> split at hM <;> omega
  have v2 : hB x2 y2 = 1 := by split at hM <;> split at hM <;> omega
  have v3 : hB x3 y3 = 1 := by split at hM <;> split at hM <;> omega
  obtain ⟨i1, j1⟩ := whole_of v1
  obtain ⟨i2, j2⟩ := whole_of v2
  obtain ⟨i3, j3⟩ := whole_of v3
  have efar : D.tup [.int (hX x1 y1 + hX x2 y2 - hX x3 y3), .int (hY x1 y1 + hY x2 y2 - hY x3 y3), .int 1] = hp (x1 + x2 - x3) (y1 + y2 - y3) := by
    rw [← hp_int]
    congr 1
    · rw [Rat.intCast_sub, Rat.intCast_add, ← i1, ← i2, ← i3]
    · rw [Rat.intCast_sub, Rat.intCast_add, ← j1, ← j2, ← j3]
  obtain ⟨z1, z2, z3, f7⟩ := side_ok (hd := h13) (ax := x1) (ay := y1) (bx := x2) (by_ := y2) (cx := x1 + x2 - x3) (cy := y1 + y2 - y3) (by decide)
  rw [show crs x1 y1 x2 y2 (x1 + x2 - x3) (y1 + y2 - y3) = -crs x1 y1 x2 y2 x3 y3 by unfold crs; grind, sg_neg] at f7
  generalize g14 : h13 ++ [z1, z2, z3] = h14 at f7
  obtain ⟨z4, z5, z6, f8⟩ := btw_ok (hd := h14) (x := x1 + x2 - x3) (y := y1 + y2 - y3) (u := x3) (v := y3) (s := half) (by decide) half_nn half_le
  generalize g15 : h14 ++ [z4, z5, z6] = h15 at f8
  obtain ⟨z7, z8, z9, f9⟩ := btw_ok (hd := h15) (x := x1) (y := y1) (u := x2) (v := y2) (s := half) (by decide) half_nn half_le
  generalize g16 : h15 ++ [z7, z8, z9] = h16 at f9
  have q : half = 1 / 2 := by have := half_two; grind
  rw [show x1 + x2 - x3 + half * (x3 - (x1 + x2 - x3)) = x1 + half * (x2 - x1) by rw [q]; grind, show y1 + y2 - y3 + half * (y3 - (y1 + y2 - y3)) = y1 + half * (y2 - y1) by rw [q]; grind] at f8
  obtain ⟨z, rz⟩ := repr_hpz (x := x1 + half * (x2 - x1)) (y := y1 + half * (y2 - y1)) (by decide)
  have ri : ∀ hd : Hd, reprD [.int (-sg (crs x1 y1 x2 y2 x3 y3))] hd = some (.str (PyData.shown (.int (-sg (crs x1 y1 x2 y2 x3 y3)))), hd) := fun hd => repr_i1
  have k16 : Kp n hd h16 := by rw [← g16, ← g15, ← g14]; exact k13.trans ((Kp.app _).trans ((Kp.app _).trans (Kp.app _)))
  have x0 : ∀ {x y : Rat} {hd : Hd}, idxD (hp x y) (.int 0) hd = some (.int (hX x y), hd) := by intro x y hd; unfold hp; simp
  have y0 : ∀ {x y : Rat} {hd : Hd}, idxD (hp x y) (.int 1) hd = some (.int (hY x y), hd) := by intro x y hd; unfold hp; simp
  refine ⟨h16, ?_, k16⟩
  unfold D__law_right
  rw [e_fn (n := 1) (by rfl)]
  unfold F__law_right
  simp only [List.map_cons, List.map_nil, List.replicate, List.cons_append, List.nil_append]
  simp (disch := decide) only [e_seq, e_asg, e_gnm, e_par, e_ifs, e_skip, e_bcmp, e_btru, e_bnot, e_band, e_bor, e_tru_bl, e_if, e_un, e_neg, e_not, e_and, e_or, e_bin, e_var, e_c, e_ret, e_expr, e_tup, e_lst, e_call, e_cons, e_nil, e_gtp, e_gscons, e_gsnil, List.map_cons, List.map_nil, List.replicate, List.cons_append, List.nil_append, List.append_nil, List.getElem?_cons_zero, List.getElem?_cons_succ, List.set_cons_zero, List.set_cons_succ, Option.bind_some, Option.map_some, List.length_cons, List.length_nil, if_true, if_false, decide_true, decide_false, Bool.not_true, Bool.not_false, Bool.false_eq_true, Nat.reduceAdd, Nat.reduceLeDiff, e_ness, e_eqss, e_addii, e_subii, e_cmp, e_inti, e_intb, e_gtpr, e_ixt, at0, at1, at2, e1, e2, l2, e3, f1, f2, f3, g6, r6, g7, r7, f4, f5, f6, g11, r11, g12, r12, gx1, gx2, gx3, em, hM1, e9, e9', hm1, x0, y0, efar, f7, ri, fr_half, f8, f9, rz, beq_self_eq_true]
theorem loop_ok {m : Nat} {ns : List Int} (hn : ns.length ≤ 63) {all : List D} : ∀ (ds : List D) (hd : Hd), (∀ d ∈ ds, ∃ k : Nat, d = .int (k : Nat) ∧ k ≤ 63) → lsOf hd m = some all →
    ∃ hd', compL [(m, all)] (gNm 1) bYes (mCall D__law_right (mCons (mCall D__law_pot (mCons (mVar 0) (mCons (mVar 1) mNil))) mNil)) [some (.fls (ns.map .int)), none] ds hd = some (ds.map fun _ => .bl true, hd') ∧ lsOf hd' m = some all
  | [], hd, _, hl => ⟨hd, by rw [e_comp0 (by simp [hl])]; rfl, hl⟩
  | d :: ds, hd, h, hl => by
    obtain ⟨k, rfl, hk⟩ := h d (by simp)
    have hm : m < hd.length := (List.getElem?_eq_some_iff.mp (lsOf_of hl)).1
    obtain ⟨p, h1, e1, P1, lp, l, rfl⟩ := pot_ok (hd := hd) (ns := ns) (pl := k) hk hn
    obtain ⟨h2, e2, k2⟩ := right_ok P1 (by omega)
    have hl1 : lsOf (hd ++ l) m = some all := lsOf_get (by rw [List.getElem?_append_left hm]; exact lsOf_of hl)
    have hl2 := k2.ls (by omega) hl1
    obtain ⟨h3, e3, hl3⟩ := loop_ok hn ds h2 (fun d hd => h d (by simp [hd])) hl2
    refine ⟨h3, ?_, hl3⟩
    rw [e_comp1 (by simp [hl])]
    simp only [e_gnm, Option.bind_some, e_yes, if_true, List.set_cons_succ, List.set_cons_zero, e_call, e_cons, e_nil, e_var, List.getElem?_cons_zero, List.getElem?_cons_succ, e1, e2, e3, List.map_cons]
theorem bls_true {α : Type} : ∀ (l : List α), blsOf (l.map fun _ => D.bl true) = some (l.map fun _ => true)
  | [] => rfl
  | _ :: l => by simp [bls_true l]
theorem law_true (ns : List Int) (hn : ns.length ≤ 63) : ∃ hd', D_law [.fls (ns.map .int)] [] = some (.bl true, hd') := by
  obtain ⟨j, j1, j2, ec⟩ := cells_ok (hd := []) (ns := ns) (u := 2) (by decide) (by decide)
  obtain ⟨h1, e1, _⟩ := loop_ok (m := 0) hn (all := rangeL 0 (j : Nat)) (rangeL 0 (j : Nat)) [.lst (rangeL 0 (j : Nat))] (fun d hd => by
    unfold rangeL at hd
    obtain ⟨i, hi, rfl⟩ := List.mem_map.mp hd
    rw [List.mem_range] at hi
    exact ⟨i, by simp, by omega⟩) (by simp [lsOf])
  refine ⟨h1 ++ [.lst ((rangeL 0 (j : Nat)).map fun _ => .bl true)], ?_⟩
  unfold D_law
  rw [e_fn (n := 1) (by rfl)]
  unfold F_law
  have ec' : D__law_cells [.fls (ns.map .int), .int 2] [] = some (.ref 0, [.lst (rangeL 0 (j : Nat))]) := ec
  simp only [e_ret, e_call, e_cons, e_nil, e_comp, e_iseq_tup, e_var, e_c, List.map_cons, List.map_nil, List.replicate, List.cons_append, List.nil_append, List.getElem?_cons_zero, List.getElem?_cons_succ, Option.bind_some, ec', show lsOf [Ob.lst (rangeL 0 (j : Nat))] 0 = some (rangeL 0 (j : Nat)) by simp [lsOf], Option.map_some, e_wipe1, e_wipe0, List.set_cons_succ, List.set_cons_zero, e1, List.length_map]
  rw [if_pos (by rw [rangeL_len]; omega)]
  simp only [Option.bind_some, e_all, e_ls_new, bls_true, Option.map_some]
  congr 3
  simp
section
variable {P : Program} {w : World} {K : PySem.W.Frag} {mg : Str → Option Value} {base : Heap}
theorem df__law_pot (N : Nms mg)  {f : Addr} (F : ∃ fd, FunD K "_law_pot" "_law_pot" (defArgs s__law_pot) (defBody s__law_pot) (defScope s__law_pot) [] [] f fd) (g : mg "_law_pot" = some (.ref f)) : Df P w K mg base 1 "_law_pot" ["script", "place"] D__law_pot := by
  refine df_of F g sc__law_pot rfl rfl (fun _ _ _ _ _ _ us hl => match us, hl with | [_, _], _ => rfl) fun cdv A outer s H hr hG => ?_
  unfold F__law_pot
  exact (psm_cons (psm_asg (pm_if (pt_cm om_lt (pm_var (pv 1)) (pm_callB cm_len rfl N.n_len boot_len (pm_cons (pm_var (pv 0)) pm_nil)) (nomark _)) (pm_ix (pm_var (pv 0)) (pm_var (pv 1))) (pm_bin om_add (pm_bin om_add (pm_bin om_mod (pm_callB (cm_sum rfl) rfl N.n_sum boot_sum (pm_cons (pm_sl (pm_var (pv 0)) pom_none (pom_some pm_int)) pm_nil)) pm_int) (pm_bin om_mul pm_int (pm_var (pv 1)))) pm_int)) (pgm_name (i := 2) sc__law_pot.nd rfl (by first | exact .inl rfl | exact .inr rfl))) (psm_cons (psm_asg (pm_bin om_mul (pm_bin om_mod (pm_callTy cm_int rfl N.n_int boot_int (pm_cons (pm_callB cm_abs rfl N.n_abs boot_abs (pm_cons (pm_var (pv 2)) pm_nil)) pm_nil)) (pm_bin om_pow (pm_bin om_pow pm_int pm_int) pm_int)) (pm_callTy cm_int rfl N.n_int boot_int (pm_cons (pm_cmp om_ge (pm_callB cm_abs rfl N.n_abs boot_abs (pm_cons (pm_var (pv 2)) pm_nil)) (pm_bin om_pow pm_int pm_int) (nomark _)) pm_nil))) (pgm_name (i := 3) sc__law_pot.nd rfl (by first | exact .inl rfl | exact .inr rfl))) (psm_cons (psm_asg (pm_bin om_mod (pm_callTy cm_int rfl N.n_int boot_int (pm_cons (pm_var (pv 2)) pm_nil)) pm_int) (pgm_name (i := 4) sc__law_pot.nd rfl (by first | exact .inl rfl | exact .inr rfl))) (psm_one (psm_ret (pm_lst (pm_cons (pm_var (pv 3)) (pm_cons (pm_bin om_mod (pm_callTy cm_int rfl N.n_int boot_int (pm_cons (pm_bin om_add (pm_bin om_add (pm_bin om_mul (pm_var (pv 4)) pm_int) (pm_bin om_mul (pm_bin om_mul pm_int (pm_var (pv 1))) (pm_var (pv 1)))) pm_int) pm_nil)) pm_int) (pm_cons pm_int pm_nil)))))))))
theorem df__law_cells (N : Nms mg)  {f : Addr} (F : ∃ fd, FunD K "_law_cells" "_law_cells" (defArgs s__law_cells) (defBody s__law_cells) (defScope s__law_cells) [] [] f fd) (g : mg "_law_cells" = some (.ref f)) : Df P w K mg base 1 "_law_cells" ["script", "most"] D__law_cells := by
  refine df_of F g sc__law_cells rfl rfl (fun _ _ _ _ _ _ us hl => match us, hl with | [_, _], _ => rfl) fun cdv A outer s H hr hG => ?_
  unfold F__law_cells
  exact (psm_one (psm_ret (pm_listRg1 rfl rfl N.n_list rfl N.n_range (pm_callB (cm_max rfl) rfl N.n_max boot_max (pm_cons pm_int (pm_cons (pm_callB (cm_min rfl) rfl N.n_min boot_min (pm_cons (pm_var (pv 1)) (pm_cons (pm_callB cm_len rfl N.n_len boot_len (pm_cons (pm_var (pv 0)) pm_nil)) pm_nil))) pm_nil))))))
theorem df_turn (N : Nms mg)  {f : Addr} (F : ∃ fd, FunD K "turn" "turn" (defArgs s_turn) (defBody s_turn) (defScope s_turn) [] [] f fd) (g : mg "turn" = some (.ref f)) : Df P w K mg base 1 "turn" ["a", "b", "c"] D_turn := by
  refine df_of F g sc_turn rfl rfl (fun _ _ _ _ _ _ us hl => match us, hl with | [_, _, _], _ => rfl) fun cdv A outer s H hr hG => ?_
  unfold F_turn
  exact (psm_cons (psm_asg (pm_bin om_add (pm_bin om_sub (pm_bin om_mul (pm_ix (pm_var (pv 0)) pm_int) (pm_bin om_sub (pm_bin om_mul (pm_ix (pm_var (pv 1)) pm_int) (pm_ix (pm_var (pv 2)) pm_int)) (pm_bin om_mul (pm_ix (pm_var (pv 1)) pm_int) (pm_ix (pm_var (pv 2)) pm_int)))) (pm_bin om_mul (pm_ix (pm_var (pv 0)) pm_int) (pm_bin om_sub (pm_bin om_mul (pm_ix (pm_var (pv 1)) pm_int) (pm_ix (pm_var (pv 2)) pm_int)) (pm_bin om_mul (pm_ix (pm_var (pv 1)) pm_int) (pm_ix (pm_var (pv 2)) pm_int))))) (pm_bin om_mul (pm_ix (pm_var (pv 0)) pm_int) (pm_bin om_sub (pm_bin om_mul (pm_ix (pm_var (pv 1)) pm_int) (pm_ix (pm_var (pv 2)) pm_int)) (pm_bin om_mul (pm_ix (pm_var (pv 1)) pm_int) (pm_ix (pm_var (pv 2)) pm_int))))) (pgm_name (i := 3) sc_turn.nd rfl (by first | exact .inl rfl | exact .inr rfl))) (psm_cons (psm_if (pt_cm (om_eq hr.units) (pm_var (pv 3)) pm_int (nomark _)) (psm_one (psm_ret pm_int)) psm_nil) (psm_one (psm_ret (pm_if (pt_cm om_gt (pm_var (pv 3)) pm_int (nomark _)) pm_int (pm_un um_neg pm_int))))))
theorem df_is_whole_number (N : Nms mg)  {f : Addr} (F : ∃ fd, FunD K "is_whole_number" "is_whole_number" (defArgs s_is_whole_number) (defBody s_is_whole_number) (defScope s_is_whole_number) [] [] f fd) (g : mg "is_whole_number" = some (.ref f)) : Df P w K mg base 1 "is_whole_number" ["value"] D_is_whole_number := by
  refine df_of F g sc_is_whole_number rfl rfl (fun _ _ _ _ _ _ us hl => match us, hl with | [_], _ => rfl) fun cdv A outer s H hr hG => ?_
  unfold F_is_whole_number
  exact (psm_one (psm_ret (pm_and (pm_callB cm_isi rfl N.n_isinstance boot_isinstance (pm_cons (pm_var (pv 0)) (pm_cons (pm_raw (pe_bltn rfl N.n_int boot_int rfl)) pm_nil))) (pm_one (pm_not (pm_callB cm_isi rfl N.n_isinstance boot_isinstance (pm_cons (pm_var (pv 0)) (pm_cons (pm_raw (pe_bltn rfl N.n_bool boot_bool rfl)) pm_nil))))))))
theorem df_are_integers (N : Nms mg) (c_is_whole_number : Df P w K mg base 1 "is_whole_number" ["value"] D_is_whole_number) {f : Addr} (F : ∃ fd, FunD K "are_integers" "are_integers" (defArgs s_are_integers) (defBody s_are_integers) (defScope s_are_integers) [] [] f fd) (g : mg "are_integers" = some (.ref f)) : Df P w K mg base 2 "are_integers" ["value", "many"] D_are_integers := by
  refine df_of F g sc_are_integers rfl rfl (fun _ _ _ _ _ _ us hl => match us, hl with | [_, _], _ => rfl) fun cdv A outer s H hr hG => ?_
  unfold F_are_integers
  exact (psm_one (psm_ret (pm_and (pm_callB cm_isi rfl N.n_isinstance boot_isinstance (pm_cons (pm_var (pv 0)) (pm_cons (pm_raw (pe_bltn rfl N.n_tuple boot_tuple rfl)) pm_nil))) (pm_and (pm_cmp (om_eq hr.units) (pm_callB cm_len rfl N.n_len boot_len (pm_cons (pm_var (pv 0)) pm_nil)) (pm_var (pv 1)) (nomark _)) (pm_one (pm_callB (cm_all rfl) rfl N.n_all boot_all (pm_cons (pm_comp (own := [("part", 2)]) rfl sc_are_integers.nd (pim_seq (pm_var (pv 0))) (blkOk_by (own := [("part", 2)]) (N := N_are_integers) (sc := defScope s_are_integers) (by decide +kernel)) (by decide) (fun _ _ _ _ _ => (pgm_name (i := 2) sc_are_integers.nd rfl (by first | exact .inl rfl | exact .inr rfl))) (fun _ _ _ _ _ => ptsm_nil) (fun _ _ _ _ _ => (pm_callD c_is_whole_number (hr.mono (by decide)) hG rfl (pm_cons (pm_var (pv 2)) pm_nil)))) pm_nil)))))))
theorem df_is_point (N : Nms mg) (c_are_integers : Df P w K mg base 2 "are_integers" ["value", "many"] D_are_integers) {f : Addr} (F : ∃ fd, FunD K "is_point" "is_point" (defArgs s_is_point) (defBody s_is_point) (defScope s_is_point) [] [] f fd) (g : mg "is_point" = some (.ref f)) : Df P w K mg base 3 "is_point" ["value"] D_is_point := by
  refine df_of F g sc_is_point rfl rfl (fun _ _ _ _ _ _ us hl => match us, hl with | [_], _ => rfl) fun cdv A outer s H hr hG => ?_
  unfold F_is_point
  exact (psm_one (psm_ret (pm_and (pm_callD c_are_integers (hr.mono (by decide)) hG rfl (pm_cons (pm_var (pv 0)) (pm_cons pm_int pm_nil))) (pm_and (pm_cmp om_ge (pm_ix (pm_var (pv 0)) pm_int) pm_int (nomark _)) (pm_one (pm_cmp (om_eq hr.units) (pm_callF cm_gcd rfl N.g_gcd (pm_cons (pm_ix (pm_var (pv 0)) pm_int) (pm_cons (pm_ix (pm_var (pv 0)) pm_int) (pm_cons (pm_ix (pm_var (pv 0)) pm_int) pm_nil)))) pm_int (nomark _)))))))
theorem df_check_points (N : Nms mg) (c_is_point : Df P w K mg base 3 "is_point" ["value"] D_is_point) {f : Addr} (F : ∃ fd, FunD K "check_points" "check_points" (defArgs s_check_points) (defBody s_check_points) (defScope s_check_points) [] [] f fd) (g : mg "check_points" = some (.ref f)) : Df P w K mg base 4 "check_points" ["values"] D_check_points := by
  refine df_of F g sc_check_points rfl rfl (fun _ _ _ _ _ _ us hl => match us, hl with | [_], _ => rfl) fun cdv A outer s H hr hG => ?_
  unfold F_check_points
  exact (psm_one (psm_for PassesOwn.never rfl (pim_seq (pm_var (pv 0))) (pgm_name (i := 1) sc_check_points.nd rfl (by first | exact .inl rfl | exact .inr rfl)) (psm_one (psm_if (ptm_not (pt_tru (pm_callD c_is_point (hr.mono (by decide)) hG rfl (pm_cons (pm_var (pv 1)) pm_nil)))) (psm_one psm_never) psm_nil))))
theorem df_side (N : Nms mg) (c_turn : Df P w K mg base 1 "turn" ["a", "b", "c"] D_turn) (c_check_points : Df P w K mg base 4 "check_points" ["values"] D_check_points) {f : Addr} (F : ∃ fd, FunD K "side" "side" (defArgs s_side) (defBody s_side) (defScope s_side) [] [] f fd) (g : mg "side" = some (.ref f)) : Df P w K mg base 5 "side" ["a", "b", "c"] D_side := by
  refine df_of F g sc_side rfl rfl (fun _ _ _ _ _ _ us hl => match us, hl with | [_, _, _], _ => rfl) fun cdv A outer s H hr hG => ?_
  unfold F_side
  exact (psm_cons (psm_expr (pm_callD c_check_points (hr.mono (by decide)) hG rfl (pm_cons (pm_tup (pm_cons (pm_var (pv 0)) (pm_cons (pm_var (pv 1)) (pm_cons (pm_var (pv 2)) pm_nil)))) pm_nil))) (psm_one (psm_ret (pm_callD c_turn (hr.mono (by decide)) hG rfl (pm_cons (pm_var (pv 0)) (pm_cons (pm_var (pv 1)) (pm_cons (pm_var (pv 2)) pm_nil)))))))
theorem df_point_at (N : Nms mg)  {f : Addr} (F : ∃ fd, FunD K "point_at" "point_at" (defArgs s_point_at) (defBody s_point_at) (defScope s_point_at) [] [] f fd) (g : mg "point_at" = some (.ref f)) : Df P w K mg base 1 "point_at" ["x", "y", "bottom"] D_point_at := by
  refine df_of F g sc_point_at rfl rfl (fun _ _ _ _ _ _ us hl => match us, hl with | [_, _, _], _ => rfl) fun cdv A outer s H hr hG => ?_
  unfold F_point_at
  exact (psm_cons (psm_asg (pm_callF cm_gcd rfl N.g_gcd (pm_cons (pm_var (pv 0)) (pm_cons (pm_var (pv 1)) (pm_cons (pm_var (pv 2)) pm_nil)))) (pgm_name (i := 3) sc_point_at.nd rfl (by first | exact .inl rfl | exact .inr rfl))) (psm_cons (psm_if (pt_cm om_lt (pm_var (pv 2)) pm_int (nomark _)) (psm_one (psm_asg (pm_un um_neg (pm_var (pv 3))) (pgm_name (i := 3) sc_point_at.nd rfl (by first | exact .inl rfl | exact .inr rfl)))) psm_nil) (psm_one (psm_ret (pm_tup (pm_cons (pm_bin om_div (pm_var (pv 0)) (pm_var (pv 3))) (pm_cons (pm_bin om_div (pm_var (pv 1)) (pm_var (pv 3))) (pm_cons (pm_bin om_div (pm_var (pv 2)) (pm_var (pv 3))) pm_nil))))))))
theorem df_point_between (N : Nms mg) (c_point_at : Df P w K mg base 1 "point_at" ["x", "y", "bottom"] D_point_at) {f : Addr} (F : ∃ fd, FunD K "point_between" "point_between" (defArgs s_point_between) (defBody s_point_between) (defScope s_point_between) [] [] f fd) (g : mg "point_between" = some (.ref f)) : Df P w K mg base 2 "point_between" ["a", "b", "share"] D_point_between := by
  refine df_of F g sc_point_between rfl rfl (fun _ _ _ _ _ _ us hl => match us, hl with | [_, _, _], _ => rfl) fun cdv A outer s H hr hG => ?_
  unfold F_point_between
  exact (psm_cons (psm_asg (pm_bin om_mul (pm_ix (pm_var (pv 2)) pm_int) (pm_ix (pm_var (pv 0)) pm_int)) (pgm_name (i := 3) sc_point_between.nd rfl (by first | exact .inl rfl | exact .inr rfl))) (psm_cons (psm_asg (pm_bin om_mul (pm_bin om_sub (pm_ix (pm_var (pv 2)) pm_int) (pm_ix (pm_var (pv 2)) pm_int)) (pm_ix (pm_var (pv 1)) pm_int)) (pgm_name (i := 4) sc_point_between.nd rfl (by first | exact .inl rfl | exact .inr rfl))) (psm_one (psm_ret (pm_callD c_point_at (hr.mono (by decide)) hG rfl (pm_cons (pm_bin om_add (pm_bin om_mul (pm_ix (pm_var (pv 0)) pm_int) (pm_var (pv 4))) (pm_bin om_mul (pm_ix (pm_var (pv 1)) pm_int) (pm_var (pv 3)))) (pm_cons (pm_bin om_add (pm_bin om_mul (pm_ix (pm_var (pv 0)) pm_int) (pm_var (pv 4))) (pm_bin om_mul (pm_ix (pm_var (pv 1)) pm_int) (pm_var (pv 3)))) (pm_cons (pm_bin om_mul (pm_bin om_mul (pm_ix (pm_var (pv 0)) pm_int) (pm_ix (pm_var (pv 1)) pm_int)) (pm_ix (pm_var (pv 2)) pm_int)) pm_nil))))))))
theorem df_is_fraction (N : Nms mg) (c_are_integers : Df P w K mg base 2 "are_integers" ["value", "many"] D_are_integers) {f : Addr} (F : ∃ fd, FunD K "is_fraction" "is_fraction" (defArgs s_is_fraction) (defBody s_is_fraction) (defScope s_is_fraction) [] [] f fd) (g : mg "is_fraction" = some (.ref f)) : Df P w K mg base 3 "is_fraction" ["value"] D_is_fraction := by
  refine df_of F g sc_is_fraction rfl rfl (fun _ _ _ _ _ _ us hl => match us, hl with | [_], _ => rfl) fun cdv A outer s H hr hG => ?_
  unfold F_is_fraction
  exact (psm_one (psm_ret (pm_and (pm_callD c_are_integers (hr.mono (by decide)) hG rfl (pm_cons (pm_var (pv 0)) (pm_cons pm_int pm_nil))) (pm_and (pm_cmp om_ge (pm_ix (pm_var (pv 0)) pm_int) pm_int (nomark _)) (pm_one (pm_cmp (om_eq hr.units) (pm_callF cm_gcd rfl N.g_gcd (pm_cons (pm_ix (pm_var (pv 0)) pm_int) (pm_cons (pm_ix (pm_var (pv 0)) pm_int) pm_nil))) pm_int (nomark _)))))))
theorem df_is_share (N : Nms mg) (c_is_fraction : Df P w K mg base 3 "is_fraction" ["value"] D_is_fraction) {f : Addr} (F : ∃ fd, FunD K "is_share" "is_share" (defArgs s_is_share) (defBody s_is_share) (defScope s_is_share) [] [] f fd) (g : mg "is_share" = some (.ref f)) : Df P w K mg base 4 "is_share" ["value"] D_is_share := by
  refine df_of F g sc_is_share rfl rfl (fun _ _ _ _ _ _ us hl => match us, hl with | [_], _ => rfl) fun cdv A outer s H hr hG => ?_
  unfold F_is_share
  exact (psm_one (psm_ret (pm_and (pm_callD c_is_fraction (hr.mono (by decide)) hG rfl (pm_cons (pm_var (pv 0)) pm_nil)) (pm_one (pm_chain om_le om_le pm_int (pm_ix (pm_var (pv 0)) pm_int) (pm_ix (pm_var (pv 0)) pm_int))))))
theorem df_between (N : Nms mg) (c_point_between : Df P w K mg base 2 "point_between" ["a", "b", "share"] D_point_between) (c_is_share : Df P w K mg base 4 "is_share" ["value"] D_is_share) (c_check_points : Df P w K mg base 4 "check_points" ["values"] D_check_points) {f : Addr} (F : ∃ fd, FunD K "between" "between" (defArgs s_between) (defBody s_between) (defScope s_between) [] [] f fd) (g : mg "between" = some (.ref f)) : Df P w K mg base 5 "between" ["a", "b", "share"] D_between := by
  refine df_of F g sc_between rfl rfl (fun _ _ _ _ _ _ us hl => match us, hl with | [_, _, _], _ => rfl) fun cdv A outer s H hr hG => ?_
  unfold F_between
  exact (psm_cons (psm_expr (pm_callD c_check_points (hr.mono (by decide)) hG rfl (pm_cons (pm_tup (pm_cons (pm_var (pv 0)) (pm_cons (pm_var (pv 1)) pm_nil))) pm_nil))) (psm_cons (psm_if (ptm_not (pt_tru (pm_callD c_is_share (hr.mono (by decide)) hG rfl (pm_cons (pm_var (pv 2)) pm_nil)))) (psm_one psm_never) psm_nil) (psm_one (psm_ret (pm_callD c_point_between (hr.mono (by decide)) hG rfl (pm_cons (pm_var (pv 0)) (pm_cons (pm_var (pv 1)) (pm_cons (pm_var (pv 2)) pm_nil))))))))
theorem df__law_frac_common (N : Nms mg)  {f : Addr} (F : ∃ fd, FunD K "_law_frac_common" "_law_frac_common" (defArgs s__law_frac_common) (defBody s__law_frac_common) (defScope s__law_frac_common) [] [] f fd) (g : mg "_law_frac_common" = some (.ref f)) : Df P w K mg base 1 "_law_frac_common" ["one", "other"] D__law_frac_common := by
  refine df_of F g sc__law_frac_common rfl rfl (fun _ _ _ _ _ _ us hl => match us, hl with | [_, _], _ => rfl) fun cdv A outer s H hr hG => ?_
  unfold F__law_frac_common
  exact (psm_cons (psm_par (i := 0) (j := 1) rfl sc__law_frac_common.nd rfl rfl (by decide) rfl rfl (pm_cons (pm_callB cm_abs rfl N.n_abs boot_abs (pm_cons (pm_var (pv 0)) pm_nil)) (pm_cons (pm_callB cm_abs rfl N.n_abs boot_abs (pm_cons (pm_var (pv 1)) pm_nil)) pm_nil)) (by rfl)) (psm_cons (psm_while fuel__law_frac_common PassesOwn.never (pt_cm om_gt (pm_var (pv 1)) pm_int (nomark _)) (psm_one (psm_par (i := 0) (j := 1) rfl sc__law_frac_common.nd rfl rfl (by decide) rfl rfl (pm_cons (pm_var (pv 1)) (pm_cons (pm_bin om_mod (pm_callTy cm_int rfl N.n_int boot_int (pm_cons (pm_var (pv 0)) pm_nil)) (pm_var (pv 1))) pm_nil)) (by rfl)))) (psm_one (psm_ret (pm_var (pv 0))))))
theorem df__law_point_told (N : Nms mg) (c__law_frac_common : Df P w K mg base 1 "_law_frac_common" ["one", "other"] D__law_frac_common) {f : Addr} (F : ∃ fd, FunD K "_law_point_told" "_law_point_told" (defArgs s__law_point_told) (defBody s__law_point_told) (defScope s__law_point_told) [] [] f fd) (g : mg "_law_point_told" = some (.ref f)) : Df P w K mg base 2 "_law_point_told" ["point"] D__law_point_told := by
  refine df_of F g sc__law_point_told rfl rfl (fun _ _ _ _ _ _ us hl => match us, hl with | [_], _ => rfl) fun cdv A outer s H hr hG => ?_
  unfold F__law_point_told
  exact (psm_cons (psm_asg (pm_var (pv 0)) (pgm_tup rfl (pgsm_cons (pgm_tup rfl (pgsm_cons (pgm_name (i := 2) sc__law_point_told.nd rfl (by first | exact .inl rfl | exact .inr rfl)) (pgsm_cons (pgm_name (i := 3) sc__law_point_told.nd rfl (by first | exact .inl rfl | exact .inr rfl)) pgsm_nil)) (gsCons_len (gsCons_len gsNil_len))) (pgsm_cons (pgm_tup rfl (pgsm_cons (pgm_name (i := 4) sc__law_point_told.nd rfl (by first | exact .inl rfl | exact .inr rfl)) (pgsm_cons (pgm_name (i := 5) sc__law_point_told.nd rfl (by first | exact .inl rfl | exact .inr rfl)) pgsm_nil)) (gsCons_len (gsCons_len gsNil_len))) pgsm_nil)) (gsCons_len (gsCons_len gsNil_len)))) (psm_cons (psm_asg (pm_callD c__law_frac_common (hr.mono (by decide)) hG rfl (pm_cons (pm_var (pv 3)) (pm_cons (pm_var (pv 5)) pm_nil))) (pgm_name (i := 1) sc__law_point_told.nd rfl (by first | exact .inl rfl | exact .inr rfl))) (psm_one (psm_ret (pm_tup (pm_cons (pm_bin om_mul (pm_var (pv 2)) (pm_bin om_div (pm_var (pv 5)) (pm_var (pv 1)))) (pm_cons (pm_bin om_mul (pm_var (pv 4)) (pm_bin om_div (pm_var (pv 3)) (pm_var (pv 1)))) (pm_cons (pm_bin om_mul (pm_bin om_div (pm_var (pv 3)) (pm_var (pv 1))) (pm_var (pv 5))) pm_nil))))))))
theorem df__law_frac (N : Nms mg) (c__law_frac_common : Df P w K mg base 1 "_law_frac_common" ["one", "other"] D__law_frac_common) {f : Addr} (F : ∃ fd, FunD K "_law_frac" "_law_frac" (defArgs s__law_frac) (defBody s__law_frac) (defScope s__law_frac) [] [] f fd) (g : mg "_law_frac" = some (.ref f)) : Df P w K mg base 2 "_law_frac" ["top", "bottom"] D__law_frac := by
  refine df_of F g sc__law_frac rfl rfl (fun _ _ _ _ _ _ us hl => match us, hl with | [_, _], _ => rfl) fun cdv A outer s H hr hG => ?_
  unfold F__law_frac
  exact (psm_cons (psm_asg (pm_callD c__law_frac_common (hr.mono (by decide)) hG rfl (pm_cons (pm_var (pv 0)) (pm_cons (pm_var (pv 1)) pm_nil))) (pgm_name (i := 2) sc__law_frac.nd rfl (by first | exact .inl rfl | exact .inr rfl))) (psm_cons (psm_asg (pm_if (pt_cm om_gt (pm_var (pv 1)) pm_int (nomark _)) (pm_var (pv 2)) (pm_un um_neg (pm_var (pv 2)))) (pgm_name (i := 2) sc__law_frac.nd rfl (by first | exact .inl rfl | exact .inr rfl))) (psm_one (psm_ret (pm_tup (pm_cons (pm_bin om_div (pm_var (pv 0)) (pm_var (pv 2))) (pm_cons (pm_bin om_div (pm_var (pv 1)) (pm_var (pv 2))) pm_nil)))))))
theorem df__law_frac_less (N : Nms mg) (c__law_frac : Df P w K mg base 2 "_law_frac" ["top", "bottom"] D__law_frac) {f : Addr} (F : ∃ fd, FunD K "_law_frac_less" "_law_frac_less" (defArgs s__law_frac_less) (defBody s__law_frac_less) (defScope s__law_frac_less) [] [] f fd) (g : mg "_law_frac_less" = some (.ref f)) : Df P w K mg base 3 "_law_frac_less" ["one", "other"] D__law_frac_less := by
  refine df_of F g sc__law_frac_less rfl rfl (fun _ _ _ _ _ _ us hl => match us, hl with | [_, _], _ => rfl) fun cdv A outer s H hr hG => ?_
  unfold F__law_frac_less
  exact (psm_one (psm_ret (pm_callD c__law_frac (hr.mono (by decide)) hG rfl (pm_cons (pm_bin om_sub (pm_bin om_mul (pm_ix (pm_var (pv 0)) pm_int) (pm_ix (pm_var (pv 1)) pm_int)) (pm_bin om_mul (pm_ix (pm_var (pv 1)) pm_int) (pm_ix (pm_var (pv 0)) pm_int))) (pm_cons (pm_bin om_mul (pm_ix (pm_var (pv 0)) pm_int) (pm_ix (pm_var (pv 1)) pm_int)) pm_nil)))))
theorem df__law_point_less (N : Nms mg) (c__law_frac_less : Df P w K mg base 3 "_law_frac_less" ["one", "other"] D__law_frac_less) {f : Addr} (F : ∃ fd, FunD K "_law_point_less" "_law_point_less" (defArgs s__law_point_less) (defBody s__law_point_less) (defScope s__law_point_less) [] [] f fd) (g : mg "_law_point_less" = some (.ref f)) : Df P w K mg base 4 "_law_point_less" ["one", "other"] D__law_point_less := by
  refine df_of F g sc__law_point_less rfl rfl (fun _ _ _ _ _ _ us hl => match us, hl with | [_, _], _ => rfl) fun cdv A outer s H hr hG => ?_
  unfold F__law_point_less
  exact (psm_one (psm_ret (pm_tup (pm_cons (pm_callD c__law_frac_less (hr.mono (by decide)) hG rfl (pm_cons (pm_ix (pm_var (pv 0)) pm_int) (pm_cons (pm_ix (pm_var (pv 1)) pm_int) pm_nil))) (pm_cons (pm_callD c__law_frac_less (hr.mono (by decide)) hG rfl (pm_cons (pm_ix (pm_var (pv 0)) pm_int) (pm_cons (pm_ix (pm_var (pv 1)) pm_int) pm_nil))) pm_nil)))))
theorem df__law_frac_times (N : Nms mg) (c__law_frac : Df P w K mg base 2 "_law_frac" ["top", "bottom"] D__law_frac) {f : Addr} (F : ∃ fd, FunD K "_law_frac_times" "_law_frac_times" (defArgs s__law_frac_times) (defBody s__law_frac_times) (defScope s__law_frac_times) [] [] f fd) (g : mg "_law_frac_times" = some (.ref f)) : Df P w K mg base 3 "_law_frac_times" ["one", "other"] D__law_frac_times := by
  refine df_of F g sc__law_frac_times rfl rfl (fun _ _ _ _ _ _ us hl => match us, hl with | [_, _], _ => rfl) fun cdv A outer s H hr hG => ?_
  unfold F__law_frac_times
  exact (psm_one (psm_ret (pm_callD c__law_frac (hr.mono (by decide)) hG rfl (pm_cons (pm_bin om_mul (pm_ix (pm_var (pv 0)) pm_int) (pm_ix (pm_var (pv 1)) pm_int)) (pm_cons (pm_bin om_mul (pm_ix (pm_var (pv 0)) pm_int) (pm_ix (pm_var (pv 1)) pm_int)) pm_nil)))))
theorem df__law_plane_twice (N : Nms mg) (c__law_frac_less : Df P w K mg base 3 "_law_frac_less" ["one", "other"] D__law_frac_less) (c__law_frac_times : Df P w K mg base 3 "_law_frac_times" ["one", "other"] D__law_frac_times) {f : Addr} (F : ∃ fd, FunD K "_law_plane_twice" "_law_plane_twice" (defArgs s__law_plane_twice) (defBody s__law_plane_twice) (defScope s__law_plane_twice) [] [] f fd) (g : mg "_law_plane_twice" = some (.ref f)) : Df P w K mg base 4 "_law_plane_twice" ["one", "other"] D__law_plane_twice := by
  refine df_of F g sc__law_plane_twice rfl rfl (fun _ _ _ _ _ _ us hl => match us, hl with | [_, _], _ => rfl) fun cdv A outer s H hr hG => ?_
  unfold F__law_plane_twice
  exact (psm_one (psm_ret (pm_callD c__law_frac_less (hr.mono (by decide)) hG rfl (pm_cons (pm_callD c__law_frac_times (hr.mono (by decide)) hG rfl (pm_cons (pm_ix (pm_var (pv 0)) pm_int) (pm_cons (pm_ix (pm_var (pv 1)) pm_int) pm_nil))) (pm_cons (pm_callD c__law_frac_times (hr.mono (by decide)) hG rfl (pm_cons (pm_ix (pm_var (pv 0)) pm_int) (pm_cons (pm_ix (pm_var (pv 1)) pm_int) pm_nil))) pm_nil)))))
theorem df__law_plane_side (N : Nms mg) (c__law_point_less : Df P w K mg base 4 "_law_point_less" ["one", "other"] D__law_point_less) (c__law_plane_twice : Df P w K mg base 4 "_law_plane_twice" ["one", "other"] D__law_plane_twice) {f : Addr} (F : ∃ fd, FunD K "_law_plane_side" "_law_plane_side" (defArgs s__law_plane_side) (defBody s__law_plane_side) (defScope s__law_plane_side) [] [] f fd) (g : mg "_law_plane_side" = some (.ref f)) : Df P w K mg base 5 "_law_plane_side" ["a", "b", "c"] D__law_plane_side := by
  refine df_of F g sc__law_plane_side rfl rfl (fun _ _ _ _ _ _ us hl => match us, hl with | [_, _, _], _ => rfl) fun cdv A outer s H hr hG => ?_
  unfold F__law_plane_side
  exact (psm_cons (psm_asg (pm_ix (pm_callD c__law_plane_twice (hr.mono (by decide)) hG rfl (pm_cons (pm_callD c__law_point_less (hr.mono (by decide)) hG rfl (pm_cons (pm_var (pv 1)) (pm_cons (pm_var (pv 0)) pm_nil))) (pm_cons (pm_callD c__law_point_less (hr.mono (by decide)) hG rfl (pm_cons (pm_var (pv 2)) (pm_cons (pm_var (pv 0)) pm_nil))) pm_nil))) pm_int) (pgm_name (i := 3) sc__law_plane_side.nd rfl (by first | exact .inl rfl | exact .inr rfl))) (psm_one (psm_ret (pm_bin om_sub (pm_callTy cm_int rfl N.n_int boot_int (pm_cons (pm_cmp om_gt (pm_var (pv 3)) pm_int (nomark _)) pm_nil)) (pm_callTy cm_int rfl N.n_int boot_int (pm_cons (pm_cmp om_lt (pm_var (pv 3)) pm_int (nomark _)) pm_nil))))))
theorem df__law_take (N : Nms mg)  {f : Addr} (F : ∃ fd, FunD K "_law_take" "_law_take" (defArgs s__law_take) (defBody s__law_take) (defScope s__law_take) [] [] f fd) (g : mg "_law_take" = some (.ref f)) : Df P w K mg base 1 "_law_take" ["pot", "upto"] D__law_take := by
  refine df_of F g sc__law_take rfl rfl (fun _ _ _ _ _ _ us hl => match us, hl with | [_, _], _ => rfl) fun cdv A outer s H hr hG => ?_
  unfold F__law_take
  exact (psm_cons (psm_if (pt_cm om_gt (pm_ix (pm_var (pv 0)) pm_int) pm_int (nomark _)) (psm_cons (psm_asg (pm_bin om_mod (pm_callTy cm_int rfl N.n_int boot_int (pm_cons (pm_ix (pm_var (pv 0)) pm_int) pm_nil)) (pm_var (pv 1))) (pgm_name (i := 4) sc__law_take.nd rfl (by first | exact .inl rfl | exact .inr rfl))) (psm_cons (psm_asg (pm_bin om_div (pm_ix (pm_var (pv 0)) pm_int) (pm_var (pv 1))) (pgm_sub (pm_var (pv 0)) pm_int)) (psm_one (psm_ret (pm_var (pv 4)))))) psm_nil) (psm_cons (psm_asg (pm_bin om_add (pm_ix (pm_var (pv 0)) pm_int) pm_int) (pgm_sub (pm_var (pv 0)) pm_int)) (psm_cons (psm_asg (pm_ix (pm_lst (pm_cons pm_int (pm_cons pm_int (pm_cons pm_int (pm_cons pm_int (pm_cons pm_int pm_nil)))))) (pm_bin om_mod (pm_callTy cm_int rfl N.n_int boot_int (pm_cons (pm_ix (pm_var (pv 0)) pm_int) pm_nil)) pm_int)) (pgm_name (i := 2) sc__law_take.nd rfl (by first | exact .inl rfl | exact .inr rfl))) (psm_cons (psm_asg (pm_bin om_mod (pm_callTy cm_int rfl N.n_int boot_int (pm_cons (pm_bin om_pow (pm_callTy cm_int rfl N.n_int boot_int (pm_cons (pm_bin om_add (pm_bin om_add (pm_ix (pm_var (pv 0)) pm_int) (pm_bin om_mul (pm_bin om_mul pm_int (pm_ix (pm_var (pv 0)) pm_int)) (pm_ix (pm_var (pv 0)) pm_int))) pm_int) pm_nil)) pm_int) pm_nil)) (pm_var (pv 2))) (pgm_name (i := 3) sc__law_take.nd rfl (by first | exact .inl rfl | exact .inr rfl))) (psm_cons (psm_asg (pm_bin om_mod (pm_callTy cm_int rfl N.n_int boot_int (pm_cons (pm_bin om_mul (pm_var (pv 3)) (pm_bin om_add (pm_bin om_mod (pm_callTy cm_int rfl N.n_int boot_int (pm_cons (pm_var (pv 3)) pm_nil)) pm_int) (pm_bin om_mul pm_int (pm_ix (pm_var (pv 0)) pm_int)))) pm_nil)) pm_int) (pgm_name (i := 3) sc__law_take.nd rfl (by first | exact .inl rfl | exact .inr rfl))) (psm_one (psm_ret (pm_bin om_mod (pm_callTy cm_int rfl N.n_int boot_int (pm_cons (pm_bin om_div (pm_var (pv 3)) pm_int) pm_nil)) (pm_var (pv 1))))))))))
theorem df__law_of (N : Nms mg) (c__law_take : Df P w K mg base 1 "_law_take" ["pot", "upto"] D__law_take) {f : Addr} (F : ∃ fd, FunD K "_law_of" "_law_of" (defArgs s__law_of) (defBody s__law_of) (defScope s__law_of) [] [] f fd) (g : mg "_law_of" = some (.ref f)) : Df P w K mg base 2 "_law_of" ["pot", "some"] D__law_of := by
  refine df_of F g sc__law_of rfl rfl (fun _ _ _ _ _ _ us hl => match us, hl with | [_, _], _ => rfl) fun cdv A outer s H hr hG => ?_
  unfold F__law_of
  exact (psm_one (psm_ret (pm_ix (pm_var (pv 1)) (pm_callD c__law_take (hr.mono (by decide)) hG rfl (pm_cons (pm_var (pv 0)) (pm_cons (pm_callB cm_len rfl N.n_len boot_len (pm_cons (pm_var (pv 1)) pm_nil)) pm_nil))))))
theorem df__law_any_point (N : Nms mg) (c__law_take : Df P w K mg base 1 "_law_take" ["pot", "upto"] D__law_take) (c__law_of : Df P w K mg base 2 "_law_of" ["pot", "some"] D__law_of) (c__law_frac : Df P w K mg base 2 "_law_frac" ["top", "bottom"] D__law_frac) {f : Addr} (F : ∃ fd, FunD K "_law_any_point" "_law_any_point" (defArgs s__law_any_point) (defBody s__law_any_point) (defScope s__law_any_point) [] [] f fd) (g : mg "_law_any_point" = some (.ref f)) : Df P w K mg base 3 "_law_any_point" ["pot"] D__law_any_point := by
  refine df_of F g sc__law_any_point rfl rfl (fun _ _ _ _ _ _ us hl => match us, hl with | [_], _ => rfl) fun cdv A outer s H hr hG => ?_
  unfold F__law_any_point
  exact (psm_cons (psm_asg (pm_callD c__law_of (hr.mono (by decide)) hG rfl (pm_cons (pm_var (pv 0)) (pm_cons (pm_lst (pm_cons pm_int (pm_cons pm_int (pm_cons pm_int (pm_cons pm_int (pm_cons (pm_bin om_pow pm_int pm_int) pm_nil)))))) pm_nil))) (pgm_name (i := 1) sc__law_any_point.nd rfl (by first | exact .inl rfl | exact .inr rfl))) (psm_cons (psm_par (i := 2) (j := 3) rfl sc__law_any_point.nd rfl rfl (by decide) rfl rfl (pm_cons (pm_callD c__law_of (hr.mono (by decide)) hG rfl (pm_cons (pm_var (pv 0)) (pm_cons (pm_lst (pm_cons pm_int (pm_cons pm_int (pm_cons pm_int (pm_cons pm_int (pm_cons pm_int pm_nil)))))) pm_nil))) (pm_cons (pm_callD c__law_of (hr.mono (by decide)) hG rfl (pm_cons (pm_var (pv 0)) (pm_cons (pm_lst (pm_cons pm_int (pm_cons pm_int (pm_cons pm_int (pm_cons pm_int (pm_cons pm_int (pm_cons pm_int pm_nil))))))) pm_nil))) pm_nil)) (by rfl)) (psm_one (psm_ret (pm_tup (pm_cons (pm_callD c__law_frac (hr.mono (by decide)) hG rfl (pm_cons (pm_bin om_sub (pm_callD c__law_take (hr.mono (by decide)) hG rfl (pm_cons (pm_var (pv 0)) (pm_cons (pm_bin om_add (pm_bin om_mul pm_int (pm_var (pv 1))) pm_int) pm_nil))) (pm_var (pv 1))) (pm_cons (pm_var (pv 2)) pm_nil))) (pm_cons (pm_callD c__law_frac (hr.mono (by decide)) hG rfl (pm_cons (pm_bin om_sub (pm_callD c__law_take (hr.mono (by decide)) hG rfl (pm_cons (pm_var (pv 0)) (pm_cons (pm_bin om_add (pm_bin om_mul pm_int (pm_var (pv 1))) pm_int) pm_nil))) (pm_var (pv 1))) (pm_cons (pm_var (pv 3)) pm_nil))) pm_nil)))))))
theorem df__law_frac_plus (N : Nms mg) (c__law_frac : Df P w K mg base 2 "_law_frac" ["top", "bottom"] D__law_frac) {f : Addr} (F : ∃ fd, FunD K "_law_frac_plus" "_law_frac_plus" (defArgs s__law_frac_plus) (defBody s__law_frac_plus) (defScope s__law_frac_plus) [] [] f fd) (g : mg "_law_frac_plus" = some (.ref f)) : Df P w K mg base 3 "_law_frac_plus" ["one", "other"] D__law_frac_plus := by
  refine df_of F g sc__law_frac_plus rfl rfl (fun _ _ _ _ _ _ us hl => match us, hl with | [_, _], _ => rfl) fun cdv A outer s H hr hG => ?_
  unfold F__law_frac_plus
  exact (psm_one (psm_ret (pm_callD c__law_frac (hr.mono (by decide)) hG rfl (pm_cons (pm_bin om_add (pm_bin om_mul (pm_ix (pm_var (pv 0)) pm_int) (pm_ix (pm_var (pv 1)) pm_int)) (pm_bin om_mul (pm_ix (pm_var (pv 1)) pm_int) (pm_ix (pm_var (pv 0)) pm_int))) (pm_cons (pm_bin om_mul (pm_ix (pm_var (pv 0)) pm_int) (pm_ix (pm_var (pv 1)) pm_int)) pm_nil)))))
theorem df__law_gone (N : Nms mg) (c__law_frac_plus : Df P w K mg base 3 "_law_frac_plus" ["one", "other"] D__law_frac_plus) (c__law_frac_times : Df P w K mg base 3 "_law_frac_times" ["one", "other"] D__law_frac_times) {f : Addr} (F : ∃ fd, FunD K "_law_gone" "_law_gone" (defArgs s__law_gone) (defBody s__law_gone) (defScope s__law_gone) [] [] f fd) (g : mg "_law_gone" = some (.ref f)) : Df P w K mg base 4 "_law_gone" ["point", "way", "share"] D__law_gone := by
  refine df_of F g sc__law_gone rfl rfl (fun _ _ _ _ _ _ us hl => match us, hl with | [_, _, _], _ => rfl) fun cdv A outer s H hr hG => ?_
  unfold F__law_gone
  exact (psm_one (psm_ret (pm_callTy cm_tuple rfl N.n_tuple boot_tuple (pm_cons (pm_comp (own := [("here", 3), ("more", 4)]) rfl sc__law_gone.nd (pim_zip rfl N.n_zip (pm_cons (pm_var (pv 0)) (pm_cons (pm_var (pv 1)) pm_nil))) (blkOk_by (own := [("here", 3), ("more", 4)]) (N := N__law_gone) (sc := defScope s__law_gone) (by decide +kernel)) (by decide) (fun _ _ _ _ _ => (pgm_tup rfl (pgsm_cons (pgm_name (i := 3) sc__law_gone.nd rfl (by first | exact .inl rfl | exact .inr rfl)) (pgsm_cons (pgm_name (i := 4) sc__law_gone.nd rfl (by first | exact .inl rfl | exact .inr rfl)) pgsm_nil)) (gsCons_len (gsCons_len gsNil_len)))) (fun _ _ _ _ _ => ptsm_nil) (fun _ _ _ _ _ => (pm_callD c__law_frac_plus (hr.mono (by decide)) hG rfl (pm_cons (pm_var (pv 3)) (pm_cons (pm_callD c__law_frac_times (hr.mono (by decide)) hG rfl (pm_cons (pm_var (pv 2)) (pm_cons (pm_var (pv 4)) pm_nil))) pm_nil))))) pm_nil))))
theorem df__law_three (N : Nms mg) (c__law_take : Df P w K mg base 1 "_law_take" ["pot", "upto"] D__law_take) (c__law_of : Df P w K mg base 2 "_law_of" ["pot", "some"] D__law_of) (c__law_frac : Df P w K mg base 2 "_law_frac" ["top", "bottom"] D__law_frac) (c__law_point_told : Df P w K mg base 2 "_law_point_told" ["point"] D__law_point_told) (c__law_point_less : Df P w K mg base 4 "_law_point_less" ["one", "other"] D__law_point_less) (c__law_any_point : Df P w K mg base 3 "_law_any_point" ["pot"] D__law_any_point) (c__law_gone : Df P w K mg base 4 "_law_gone" ["point", "way", "share"] D__law_gone) {f : Addr} (F : ∃ fd, FunD K "_law_three" "_law_three" (defArgs s__law_three) (defBody s__law_three) (defScope s__law_three) [] [] f fd) (g : mg "_law_three" = some (.ref f)) : Df P w K mg base 5 "_law_three" ["pot"] D__law_three := by
  refine df_of F g sc__law_three rfl rfl (fun _ _ _ _ _ _ us hl => match us, hl with | [_], _ => rfl) fun cdv A outer s H hr hG => ?_
  unfold F__law_three
  exact (psm_cons (psm_asg (pm_comp (own := [("lap", 7)]) rfl sc__law_three.nd (pim_range1 rfl N.n_range (pm_cons pm_int pm_nil)) (blkOk_by (own := [("lap", 7)]) (N := N__law_three) (sc := defScope s__law_three) (by decide +kernel)) (by decide) (fun _ _ _ _ _ => (pgm_name (i := 7) sc__law_three.nd rfl (by first | exact .inl rfl | exact .inr rfl))) (fun _ _ _ _ _ => ptsm_nil) (fun _ _ _ _ _ => (pm_callD c__law_any_point (hr.mono (by decide)) hG rfl (pm_cons (pm_var (pv 0)) pm_nil)))) (pgm_tup rfl (pgsm_cons (pgm_name (i := 2) sc__law_three.nd rfl (by first | exact .inl rfl | exact .inr rfl)) (pgsm_cons (pgm_name (i := 3) sc__law_three.nd rfl (by first | exact .inl rfl | exact .inr rfl)) (pgsm_cons (pgm_name (i := 4) sc__law_three.nd rfl (by first | exact .inl rfl | exact .inr rfl)) pgsm_nil))) (gsCons_len (gsCons_len (gsCons_len gsNil_len))))) (psm_cons (psm_asg (pm_callD c__law_take (hr.mono (by decide)) hG rfl (pm_cons (pm_var (pv 0)) (pm_cons pm_int pm_nil))) (pgm_name (i := 1) sc__law_three.nd rfl (by first | exact .inl rfl | exact .inr rfl))) (psm_cons (psm_if (pt_cm (om_eq hr.units) (pm_var (pv 1)) pm_int (nomark _)) (psm_one (psm_ret (pm_tup (pm_cons (pm_var (pv 2)) (pm_cons (pm_var (pv 2)) (pm_cons (pm_var (pv 4)) pm_nil)))))) psm_nil) (psm_cons (psm_if (pt_cm (om_eq hr.units) (pm_var (pv 1)) pm_int (nomark _)) (psm_one (psm_ret (pm_tup (pm_cons (pm_var (pv 2)) (pm_cons (pm_var (pv 3)) (pm_cons (pm_callD c__law_of (hr.mono (by decide)) hG rfl (pm_cons (pm_var (pv 0)) (pm_cons (pm_lst (pm_cons (pm_var (pv 2)) (pm_cons (pm_var (pv 3)) pm_nil))) pm_nil))) pm_nil)))))) psm_nil) (psm_cons (psm_if (pt_cm (om_eq hr.units) (pm_var (pv 1)) pm_int (nomark _)) (psm_cons (psm_asg (pm_callD c__law_frac (hr.mono (by decide)) hG rfl (pm_cons (pm_bin om_sub (pm_callD c__law_take (hr.mono (by decide)) hG rfl (pm_cons (pm_var (pv 0)) (pm_cons pm_int pm_nil))) pm_int) (pm_cons (pm_callD c__law_of (hr.mono (by decide)) hG rfl (pm_cons (pm_var (pv 0)) (pm_cons (pm_lst (pm_cons pm_int (pm_cons pm_int (pm_cons pm_int pm_nil)))) pm_nil))) pm_nil))) (pgm_name (i := 5) sc__law_three.nd rfl (by first | exact .inl rfl | exact .inr rfl))) (psm_cons (psm_asg (pm_callD c__law_gone (hr.mono (by decide)) hG rfl (pm_cons (pm_var (pv 2)) (pm_cons (pm_callD c__law_point_less (hr.mono (by decide)) hG rfl (pm_cons (pm_var (pv 3)) (pm_cons (pm_var (pv 2)) pm_nil))) (pm_cons (pm_var (pv 5)) pm_nil)))) (pgm_name (i := 6) sc__law_three.nd rfl (by first | exact .inl rfl | exact .inr rfl))) (psm_one (psm_if (pt_cm om_lt (pm_callB (cm_max rfl) rfl N.n_max boot_max (pm_cons (pm_comp (own := [("number", 8)]) rfl sc__law_three.nd (pim_seq (pm_callD c__law_point_told (hr.mono (by decide)) hG rfl (pm_cons (pm_var (pv 6)) pm_nil))) (blkOk_by (own := [("number", 8)]) (N := N__law_three) (sc := defScope s__law_three) (by decide +kernel)) (by decide) (fun _ _ _ _ _ => (pgm_name (i := 8) sc__law_three.nd rfl (by first | exact .inl rfl | exact .inr rfl))) (fun _ _ _ _ _ => ptsm_nil) (fun _ _ _ _ _ => (pm_callB cm_abs rfl N.n_abs boot_abs (pm_cons (pm_var (pv 8)) pm_nil)))) pm_nil)) (pm_bin om_pow pm_int pm_int) (nomark _)) (psm_one (psm_ret (pm_tup (pm_cons (pm_var (pv 2)) (pm_cons (pm_var (pv 3)) (pm_cons (pm_var (pv 6)) pm_nil)))))) psm_nil)))) psm_nil) (psm_one (psm_ret (pm_tup (pm_cons (pm_var (pv 2)) (pm_cons (pm_var (pv 3)) (pm_cons (pm_var (pv 4)) pm_nil)))))))))))
theorem df__law_right (N : Nms mg) (c_side : Df P w K mg base 5 "side" ["a", "b", "c"] D_side) (c_between : Df P w K mg base 5 "between" ["a", "b", "share"] D_between) (c__law_point_told : Df P w K mg base 2 "_law_point_told" ["point"] D__law_point_told) (c__law_plane_side : Df P w K mg base 5 "_law_plane_side" ["a", "b", "c"] D__law_plane_side) (c__law_three : Df P w K mg base 5 "_law_three" ["pot"] D__law_three) {f : Addr} (F : ∃ fd, FunD K "_law_right" "_law_right" (defArgs s__law_right) (defBody s__law_right) (defScope s__law_right) [] [] f fd) (g : mg "_law_right" = some (.ref f)) : Df P w K mg base 6 "_law_right" ["pot"] D__law_right := by
  refine df_of F g sc__law_right rfl rfl (fun _ _ _ _ _ _ us hl => match us, hl with | [_], _ => rfl) fun cdv A outer s H hr hG => ?_
  unfold F__law_right
  exact (psm_cons (psm_asg (pm_callD c__law_three (hr.mono (by decide)) hG rfl (pm_cons (pm_var (pv 0)) pm_nil)) (pgm_name (i := 1) sc__law_right.nd rfl (by first | exact .inl rfl | exact .inr rfl))) (psm_cons (psm_asg (pm_comp (own := [("point", 7)]) rfl sc__law_right.nd (pim_seq (pm_var (pv 1))) (blkOk_by (own := [("point", 7)]) (N := N__law_right) (sc := defScope s__law_right) (by decide +kernel)) (by decide) (fun _ _ _ _ _ => (pgm_name (i := 7) sc__law_right.nd rfl (by first | exact .inl rfl | exact .inr rfl))) (fun _ _ _ _ _ => ptsm_nil) (fun _ _ _ _ _ => (pm_callD c__law_point_told (hr.mono (by decide)) hG rfl (pm_cons (pm_var (pv 7)) pm_nil)))) (pgm_tup rfl (pgsm_cons (pgm_name (i := 4) sc__law_right.nd rfl (by first | exact .inl rfl | exact .inr rfl)) (pgsm_cons (pgm_name (i := 5) sc__law_right.nd rfl (by first | exact .inl rfl | exact .inr rfl)) (pgsm_cons (pgm_name (i := 6) sc__law_right.nd rfl (by first | exact .inl rfl | exact .inr rfl)) pgsm_nil))) (gsCons_len (gsCons_len (gsCons_len gsNil_len))))) (psm_cons (psm_asg (pm_callD c__law_plane_side (hr.mono (by decide)) hG rfl (pm_cons (pm_ix (pm_var (pv 1)) pm_int) (pm_cons (pm_ix (pm_var (pv 1)) pm_int) (pm_cons (pm_ix (pm_var (pv 1)) pm_int) pm_nil)))) (pgm_name (i := 2) sc__law_right.nd rfl (by first | exact .inl rfl | exact .inr rfl))) (psm_cons (psm_if (pt_cm (om_ne hr.units) (pm_callB (cm_repr hr.units hG) rfl N.n_repr boot_repr (pm_cons (pm_lst (pm_cons (pm_callD c_side (hr.mono (by decide)) hG rfl (pm_cons (pm_var (pv 4)) (pm_cons (pm_var (pv 5)) (pm_cons (pm_var (pv 6)) pm_nil)))) (pm_cons (pm_callD c_side (hr.mono (by decide)) hG rfl (pm_cons (pm_var (pv 5)) (pm_cons (pm_var (pv 6)) (pm_cons (pm_var (pv 4)) pm_nil)))) (pm_cons (pm_callD c_side (hr.mono (by decide)) hG rfl (pm_cons (pm_var (pv 6)) (pm_cons (pm_var (pv 4)) (pm_cons (pm_var (pv 5)) pm_nil)))) pm_nil)))) pm_nil)) (pm_callB (cm_repr hr.units hG) rfl N.n_repr boot_repr (pm_cons (pm_lst (pm_cons (pm_var (pv 2)) (pm_cons (pm_var (pv 2)) (pm_cons (pm_var (pv 2)) pm_nil)))) pm_nil)) (nomark _)) (psm_one (psm_ret pm_bl)) psm_nil) (psm_cons (psm_if (pt_cm (om_ne hr.units) (pm_callB (cm_repr hr.units hG) rfl N.n_repr boot_repr (pm_cons (pm_lst (pm_cons (pm_callD c_side (hr.mono (by decide)) hG rfl (pm_cons (pm_var (pv 5)) (pm_cons (pm_var (pv 4)) (pm_cons (pm_var (pv 6)) pm_nil)))) (pm_cons (pm_callD c_side (hr.mono (by decide)) hG rfl (pm_cons (pm_var (pv 4)) (pm_cons (pm_var (pv 6)) (pm_cons (pm_var (pv 5)) pm_nil)))) (pm_cons (pm_callD c_side (hr.mono (by decide)) hG rfl (pm_cons (pm_var (pv 6)) (pm_cons (pm_var (pv 5)) (pm_cons (pm_var (pv 4)) pm_nil)))) pm_nil)))) pm_nil)) (pm_callB (cm_repr hr.units hG) rfl N.n_repr boot_repr (pm_cons (pm_lst (pm_cons (pm_un um_neg (pm_var (pv 2))) (pm_cons (pm_un um_neg (pm_var (pv 2))) (pm_cons (pm_un um_neg (pm_var (pv 2))) pm_nil)))) pm_nil)) (nomark _)) (psm_one (psm_ret pm_bl)) psm_nil) (psm_cons (psm_if (PW.pt (pwm_or (pt_cm om_gt (pm_callB (cm_max rfl) rfl N.n_max boot_max (pm_cons (pm_ix (pm_var (pv 4)) pm_int) (pm_cons (pm_ix (pm_var (pv 5)) pm_int) (pm_cons (pm_ix (pm_var (pv 6)) pm_int) pm_nil)))) pm_int (nomark _)) (pwm_or1 (pt_cm om_gt (pm_callB (cm_max rfl) rfl N.n_max boot_max (pm_cons (pm_comp (own := [("number", 8)]) rfl sc__law_right.nd (pim_seq (pm_bin om_add (pm_bin om_add (pm_var (pv 4)) (pm_var (pv 5))) (pm_var (pv 6)))) (blkOk_by (own := [("number", 8)]) (N := N__law_right) (sc := defScope s__law_right) (by decide +kernel)) (by decide) (fun _ _ _ _ _ => (pgm_name (i := 8) sc__law_right.nd rfl (by first | exact .inl rfl | exact .inr rfl))) (fun _ _ _ _ _ => ptsm_nil) (fun _ _ _ _ _ => (pm_callB cm_abs rfl N.n_abs boot_abs (pm_cons (pm_var (pv 8)) pm_nil)))) pm_nil)) pm_int (nomark _))))) (psm_one (psm_ret pm_bl)) psm_nil) (psm_cons (psm_asg (pm_tup (pm_cons (pm_bin om_sub (pm_bin om_add (pm_ix (pm_var (pv 4)) pm_int) (pm_ix (pm_var (pv 5)) pm_int)) (pm_ix (pm_var (pv 6)) pm_int)) (pm_cons (pm_bin om_sub (pm_bin om_add (pm_ix (pm_var (pv 4)) pm_int) (pm_ix (pm_var (pv 5)) pm_int)) (pm_ix (pm_var (pv 6)) pm_int)) (pm_cons pm_int pm_nil)))) (pgm_name (i := 3) sc__law_right.nd rfl (by first | exact .inl rfl | exact .inr rfl))) (psm_one (psm_ret (pm_and (pm_cmp (om_eq hr.units) (pm_callB (cm_repr hr.units hG) rfl N.n_repr boot_repr (pm_cons (pm_callD c_side (hr.mono (by decide)) hG rfl (pm_cons (pm_var (pv 4)) (pm_cons (pm_var (pv 5)) (pm_cons (pm_var (pv 3)) pm_nil)))) pm_nil)) (pm_callB (cm_repr hr.units hG) rfl N.n_repr boot_repr (pm_cons (pm_un um_neg (pm_var (pv 2))) pm_nil)) (nomark _)) (pm_one (pm_cmp (om_eq hr.units) (pm_callB (cm_repr hr.units hG) rfl N.n_repr boot_repr (pm_cons (pm_callD c_between (hr.mono (by decide)) hG rfl (pm_cons (pm_var (pv 3)) (pm_cons (pm_var (pv 6)) (pm_cons (pm_tup (pm_cons pm_int (pm_cons pm_int pm_nil))) pm_nil)))) pm_nil)) (pm_callB (cm_repr hr.units hG) rfl N.n_repr boot_repr (pm_cons (pm_callD c_between (hr.mono (by decide)) hG rfl (pm_cons (pm_var (pv 4)) (pm_cons (pm_var (pv 5)) (pm_cons (pm_tup (pm_cons pm_int (pm_cons pm_int pm_nil))) pm_nil)))) pm_nil)) (nomark _)))))))))))))
theorem fg_law (N : Nms mg) (c__law_pot : Df P w K mg base 1 "_law_pot" ["script", "place"] D__law_pot) (c__law_cells : Df P w K mg base 1 "_law_cells" ["script", "most"] D__law_cells) (c__law_right : Df P w K mg base 6 "_law_right" ["pot"] D__law_right) {f : Addr} {fd : FuncData} (F : FunD K "law" "law" (defArgs s_law) (defBody s_law) (defScope s_law) [] [] f fd) : FnG P w K mg base 7 f fd ["script"] D_law := by
  refine fng_of F sc_law rfl rfl fun cdv A outer s H hr hG => PSs.nox ?_
  unfold F_law
  exact (psm_one (psm_ret (pm_callB (cm_all rfl) rfl N.n_all boot_all (pm_cons (pm_comp (own := [("place", 1)]) rfl sc_law.nd (pim_seq (pm_callD c__law_cells (hr.mono (by decide)) hG rfl (pm_cons (pm_var (pv 0)) (pm_cons pm_int pm_nil)))) (blkOk_by (own := [("place", 1)]) (N := N_law) (sc := defScope s_law) (by decide +kernel)) (by decide) (fun _ _ _ _ _ => (pgm_name (i := 1) sc_law.nd rfl (by first | exact .inl rfl | exact .inr rfl))) (fun _ _ _ _ _ => ptsm_nil) (fun _ _ _ _ _ => (pm_callD c__law_right (hr.mono (by decide)) hG rfl (pm_cons (pm_callD c__law_pot (hr.mono (by decide)) hG rfl (pm_cons (pm_var (pv 0)) (pm_cons (pm_var (pv 1)) pm_nil))) pm_nil)))) pm_nil))))
end
/-! ### the head -/
def d__law_pot : He.DefD := ⟨("_law_pot", none), "_law_pot", "_law_pot", defArgs s__law_pot, defBody s__law_pot, defScope s__law_pot, [], []⟩
def d__law_cells : He.DefD := ⟨("_law_cells", none), "_law_cells", "_law_cells", defArgs s__law_cells, defBody s__law_cells, defScope s__law_cells, [], []⟩
def d_turn : He.DefD := ⟨("turn", none), "turn", "turn", defArgs s_turn, defBody s_turn, defScope s_turn, [], []⟩
def d_is_whole_number : He.DefD := ⟨("is_whole_number", none), "is_whole_number", "is_whole_number", defArgs s_is_whole_number, defBody s_is_whole_number, defScope s_is_whole_number, [], []⟩
def d_are_integers : He.DefD := ⟨("are_integers", none), "are_integers", "are_integers", defArgs s_are_integers, defBody s_are_integers, defScope s_are_integers, [], []⟩
def d_is_point : He.DefD := ⟨("is_point", none), "is_point", "is_point", defArgs s_is_point, defBody s_is_point, defScope s_is_point, [], []⟩
def d_check_points : He.DefD := ⟨("check_points", none), "check_points", "check_points", defArgs s_check_points, defBody s_check_points, defScope s_check_points, [], []⟩
def d_side : He.DefD := ⟨("side", none), "side", "side", defArgs s_side, defBody s_side, defScope s_side, [], []⟩
def d_point_at : He.DefD := ⟨("point_at", none), "point_at", "point_at", defArgs s_point_at, defBody s_point_at, defScope s_point_at, [], []⟩
def d_point_between : He.DefD := ⟨("point_between", none), "point_between", "point_between", defArgs s_point_between, defBody s_point_between, defScope s_point_between, [], []⟩
def d_is_fraction : He.DefD := ⟨("is_fraction", none), "is_fraction", "is_fraction", defArgs s_is_fraction, defBody s_is_fraction, defScope s_is_fraction, [], []⟩
def d_is_share : He.DefD := ⟨("is_share", none), "is_share", "is_share", defArgs s_is_share, defBody s_is_share, defScope s_is_share, [], []⟩
def d_between : He.DefD := ⟨("between", none), "between", "between", defArgs s_between, defBody s_between, defScope s_between, [], []⟩
def d__law_frac_common : He.DefD := ⟨("_law_frac_common", none), "_law_frac_common", "_law_frac_common", defArgs s__law_frac_common, defBody s__law_frac_common, defScope s__law_frac_common, [], []⟩
def d__law_point_told : He.DefD := ⟨("_law_point_told", none), "_law_point_told", "_law_point_told", defArgs s__law_point_told, defBody s__law_point_told, defScope s__law_point_told, [], []⟩
def d__law_frac : He.DefD := ⟨("_law_frac", none), "_law_frac", "_law_frac", defArgs s__law_frac, defBody s__law_frac, defScope s__law_frac, [], []⟩
def d__law_frac_less : He.DefD := ⟨("_law_frac_less", none), "_law_frac_less", "_law_frac_less", defArgs s__law_frac_less, defBody s__law_frac_less, defScope s__law_frac_less, [], []⟩
def d__law_point_less : He.DefD := ⟨("_law_point_less", none), "_law_point_less", "_law_point_less", defArgs s__law_point_less, defBody s__law_point_less, defScope s__law_point_less, [], []⟩
def d__law_frac_times : He.DefD := ⟨("_law_frac_times", none), "_law_frac_times", "_law_frac_times", defArgs s__law_frac_times, defBody s__law_frac_times, defScope s__law_frac_times, [], []⟩
def d__law_plane_twice : He.DefD := ⟨("_law_plane_twice", none), "_law_plane_twice", "_law_plane_twice", defArgs s__law_plane_twice, defBody s__law_plane_twice, defScope s__law_plane_twice, [], []⟩
def d__law_plane_side : He.DefD := ⟨("_law_plane_side", none), "_law_plane_side", "_law_plane_side", defArgs s__law_plane_side, defBody s__law_plane_side, defScope s__law_plane_side, [], []⟩
def d__law_take : He.DefD := ⟨("_law_take", none), "_law_take", "_law_take", defArgs s__law_take, defBody s__law_take, defScope s__law_take, [], []⟩
def d__law_of : He.DefD := ⟨("_law_of", none), "_law_of", "_law_of", defArgs s__law_of, defBody s__law_of, defScope s__law_of, [], []⟩
def d__law_any_point : He.DefD := ⟨("_law_any_point", none), "_law_any_point", "_law_any_point", defArgs s__law_any_point, defBody s__law_any_point, defScope s__law_any_point, [], []⟩
def d__law_frac_plus : He.DefD := ⟨("_law_frac_plus", none), "_law_frac_plus", "_law_frac_plus", defArgs s__law_frac_plus, defBody s__law_frac_plus, defScope s__law_frac_plus, [], []⟩
def d__law_gone : He.DefD := ⟨("_law_gone", none), "_law_gone", "_law_gone", defArgs s__law_gone, defBody s__law_gone, defScope s__law_gone, [], []⟩
def d__law_three : He.DefD := ⟨("_law_three", none), "_law_three", "_law_three", defArgs s__law_three, defBody s__law_three, defScope s__law_three, [], []⟩
def d__law_right : He.DefD := ⟨("_law_right", none), "_law_right", "_law_right", defArgs s__law_right, defBody s__law_right, defScope s__law_right, [], []⟩
def d_law : He.DefD := ⟨("law", none), "law", "law", defArgs s_law, defBody s_law, defScope s_law, [], []⟩
def fn : List He.DefD := [d__law_pot, d__law_cells, d_turn, d_is_whole_number, d_are_integers, d_is_point, d_check_points, d_side, d_point_at, d_point_between, d_is_fraction, d_is_share, d_between, d__law_frac_common, d__law_point_told, d__law_frac, d__law_frac_less, d__law_point_less, d__law_frac_times, d__law_plane_twice, d__law_plane_side, d__law_take, d__law_of, d__law_any_point, d__law_frac_plus, d__law_gone, d__law_three, d__law_right, d_law]
def fa : List He.Fa := [.glo "_law_pot", .glo "_law_cells", .glo "turn", .glo "is_whole_number", .glo "are_integers", .glo "is_point", .glo "check_points", .glo "side", .glo "point_at", .glo "point_between", .glo "is_fraction", .glo "is_share", .glo "between", .glo "_law_frac_common", .glo "_law_point_told", .glo "_law_frac", .glo "_law_frac_less", .glo "_law_point_less", .glo "_law_frac_times", .glo "_law_plane_twice", .glo "_law_plane_side", .glo "_law_take", .glo "_law_of", .glo "_law_any_point", .glo "_law_frac_plus", .glo "_law_gone", .glo "_law_three", .glo "_law_right", .glo "law", .free "abs", .free "all", .free "bool", .free "int", .free "isinstance", .free "len", .free "list", .free "max", .free "min", .free "range", .free "repr", .free "sum", .free "tuple", .free "zip"]
def ex (K : PySem.W.Frag) : Bool := decide (PySem.W.nsIn K mainGlobals "gcd" = some (some (.builtin "math.gcd")))
abbrev R : PySem.W.OpenRow := PySem.W.OpenLaw.row PySem.Challenge.rw_ringsorways_k01_whole_sides_of_lines
abbrev qv : Program := PySem.W.view R.prog [0, 37]
abbrev hk : PySem.W.Hook := He.hookX 4 fa fn [] [] ex
def ob (s : PySem.W.SharedT) : He.AlX := He.obsX 4 fa fn [] [] ex (HandSHeadRun.getT s)
theorem ob_eq (s : PySem.W.SharedT) : ob s = hk.obs s.abs := He.obsX_eq (HandSHeadRun.getT_eq s)
def lo : List Str := (["FenceError", "BadPoint", "BadShare", "point_at", "turn", "point_between", "is_whole_number", "are_integers", "is_fraction", "is_share", "is_point", "side", "between", "check_points", "_law_pot", "_law_take", "_law_of", "_law_cells", "_law_frac_common", "_law_frac", "_law_frac_plus", "_law_frac_less", "_law_frac_times", "_law_point_told", "_law_point_less", "_law_plane_twice", "_law_plane_side", "_law_any_point", "_law_gone", "_law_three", "_law_right"] : List Str)
theorem run (w : World) : HandSHeadRun.RunEqI R qv hk ob 20000 lo w := by unfold HandSHeadRun.RunEqI; kernel_rfl
theorem facts {P : Program} {w : World} {K : PySem.W.Frag} {h : Heap} {mg : Str → Option Value} {f : Addr} (X : K.In h) (G : h.Ns mainGlobals mg) (hfa : mg ("law" : Str) = some (.ref f)) (c : He.SaysX fa fn [] [] ex w h K) :
    ∃ fd : FuncData, (∀ (s : Shared) (u : Value), BindsTo s fd ⟨[u], []⟩ [("script", u)]) ∧ ∀ base : Heap, K.In base → base.Ns mainGlobals mg → FnG P w K mg base 7 f fd ["script"] D_law := by
  have c1 := c.t.d
  have c2 := c.more
  unfold ex at c2
  have N : Nms mg := ⟨He.free_ok X G (c1.fact 29 (f := .free "abs") rfl), He.free_ok X G (c1.fact 30 (f := .free "all") rfl), He.free_ok X G (c1.fact 31 (f := .free "bool") rfl), He.free_ok X G (c1.fact 32 (f := .free "int") rfl), He.free_ok X G (c1.fact 33 (f := .free "isinstance") rfl), He.free_ok X G (c1.fact 34 (f := .free "len") rfl), He.free_ok X G (c1.fact 35 (f := .free "list") rfl), He.free_ok X G (c1.fact 36 (f := .free "max") rfl), He.free_ok X G (c1.fact 37 (f := .free "min") rfl), He.free_ok X G (c1.fact 38 (f := .free "range") rfl), He.free_ok X G (c1.fact 39 (f := .free "repr") rfl), He.free_ok X G (c1.fact 40 (f := .free "sum") rfl), He.free_ok X G (c1.fact 41 (f := .free "tuple") rfl), He.free_ok X G (c1.fact 42 (f := .free "zip") rfl), PySem.W.mg_of X G (of_decide_eq_true c2)⟩
  have g__law_pot := He.glo_ok X G (c1.fact 0 (f := .glo "_law_pot") rfl)
  have F__law_pot := c1.def_ 0 (d := d__law_pot) rfl
  have g__law_cells := He.glo_ok X G (c1.fact 1 (f := .glo "_law_cells") rfl)
  have F__law_cells := c1.def_ 1 (d := d__law_cells) rfl
  have g_turn := He.glo_ok X G (c1.fact 2 (f := .glo "turn") rfl)
  have F_turn := c1.def_ 2 (d := d_turn) rfl
  have g_is_whole_number := He.glo_ok X G (c1.fact 3 (f := .glo "is_whole_number") rfl)
  have F_is_whole_number := c1.def_ 3 (d := d_is_whole_number) rfl
  have g_are_integers := He.glo_ok X G (c1.fact 4 (f := .glo "are_integers") rfl)
  have F_are_integers := c1.def_ 4 (d := d_are_integers) rfl
  have g_is_point := He.glo_ok X G (c1.fact 5 (f := .glo "is_point") rfl)
  have F_is_point := c1.def_ 5 (d := d_is_point) rfl
  have g_check_points := He.glo_ok X G (c1.fact 6 (f := .glo "check_points") rfl)
  have F_check_points := c1.def_ 6 (d := d_check_points) rfl
  have g_side := He.glo_ok X G (c1.fact 7 (f := .glo "side") rfl)
  have F_side := c1.def_ 7 (d := d_side) rfl
  have g_point_at := He.glo_ok X G (c1.fact 8 (f := .glo "point_at") rfl)
  have F_point_at := c1.def_ 8 (d := d_point_at) rfl
  have g_point_between := He.glo_ok X G (c1.fact 9 (f := .glo "point_between") rfl)
  have F_point_between := c1.def_ 9 (d := d_point_between) rfl
  have g_is_fraction := He.glo_ok X G (c1.fact 10 (f := .glo "is_fraction") rfl)
  have F_is_fraction := c1.def_ 10 (d := d_is_fraction) rfl
  have g_is_share := He.glo_ok X G (c1.fact 11 (f := .glo "is_share") rfl)
  have F_is_share := c1.def_ 11 (d := d_is_share) rfl
  have g_between := He.glo_ok X G (c1.fact 12 (f := .glo "between") rfl)
  have F_between := c1.def_ 12 (d := d_between) rfl
  have g__law_frac_common := He.glo_ok X G (c1.fact 13 (f := .glo "_law_frac_common") rfl)
  have F__law_frac_common := c1.def_ 13 (d := d__law_frac_common) rfl
  have g__law_point_told := He.glo_ok X G (c1.fact 14 (f := .glo "_law_point_told") rfl)
  have F__law_point_told := c1.def_ 14 (d := d__law_point_told) rfl
  have g__law_frac := He.glo_ok X G (c1.fact 15 (f := .glo "_law_frac") rfl)
  have F__law_frac := c1.def_ 15 (d := d__law_frac) rfl
  have g__law_frac_less := He.glo_ok X G (c1.fact 16 (f := .glo "_law_frac_less") rfl)
  have F__law_frac_less := c1.def_ 16 (d := d__law_frac_less) rfl
  have g__law_point_less := He.glo_ok X G (c1.fact 17 (f := .glo "_law_point_less") rfl)
  have F__law_point_less := c1.def_ 17 (d := d__law_point_less) rfl
  have g__law_frac_times := He.glo_ok X G (c1.fact 18 (f := .glo "_law_frac_times") rfl)
  have F__law_frac_times := c1.def_ 18 (d := d__law_frac_times) rfl
  have g__law_plane_twice := He.glo_ok X G (c1.fact 19 (f := .glo "_law_plane_twice") rfl)
  have F__law_plane_twice := c1.def_ 19 (d := d__law_plane_twice) rfl
  have g__law_plane_side := He.glo_ok X G (c1.fact 20 (f := .glo "_law_plane_side") rfl)
  have F__law_plane_side := c1.def_ 20 (d := d__law_plane_side) rfl
  have g__law_take := He.glo_ok X G (c1.fact 21 (f := .glo "_law_take") rfl)
  have F__law_take := c1.def_ 21 (d := d__law_take) rfl
  have g__law_of := He.glo_ok X G (c1.fact 22 (f := .glo "_law_of") rfl)
  have F__law_of := c1.def_ 22 (d := d__law_of) rfl
  have g__law_any_point := He.glo_ok X G (c1.fact 23 (f := .glo "_law_any_point") rfl)
  have F__law_any_point := c1.def_ 23 (d := d__law_any_point) rfl
  have g__law_frac_plus := He.glo_ok X G (c1.fact 24 (f := .glo "_law_frac_plus") rfl)
  have F__law_frac_plus := c1.def_ 24 (d := d__law_frac_plus) rfl
  have g__law_gone := He.glo_ok X G (c1.fact 25 (f := .glo "_law_gone") rfl)
  have F__law_gone := c1.def_ 25 (d := d__law_gone) rfl
  have g__law_three := He.glo_ok X G (c1.fact 26 (f := .glo "_law_three") rfl)
  have F__law_three := c1.def_ 26 (d := d__law_three) rfl
  have g__law_right := He.glo_ok X G (c1.fact 27 (f := .glo "_law_right") rfl)
  have F__law_right := c1.def_ 27 (d := d__law_right) rfl
  have g_law := He.glo_ok X G (c1.fact 28 (f := .glo "law") rfl)
  have F_law := c1.def_ 28 (d := d_law) rfl
  obtain ⟨fd, Fl⟩ := F_law
  have e := hfa.symm.trans g_law
  cases e
  have b := FunD.bindsA (ps := ["script"]) Fl fun _ _ _ _ _ _ us hl => match us, hl with | [_], _ => rfl
  refine ⟨fd, fun s u => b s [u] rfl, fun base _ _ => ?_⟩
  have c__law_pot := df__law_pot (P := P) (w := w) (base := base) N  F__law_pot g__law_pot
  have c__law_cells := df__law_cells (P := P) (w := w) (base := base) N  F__law_cells g__law_cells
  have c_turn := df_turn (P := P) (w := w) (base := base) N  F_turn g_turn
  have c_is_whole_number := df_is_whole_number (P := P) (w := w) (base := base) N  F_is_whole_number g_is_whole_number
  have c_are_integers := df_are_integers (P := P) (w := w) (base := base) N c_is_whole_number F_are_integers g_are_integers
  have c_is_point := df_is_point (P := P) (w := w) (base := base) N c_are_integers F_is_point g_is_point
  have c_check_points := df_check_points (P := P) (w := w) (base := base) N c_is_point F_check_points g_check_points
  have c_side := df_side (P := P) (w := w) (base := base) N c_turn c_check_points F_side g_side
  have c_point_at := df_point_at (P := P) (w := w) (base := base) N  F_point_at g_point_at
  have c_point_between := df_point_between (P := P) (w := w) (base := base) N c_point_at F_point_between g_point_between
  have c_is_fraction := df_is_fraction (P := P) (w := w) (base := base) N c_are_integers F_is_fraction g_is_fraction
  have c_is_share := df_is_share (P := P) (w := w) (base := base) N c_is_fraction F_is_share g_is_share
  have c_between := df_between (P := P) (w := w) (base := base) N c_point_between c_is_share c_check_points F_between g_between
  have c__law_frac_common := df__law_frac_common (P := P) (w := w) (base := base) N  F__law_frac_common g__law_frac_common
  have c__law_point_told := df__law_point_told (P := P) (w := w) (base := base) N c__law_frac_common F__law_point_told g__law_point_told
  have c__law_frac := df__law_frac (P := P) (w := w) (base := base) N c__law_frac_common F__law_frac g__law_frac
  have c__law_frac_less := df__law_frac_less (P := P) (w := w) (base := base) N c__law_frac F__law_frac_less g__law_frac_less
  have c__law_point_less := df__law_point_less (P := P) (w := w) (base := base) N c__law_frac_less F__law_point_less g__law_point_less
  have c__law_frac_times := df__law_frac_times (P := P) (w := w) (base := base) N c__law_frac F__law_frac_times g__law_frac_times
  have c__law_plane_twice := df__law_plane_twice (P := P) (w := w) (base := base) N c__law_frac_less c__law_frac_times F__law_plane_twice g__law_plane_twice
  have c__law_plane_side := df__law_plane_side (P := P) (w := w) (base := base) N c__law_point_less c__law_plane_twice F__law_plane_side g__law_plane_side
  have c__law_take := df__law_take (P := P) (w := w) (base := base) N  F__law_take g__law_take
  have c__law_of := df__law_of (P := P) (w := w) (base := base) N c__law_take F__law_of g__law_of
  have c__law_any_point := df__law_any_point (P := P) (w := w) (base := base) N c__law_take c__law_of c__law_frac F__law_any_point g__law_any_point
  have c__law_frac_plus := df__law_frac_plus (P := P) (w := w) (base := base) N c__law_frac F__law_frac_plus g__law_frac_plus
  have c__law_gone := df__law_gone (P := P) (w := w) (base := base) N c__law_frac_plus c__law_frac_times F__law_gone g__law_gone
  have c__law_three := df__law_three (P := P) (w := w) (base := base) N c__law_take c__law_of c__law_frac c__law_point_told c__law_point_less c__law_any_point c__law_gone F__law_three g__law_three
  have c__law_right := df__law_right (P := P) (w := w) (base := base) N c_side c_between c__law_point_told c__law_plane_side c__law_three F__law_right g__law_right
  exact fg_law (P := P) (w := w) (base := base) N c__law_pot c__law_cells c__law_right Fl
end ringsorways_k01_whole_sides_of_lines
open PySem PySem.W PySem.Calls PyProof.Rows
theorem PySem.Challenge.cw_ringsorways_k01_whole_sides_of_lines_holds : PySem.Challenge.rw_ringsorways_k01_whole_sides_of_lines.Holds := by
  w_on; o_law
  refine HandSHeadRun.head_imp (r := OpenLaw.row PySem.Challenge.rw_ringsorways_k01_whole_sides_of_lines) (q := ringsorways_k01_whole_sides_of_lines.qv) (H := ringsorways_k01_whole_sides_of_lines.hk) (ob := ringsorways_k01_whole_sides_of_lines.ob) (M := 20000) (loose := ringsorways_k01_whole_sides_of_lines.lo) (d := HandSHeadRun.topDef (OpenLaw.row PySem.Challenge.rw_ringsorways_k01_whole_sides_of_lines).prog 37) (kwd := []) ringsorways_k01_whole_sides_of_lines.ob_eq ringsorways_k01_whole_sides_of_lines.run
    (by kernel_rfl) (by kernel_rfl) (by kernel_rfl) (by rfl) (by first | assumption | decide +kernel) (by decide +kernel) ⟨rfl, rfl, rfl, rfl, rfl, by decide +kernel⟩ ?hw ?hc
  case hw => w_witness2
  case hc =>
    refine Dl.walk_G (l := PySem.Challenge.rw_ringsorways_k01_whole_sides_of_lines) (n := 63) (k := 7) (x := "script") rfl (by decide) (by kernel_rfl) ⟨rfl, by decide, by decide⟩ ?F
    intro w mg fa h Y G hmg0
    obtain ⟨K, KX, c⟩ := Y
    have hmg : mg ("law" : PySem.Str) = some (.ref fa) := by
      have e : (HandSHeadRun.topDef (OpenLaw.row PySem.Challenge.rw_ringsorways_k01_whole_sides_of_lines).prog 37).name = ("law" : PySem.Str) := by kernel_rfl
      rw [← e]
      exact hmg0
    obtain ⟨fd, hb, hF⟩ := ringsorways_k01_whole_sides_of_lines.facts (P := (PySem.Challenge.rw_ringsorways_k01_whole_sides_of_lines).prog) (w := w) KX G hmg c
    exact ⟨K, fd, ringsorways_k01_whole_sides_of_lines.D_law, KX, hb, fun ns hn => ringsorways_k01_whole_sides_of_lines.law_true ns hn, hF⟩
