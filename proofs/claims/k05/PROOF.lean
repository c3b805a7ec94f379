import PyProof.Rows.All
import Wide.All
import OpenK.AllK
import Wide.FinOn
import HandS.ForMost
import HandS.Wide
import HandS.IsInst
import HandS.Flow
import HandS.Gcd
import HandS.Defaults
import HandS.Exc
import HandS.ExcValue
import HandS.Lambda
import HandS.Conv
import HandS.Zip
import HandS.Walk
import HandS.NoneIn
import HandS.Style
import HandS.Ends
import HandS.Codes
import HandS.Words
import HandS.WordsList
import HandS.Head0
import HandS.Head1
import HandS.Head2
import HandS.Head3
import HandS.HeadEnd
import HandS.HeadHook1
import HandS.HeadHook2
import HandS.HeadHook3
import HandS.HeadHook4
import HandS.ExcOwn
import KE.KExcIs
import HandS.ExcField
import HandS.ExcInit
import HandS.EndBits
import HandS.NestedK
import KE.KItemsList
import PyProof.ListRange
import PySem.Challenge.RW_ringsorways_k05_whole_the_same_moved_tur
set_option Elab.async false
set_option linter.all false
set_option maxRecDepth 100000
set_option maxHeartbeats 4000000
set_option exponentiation.threshold 100000
namespace Dl
open PySem PySem.Spec PyProof.Rows L2 LamX

/-! ## plain data, plain heaps -/
inductive D where
  | non | bl (b : Bool) | int (i : Int) | str (x : Str) | tup (ds : List D) | ref (n : Nat) | raw (v : V) | fls (ds : List D) | exc (C : Addr) (d : D) | ins (C : Addr) (ns : List Str) (ds : List D)

inductive Ob where
  | lst (ds : List D) | tab (P : Addr) (q : Str)

abbrev Hd := List Ob
abbrev Ev := List (Option D)

/-- a list that nobody changes -/
def SqF (K : PySem.W.Frag) (H : Hp) (a : Addr) (xs : List V) : Prop := (∃ o, H a = some (.frz o (.lst xs))) ∨ SqL K (fun _ => none) a xs
theorem sql_none {K : PySem.W.Frag} {H : Hp} {a : Addr} {xs : List V} (h : SqL K (fun _ => none) a xs) : SqL K H a xs := by
  rcases h with (h | ⟨o, h⟩) | h
  · cases h
  · cases h
  · exact .inr h
theorem SqF.sq {K : PySem.W.Frag} {H : Hp} {a : Addr} {xs : List V} (h : SqF K H a xs) : SqL K H a xs := by
  rcases h with ⟨o, h⟩ | h
  · exact .inl (.inr ⟨o, h⟩)
  · exact sql_none h
theorem SqF.new {K : PySem.W.Frag} {H : Hp} {a p : Addr} {o : HO} {xs : List V} (h : SqF K H a xs) (n : H p = none) : SqF K (upd H p o) a xs := by
  rcases h with ⟨b, h⟩ | h
  · exact .inl ⟨b, by rw [upd_ne (ne_of_none h n)]; exact h⟩
  · exact .inr h
theorem SqF.put {K : PySem.W.Frag} {H : Hp} {a p : Addr} {o : HO} {xs ys : List V} (h : SqF K H a xs) (n : H p = some (.lst ys)) : SqF K (upd H p o) a xs := by
  rcases h with ⟨b, h⟩ | h
  · exact .inl ⟨b, by rw [upd_ne (ne_of h n (fun z => nomatch z))]; exact h⟩
  · exact .inr h
/-- an exception that was caught: its class, its dict -/
def Caught (cls : Value) (d : Option Addr) (a : Addr) : HO := .ext fun h => ∃ oe : Obj, h.get? a = some oe ∧ Zc cls d oe ∧ ∃ vs, oe.data = .fields vs
/-- .. which carries a value -/
def ExcF (H : Hp) (a C : Addr) (v : V) : Prop := ∃ dd, H a = some (Caught (.ref C) (some dd) a) ∧ H dd = some (.xd [(("value" : Str), v)])
theorem ExcF.new {H : Hp} {a C p : Addr} {v : V} {o : HO} (h : ExcF H a C v) (n : H p = none) : ExcF (upd H p o) a C v := by
  obtain ⟨dd, h1, h2⟩ := h
  exact ⟨dd, by rw [upd_ne (ne_of_none h1 n)]; exact h1, by rw [upd_ne (ne_of_none h2 n)]; exact h2⟩
theorem ExcF.put {H : Hp} {a C p : Addr} {v : V} {o : HO} {ys : List V} (h : ExcF H a C v) (n : H p = some (.lst ys)) : ExcF (upd H p o) a C v := by
  obtain ⟨dd, h1, h2⟩ := h
  exact ⟨dd, by rw [upd_ne (ne_of h1 n (fun z => by unfold Caught at z; cases z))]; exact h1, by rw [upd_ne (ne_of h2 n (fun z => nomatch z))]; exact h2⟩
/-- an instance of an own class that nobody changes -/
def InsF (H : Hp) (a C : Addr) (xs : List (Str × V)) : Prop := ∃ dx, H a = some (.ins C dx xs) ∧ H dx = some (.own a)
theorem InsF.new {H : Hp} {a C p : Addr} {xs : List (Str × V)} {o : HO} (h : InsF H a C xs) (n : H p = none) : InsF (upd H p o) a C xs := by
  obtain ⟨dd, h1, h2⟩ := h
  exact ⟨dd, by rw [upd_ne (ne_of_none h1 n)]; exact h1, by rw [upd_ne (ne_of_none h2 n)]; exact h2⟩
theorem InsF.put {H : Hp} {a C p : Addr} {xs : List (Str × V)} {o : HO} {ys : List V} (h : InsF H a C xs) (n : H p = some (.lst ys)) : InsF (upd H p o) a C xs := by
  obtain ⟨dd, h1, h2⟩ := h
  exact ⟨dd, by rw [upd_ne (ne_of h1 n (fun z => nomatch z))]; exact h1, by rw [upd_ne (ne_of h2 n (fun z => nomatch z))]; exact h2⟩
mutual
def Rep (K : PySem.W.Frag) (ρ : List Addr) (H : Hp) : D → V → Prop
  | .non, v => v = .non
  | .bl b, v => v = .bl b
  | .int i, v => v = .int i
  | .str x, v => v = .str x
  | .tup ds, v => ∃ a vs, v = .ref a ∧ SqT K H a vs ∧ RepL K ρ H ds vs
  | .ref n, v => ∃ a, v = .ref a ∧ ρ[n]? = some a
  | .raw u, v => v = u
  | .fls ds, v => ∃ a vs, v = .ref a ∧ SqF K H a vs ∧ RepL K ρ H ds vs
  | .exc C d, v => ∃ a w, v = .ref a ∧ ExcF H a C w ∧ Rep K ρ H d w
  | .ins C ns ds, v => ∃ a xs, v = .ref a ∧ InsF H a C xs ∧ xs.map Prod.fst = ns ∧ RepL K ρ H ds (xs.map Prod.snd)
def RepL (K : PySem.W.Frag) (ρ : List Addr) (H : Hp) : List D → List V → Prop
  | [], vs => vs = []
  | d :: ds, vs => ∃ v r, vs = v :: r ∧ Rep K ρ H d v ∧ RepL K ρ H ds r
end

def Ext (K : PySem.W.Frag) (H H' : Hp) : Prop := (∀ a xs, SqT K H a xs → SqT K H' a xs) ∧ (∀ a xs, SqF K H a xs → SqF K H' a xs) ∧ (∀ a C v, ExcF H a C v → ExcF H' a C v) ∧ (∀ c q, H c = some (CodeO c q) → H' c = some (CodeO c q)) ∧ ∀ a C xs, InsF H a C xs → InsF H' a C xs
theorem Ext.refl {K : PySem.W.Frag} {H : Hp} : Ext K H H := ⟨fun _ _ h => h, fun _ _ h => h, fun _ _ _ h => h, fun _ _ h => h, fun _ _ _ h => h⟩
theorem Ext.trans {K : PySem.W.Frag} {H H1 H2 : Hp} (a : Ext K H H1) (b : Ext K H1 H2) : Ext K H H2 := ⟨fun _ _ h => b.1 _ _ (a.1 _ _ h), fun _ _ h => b.2.1 _ _ (a.2.1 _ _ h), fun _ _ _ h => b.2.2.1 _ _ _ (a.2.2.1 _ _ _ h), fun _ _ h => b.2.2.2.1 _ _ (a.2.2.2.1 _ _ h), fun _ _ _ h => b.2.2.2.2 _ _ _ (a.2.2.2.2 _ _ _ h)⟩
theorem Ext.new {K : PySem.W.Frag} {H : Hp} {p : Addr} {o : HO} (n : H p = none) : Ext K H (upd H p o) := ⟨fun a xs h => by
  rcases h with h | h
  · refine .inl ?_
    rcases h with h | ⟨b, h⟩
    · exact .inl (by rw [upd_ne (ne_of_none h n)]; exact h)
    · exact .inr ⟨b, by rw [upd_ne (ne_of_none h n)]; exact h⟩
  · exact .inr h, fun a xs h => h.new n, fun a C v h => h.new n, fun c q h => by rw [upd_ne (ne_of_none h n)]; exact h, fun a C xs h => h.new n⟩
theorem Ext.put {K : PySem.W.Frag} {H : Hp} {p : Addr} {ys : List V} {o : HO} (n : H p = some (.lst ys)) : Ext K H (upd H p o) := ⟨fun a xs h => by
  rcases h with h | h
  · refine .inl ?_
    rcases h with h | ⟨b, h⟩
    · exact .inl (by rw [upd_ne (ne_of h n (fun z => nomatch z))]; exact h)
    · exact .inr ⟨b, by rw [upd_ne (ne_of h n (fun z => nomatch z))]; exact h⟩
  · exact .inr h, fun a xs h => h.put n, fun a C v h => h.put n, fun c q h => by rw [upd_ne (ne_of h n (fun z => by unfold CodeO at z; cases z))]; exact h, fun a C xs h => h.put n⟩

theorem pre_get {α : Type} {l l' : List α} (h : l <+: l') {n : Nat} {a : α} (e : l[n]? = some a) : l'[n]? = some a := by
  obtain ⟨t, rfl⟩ := h
  rw [List.getElem?_append_left]
  · exact e
  · exact (List.getElem?_eq_some_iff.mp e).1

mutual
theorem Rep.mono {K : PySem.W.Frag} {ρ ρ' : List Addr} {H H' : Hp} (p : ρ <+: ρ') (x : Ext K H H') : ∀ (d : D) (v : V), Rep K ρ H d v → Rep K ρ' H' d v
  | .non, v, h => by simp only [Rep] at h ⊢; exact h
  | .bl b, v, h => by simp only [Rep] at h ⊢; exact h
  | .int i, v, h => by simp only [Rep] at h ⊢; exact h
  | .str z, v, h => by simp only [Rep] at h ⊢; exact h
  | .raw u, v, h => by simp only [Rep] at h ⊢; exact h
  | .ref n, v, h => by
    simp only [Rep] at h ⊢
    obtain ⟨a, e, q⟩ := h
    exact ⟨a, e, pre_get p q⟩
  | .tup ds, v, h => by
    simp only [Rep] at h ⊢
    obtain ⟨a, vs, e, q, r⟩ := h
    exact ⟨a, vs, e, x.1 _ _ q, RepL.mono p x ds vs r⟩
  | .fls ds, v, h => by
    simp only [Rep] at h ⊢
    obtain ⟨a, vs, e, q, r⟩ := h
    exact ⟨a, vs, e, x.2.1 _ _ q, RepL.mono p x ds vs r⟩
  | .exc C d, v, h => by
    simp only [Rep] at h ⊢
    obtain ⟨a, w, e, q, r⟩ := h
    exact ⟨a, w, e, x.2.2.1 _ _ _ q, Rep.mono p x d w r⟩
  | .ins C ns ds, v, h => by
    simp only [Rep] at h ⊢
    obtain ⟨a, xs, e, q, n, r⟩ := h
    exact ⟨a, xs, e, x.2.2.2.2 _ _ _ q, n, RepL.mono p x ds _ r⟩
theorem RepL.mono {K : PySem.W.Frag} {ρ ρ' : List Addr} {H H' : Hp} (p : ρ <+: ρ') (x : Ext K H H') : ∀ (ds : List D) (vs : List V), RepL K ρ H ds vs → RepL K ρ' H' ds vs
  | [], vs, h => by simp only [RepL] at h ⊢; exact h
  | d :: ds, vs, h => by
    simp only [RepL] at h ⊢
    obtain ⟨v, r, e, q, t⟩ := h
    exact ⟨v, r, e, Rep.mono p x d v q, RepL.mono p x ds r t⟩
end
section
variable {K : PySem.W.Frag} {ρ : List Addr} {H : Hp}
theorem RepL.length : ∀ {ds : List D} {vs : List V}, RepL K ρ H ds vs → ds.length = vs.length
  | [], vs, h => by simp only [RepL] at h; subst h; rfl
  | d :: ds, vs, h => by
    simp only [RepL] at h
    obtain ⟨v, r, rfl, _, t⟩ := h
    simp [RepL.length t]
theorem RepL.get : ∀ {ds : List D} {vs : List V} {i : Nat} {d : D}, RepL K ρ H ds vs → ds[i]? = some d → ∃ v, vs[i]? = some v ∧ Rep K ρ H d v
  | [], _, _, _, _, e => by simp at e
  | d :: ds, vs, 0, d', h, e => by
    simp only [RepL] at h
    obtain ⟨v, r, rfl, q, _⟩ := h
    simp at e; subst e
    exact ⟨v, rfl, q⟩
  | d :: ds, vs, i + 1, d', h, e => by
    simp only [RepL] at h
    obtain ⟨v, r, rfl, _, t⟩ := h
    obtain ⟨v', e', q⟩ := RepL.get (i := i) t (by simpa using e)
    exact ⟨v', by simpa using e', q⟩
theorem RepL.append : ∀ {ds es : List D} {vs ws : List V}, RepL K ρ H ds vs → RepL K ρ H es ws → RepL K ρ H (ds ++ es) (vs ++ ws)
  | [], _, _, _, h, h' => by simp only [RepL] at h; subst h; exact h'
  | d :: ds, es, vs, ws, h, h' => by
    simp only [RepL] at h
    obtain ⟨v, r, rfl, q, t⟩ := h
    show RepL K ρ H (d :: (ds ++ es)) (v :: (r ++ ws))
    simp only [RepL]
    exact ⟨v, _, rfl, q, RepL.append t h'⟩
theorem RepL.one {d : D} {v : V} (h : Rep K ρ H d v) : RepL K ρ H [d] [v] := by
  simp only [RepL]; exact ⟨v, [], rfl, h, rfl⟩
theorem RepL.nil : RepL K ρ H [] [] := by simp only [RepL]
theorem RepL.set : ∀ {ds : List D} {vs : List V} {i : Nat} {d : D} {v : V}, RepL K ρ H ds vs → Rep K ρ H d v → RepL K ρ H (ds.set i d) (vs.set i v)
  | [], vs, i, d, v, h, q => by simp only [RepL] at h; subst h; simp [RepL]
  | e :: ds, vs, 0, d, v, h, q => by
    simp only [RepL] at h
    obtain ⟨w, r, rfl, _, t⟩ := h
    show RepL K ρ H (d :: ds) (v :: r)
    simp only [RepL]; exact ⟨v, r, rfl, q, t⟩
  | e :: ds, vs, i + 1, d, v, h, q => by
    simp only [RepL] at h
    obtain ⟨w, r, rfl, s, t⟩ := h
    show RepL K ρ H (e :: ds.set i d) (w :: r.set i v)
    simp only [RepL]; exact ⟨w, _, rfl, s, RepL.set t q⟩
theorem RepL.take (n : Nat) : ∀ {ds : List D} {vs : List V}, RepL K ρ H ds vs → RepL K ρ H (ds.take n) (vs.take n) := by
  induction n with
  | zero => intro ds vs _; simp [RepL]
  | succ n ih =>
    intro ds vs h
    cases ds with
    | nil => simp only [RepL] at h; subst h; simp [RepL]
    | cons d ds =>
      simp only [RepL] at h
      obtain ⟨v, r, rfl, q, t⟩ := h
      show RepL K ρ H (d :: ds.take n) (v :: r.take n)
      simp only [RepL]; exact ⟨v, _, rfl, q, ih t⟩
theorem RepL.drop (n : Nat) : ∀ {ds : List D} {vs : List V}, RepL K ρ H ds vs → RepL K ρ H (ds.drop n) (vs.drop n) := by
  induction n with
  | zero => intro ds vs h; exact h
  | succ n ih =>
    intro ds vs h
    cases ds with
    | nil => simp only [RepL] at h; subst h; simp [RepL]
    | cons d ds =>
      simp only [RepL] at h
      obtain ⟨v, r, rfl, q, t⟩ := h
      exact ih t
end

/-! ## the heap -/
def ObR (K : PySem.W.Frag) (ρ : List Addr) (H : Hp) (a : Addr) : Ob → Prop
  | .lst ds => ∃ vs, H a = some (.lst vs) ∧ RepL K ρ H ds vs
  | .tab P q => a = P ∧ TabS H a q
structure Rel (K : PySem.W.Frag) (ρ : List Addr) (H : Hp) (hd : Hd) : Prop where
  len : ρ.length = hd.length
  nd : ρ.Nodup
  ob : ∀ (n : Nat) (a : Addr) (o : Ob), ρ[n]? = some a → hd[n]? = some o → ObR K ρ H a o
theorem ObR.there {K : PySem.W.Frag} {ρ : List Addr} {H : Hp} {a : Addr} {o : Ob} (h : ObR K ρ H a o) : ∃ u, H a = some u := by
  cases o with
  | lst ds => obtain ⟨vs, q, _⟩ := h; exact ⟨_, q⟩
  | tab P q => obtain ⟨_, ps, e, _⟩ := h; exact ⟨_, e⟩
theorem ObR.mono {K : PySem.W.Frag} {ρ ρ' : List Addr} {H H' : Hp} {a : Addr} {o : Ob} (h : ObR K ρ H a o) (p : ρ <+: ρ') (x : Ext K H H') (e : ∀ u, H a = some u → H' a = some u) : ObR K ρ' H' a o := by
  cases o with
  | lst ds => obtain ⟨vs, q, r⟩ := h; exact ⟨vs, e _ q, r.mono p x⟩
  | tab P q =>
    obtain ⟨eP, ps, q1, q2, q3⟩ := h
    exact ⟨eP, ps, e _ q1, q2, fun pos cv hc => let ⟨c, e1, e2⟩ := q3 pos cv hc; ⟨c, e1, x.2.2.2.1 _ _ e2⟩⟩
theorem Rel.there {K : PySem.W.Frag} {ρ : List Addr} {H : Hp} {hd : Hd} (r : Rel K ρ H hd) {a : Addr} (h : a ∈ ρ) : ∃ u, H a = some u := by
  obtain ⟨n, hn, rfl⟩ := List.getElem_of_mem h
  have hl : n < hd.length := by rw [← r.len]; exact hn
  exact (r.ob n _ _ (List.getElem?_eq_getElem hn) (List.getElem?_eq_getElem hl)).there
theorem Rel.fresh {K : PySem.W.Frag} {ρ : List Addr} {H : Hp} {hd : Hd} (r : Rel K ρ H hd) {p : Addr} (h : H p = none) : p ∉ ρ := fun m => by
  obtain ⟨u, e⟩ := r.there m
  rw [h] at e; cases e
theorem nodup_get {l : List Addr} (h : l.Nodup) {n m : Nat} {a : Addr} (e1 : l[n]? = some a) (e2 : l[m]? = some a) : n = m := by
  obtain ⟨h1, e1⟩ := List.getElem?_eq_some_iff.mp e1
  obtain ⟨h2, e2⟩ := List.getElem?_eq_some_iff.mp e2
  have p := List.pairwise_iff_getElem.mp h
  rcases Nat.lt_trichotomy n m with c | c | c
  · exact absurd (e1.trans e2.symm) (p n m h1 h2 c)
  · exact c
  · exact absurd (e2.trans e1.symm) (p m n h2 h1 c)
/-- the slots -/
def SRel (K : PySem.W.Frag) (ρ : List Addr) (H : Hp) (env : Ev) (σ : L2.St) : Prop :=
  σ.length = env.length ∧ ∀ (i : Nat) (d : D), env[i]? = some (some d) → ∃ v, σ[i]? = some (some v) ∧ Rep K ρ H d v
theorem SRel.mono {K : PySem.W.Frag} {ρ ρ' : List Addr} {H H' : Hp} {env : Ev} {σ : L2.St} (h : SRel K ρ H env σ) (p : ρ <+: ρ') (x : Ext K H H') : SRel K ρ' H' env σ :=
  ⟨h.1, fun i d e => let ⟨v, e', r⟩ := h.2 i d e; ⟨v, e', r.mono p x⟩⟩
theorem SRel.set {K : PySem.W.Frag} {ρ : List Addr} {H : Hp} {env : Ev} {σ : L2.St} {i : Nat} {d : D} {v : V} (h : SRel K ρ H env σ) (q : Rep K ρ H d v) : SRel K ρ H (env.set i (some d)) (σ.set i (some v)) := by
  refine ⟨by rw [List.length_set, List.length_set, h.1], fun j e hj => ?_⟩
  by_cases ij : i = j
  · subst ij
    by_cases hl : i < env.length
    · rw [List.getElem?_set_self hl] at hj
      cases hj
      exact ⟨v, List.getElem?_set_self (by rw [h.1]; exact hl), q⟩
    · rw [List.getElem?_eq_none (by rw [List.length_set]; omega)] at hj; cases hj
  · rw [List.getElem?_set_ne ij] at hj
    rw [List.getElem?_set_ne ij]
    exact h.2 j e hj
/-- what an evaluation leaves -/
structure Post (K : PySem.W.Frag) (ρ ρ' : List Addr) (H H' : Hp) (hd' : Hd) : Prop where
  pre : ρ <+: ρ'
  ext : Ext K H H'
  rel : Rel K ρ' H' hd'
  fr : ∀ a o, H a = some o → (∀ ps, o ≠ .tbl ps) → a ∉ ρ → H' a = some o ∧ a ∉ ρ'
theorem Post.refl {K : PySem.W.Frag} {ρ : List Addr} {H : Hp} {hd : Hd} (r : Rel K ρ H hd) : Post K ρ ρ H H hd := ⟨List.prefix_refl _, .refl, r, fun _ _ h _ n => ⟨h, n⟩⟩
theorem Post.trans {K : PySem.W.Frag} {ρ ρ1 ρ2 : List Addr} {H H1 H2 : Hp} {hd1 hd2 : Hd} (a : Post K ρ ρ1 H H1 hd1) (b : Post K ρ1 ρ2 H1 H2 hd2) : Post K ρ ρ2 H H2 hd2 :=
  ⟨a.pre.trans b.pre, a.ext.trans b.ext, b.rel, fun x o h t n => let ⟨h1, n1⟩ := a.fr x o h t n; b.fr x o h1 t n1⟩

/-- what stays as it is -/
theorem Rel.keep {K : PySem.W.Frag} {ρ : List Addr} {H H' : Hp} {hd : Hd} (r : Rel K ρ H hd) (x : Ext K H H') (e : ∀ a ∈ ρ, ∀ u, H a = some u → H' a = some u) : Rel K ρ H' hd :=
  ⟨r.len, r.nd, fun n a o ea eo => ObR.mono (r.ob n a o ea eo) (List.prefix_refl _) x (e a (List.mem_of_getElem? ea))⟩
theorem Post.newT {K : PySem.W.Frag} {ρ : List Addr} {H : Hp} {hd : Hd} {p : Addr} {o : HO} (r : Rel K ρ H hd) (n : H p = none) : Post K ρ ρ H (upd H p o) hd :=
  ⟨List.prefix_refl _, .new n, r.keep (.new n) fun a _ u h => by rw [upd_ne (ne_of_none h n)]; exact h, fun a u h _ m => ⟨by rw [upd_ne (ne_of_none h n)]; exact h, m⟩⟩
/-- an object that was made aside comes in -/
theorem Rel.adopt {K : PySem.W.Frag} {ρ : List Addr} {H : Hp} {hd : Hd} {p : Addr} {o : Ob} (r : Rel K ρ H hd) (np : p ∉ ρ) (q : ObR K ρ H p o) : Rel K (ρ ++ [p]) H (hd ++ [o]) := by
  have pp : ρ <+: ρ ++ [p] := List.prefix_append _ _
  refine ⟨by simp [r.len], ?_, fun i a ob ea eo => ?_⟩
  · rw [List.nodup_append]
    exact ⟨r.nd, by simp, fun a ha b hb e => np (by rw [List.mem_singleton] at hb; rw [← hb, ← e]; exact ha)⟩
  · by_cases hi : i < hd.length
    · rw [List.getElem?_append_left (by rw [r.len]; exact hi)] at ea
      rw [List.getElem?_append_left hi] at eo
      exact ObR.mono (r.ob i a ob ea eo) pp .refl fun _ h => h
    · rw [List.getElem?_append_right (by omega)] at eo
      have hz : i - hd.length = 0 := by
        have := (List.getElem?_eq_some_iff.mp eo).1
        simp at this; omega
      rw [hz] at eo
      rw [List.getElem?_append_right (by rw [r.len]; omega), r.len, hz] at ea
      simp at ea eo
      subst ea eo
      exact ObR.mono q pp .refl fun _ h => h
/-- a new list -/
theorem Post.newL {K : PySem.W.Frag} {ρ : List Addr} {H : Hp} {hd : Hd} {p : Addr} {ds : List D} {vs : List V} (r : Rel K ρ H hd) (n : H p = none) (q : RepL K ρ H ds vs) : Post K ρ (ρ ++ [p]) H (upd H p (.lst vs)) (hd ++ [.lst ds]) := by
  refine ⟨List.prefix_append _ _, .new n, Rel.adopt (Post.newT r n).rel (r.fresh n) ⟨vs, upd_same, q.mono (List.prefix_refl _) (.new n)⟩, fun a u h _ m => ⟨by rw [upd_ne (ne_of_none h n)]; exact h, fun z => ?_⟩⟩
  rcases List.mem_append.mp z with z | z
  · exact m z
  · exact ne_of_none h n (by simpa using z)
/-- a list changed -/
theorem Post.put {K : PySem.W.Frag} {ρ : List Addr} {H : Hp} {hd : Hd} {p : Addr} {i : Nat} {ds es : List D} {ws : List V} (r : Rel K ρ H hd) (ep : ρ[i]? = some p) (eo : hd[i]? = some (.lst ds)) (q : RepL K ρ H es ws) : Post K ρ ρ H (upd H p (.lst ws)) (hd.set i (.lst es)) := by
  obtain ⟨vs, hp, _⟩ := r.ob i p _ ep eo
  have hi : i < hd.length := (List.getElem?_eq_some_iff.mp eo).1
  refine ⟨List.prefix_refl _, .put hp, ⟨by simp [r.len], r.nd, fun n a ob ea eb => ?_⟩, fun a u h _ m => ⟨by rw [upd_ne (show a ≠ p from fun z => m (by rw [z]; exact List.mem_of_getElem? ep))]; exact h, m⟩⟩
  by_cases e : i = n
  · subst e
    rw [List.getElem?_set_self hi] at eb
    cases eb
    rw [ep] at ea; cases ea
    exact ⟨ws, upd_same, q.mono (List.prefix_refl _) (.put hp)⟩
  · rw [List.getElem?_set_ne e] at eb
    have na : a ≠ p := fun z => e (nodup_get r.nd ep (by rw [← z]; exact ea))
    exact ObR.mono (r.ob n a ob ea eb) (List.prefix_refl _) (.put hp) fun u h => by rw [upd_ne na]; exact h
/-- a list aside is written -/
theorem Rel.aside {K : PySem.W.Frag} {ρ : List Addr} {H : Hp} {hd : Hd} {p : Addr} {vs : List V} {o : HO} (r : Rel K ρ H hd) (h : H p = some (.lst vs)) (np : p ∉ ρ) : Rel K ρ (upd H p o) hd :=
  r.keep (.put h) fun a ha u e => by rw [upd_ne (show a ≠ p from fun z => np (by rw [← z]; exact ha))]; exact e

/-! ## judgements -/
abbrev EM := Ev → Hd → Option (D × Hd)
abbrev AM := Ev → Hd → Option (List D × Hd)
abbrev BM := Ev → Hd → Option (Bool × Hd)
inductive Fl where
  | nx | rt (d : D) | bk | ct
abbrev SM := Ev → Hd → Option (Fl × Ev × Hd)

/-- the state a piece of code starts from -/
structure At (K : PySem.W.Frag) (ρ : List Addr) (σ : L2.St) (H : Hp) (env : Ev) (hd : Hd) : Prop where
  rel : Rel K ρ H hd
  sl : SRel K ρ H env σ
theorem At.post {K : PySem.W.Frag} {ρ ρ' : List Addr} {σ : L2.St} {H H' : Hp} {env : Ev} {hd hd' : Hd} (a : At K ρ σ H env hd) (p : Post K ρ ρ' H H' hd') : At K ρ' σ H' env hd' := ⟨p.rel, a.sl.mono p.pre p.ext⟩
def tM (K : PySem.W.Frag) (f : EM) : TE := fun σ H Q => ∃ ρ env hd d hd', At K ρ σ H env hd ∧ f env hd = some (d, hd') ∧ ∀ v ρ' H', Post K ρ ρ' H H' hd' → Rep K ρ' H' d v → Q v H'
def tA (K : PySem.W.Frag) (f : AM) : TA := fun σ H Q => ∃ ρ env hd ds hd', At K ρ σ H env hd ∧ f env hd = some (ds, hd') ∧ ∀ vs ρ' H', Post K ρ ρ' H H' hd' → RepL K ρ' H' ds vs → Q vs H'
def tT (K : PySem.W.Frag) (f : BM) : TT := fun σ H Q => ∃ ρ env hd b hd', At K ρ σ H env hd ∧ f env hd = some (b, hd') ∧ ∀ ρ' H', Post K ρ ρ' H H' hd' → Q b H'
def endF (K : PySem.W.Frag) (D : Ends) (ρ' : List Addr) (σ' : L2.St) (H' : Hp) : Fl → Prop
  | .nx => D.nx σ' H'
  | .rt d => ∀ v, Rep K ρ' H' d v → D.rt v H'
  | .bk => D.bk σ' H'
  | .ct => D.ct σ' H'
def tS (K : PySem.W.Frag) (f : SM) : TS := fun D σ H => ∃ ρ env hd fl env' hd', At K ρ σ H env hd ∧ f env hd = some (fl, env', hd') ∧ ∀ ρ' σ' H', Post K ρ ρ' H H' hd' → SRel K ρ' H' env' σ' → endF K D ρ' σ' H' fl

theorem PE.to {X : Cx} {e : Expr} {t t' : TE} (h : PE X e t) (m : ∀ σ H Q, t' σ H Q → t σ H Q) : PE X e t' := ⟨fun pins s σ H Q I q => h.run pins s σ H Q I (m σ H Q q)⟩
theorem PT.to {X : Cx} {e : Expr} {t t' : TT} (h : PT X e t) (m : ∀ σ H Q, t' σ H Q → t σ H Q) : PT X e t' := ⟨fun pins s σ H Q I q => h.run pins s σ H Q I (m σ H Q q)⟩
theorem PA.to {X : Cx} {es : List Expr} {t t' : TA} (h : PA X es t) (m : ∀ σ H Q, t' σ H Q → t σ H Q) : PA X es t' := ⟨fun pos pins s σ H Q I q => h.run pos pins s σ H Q I (m σ H Q q)⟩
theorem PS.to {X : Cx} {e : Stmt} {t t' : TS} (h : PS X e t) (m : ∀ D σ H, t' D σ H → t D σ H) : PS X e t' := ⟨fun pins s σ H D I q => h.run pins s σ H D I (m D σ H q)⟩
theorem PSs.to {X : Cx} {e : List Stmt} {t t' : TS} (h : PSs X e t) (m : ∀ D σ H, t' D σ H → t D σ H) : PSs X e t' := ⟨fun pins s σ H D I q => h.run pins s σ H D I (m D σ H q)⟩
end Dl

namespace Dl
open PySem PySem.Spec PyProof.Rows L2
/-! ## operations -/
abbrev G2 := D → D → Hd → Option (D × Hd)
abbrev GN := List D → Hd → Option (D × Hd)
def rM (K : PySem.W.Frag) (g : G2) : R2 := fun x y H Q => ∃ ρ hd a b d hd', Rel K ρ H hd ∧ Rep K ρ H a x ∧ Rep K ρ H b y ∧ g a b hd = some (d, hd') ∧ ∀ v ρ' H', Post K ρ ρ' H H' hd' → Rep K ρ' H' d v → Q v H'
def rU1 (K : PySem.W.Frag) (g : D → Hd → Option (D × Hd)) : V → Hp → VK → Prop := fun x H Q => ∃ ρ hd a d hd', Rel K ρ H hd ∧ Rep K ρ H a x ∧ g a hd = some (d, hd') ∧ ∀ v ρ' H', Post K ρ ρ' H H' hd' → Rep K ρ' H' d v → Q v H'
def rN (K : PySem.W.Frag) (g : GN) : List V → Hp → VK → Prop := fun xs H Q => ∃ ρ hd ds d hd', Rel K ρ H hd ∧ RepL K ρ H ds xs ∧ g ds hd = some (d, hd') ∧ ∀ v ρ' H', Post K ρ ρ' H H' hd' → Rep K ρ' H' d v → Q v H'
theorem OpR.to {X : Cx} {f : Value → Value → Sem Value} {r r' : R2} (h : OpR X f r) (m : ∀ x y H Q, r' x y H Q → r x y H Q) : OpR X f r' := fun pins s σ H x y v u Q I a b q => h pins s σ H x y v u Q I a b (m _ _ _ _ q)
theorem UnR.to {X : Cx} {f : Value → Sem Value} {r r' : V → Hp → VK → Prop} (h : UnR X f r) (m : ∀ x H Q, r' x H Q → r x H Q) : UnR X f r' := fun pins s σ H x v Q I a q => h pins s σ H x v Q I a (m _ _ _ q)
theorem CallR.to {X : Cx} {f : Value} {r r' : List V → Hp → VK → Prop} (h : CallR X f r) (m : ∀ x H Q, r' x H Q → r x H Q) : CallR X f r' := fun pins s σ H x v Q I a q => h pins s σ H x v Q I a (m _ _ _ q)
theorem CallR.or {X : Cx} {f : Value} {r r' : List V → Hp → VK → Prop} (h : CallR X f r) (h' : CallR X f r') : CallR X f (fun x H Q => r x H Q ∨ r' x H Q) := fun pins s σ H x v Q I a q => q.elim (h pins s σ H x v Q I a) (h' pins s σ H x v Q I a)

theorem rep_int {K ρ H i v} : Rep K ρ H (.int i) v ↔ v = .int i := by simp only [Rep]
theorem rep_bl {K ρ H i v} : Rep K ρ H (.bl i) v ↔ v = .bl i := by simp only [Rep]
theorem rep_str {K ρ H i v} : Rep K ρ H (.str i) v ↔ v = .str i := by simp only [Rep]
theorem rep_non {K ρ H v} : Rep K ρ H .non v ↔ v = .non := by simp only [Rep]
theorem rep_raw {K ρ H u v} : Rep K ρ H (.raw u) v ↔ v = u := by simp only [Rep]
theorem rep_tup {K ρ H ds v} : Rep K ρ H (.tup ds) v ↔ ∃ a vs, v = .ref a ∧ SqT K H a vs ∧ RepL K ρ H ds vs := by simp only [Rep]
theorem rep_fls {K ρ H ds v} : Rep K ρ H (.fls ds) v ↔ ∃ a vs, v = .ref a ∧ SqF K H a vs ∧ RepL K ρ H ds vs := by simp only [Rep]
theorem rep_exc {K ρ H C d v} : Rep K ρ H (.exc C d) v ↔ ∃ a w, v = .ref a ∧ ExcF H a C w ∧ Rep K ρ H d w := by simp only [Rep]
theorem rep_ins {K ρ H C ns ds v} : Rep K ρ H (.ins C ns ds) v ↔ ∃ a xs, v = .ref a ∧ InsF H a C xs ∧ xs.map Prod.fst = ns ∧ RepL K ρ H ds (xs.map Prod.snd) := by simp only [Rep]
theorem rep_ref {K ρ H n v} : Rep K ρ H (.ref n) v ↔ ∃ a, v = .ref a ∧ ρ[n]? = some a := by simp only [Rep]

def lsOf (hd : Hd) (n : Nat) : Option (List D) := match hd[n]? with | some (.lst ds) => some ds | _ => none
theorem lsOf_sq {K ρ H hd n ds a} (r : Rel K ρ H hd) (e : lsOf hd n = some ds) (ea : ρ[n]? = some a) : ∃ vs, SqL K H a vs ∧ RepL K ρ H ds vs := by
  unfold lsOf at e
  split at e
  · rename_i xs h; cases e
    obtain ⟨vs, q, t⟩ := r.ob n a _ ea h
    exact ⟨vs, .of q, t⟩
  · cases e

/-- ints of any kind -/
def addD : G2
  | .int i, .int j, hd => some (.int (i + j), hd)
  | .str x, .str y, hd => if x.length + y.length ≤ 1000000 then some (.str (x ++ y), hd) else none
  | .tup xs, .tup ys, hd => if xs.length ≠ 0 ∧ ys.length ≠ 0 ∧ xs.length + ys.length ≤ 1000000 then some (.tup (xs ++ ys), hd) else none
  | .ref n, .ref m, hd => match hd[n]?, hd[m]? with
    | some (.lst xs), some (.lst ys) => if xs.length + ys.length ≤ 1000000 then some (.ref hd.length, hd ++ [.lst (xs ++ ys)]) else none
    | _, _ => none
  | _, _, _ => none
def subD : G2
  | .int i, .int j, hd => some (.int (i - j), hd)
  | _, _, _ => none
def mulD : G2
  | .int i, .int j, hd => if i.natAbs < 2 ^ 20000 ∧ j.natAbs < 2 ^ 20000 then some (.int (i * j), hd) else none
  | _, _, _ => none
def divD : G2
  | .int i, .int j, hd => if j ≠ 0 ∧ j.natAbs < 2 ^ 8000 then some (.int (i.fdiv j), hd) else none
  | _, _, _ => none
def modD : G2
  | .int i, .int j, hd => if j ≠ 0 then some (.int (i.fmod j), hd) else none
  | _, _, _ => none
def powD : G2
  | .int i, .int j, hd => if 0 ≤ j ∧ j ≤ 100 ∧ i.natAbs < 2 ^ 20000 then some (.int (i ^ j.toNat), hd) else none
  | _, _, _ => none
theorem line1M : 1000000 ≤ sizeLine := by rw [sizeLine_eq]; decide
section
variable {X : Cx}
theorem om_add : OpR X (binaryOp .Add) (rM X.K addD) := by
  refine OpR.to (OpR.or op_add (OpR.or op_add_str (OpR.or op_catT op_cat))) fun x y H Q ⟨ρ, hd, a, b, d, hd', r, ra, rb, e, q⟩ => ?_
  cases a <;> cases b <;> simp only [addD] at e <;> try contradiction
  · rw [rep_int] at ra rb; cases e
    exact .inl ⟨_, _, ra, rb, q _ ρ H (.refl r) (rep_int.mpr rfl)⟩
  · rw [rep_str] at ra rb
    split at e
    · rename_i h; cases e
      exact .inr (.inl ⟨_, _, ra, rb, Nat.le_trans h line1M, q _ ρ H (.refl r) (rep_str.mpr rfl)⟩)
    · cases e
  · rw [rep_tup] at ra rb
    obtain ⟨a, vs, rfl, sa, la⟩ := ra
    obtain ⟨b, ws, rfl, sb, lb⟩ := rb
    split at e
    · rename_i h; cases e
      have l1 := la.length
      have l2 := lb.length
      refine .inr (.inr (.inl ⟨a, b, vs, ws, rfl, rfl, sa, sb, fun z => ?_, ?_, fun z => ?_, fun z p np => ?_⟩))
      · subst z; simp at l1; exact h.1 (by simp [l1])
      · have := line1M; omega
      · subst z; simp at l2; exact absurd (by simp [l2]) h.2.1
      · refine q _ ρ _ (.newT r np) (rep_tup.mpr ⟨p, _, rfl, .of upd_same, ?_⟩)
        exact (la.append lb).mono (List.prefix_refl _) (.new np)
    · cases e
  · rename_i n m
    rw [rep_ref] at ra rb
    obtain ⟨a, rfl, ea⟩ := ra
    obtain ⟨b, rfl, eb⟩ := rb
    split at e
    · rename_i xs ys hn hm
      split at e
      · rename_i h; cases e
        obtain ⟨vs, va, la⟩ := r.ob n a _ ea hn
        obtain ⟨ws, wa, lb⟩ := r.ob m b _ eb hm
        have l1 := la.length
        have l2 := lb.length
        refine .inr (.inr (.inr ⟨a, b, vs, ws, rfl, rfl, va, wa, ?_, fun p np => ?_⟩))
        · have := line1M; omega
        · exact q _ _ _ (.newL r np (la.append lb)) (rep_ref.mpr ⟨p, rfl, by rw [List.getElem?_append_right (by rw [r.len]; exact Nat.le_refl _), r.len]; simp⟩)
      · cases e
    · cases e
theorem om_sub : OpR X (binaryOp .Sub) (rM X.K subD) := by
  refine OpR.to op_sub fun x y H Q ⟨ρ, hd, a, b, d, hd', r, ra, rb, e, q⟩ => ?_
  cases a <;> cases b <;> simp only [subD] at e <;> try contradiction
  rw [rep_int] at ra rb; cases e
  exact ⟨_, _, ra, rb, q _ ρ H (.refl r) (rep_int.mpr rfl)⟩
theorem om_mul : OpR X (binaryOp .Mult) (rM X.K mulD) := by
  refine OpR.to op_mulW fun x y H Q ⟨ρ, hd, a, b, d, hd', r, ra, rb, e, q⟩ => ?_
  cases a <;> cases b <;> simp only [mulD] at e <;> try contradiction
  rw [rep_int] at ra rb
  split at e
  · rename_i h; cases e
    exact ⟨_, _, ra, rb, wide_mul h.1 h.2 (by decide) (by decide) (by decide), q _ ρ H (.refl r) (rep_int.mpr rfl)⟩
  · cases e
theorem op_fdivA : OpR X (binaryOp .FloorDiv) (rI (fun _ j => j ≠ 0 ∧ j.natAbs < 2 ^ 8000) fun i j => .int (i.fdiv j)) := opI fun i j _ _ _ _ _ hc q =>
  floordiv_int hc.1 q (.inl (PyProof.noPylong_of_log2 (Nat.lt_of_lt_of_le (PySem.Flt.log2_lt_of (by decide) hc.2) (by decide))))
theorem om_div : OpR X (binaryOp .FloorDiv) (rM X.K divD) := by
  refine OpR.to op_fdivA fun x y H Q ⟨ρ, hd, a, b, d, hd', r, ra, rb, e, q⟩ => ?_
  cases a <;> cases b <;> simp only [divD] at e <;> try contradiction
  rw [rep_int] at ra rb
  split at e
  · rename_i h; cases e
    exact ⟨_, _, ra, rb, h, q _ ρ H (.refl r) (rep_int.mpr rfl)⟩
  · cases e
theorem om_mod : OpR X (binaryOp .Mod) (rM X.K modD) := by
  refine OpR.to op_modN fun x y H Q ⟨ρ, hd, a, b, d, hd', r, ra, rb, e, q⟩ => ?_
  cases a <;> cases b <;> simp only [modD] at e <;> try contradiction
  rw [rep_int] at ra rb
  split at e
  · rename_i h; cases e
    exact ⟨_, _, ra, rb, h, q _ ρ H (.refl r) (rep_int.mpr rfl)⟩
  · cases e
theorem op_powA : OpR X (binaryOp .Pow) (rI (fun i j => 0 ≤ j ∧ j ≤ 100 ∧ i.natAbs < 2 ^ 20000) fun i j => .int (i ^ j.toNat)) := opI fun i j _ _ _ _ _ hc q =>
  pow_int hc.1 (by
    have h1 := PySem.Flt.log2_lt_of (show 0 < 20000 by decide) hc.2.2
    have h2 : Builtin.Int.intBits i ≤ 20001 := by unfold Builtin.Int.intBits; split <;> omega
    have h3 : (Builtin.Int.intBits i : Int) * j ≤ 20001 * 100 := by
      have ha : (Builtin.Int.intBits i : Int) * j ≤ (Builtin.Int.intBits i : Int) * 100 := Int.mul_le_mul_of_nonneg_left hc.2.1 (Int.natCast_nonneg _)
      have hb : (Builtin.Int.intBits i : Int) * 100 ≤ 20001 * 100 := by omega
      omega
    have h4 : (20001 * 100 : Int) ≤ 2 ^ 27 := by decide
    omega) q
theorem om_pow : OpR X (binaryOp .Pow) (rM X.K powD) := by
  refine OpR.to op_powA fun x y H Q ⟨ρ, hd, a, b, d, hd', r, ra, rb, e, q⟩ => ?_
  cases a <;> cases b <;> simp only [powD] at e <;> try contradiction
  rw [rep_int] at ra rb
  split at e
  · rename_i h; cases e
    exact ⟨_, _, ra, rb, h, q _ ρ H (.refl r) (rep_int.mpr rfl)⟩
  · cases e
def negD : D → Hd → Option (D × Hd)
  | .int i, hd => some (.int (-i), hd)
  | _, _ => none
theorem um_neg : UnR X (unaryOp .USub) (rU1 X.K negD) := by
  refine UnR.to un_neg fun x H Q ⟨ρ, hd, a, d, hd', r, ra, e, q⟩ => ?_
  cases a <;> simp only [negD] at e <;> try contradiction
  rw [rep_int] at ra; cases e
  exact ⟨_, ra, q _ ρ H (.refl r) (rep_int.mpr rfl)⟩

/-! ### comparisons -/
def cmpI (p : Int → Int → Bool) : G2
  | .int i, .int j, hd => some (.bl (p i j), hd)
  | _, _, _ => none
theorem om_int {op : CmpOp} {p : Int → Int → Bool} (h : OpR X (compareOp op) (rI0 fun i j => .bl (p i j))) : OpR X (compareOp op) (rM X.K (cmpI p)) := by
  refine OpR.to h fun x y H Q ⟨ρ, hd, a, b, d, hd', r, ra, rb, e, q⟩ => ?_
  cases a <;> cases b <;> simp only [cmpI] at e <;> try contradiction
  rw [rep_int] at ra rb; cases e
  exact ⟨_, _, ra, rb, q _ ρ H (.refl r) (rep_bl.mpr rfl)⟩
theorem om_lt : OpR X (compareOp .Lt) (rM X.K (cmpI fun i j => decide (i < j))) := om_int op_lt
theorem om_le : OpR X (compareOp .LtE) (rM X.K (cmpI fun i j => decide (i ≤ j))) := om_int op_le
theorem om_gt : OpR X (compareOp .Gt) (rM X.K (cmpI fun i j => decide (j < i))) := om_int op_gt
theorem om_ge : OpR X (compareOp .GtE) (rM X.K (cmpI fun i j => decide (j ≤ i))) := om_int op_ge

/-- data -/
def optL (f : D → Option PyData) : List D → Option (List PyData)
  | [] => some []
  | d :: ds => match f d, optL f ds with | some p, some ps => some (p :: ps) | _, _ => none
def toPy (hd : Hd) : Nat → D → Option PyData
  | _, .non => some .none
  | _, .bl b => some (.bool b)
  | _, .int i => some (.int i)
  | _, .str x => if PyData.strOk x then some (.str x) else none
  | k + 1, .tup ds => (optL (toPy hd k) ds).map .tuple
  | k + 1, .fls ds => (optL (toPy hd k) ds).map .list
  | k + 1, .ref n => (lsOf hd n).bind fun ds => (optL (toPy hd k) ds).map .list
  | _, _ => none
end
end Dl

namespace Dl
open PySem PySem.Spec PyProof.Rows L2
/-! ## data -/
theorem optL_cons {f : D → Option PyData} {d : D} {ds : List D} {ps : List PyData} (e : optL f (d :: ds) = some ps) : ∃ p r, f d = some p ∧ optL f ds = some r ∧ ps = p :: r := by
  simp only [optL] at e
  split at e
  · rename_i p r h1 h2; cases e; exact ⟨p, r, h1, h2, rfl⟩
  · cases e
section
variable {K : PySem.W.Frag} {ρ : List Addr} {H : Hp} {hd : Hd}
theorem dpAll_of {f : D → Option PyData} (hf : ∀ d v p, f d = some p → Rep K ρ H d v → Dp K H v p) : ∀ (ds : List D) (vs : List V) (ps : List PyData), optL f ds = some ps → RepL K ρ H ds vs → DpAll K H vs ps
  | [], vs, ps, e, r => by
    simp only [optL] at e; cases e
    simp only [RepL] at r; subst r
    exact .nil
  | d :: ds, vs, ps, e, r => by
    obtain ⟨p, q, h1, h2, rfl⟩ := optL_cons e
    simp only [RepL] at r
    obtain ⟨v, w, rfl, r1, r2⟩ := r
    exact .cons (hf d v p h1 r1) (dpAll_of hf ds w q h2 r2)
theorem dp_of (r : Rel K ρ H hd) : ∀ (k : Nat) (d : D) (v : V) (p : PyData), toPy hd k d = some p → Rep K ρ H d v → Dp K H v p := by
  intro k
  induction k with
  | zero =>
    intro d v p e q
    cases d <;> simp only [toPy] at e <;> try contradiction
    · rw [rep_non] at q; subst q; cases e; exact .non
    · rw [rep_bl] at q; subst q; cases e; exact .bl _
    · rw [rep_int] at q; subst q; cases e; exact .int _
    · rw [rep_str] at q; subst q
      split at e
      · cases e; exact .str _
      · cases e
  | succ k ih =>
    intro d v p e q
    cases d <;> simp only [toPy] at e <;> try contradiction
    · rw [rep_non] at q; subst q; cases e; exact .non
    · rw [rep_bl] at q; subst q; cases e; exact .bl _
    · rw [rep_int] at q; subst q; cases e; exact .int _
    · rw [rep_str] at q; subst q
      split at e
      · cases e; exact .str _
      · cases e
    · rw [rep_tup] at q
      obtain ⟨a, vs, rfl, s, l⟩ := q
      obtain ⟨ps, h, rfl⟩ := Option.map_eq_some_iff.mp e
      exact .tup s (dpAll_of (fun d v p => ih d v p) _ _ _ h l)
    · rw [rep_ref] at q
      obtain ⟨a, rfl, ea⟩ := q
      obtain ⟨ds, h1, h2⟩ := Option.bind_eq_some_iff.mp e
      obtain ⟨ps, h, rfl⟩ := Option.map_eq_some_iff.mp h2
      obtain ⟨vs, s, l⟩ := lsOf_sq r h1 ea
      exact .lst s (dpAll_of (fun d v p => ih d v p) _ _ _ h l)
    · rw [rep_fls] at q
      obtain ⟨a, vs, rfl, s, l⟩ := q
      obtain ⟨ps, h, rfl⟩ := Option.map_eq_some_iff.mp e
      exact .lst s.sq (dpAll_of (fun d v p => ih d v p) _ _ _ h l)
end
theorem depthAll_le {f : D → Option PyData} {k : Nat} (hf : ∀ d p, f d = some p → p.depth ≤ k) : ∀ (ds : List D) (ps : List PyData), optL f ds = some ps → PyData.depthAll ps ≤ k
  | [], ps, e => by simp only [optL] at e; cases e; simp [PyData.depthAll]
  | d :: ds, ps, e => by
    obtain ⟨p, q, h1, h2, rfl⟩ := optL_cons e
    have a := hf d p h1
    have b := depthAll_le hf ds q h2
    simp only [PyData.depthAll]; omega
theorem toPy_depth {hd : Hd} : ∀ (k : Nat) (d : D) (p : PyData), toPy hd k d = some p → p.depth ≤ k := by
  intro k
  induction k with
  | zero =>
    intro d p e
    cases d <;> simp only [toPy] at e <;> first | contradiction | (cases e; simp [PyData.depth]) | (split at e <;> cases e; simp [PyData.depth])
  | succ k ih =>
    intro d p e
    cases d <;> simp only [toPy] at e <;> try contradiction
    · cases e; simp [PyData.depth]
    · cases e; simp [PyData.depth]
    · cases e; simp [PyData.depth]
    · split at e <;> cases e; simp [PyData.depth]
    · obtain ⟨ps, h, rfl⟩ := Option.map_eq_some_iff.mp e
      have := depthAll_le (fun d p => ih d p) _ _ h
      simp only [PyData.depth]; omega
    · obtain ⟨ds, h1, h2⟩ := Option.bind_eq_some_iff.mp e
      obtain ⟨ps, h, rfl⟩ := Option.map_eq_some_iff.mp h2
      have := depthAll_le (fun d p => ih d p) _ _ h
      simp only [PyData.depth]; omega
    · obtain ⟨ps, h, rfl⟩ := Option.map_eq_some_iff.mp e
      have := depthAll_le (fun d p => ih d p) _ _ h
      simp only [PyData.depth]; omega
theorem layAll_of {f : D → Option PyData} (hf : ∀ d p, f d = some p → p.canLay0 = true) : ∀ (ds : List D) (ps : List PyData), optL f ds = some ps → PyData.canLayAll0 ps = true
  | [], ps, e => by simp only [optL] at e; cases e; simp [PyData.canLayAll0]
  | d :: ds, ps, e => by
    obtain ⟨p, q, h1, h2, rfl⟩ := optL_cons e
    have a := hf d p h1
    have b := layAll_of hf ds q h2
    simp only [PyData.canLayAll0, a, b]; rfl
theorem toPy_lay {hd : Hd} : ∀ (k : Nat) (d : D) (p : PyData), toPy hd k d = some p → p.canLay0 = true := by
  intro k
  induction k with
  | zero =>
    intro d p e
    cases d <;> simp only [toPy] at e <;> try contradiction
    · cases e; simp [PyData.canLay0]
    · cases e; simp [PyData.canLay0]
    · cases e; simp [PyData.canLay0]
    · split at e
      · rename_i h; cases e; simpa [PyData.canLay0] using h
      · cases e
  | succ k ih =>
    intro d p e
    cases d <;> simp only [toPy] at e <;> try contradiction
    · cases e; simp [PyData.canLay0]
    · cases e; simp [PyData.canLay0]
    · cases e; simp [PyData.canLay0]
    · split at e
      · rename_i h; cases e; simpa [PyData.canLay0] using h
      · cases e
    · obtain ⟨ps, h, rfl⟩ := Option.map_eq_some_iff.mp e
      simp only [PyData.canLay0]
      exact layAll_of (fun d p => ih d p) _ _ h
    · obtain ⟨ds, h1, h2⟩ := Option.bind_eq_some_iff.mp e
      obtain ⟨ps, h, rfl⟩ := Option.map_eq_some_iff.mp h2
      simp only [PyData.canLay0]
      exact layAll_of (fun d p => ih d p) _ _ h
    · obtain ⟨ps, h, rfl⟩ := Option.map_eq_some_iff.mp e
      simp only [PyData.canLay0]
      exact layAll_of (fun d p => ih d p) _ _ h
theorem toPy_shaped {hd : Hd} {k : Nat} (hk : k ≤ 64) {d : D} {p : PyData} (e : toPy hd k d = some p) : SeqAt.shaped p = true := by
  unfold SeqAt.shaped
  rw [toPy_lay k d p e, Bool.true_and]
  exact decide_eq_true (Nat.le_trans (toPy_depth k d p e) hk)

def strsOf : D → D → Option (Str × Str)
  | .str x, .str y => some (x, y)
  | _, _ => none
def eqD : G2 := fun a b hd => match strsOf a b with
  | some (x, y) => some (.bl (decide (x = y)), hd)
  | none => (toPy hd 8 a).bind fun p => (toPy hd 8 b).bind fun q => some (.bl (PyData.eqv p q), hd)
def neD : G2 := fun a b hd => match strsOf a b with
  | some (x, y) => some (.bl (!decide (x = y)), hd)
  | none => (toPy hd 8 a).bind fun p => (toPy hd 8 b).bind fun q => some (.bl (!PyData.eqv p q), hd)
theorem strsOf_eq {a b : D} {x y : Str} (h : strsOf a b = some (x, y)) : a = .str x ∧ b = .str y := by
  unfold strsOf at h
  split at h
  · cases h; exact ⟨rfl, rfl⟩
  · cases h
theorem dec_vstr {x y : Str} : decide (V.str x = V.str y) = decide (x = y) := by
  by_cases h : x = y
  · subst h; simp
  · simp [h]
section
variable {X : Cx}
theorem om_eq (hu : X.A.units + 64 < cLine) : OpR X (compareOp .Eq) (rM X.K eqD) := by
  refine OpR.to (OpR.or op_eq (op_eqD hu)) fun x y H Q ⟨ρ, hd, a, b, d, hd', r, ra, rb, e, q⟩ => ?_
  unfold eqD at e
  split at e
  · rename_i x' y' hs
    obtain ⟨rfl, rfl⟩ := strsOf_eq hs
    rw [rep_str] at ra rb; subst ra rb
    cases e
    exact .inl ⟨rfl, q _ ρ H (.refl r) (by rw [rep_bl, dec_vstr])⟩
  obtain ⟨p, h1, e⟩ := Option.bind_eq_some_iff.mp e
  obtain ⟨p', h2, e⟩ := Option.bind_eq_some_iff.mp e
  cases e
  exact .inr ⟨p, p', dp_of r _ _ _ _ h1 ra, dp_of r _ _ _ _ h2 rb, toPy_shaped (by decide) h1, toPy_shaped (by decide) h2, q _ ρ H (.refl r) (rep_bl.mpr rfl)⟩
theorem om_ne (hu : X.A.units + 64 < cLine) : OpR X (compareOp .NotEq) (rM X.K neD) := by
  refine OpR.to (OpR.or op_ne (op_neD hu)) fun x y H Q ⟨ρ, hd, a, b, d, hd', r, ra, rb, e, q⟩ => ?_
  unfold neD at e
  split at e
  · rename_i x' y' hs
    obtain ⟨rfl, rfl⟩ := strsOf_eq hs
    rw [rep_str] at ra rb; subst ra rb
    cases e
    exact .inl ⟨rfl, q _ ρ H (.refl r) (by rw [rep_bl, dec_vstr])⟩
  obtain ⟨p, h1, e⟩ := Option.bind_eq_some_iff.mp e
  obtain ⟨p', h2, e⟩ := Option.bind_eq_some_iff.mp e
  cases e
  exact .inr ⟨p, p', dp_of r _ _ _ _ h1 ra, dp_of r _ _ _ _ h2 rb, toPy_shaped (by decide) h1, toPy_shaped (by decide) h2, q _ ρ H (.refl r) (rep_bl.mpr rfl)⟩
/-- is None: of anything whose value is seen -/
def isNon : D → Bool
  | .non => true
  | .raw v => decide (v = .non)
  | _ => false
def isD : G2 := fun a b hd => match b with | .non => some (.bl (isNon a), hd) | _ => none
def isnD : G2 := fun a b hd => match b with | .non => some (.bl (!isNon a), hd) | _ => none
theorem isNon_rep {K ρ H} {a : D} {x : V} (r : Rep K ρ H a x) : decide (x = .non) = isNon a := by
  cases a
  · rw [rep_non] at r; subst r; rfl
  · rw [rep_bl] at r; subst r; rfl
  · rw [rep_int] at r; subst r; rfl
  · rw [rep_str] at r; subst r; rfl
  · rw [rep_tup] at r; obtain ⟨a, vs, rfl, _⟩ := r; rfl
  · rw [rep_ref] at r; obtain ⟨a, rfl, _⟩ := r; rfl
  · rw [rep_raw] at r; subst r; rfl
  · rw [rep_fls] at r; obtain ⟨a, vs, rfl, _⟩ := r; rfl
  · rw [rep_exc] at r; obtain ⟨a, w, rfl, _⟩ := r; rfl
  · rw [rep_ins] at r; obtain ⟨a, w, rfl, _⟩ := r; rfl
theorem om_is : OpR X (compareOp .Is) (rM X.K isD) := by
  refine OpR.to op_isN fun x y H Q ⟨ρ, hd, a, b, d, hd', r, ra, rb, e, q⟩ => ?_
  cases b <;> simp only [isD] at e <;> try contradiction
  rw [rep_non] at rb; cases e
  exact ⟨rb, q _ ρ H (.refl r) (by rw [rep_bl, isNon_rep ra])⟩
theorem om_isn : OpR X (compareOp .IsNot) (rM X.K isnD) := by
  refine OpR.to op_notN fun x y H Q ⟨ρ, hd, a, b, d, hd', r, ra, rb, e, q⟩ => ?_
  cases b <;> simp only [isnD] at e <;> try contradiction
  rw [rep_non] at rb; cases e
  exact ⟨rb, q _ ρ H (.refl r) (by rw [rep_bl, isNon_rep ra])⟩

/-! ### repr -/
mutual
def pw : PyData → Nat
  | .none => 10
  | .bool _ => 10
  | .int _ => 2000
  | .str x => 10 * x.length + 10
  | .list xs => pwL xs + 10
  | .tuple xs => pwL xs + 10
  | .dict _ => 0
def pwL : List PyData → Nat
  | [] => 0
  | x :: xs => pw x + 2 + pwL xs
end
end
theorem piled_le_all : ∀ (ts : List PyData), (∀ t ∈ ts, (PyData.shown t).length ≤ pw t) → piled (PyData.shownAll ts) ≤ pwL ts
  | [], _ => by simp [PyData.shownAll, piled, pwL]
  | t :: ts, h => by
    have a := h t (by simp)
    have b := piled_le_all ts (fun u hu => h u (by simp [hu]))
    simp only [PyData.shownAll, piled_cons, pwL]; omega
theorem textFrom_le : ∀ (ts : List Str) (k : Nat) (acc : Str), (textFrom k acc ts).length ≤ acc.length + piled ts
  | [], k, acc => by simp [textFrom, piled]
  | t :: r, k, acc => by
    have ih := textFrom_le r (k + 1) (acc ++ (if k > 0 then ", " else "" : String) ++ t)
    have e : (acc ++ (if k > 0 then ", " else "" : String) ++ t).length ≤ acc.length + 2 + t.length := by
      rw [strLen_append, strLen_append]
      split
      · have : (((", " : String)) : Str).length = 2 := rfl
        omega
      · have : ((("" : String)) : Str).length = 0 := rfl
        omega
    simp only [textFrom, piled_cons]; omega
theorem listText_le (ts : List Str) : (listText ts).length ≤ piled ts + 2 := by
  have h := textFrom_le ts 0 "["
  unfold listText
  rw [strLen_append]
  have e1 : ((("[" : String) : Str)).length = 1 := rfl
  have e2 : ((("]" : String) : Str)).length = 1 := rfl
  omega
theorem tupleText_le (ts : List Str) : (tupleText ts).length ≤ piled ts + 3 := by
  unfold tupleText
  rw [strLen_append, strLen_append]
  have e1 : ((("(" : String) : Str)).length = 1 := rfl
  have e3 : (((if ts.length == 1 then ",)" else ")" : String) : Str)).length ≤ 2 := by split <;> decide
  by_cases h : ts = []
  · subst h
    have : (Str.join ", " []).length = 0 := rfl
    omega
  · have := join_length_add ts h
    omega
theorem cps_small {x : Str} (h : PyData.strOk x = true) : ∀ c ∈ x.cps.toList, c < 16 ^ 8 := fun c hc => by
  unfold PyData.strOk at h
  rw [Array.all_eq_true'] at h
  have := h c (by simpa using hc)
  have := of_decide_eq_true this
  omega
mutual
theorem shown_le : ∀ (p : PyData), p.showable = true → p.canLay0 = true → (PyData.shown p).length ≤ pw p
  | .none, _, _ => by simp only [PyData.shown, pw]; decide
  | .bool b, _, _ => by cases b <;> simp only [PyData.shown, pw] <;> decide
  | .int i, h, _ => by
    simp only [PyData.showable, decide_eq_true_eq] at h
    simp only [PyData.shown, pw]
    have := int_text_len_1921 h
    exact Nat.le_trans this (by decide)
  | .str x, _, h => by
    simp only [PyData.canLay0] at h
    simp only [PyData.shown, pw]
    have := PySem.StrLaws.reprText_len x (cps_small h)
    omega
  | .list xs, h, h' => by
    simp only [PyData.showable] at h
    simp only [PyData.canLay0] at h'
    have a := listText_le (PyData.shownAll xs)
    have b := shownAll_le xs h h'
    simp only [PyData.shown, pw]; omega
  | .tuple xs, h, h' => by
    simp only [PyData.showable] at h
    simp only [PyData.canLay0] at h'
    have a := tupleText_le (PyData.shownAll xs)
    have b := shownAll_le xs h h'
    simp only [PyData.shown, pw]; omega
  | .dict kvs, _, h' => by simp [PyData.canLay0] at h'
theorem shownAll_le : ∀ (ps : List PyData), PyData.showableAll ps = true → PyData.canLayAll0 ps = true → piled (PyData.shownAll ps) ≤ pwL ps
  | [], _, _ => by simp [PyData.shownAll, piled, pwL]
  | p :: ps, h, h' => by
    simp only [PyData.showableAll, Bool.and_eq_true] at h
    simp only [PyData.canLayAll0, Bool.and_eq_true] at h'
    have a := shown_le p h.1 h'.1
    have b := shownAll_le ps h.2 h'.2
    simp only [PyData.shownAll, piled_cons, pwL]; omega
end
def reprD : GN := fun ds hd => match ds with
  | [a] => (toPy hd 8 a).bind fun p => if p.showable = true ∧ pw p ≤ 16000000 then some (.str p.shown, hd) else none
  | _ => none
theorem toPy_ref {hd : Hd} {k : Nat} {a : D} {p : PyData} (e : toPy hd k a = some p) : (a = .non ∧ p = .none) ∨ (∃ b, a = .bl b ∧ p = .bool b) ∨ (∃ i, a = .int i ∧ p = .int i) ∨ (∃ x, a = .str x ∧ p = .str x) ∨ (∃ n, a = .ref n) ∨ (∃ ds, a = .tup ds) ∨ ∃ ds, a = .fls ds := by
  cases k <;> cases a <;> simp only [toPy] at e <;> try contradiction
  all_goals first
    | (cases e; simp)
    | (split at e <;> cases e; simp)
    | simp
theorem pw_line {p : PyData} (h : pw p ≤ 16000000) (h1 : p.showable = true) (h2 : p.canLay0 = true) : (PyData.shown p).length ≤ sizeLine := by
  have := shown_le p h1 h2
  have : sizeLine = 16777216 := sizeLine_eq
  omega
theorem cm_repr {X : Cx} (hu : X.A.units + 64 < cLine) (hg : X.A.guards = some []) : CallR X (.builtin "repr") (rN X.K reprD) := by
  intro pins s σ H xs us Q I r h
  obtain ⟨ρ, hd, ds, d, hd', rel, ra, e, q⟩ := h
  unfold reprD at e
  split at e
  · rename_i a
    obtain ⟨p, hp, e⟩ := Option.bind_eq_some_iff.mp e
    split at e
    · rename_i hc
      cases e
      simp only [RepL] at ra
      obtain ⟨v, w, rfl, rv, rfl⟩ := ra
      obtain ⟨u, rfl, ru⟩ := vals1 r
      have hl := pw_line hc.2 hc.1 (toPy_lay _ _ _ hp)
      have fin : ∀ (t : Tok) (s' : Shared), Inv X pins σ H s' → EP X pins σ Q (.str p.shown t) s' := fun t s' I' => ⟨.str p.shown, H, I', ⟨_, rfl⟩, q _ ρ H (.refl rel) (rep_str.mpr rfl)⟩
      have viaRef : ∀ (b : Addr), u = .ref b → wpAny (model X.prog X.w) X.A (call (.builtin "repr") [u]) (EP X pins σ Q) X.xe s := fun b hb => by
        subst hb
        obtain ⟨as, rd⟩ := Dp.reads I p v _ (dp_of rel _ _ _ _ hp rv) ru
        refine repr_of_reads' rd hc.1 (PyData.noDict_hsm (PyData.hasDict_of_canLay _ (toPy_lay _ _ _ hp))) hg ?_ (fun _ _ z => z) (fun h' t tk hk => fin t _ (I.kept hk)) hl
        have := toPy_depth _ _ _ hp
        omega
      rcases toPy_ref hp with ⟨rfl, rfl⟩ | ⟨b, rfl, rfl⟩ | ⟨i, rfl, rfl⟩ | ⟨x, rfl, rfl⟩ | ⟨n, rfl⟩ | ⟨es, rfl⟩ | ⟨es, rfl⟩
      · rw [rep_non] at rv; subst rv; cases ru
        exact PySem.P.repr_of_none (fin _ _ (I.tok _))
      · rw [rep_bl] at rv; subst rv; cases ru
        exact PySem.P.repr_of_bool (by have := fin s.toks { s with toks := s.toks + 1 } (I.tok _); simpa only [PyData.shown] using this)
      · rw [rep_int] at rv; subst rv; obtain ⟨t, rfl⟩ := ru
        have hi : i.natAbs.log2 < 1920 := by simpa only [PyData.showable, decide_eq_true_eq] using hc.1
        exact PySem.P.repr_of_int hi (by have := fin s.toks { s with toks := s.toks + 1 } (I.tok _); simpa only [PyData.shown] using this)
      · rw [rep_str] at rv; subst rv; obtain ⟨t, rfl⟩ := ru
        exact PySem.P.repr_of_str (by have := fin s.toks { s with toks := s.toks + 1 } (I.tok _); simpa only [PyData.shown] using this) (by simpa only [PyData.shown] using hl)
      · rw [rep_ref] at rv; obtain ⟨b, rfl, _⟩ := rv
        exact viaRef b ru
      · rw [rep_tup] at rv; obtain ⟨b, vs, rfl, _⟩ := rv
        exact viaRef b ru
      · rw [rep_fls] at rv; obtain ⟨b, vs, rfl, _⟩ := rv
        exact viaRef b ru
    · cases e
  · cases e
end Dl

namespace Dl
open PySem PySem.Spec PyProof.Rows L2
section
variable {K : PySem.W.Frag} {ρ : List Addr} {H : Hp} {hd : Hd}
theorem repL1 {a : D} {xs : List V} (r : RepL K ρ H [a] xs) : ∃ v, xs = [v] ∧ Rep K ρ H a v := by
  simp only [RepL] at r
  obtain ⟨v, w, rfl, h, rfl⟩ := r
  exact ⟨v, rfl, h⟩
theorem repL2 {a b : D} {xs : List V} (r : RepL K ρ H [a, b] xs) : ∃ v w, xs = [v, w] ∧ Rep K ρ H a v ∧ Rep K ρ H b w := by
  simp only [RepL] at r
  obtain ⟨v, _, rfl, h, w, _, rfl, h2, rfl⟩ := r
  exact ⟨v, w, rfl, h, h2⟩
theorem repL3 {a b c : D} {xs : List V} (r : RepL K ρ H [a, b, c] xs) : ∃ v w z, xs = [v, w, z] ∧ Rep K ρ H a v ∧ Rep K ρ H b w ∧ Rep K ρ H c z := by
  simp only [RepL] at r
  obtain ⟨v, _, rfl, h, w, _, rfl, h2, z, _, rfl, h3, rfl⟩ := r
  exact ⟨v, w, z, rfl, h, h2, h3⟩
def intsOf : List D → Option (List Int)
  | [] => some []
  | .int i :: ds => (intsOf ds).map (i :: ·)
  | _ :: _ => none
theorem intsOf_rep : ∀ {ds : List D} {ns : List Int} {vs : List V}, intsOf ds = some ns → RepL K ρ H ds vs → vs = ns.map V.int
  | [], ns, vs, e, r => by simp only [intsOf] at e; cases e; simp only [RepL] at r; subst r; rfl
  | d :: ds, ns, vs, e, r => by
    cases d <;> simp only [intsOf] at e <;> try contradiction
    obtain ⟨ms, h, rfl⟩ := Option.map_eq_some_iff.mp e
    simp only [RepL] at r
    obtain ⟨v, w, rfl, q, t⟩ := r
    rw [rep_int] at q; subst q
    rw [intsOf_rep h t]; rfl
def blsOf : List D → Option (List Bool)
  | [] => some []
  | .bl i :: ds => (blsOf ds).map (i :: ·)
  | _ :: _ => none
theorem blsOf_rep : ∀ {ds : List D} {ns : List Bool} {vs : List V}, blsOf ds = some ns → RepL K ρ H ds vs → vs = ns.map V.bl
  | [], ns, vs, e, r => by simp only [blsOf] at e; cases e; simp only [RepL] at r; subst r; rfl
  | d :: ds, ns, vs, e, r => by
    cases d <;> simp only [blsOf] at e <;> try contradiction
    obtain ⟨ms, h, rfl⟩ := Option.map_eq_some_iff.mp e
    simp only [RepL] at r
    obtain ⟨v, w, rfl, q, t⟩ := r
    rw [rep_bl] at q; subst q
    rw [blsOf_rep h t]; rfl
end
/-- the items of a list or a tuple -/
def itemsOf (hd : Hd) : D → Option (List D)
  | .tup ds => some ds
  | .fls ds => some ds
  | .ref n => lsOf hd n
  | _ => none
def absD : GN := fun ds hd => match ds with | [.int i] => some (.int (if i < 0 then -i else i), hd) | _ => none
def intD : GN := fun ds hd => match ds with | [.int i] => some (.int i, hd) | [.bl b] => some (.int (if b then 1 else 0), hd) | _ => none
def lenD : GN := fun ds hd => match ds with
  | [.str x] => if x.length ≤ 1000000 then some (.int x.length, hd) else none
  | [.tup es] => some (.int es.length, hd)
  | [.fls es] => some (.int es.length, hd)
  | [.ref n] => (lsOf hd n).map fun es => (.int es.length, hd)
  | _ => none
def maxI : Int → List Int → Int
  | m, [] => m
  | m, x :: r => maxI (if x > m then x else m) r
def minI : Int → List Int → Int
  | m, [] => m
  | m, x :: r => minI (if x < m then x else m) r
def maxD : GN := fun ds hd => match ds with
  | [.int i, .int j] => some (.int (if j > i then j else i), hd)
  | [.int i, .int j, .int k] => some (.int (if j > i then (if k > j then k else j) else (if k > i then k else i)), hd)
  | [.ref n] => (lsOf hd n).bind fun es => match intsOf es with | some (m :: ms) => some (.int (maxI m ms), hd) | _ => none
  | _ => none
def minD : GN := fun ds hd => match ds with
  | [.int i, .int j] => some (.int (if j < i then j else i), hd)
  | [.int i, .int j, .int k] => some (.int (if j < i then (if k < j then k else j) else (if k < i then k else i)), hd)
  | [.ref n] => (lsOf hd n).bind fun es => match intsOf es with | some (m :: ms) => some (.int (minI m ms), hd) | _ => none
  | _ => none
def sumD : GN := fun ds hd => match ds with
  | [.ref n] => (lsOf hd n).bind fun es => (intsOf es).map fun ns => (.int ns.sum, hd)
  | _ => none
def allD : GN := fun ds hd => match ds with
  | [.ref n] => (lsOf hd n).bind fun es => (blsOf es).map fun ns => (.bl (ns.all id), hd)
  | _ => none
def anyD : GN := fun ds hd => match ds with
  | [.ref n] => (lsOf hd n).bind fun es => (blsOf es).map fun ns => (.bl (ns.any id), hd)
  | _ => none
def listD : GN := fun ds hd => match ds with
  | [a] => (itemsOf hd a).map fun es => (.ref hd.length, hd ++ [.lst es])
  | _ => none
def tupleD : GN := fun ds hd => match ds with
  | [a] => (itemsOf hd a).map fun es => (.tup es, hd)
  | _ => none
theorem maxI_ge : ∀ (ms : List Int) (m : Int), m ≤ maxI m ms ∧ (maxI m ms = m ∨ maxI m ms ∈ ms) ∧ ∀ y ∈ ms, y ≤ maxI m ms
  | [], m => by simp [maxI]
  | x :: r, m => by
    have h := maxI_ge r (if x > m then x else m)
    have k1 : m ≤ (if x > m then x else m) ∧ x ≤ (if x > m then x else m) := by split <;> omega
    simp only [maxI]
    refine ⟨?_, ?_, fun y hy => ?_⟩
    · have := h.1; omega
    · rcases h.2.1 with e | e
      · split at e
        · right; rw [if_pos (by assumption), e]; simp
        · left; rw [if_neg (by assumption)]; exact e
      · right; exact List.mem_cons_of_mem _ e
    · rcases List.mem_cons.mp hy with rfl | hy
      · have := h.1; omega
      · exact h.2.2 y hy
theorem minI_le : ∀ (ms : List Int) (m : Int), minI m ms ≤ m ∧ (minI m ms = m ∨ minI m ms ∈ ms) ∧ ∀ y ∈ ms, minI m ms ≤ y
  | [], m => by simp [minI]
  | x :: r, m => by
    have h := minI_le r (if x < m then x else m)
    have k1 : (if x < m then x else m) ≤ m ∧ (if x < m then x else m) ≤ x := by split <;> omega
    simp only [minI]
    refine ⟨?_, ?_, fun y hy => ?_⟩
    · have := h.1; omega
    · rcases h.2.1 with e | e
      · split at e
        · right; rw [if_pos (by assumption), e]; simp
        · left; rw [if_neg (by assumption)]; exact e
      · right; exact List.mem_cons_of_mem _ e
    · rcases List.mem_cons.mp hy with rfl | hy
      · have := h.1; omega
      · exact h.2.2 y hy
section
variable {X : Cx}
theorem cm_abs : CallR X (.builtin "abs") (rN X.K absD) := by
  refine CallR.to call_abs fun xs H Q ⟨ρ, hd, ds, d, hd', r, ra, e, q⟩ => ?_
  unfold absD at e
  split at e
  · cases e
    obtain ⟨v, rfl, rv⟩ := repL1 ra
    rw [rep_int] at rv; subst rv
    exact ⟨_, rfl, q _ ρ H (.refl r) (rep_int.mpr rfl)⟩
  · cases e
theorem cm_int : CallR X (.type "int") (rN X.K intD) := by
  refine CallR.to call_int1 fun xs H Q ⟨ρ, hd, ds, d, hd', r, ra, e, q⟩ => ?_
  unfold intD at e
  split at e
  · cases e
    obtain ⟨v, rfl, rv⟩ := repL1 ra
    rw [rep_int] at rv; subst rv
    exact .inl ⟨_, rfl, q _ ρ H (.refl r) (rep_int.mpr rfl)⟩
  · cases e
    obtain ⟨v, rfl, rv⟩ := repL1 ra
    rw [rep_bl] at rv; subst rv
    exact .inr ⟨_, rfl, q _ ρ H (.refl r) (rep_int.mpr rfl)⟩
  · cases e
theorem cm_len : CallR X (.builtin "len") (rN X.K lenD) := by
  refine CallR.to call_len fun xs H Q ⟨ρ, hd, ds, d, hd', r, ra, e, q⟩ => ?_
  unfold lenD at e
  split at e
  · split at e
    · rename_i h; cases e
      obtain ⟨v, rfl, rv⟩ := repL1 ra
      rw [rep_str] at rv; subst rv
      exact ⟨_, _, rfl, ⟨Nat.le_trans h line1M, rfl⟩, q _ ρ H (.refl r) (rep_int.mpr rfl)⟩
    · cases e
  · cases e
    obtain ⟨v, rfl, rv⟩ := repL1 ra
    rw [rep_tup] at rv; obtain ⟨a, vs, rfl, s, l⟩ := rv
    exact ⟨_, _, rfl, .inr ⟨vs, s, rfl⟩, q _ ρ H (.refl r) (by rw [rep_int, l.length])⟩
  · cases e
    obtain ⟨v, rfl, rv⟩ := repL1 ra
    rw [rep_fls] at rv; obtain ⟨a, vs, rfl, s, l⟩ := rv
    exact ⟨_, _, rfl, .inl ⟨vs, s.sq, rfl⟩, q _ ρ H (.refl r) (by rw [rep_int, l.length])⟩
  · obtain ⟨es, he, e⟩ := Option.map_eq_some_iff.mp e
    cases e
    obtain ⟨v, rfl, rv⟩ := repL1 ra
    rw [rep_ref] at rv; obtain ⟨a, rfl, ea⟩ := rv
    obtain ⟨vs, s, l⟩ := lsOf_sq r he ea
    exact ⟨_, _, rfl, .inl ⟨vs, s, rfl⟩, q _ ρ H (.refl r) (by rw [rep_int, l.length])⟩
  · cases e
theorem call_max3 (hc : X.calm = true) : CallR X (.builtin "max") (fun xs H Q => ∃ i j k, xs = [.int i, .int j, .int k] ∧ Q (.int (if j > i then (if k > j then k else j) else (if k > i then k else i))) H) := by
  intro pins s σ H xs us Q I r h
  obtain ⟨i, j, k, rfl, q⟩ := h
  obtain ⟨t, u, y, rfl⟩ : ∃ t u y, us = [Value.int i t, .int j u, .int k y] := by
    cases r with
    | cons r1 r2 =>
      cases r2 with
      | cons r3 r4 =>
        cases r4 with
        | cons r5 r6 =>
          cases r6
          obtain ⟨t, rfl⟩ := r1
          obtain ⟨u, rfl⟩ := r3
          obtain ⟨y, rfl⟩ := r5
          exact ⟨t, u, y, rfl⟩
  refine max_three_ints (I.ok.hd hc) fun h' tk kk => ⟨_, H, I.kept kk, ?_, q⟩
  split <;> split <;> exact ⟨_, rfl⟩
theorem cm_max (hc : X.calm = true) : CallR X (.builtin "max") (rN X.K maxD) := by
  refine CallR.to (CallR.or (call_max2 hc) (CallR.or (call_max3 hc) (cr_max hc))) fun xs H Q ⟨ρ, hd, ds, d, hd', r, ra, e, q⟩ => ?_
  unfold maxD at e
  split at e
  · cases e
    obtain ⟨v, w, rfl, rv, rw_⟩ := repL2 ra
    rw [rep_int] at rv rw_; subst rv rw_
    exact .inl ⟨_, _, rfl, q _ ρ H (.refl r) (rep_int.mpr rfl)⟩
  · cases e
    obtain ⟨v, w, z, rfl, rv, rw_, rz⟩ := repL3 ra
    rw [rep_int] at rv rw_ rz; subst rv rw_ rz
    exact .inr (.inl ⟨_, _, _, rfl, q _ ρ H (.refl r) (rep_int.mpr rfl)⟩)
  · obtain ⟨es, he, e⟩ := Option.bind_eq_some_iff.mp e
    split at e
    · rename_i m ms hi
      cases e
      obtain ⟨v, rfl, rv⟩ := repL1 ra
      rw [rep_ref] at rv; obtain ⟨a, rfl, ea⟩ := rv
      obtain ⟨vs, s, l⟩ := lsOf_sq r he ea
      have hv := intsOf_rep hi l
      subst hv
      refine .inr (.inr ⟨a, m :: ms, rfl, s, by simp, fun k hk hle => ?_⟩)
      have g := maxI_ge ms m
      have e1 : k = maxI m ms := by
        have a1 : maxI m ms ≤ k := by
          rcases g.2.1 with z | z
          · rw [z]; exact hle _ (by simp)
          · exact hle _ (by simp [z])
        have a2 : k ≤ maxI m ms := by
          rcases List.mem_cons.mp hk with z | z
          · rw [z]; exact g.1
          · exact g.2.2 k z
        omega
      rw [e1]
      exact q _ ρ H (.refl r) (rep_int.mpr rfl)
    · cases e
  · cases e
theorem call_min3 (hc : X.calm = true) : CallR X (.builtin "min") (fun xs H Q => ∃ i j k, xs = [.int i, .int j, .int k] ∧ Q (.int (if j < i then (if k < j then k else j) else (if k < i then k else i))) H) := by
  intro pins s σ H xs us Q I r h
  obtain ⟨i, j, k, rfl, q⟩ := h
  obtain ⟨t, u, y, rfl⟩ : ∃ t u y, us = [Value.int i t, .int j u, .int k y] := by
    cases r with
    | cons r1 r2 =>
      cases r2 with
      | cons r3 r4 =>
        cases r4 with
        | cons r5 r6 =>
          cases r6
          obtain ⟨t, rfl⟩ := r1
          obtain ⟨u, rfl⟩ := r3
          obtain ⟨y, rfl⟩ := r5
          exact ⟨t, u, y, rfl⟩
  refine min_three_ints (I.ok.hd hc) fun h' tk kk => ⟨_, H, I.kept kk, ?_, q⟩
  split <;> split <;> exact ⟨_, rfl⟩
theorem cm_min (hc : X.calm = true) : CallR X (.builtin "min") (rN X.K minD) := by
  refine CallR.to (CallR.or (call_min2 hc) (CallR.or (call_min3 hc) (cr_min hc))) fun xs H Q ⟨ρ, hd, ds, d, hd', r, ra, e, q⟩ => ?_
  unfold minD at e
  split at e
  · cases e
    obtain ⟨v, w, rfl, rv, rw_⟩ := repL2 ra
    rw [rep_int] at rv rw_; subst rv rw_
    exact .inl ⟨_, _, rfl, q _ ρ H (.refl r) (rep_int.mpr rfl)⟩
  · cases e
    obtain ⟨v, w, z, rfl, rv, rw_, rz⟩ := repL3 ra
    rw [rep_int] at rv rw_ rz; subst rv rw_ rz
    exact .inr (.inl ⟨_, _, _, rfl, q _ ρ H (.refl r) (rep_int.mpr rfl)⟩)
  · obtain ⟨es, he, e⟩ := Option.bind_eq_some_iff.mp e
    split at e
    · rename_i m ms hi
      cases e
      obtain ⟨v, rfl, rv⟩ := repL1 ra
      rw [rep_ref] at rv; obtain ⟨a, rfl, ea⟩ := rv
      obtain ⟨vs, s, l⟩ := lsOf_sq r he ea
      have hv := intsOf_rep hi l
      subst hv
      refine .inr (.inr ⟨a, m :: ms, rfl, s, by simp, fun k hk hle => ?_⟩)
      have g := minI_le ms m
      have e1 : k = minI m ms := by
        have a1 : k ≤ minI m ms := by
          rcases g.2.1 with z | z
          · rw [z]; exact hle _ (by simp)
          · exact hle _ (by simp [z])
        have a2 : minI m ms ≤ k := by
          rcases List.mem_cons.mp hk with z | z
          · rw [z]; exact g.1
          · exact g.2.2 k z
        omega
      rw [e1]
      exact q _ ρ H (.refl r) (rep_int.mpr rfl)
    · cases e
  · cases e
theorem cm_sum (hc : X.calm = true) : CallR X (.builtin "sum") (rN X.K sumD) := by
  refine CallR.to (cr_sum hc) fun xs H Q ⟨ρ, hd, ds, d, hd', r, ra, e, q⟩ => ?_
  unfold sumD at e
  split at e
  · obtain ⟨es, he, e⟩ := Option.bind_eq_some_iff.mp e
    obtain ⟨ns, hi, e⟩ := Option.map_eq_some_iff.mp e
    cases e
    obtain ⟨v, rfl, rv⟩ := repL1 ra
    rw [rep_ref] at rv; obtain ⟨a, rfl, ea⟩ := rv
    obtain ⟨vs, s, l⟩ := lsOf_sq r he ea
    have hv := intsOf_rep hi l
    subst hv
    exact ⟨a, ns, rfl, s, q _ ρ H (.refl r) (rep_int.mpr rfl)⟩
  · cases e
theorem cm_all (hc : X.calm = true) : CallR X (.builtin "all") (rN X.K allD) := by
  refine CallR.to (cr_all hc) fun xs H Q ⟨ρ, hd, ds, d, hd', r, ra, e, q⟩ => ?_
  unfold allD at e
  split at e
  · obtain ⟨es, he, e⟩ := Option.bind_eq_some_iff.mp e
    obtain ⟨ns, hi, e⟩ := Option.map_eq_some_iff.mp e
    cases e
    obtain ⟨v, rfl, rv⟩ := repL1 ra
    rw [rep_ref] at rv; obtain ⟨a, rfl, ea⟩ := rv
    obtain ⟨vs, s, l⟩ := lsOf_sq r he ea
    have hv := blsOf_rep hi l
    subst hv
    exact ⟨a, ns, rfl, s, q _ ρ H (.refl r) (rep_bl.mpr rfl)⟩
  · cases e
theorem cm_any (hc : X.calm = true) : CallR X (.builtin "any") (rN X.K anyD) := by
  refine CallR.to (cr_any hc) fun xs H Q ⟨ρ, hd, ds, d, hd', r, ra, e, q⟩ => ?_
  unfold anyD at e
  split at e
  · obtain ⟨es, he, e⟩ := Option.bind_eq_some_iff.mp e
    obtain ⟨ns, hi, e⟩ := Option.map_eq_some_iff.mp e
    cases e
    obtain ⟨v, rfl, rv⟩ := repL1 ra
    rw [rep_ref] at rv; obtain ⟨a, rfl, ea⟩ := rv
    obtain ⟨vs, s, l⟩ := lsOf_sq r he ea
    have hv := blsOf_rep hi l
    subst hv
    exact ⟨a, ns, rfl, s, q _ ρ H (.refl r) (rep_bl.mpr rfl)⟩
  · cases e
theorem items_rep {K ρ H hd} {a : D} {v : V} {es : List D} (r : Rel K ρ H hd) (e : itemsOf hd a = some es) (q : Rep K ρ H a v) : ∃ p vs, v = .ref p ∧ (SqL K H p vs ∨ (a = .tup es ∧ SqT K H p vs)) ∧ RepL K ρ H es vs := by
  cases a <;> simp only [itemsOf] at e <;> try contradiction
  · cases e
    rw [rep_tup] at q
    obtain ⟨p, vs, rfl, s, l⟩ := q
    exact ⟨p, vs, rfl, .inr ⟨rfl, s⟩, l⟩
  · rw [rep_ref] at q
    obtain ⟨p, rfl, ep⟩ := q
    obtain ⟨vs, s, l⟩ := lsOf_sq r e ep
    exact ⟨p, vs, rfl, .inl s, l⟩
  · cases e
    rw [rep_fls] at q
    obtain ⟨p, vs, rfl, s, l⟩ := q
    exact ⟨p, vs, rfl, .inl s.sq, l⟩
theorem rep_new {K ρ H hd} {p : Addr} (r : Rel K ρ H hd) {H' : Hp} : Rep K (ρ ++ [p]) H' (.ref hd.length) (.ref p) := by
  rw [rep_ref]
  exact ⟨p, rfl, by rw [List.getElem?_append_right (by rw [r.len]; exact Nat.le_refl _), r.len]; simp⟩
theorem cm_list : CallR X (.type "list") (rN X.K listD) := by
  refine CallR.to call_list_of fun xs H Q ⟨ρ, hd, ds, d, hd', r, ra, e, q⟩ => ?_
  unfold listD at e
  split at e
  · obtain ⟨es, he, e⟩ := Option.map_eq_some_iff.mp e
    cases e
    obtain ⟨v, rfl, rv⟩ := repL1 ra
    obtain ⟨p, vs, rfl, h, l⟩ := items_rep r he rv
    refine ⟨p, vs, rfl, h.elim .inl (fun s => .inr s.2), fun z hz => q _ _ _ (.newL r hz l) (rep_new r)⟩
  · cases e
theorem cm_tuple : CallR X (.type "tuple") (rN X.K tupleD) := by
  refine CallR.to call_tuple_of fun xs H Q ⟨ρ, hd, ds, d, hd', r, ra, e, q⟩ => ?_
  unfold tupleD at e
  split at e
  · obtain ⟨es, he, e⟩ := Option.map_eq_some_iff.mp e
    cases e
    obtain ⟨v, rfl, rv⟩ := repL1 ra
    obtain ⟨p, vs, rfl, h, l⟩ := items_rep r he rv
    rcases h with s | ⟨_, s⟩
    · exact ⟨p, vs, rfl, .inl ⟨s, fun z hz => q _ ρ _ (.newT r hz) (rep_tup.mpr ⟨z, vs, rfl, .of upd_same, l.mono (List.prefix_refl _) (.new hz)⟩)⟩⟩
    · exact ⟨p, vs, rfl, .inr ⟨s, q _ ρ H (.refl r) (rep_tup.mpr ⟨p, vs, rfl, s, l⟩)⟩⟩
  · cases e
/-- an int in a tuple of ints -/
def inD : G2 := fun a b hd => match a, b with
  | .int i, .tup ds => (intsOf ds).map fun is => (.bl (is.any fun j => decide (j = i)), hd)
  | _, _ => none
theorem inV_ints {i : Int} : ∀ (is : List Int), inV (.int i) (is.map V.int) = is.any fun j => decide (j = i)
  | [] => rfl
  | j :: is => by
    have h := inV_ints (i := i) is
    unfold inV at *
    rw [List.map_cons, List.any_cons, List.any_cons, h]
    congr 1
theorem flat_ints : ∀ (is : List Int), (is.map V.int).all flatV = true
  | [] => rfl
  | j :: is => by rw [List.map_cons, List.all_cons, flat_ints is]; rfl
theorem om_in : OpR X (compareOp .In) (rM X.K inD) := by
  refine OpR.to op_in_seq fun x y H Q ⟨ρ, hd, a, b, d, hd', r, ra, rb, e, q⟩ => ?_
  unfold inD at e
  split at e
  · rename_i i ds
    obtain ⟨is, hi, e⟩ := Option.map_eq_some_iff.mp e
    cases e
    rw [rep_int] at ra; subst ra
    rw [rep_tup] at rb
    obtain ⟨p, vs, rfl, s, l⟩ := rb
    have hv := intsOf_rep hi l
    subst hv
    refine ⟨p, _, rfl, .inr s, rfl, flat_ints is, ?_⟩
    exact q _ ρ _ (.refl r) (by rw [rep_bl, inV_ints]; rfl)
  · cases e
end
end Dl

namespace Dl
open PySem PySem.Spec PyProof.Rows L2
/-! ## expressions -/
def mVar (i : Nat) : EM := fun env hd => match env[i]? with | some (some d) => some (d, hd) | _ => none
def mC (d : D) : EM := fun _ hd => some (d, hd)
def mBin (g : G2) (a b : EM) : EM := fun env hd => (a env hd).bind fun p => (b env p.2).bind fun q => g p.1 q.1 q.2
def mUn (g : D → Hd → Option (D × Hd)) (a : EM) : EM := fun env hd => (a env hd).bind fun p => g p.1 p.2
def mNil : AM := fun _ hd => some ([], hd)
def mCons (a : EM) (r : AM) : AM := fun env hd => (a env hd).bind fun p => (r env p.2).bind fun q => some (p.1 :: q.1, q.2)
def mCall (g : GN) (r : AM) : EM := fun env hd => (r env hd).bind fun p => g p.1 p.2
def mTup (r : AM) : EM := fun env hd => (r env hd).bind fun p => if p.1.length ≤ 1000 then some (.tup p.1, p.2) else none
def mLst (r : AM) : EM := fun env hd => (r env hd).bind fun p => if p.1.length ≤ 1000 then some (.ref p.2.length, p.2 ++ [.lst p.1]) else none
def mChain (g g' : G2) (a b c : EM) : EM := fun env hd => (a env hd).bind fun p => (b env p.2).bind fun q => (g p.1 q.1 q.2).bind fun r => match r.1 with
  | .bl true => (c env r.2).bind fun z => g' q.1 z.1 z.2
  | .bl false => some (.bl false, r.2)
  | _ => none
def mAnd (a b : EM) : EM := fun env hd => (a env hd).bind fun p => match p.1 with | .bl true => b env p.2 | .bl false => some (.bl false, p.2) | _ => none
def mOr (a b : EM) : EM := fun env hd => (a env hd).bind fun p => match p.1 with | .bl false => b env p.2 | .bl true => some (.bl true, p.2) | _ => none
def mNot (a : EM) : EM := fun env hd => (a env hd).bind fun p => match p.1 with | .bl b => some (.bl (!b), p.2) | _ => none
def mIf (c : BM) (a b : EM) : EM := fun env hd => (c env hd).bind fun p => if p.1 = true then a env p.2 else b env p.2
/-- tests -/
def truD : D → Hd → Option Bool
  | .non, _ => some false
  | .bl b, _ => some b
  | .int i, _ => some (i != 0)
  | .str x, _ => if x.length ≤ 1000000 then some ((x.length : Int) != 0) else none
  | .tup ds, _ => some (!ds.isEmpty)
  | .fls ds, _ => some (!ds.isEmpty)
  | .ref n, hd => (lsOf hd n).map fun ds => !ds.isEmpty
  | .raw _, _ => none
  | .exc _ _, _ => none
  | .ins _ _ _, _ => none
def bTru (a : EM) : BM := fun env hd => (a env hd).bind fun p => (truD p.1 p.2).map fun b => (b, p.2)
def bCmp (a : EM) : BM := fun env hd => (a env hd).bind fun p => match p.1 with | .bl b => some (b, p.2) | _ => none
def bAnd (a b : BM) : BM := fun env hd => (a env hd).bind fun p => if p.1 = true then b env p.2 else some (false, p.2)
def bOr (a b : BM) : BM := fun env hd => (a env hd).bind fun p => if p.1 = true then some (true, p.2) else b env p.2
def bNot (a : BM) : BM := fun env hd => (a env hd).bind fun p => some (!p.1, p.2)

section
variable {K : PySem.W.Frag} {σ : L2.St} {H : Hp}
theorem bin_mono {g : G2} {fa fb : EM} {Q : VK} (h : tM K (mBin g fa fb) σ H Q) : tOp (rM K g) (tM K fa) (tM K fb) σ H Q := by
  obtain ⟨ρ, env, hd, d, hd', A, e, q⟩ := h
  obtain ⟨⟨x, h1⟩, e1, e⟩ := Option.bind_eq_some_iff.mp e
  obtain ⟨⟨y, h2⟩, e2, e⟩ := Option.bind_eq_some_iff.mp e
  refine ⟨ρ, env, hd, x, h1, A, e1, fun v1 ρ1 H1 P1 r1 => ⟨ρ1, env, h1, y, h2, A.post P1, e2, fun v2 ρ2 H2 P2 r2 => ?_⟩⟩
  exact ⟨ρ2, h2, x, y, d, hd', P2.rel, r1.mono P2.pre P2.ext, r2, e, fun v ρ3 H3 P3 r3 => q v ρ3 H3 (P1.trans (P2.trans P3)) r3⟩
theorem un_mono {g : D → Hd → Option (D × Hd)} {fa : EM} {Q : VK} (h : tM K (mUn g fa) σ H Q) : tUn (rU1 K g) (tM K fa) σ H Q := by
  obtain ⟨ρ, env, hd, d, hd', A, e, q⟩ := h
  obtain ⟨⟨x, h1⟩, e1, e⟩ := Option.bind_eq_some_iff.mp e
  exact ⟨ρ, env, hd, x, h1, A, e1, fun v1 ρ1 H1 P1 r1 => ⟨ρ1, h1, x, d, hd', P1.rel, r1, e, fun v ρ3 H3 P3 r3 => q v ρ3 H3 (P1.trans P3) r3⟩⟩
theorem cons_mono {fa : EM} {fr : AM} {Q : List V → Hp → Prop} (h : tA K (mCons fa fr) σ H Q) : tCons (tM K fa) (tA K fr) σ H Q := by
  obtain ⟨ρ, env, hd, d, hd', A, e, q⟩ := h
  obtain ⟨⟨x, h1⟩, e1, e⟩ := Option.bind_eq_some_iff.mp e
  obtain ⟨⟨y, h2⟩, e2, e⟩ := Option.bind_eq_some_iff.mp e
  cases e
  refine ⟨ρ, env, hd, x, h1, A, e1, fun v1 ρ1 H1 P1 r1 => ⟨ρ1, env, h1, y, h2, A.post P1, e2, fun v2 ρ2 H2 P2 r2 => q _ ρ2 H2 (P1.trans P2) ?_⟩⟩
  simp only [RepL]
  exact ⟨v1, v2, rfl, r1.mono P2.pre P2.ext, r2⟩
theorem nil_mono {Q : List V → Hp → Prop} (h : tA K mNil σ H Q) : tNil σ H Q := by
  obtain ⟨ρ, env, hd, d, hd', A, e, q⟩ := h
  cases e
  exact q [] ρ H (.refl A.rel) .nil
theorem call_mono {g : GN} {fr : AM} {Q : VK} (h : tM K (mCall g fr) σ H Q) : tCB (rN K g) (tA K fr) σ H Q := by
  obtain ⟨ρ, env, hd, d, hd', A, e, q⟩ := h
  obtain ⟨⟨x, h1⟩, e1, e⟩ := Option.bind_eq_some_iff.mp e
  exact ⟨ρ, env, hd, x, h1, A, e1, fun v1 ρ1 H1 P1 r1 => ⟨ρ1, h1, x, d, hd', P1.rel, r1, e, fun v ρ3 H3 P3 r3 => q v ρ3 H3 (P1.trans P3) r3⟩⟩
theorem len1000 {n : Nat} (h : n ≤ 1000) : n ≤ sizeLine := Nat.le_trans h (Nat.le_trans (by decide) line1M)
theorem tup_mono {fr : AM} {Q : VK} (h : tM K (mTup fr) σ H Q) : tTup (tA K fr) σ H Q := by
  obtain ⟨ρ, env, hd, d, hd', A, e, q⟩ := h
  obtain ⟨⟨x, h1⟩, e1, e⟩ := Option.bind_eq_some_iff.mp e
  split at e
  · rename_i hl
    cases e
    refine ⟨ρ, env, hd, x, h1, A, e1, fun vs ρ1 H1 P1 r1 => ⟨by rw [← r1.length]; exact len1000 hl, fun p np => ?_⟩⟩
    exact q _ ρ1 _ (P1.trans (.newT P1.rel np)) (rep_tup.mpr ⟨p, vs, rfl, .of upd_same, r1.mono (List.prefix_refl _) (.new np)⟩)
  · cases e
theorem lst_mono {fr : AM} {Q : VK} (h : tM K (mLst fr) σ H Q) : tLst (tA K fr) σ H Q := by
  obtain ⟨ρ, env, hd, d, hd', A, e, q⟩ := h
  obtain ⟨⟨x, h1⟩, e1, e⟩ := Option.bind_eq_some_iff.mp e
  split at e
  · rename_i hl
    cases e
    refine ⟨ρ, env, hd, x, h1, A, e1, fun vs ρ1 H1 P1 r1 => ⟨by rw [← r1.length]; exact len1000 hl, fun p np => ?_⟩⟩
    exact q _ _ _ (P1.trans (.newL P1.rel np r1)) (rep_new P1.rel)
  · cases e
theorem chain_mono {g g' : G2} {fa fb fc : EM} {Q : VK} (h : tM K (mChain g g' fa fb fc) σ H Q) : tChain (rM K g) (rM K g') (tM K fa) (tM K fb) (tM K fc) σ H Q := by
  obtain ⟨ρ, env, hd, d, hd', A, e, q⟩ := h
  obtain ⟨⟨x, h1⟩, e1, e⟩ := Option.bind_eq_some_iff.mp e
  obtain ⟨⟨y, h2⟩, e2, e⟩ := Option.bind_eq_some_iff.mp e
  obtain ⟨⟨z, h3⟩, e3, e⟩ := Option.bind_eq_some_iff.mp e
  refine ⟨ρ, env, hd, x, h1, A, e1, fun v1 ρ1 H1 P1 r1 => ⟨ρ1, env, h1, y, h2, A.post P1, e2, fun v2 ρ2 H2 P2 r2 => ?_⟩⟩
  refine ⟨ρ2, h2, x, y, z, h3, P2.rel, r1.mono P2.pre P2.ext, r2, e3, fun v ρ3 H3 P3 r3 => ?_⟩
  have A3 : At K ρ3 σ H3 env h3 := ((A.post P1).post P2).post P3
  dsimp only at e
  split at e
  · rw [rep_bl] at r3; subst r3
    refine ⟨true, rfl, ?_⟩
    rw [if_pos rfl]
    obtain ⟨⟨c, h4⟩, e4, e⟩ := Option.bind_eq_some_iff.mp e
    refine ⟨ρ3, env, h3, c, h4, A3, e4, fun v4 ρ4 H4 P4 r4 => ?_⟩
    exact ⟨ρ4, h4, y, c, d, hd', P4.rel, r2.mono (P3.pre.trans P4.pre) (P3.ext.trans P4.ext), r4, e, fun v ρ5 H5 P5 r5 => q v ρ5 H5 (P1.trans (P2.trans (P3.trans (P4.trans P5)))) r5⟩
  · rw [rep_bl] at r3; subst r3
    refine ⟨false, rfl, ?_⟩
    rw [if_neg Bool.false_ne_true]
    cases e
    exact q _ ρ3 H3 (P1.trans (P2.trans P3)) (rep_bl.mpr rfl)
  · cases e
theorem and_mono {fa fb : EM} {Q : VK} (h : tM K (mAnd fa fb) σ H Q) : tAndV (tM K fa) (tM K fb) σ H Q := by
  obtain ⟨ρ, env, hd, d, hd', A, e, q⟩ := h
  obtain ⟨⟨x, h1⟩, e1, e⟩ := Option.bind_eq_some_iff.mp e
  refine ⟨ρ, env, hd, x, h1, A, e1, fun v1 ρ1 H1 P1 r1 => ?_⟩
  dsimp only at e
  split at e
  · rw [rep_bl] at r1; subst r1
    refine ⟨true, rfl, ?_⟩
    rw [if_pos rfl]
    exact ⟨ρ1, env, h1, d, hd', A.post P1, e, fun v ρ2 H2 P2 r2 => q v ρ2 H2 (P1.trans P2) r2⟩
  · rw [rep_bl] at r1; subst r1
    refine ⟨false, rfl, ?_⟩
    rw [if_neg Bool.false_ne_true]
    cases e
    exact q _ ρ1 H1 P1 (rep_bl.mpr rfl)
  · cases e
theorem or_mono {fa fb : EM} {Q : VK} (h : tM K (mOr fa fb) σ H Q) : tOrV (tM K fa) (tM K fb) σ H Q := by
  obtain ⟨ρ, env, hd, d, hd', A, e, q⟩ := h
  obtain ⟨⟨x, h1⟩, e1, e⟩ := Option.bind_eq_some_iff.mp e
  refine ⟨ρ, env, hd, x, h1, A, e1, fun v1 ρ1 H1 P1 r1 => ?_⟩
  dsimp only at e
  split at e
  · rw [rep_bl] at r1; subst r1
    refine ⟨false, rfl, ?_⟩
    rw [if_neg Bool.false_ne_true]
    exact ⟨ρ1, env, h1, d, hd', A.post P1, e, fun v ρ2 H2 P2 r2 => q v ρ2 H2 (P1.trans P2) r2⟩
  · rw [rep_bl] at r1; subst r1
    refine ⟨true, rfl, ?_⟩
    rw [if_pos rfl]
    cases e
    exact q _ ρ1 H1 P1 (rep_bl.mpr rfl)
  · cases e
theorem not_mono {fa : EM} {Q : VK} (h : tM K (mNot fa) σ H Q) : tNotV (tM K fa) σ H Q := by
  obtain ⟨ρ, env, hd, d, hd', A, e, q⟩ := h
  obtain ⟨⟨x, h1⟩, e1, e⟩ := Option.bind_eq_some_iff.mp e
  refine ⟨ρ, env, hd, x, h1, A, e1, fun v1 ρ1 H1 P1 r1 => ?_⟩
  dsimp only at e
  split at e
  · rw [rep_bl] at r1; subst r1; cases e
    exact ⟨_, rfl, q _ ρ1 H1 P1 (rep_bl.mpr rfl)⟩
  · cases e
theorem if_mono {fc : BM} {fa fb : EM} {Q : VK} (h : tM K (mIf fc fa fb) σ H Q) : tIf (tT K fc) (tM K fa) (tM K fb) σ H Q := by
  obtain ⟨ρ, env, hd, d, hd', A, e, q⟩ := h
  obtain ⟨⟨x, h1⟩, e1, e⟩ := Option.bind_eq_some_iff.mp e
  refine ⟨ρ, env, hd, x, h1, A, e1, fun ρ1 H1 P1 => ?_⟩
  dsimp only at e
  split at e
  · rename_i hx; rw [if_pos hx]
    exact ⟨ρ1, env, h1, d, hd', A.post P1, e, fun v ρ2 H2 P2 r2 => q v ρ2 H2 (P1.trans P2) r2⟩
  · rename_i hx; rw [if_neg hx]
    exact ⟨ρ1, env, h1, d, hd', A.post P1, e, fun v ρ2 H2 P2 r2 => q v ρ2 H2 (P1.trans P2) r2⟩
theorem bcmp_mono {fa : EM} {Q : Bool → Hp → Prop} (h : tT K (bCmp fa) σ H Q) : tTest (tM K fa) σ H Q := by
  obtain ⟨ρ, env, hd, d, hd', A, e, q⟩ := h
  obtain ⟨⟨x, h1⟩, e1, e⟩ := Option.bind_eq_some_iff.mp e
  refine ⟨ρ, env, hd, x, h1, A, e1, fun v1 ρ1 H1 P1 r1 => ?_⟩
  dsimp only at e
  split at e
  · cases e
    rw [rep_bl] at r1
    exact ⟨_, r1, q ρ1 H1 P1⟩
  · cases e
theorem empty_eq {α β : Type} {l : List α} {m : List β} (h : l.length = m.length) : (!l.isEmpty) = !m.isEmpty := by
  cases l <;> cases m <;> first | rfl | (simp at h)
theorem tru_of {ρ hd} {x : D} {v : V} {b : Bool} (r : Rel K ρ H hd) (q : Rep K ρ H x v) (hb : truD x hd = some b) : TruV K v H b := by
  cases x <;> simp only [truD] at hb <;> try contradiction
  · rw [rep_non] at q; subst q; cases hb; rfl
  · rw [rep_bl] at q; subst q; cases hb; rfl
  · rw [rep_int] at q; subst q; cases hb; rfl
  · rw [rep_str] at q; subst q
    split at hb
    · rename_i hl; cases hb; exact ⟨Nat.le_trans hl line1M, rfl⟩
    · cases hb
  · rw [rep_tup] at q; obtain ⟨a, vs, rfl, s, l⟩ := q
    cases hb
    exact .inr (.inl ⟨vs, s, empty_eq l.length⟩)
  · rw [rep_ref] at q; obtain ⟨a, rfl, ea⟩ := q
    obtain ⟨ds, hl, e⟩ := Option.map_eq_some_iff.mp hb
    subst e
    obtain ⟨vs, s, l⟩ := lsOf_sq r hl ea
    exact .inl ⟨vs, s, empty_eq l.length⟩
  · rw [rep_fls] at q; obtain ⟨a, vs, rfl, s, l⟩ := q
    cases hb
    exact .inl ⟨vs, s.sq, empty_eq l.length⟩
theorem btru_mono {fa : EM} {Q : Bool → Hp → Prop} (h : tT K (bTru fa) σ H Q) : tM K fa σ H fun x H' => ∃ k, TruV K x H' k ∧ Q k H' := by
  obtain ⟨ρ, env, hd, b, hd', A, e, q⟩ := h
  obtain ⟨⟨x, h1⟩, e1, e⟩ := Option.bind_eq_some_iff.mp e
  obtain ⟨b', hb, e⟩ := Option.map_eq_some_iff.mp e
  obtain ⟨rfl, rfl⟩ := Prod.mk.inj e
  exact ⟨ρ, env, hd, x, h1, A, e1, fun v1 ρ1 H1 P1 r1 => ⟨b', tru_of P1.rel r1 hb, q ρ1 H1 P1⟩⟩
theorem band_mono {fa fb : BM} {Q : Bool → Hp → Prop} (h : tT K (bAnd fa fb) σ H Q) : tAnd (tT K fa) (tT K fb) σ H Q := by
  obtain ⟨ρ, env, hd, d, hd', A, e, q⟩ := h
  obtain ⟨⟨x, h1⟩, e1, e⟩ := Option.bind_eq_some_iff.mp e
  refine ⟨ρ, env, hd, x, h1, A, e1, fun ρ1 H1 P1 => ?_⟩
  dsimp only at e
  split at e
  · rename_i hx; rw [if_pos hx]
    exact ⟨ρ1, env, h1, d, hd', A.post P1, e, fun ρ2 H2 P2 => q ρ2 H2 (P1.trans P2)⟩
  · rename_i hx; rw [if_neg hx]; cases e
    exact q ρ1 H1 P1
theorem bor_mono {fa fb : BM} {Q : Bool → Hp → Prop} (h : tT K (bOr fa fb) σ H Q) : tOr (tT K fa) (tT K fb) σ H Q := by
  obtain ⟨ρ, env, hd, d, hd', A, e, q⟩ := h
  obtain ⟨⟨x, h1⟩, e1, e⟩ := Option.bind_eq_some_iff.mp e
  refine ⟨ρ, env, hd, x, h1, A, e1, fun ρ1 H1 P1 => ?_⟩
  dsimp only at e
  split at e
  · rename_i hx; rw [if_pos hx]; cases e
    exact q ρ1 H1 P1
  · rename_i hx; rw [if_neg hx]
    exact ⟨ρ1, env, h1, d, hd', A.post P1, e, fun ρ2 H2 P2 => q ρ2 H2 (P1.trans P2)⟩
theorem bnot_mono {fa : BM} {Q : Bool → Hp → Prop} (h : tT K (bNot fa) σ H Q) : L2.tNot (tT K fa) σ H Q := by
  obtain ⟨ρ, env, hd, d, hd', A, e, q⟩ := h
  obtain ⟨⟨x, h1⟩, e1, e⟩ := Option.bind_eq_some_iff.mp e
  cases e
  exact ⟨ρ, env, hd, x, h1, A, e1, fun ρ1 H1 P1 => q ρ1 H1 P1⟩
end

section
variable {X : Cx} {pos : Pos} {a b c e : Expr} {es : List Expr} {fa fb fc : EM} {fr : AM} {ba bb : BM}
theorem pm_var {i : Nat} (h : PE X a (tVar i)) : PE X a (tM X.K (mVar i)) := PE.to h fun σ H Q ⟨ρ, env, hd, d, hd', A, e, q⟩ => by
  unfold mVar at e
  split at e
  · rename_i d' hd
    cases e
    obtain ⟨v, h1, h2⟩ := A.sl.2 i d hd
    exact ⟨v, h1, q v ρ H (.refl A.rel) h2⟩
  · cases e
theorem pm_c {v : V} {d : D} (h : PE X a (tC v)) (r : ∀ K ρ H, Rep K ρ H d v) : PE X a (tM X.K (mC d)) := PE.to h fun σ H Q ⟨ρ, env, hd, d', hd', A, e, q⟩ => by
  cases e
  exact q v ρ H (.refl A.rel) (r _ _ _)
theorem pm_int {i j} : PE X (.Constant (.int i) j pos) (tM X.K (mC (.int i))) := pm_c pe_int fun _ _ _ => rep_int.mpr rfl
theorem pm_bl {i j} : PE X (.Constant (.bool i) j pos) (tM X.K (mC (.bl i))) := pm_c pe_bl fun _ _ _ => rep_bl.mpr rfl
theorem pm_str {i j} : PE X (.Constant (.str i) j pos) (tM X.K (mC (.str i))) := pm_c pe_str fun _ _ _ => rep_str.mpr rfl
theorem pm_non {j} : PE X (.Constant .none j pos) (tM X.K (mC .non)) := pm_c pe_non fun _ _ _ => rep_non.mpr rfl
theorem pm_raw {v : V} (h : PE X a (tC v)) : PE X a (tM X.K (mC (.raw v))) := pm_c h fun _ _ _ => rep_raw.mpr rfl
theorem pm_bin {op : Operator} {g : G2} (ho : OpR X (binaryOp op) (rM X.K g)) (ha : PE X a (tM X.K fa)) (hb : PE X b (tM X.K fb)) : PE X (.BinOp a op b pos) (tM X.K (mBin g fa fb)) := PE.to (pe_op ho ha hb) fun _ _ _ => bin_mono
theorem pm_cmp {op : CmpOp} {g : G2} (ho : OpR X (compareOp op) (rM X.K g)) (ha : PE X a (tM X.K fa)) (hb : PE X b (tM X.K fb)) (hm : behindInMarks op b = false) : PE X (.Compare a [op] [b] pos) (tM X.K (mBin g fa fb)) := PE.to (pe_cmpR ho ha hb hm) fun _ _ _ => bin_mono
theorem pm_un {op : UnaryOp} {g : D → Hd → Option (D × Hd)} (ho : UnR X (unaryOp op) (rU1 X.K g)) (ha : PE X a (tM X.K fa)) : PE X (.UnaryOp op a pos) (tM X.K (mUn g fa)) := PE.to (pe_un ho ha) fun _ _ _ => un_mono
theorem pm_chain {op op' : CmpOp} {g g' : G2} (ho : OpR X (compareOp op) (rM X.K g)) (ho' : OpR X (compareOp op') (rM X.K g')) (ha : PE X a (tM X.K fa)) (hb : PE X b (tM X.K fb)) (hc : PE X c (tM X.K fc))
    (hm : lastMarks [op, op'] [b, c] = false := by with_unfolding_all rfl) : PE X (.Compare a [op, op'] [b, c] pos) (tM X.K (mChain g g' fa fb fc)) := PE.to (pe_chain ho ho' ha hb hc hm) fun _ _ _ => chain_mono
theorem pm_nil : PA X [] (tA X.K mNil) := PA.to pa_nil fun _ _ _ => nil_mono
theorem pm_cons (ha : PE X e (tM X.K fa)) (hr : PA X es (tA X.K fr)) (hs : starEach (e :: es) X.env = (false, eval e X.env) :: starEach es X.env := by rfl) : PA X (e :: es) (tA X.K (mCons fa fr)) := PA.to (pa_cons ha hr hs) fun _ _ _ => cons_mono
theorem pm_tup {x1} (h : PA X es (tA X.K fr)) : PE X (.Tuple es x1 pos) (tM X.K (mTup fr)) := PE.to (pe_tup h) fun _ _ _ => tup_mono
theorem pm_lst (h : PA X es (tA X.K fr)) : PE X (.List es pos) (tM X.K (mLst fr)) := PE.to (pe_lst h) fun _ _ _ => lst_mono
theorem pm_one {op} (h : PE X a (tM X.K fa)) : PE X (.BoolOp op [a] pos) (tM X.K fa) := pe_one h
theorem pm_and {rest : List Expr} (ha : PE X a (tM X.K fa)) (hb : PE X (.BoolOp .And (b :: rest) pos) (tM X.K fb)) : PE X (.BoolOp .And (a :: b :: rest) pos) (tM X.K (mAnd fa fb)) := PE.to (pe_and ha hb) fun _ _ _ => and_mono
theorem pm_or {rest : List Expr} (ha : PE X a (tM X.K fa)) (hb : PE X (.BoolOp .Or (b :: rest) pos) (tM X.K fb)) : PE X (.BoolOp .Or (a :: b :: rest) pos) (tM X.K (mOr fa fb)) := PE.to (pe_or ha hb) fun _ _ _ => or_mono
theorem pm_not (ha : PE X a (tM X.K fa)) : PE X (.UnaryOp .Not a pos) (tM X.K (mNot fa)) := PE.to (pe_not ha) fun _ _ _ => not_mono
theorem pm_if (hc : PT X c (tT X.K ba)) (ha : PE X a (tM X.K fa)) (hb : PE X b (tM X.K fb)) : PE X (.IfExp c a b pos) (tM X.K (mIf ba fa fb)) := PE.to (pe_ifExp hc ha hb) fun _ _ _ => if_mono
theorem pm_callB {x : Str} {id : String} {p : Pos} {g : GN} (hc : CallR X (.builtin id) (rN X.K g)) (hg : Gl X x) (hm : X.mg x = none) (hv : bootBuiltins x = some (.builtin id)) (ha : PA X (e :: es) (tA X.K fr)) (hn : x ≠ "__name__" := by decide) (hdb : (x == ("__debug__" : Str)) = false := by decide)
    (he : starEach (e :: es) X.env = (false, eval e X.env) :: starEach es X.env := by rfl) (hpl : (backTo pos (starEach es X.env)).any (·.1) = false := by rfl) : PE X (.Call (.Name x p) (e :: es) [] pos) (tM X.K (mCall g fr)) := PE.to (pe_callB hc hg hm hv ha hn hdb he hpl) fun _ _ _ => call_mono
theorem pm_callTy {x : Str} {T : String} {p : Pos} {g : GN} (hc : CallR X (.type T) (rN X.K g)) (hg : Gl X x) (hm : X.mg x = none) (hv : bootBuiltins x = some (.type T)) (ha : PA X (e :: es) (tA X.K fr)) (hn : x ≠ "__name__" := by decide) (hdb : (x == ("__debug__" : Str)) = false := by decide)
    (he : starEach (e :: es) X.env = (false, eval e X.env) :: starEach es X.env := by rfl) (hpl : (backTo pos (starEach es X.env)).any (·.1) = false := by rfl) : PE X (.Call (.Name x p) (e :: es) [] pos) (tM X.K (mCall g fr)) := PE.to (pe_callTy hc hg hm hv ha hn hdb he hpl) fun _ _ _ => call_mono
theorem pm_callF {x : Str} {id : String} {p : Pos} {g : GN} (hc : CallR X (.builtin id) (rN X.K g)) (hg : Gl X x) (hm : X.mg x = some (.builtin id)) (ha : PA X (e :: es) (tA X.K fr)) (hdb : (x == ("__debug__" : Str)) = false := by decide)
    (he : starEach (e :: es) X.env = (false, eval e X.env) :: starEach es X.env := by rfl) (hpl : (backTo pos (starEach es X.env)).any (·.1) = false := by rfl) : PE X (.Call (.Name x p) (e :: es) [] pos) (tM X.K (mCall g fr)) := PE.to (pe_callBfun hc hg hm ha hdb he hpl) fun _ _ _ => call_mono
theorem pt_tru (ha : PE X a (tM X.K fa)) (he : ∀ whole, isTrue a X.env whole = (do let v ← whole; standAt a.pos; holding [v] (truthy v)) := by intro _; rfl) : PT X a (tT X.K (bTru fa)) := PT.to (pt_truth ha he) fun _ _ _ => btru_mono
theorem pt_cm {op : CmpOp} {g : G2} (ho : OpR X (compareOp op) (rM X.K g)) (ha : PE X a (tM X.K fa)) (hb : PE X b (tM X.K fb)) (hm : behindInMarks op b = false) : PT X (.Compare a [op] [b] pos) (tT X.K (bCmp (mBin g fa fb))) :=
  PT.to (pt_cmpR ho ha hb hm) fun σ H Q h => by
    have := bcmp_mono h
    exact bin_mono this
theorem pt_ch {op op' : CmpOp} {g g' : G2} (ho : OpR X (compareOp op) (rM X.K g)) (ho' : OpR X (compareOp op') (rM X.K g')) (ha : PE X a (tM X.K fa)) (hb : PE X b (tM X.K fb)) (hc : PE X c (tM X.K fc))
    (hm : lastMarks [op, op'] [b, c] = false := by with_unfolding_all rfl) : PT X (.Compare a [op, op'] [b, c] pos) (tT X.K (bCmp (mChain g g' fa fb fc))) :=
  PT.to (pt_chain ho ho' ha hb hc hm) fun σ H Q h => by
    have := bcmp_mono h
    exact chain_mono this
theorem PW.to {e : Expr} {t t' : TT} (h : PW X e t) (m : ∀ σ H Q, t' σ H Q → t σ H Q) : PW X e t' := ⟨fun wh pins s σ H Q I q => h.run wh pins s σ H Q I (m σ H Q q)⟩
theorem pwm_and1 (ha : PT X a (tT X.K ba)) : PW X (.BoolOp .And [a] pos) (tT X.K ba) := pw_and1 ha
theorem pwm_or1 (ha : PT X a (tT X.K ba)) : PW X (.BoolOp .Or [a] pos) (tT X.K ba) := pw_or1 ha
theorem pwm_and {rest : List Expr} (ha : PT X a (tT X.K ba)) (hb : PW X (.BoolOp .And (b :: rest) pos) (tT X.K bb)) : PW X (.BoolOp .And (a :: b :: rest) pos) (tT X.K (bAnd ba bb)) := PW.to (pw_and ha hb) fun _ _ _ => band_mono
theorem pwm_or {rest : List Expr} (ha : PT X a (tT X.K ba)) (hb : PW X (.BoolOp .Or (b :: rest) pos) (tT X.K bb)) : PW X (.BoolOp .Or (a :: b :: rest) pos) (tT X.K (bOr ba bb)) := PW.to (pw_or ha hb) fun _ _ _ => bor_mono
theorem ptm_not (ha : PT X a (tT X.K ba)) : PT X (.UnaryOp .Not a pos) (tT X.K (bNot ba)) := PT.to (pt_not ha) fun _ _ _ => bnot_mono
end
end Dl

namespace Dl
open PySem PySem.Spec PyProof.Rows L2
/-! ## statements -/
def mSeq (f g : SM) : SM := fun env hd => (f env hd).bind fun p => match p.1 with | .nx => g p.2.1 p.2.2 | _ => some p
def mSkip : SM := fun env hd => some (.nx, env, hd)
def mNone : SM := fun _ _ => none
def mRet (a : EM) : SM := fun env hd => (a env hd).bind fun p => some (.rt p.1, env, p.2)
def mExpr (a : EM) : SM := fun env hd => (a env hd).bind fun p => some (.nx, env, p.2)
def mIfS (c : BM) (f g : SM) : SM := fun env hd => (c env hd).bind fun p => if p.1 = true then f env p.2 else g env p.2
abbrev GT := D → Ev → Hd → Option (Ev × Hd)
def mAsg (a : EM) (g : GT) : SM := fun env hd => (a env hd).bind fun p => (g p.1 env p.2).bind fun q => some (.nx, q.1, q.2)
def gNm (i : Nat) : GT := fun d env hd => some (env.set i (some d), hd)
abbrev GTs := List D → Ev → Hd → Option (Ev × Hd)
def gsNil : GTs := fun ds env hd => match ds with | [] => some (env, hd) | _ => none
def gsCons (g : GT) (r : GTs) : GTs := fun ds env hd => match ds with | d :: ds => (g d env hd).bind fun p => r ds p.1 p.2 | [] => none
def gTp (r : GTs) : GT := fun d env hd => match d with | .tup ds => r ds env hd | .ref n => (lsOf hd n).bind fun ds => r ds env hd | _ => none
def mPar (i j : Nat) (r : AM) : SM := fun env hd => (r env hd).bind fun p => match p.1 with | [a, b] => some (.nx, (env.set i (some a)).set j (some b), p.2) | _ => none
def mPar3 (i j l : Nat) (r : AM) : SM := fun env hd => (r env hd).bind fun p => match p.1 with | [a, b, c] => some (.nx, ((env.set i (some a)).set j (some b)).set l (some c), p.2) | _ => none

theorem wipe_set_mem {i : Nat} {v : Option V} : ∀ {vs : List Nat} {σ : L2.St}, i ∈ vs → wipe (σ.set i v) vs = wipe σ vs
  | [], _, h => by simp at h
  | j :: vs, σ, h => by
    unfold wipe
    by_cases hv : i ∈ vs
    · rw [wipe_set_mem hv]
    · have e : i = j := by
        rcases List.mem_cons.mp h with h | h
        · exact h
        · exact absurd h hv
      subst e
      have out : ∀ (vs : List Nat) (σ : L2.St), i ∉ vs → wipe (σ.set i v) vs = (wipe σ vs).set i v := by
        intro vs
        induction vs with
        | nil => intro σ _; rfl
        | cons k ks ih =>
          intro σ hk
          simp only [List.mem_cons, not_or] at hk
          unfold wipe
          rw [ih σ hk.2, List.set_comm _ _ hk.1]
      rw [out vs σ hv, List.set_set]
theorem wipe_mem_none {i : Nat} : ∀ {vs : List Nat} {σ : L2.St}, i ∈ vs → (wipe σ vs).set i none = wipe σ vs
  | [], _, h => by simp at h
  | j :: vs, σ, h => by
    unfold wipe
    by_cases e : i = j
    · subst e; rw [List.set_set]
    · have hv : i ∈ vs := by
        rcases List.mem_cons.mp h with h | h
        · exact absurd h e
        · exact h
      rw [List.set_comm _ _ (fun z => e z.symm), wipe_mem_none hv]
theorem wipe_wipe : ∀ (ws vs : List Nat) (σ : L2.St), (∀ i ∈ ws, i ∈ vs) → wipe (wipe σ vs) ws = wipe σ vs
  | [], _, _, _ => rfl
  | i :: ws, vs, σ, h => by
    show (wipe (wipe σ vs) ws).set i none = wipe σ vs
    rw [wipe_wipe ws vs σ (fun j hj => h j (List.mem_cons_of_mem _ hj))]
    exact wipe_mem_none (h i (by simp))

/-- what a target's store leaves -/
def gM (K : PySem.W.Frag) (sl : List Nat) (g : GT) : TG := fun v σ H Q => ∃ ρ env hd d env' hd', At K ρ σ H env hd ∧ Rep K ρ H d v ∧ g d env hd = some (env', hd') ∧ ∀ ρ' σ' H', Post K ρ ρ' H H' hd' → SRel K ρ' H' env' σ' → (∀ vs, (∀ i ∈ sl, i ∈ vs) → wipe σ' vs = wipe σ vs) → Q σ' H'
def gsM (K : PySem.W.Frag) (sl : List Nat) (g : GTs) : TGs := fun vs σ H Q => ∃ ρ env hd ds env' hd', At K ρ σ H env hd ∧ RepL K ρ H ds vs ∧ g ds env hd = some (env', hd') ∧ ∀ ρ' σ' H', Post K ρ ρ' H H' hd' → SRel K ρ' H' env' σ' → (∀ vs, (∀ i ∈ sl, i ∈ vs) → wipe σ' vs = wipe σ vs) → Q σ' H'
theorem PG.to {X : Cx} {e : Expr} {t t' : TG} (h : PG X e t) (m : ∀ v σ H Q, t' v σ H Q → t v σ H Q) : PG X e t' := ⟨fun pins s σ H v u Q I r q => h.run pins s σ H v u Q I r (m v σ H Q q)⟩
theorem PGs.to {X : Cx} {e : List Expr} {t t' : TGs} (h : PGs X e t) (m : ∀ v σ H Q, t' v σ H Q → t v σ H Q) : PGs X e t' := ⟨fun pins s σ H v u Q I r q => h.run pins s σ H v u Q I r (m v σ H Q q)⟩
section
variable {X : Cx} {pos : Pos} {a b c e : Expr} {es : List Expr} {st : Stmt} {sts : List Stmt} {fa fb fc : EM} {fr : AM} {ba bb : BM} {fs gs : SM} {g : GT} {rs : GTs} {sl sl' : List Nat}
theorem pgm_name {i : Nat} {x : Str} (hN : X.N.Nodup) (hi : X.N[i]? = some x) (hx : Loc X.env.scope x) (hf : X.fn x = true ∨ X.env.scope.names.lookup x = some .local := by first | exact .inl rfl | exact .inr rfl | assumption) : PG X (.Name x pos) (gM X.K [i] (gNm i)) :=
  PG.to (pg_name hN hi hx hf) fun v σ H Q ⟨ρ, env, hd, d, env', hd', A, r, e, q⟩ => by
    cases e
    exact q ρ _ H (.refl A.rel) (A.sl.set r) fun vs h => wipe_set_mem (h i (by simp))
theorem pgsm_nil : PGs X [] (gsM X.K [] gsNil) := PGs.to pgs_nil fun vs σ H Q ⟨ρ, env, hd, ds, env', hd', A, r, e, q⟩ => by
  unfold gsNil at e
  split at e
  · cases e
    simp only [RepL] at r
    exact ⟨r, q ρ σ H (.refl A.rel) A.sl fun _ _ => rfl⟩
  · cases e
theorem pgsm_cons (h1 : PG X e (gM X.K sl g)) (h2 : PGs X es (gsM X.K sl' rs))
    (hs : (assignEach (e :: es) X.env).map (·.2) = assign e X.env :: (assignEach es X.env).map (·.2) := by rfl) : PGs X (e :: es) (gsM X.K (sl ++ sl') (gsCons g rs)) :=
  PGs.to (pgs_cons h1 h2 hs) fun vs σ H Q ⟨ρ, env, hd, ds, env', hd', A, r, e, q⟩ => by
    unfold gsCons at e
    split at e
    · rename_i d ds'
      obtain ⟨⟨env1, hd1⟩, e1, e⟩ := Option.bind_eq_some_iff.mp e
      simp only [RepL] at r
      obtain ⟨v, w, rfl, r1, r2⟩ := r
      refine ⟨v, w, rfl, ρ, env, hd, d, env1, hd1, A, r1, e1, fun ρ1 σ1 H1 P1 S1 w1 => ?_⟩
      exact ⟨ρ1, env1, hd1, ds', env', hd', ⟨P1.rel, S1⟩, r2.mono P1.pre P1.ext, e, fun ρ2 σ2 H2 P2 S2 w2 => q ρ2 σ2 H2 (P1.trans P2) S2 fun vs h => (w2 vs fun i hi => h i (List.mem_append_right _ hi)).trans (w1 vs fun i hi => h i (List.mem_append_left _ hi))⟩
    · cases e
theorem gs_len : ∀ {es : List Expr} {n : Nat}, True := trivial
theorem PG.orG {X : Cx} {e : Expr} {t t' : TG} (h : PG X e t) (h' : PG X e t') : PG X e (fun v σ H Q => t v σ H Q ∨ t' v σ H Q) := ⟨fun pins s σ H v u Q I r q => q.elim (h.run pins s σ H v u Q I r) (h'.run pins s σ H v u Q I r)⟩
theorem pgm_tup {k n : Nat} (hc : X.calm = true) (h : PGs X es (gsM X.K sl rs)) (hlen : ∀ ds env hd r, rs ds env hd = some r → ds.length = n)
    (hn : (assignEach es X.env).length = n := by rfl) (hst : (assignEach es X.env).findIdx? (·.1) = none := by rfl) : PG X (.Tuple es k pos) (gM X.K sl (gTp rs)) :=
  PG.to (PG.orG (pg_tup hc h hn hst) (pg_unl hc h hn hst)) fun v σ H Q ⟨ρ, env, hd, d, env', hd', A, r, e, q⟩ => by
    unfold gTp at e
    split at e
    · rename_i ds
      rw [rep_tup] at r
      obtain ⟨p, vs, rfl, s, l⟩ := r
      exact .inl ⟨p, vs, rfl, s, by rw [← l.length]; exact hlen _ _ _ _ e, ρ, env, hd, ds, env', hd', A, l, e, q⟩
    · rename_i m
      obtain ⟨ds, hl, e⟩ := Option.bind_eq_some_iff.mp e
      rw [rep_ref] at r
      obtain ⟨p, rfl, ea⟩ := r
      obtain ⟨vs, sq, l⟩ := lsOf_sq A.rel hl ea
      exact .inr ⟨p, vs, rfl, sq, by rw [← l.length]; exact hlen _ _ _ _ e, ρ, env, hd, ds, env', hd', A, l, e, q⟩
    · cases e
theorem gsNil_len : ∀ ds env hd r, gsNil ds env hd = some r → ds.length = 0 := fun ds env hd r e => by
  unfold gsNil at e
  split at e
  · rfl
  · cases e
theorem gsCons_len {n : Nat} {g : GT} {rs : GTs} (h : ∀ ds env hd r, rs ds env hd = some r → ds.length = n) : ∀ ds env hd r, gsCons g rs ds env hd = some r → ds.length = n + 1 := fun ds env hd r e => by
  unfold gsCons at e
  split at e
  · obtain ⟨p, e1, e⟩ := Option.bind_eq_some_iff.mp e
    simp [h _ _ _ _ e]
  · cases e

theorem psm_nil : PSs X [] (tS X.K mSkip) := PSs.to pss_nil fun D σ H ⟨ρ, env, hd, fl, env', hd', A, e, q⟩ => by
  cases e
  exact q ρ σ H (.refl A.rel) A.sl
theorem psm_pass : PS X (.Pass pos) (tS X.K mSkip) := PS.to ps_pass fun D σ H ⟨ρ, env, hd, fl, env', hd', A, e, q⟩ => by
  cases e
  exact q ρ σ H (.refl A.rel) A.sl
theorem psm_cons (h1 : PS X st (tS X.K fs)) (h2 : PSs X sts (tS X.K gs)) : PSs X (st :: sts) (tS X.K (mSeq fs gs)) := PSs.to (pss_cons h1 h2) fun D σ H ⟨ρ, env, hd, fl, env', hd', A, e, q⟩ => by
  obtain ⟨⟨fl1, env1, hd1⟩, e1, e⟩ := Option.bind_eq_some_iff.mp e
  refine ⟨ρ, env, hd, fl1, env1, hd1, A, e1, fun ρ1 σ1 H1 P1 S1 => ?_⟩
  dsimp only at e
  split at e
  · exact ⟨ρ1, env1, hd1, fl, env', hd', ⟨P1.rel, S1⟩, e, fun ρ2 σ2 H2 P2 S2 => q ρ2 σ2 H2 (P1.trans P2) S2⟩
  · rename_i hne
    cases e
    have := q ρ1 σ1 H1 P1 S1
    cases fl
    · exact (hne rfl).elim
    · exact this
    · exact this
    · exact this
theorem psm_one (h1 : PS X st (tS X.K fs)) : PSs X [st] (tS X.K fs) := pss_one h1
theorem psm_never : PS X st (tS X.K mNone) := PS.to ps_never fun D σ H ⟨ρ, env, hd, fl, env', hd', A, e, q⟩ => by cases e
theorem psm_ret (ha : PE X a (tM X.K fa)) : PS X (.Return (some a) pos) (tS X.K (mRet fa)) := PS.to (ps_ret ha) fun D σ H ⟨ρ, env, hd, fl, env', hd', A, e, q⟩ => by
  obtain ⟨⟨x, h1⟩, e1, e⟩ := Option.bind_eq_some_iff.mp e
  cases e
  exact ⟨ρ, env, hd, x, h1, A, e1, fun v ρ1 H1 P1 r1 => q ρ1 σ H1 P1 (A.sl.mono P1.pre P1.ext) v r1⟩
theorem psm_expr (ha : PE X a (tM X.K fa)) (hs : swapsWith a none pos.line X.env = pure false := by rfl) : PS X (.Expr a pos) (tS X.K (mExpr fa)) := PS.to (ps_expr ha hs) fun D σ H ⟨ρ, env, hd, fl, env', hd', A, e, q⟩ => by
  obtain ⟨⟨x, h1⟩, e1, e⟩ := Option.bind_eq_some_iff.mp e
  cases e
  exact ⟨ρ, env, hd, x, h1, A, e1, fun v ρ1 H1 P1 r1 => q ρ1 σ H1 P1 (A.sl.mono P1.pre P1.ext)⟩
theorem psm_if {fs gs : SM} {xs ys : List Stmt} (hc : PT X c (tT X.K ba)) (h1 : PSs X xs (tS X.K fs)) (h2 : PSs X ys (tS X.K gs)) : PS X (.If c xs ys pos) (tS X.K (mIfS ba fs gs)) := PS.to (ps_if hc h1 h2) fun D σ H ⟨ρ, env, hd, fl, env', hd', A, e, q⟩ => by
  obtain ⟨⟨x, h1⟩, e1, e⟩ := Option.bind_eq_some_iff.mp e
  refine ⟨ρ, env, hd, x, h1, A, e1, fun ρ1 H1 P1 => ?_⟩
  dsimp only at e
  split at e
  · rename_i hx; rw [if_pos hx]
    exact ⟨ρ1, env, h1, fl, env', hd', A.post P1, e, fun ρ2 σ2 H2 P2 S2 => q ρ2 σ2 H2 (P1.trans P2) S2⟩
  · rename_i hx; rw [if_neg hx]
    exact ⟨ρ1, env, h1, fl, env', hd', A.post P1, e, fun ρ2 σ2 H2 P2 S2 => q ρ2 σ2 H2 (P1.trans P2) S2⟩
theorem psm_asg {tg : Expr} (ha : PE X a (tM X.K fa)) (hg : PG X tg (gM X.K sl g)) (hs : swapsWithSole [tg] a pos.line X.env = pure false := by rfl) (hw : swappedStores [tg] a X.env = pure none := by rfl)
    (h1 : (assignEach [tg] X.env).map (·.2) = [assign tg X.env] := by rfl) : PS X (.Assign [tg] a pos) (tS X.K (mAsg fa g)) := PS.to (ps_asg ha hg hs hw h1) fun D σ H ⟨ρ, env, hd, fl, env', hd', A, e, q⟩ => by
  obtain ⟨⟨x, h1⟩, e1, e⟩ := Option.bind_eq_some_iff.mp e
  obtain ⟨⟨env1, hd1⟩, e2, e⟩ := Option.bind_eq_some_iff.mp e
  cases e
  exact ⟨ρ, env, hd, x, h1, A, e1, fun v ρ1 H1 P1 r1 => ⟨ρ1, env, h1, x, env1, hd1, A.post P1, r1, e2, fun ρ2 σ2 H2 P2 S2 _ => q ρ2 σ2 H2 (P1.trans P2) S2⟩⟩
theorem psm_par {i j : Nat} {x y : Str} {px py pt : Pos} {kt k2 pt2} (hc : X.calm = true) (hN : X.N.Nodup) (hi : X.N[i]? = some x) (hj : X.N[j]? = some y) (hij : i ≠ j) (hx : X.env.scope.names.lookup x = some .local) (hy : X.env.scope.names.lookup y = some .local)
    (ha : PA X [a, b] (tA X.K fr)) (hw : swappedStores [Expr.Tuple [Expr.Name x px, Expr.Name y py] kt pt] (Expr.Tuple [a, b] k2 pt2) X.env = pure (some [x, y])) (hs : swapsWithSole [Expr.Tuple [Expr.Name x px, Expr.Name y py] kt pt] (Expr.Tuple [a, b] k2 pt2) pos.line X.env = pure false := by rfl) :
    PS X (.Assign [Expr.Tuple [Expr.Name x px, Expr.Name y py] kt pt] (Expr.Tuple [a, b] k2 pt2) pos) (tS X.K (mPar i j fr)) := PS.to (ps_par hc hN hi hj hij hx hy ha hw hs) fun D σ H ⟨ρ, env, hd, fl, env', hd', A, e, q⟩ => by
  obtain ⟨⟨xs, h1⟩, e1, e⟩ := Option.bind_eq_some_iff.mp e
  dsimp only at e
  split at e
  · cases e
    refine ⟨ρ, env, hd, _, hd', A, e1, fun vs ρ1 H1 P1 r1 => ?_⟩
    obtain ⟨v, w, rfl, rv, rw_⟩ := repL2 r1
    exact ⟨v, w, rfl, q ρ1 _ H1 P1 (((A.sl.mono P1.pre P1.ext).set rv).set rw_)⟩
  · cases e
theorem psm_par3 {i j l : Nat} {x y z : Str} {px py pz pt : Pos} {kt k2 pt2} (hc : X.calm = true) (hN : X.N.Nodup) (hi : X.N[i]? = some x) (hj : X.N[j]? = some y) (hl : X.N[l]? = some z) (hij : i ≠ j) (hil : i ≠ l) (hjl : j ≠ l) (hx : X.env.scope.names.lookup x = some .local) (hy : X.env.scope.names.lookup y = some .local) (hz : X.env.scope.names.lookup z = some .local)
    (ha : PA X [a, b, c] (tA X.K fr)) (hw : swappedStores [Expr.Tuple [Expr.Name x px, Expr.Name y py, Expr.Name z pz] kt pt] (Expr.Tuple [a, b, c] k2 pt2) X.env = pure (some [x, y, z])) (hs : swapsWithSole [Expr.Tuple [Expr.Name x px, Expr.Name y py, Expr.Name z pz] kt pt] (Expr.Tuple [a, b, c] k2 pt2) pos.line X.env = pure false := by rfl) :
    PS X (.Assign [Expr.Tuple [Expr.Name x px, Expr.Name y py, Expr.Name z pz] kt pt] (Expr.Tuple [a, b, c] k2 pt2) pos) (tS X.K (mPar3 i j l fr)) := PS.to (ps_par3 hc hN hi hj hl hij hil hjl hx hy hz ha hw hs) fun D σ H ⟨ρ, env, hd, fl, env', hd', A, e, q⟩ => by
  obtain ⟨⟨xs, h1⟩, e1, e⟩ := Option.bind_eq_some_iff.mp e
  dsimp only at e
  split at e
  · cases e
    refine ⟨ρ, env, hd, _, hd', A, e1, fun vs ρ1 H1 P1 r1 => ?_⟩
    obtain ⟨u, v, w, rfl, ru, rv, rw_⟩ := repL3 r1
    exact ⟨u, v, w, rfl, q ρ1 _ H1 P1 ((((A.sl.mono P1.pre P1.ext).set ru).set rv).set rw_)⟩
  · cases e
end
end Dl

namespace Dl
open PySem PySem.Spec PyProof.Rows L2 RZ
/-! ## walks -/
structure ItD where
  items : List D
  keep : List (Nat × List D)
def keepOk (k : List (Nat × List D)) (hd : Hd) : Prop := ∀ p ∈ k, lsOf hd p.1 = some p.2
abbrev IM := Ev → Hd → Option (ItD × Hd)
structure IsIt (K : PySem.W.Frag) (ρ0 : List Addr) (H0 : Hp) (J : It) (it : ItD) : Prop where
  go : ∀ ρ H hd i, ρ0 <+: ρ → Ext K H0 H → Rel K ρ H hd → keepOk it.keep hd → i < it.items.length → J.go i H
  stop : ∀ ρ H hd, ρ0 <+: ρ → Ext K H0 H → Rel K ρ H hd → keepOk it.keep hd → J.stop it.items.length H
  yld : ∀ ρ H hd i x H', ρ0 <+: ρ → Ext K H0 H → Rel K ρ H hd → keepOk it.keep hd → i < it.items.length → J.yld i H x H' → ∃ d, it.items[i]? = some d ∧ Post K ρ ρ H H' hd ∧ Rep K ρ H' d x
def iM (K : PySem.W.Frag) (f : IM) : TI := fun σ H R => ∃ ρ env hd it hd', At K ρ σ H env hd ∧ f env hd = some (it, hd') ∧ ∀ ρ' H' J, Post K ρ ρ' H H' hd' → IsIt K ρ' H' J it → R J H'
theorem PI.to {X : Cx} {tg e : Expr} {t t' : TI} (h : PI X tg e t) (m : ∀ σ H Q, t' σ H Q → t σ H Q) : PI X tg e t' := ⟨fun pins s σ H R I q => h.run pins s σ H R I (m σ H R q)⟩
theorem PI.or {X : Cx} {tg e : Expr} {t t' : TI} (h : PI X tg e t) (h' : PI X tg e t') : PI X tg e (fun σ H R => t σ H R ∨ t' σ H R) := ⟨fun pins s σ H R I q => q.elim (h.run pins s σ H R I) (h'.run pins s σ H R I)⟩
def iSeq (a : EM) : IM := fun env hd => (a env hd).bind fun p => match p.1 with
  | .ref n => (lsOf p.2 n).map fun ds => (⟨ds, [(n, ds)]⟩, p.2)
  | .tup ds => some (⟨ds, []⟩, p.2)
  | .fls ds => some (⟨ds, []⟩, p.2)
  | _ => none
def rangeL (a b : Int) : List D := (List.range (b - a).toNat).map fun k => .int (a + (k : Nat))
def iRange1 (r : AM) : IM := fun env hd => (r env hd).bind fun p => match p.1 with
  | [.int j] => if -1000000 ≤ j ∧ j ≤ 1000000 then some (⟨rangeL 0 j, []⟩, p.2) else none
  | _ => none
def iRange2 (r : AM) : IM := fun env hd => (r env hd).bind fun p => match p.1 with
  | [.int i, .int j] => if -1000000 ≤ i ∧ i ≤ 1000000 ∧ -1000000 ≤ j ∧ j ≤ 1000000 then some (⟨rangeL i j, []⟩, p.2) else none
  | _ => none
def zipL : List D → List D → List D
  | x :: xs, y :: ys => .tup [x, y] :: zipL xs ys
  | _, _ => []
def iZipM (r : AM) : IM := fun env hd => (r env hd).bind fun p => match p.1 with
  | [.ref n, .ref m] => (lsOf p.2 n).bind fun xs => (lsOf p.2 m).map fun ys => (⟨zipL xs ys, [(n, xs), (m, ys)]⟩, p.2)
  | [.tup xs, .tup ys] => some (⟨zipL xs ys, []⟩, p.2)
  | _ => none
def enumL : Nat → List D → List D
  | _, [] => []
  | k, x :: xs => .tup [.int (k : Nat), x] :: enumL (k + 1) xs
def iEnumM (r : AM) : IM := fun env hd => (r env hd).bind fun p => match p.1 with
  | [.ref n] => (lsOf p.2 n).map fun xs => (⟨enumL 0 xs, [(n, xs)]⟩, p.2)
  | _ => none
theorem zipL_get : ∀ (xs ys : List D) (i : Nat), (zipL xs ys)[i]? = (match xs[i]?, ys[i]? with | some x, some y => some (.tup [x, y]) | _, _ => none)
  | [], ys, i => by simp [zipL]
  | x :: xs, [], i => by simp only [zipL]; cases (x :: xs)[i]? <;> simp
  | x :: xs, y :: ys, 0 => by simp [zipL]
  | x :: xs, y :: ys, i + 1 => by simp only [zipL, List.getElem?_cons_succ]; exact zipL_get xs ys i
theorem zipL_len : ∀ (xs ys : List D), (zipL xs ys).length = min xs.length ys.length
  | [], ys => by simp [zipL]
  | x :: xs, [] => by simp [zipL]
  | x :: xs, y :: ys => by simp only [zipL, List.length_cons, zipL_len xs ys]; omega
theorem enumL_get : ∀ (xs : List D) (k i : Nat), (enumL k xs)[i]? = (xs[i]?).map fun x => .tup [.int ((k + i : Nat) : Int), x]
  | [], k, i => by simp [enumL]
  | x :: xs, k, 0 => by simp [enumL]
  | x :: xs, k, i + 1 => by
    simp only [enumL, List.getElem?_cons_succ]
    rw [enumL_get xs (k + 1) i]
    have : k + 1 + i = k + (i + 1) := by omega
    rw [this]
theorem enumL_len : ∀ (xs : List D) (k : Nat), (enumL k xs).length = xs.length
  | [], k => rfl
  | x :: xs, k => by simp only [enumL, List.length_cons, enumL_len xs]
theorem rangeL_get {a b : Int} {i : Nat} (h : i < (b - a).toNat) : (rangeL a b)[i]? = some (.int (a + (i : Nat))) := by
  unfold rangeL
  rw [List.getElem?_map, List.getElem?_range h]; rfl
theorem rangeL_len (a b : Int) : (rangeL a b).length = (b - a).toNat := by unfold rangeL; rw [List.length_map, List.length_range]

section
variable {K : PySem.W.Frag} {ρ0 : List Addr} {H0 : Hp}
theorem isIt_list {a : Addr} {n : Nat} {ds : List D} (ea : ρ0[n]? = some a) : IsIt K ρ0 H0 (Itl K a) ⟨ds, [(n, ds)]⟩ where
  go ρ H hd i p x r k hi := by
    obtain ⟨vs, s, l⟩ := lsOf_sq r (k (n, ds) (by simp)) (pre_get p ea)
    have := l.length
    have hi' : i < vs.length := by rw [← this]; exact hi
    exact ⟨vs, vs[i], s, List.getElem?_eq_getElem hi'⟩
  stop ρ H hd p x r k := by
    obtain ⟨vs, s, l⟩ := lsOf_sq r (k (n, ds) (by simp)) (pre_get p ea)
    exact ⟨vs, s, Nat.le_of_eq l.length.symm⟩
  yld ρ H hd i x H' p xx r k hi y := by
    obtain ⟨rfl, y⟩ := y
    obtain ⟨vs, s, l⟩ := lsOf_sq r (k (n, ds) (by simp)) (pre_get p ea)
    have hi' : i < ds.length := hi
    obtain ⟨v, hv, q⟩ := l.get (List.getElem?_eq_getElem hi')
    have e := (y vs s).symm.trans hv
    cases e
    exact ⟨_, List.getElem?_eq_getElem hi', .refl r, q⟩
theorem isIt_tup {a : Addr} {ds : List D} {vs : List V} (s : SqT K H0 a vs) (l : RepL K ρ0 H0 ds vs) : IsIt K ρ0 H0 (Itt K a) ⟨ds, []⟩ where
  go ρ H hd i p x r k hi := by
    have hi' : i < vs.length := by rw [← l.length]; exact hi
    exact ⟨vs, vs[i], x.1 _ _ s, List.getElem?_eq_getElem hi'⟩
  stop ρ H hd p x r k := ⟨vs, x.1 _ _ s, Nat.le_of_eq l.length.symm⟩
  yld ρ H hd i z H' p x r k hi y := by
    obtain ⟨rfl, y⟩ := y
    have hi' : i < ds.length := hi
    obtain ⟨v, hv, q⟩ := l.get (List.getElem?_eq_getElem hi')
    have e := (y vs (x.1 _ _ s)).symm.trans hv
    cases e
    exact ⟨_, List.getElem?_eq_getElem hi', .refl r, q.mono p x⟩
theorem isIt_fls {a : Addr} {ds : List D} {vs : List V} (s : SqF K H0 a vs) (l : RepL K ρ0 H0 ds vs) : IsIt K ρ0 H0 (Itl K a) ⟨ds, []⟩ where
  go ρ H hd i p x r k hi := by
    have hi' : i < vs.length := by rw [← l.length]; exact hi
    exact ⟨vs, vs[i], (x.2.1 _ _ s).sq, List.getElem?_eq_getElem hi'⟩
  stop ρ H hd p x r k := ⟨vs, (x.2.1 _ _ s).sq, Nat.le_of_eq l.length.symm⟩
  yld ρ H hd i z H' p x r k hi y := by
    obtain ⟨rfl, y⟩ := y
    have hi' : i < ds.length := hi
    obtain ⟨v, hv, q⟩ := l.get (List.getElem?_eq_getElem hi')
    have e := (y vs (x.2.1 _ _ s).sq).symm.trans hv
    cases e
    exact ⟨_, List.getElem?_eq_getElem hi', .refl r, q.mono p x⟩
theorem isIt_range {lo hi : Int} {n : Nat} (hn : n = (hi - lo).toNat) : IsIt K ρ0 H0 (Itr lo n) ⟨rangeL lo hi, []⟩ where
  go ρ H hd i p x r k hi := by rw [rangeL_len] at hi; rw [hn]; exact hi
  stop ρ H hd p x r k := by show n ≤ _; rw [rangeL_len, hn]; exact Nat.le_refl _
  yld ρ H hd i z H' p x r k hi y := by
    obtain ⟨rfl, rfl⟩ := y
    rw [rangeL_len] at hi
    exact ⟨_, rangeL_get hi, .refl r, rep_int.mpr rfl⟩
theorem pair_new {ρ H hd T} {d e : D} {x y : V} (r : Rel K ρ H hd) (nT : H T = none) (q1 : Rep K ρ H d x) (q2 : Rep K ρ H e y) : Rep K ρ (upd H T (.tup [x, y])) (.tup [d, e]) (.ref T) := by
  rw [rep_tup]
  refine ⟨T, [x, y], rfl, .of upd_same, ?_⟩
  simp only [RepL]
  exact ⟨x, [y], rfl, q1.mono (List.prefix_refl _) (.new nT), y, [], rfl, q2.mono (List.prefix_refl _) (.new nT), rfl⟩
theorem isIt_enum {a : Addr} {n : Nat} {ds : List D} (ea : ρ0[n]? = some a) : IsIt K ρ0 H0 (Ite K a) ⟨enumL 0 ds, [(n, ds)]⟩ where
  go ρ H hd i p x r k hi := by
    obtain ⟨vs, s, l⟩ := lsOf_sq r (k (n, ds) (by simp)) (pre_get p ea)
    rw [enumL_len] at hi
    have hi' : i < vs.length := by rw [← l.length]; exact hi
    exact ⟨vs, vs[i], s, List.getElem?_eq_getElem hi'⟩
  stop ρ H hd p x r k := by
    obtain ⟨vs, s, l⟩ := lsOf_sq r (k (n, ds) (by simp)) (pre_get p ea)
    rw [enumL_len]
    exact ⟨vs, s, Nat.le_of_eq l.length.symm⟩
  yld ρ H hd i z H' p x r k hi y := by
    obtain ⟨T, w, rfl, nT, rfl, y⟩ := y
    obtain ⟨vs, s, l⟩ := lsOf_sq r (k (n, ds) (by simp)) (pre_get p ea)
    rw [enumL_len] at hi
    have hi' : i < ds.length := hi
    obtain ⟨v, hv, q⟩ := l.get (List.getElem?_eq_getElem hi')
    have e := (y vs s).symm.trans hv
    cases e
    refine ⟨.tup [.int ((0 + i : Nat) : Int), ds[i]], ?_, .newT r nT, ?_⟩
    · rw [enumL_get, List.getElem?_eq_getElem hi']; rfl
    · rw [Nat.zero_add]; exact pair_new r nT (rep_int.mpr rfl) q
theorem isIt_zipL {a b : Addr} {n m : Nat} {xs ys : List D} (ea : ρ0[n]? = some a) (eb : ρ0[m]? = some b) : IsIt K ρ0 H0 (Itz K a b) ⟨zipL xs ys, [(n, xs), (m, ys)]⟩ where
  go ρ H hd i p x r k hi := by
    obtain ⟨vs, s, l⟩ := lsOf_sq r (k (n, xs) (by simp)) (pre_get p ea)
    obtain ⟨ws, s2, l2⟩ := lsOf_sq r (k (m, ys) (by simp)) (pre_get p eb)
    rw [zipL_len] at hi
    have h1 : i < vs.length := by rw [← l.length]; show i < xs.length; omega
    have h2 : i < ws.length := by rw [← l2.length]; show i < ys.length; omega
    exact ⟨vs, ws, vs[i], ws[i], s, s2, List.getElem?_eq_getElem h1, List.getElem?_eq_getElem h2⟩
  stop ρ H hd p x r k := by
    obtain ⟨vs, s, l⟩ := lsOf_sq r (k (n, xs) (by simp)) (pre_get p ea)
    obtain ⟨ws, s2, l2⟩ := lsOf_sq r (k (m, ys) (by simp)) (pre_get p eb)
    have e1 := l.length
    have e2 := l2.length
    rw [zipL_len]
    refine ⟨vs, ws, s, s2, ?_⟩
    dsimp only at e1 e2
    omega
  yld ρ H hd i z H' p x r k hi y := by
    obtain ⟨T, u, w, rfl, nT, rfl, y1, y2⟩ := y
    obtain ⟨vs, s, l⟩ := lsOf_sq r (k (n, xs) (by simp)) (pre_get p ea)
    obtain ⟨ws, s2, l2⟩ := lsOf_sq r (k (m, ys) (by simp)) (pre_get p eb)
    rw [zipL_len] at hi
    have h1 : i < xs.length := by omega
    have h2 : i < ys.length := by omega
    obtain ⟨v, hv, q⟩ := l.get (List.getElem?_eq_getElem h1)
    obtain ⟨v2, hv2, q2⟩ := l2.get (List.getElem?_eq_getElem h2)
    have e := (y1 vs s).symm.trans hv
    cases e
    have e := (y2 ws s2).symm.trans hv2
    cases e
    refine ⟨.tup [xs[i], ys[i]], ?_, .newT r nT, pair_new r nT q q2⟩
    rw [zipL_get, List.getElem?_eq_getElem h1, List.getElem?_eq_getElem h2]
theorem isIt_zipT {a b : Addr} {xs ys : List D} {vs ws : List V} (s : SqT K H0 a vs) (l : RepL K ρ0 H0 xs vs) (s2 : SqT K H0 b ws) (l2 : RepL K ρ0 H0 ys ws) : IsIt K ρ0 H0 (ItzT K a b) ⟨zipL xs ys, []⟩ where
  go ρ H hd i p x r k hi := by
    rw [zipL_len] at hi
    have h1 : i < vs.length := by rw [← l.length]; omega
    have h2 : i < ws.length := by rw [← l2.length]; omega
    exact ⟨vs, ws, vs[i], ws[i], x.1 _ _ s, x.1 _ _ s2, List.getElem?_eq_getElem h1, List.getElem?_eq_getElem h2⟩
  stop ρ H hd p x r k := by
    have e1 := l.length
    have e2 := l2.length
    rw [zipL_len]
    refine ⟨vs, ws, x.1 _ _ s, x.1 _ _ s2, ?_⟩
    omega
  yld ρ H hd i z H' p x r k hi y := by
    obtain ⟨T, u, w, rfl, nT, rfl, y1, y2⟩ := y
    rw [zipL_len] at hi
    have h1 : i < xs.length := by omega
    have h2 : i < ys.length := by omega
    obtain ⟨v, hv, q⟩ := l.get (List.getElem?_eq_getElem h1)
    obtain ⟨v2, hv2, q2⟩ := l2.get (List.getElem?_eq_getElem h2)
    have e := (y1 vs (x.1 _ _ s)).symm.trans hv
    cases e
    have e := (y2 ws (x.1 _ _ s2)).symm.trans hv2
    cases e
    refine ⟨.tup [xs[i], ys[i]], ?_, .newT r nT, pair_new r nT (q.mono p x) (q2.mono p x)⟩
    rw [zipL_get, List.getElem?_eq_getElem h1, List.getElem?_eq_getElem h2]
end
section
variable {X : Cx} {tg a e e2 : Expr} {fa : EM} {fr : AM}
theorem pim_seq (ha : PE X a (tM X.K fa)) : PI X tg a (iM X.K (iSeq fa)) := PI.to (PI.or (pi_list ha) (pi_tup ha)) fun σ H R ⟨ρ, env, hd, it, hd', A, e, q⟩ => by
  obtain ⟨⟨x, h1⟩, e1, e⟩ := Option.bind_eq_some_iff.mp e
  dsimp only at e
  split at e
  · rename_i n
    obtain ⟨ds, hl, e⟩ := Option.map_eq_some_iff.mp e
    cases e
    refine .inl ⟨ρ, env, hd, _, hd', A, e1, fun v ρ1 H1 P1 r1 => ?_⟩
    rw [rep_ref] at r1
    obtain ⟨p, rfl, ep⟩ := r1
    obtain ⟨vs, s, l⟩ := lsOf_sq P1.rel hl ep
    exact ⟨p, rfl, ⟨vs, s⟩, q ρ1 H1 _ P1 (isIt_list ep)⟩
  · cases e
    refine .inr ⟨ρ, env, hd, _, hd', A, e1, fun v ρ1 H1 P1 r1 => ?_⟩
    rw [rep_tup] at r1
    obtain ⟨p, vs, rfl, s, l⟩ := r1
    exact ⟨p, rfl, ⟨vs, s⟩, q ρ1 H1 _ P1 (isIt_tup s l)⟩
  · cases e
    refine .inl ⟨ρ, env, hd, _, hd', A, e1, fun v ρ1 H1 P1 r1 => ?_⟩
    rw [rep_fls] at r1
    obtain ⟨p, vs, rfl, s, l⟩ := r1
    exact ⟨p, rfl, ⟨vs, s.sq⟩, q ρ1 H1 _ P1 (isIt_fls s l)⟩
  · cases e
theorem pim_range1 {p pos : Pos} (hg : Gl X "range") (hm : X.mg "range" = none) (ha : PA X [a] (tA X.K fr)) (hs : starEach [a] X.env = [(false, eval a X.env)] := by rfl) : PI X tg (.Call (.Name "range" p) [a] [] pos) (iM X.K (iRange1 fr)) := PI.to (pi_range1 hg hm ha hs) fun σ H R ⟨ρ, env, hd, it, hd', A, e, q⟩ => by
  obtain ⟨⟨x, h1⟩, e1, e⟩ := Option.bind_eq_some_iff.mp e
  dsimp only at e
  split at e
  · rename_i j
    split at e
    · rename_i hj
      cases e
      refine ⟨ρ, env, hd, _, hd', A, e1, fun v ρ1 H1 P1 r1 => ?_⟩
      obtain ⟨v, rfl, rv⟩ := repL1 r1
      rw [rep_int] at rv; subst rv
      exact ⟨j, rfl, by omega, by omega, q ρ1 H1 _ P1 (isIt_range (by simp))⟩
    · cases e
  · cases e
theorem pim_range2 {b : Expr} {p pos : Pos} (hg : Gl X "range") (hm : X.mg "range" = none) (ha : PA X [a, b] (tA X.K fr)) (hs : starEach [a, b] X.env = [(false, eval a X.env), (false, eval b X.env)] := by rfl) (hs2 : starEach [b] X.env = [(false, eval b X.env)] := by rfl) : PI X tg (.Call (.Name "range" p) [a, b] [] pos) (iM X.K (iRange2 fr)) := PI.to (pi_range2 hg hm ha hs hs2) fun σ H R ⟨ρ, env, hd, it, hd', A, e, q⟩ => by
  obtain ⟨⟨x, h1⟩, e1, e⟩ := Option.bind_eq_some_iff.mp e
  dsimp only at e
  split at e
  · rename_i i j
    split at e
    · rename_i hj
      cases e
      refine ⟨ρ, env, hd, _, hd', A, e1, fun v ρ1 H1 P1 r1 => ?_⟩
      obtain ⟨v, w, rfl, rv, rw_⟩ := repL2 r1
      rw [rep_int] at rv rw_; subst rv rw_
      exact ⟨i, j, rfl, ⟨by omega, by omega, by omega, by omega⟩, q ρ1 H1 _ P1 (isIt_range rfl)⟩
    · cases e
  · cases e
theorem pim_enum {elts : List Expr} {kk : Nat} {p pos tpos : Pos} (hg : Gl X "enumerate") (hm : X.mg "enumerate" = none) (ha : PA X [a] (tA X.K fr)) (hs : starEach [a] X.env = [(false, eval a X.env)] := by rfl) : PI X (.Tuple elts kk tpos) (.Call (.Name "enumerate" p) [a] [] pos) (iM X.K (iEnumM fr)) := PI.to (pi_enum hg hm ha hs) fun σ H R ⟨ρ, env, hd, it, hd', A, e, q⟩ => by
  obtain ⟨⟨x, h1⟩, e1, e⟩ := Option.bind_eq_some_iff.mp e
  dsimp only at e
  split at e
  · rename_i n
    obtain ⟨ds, hl, e⟩ := Option.map_eq_some_iff.mp e
    cases e
    refine ⟨ρ, env, hd, _, hd', A, e1, fun v ρ1 H1 P1 r1 => ?_⟩
    obtain ⟨v, rfl, rv⟩ := repL1 r1
    rw [rep_ref] at rv
    obtain ⟨p, rfl, ep⟩ := rv
    obtain ⟨vs, s, l⟩ := lsOf_sq P1.rel hl ep
    exact ⟨p, vs, rfl, s, q ρ1 H1 _ P1 (isIt_enum ep)⟩
  · cases e
theorem pim_zip {elts : List Expr} {kk : Nat} {p pos tpos : Pos} (hg : Gl X "zip") (hm : X.mg "zip" = none) (ha : PA X [e, e2] (tA X.K fr))
    (hs : starEach [e, e2] X.env = (false, eval e X.env) :: starEach [e2] X.env := by rfl) (hpl : (backTo pos (starEach [e2] X.env)).any (·.1) = false := by rfl) : PI X (.Tuple elts kk tpos) (.Call (.Name "zip" p) [e, e2] [] pos) (iM X.K (iZipM fr)) := PI.to (pi_zipA hg hm ha hs hpl) fun σ H R ⟨ρ, env, hd, it, hd', A, e, q⟩ => by
  obtain ⟨⟨x, h1⟩, e1, e⟩ := Option.bind_eq_some_iff.mp e
  dsimp only at e
  split at e
  · rename_i n m
    obtain ⟨xs, hl, e⟩ := Option.bind_eq_some_iff.mp e
    obtain ⟨ys, hl2, e⟩ := Option.map_eq_some_iff.mp e
    cases e
    refine ⟨ρ, env, hd, _, hd', A, e1, fun v ρ1 H1 P1 r1 => ?_⟩
    obtain ⟨v, w, rfl, rv, rw_⟩ := repL2 r1
    rw [rep_ref] at rv rw_
    obtain ⟨p, rfl, ep⟩ := rv
    obtain ⟨p2, rfl, ep2⟩ := rw_
    obtain ⟨vs, s, l⟩ := lsOf_sq P1.rel hl ep
    obtain ⟨ws, s2, l2⟩ := lsOf_sq P1.rel hl2 ep2
    exact ⟨p, p2, vs, ws, rfl, .inl ⟨s, s2, q ρ1 H1 _ P1 (isIt_zipL ep ep2)⟩⟩
  · cases e
    refine ⟨ρ, env, hd, _, hd', A, e1, fun v ρ1 H1 P1 r1 => ?_⟩
    obtain ⟨v, w, rfl, rv, rw_⟩ := repL2 r1
    rw [rep_tup] at rv rw_
    obtain ⟨p, vs, rfl, s, l⟩ := rv
    obtain ⟨p2, ws, rfl, s2, l2⟩ := rw_
    exact ⟨p, p2, vs, ws, rfl, .inr ⟨s, s2, q ρ1 H1 _ P1 (isIt_zipT s l s2 l2)⟩⟩
  · cases e
end
end Dl

namespace Dl
open PySem PySem.Spec PyProof.Rows L2
open Classical in
noncomputable def forL (kp : List (Nat × List D)) (g : GT) (body : SM) : List D → SM
  | [], env, hd => if keepOk kp hd then some (.nx, env, hd) else none
  | d :: ds, env, hd => if keepOk kp hd then (g d env hd).bind fun p => (body p.1 p.2).bind fun q => match q.1 with
      | .nx => forL kp g body ds q.2.1 q.2.2
      | .ct => forL kp g body ds q.2.1 q.2.2
      | .bk => some (.nx, q.2.1, q.2.2)
      | .rt v => some (.rt v, q.2.1, q.2.2)
    else none
noncomputable def mFor (i : IM) (g : GT) (body : SM) : SM := fun env hd => (i env hd).bind fun p => forL p.1.keep g body p.1.items env p.2
def whileL (c : BM) (body : SM) : Nat → SM
  | 0, _, _ => none
  | n + 1, env, hd => (c env hd).bind fun p => if p.1 = true then (body env p.2).bind fun q => match q.1 with
      | .nx => whileL c body n q.2.1 q.2.2
      | .ct => whileL c body n q.2.1 q.2.2
      | .bk => some (.nx, q.2.1, q.2.2)
      | .rt v => some (.rt v, q.2.1, q.2.2)
    else some (.nx, env, p.2)
def mWhile (fuel : Ev → Hd → Nat) (c : BM) (body : SM) : SM := fun env hd => whileL c body (fuel env hd) env hd
open Classical in
noncomputable def compL (kp : List (Nat × List D)) (g : GT) (tt : BM) (te : EM) (env : Ev) : List D → Hd → Option (List D × Hd)
  | [], hd => if keepOk kp hd then some ([], hd) else none
  | d :: ds, hd => if keepOk kp hd then (g d env hd).bind fun p => (tt p.1 p.2).bind fun b => if b.1 = true then (te p.1 b.2).bind fun q => (compL kp g tt te env ds q.2).bind fun r => some (q.1 :: r.1, r.2) else compL kp g tt te env ds b.2
    else none
def wipeE (env : Ev) : List Nat → Ev
  | [] => env
  | v :: vs => (wipeE env vs).set v none
noncomputable def mComp (i : IM) (g : GT) (tt : BM) (te : EM) (vs : List Nat) : EM := fun env hd => (i env hd).bind fun p => (compL p.1.keep g tt te (wipeE env vs) p.1.items p.2).bind fun r => if r.1.length ≤ 1000000 then some (.ref r.2.length, r.2 ++ [.lst r.1]) else none
def bYes : BM := fun _ hd => some (true, hd)

theorem wipeE_length (env : Ev) : ∀ vs, (wipeE env vs).length = env.length
  | [] => rfl
  | v :: vs => by unfold wipeE; rw [List.length_set, wipeE_length env vs]
theorem wipeE_some {env : Ev} {i : Nat} {d : D} : ∀ {vs : List Nat}, (wipeE env vs)[i]? = some (some d) → env[i]? = some (some d) ∧ i ∉ vs
  | [], h => ⟨h, by simp⟩
  | v :: vs, h => by
    unfold wipeE at h
    by_cases hv : v = i
    · subst hv
      by_cases hl : v < (wipeE env vs).length
      · rw [List.getElem?_set_self hl] at h; cases h
      · rw [List.getElem?_eq_none (by simpa using hl)] at h; cases h
    · rw [List.getElem?_set_ne hv] at h
      obtain ⟨h1, h2⟩ := wipeE_some h
      exact ⟨h1, by simp only [List.mem_cons, not_or]; exact ⟨fun e => hv e.symm, h2⟩⟩
theorem wipe_keep {σ : L2.St} {i : Nat} : ∀ {vs : List Nat}, i ∉ vs → (wipe σ vs)[i]? = σ[i]?
  | [], _ => rfl
  | v :: vs, h => by
    simp only [List.mem_cons, not_or] at h
    unfold wipe
    rw [List.getElem?_set_ne (fun e => h.1 e.symm)]
    exact wipe_keep h.2
theorem SRel.wipe {K : PySem.W.Frag} {ρ : List Addr} {H : Hp} {env : Ev} {σ : L2.St} (h : SRel K ρ H env σ) (vs : List Nat) : SRel K ρ H (wipeE env vs) (L2.wipe σ vs) := by
  refine ⟨by rw [wipe_length, wipeE_length, h.1], fun i d e => ?_⟩
  obtain ⟨e1, e2⟩ := wipeE_some e
  obtain ⟨v, hv, r⟩ := h.2 i d e1
  exact ⟨v, by rw [wipe_keep e2]; exact hv, r⟩

section
variable {X : Cx} {pos : Pos} {c e : Expr} {ba : BM} {g : GT} {sl : List Nat} {fi : IM} {fb : SM} {fa : EM}
theorem psm_for {tg iter : Expr} {body : List Stmt} (hp : PassesOwn (model X.prog X.w) X.A X.env X.xe) (hc : X.calm = true) (hi : PI X tg iter (iM X.K fi)) (hg : PG X tg (gM X.K sl g)) (hb : PSs X body (tS X.K fb))
    (hs : ∀ x, foldedSetIterable iter X.env x = pure x := by intro _; rfl) : PS X (.For tg iter body [] pos) (tS X.K (mFor fi g fb)) := PS.to (ps_for hp hc hi hg hb hs) fun D σ H ⟨ρ, env, hd, fl, env', hd', A, e, q⟩ => by
  obtain ⟨⟨it, h1⟩, e1, e⟩ := Option.bind_eq_some_iff.mp e
  refine ⟨ρ, env, hd, it, h1, A, e1, fun ρ1 H1 J P1 isit => ?_⟩
  refine ⟨fun i m σ2 H2 => ∃ ρ2 env2 hd2, At X.K ρ2 σ2 H2 env2 hd2 ∧ Post X.K ρ1 ρ2 H1 H2 hd2 ∧ i ≤ it.items.length ∧ m = it.items.length - i ∧ forL it.keep g fb (it.items.drop i) env2 hd2 = some (fl, env', hd'), ⟨it.items.length, ρ1, env, h1, A.post P1, .refl P1.rel, Nat.zero_le _, by simp, e⟩, ?_⟩
  rintro i m σ2 H2 ⟨ρ2, env2, hd2, A2, P2, hi, rfl, e2⟩
  by_cases hlt : i < it.items.length
  · right
    rw [List.drop_eq_getElem_cons hlt] at e2
    unfold forL at e2
    split at e2
    · rename_i hk
      refine ⟨isit.go ρ2 H2 hd2 i P2.pre P2.ext A2.rel hk hlt, _, fun σ' H' n => ⟨it.items.length - (i + 1), by omega, n⟩, fun x H' y => ?_⟩
      obtain ⟨d, hd_, P3, r3⟩ := isit.yld ρ2 H2 hd2 i x H' P2.pre P2.ext A2.rel hk hlt y
      rw [List.getElem?_eq_getElem hlt] at hd_
      cases hd_
      obtain ⟨⟨env3, hd3⟩, e3, e2⟩ := Option.bind_eq_some_iff.mp e2
      obtain ⟨⟨fl4, env4, hd4⟩, e4, e2⟩ := Option.bind_eq_some_iff.mp e2
      refine ⟨ρ2, env2, hd2, _, env3, hd3, A2.post P3, r3, e3, fun ρ4 σ4 H4 P4 S4 _ => ?_⟩
      refine ⟨ρ4, env3, hd3, fl4, env4, hd4, ⟨P4.rel, S4⟩, e4, fun ρ5 σ5 H5 P5 S5 => ?_⟩
      have P := P2.trans (P3.trans (P4.trans P5))
      cases fl4 with
      | nx => exact ⟨ρ5, env4, hd4, ⟨P5.rel, S5⟩, P, hlt, rfl, e2⟩
      | ct => exact ⟨ρ5, env4, hd4, ⟨P5.rel, S5⟩, P, hlt, rfl, e2⟩
      | bk =>
        cases e2
        exact q ρ5 σ5 H5 (P1.trans P) S5
      | rt v =>
        cases e2
        exact q ρ5 σ5 H5 (P1.trans P) S5
    · cases e2
  · left
    have hi' : i = it.items.length := by omega
    subst hi'
    rw [List.drop_length] at e2
    unfold forL at e2
    split at e2
    · rename_i hk
      cases e2
      exact ⟨isit.stop ρ2 H2 _ P2.pre P2.ext A2.rel hk, q ρ2 σ2 H2 (P1.trans P2) A2.sl⟩
    · cases e2
theorem psm_while {body : List Stmt} (fuel : Ev → Hd → Nat) (hp : PassesOwn (model X.prog X.w) X.A X.env X.xe) (hc : PT X c (tT X.K ba)) (hb : PSs X body (tS X.K fb)) : PS X (.While c body [] pos) (tS X.K (mWhile fuel ba fb)) := PS.to (ps_while hp hc hb) fun D σ H ⟨ρ, env, hd, fl, env', hd', A, e, q⟩ => by
  refine ⟨fun m σ2 H2 => ∃ ρ2 env2 hd2, At X.K ρ2 σ2 H2 env2 hd2 ∧ Post X.K ρ ρ2 H H2 hd2 ∧ whileL ba fb m env2 hd2 = some (fl, env', hd'), ⟨fuel env hd, ρ, env, hd, A, .refl A.rel, e⟩, ?_⟩
  rintro m σ2 H2 ⟨ρ2, env2, hd2, A2, P2, e2⟩
  cases m with
  | zero => cases e2
  | succ n =>
    unfold whileL at e2
    obtain ⟨⟨b, h3⟩, e3, e2⟩ := Option.bind_eq_some_iff.mp e2
    refine ⟨ρ2, env2, hd2, b, h3, A2, e3, fun ρ3 H3 P3 => ?_⟩
    dsimp only at e2
    split at e2
    · rename_i hb'
      rw [if_pos hb']
      obtain ⟨⟨fl4, env4, hd4⟩, e4, e2⟩ := Option.bind_eq_some_iff.mp e2
      refine ⟨_, fun σ' H' n' => ⟨n, Nat.lt_succ_self n, n'⟩, ρ3, env2, h3, fl4, env4, hd4, A2.post P3, e4, fun ρ5 σ5 H5 P5 S5 => ?_⟩
      have P := P2.trans (P3.trans P5)
      cases fl4 with
      | nx => exact ⟨ρ5, env4, hd4, ⟨P5.rel, S5⟩, P, e2⟩
      | ct => exact ⟨ρ5, env4, hd4, ⟨P5.rel, S5⟩, P, e2⟩
      | bk =>
        cases e2
        exact q ρ5 σ5 H5 P S5
      | rt v =>
        cases e2
        exact q ρ5 σ5 H5 P S5
    · rename_i hb'
      rw [if_neg hb']
      cases e2
      exact q ρ3 σ2 H3 (P2.trans P3) (A2.sl.mono P3.pre P3.ext)
theorem comp_mono {vs : List Nat} {K : PySem.W.Frag} {bt : BM} {fe : EM} {σ : L2.St} {H : Hp} {Q : VK} (hv : ∀ i ∈ sl, i ∈ vs)
    (h : tM K (mComp fi g bt fe vs) σ H Q) : tLc (iM K fi) (gM K sl g) (tT K bt) (tM K fe) vs σ H Q := by
  obtain ⟨ρ, env, hd, d, hd', A, e, q⟩ := h
  obtain ⟨⟨it, h1⟩, e1, e⟩ := Option.bind_eq_some_iff.mp e
  obtain ⟨⟨ys, h2⟩, e2, e⟩ := Option.bind_eq_some_iff.mp e
  dsimp only at e
  split at e
  · rename_i hl
    cases e
    refine ⟨ρ, env, hd, it, h1, A, e1, fun ρ1 H1 J P1 isit L nL => ?_⟩
    refine ⟨fun i m H2 => ∃ ρ2 hd2 acc done rest, SRel K ρ2 H2 (wipeE env vs) (wipe σ vs) ∧ Post K ρ1 ρ2 H1 H2 hd2 ∧ H2 L = some (.lst acc) ∧ L ∉ ρ2 ∧ RepL K ρ2 H2 done acc ∧ i ≤ it.items.length ∧ m = it.items.length - i ∧
      compL it.keep g bt fe (wipeE env vs) (it.items.drop i) hd2 = some (rest, h2) ∧ ys = done ++ rest, ⟨it.items.length, ?_⟩, ?_⟩
    · have A1 := A.post P1
      have P0 : Post K ρ1 ρ1 H1 (upd H1 L (.lst [])) h1 := .newT P1.rel nL
      exact ⟨ρ1, h1, [], [], ys, (A1.sl.mono P0.pre P0.ext).wipe vs, P0, upd_same, P1.rel.fresh nL, .nil, Nat.zero_le _, by simp, e2, rfl⟩
    rintro i m H2 ⟨ρ2, hd2, acc, done, rest, S2, P2, eL, nL2, lacc, hi, rfl, e2, ey⟩
    by_cases hlt : i < it.items.length
    · right
      rw [List.drop_eq_getElem_cons hlt] at e2
      unfold compL at e2
      split at e2
      · rename_i hk
        refine ⟨isit.go ρ2 H2 hd2 i P2.pre P2.ext P2.rel hk hlt, _, fun H' n => ⟨it.items.length - (i + 1), by omega, n⟩, fun x H' y => ?_⟩
        obtain ⟨d, hd_, P3, r3⟩ := isit.yld ρ2 H2 hd2 i x H' P2.pre P2.ext P2.rel hk hlt y
        rw [List.getElem?_eq_getElem hlt] at hd_
        cases hd_
        obtain ⟨⟨env3, hd3⟩, e3, e2⟩ := Option.bind_eq_some_iff.mp e2
        obtain ⟨⟨b4, hd4⟩, e4, e2⟩ := Option.bind_eq_some_iff.mp e2
        obtain ⟨eL3, nL3⟩ := P3.fr L _ eL (fun _ z => nomatch z) nL2
        refine ⟨ρ2, wipeE env vs, hd2, _, env3, hd3, ⟨P3.rel, S2.mono P3.pre P3.ext⟩, r3, e3, fun ρ4 σ4 H4 P4 S4 w4 => ⟨?_, ?_⟩⟩
        · rw [w4 vs hv, wipe_wipe vs vs σ fun _ h => h]
        obtain ⟨eL4, nL4⟩ := P4.fr L _ eL3 (fun _ z => nomatch z) nL3
        refine ⟨ρ4, env3, hd3, b4, hd4, ⟨P4.rel, S4⟩, e4, fun ρ5 H5 P5 => ?_⟩
        obtain ⟨eL5, nL5⟩ := P5.fr L _ eL4 (fun _ z => nomatch z) nL4
        have P25 := P3.trans (P4.trans P5)
        split at e2
        · rename_i hb
          rw [if_pos hb]
          obtain ⟨⟨y6, hd6⟩, e6, e2⟩ := Option.bind_eq_some_iff.mp e2
          obtain ⟨⟨rest', hd7⟩, e7, e2⟩ := Option.bind_eq_some_iff.mp e2
          cases e2
          refine ⟨ρ5, env3, hd4, y6, hd6, ⟨P5.rel, S4.mono P5.pre P5.ext⟩, e6, fun v ρ6 H6 P6 r6 => ?_⟩
          obtain ⟨eL6, nL6⟩ := P6.fr L _ eL5 (fun _ z => nomatch z) nL5
          have P26 := P25.trans P6
          have la := lacc.mono P26.pre P26.ext
          have hlen : acc.length < sizeLine := by
            rw [← la.length]
            have h1 : done.length + (y6 :: rest').length = ys.length := by rw [ey, List.length_append]
            rw [List.length_cons] at h1
            have := line1M
            omega
          refine ⟨acc, eL6, hlen, ρ6, hd6, acc ++ [v], done ++ [y6], rest', ?_, ?_, upd_same, nL6, ?_, hlt, rfl, e7, by rw [ey, List.append_assoc]; rfl⟩
          · exact S2.mono P26.pre (P26.ext.trans (.put eL6))
          · have P := P2.trans P26
            exact ⟨P.pre, P.ext.trans (.put eL6), P.rel.aside eL6 nL6, fun a o h t m => ⟨by rw [upd_ne (ne_of_none h nL)]; exact (P.fr a o h t m).1, (P.fr a o h t m).2⟩⟩
          · exact (la.append (RepL.one r6)).mono (List.prefix_refl _) (.put eL6)
        · rename_i hb
          rw [if_neg hb]
          exact ⟨ρ5, hd4, acc, done, rest, S2.mono P25.pre P25.ext, P2.trans P25, eL5, nL5, lacc.mono P25.pre P25.ext, hlt, rfl, e2, ey⟩
      · cases e2
    · left
      have hi' : i = it.items.length := by omega
      subst hi'
      rw [List.drop_length] at e2
      unfold compL at e2
      split at e2
      · rename_i hk
        cases e2
        refine ⟨isit.stop ρ2 H2 _ P2.pre P2.ext P2.rel hk, ?_⟩
        rw [List.append_nil] at ey
        subst ey
        have P := P1.trans P2
        have ob : ObR K ρ2 H2 L (.lst ys) := ⟨acc, eL, lacc⟩
        refine q _ (ρ2 ++ [L]) H2 ⟨P.pre.trans (List.prefix_append _ _), P.ext, P.rel.adopt nL2 ob, fun a o h t m => ?_⟩ (rep_new P2.rel)
        obtain ⟨h1', m1⟩ := P1.fr a o h t m
        obtain ⟨h2', m2⟩ := P2.fr a o h1' t m1
        refine ⟨h2', fun z => ?_⟩
        rcases List.mem_append.mp z with z | z
        · exact m2 z
        · exact ne_of_none h1' nL (by simpa using z)
      · cases e2
  · cases e
theorem pm_comp {elt tg iter : Expr} {ifs : List Expr} {scope : Scope} {own : List (Str × Nat)} {bt : BM} {fe : EM} (hc : X.calm = true) (hN : X.N.Nodup) (hi : PI X tg iter (iM X.K fi)) (ok : BlkOk X.N X.env.scope scope own) (hv : ∀ i ∈ sl, i ∈ own.map (·.2))
    (hg : ∀ (s : Shared) (H : Hp) (C : Addr) (cl : List (Str × Addr)) (fp : List Addr), PG (X.blk s H scope (compEnvC scope cl C X.env) fp) tg (gM X.K sl g)) (ht : ∀ (s : Shared) (H : Hp) (C : Addr) (cl : List (Str × Addr)) (fp : List Addr), PTs (X.blk s H scope (compEnvC scope cl C X.env) fp) ifs (tT X.K bt))
    (he : ∀ (s : Shared) (H : Hp) (C : Addr) (cl : List (Str × Addr)) (fp : List Addr), PE (X.blk s H scope (compEnvC scope cl C X.env) fp) elt (tM X.K fe)) (hs : ∀ x, foldedSetIterable iter X.env x = pure x := by intro _; rfl) :
    PE X (.ListComp elt [⟨tg, iter, ifs, 0⟩] scope pos) (tM X.K (mComp fi g bt fe (own.map (·.2)))) := PE.to (pe_lc hc hN hi ok hg ht he hs) fun _ _ _ => comp_mono hv
theorem ptsm_nil : PTs X [] (tT X.K bYes) := ⟨fun pins s σ H Q I h => pts_nil.run pins s σ H Q I (by
  obtain ⟨ρ, env, hd, b, hd', A, e, q⟩ := h
  cases e
  exact q ρ H (.refl A.rel))⟩
theorem ptsm_one {bt : BM} (h : PT X c (tT X.K bt)) : PTs X [c] (tT X.K bt) := pts_one h
theorem psm_setc {i : Nat} {y : Str} {py : Pos} {elt tg iter : Expr} {ifs : List Expr} {scope : Scope} {own : List (Str × Nat)} {spos : Pos} {bt : BM} {fe : EM} (hc : X.calm = true) (hN : X.N.Nodup) (hy : X.N[i]? = some y) (hyl : X.env.scope.names.lookup y = some .local)
    (hsw : swapsWith (.ListComp elt [⟨tg, iter, ifs, 0⟩] scope pos) (some (.Name y py)) spos.line X.env = pure true) (hi : PI X tg iter (iM X.K fi)) (ok : BlkOk X.N X.env.scope scope own) (hv : ∀ i ∈ sl, i ∈ own.map (·.2))
    (hg : ∀ (s : Shared) (H : Hp) (C : Addr) (cl : List (Str × Addr)) (fp : List Addr), PG (X.blk s H scope (compEnvC scope cl C X.env) fp) tg (gM X.K sl g)) (ht : ∀ (s : Shared) (H : Hp) (C : Addr) (cl : List (Str × Addr)) (fp : List Addr), PTs (X.blk s H scope (compEnvC scope cl C X.env) fp) ifs (tT X.K bt))
    (he : ∀ (s : Shared) (H : Hp) (C : Addr) (cl : List (Str × Addr)) (fp : List Addr), PE (X.blk s H scope (compEnvC scope cl C X.env) fp) elt (tM X.K fe)) (hs : ∀ x, foldedSetIterable iter X.env x = pure x := by intro _; rfl) :
    PS X (.Assign [.Name y py] (.ListComp elt [⟨tg, iter, ifs, 0⟩] scope pos) spos) (tS X.K (mAsg (mComp fi g bt fe (own.map (·.2))) (gNm i))) := PS.to (ps_setLc (i := i) hc hN hy hyl hsw hi ok hg ht he hs) fun D σ H ⟨ρ, env, hd, fl, env', hd', A, e, q⟩ => by
  obtain ⟨⟨x, h1⟩, e1, e⟩ := Option.bind_eq_some_iff.mp e
  cases e
  exact comp_mono hv ⟨ρ, env, hd, x, _, A, e1, fun v ρ1 H1 P1 r1 => q ρ1 _ H1 P1 ((A.sl.mono P1.pre P1.ext).set r1)⟩
end
end Dl

namespace Dl
open PySem PySem.Spec PyProof.Rows L2
theorem IxR.to {X : Cx} {r r' : R2} (h : IxR X r) (m : ∀ x y H Q, r' x y H Q → r x y H Q) : IxR X r' := fun value slice pins s σ H x y v u Q I a b q hs => h value slice pins s σ H x y v u Q I a b (m _ _ _ _ q) hs
theorem SlR.to {X : Cx} {r r' : V → Option Int → Option Int → Hp → VK → Prop} (h : SlR X r) (m : ∀ x l u H Q, r' x l u H Q → r x l u H Q) : SlR X r' := fun pins s σ H x v vl vu lo hi sl Q I rx hs pl pu q => h pins s σ H x v vl vu lo hi sl Q I rx hs pl pu (m _ _ _ _ _ q)
theorem SlR.or {X : Cx} {r r' : V → Option Int → Option Int → Hp → VK → Prop} (h : SlR X r) (h' : SlR X r') : SlR X (fun x l u H Q => r x l u H Q ∨ r' x l u H Q) := fun pins s σ H x v vl vu lo hi sl Q I rx hs pl pu q =>
  q.elim (h pins s σ H x v vl vu lo hi sl Q I rx hs pl pu) (h' pins s σ H x v vl vu lo hi sl Q I rx hs pl pu)
theorem RepL.atI {K ρ H} {ds : List D} {vs : List V} {i : Int} {d : D} (l : RepL K ρ H ds vs) (e : atI ds i = some d) : ∃ v, atI vs i = some v ∧ Rep K ρ H d v := by
  unfold L2.atI at e ⊢
  rw [← l.length]
  obtain ⟨j, hj, e⟩ := Option.bind_eq_some_iff.mp e
  obtain ⟨v, hv, r⟩ := l.get e
  exact ⟨v, by rw [hj]; exact hv, r⟩
def idxD : G2
  | .tup ds, .int i, hd => (atI ds i).map fun d => (d, hd)
  | .fls ds, .int i, hd => (atI ds i).map fun d => (d, hd)
  | .ref n, .int i, hd => (lsOf hd n).bind fun ds => (atI ds i).map fun d => (d, hd)
  | .str x, .int i, hd => if x.length ≤ 1000000 then (atI x.cps.toList i).map fun c => (.str ⟨#[c]⟩, hd) else none
  | _, _, _ => none
def cutL (ds : List D) (lo hi : Option Int) : List D := (ds.drop (HT.sIx ds.length 0 lo)).take (HT.sIx ds.length ds.length hi - HT.sIx ds.length 0 lo)
theorem RepL.cut {K ρ H} {ds : List D} {vs : List V} (l : RepL K ρ H ds vs) (lo hi : Option Int) : RepL K ρ H (cutL ds lo hi) (cutV vs lo hi) := by
  unfold cutL cutV
  rw [l.length]
  exact (l.drop _).take _
def sliD (a : D) (lo hi : Option Int) (hd : Hd) : Option (D × Hd) := match a with
  | .ref n => (lsOf hd n).map fun ds => (.ref hd.length, hd ++ [.lst (cutL ds lo hi)])
  | .fls ds => some (.ref hd.length, hd ++ [.lst (cutL ds lo hi)])
  | .tup ds => if HT.sIx ds.length 0 lo = 0 ∧ HT.sIx ds.length ds.length hi = ds.length then none else some (.tup (cutL ds lo hi), hd)
  | .str x => if x.length ≤ 1000000 then some (.str (cutS x lo hi), hd) else none
  | _ => none
abbrev OM := Ev → Hd → Option (Option Int × Hd)
def oNone : OM := fun _ hd => some (none, hd)
def oSome (a : EM) : OM := fun env hd => (a env hd).bind fun p => match p.1 with | .int i => some (some i, p.2) | _ => none
def mSl (a : EM) (l u : OM) : EM := fun env hd => (a env hd).bind fun p => (l env p.2).bind fun q => (u env q.2).bind fun r => sliD p.1 q.1 r.1 r.2
def mApp (o a : EM) : EM := fun env hd => (o env hd).bind fun p => match p.1 with
  | .ref n => (lsOf p.2 n).bind fun _ => (a env p.2).bind fun q => match q.2[n]? with
    | some (.lst ds) => if ds.length < 1000000 then some (.non, q.2.set n (.lst (ds ++ [q.1]))) else none
    | _ => none
  | _ => none
def mExt (o a : EM) : EM := fun env hd => (o env hd).bind fun p => match p.1 with
  | .ref n => (lsOf p.2 n).bind fun _ => (a env p.2).bind fun q => match q.1 with
    | .ref m => match q.2[n]?, q.2[m]? with
      | some (.lst ds), some (.lst es) => if ds.length + es.length ≤ 1000000 then some (.non, q.2.set n (.lst (ds ++ es))) else none
      | _, _ => none
    | _ => none
  | _ => none
def gSb (o i : EM) : GT := fun d env hd => (o env hd).bind fun p => (i env p.2).bind fun q => match p.1, q.1 with
  | .ref n, .int k => match q.2[n]? with
    | some (.lst ds) => (ixN ds.length k).map fun j => (env, q.2.set n (.lst (ds.set j d)))
    | _ => none
  | _, _ => none
section
variable {X : Cx} {pos : Pos} {a b e o i : Expr} {fa fb fo fe : EM} {fr : AM} {ol ou : OM}
theorem xm_idx : IxR X (rM X.K idxD) := by
  refine IxR.to ix_seq fun x y H Q ⟨ρ, hd, a, b, d, hd', r, ra, rb, e, q⟩ => ?_
  cases a <;> cases b <;> simp only [idxD] at e <;> try contradiction
  · rw [rep_str] at ra; rw [rep_int] at rb; subst ra rb
    split at e
    · rename_i hl
      obtain ⟨c, hc, e⟩ := Option.map_eq_some_iff.mp e
      cases e
      exact .inr (.inr ⟨_, _, c, rfl, rfl, Nat.le_trans hl line1M, hc, q _ ρ H (.refl r) (rep_str.mpr rfl)⟩)
    · cases e
  · rw [rep_tup] at ra; rw [rep_int] at rb; subst rb
    obtain ⟨p, vs, rfl, s, l⟩ := ra
    obtain ⟨c, hc, e⟩ := Option.map_eq_some_iff.mp e
    cases e
    obtain ⟨v, hv, rv⟩ := l.atI hc
    exact .inr (.inl ⟨p, vs, _, v, rfl, rfl, s, hv, q v ρ H (.refl r) rv⟩)
  · rw [rep_ref] at ra; rw [rep_int] at rb; subst rb
    obtain ⟨p, rfl, ep⟩ := ra
    obtain ⟨ds, hl, e⟩ := Option.bind_eq_some_iff.mp e
    obtain ⟨c, hc, e⟩ := Option.map_eq_some_iff.mp e
    cases e
    obtain ⟨vs, s, l⟩ := lsOf_sq r hl ep
    obtain ⟨v, hv, rv⟩ := l.atI hc
    exact .inl ⟨p, vs, _, v, rfl, rfl, s, hv, q v ρ H (.refl r) rv⟩
  · rw [rep_fls] at ra; rw [rep_int] at rb; subst rb
    obtain ⟨p, vs, rfl, s, l⟩ := ra
    obtain ⟨c, hc, e⟩ := Option.map_eq_some_iff.mp e
    cases e
    obtain ⟨v, hv, rv⟩ := l.atI hc
    exact .inl ⟨p, vs, _, v, rfl, rfl, s.sq, hv, q v ρ H (.refl r) rv⟩
theorem pm_ix (ha : PE X a (tM X.K fa)) (hb : PE X b (tM X.K fb)) (hs : PlainIx b := by intro _ _; rfl) : PE X (.Subscript a b pos) (tM X.K (mBin idxD fa fb)) := PE.to (pe_ix xm_idx ha hb hs) fun _ _ _ => bin_mono
def tO (K : PySem.W.Frag) (f : OM) : TO := fun σ H Q => ∃ ρ env hd o hd', At K ρ σ H env hd ∧ f env hd = some (o, hd') ∧ ∀ ρ' H', Post K ρ ρ' H H' hd' → Q o H'
theorem PO.to {X : Cx} {e : Option Expr} {t t' : TO} (h : PO X e t) (m : ∀ σ H Q, t' σ H Q → t σ H Q) : PO X e t' := ⟨fun pins s σ H Q I q => h.run pins s σ H Q I (m σ H Q q)⟩
theorem pom_none : PO X none (tO X.K oNone) := PO.to po_none fun σ H Q ⟨ρ, env, hd, o, hd', A, e, q⟩ => by
  cases e
  exact q ρ H (.refl A.rel)
theorem pom_some (h : PE X e (tM X.K fe)) : PO X (some e) (tO X.K (oSome fe)) := PO.to (po_some h) fun σ H Q ⟨ρ, env, hd, o, hd', A, e, q⟩ => by
  obtain ⟨⟨x, h1⟩, e1, e⟩ := Option.bind_eq_some_iff.mp e
  refine ⟨ρ, env, hd, x, h1, A, e1, fun v ρ1 H1 P1 r1 => ?_⟩
  dsimp only at e
  split at e
  · cases e
    rw [rep_int] at r1
    exact ⟨_, r1, q ρ1 H1 P1⟩
  · cases e
def rSlM (K : PySem.W.Frag) : V → Option Int → Option Int → Hp → VK → Prop := fun x lo hi H Q => ∃ ρ hd a d hd', Rel K ρ H hd ∧ Rep K ρ H a x ∧ sliD a lo hi hd = some (d, hd') ∧ ∀ v ρ' H', Post K ρ ρ' H H' hd' → Rep K ρ' H' d v → Q v H'
theorem sm_sl : SlR X (rSlM X.K) := by
  refine SlR.to (SlR.or sl_list (SlR.or sl_tup sl_str)) fun x lo hi H Q ⟨ρ, hd, a, d, hd', r, ra, e, q⟩ => ?_
  cases a <;> simp only [sliD] at e <;> try contradiction
  · rw [rep_str] at ra; subst ra
    split at e
    · rename_i hl; cases e
      exact .inr (.inr ⟨_, rfl, Nat.le_trans hl line1M, q _ ρ H (.refl r) (rep_str.mpr rfl)⟩)
    · cases e
  · rw [rep_tup] at ra
    obtain ⟨p, vs, rfl, s, l⟩ := ra
    split at e
    · cases e
    · rename_i hn; cases e
      refine .inr (.inl ⟨p, vs, rfl, s, by rw [← l.length]; exact hn, fun z nz => ?_⟩)
      exact q _ ρ _ (.newT r nz) (rep_tup.mpr ⟨z, _, rfl, .of upd_same, (l.cut lo hi).mono (List.prefix_refl _) (.new nz)⟩)
  · rw [rep_ref] at ra
    obtain ⟨p, rfl, ep⟩ := ra
    obtain ⟨ds, hl, e⟩ := Option.map_eq_some_iff.mp e
    cases e
    obtain ⟨vs, s, l⟩ := lsOf_sq r hl ep
    exact .inl ⟨p, vs, rfl, s, fun z nz => q _ _ _ (.newL r nz (l.cut lo hi)) (rep_new r)⟩
  · rw [rep_fls] at ra
    obtain ⟨p, vs, rfl, s, l⟩ := ra
    cases e
    exact .inl ⟨p, vs, rfl, s.sq, fun z nz => q _ _ _ (.newL r nz (l.cut lo hi)) (rep_new r)⟩
theorem pm_sl {lo hi : Option Expr} {p2 : Pos} (ha : PE X a (tM X.K fa)) (hl : PO X lo (tO X.K ol)) (hu : PO X hi (tO X.K ou)) : PE X (.Subscript a (.Slice lo hi none p2) pos) (tM X.K (mSl fa ol ou)) := PE.to (pe_slice sm_sl ha hl hu) fun σ H Q ⟨ρ, env, hd, d, hd', A, e, q⟩ => by
  obtain ⟨⟨x, h1⟩, e1, e⟩ := Option.bind_eq_some_iff.mp e
  obtain ⟨⟨y, h2⟩, e2, e⟩ := Option.bind_eq_some_iff.mp e
  obtain ⟨⟨z, h3⟩, e3, e⟩ := Option.bind_eq_some_iff.mp e
  refine ⟨ρ, env, hd, x, h1, A, e1, fun v1 ρ1 H1 P1 r1 => ⟨ρ1, env, h1, y, h2, A.post P1, e2, fun ρ2 H2 P2 => ⟨ρ2, env, h2, z, h3, (A.post P1).post P2, e3, fun ρ3 H3 P3 => ?_⟩⟩⟩
  exact ⟨ρ3, h3, x, d, hd', P3.rel, r1.mono (P2.pre.trans P3.pre) (P2.ext.trans P3.ext), e, fun v ρ4 H4 P4 r4 => q v ρ4 H4 (P1.trans (P2.trans (P3.trans P4))) r4⟩
theorem pm_app {apos cpos : Pos} (ho : PE X o (tM X.K fo)) (ha : PE X e (tM X.K fa)) (hse : starEach [e] X.env = (false, eval e X.env) :: starEach [] X.env := by rfl)
    (hb : attributeBase o "append" X.env (eval o X.env) = eval o X.env := by rfl)
    (hf : ((backTo cpos (starEach [e] X.env)).all (fun x => !x.1) && (backToKw cpos (keywordEach [] X.env)).all (fun x => x.1.isSome) && decide ([e].length + ([] : List Keyword).length + (if ([] : List Keyword).isEmpty then 0 else 1) < 30)) = true := by rfl)
    (hli : (apos.endLine == cpos.line) = true := by rfl) (hpl : (backTo cpos (starEach [] X.env)).any (·.1) = false := by rfl) :
    PE X (.Call (.Attribute o "append" apos) [e] [] cpos) (tM X.K (mApp fo fa)) :=
  PE.to (pe_bm PySem.F.plainAttrs_list PySem.F.slot_list_append PySem.F.type_list_append mt_append ho (pa_cons ha pa_nil hse) hb hf hli hse hpl) fun σ H Q ⟨ρ, env, hd, d, hd', A, e, q⟩ => by
  obtain ⟨⟨x, h1⟩, e1, e⟩ := Option.bind_eq_some_iff.mp e
  dsimp only at e
  split at e
  · rename_i n
    obtain ⟨es, hl, e⟩ := Option.bind_eq_some_iff.mp e
    obtain ⟨⟨y, h2⟩, e2, e⟩ := Option.bind_eq_some_iff.mp e
    refine ⟨ρ, env, hd, _, h1, A, e1, fun v1 ρ1 H1 P1 r1 => ?_⟩
    rw [rep_ref] at r1
    obtain ⟨p, rfl, ep⟩ := r1
    obtain ⟨vs, s, l⟩ := lsOf_sq P1.rel hl ep
    refine ⟨.inl ⟨rfl, vs, s⟩, ρ1, env, h1, y, h2, A.post P1, e2, fun v2 ρ2 H2 P2 r2 => ?_⟩
    dsimp only at e
    split at e
    · rename_i ds hn
      split at e
      · rename_i hz
        cases e
        have ep2 := pre_get P2.pre ep
        obtain ⟨ws, hw, lw⟩ := P2.rel.ob _ p _ ep2 hn
        refine ⟨p, ws, v2, rfl, rfl, hw, by rw [← lw.length]; exact Nat.lt_of_lt_of_le hz line1M, ?_⟩
        exact q _ ρ2 _ (P1.trans (P2.trans (.put P2.rel ep2 hn (lw.append (RepL.one r2))))) (rep_non.mpr rfl)
      · cases e
    · cases e
  · cases e
theorem pm_ext {apos cpos : Pos} (ho : PE X o (tM X.K fo)) (ha : PE X e (tM X.K fa)) (hse : starEach [e] X.env = (false, eval e X.env) :: starEach [] X.env := by rfl)
    (hb : attributeBase o "extend" X.env (eval o X.env) = eval o X.env := by rfl)
    (hf : ((backTo cpos (starEach [e] X.env)).all (fun x => !x.1) && (backToKw cpos (keywordEach [] X.env)).all (fun x => x.1.isSome) && decide ([e].length + ([] : List Keyword).length + (if ([] : List Keyword).isEmpty then 0 else 1) < 30)) = true := by rfl)
    (hli : (apos.endLine == cpos.line) = true := by rfl) (hpl : (backTo cpos (starEach [] X.env)).any (·.1) = false := by rfl) :
    PE X (.Call (.Attribute o "extend" apos) [e] [] cpos) (tM X.K (mExt fo fa)) :=
  PE.to (pe_bm PySem.F.plainAttrs_list PySem.F.slot_list_extend PySem.F.type_list_extend mt_extend ho (pa_cons ha pa_nil hse) hb hf hli hse hpl) fun σ H Q ⟨ρ, env, hd, d, hd', A, e, q⟩ => by
  obtain ⟨⟨x, h1⟩, e1, e⟩ := Option.bind_eq_some_iff.mp e
  dsimp only at e
  split at e
  · rename_i n
    obtain ⟨es, hl, e⟩ := Option.bind_eq_some_iff.mp e
    obtain ⟨⟨y, h2⟩, e2, e⟩ := Option.bind_eq_some_iff.mp e
    refine ⟨ρ, env, hd, _, h1, A, e1, fun v1 ρ1 H1 P1 r1 => ?_⟩
    rw [rep_ref] at r1
    obtain ⟨p, rfl, ep⟩ := r1
    obtain ⟨vs, s, l⟩ := lsOf_sq P1.rel hl ep
    refine ⟨.inl ⟨rfl, vs, s⟩, ρ1, env, h1, y, h2, A.post P1, e2, fun v2 ρ2 H2 P2 r2 => ?_⟩
    dsimp only at e
    split at e
    · rename_i m
      split at e
      · rename_i ds es hn hm
        split at e
        · rename_i hz
          cases e
          rw [rep_ref] at r2
          obtain ⟨p2, rfl, ep'⟩ := r2
          have ep2 := pre_get P2.pre ep
          obtain ⟨ws, hw, lw⟩ := P2.rel.ob _ p _ ep2 hn
          obtain ⟨us, hu, lu⟩ := P2.rel.ob m p2 _ ep' hm
          refine ⟨p, p2, ws, us, rfl, rfl, hw, hu, by rw [← lw.length, ← lu.length]; exact Nat.le_trans hz line1M, ?_⟩
          exact q _ ρ2 _ (P1.trans (P2.trans (.put P2.rel ep2 hn (lw.append lu)))) (rep_non.mpr rfl)
        · cases e
      · cases e
    · cases e
  · cases e
theorem pgm_sub (ho : PE X o (tM X.K fo)) (hi : PE X i (tM X.K fa)) (ha : ∀ v, assign (.Subscript o i pos) X.env v = (do
      let ov ← holding [v] (eval o X.env)
      let iv ← holding [v, ov] (eval i X.env)
      standAt pos; holding [v, ov, iv] (setItem ov iv v); release [v, ov, iv] []) := by intro _; rfl) : PG X (.Subscript o i pos) (gM X.K [] (gSb fo fa)) :=
  PG.to (pg_sub ho hi set_list ha) fun v σ H Q ⟨ρ, env, hd, d, env', hd', A, r, e, q⟩ => by
  obtain ⟨⟨x, h1⟩, e1, e⟩ := Option.bind_eq_some_iff.mp e
  obtain ⟨⟨y, h2⟩, e2, e⟩ := Option.bind_eq_some_iff.mp e
  cases x <;> try contradiction
  rename_i n
  cases y <;> try contradiction
  rename_i k
  dsimp only at e
  split at e
  · rename_i ds hn
    obtain ⟨j, hj, e⟩ := Option.map_eq_some_iff.mp e
    cases e
    refine ⟨ρ, env, hd, _, h1, A, e1, fun v1 ρ1 H1 P1 r1 => ⟨ρ1, env, h1, _, h2, A.post P1, e2, fun v2 ρ2 H2 P2 r2 => ?_⟩⟩
    rw [rep_ref] at r1
    obtain ⟨p, rfl, ep⟩ := r1
    rw [rep_int] at r2; subst r2
    have ep2 := pre_get P2.pre ep
    obtain ⟨ws, hw, lw⟩ := P2.rel.ob _ p _ ep2 hn
    have P12 := P1.trans P2
    refine ⟨p, ws, _, j, rfl, rfl, hw, by rw [← lw.length]; exact hj, ?_⟩
    have P3 := Post.put P2.rel ep2 hn (lw.set (i := j) (r.mono P12.pre P12.ext))
    have P := P12.trans P3
    exact q ρ2 σ _ P (A.sl.mono P.pre P.ext) fun _ _ => rfl
  · cases e
end
end Dl

namespace Dl
open PySem PySem.Spec PyProof.Rows L2
/-! ## more built-ins -/
section
variable {X : Cx} {pos : Pos} {a b e : Expr} {es : List Expr} {fa fb : EM} {fr : AM}
def gcdI : List Int → Nat → Nat
  | [], g => g
  | i :: r, g => gcdI r (g.gcd i.natAbs)
def gcdD : GN := fun ds hd => match ds with
  | [.int i, .int j] => some (.int ((i.natAbs.gcd j.natAbs : Nat) : Int), hd)
  | [.int i, .int j, .int k] => some (.int (((i.natAbs.gcd j.natAbs).gcd k.natAbs : Nat) : Int), hd)
  | _ => none
theorem run_gcd3 (a : Int) (t : Tok) (b : Int) (u : Tok) (c : Int) (z : Tok) : Gives (Builtin.«math.gcd» ⟨[.int a t, .int b u, .int c z], []⟩) (.int (((((Nat.gcd 0 a.natAbs).gcd b.natAbs).gcd c.natAbs : Nat) : Int))) :=
  .of_wp fun M A E s Q h => by obtain ⟨hp, g, d, tk, os⟩ := s; wp_walk; exact ⟨_, rfl, h⟩
theorem args_gcd3 (a b c : Value) : argsOk "math.gcd" ⟨[a, b, c], []⟩ := by unfold argsOk; kernel_rfl
theorem cm_gcd : CallR X (.builtin "math.gcd") (rN X.K gcdD) := by
  intro pins s σ H xs us Q I r h
  obtain ⟨ρ, hd, ds, d, hd', rel, ra, e, q⟩ := h
  unfold gcdD at e
  split at e
  · cases e
    obtain ⟨v, w, rfl, rv, rw_⟩ := repL2 ra
    rw [rep_int] at rv rw_; subst rv rw_
    exact cr_gcd pins s σ H _ us Q I r ⟨_, _, rfl, q _ ρ H (.refl rel) (rep_int.mpr rfl)⟩
  · rename_i i j k
    cases e
    obtain ⟨v, w, z, rfl, rv, rw_, rz⟩ := repL3 ra
    rw [rep_int] at rv rw_ rz; subst rv rw_ rz
    obtain ⟨t, u, y, rfl⟩ : ∃ t u y, us = [Value.int i t, .int j u, .int k y] := by
      cases r with
      | cons r1 r2 =>
        cases r2 with
        | cons r3 r4 =>
          cases r4 with
          | cons r5 r6 =>
            cases r6
            obtain ⟨t, rfl⟩ := r1
            obtain ⟨u, rfl⟩ := r3
            obtain ⟨y, rfl⟩ := r5
            exact ⟨t, u, y, rfl⟩
    have g := run_gcd3 i t j u k y
    rw [Nat.gcd_zero_left] at g
    exact call_function_meets PySem.W.MGF.kind_gcd PySem.W.MGF.plain_gcd PySem.W.MGF.entry_gcd (args_gcd3 _ _ _) g.meets ⟨.int _, H, I.tok _, ⟨_, rfl⟩, q _ ρ H (.refl rel) (rep_int.mpr rfl)⟩
  · cases e
def tyN (hd : Hd) : D → Option String
  | .non => some "NoneType"
  | .bl _ => some "bool"
  | .int _ => some "int"
  | .str _ => some "str"
  | .tup _ => some "tuple"
  | .ref n => (lsOf hd n).map fun _ => "list"
  | .fls _ => some "list"
  | .raw _ => none
  | .exc _ _ => none
  | .ins _ _ _ => none
def isiD : GN := fun ds hd => match ds with
  | [a, .raw (.ty T)] => (tyN hd a).bind fun n => (kitB n T).map fun b => (.bl b, hd)
  | _ => none
theorem tyX_of {K ρ H hd} {a : D} {v : V} {n : String} (r : Rel K ρ H hd) (q : Rep K ρ H a v) (h : tyN hd a = some n) : TyX K H v (.type n) := by
  cases a <;> simp only [tyN] at h <;> try contradiction
  · cases h; rw [rep_non] at q; subst q; exact .base .non
  · cases h; rw [rep_bl] at q; subst q; exact .base (.bl _)
  · cases h; rw [rep_int] at q; subst q; exact .base (.int _)
  · cases h; rw [rep_str] at q; subst q; exact .base (.str _)
  · cases h; rw [rep_tup] at q; obtain ⟨p, vs, rfl, s, l⟩ := q
    rcases s with (s | ⟨o, s⟩) | ⟨o, its, m, hk, hc, _⟩
    · exact .base (.tup s)
    · exact .fTuple s
    · exact .kTuple hk hc
  · rw [rep_ref] at q; obtain ⟨p, rfl, ep⟩ := q
    obtain ⟨es, he, h⟩ := Option.map_eq_some_iff.mp h
    subst h
    unfold lsOf at he
    split at he
    · rename_i xs hx
      obtain ⟨vs, q, _⟩ := r.ob _ p _ ep hx
      exact .base (.lst q)
    · cases he
  · cases h; rw [rep_fls] at q; obtain ⟨p, vs, rfl, s, l⟩ := q
    rcases s with ⟨o, s⟩ | s
    · exact .base (.frz s)
    · rcases s with (s | ⟨o, s⟩) | ⟨o, its, m, hk, hc, _⟩
      · cases s
      · cases s
      · exact .kList hk hc
theorem cm_isi : CallR X (.builtin "isinstance") (rN X.K isiD) := by
  refine CallR.to call_isi fun xs H Q ⟨ρ, hd, ds, d, hd', r, ra, e, q⟩ => ?_
  unfold isiD at e
  split at e
  · obtain ⟨n, hn, e⟩ := Option.bind_eq_some_iff.mp e
    obtain ⟨b, hb, e⟩ := Option.map_eq_some_iff.mp e
    cases e
    obtain ⟨v, w, rfl, rv, rw_⟩ := repL2 ra
    rw [rep_raw] at rw_; subst rw_
    exact ⟨_, _, _, _, b, rfl, .ty _, tyX_of r rv hn, kit_ty hb, q _ ρ H (.refl r) (rep_bl.mpr rfl)⟩
  · cases e
/-- list(range(..)) -/
def mLstRg (f : Ev → Hd → Option ((Int × Int) × Hd)) : EM := fun env hd => (f env hd).bind fun p => if -1000000 ≤ p.1.1 ∧ p.1.1 ≤ 1000000 ∧ -1000000 ≤ p.1.2 ∧ p.1.2 ≤ 1000000 then some (.ref p.2.length, p.2 ++ [.lst (rangeL p.1.1 p.1.2)]) else none
def rg1 (a : EM) : Ev → Hd → Option ((Int × Int) × Hd) := fun env hd => (a env hd).bind fun p => match p.1 with | .int n => some ((0, n), p.2) | _ => none
theorem rangeL_rep {K ρ H} (a b : Int) : RepL K ρ H (rangeL a b) (rgV a b) := by
  unfold rangeL rgV
  generalize List.range (b - a).toNat = l
  induction l with
  | nil => exact .nil
  | cons x r ih => simp only [List.map_cons, RepL]; exact ⟨_, _, rfl, rep_int.mpr rfl, ih⟩
theorem pm_listRg1 {p pos p2 pos2 : Pos} (hc : X.calm = true) (hg : Gl X "list") (hm : X.mg "list" = none) (hg2 : Gl X "range") (hm2 : X.mg "range" = none) (ha : PE X a (tM X.K fa)) (na : starEach [a] X.env = (false, eval a X.env) :: starEach [] X.env := by rfl)
    (nb : starEach [.Call (.Name "range" p2) [a] [] pos2] X.env = (false, eval (.Call (.Name "range" p2) [a] [] pos2) X.env) :: starEach [] X.env := by rfl) :
    PE X (.Call (.Name "list" p) [.Call (.Name "range" p2) [a] [] pos2] [] pos) (tM X.K (mLstRg (rg1 fa))) := PE.to (pe_listRg hc hg hm (prg_1 hg2 hm2 ha na) nb) fun σ H Q ⟨ρ, env, hd, d, hd', A, e, q⟩ => by
  obtain ⟨⟨⟨lo, hi⟩, h1⟩, e1, e⟩ := Option.bind_eq_some_iff.mp e
  obtain ⟨⟨x, h2⟩, e2, e1⟩ := Option.bind_eq_some_iff.mp e1
  refine ⟨ρ, env, hd, x, h2, A, e2, fun v ρ1 H1 P1 r1 => ?_⟩
  dsimp only at e1
  split at e1
  · cases e1
    rw [rep_int] at r1
    dsimp only at e
    split at e
    · rename_i hb
      cases e
      refine ⟨_, r1, ⟨by omega, by omega, by omega, by omega, by omega⟩, fun z nz => ?_⟩
      exact q _ _ _ (P1.trans (.newL P1.rel nz (rangeL_rep _ _))) (rep_new P1.rel)
    · cases e
  · cases e1
end
/-! ## defs and calls -/
def mFn (n m : Nat) (body : SM) : GN := fun ds hd => if ds.length = n then (body (ds.map some ++ List.replicate m none) hd).bind fun p => match p.1 with | .nx => some (.non, p.2.2) | .rt d => some (d, p.2.2) | _ => none else none
structure FnG (P : Program) (w : World) (K : PySem.W.Frag) (mg : Str → Option Value) (base : Heap) (k : Nat) (f : Addr) (fd : FuncData) (ps : List Str) (F : GN) : Prop where
  len : ∀ ds hd r, F ds hd = some r → ds.length = ps.length
  run : ∀ (A : Around) (outer : List Env) (s : Shared) (H : Hp) (args : Args) (us : List Value) (vs : List V) (Q : VK), Room k A → A.guards = some [] → Env0 P w K mg base A outer s H → BindsTo s fd args (ps.zip us) → Vals vs us → rN K F vs H Q →
    codeAny (model P w) A (.call (.ref f) args) (CR L2.CX0 outer P w H s Q L2.E0) s
theorem FnG.mono {P w K mg base j k f fd ps F} (G : FnG P w K mg base j f fd ps F) (h : j ≤ k) : FnG P w K mg base k f fd ps F := ⟨G.len, fun A outer s H args us vs Q hr => G.run A outer s H args us vs Q (hr.mono h)⟩
theorem FnG.imp {P w K mg base k f fd ps F F'} (G : FnG P w K mg base k f fd ps F) (h : ∀ ds hd r, F' ds hd = some r → F ds hd = some r) : FnG P w K mg base k f fd ps F' :=
  ⟨fun ds hd r e => G.len ds hd r (h _ _ _ e), fun A outer s H args us vs Q hr hg e0 hb hv ⟨ρ, hd, ds, d, hd', r, ra, e, q⟩ => G.run A outer s H args us vs Q hr hg e0 hb hv ⟨ρ, hd, ds, d, hd', r, ra, h _ _ _ e, q⟩⟩
theorem fng_ofL {P : Program} {w : World} {K : PySem.W.Frag} {mg : Str → Option Value} {base : Heap} {x qual : Str} {params : Arguments} {body : List Stmt} {scope : Scope} {dvs : List V} {kws : List (Str × V)} {f : Addr} {fd : FuncData} {N ps : List Str} {k n m : Nat} {fb : SM}
    (F : FunD K x qual params body scope dvs kws f fd) (S : FnScope N ps scope) (hn : ps.length = n) (hm : N.length - ps.length = m)
    (hbody : ∀ (cdv : Value), (∃ oc od osl fd', K.lookup f = some ⟨oc, od, .func fd', osl⟩ ∧ fd'.code = cdv ∧ PySem.W.codeIn K cdv qual = true) → ∀ (A : Around) (outer : List Env) (s : Shared) (H : Hp), Room k (A.deeper (envOfC qual scope s.heap.objs.size f cdv)) → (A.deeper (envOfC qual scope s.heap.objs.size f cdv)).guards = some [] →
      PSs (cxOf L2.CX0 P w K mg base N qual scope f cdv A outer s H L2.E0) body (tS K fb)) :
    FnG P w K mg base (k + 1) f fd ps (mFn n m fb) := by
  obtain ⟨oc, od, dV, kV, doc, pm, an, cdv, ct, osl, rfl, lk, hcd, _, _⟩ := F.ex
  refine ⟨fun ds hd r e => ?_, fun A outer s H args us vs Q hr hG e0 hb hv hq => ?_⟩
  · unfold mFn at e
    split at e
    · rename_i h; rw [h, hn]
    · cases e
  obtain ⟨ρ, hd, ds, d, hd', rel, ra, e, q⟩ := hq
  unfold mFn at e
  split at e
  rotate_left
  · cases e
  rename_i hlen
  obtain ⟨⟨fl, env', hd2⟩, eb, e⟩ := Option.bind_eq_some_iff.mp e
  have hvl : vs.length = ps.length := by rw [← ra.length, hlen, hn]
  have inK : K.In s.heap := e0.mod.kin.keeps fun b o z => (e0.bs b o z).1
  have nol : s.heap.NoLimit := e0.mod.nolimit.keeps fun b o z => (e0.bs b o z).1
  have kinds : ∀ y ∈ ps.zip us, scope.names.lookup y.1 = some .local ∨ (scope.names.lookup y.1 = some .cell ∧ ((cellsFrom (s.heap.objs.size + 1) scope.names []).lookup y.1).isSome = true) := by
    rintro ⟨z, v⟩ hy
    rcases S.par z (List.of_mem_zip hy).1 with q | q
    · left; exact q
    · right; exact ⟨q, PySem.W.cellsFrom_some _ _ _ (.inl q)⟩
  refine codeAny_call_function hr.depth (inK _ _ lk) rfl S.co S.gen rfl (PySem.W.codeRec_of inK hcd) (hb _ _ _ _ ?_)
  refine wpAny_newFunctionEnv_cells S.kind kinds fun env henv s1 xc => ?_
  subst henv
  refine ⟨nol.keeps xc.toInCall.keep, codeAny_func ?_⟩
  have I0 : Inv (cxOf L2.CX0 P w K mg base N qual scope f cdv A outer s H L2.E0) [] (L2.start N vs) H s1 := inv_start S hr.hd e0 hvl hv xc
  have S0 : SRel K ρ H (ds.map some ++ List.replicate m none) (L2.start N vs) := by
    unfold L2.start
    refine ⟨by simp [ra.length, hvl, ← hm, hlen, hn], fun i d' h => ?_⟩
    by_cases hi : i < ds.length
    · rw [List.getElem?_append_left (by simpa using hi), List.getElem?_map] at h
      obtain ⟨d2, h2, h3⟩ := Option.map_eq_some_iff.mp h
      cases h3
      obtain ⟨v, hv', r'⟩ := ra.get h2
      exact ⟨v, by rw [List.getElem?_append_left (by rw [List.length_map, ← ra.length]; exact hi), List.getElem?_map, hv']; rfl, r'⟩
    · rw [List.getElem?_append_right (by simpa using hi), List.getElem?_replicate] at h
      split at h <;> simp at h
  have goal : tS K fb { nx := fun _ H' => Q .non H', rt := Q } (L2.start N vs) H := by
    refine ⟨ρ, _, hd, fl, env', hd2, ⟨rel, S0⟩, eb, fun ρ' σ' H' P' S' => ?_⟩
    cases fl with
    | nx => cases e; exact q _ ρ' H' P' (rep_non.mpr rfl)
    | rt d2 => cases e; exact fun v rv => q v ρ' H' P' rv
    | bk => cases e
    | ct => cases e
  refine wpAny_mono ((hbody cdv ⟨_, _, _, _, lk, rfl, hcd⟩ A outer s H (hr.deeper _) hG).run [] s1 (L2.start N vs) H _ I0 goal) (fun fl2 s2 hs => ?_) fun e2 s2 hs => hs
  have done : ∀ {σ2 : L2.St} {H2 : Hp} {v : V} {u : Value}, Inv (cxOf L2.CX0 P w K mg base N qual scope f cdv A outer s H L2.E0) [] σ2 H2 s2 → RelV v u → Q v H2 → CE outer P w H s Q u s2 :=
    fun {σ2 H2 v u} J rv qv => ⟨v, H2, J.os, J.bare, J.base, J.hok, rv, qv⟩
  cases fl2 with
  | ret u => obtain ⟨v, σ2, H2, J, rv, qv⟩ := hs; exact done J rv qv
  | next => obtain ⟨σ2, H2, J, qv⟩ := hs; exact done (v := V.non) (u := Value.none) J rfl qv
  | brk => obtain ⟨_, _, _, qv⟩ := hs; exact qv.elim
  | cont => obtain ⟨_, _, _, qv⟩ := hs; exact qv.elim
theorem fng_of {P : Program} {w : World} {K : PySem.W.Frag} {mg : Str → Option Value} {base : Heap} {x qual : Str} {params : Arguments} {body : List Stmt} {scope : Scope} {dvs : List V} {kws : List (Str × V)} {f : Addr} {fd : FuncData} {N ps : List Str} {k n m : Nat} {fb : SM}
    (F : FunD K x qual params body scope dvs kws f fd) (S : FnScope N ps scope) (hn : ps.length = n) (hm : N.length - ps.length = m)
    (hbody : ∀ (cdv : Value) (A : Around) (outer : List Env) (s : Shared) (H : Hp), Room k (A.deeper (envOfC qual scope s.heap.objs.size f cdv)) → (A.deeper (envOfC qual scope s.heap.objs.size f cdv)).guards = some [] →
      PSs (cxOf L2.CX0 P w K mg base N qual scope f cdv A outer s H L2.E0) body (tS K fb)) :
    FnG P w K mg base (k + 1) f fd ps (mFn n m fb) := fng_ofL F S hn hm fun cdv _ => hbody cdv
section
variable {X : Cx} {pos p : Pos} {e : Expr} {es : List Expr} {fr : AM} {F : GN} {k : Nat} {f : Addr} {fd : FuncData} {ps : List Str} {x : Str}
theorem pm_call (G : FnG X.prog X.w X.K X.mg X.base k f fd ps F) (hr : Room k X.A) (hG : X.A.guards = some []) (hg : Gl X x) (hm : X.mg x = some (.ref f)) (hk : PySem.W.keepIn X.K (.ref f) = true) (hb : Binds X.K fd ps [])
    (ha : PA X (e :: es) (tA X.K fr)) (hdb : (x == ("__debug__" : Str)) = false := by decide) (he : starEach (e :: es) X.env = (false, eval e X.env) :: starEach es X.env := by rfl) (hpl : (backTo pos (starEach es X.env)).any (·.1) = false := by rfl) :
    PE X (.Call (.Name x p) (e :: es) [] pos) (tM X.K (mCall F fr)) := by
  refine ⟨fun pins s σ H Q I h => ?_⟩
  refine wpAny_Call_Name_kw (ld_glob I hg hm ?_ hdb)
  refine PySem.W.callWith_K (h₀ := X.base) I.ok.mod.kin hk (thn (ha.run pos pins s σ H _ I (call_mono h)) fun us s1 ⟨vs, H1, I1, r, q⟩ => ⟨I1.kIn, ?_⟩) he hpl
  have hl : us.length = ps.length := by
    obtain ⟨ρ, hd, ds, d, hd', rel, ra, ee, _⟩ := q
    rw [← r.length, ← ra.length]
    exact G.len _ _ _ ee
  have hb' := hb s1 us I1.kIn (by rw [List.append_nil]; exact hl)
  rw [List.append_nil] at hb'
  refine wpAny_call (codeAny_mono (G.run X.A X.stack s1 H1 ⟨us, []⟩ us vs Q hr hG I1.env0 hb' r q) fun r2 s2 hq => ?_)
  cases r2 with
  | error er => exact False.elim hq
  | ok fl =>
    cases fl with
    | ret u => exact I1.after hq
    | next => exact False.elim hq
    | brk => exact False.elim hq
    | cont => exact False.elim hq
end
end Dl

namespace Dl
open PySem PySem.Spec PyProof.Rows L2
theorem ints_rep {K ρ H} : ∀ (ns : List Int), RepL K ρ H (ns.map D.int) (ns.map V.int)
  | [] => .nil
  | n :: r => by simp only [List.map_cons, RepL]; exact ⟨_, _, rfl, rep_int.mpr rfl, ints_rep r⟩
theorem law_end {P : Program} {w : World} {K : PySem.W.Frag} {mg mb : Str → Option Value} {k : Nat} {fa a : Addr} {fd : FuncData} {x : Str} {F : GN} {s : Shared} {vs : List Value} {ns : List Int}
    (KX : K.In s.heap) (n1 : s.heap.Ns mainGlobals mg) (n2 : s.heap.Ns builtinsNs mb) (n3 : ∀ y : Str, y ≠ "__name__" → mb y = bootBuiltins y) (lim : s.heap.NoLimit) (gens : s.gens = #[])
    (ea : s.heap.get? a = some { cls := .type "list", data := .seq vs.toArray }) (iv : IntsAre vs ns) (hl : ns.length ≤ sizeLine) (hr : Room k callerA)
    (G : ∀ base : Heap, K.In base → base.Ns mainGlobals mg → FnG P w K mg base k fa fd [x] F) (bind : ∀ (s : Shared) (u : Value), BindsTo s fd ⟨[u], []⟩ [(x, u)])
    (hF : ∃ hd', F [.fls (ns.map .int)] [] = some (.bl true, hd')) :
    codeAny (model P w) callerA (.call (.ref fa) ⟨[.ref a], []⟩) (fun r s' => r = .ok (.ret (.bool true)) ∧ OldK s.heap s'.heap ∧ s'.os = s.os ∧ AllBare s'.gens) s := by
  obtain ⟨hd', hF⟩ := hF
  have rv := vals_ints iv
  have hlen := iv.length
  -- the script may be tracked, nothing else is
  have go : ∀ H : Hp, SqF K H a (ns.map V.int) → HOk P w H s.heap → (∀ b, H b = none ∨ (b = a ∧ ∃ o ys, H b = some (.frz o (.lst ys)) ∧ K.lookup a = none)) →
      codeAny (model P w) callerA (.call (.ref fa) ⟨[.ref a], []⟩) (fun r s' => r = .ok (.ret (.bool true)) ∧ OldK s.heap s'.heap ∧ s'.os = s.os ∧ AllBare s'.gens) s := by
    intro H sq ok only
    have keepB : ∀ {b : Addr} {o : Obj}, s.heap.get? b = some o → H b = none → (hidT s.heap H).get? b = some o := fun e n => hidT_get e n
    have dictFree : ∀ {b : Addr} {o : Obj} {es : Array DictEntry} {ep : Nat}, s.heap.get? b = some o → o.data = .dict es ep → H b = none := by
      intro b o es ep e d
      rcases only b with z | ⟨rfl, _⟩
      · exact z
      · rw [ea] at e
        cases e
        exact nomatch (show Data.seq vs.toArray _ = Data.dict es ep from d)
    have nsB : ∀ {b : Addr} {m : Str → Option Value}, s.heap.Ns b m → (hidT s.heap H).Ns b m := fun ⟨o, es, ep, e, d, r⟩ => ⟨o, es, ep, keepB e (dictFree e d), d, r⟩
    have inB : K.In (hidT s.heap H) := fun b o e => keepB (KX b o e) (by
      rcases only b with z | ⟨rfl, _, _, _, z⟩
      · exact z
      · rw [z] at e; cases e)
    have md : Mod K mg (hidT s.heap H) := by
      obtain ⟨mc, l1, l2⟩ := lim
      exact ⟨inB, nsB n1, ⟨mb, nsB n2, n3⟩, ⟨mc, nsB l1, l2⟩⟩
    have env0 : Env0 P w K mg (hidT s.heap H) callerA [] s H :=
      ⟨rfl, md, fun b o e => of_hidT e, Nat.le_of_eq (hidT_size _ _), trivial, fun b hb => (List.not_mem_nil (show b ∈ ([] : List Addr) from hb)).elim, ok, .of_eq gens⟩
    have want : rN K F [.ref a] H (fun v _ => v = .bl true) :=
      ⟨[], [], [.fls (ns.map .int)], .bl true, hd', ⟨rfl, List.nodup_nil, fun n _ _ e => by simp at e⟩, RepL.one (rep_fls.mpr ⟨a, _, rfl, sq, ints_rep ns⟩), hF, fun v ρ' H' _ r => rep_bl.mp r⟩
    refine codeAny_mono ((G _ inB (nsB n1)).run callerA [] s H ⟨[.ref a], []⟩ [.ref a] [.ref a] _ hr rfl env0 (bind s (.ref a)) (.cons rfl .nil) want) fun r s' hq => ?_
    cases r with
    | error e => exact False.elim hq
    | ok fl =>
      cases fl with
      | next => exact False.elim hq
      | brk => exact False.elim hq
      | cont => exact False.elim hq
      | ret u =>
        obtain ⟨v, H', os, bare, un, ok', rv', hv⟩ := hq
        subst hv
        have hu : u = Value.bool true := rv'
        subst hu
        refine ⟨rfl, OldK.of_keep fun b o e => ?_, os, bare⟩
        rcases only b with z | ⟨_, ob, ys, z, _⟩
        · exact un.keep b o e z (fun y => (List.not_mem_nil (show b ∈ ([] : List Addr) from y)).elim) (List.not_mem_nil)
        · have h1 := (ok b _ z).1
          have h2 := (ok' b _ (un.frzs b ob _ z)).1
          rw [e] at h1
          cases h1
          exact h2
  cases hk : K.lookup a with
  | some o =>
    have e := KX a o hk
    rw [ea] at e
    cases e
    exact go (fun _ => none) (.inr (.inr ⟨_, vs.toArray, _, hk, rfl, rfl, rfl, by rw [List.size_toArray, hlen]; exact hl, by simpa using rv⟩)) (fun b u z => nomatch (show (none : Option HO) = some u from z)) fun b => .inl rfl
  | none =>
    refine go (upd (fun _ => none) a (.frz { cls := .type "list", data := .seq vs.toArray } (.lst (ns.map V.int)))) (.inl ⟨_, upd_same⟩) (fun b u z => ?_) fun b => ?_
    · by_cases hb : b = a
      · subst hb
        rw [upd_same] at z
        cases z
        exact ⟨ea, by rw [List.length_map]; exact hl, vs, _, rv, ea⟩
      · rw [upd_ne hb] at z
        cases z
    · by_cases hb : b = a
      · subst hb
        exact .inr ⟨rfl, _, _, upd_same, hk⟩
      · exact .inl (by rw [upd_ne hb])
theorem walk_G {l : PySem.W.OpenLaw} {n k : Nat} {q : Program} {loose : List Str} {XP : (Str → Option Value) → Heap → Prop} {YP : World → Heap → Prop} {d : DefRec} {x : Str}
    (hn : l.most = some n) (hn2 : n ≤ sizeLine) (hdf : d.params.defaults = []) (hr : Room k callerA)
    (W : ∀ (w : World) (mg : Str → Option Value) (fa : Addr) (h : Heap), YP w h → h.Ns mainGlobals mg → mg d.name = some (.ref fa) →
      ∃ (K : PySem.W.Frag) (fd : FuncData) (F : GN), K.In h ∧ (∀ (s : Shared) (u : Value), BindsTo s fd ⟨[u], []⟩ [(x, u)]) ∧
        (∀ ns : List Int, ns.length ≤ n → ∃ hd', F [.fls (ns.map .int)] [] = some (.bl true, hd')) ∧ ∀ base : Heap, K.In base → base.Ns mainGlobals mg → FnG l.prog w K mg base k fa fd [x] F) :
    PySem.W.WalkO q loose XP YP l.row.toRowW d [] (fun f vs => PySem.call f vs) := by
  refine Att.attach_call hn hdf fun w s₀ s₁ mg mb fa o pm cd doc a vs ns G Y ho hd hcd hmg hobj hints hlen hg => ?_
  obtain ⟨K, fd, F, KX, hb, hF, hG⟩ := W w mg fa _ Y G.T.g hmg
  exact law_end KX G.T.g G.T.b G.T.builtins G.T.nolimit hg hobj hints (Nat.le_trans hlen hn2) hr hG hb (hF ns hlen)
end Dl

namespace Dl
open PySem PySem.Spec PyProof.Rows L2
/-- a def that may be called by its name -/
def Df (P : Program) (w : World) (K : PySem.W.Frag) (mg : Str → Option Value) (base : Heap) (k : Nat) (x : Str) (ps : List Str) (F : GN) : Prop :=
  ∃ (f : Addr) (fd : FuncData), FnG P w K mg base k f fd ps F ∧ mg x = some (.ref f) ∧ PySem.W.keepIn K (.ref f) = true ∧ Binds K fd ps []
theorem df_of {P : Program} {w : World} {K : PySem.W.Frag} {mg : Str → Option Value} {base : Heap} {x : Str} {params : Arguments} {body : List Stmt} {scope : Scope} {f : Addr} {N ps : List Str} {k n m : Nat} {fb : SM}
    (F : ∃ fd, FunD K x x params body scope [] [] f fd) (g : mg x = some (.ref f)) (S : FnScope N ps scope) (hn : ps.length = n) (hm : N.length - ps.length = m)
    (hb : ∀ (kV doc pm : Value) (an : Option Addr) (cdv ct : Value) (us : List Value), us.length = ps.length → bindArgs (PySem.W.fnOf x x params body scope .none kV doc pm an cdv ct) ⟨us, []⟩ = pure (ps.zip us))
    (hbody : ∀ (cdv : Value) (A : Around) (outer : List Env) (s : Shared) (H : Hp), Room k (A.deeper (envOfC x scope s.heap.objs.size f cdv)) → (A.deeper (envOfC x scope s.heap.objs.size f cdv)).guards = some [] →
      PSs (cxOf L2.CX0 P w K mg base N x scope f cdv A outer s H L2.E0).nox body (tS K fb)) : Df P w K mg base (k + 1) x ps (mFn n m fb) := by
  obtain ⟨fd, F⟩ := F
  exact ⟨f, fd, fng_of F S hn hm (fun cdv A outer s H hr hG => PSs.nox (hbody cdv A outer s H hr hG)), g, F.kp, F.bindsN hb⟩
theorem pm_callD {X : Cx} {pos p : Pos} {e : Expr} {es : List Expr} {fr : AM} {F : GN} {k : Nat} {ps : List Str} {x : Str} (C : Df X.prog X.w X.K X.mg X.base k x ps F) (hr : Room k X.A) (hG : X.A.guards = some []) (hg : Gl X x)
    (ha : PA X (e :: es) (tA X.K fr)) (hdb : (x == ("__debug__" : Str)) = false := by decide) (he : starEach (e :: es) X.env = (false, eval e X.env) :: starEach es X.env := by rfl) (hpl : (backTo pos (starEach es X.env)).any (·.1) = false := by rfl) :
    PE X (.Call (.Name x p) (e :: es) [] pos) (tM X.K (mCall F fr)) := by
  obtain ⟨f, fd, G, hm, hk, hb⟩ := C
  exact pm_call G hr hG hg hm hk hb ha hdb he hpl
/-- fuel: what the ints of the frame are together -/
def fuelD : Option D → Nat
  | some (.int i) => i.natAbs + 1
  | _ => 0
def fuelE : Ev → Hd → Nat := fun env _ => (env.map fuelD).sum + 1
end Dl

namespace Dl
open PySem PySem.Spec PyProof.Rows L2
/-! ## sizes -/
class Sz (x : Int) (n : outParam Nat) : Prop where
  h : x.natAbs < 2 ^ n
theorem Sz.mono {x : Int} {n m : Nat} (s : Sz x n) (h : n ≤ m) : x.natAbs < 2 ^ m := Nat.lt_of_lt_of_le s.h (Nat.pow_le_pow_right (by decide) h)
instance szMul {x y : Int} {a b : Nat} [s : Sz x a] [t : Sz y b] : Sz (x * y) (a + b) := ⟨by
  rw [Int.natAbs_mul, Nat.pow_add]; exact Nat.mul_lt_mul'' s.h t.h⟩
theorem two_pow_le_add {a b : Nat} : 2 ^ a + 2 ^ b ≤ 2 ^ (a + b + 1) := by
  have h1 : 2 ^ a ≤ 2 ^ (a + b) := Nat.pow_le_pow_right (by decide) (by omega)
  have h2 : 2 ^ b ≤ 2 ^ (a + b) := Nat.pow_le_pow_right (by decide) (by omega)
  rw [Nat.pow_succ]; omega
theorem two_pow_le_max {a b : Nat} : 2 ^ a + 2 ^ b ≤ 2 ^ (max a b + 1) := by
  have h1 : 2 ^ a ≤ 2 ^ (max a b) := Nat.pow_le_pow_right (by decide) (by omega)
  have h2 : 2 ^ b ≤ 2 ^ (max a b) := Nat.pow_le_pow_right (by decide) (by omega)
  rw [Nat.pow_succ]; omega
instance szAdd {x y : Int} {a b : Nat} [s : Sz x a] [t : Sz y b] : Sz (x + y) (max a b + 1) := ⟨by
  have := s.h; have := t.h; have := @two_pow_le_max a b; omega⟩
instance szSub {x y : Int} {a b : Nat} [s : Sz x a] [t : Sz y b] : Sz (x - y) (max a b + 1) := ⟨by
  have := s.h; have := t.h; have := @two_pow_le_max a b; omega⟩
instance szNeg {x : Int} {a : Nat} [s : Sz x a] : Sz (-x) a := ⟨by have := s.h; omega⟩
instance szLit {n : Nat} : Sz (OfNat.ofNat n) (n.log2 + 1) := ⟨by
  show n < _
  exact Nat.lt_log2_self⟩
instance szNatLit {n : Nat} : Sz ((OfNat.ofNat n : Nat) : Int) (n.log2 + 1) := ⟨by
  show n < _
  exact Nat.lt_log2_self⟩
/-! ## rationals -/
class Bq (r : Rat) (n : outParam Nat) : Prop where
  num : r.num.natAbs < 2 ^ n
  den : r.den < 2 ^ n
instance szNum {r : Rat} {n : Nat} [b : Bq r n] : Sz r.num n := ⟨b.num⟩
instance szDen {r : Rat} {n : Nat} [b : Bq r n] : Sz (r.den : Int) n := ⟨by have := b.den; omega⟩
theorem dvd_num {t b : Int} (hb : b ≠ 0) : (Rat.divInt t b).num.natAbs ≤ t.natAbs := by
  rw [Rat.num_divInt]
  by_cases hz : t = 0
  · subst hz; simp
  · have h1 : (b.sign * t / (b.gcd t : Int)).natAbs ≤ (b.sign * t).natAbs := Int.natAbs_ediv_le_natAbs _ _
    have h2 : (b.sign * t).natAbs = t.natAbs := by
      rw [Int.natAbs_mul]
      rcases Int.lt_trichotomy b 0 with h | h | h
      · rw [Int.sign_eq_neg_one_of_neg h]; simp
      · exact absurd h hb
      · rw [Int.sign_eq_one_of_pos h]; simp
    omega
theorem dvd_den {t b : Int} (hb : b ≠ 0) : (Rat.divInt t b).den ≤ b.natAbs := by
  rw [Rat.den_divInt, if_neg hb]
  exact Nat.div_le_self _ _
theorem bq_divInt {t b : Int} {m n : Nat} (s : t.natAbs < 2 ^ m) (u : b.natAbs < 2 ^ n) (hb : b ≠ 0) : Bq (Rat.divInt t b) (max m n) := by
  have h1 : 2 ^ m ≤ 2 ^ (max m n) := Nat.pow_le_pow_right (by decide) (by omega)
  have h2 : 2 ^ n ≤ 2 ^ (max m n) := Nat.pow_le_pow_right (by decide) (by omega)
  have := @dvd_num t b hb
  have := @dvd_den t b hb
  exact ⟨by omega, by omega⟩
theorem den_ne (r : Rat) : (r.den : Int) ≠ 0 := by have := r.den_pos; omega
instance bqAdd {r s : Rat} {a b : Nat} [x : Bq r a] [y : Bq s b] : Bq (r + s) (a + b + 1) := by
  have e : r + s = Rat.divInt (r.num * s.den + s.num * r.den) (r.den * s.den) := by
    rw [← Rat.divInt_add_divInt _ _ (den_ne r) (den_ne s), Rat.num_divInt_den, Rat.num_divInt_den]
  have hb : (r.den : Int) * s.den ≠ 0 := Int.mul_ne_zero (den_ne r) (den_ne s)
  have h1 := dvd_num (t := r.num * s.den + s.num * r.den) hb
  have h2 := dvd_den (t := r.num * s.den + s.num * r.den) hb
  have p1 : (r.num * (s.den : Int)).natAbs < 2 ^ (a + b) := (@szMul r.num s.den a b szNum szDen).h
  have p2 : (s.num * (r.den : Int)).natAbs < 2 ^ (b + a) := (@szMul s.num r.den b a szNum szDen).h
  have p3 : ((r.den : Int) * (s.den : Int)).natAbs < 2 ^ (a + b) := (@szMul r.den s.den a b szDen szDen).h
  rw [Nat.add_comm b a] at p2
  have p4 : 2 ^ (a + b + 1) = 2 ^ (a + b) * 2 := Nat.pow_succ ..
  rw [e]
  exact ⟨by omega, by omega⟩
instance bqNeg {r : Rat} {a : Nat} [x : Bq r a] : Bq (-r) a := ⟨by have := x.num; rw [Rat.neg_num]; omega, by rw [Rat.neg_den]; exact x.den⟩
instance bqSub {r s : Rat} {a b : Nat} [x : Bq r a] [y : Bq s b] : Bq (r - s) (a + b + 1) := by
  rw [Rat.sub_eq_add_neg]; infer_instance
instance bqMul {r s : Rat} {a b : Nat} [x : Bq r a] [y : Bq s b] : Bq (r * s) (a + b) := by
  have e : r * s = Rat.divInt (r.num * s.num) (r.den * s.den) := by
    rw [← Rat.divInt_mul_divInt, Rat.num_divInt_den, Rat.num_divInt_den]
  have hb : (r.den : Int) * s.den ≠ 0 := Int.mul_ne_zero (den_ne r) (den_ne s)
  have h1 := dvd_num (t := r.num * s.num) hb
  have h2 := dvd_den (t := r.num * s.num) hb
  have p1 : (r.num * s.num).natAbs < 2 ^ (a + b) := (@szMul r.num s.num a b szNum szNum).h
  have p3 : ((r.den : Int) * (s.den : Int)).natAbs < 2 ^ (a + b) := (@szMul r.den s.den a b szDen szDen).h
  rw [e]
  exact ⟨by omega, by omega⟩
instance bq0 : Bq 0 1 := ⟨by decide, by decide⟩
instance bq1 : Bq 1 1 := ⟨by decide, by decide⟩
/-- a fraction as the laws tell it -/
def fr (r : Rat) : D := .tup [.int r.num, .int (r.den : Nat)]
/-- the same number -/
theorem fr_num (n : Int) : fr (n : Rat) = .tup [.int n, .int 1] := by simp [fr]
end Dl

namespace Dl
open PySem PySem.Spec PyProof.Rows L2
/-! ## evaluation -/
section
variable {env : Ev} {hd : Hd} {f g : SM} {a b c o : EM} {r : AM} {t u : BM} {d e : D} {ds es : List D}
@[simp] theorem e_seq : mSeq f g env hd = (f env hd).bind fun p => match p.1 with | .nx => g p.2.1 p.2.2 | _ => some p := rfl
@[simp] theorem e_skip : mSkip env hd = some (.nx, env, hd) := rfl
@[simp] theorem e_none : mNone env hd = none := rfl
@[simp] theorem e_ret : mRet a env hd = (a env hd).bind fun p => some (.rt p.1, env, p.2) := rfl
@[simp] theorem e_expr : mExpr a env hd = (a env hd).bind fun p => some (.nx, env, p.2) := rfl
@[simp] theorem e_ifs : mIfS t f g env hd = (t env hd).bind fun p => if p.1 = true then f env p.2 else g env p.2 := rfl
@[simp] theorem e_asg {x : GT} : mAsg a x env hd = (a env hd).bind fun p => (x p.1 env p.2).bind fun q => some (.nx, q.1, q.2) := rfl
@[simp] theorem e_gnm {i : Nat} : gNm i d env hd = some (env.set i (some d), hd) := rfl
@[simp] theorem e_gsnil : gsNil [] env hd = some (env, hd) := rfl
@[simp] theorem e_gscons {x : GT} {y : GTs} : gsCons x y (d :: ds) env hd = (x d env hd).bind fun p => y ds p.1 p.2 := rfl
@[simp] theorem e_gtp {y : GTs} : gTp y (.tup ds) env hd = y ds env hd := rfl
@[simp] theorem e_gtpr {y : GTs} {n : Nat} : gTp y (.ref n) env hd = (lsOf hd n).bind fun ds => y ds env hd := rfl
@[simp] theorem e_par {i j : Nat} : mPar i j r env hd = (r env hd).bind fun p => match p.1 with | [a, b] => some (.nx, (env.set i (some a)).set j (some b), p.2) | _ => none := rfl
@[simp] theorem e_var {i : Nat} : mVar i env hd = match env[i]? with | some (some d) => some (d, hd) | _ => none := rfl
@[simp] theorem e_c : mC d env hd = some (d, hd) := rfl
@[simp] theorem e_bin {x : G2} : mBin x a b env hd = (a env hd).bind fun p => (b env p.2).bind fun q => x p.1 q.1 q.2 := rfl
@[simp] theorem e_un {x : D → Hd → Option (D × Hd)} : mUn x a env hd = (a env hd).bind fun p => x p.1 p.2 := rfl
@[simp] theorem e_nil : mNil env hd = some ([], hd) := rfl
@[simp] theorem e_cons : mCons a r env hd = (a env hd).bind fun p => (r env p.2).bind fun q => some (p.1 :: q.1, q.2) := rfl
@[simp] theorem e_call {x : GN} : mCall x r env hd = (r env hd).bind fun p => x p.1 p.2 := rfl
@[simp] theorem e_tup : mTup r env hd = (r env hd).bind fun p => if p.1.length ≤ 1000 then some (.tup p.1, p.2) else none := rfl
@[simp] theorem e_lst : mLst r env hd = (r env hd).bind fun p => if p.1.length ≤ 1000 then some (.ref p.2.length, p.2 ++ [.lst p.1]) else none := rfl
@[simp] theorem e_chain {x y : G2} : mChain x y a b c env hd = (a env hd).bind fun p => (b env p.2).bind fun q => (x p.1 q.1 q.2).bind fun r => match r.1 with
  | .bl true => (c env r.2).bind fun z => y q.1 z.1 z.2
  | .bl false => some (.bl false, r.2)
  | _ => none := rfl
@[simp] theorem e_and : mAnd a b env hd = (a env hd).bind fun p => match p.1 with | .bl true => b env p.2 | .bl false => some (.bl false, p.2) | _ => none := rfl
@[simp] theorem e_or : mOr a b env hd = (a env hd).bind fun p => match p.1 with | .bl false => b env p.2 | .bl true => some (.bl true, p.2) | _ => none := rfl
@[simp] theorem e_not : mNot a env hd = (a env hd).bind fun p => match p.1 with | .bl b => some (.bl (!b), p.2) | _ => none := rfl
@[simp] theorem e_if : mIf t a b env hd = (t env hd).bind fun p => if p.1 = true then a env p.2 else b env p.2 := rfl
@[simp] theorem e_tru_bl {b : Bool} : truD (.bl b) hd = some b := rfl
@[simp] theorem e_tru_int {i : Int} : truD (.int i) hd = some (i != 0) := rfl
@[simp] theorem e_btru : bTru a env hd = (a env hd).bind fun p => (truD p.1 p.2).map fun b => (b, p.2) := rfl
@[simp] theorem e_bcmp : bCmp a env hd = (a env hd).bind fun p => match p.1 with | .bl b => some (b, p.2) | _ => none := rfl
@[simp] theorem e_band : bAnd t u env hd = (t env hd).bind fun p => if p.1 = true then u env p.2 else some (false, p.2) := rfl
@[simp] theorem e_bor : bOr t u env hd = (t env hd).bind fun p => if p.1 = true then some (true, p.2) else u env p.2 := rfl
@[simp] theorem e_bnot : bNot t env hd = (t env hd).bind fun p => some (!p.1, p.2) := rfl
@[simp] theorem e_yes : bYes env hd = some (true, hd) := rfl
@[simp] theorem e_sl {l m : OM} : mSl a l m env hd = (a env hd).bind fun p => (l env p.2).bind fun q => (m env q.2).bind fun r => sliD p.1 q.1 r.1 r.2 := rfl
@[simp] theorem e_onone : oNone env hd = some (none, hd) := rfl
@[simp] theorem e_osome : oSome a env hd = (a env hd).bind fun p => match p.1 with | .int i => some (some i, p.2) | _ => none := rfl
@[simp] theorem e_iseq_tup : iSeq a env hd = (a env hd).bind fun p => match p.1 with
  | .ref n => (lsOf p.2 n).map fun ds => (⟨ds, [(n, ds)]⟩, p.2)
  | .tup ds => some (⟨ds, []⟩, p.2)
  | .fls ds => some (⟨ds, []⟩, p.2)
  | _ => none := rfl
@[simp] theorem e_irange1 : iRange1 r env hd = (r env hd).bind fun p => match p.1 with
  | [.int j] => if -1000000 ≤ j ∧ j ≤ 1000000 then some (⟨rangeL 0 j, []⟩, p.2) else none
  | _ => none := rfl
@[simp] theorem e_izip : iZipM r env hd = (r env hd).bind fun p => match p.1 with
  | [.ref n, .ref m] => (lsOf p.2 n).bind fun xs => (lsOf p.2 m).map fun ys => (⟨zipL xs ys, [(n, xs), (m, ys)]⟩, p.2)
  | [.tup xs, .tup ys] => some (⟨zipL xs ys, []⟩, p.2)
  | _ => none := rfl
@[simp] theorem e_for {i : IM} {x : GT} : mFor i x f env hd = (i env hd).bind fun p => forL p.1.keep x f p.1.items env p.2 := rfl
@[simp] theorem e_while {fu : Ev → Hd → Nat} : mWhile fu t f env hd = whileL t f (fu env hd) env hd := rfl
@[simp] theorem e_comp {i : IM} {x : GT} {vs : List Nat} : mComp i x t a vs env hd = (i env hd).bind fun p => (compL p.1.keep x t a (wipeE env vs) p.1.items p.2).bind fun r => if r.1.length ≤ 1000000 then some (.ref r.2.length, r.2 ++ [.lst r.1]) else none := rfl
@[simp] theorem e_wipe0 : wipeE env [] = env := rfl
@[simp] theorem e_wipe1 {v : Nat} {vs : List Nat} : wipeE env (v :: vs) = (wipeE env vs).set v none := rfl
@[simp] theorem keep_nil : keepOk [] hd := fun p h => by cases h
@[simp] theorem keep_cons {n : Nat} {k : List (Nat × List D)} : keepOk ((n, ds) :: k) hd ↔ lsOf hd n = some ds ∧ keepOk k hd := by
  unfold keepOk
  constructor
  · intro h; exact ⟨h (n, ds) (by simp), fun p hp => h p (by simp [hp])⟩
  · rintro ⟨h1, h2⟩ p hp
    rcases List.mem_cons.mp hp with rfl | hp
    · exact h1
    · exact h2 p hp
@[simp] theorem e_for0 {k : List (Nat × List D)} {x : GT} (h : keepOk k hd) : forL k x f [] env hd = some (.nx, env, hd) := by unfold forL; rw [if_pos h]
theorem e_for1 {k : List (Nat × List D)} {x : GT} (h : keepOk k hd) : forL k x f (d :: ds) env hd = (x d env hd).bind fun p => (f p.1 p.2).bind fun q => match q.1 with
      | .nx => forL k x f ds q.2.1 q.2.2
      | .ct => forL k x f ds q.2.1 q.2.2
      | .bk => some (.nx, q.2.1, q.2.2)
      | .rt v => some (.rt v, q.2.1, q.2.2) := by
  conv => lhs; unfold forL; rw [if_pos h]
  try rfl
@[simp] theorem e_comp0 {k : List (Nat × List D)} {x : GT} (h : keepOk k hd) : compL k x t a env [] hd = some ([], hd) := by unfold compL; rw [if_pos h]
@[simp] theorem e_comp1 {k : List (Nat × List D)} {x : GT} (h : keepOk k hd) : compL k x t a env (d :: ds) hd = (x d env hd).bind fun p => (t p.1 p.2).bind fun b => if b.1 = true then (a p.1 b.2).bind fun q => (compL k x t a env ds q.2).bind fun r => some (q.1 :: r.1, r.2) else compL k x t a env ds b.2 := by
  conv => lhs; unfold compL; rw [if_pos h]
@[simp] theorem e_addii {i j : Int} : addD (.int i) (.int j) hd = some (.int (i + j), hd) := rfl
@[simp] theorem e_subii {i j : Int} : subD (.int i) (.int j) hd = some (.int (i - j), hd) := rfl
@[simp] theorem e_mulii {i j : Int} {m n : Nat} [s : Sz i m] [t : Sz j n] (h : (decide (m ≤ 20000) && decide (n ≤ 20000)) = true) : mulD (.int i) (.int j) hd = some (.int (i * j), hd) := by
  simp only [Bool.and_eq_true, decide_eq_true_eq] at h
  show (if _ then _ else _) = _
  rw [if_pos ⟨s.mono h.1, t.mono h.2⟩]
theorem e_divii {i j : Int} {n : Nat} [t : Sz j n] (hj : j ≠ 0) (h : n ≤ 8000) : divD (.int i) (.int j) hd = some (.int (i.fdiv j), hd) := by
  show (if _ then _ else _) = _
  rw [if_pos ⟨hj, t.mono h⟩]
theorem e_modii {i j : Int} (hj : j ≠ 0) : modD (.int i) (.int j) hd = some (.int (i.fmod j), hd) := by
  show (if _ then _ else _) = _
  rw [if_pos hj]
@[simp] theorem e_neg {i : Int} : negD (.int i) hd = some (.int (-i), hd) := rfl
@[simp] theorem e_cmp {p : Int → Int → Bool} {i j : Int} : cmpI p (.int i) (.int j) hd = some (.bl (p i j), hd) := rfl
@[simp] theorem e_abs {i : Int} : absD [.int i] hd = some (.int (if i < 0 then -i else i), hd) := rfl
@[simp] theorem e_inti {i : Int} : intD [.int i] hd = some (.int i, hd) := rfl
@[simp] theorem e_intb {b : Bool} : intD [.bl b] hd = some (.int (if b then 1 else 0), hd) := rfl
@[simp] theorem e_gcd2 {i j : Int} : gcdD [.int i, .int j] hd = some (.int ((i.natAbs.gcd j.natAbs : Nat) : Int), hd) := rfl
@[simp] theorem e_gcd3 {i j k : Int} : gcdD [.int i, .int j, .int k] hd = some (.int (((i.natAbs.gcd j.natAbs).gcd k.natAbs : Nat) : Int), hd) := rfl
@[simp] theorem e_lent : lenD [.tup ds] hd = some (.int ds.length, hd) := rfl
@[simp] theorem e_lenf : lenD [.fls ds] hd = some (.int ds.length, hd) := rfl
@[simp] theorem e_lenr {n : Nat} : lenD [.ref n] hd = (lsOf hd n).map fun es => (.int es.length, hd) := rfl
@[simp] theorem e_max2 {i j : Int} : maxD [.int i, .int j] hd = some (.int (if j > i then j else i), hd) := rfl
@[simp] theorem e_min2 {i j : Int} : minD [.int i, .int j] hd = some (.int (if j < i then j else i), hd) := rfl
@[simp] theorem e_ixt {i : Int} : idxD (.tup ds) (.int i) hd = (atI ds i).map fun d => (d, hd) := rfl
@[simp] theorem e_ixf {i : Int} : idxD (.fls ds) (.int i) hd = (atI ds i).map fun d => (d, hd) := rfl
@[simp] theorem e_ixr {n : Nat} {i : Int} : idxD (.ref n) (.int i) hd = (lsOf hd n).bind fun ds => (atI ds i).map fun d => (d, hd) := rfl
theorem atI_at {i : Nat} (h : i < ds.length) : atI ds (i : Int) = ds[i]? := by
  unfold atI ixN
  rw [if_pos (by omega), if_pos (by omega)]
  simp
@[simp] theorem at0 : atI (d :: ds) 0 = some d := by rw [show (0 : Int) = ((0 : Nat) : Int) from rfl, atI_at (by simp)]; rfl
@[simp] theorem at1 {x : D} : atI (d :: x :: ds) 1 = some x := by rw [show (1 : Int) = ((1 : Nat) : Int) from rfl, atI_at (by simp)]; rfl
@[simp] theorem at2 {x y : D} : atI (d :: x :: y :: ds) 2 = some y := by rw [show (2 : Int) = ((2 : Nat) : Int) from rfl, atI_at (by simp)]; rfl
@[simp] theorem at3 {x y z : D} : atI (d :: x :: y :: z :: ds) 3 = some z := by rw [show (3 : Int) = ((3 : Nat) : Int) from rfl, atI_at (by simp)]; rfl
@[simp] theorem e_ls_new : lsOf (hd ++ [.lst ds]) hd.length = some ds := by unfold lsOf; simp
@[simp] theorem e_ls_new1 {o1 : Ob} : lsOf (hd ++ [.lst ds, o1]) hd.length = some ds := by unfold lsOf; simp
@[simp] theorem e_tupleT : tupleD [.tup ds] hd = some (.tup ds, hd) := rfl
@[simp] theorem e_tupleR {n : Nat} : tupleD [.ref n] hd = (lsOf hd n).map fun es => (.tup es, hd) := rfl
@[simp] theorem e_all {n : Nat} : allD [.ref n] hd = (lsOf hd n).bind fun es => (blsOf es).map fun ns => (.bl (ns.all id), hd) := rfl
@[simp] theorem e_bls0 : blsOf [] = some [] := rfl
@[simp] theorem e_bls1 {b : Bool} : blsOf (.bl b :: ds) = (blsOf ds).map (b :: ·) := rfl
@[simp] theorem e_isi_ii {i : Int} : isiD [.int i, .raw (.ty "int")] hd = some (.bl true, hd) := by
  simp only [isiD, tyN, Option.bind_some, show kitB "int" "int" = some true by decide +kernel, Option.map_some]
@[simp] theorem e_isi_ib {i : Int} : isiD [.int i, .raw (.ty "bool")] hd = some (.bl false, hd) := by
  simp only [isiD, tyN, Option.bind_some, show kitB "int" "bool" = some false by decide +kernel, Option.map_some]
@[simp] theorem e_isi_tt : isiD [.tup ds, .raw (.ty "tuple")] hd = some (.bl true, hd) := by
  simp only [isiD, tyN, Option.bind_some, show kitB "tuple" "tuple" = some true by decide +kernel, Option.map_some]
theorem e_fn {n m : Nat} (h : ds.length = n) : mFn n m f ds hd = (f (ds.map some ++ List.replicate m none) hd).bind fun p => match p.1 with | .nx => some (.non, p.2.2) | .rt d => some (d, p.2.2) | _ => none := by
  unfold mFn; rw [if_pos h]; try rfl
end
end Dl

namespace Dl
open PySem PySem.Spec PyProof.Rows L2
/-! ## fractions: mathematics -/
theorem gcd_dvd_l (t b : Int) : ((t.natAbs.gcd b.natAbs : Nat) : Int) ∣ t := Int.natAbs_dvd_natAbs.mp (by simpa using Nat.gcd_dvd_left t.natAbs b.natAbs)
theorem gcd_dvd_r (t b : Int) : ((t.natAbs.gcd b.natAbs : Nat) : Int) ∣ b := Int.natAbs_dvd_natAbs.mp (by simpa using Nat.gcd_dvd_right t.natAbs b.natAbs)
theorem gcd_pos_of {t b : Int} (hb : b ≠ 0) : 0 < t.natAbs.gcd b.natAbs := Nat.gcd_pos_of_pos_right _ (by omega)
theorem fdiv_exact {x g q : Int} (hg : g ≠ 0) (h : x = g * q) : x.fdiv g = q := by
  subst h
  rw [Int.fdiv_eq_ediv_of_dvd (Int.dvd_mul_right g q), Int.mul_ediv_cancel_left _ hg]
theorem frac_num {t b : Int} (hb : b ≠ 0) {s : Int} (hs : s = if 0 < b then ((t.natAbs.gcd b.natAbs : Nat) : Int) else -((t.natAbs.gcd b.natAbs : Nat) : Int)) : t.fdiv s = (Rat.divInt t b).num := by
  obtain ⟨q, hq⟩ := gcd_dvd_l t b
  have hg := gcd_pos_of (t := t) hb
  rw [Rat.num_divInt]
  have e : (b.gcd t : Int) = ((t.natAbs.gcd b.natAbs : Nat) : Int) := by rw [Int.gcd_comm]; rfl
  rw [e]
  generalize hG : ((t.natAbs.gcd b.natAbs : Nat) : Int) = G at *
  have hG0 : G ≠ 0 := by omega
  split at hs
  · rename_i h
    rw [Int.sign_eq_one_of_pos h, hs, fdiv_exact hG0 hq, Int.one_mul]
    conv => rhs; rw [hq]
    rw [Int.mul_ediv_cancel_left _ hG0]
  · rename_i h
    have hn : b < 0 := by omega
    rw [Int.sign_eq_neg_one_of_neg hn, hs, fdiv_exact (q := -q) (by omega) (by rw [Int.neg_mul_neg]; exact hq)]
    have : -1 * t = G * (-q) := by rw [hq, Int.mul_neg, Int.neg_one_mul]
    rw [this, Int.mul_ediv_cancel_left _ hG0]
theorem frac_den {t b : Int} (hb : b ≠ 0) {s : Int} (hs : s = if 0 < b then ((t.natAbs.gcd b.natAbs : Nat) : Int) else -((t.natAbs.gcd b.natAbs : Nat) : Int)) : b.fdiv s = ((Rat.divInt t b).den : Nat) := by
  obtain ⟨q, hq⟩ := gcd_dvd_r t b
  have hg := gcd_pos_of (t := t) hb
  rw [Rat.den_divInt, if_neg hb]
  have e : b.gcd t = t.natAbs.gcd b.natAbs := by rw [Int.gcd_comm]; rfl
  rw [e]
  have hG0 : ((t.natAbs.gcd b.natAbs : Nat) : Int) ≠ 0 := by omega
  have key : ((b.natAbs / t.natAbs.gcd b.natAbs : Nat) : Int) = (b.natAbs : Int) / ((t.natAbs.gcd b.natAbs : Nat) : Int) := by simp
  rw [key]
  generalize hG : ((t.natAbs.gcd b.natAbs : Nat) : Int) = G at *
  split at hs
  · rename_i h
    have hbn : (b.natAbs : Int) = b := by omega
    rw [hs, fdiv_exact hG0 hq, hbn]
    conv => rhs; rw [hq]
    rw [Int.mul_ediv_cancel_left _ hG0]
  · rename_i h
    have hbn : (b.natAbs : Int) = -b := by omega
    rw [hs, fdiv_exact (q := -q) (by omega) (by rw [Int.neg_mul_neg]; exact hq), hbn]
    have : -b = G * (-q) := by rw [Int.mul_neg, ← hq]
    rw [this, Int.mul_ediv_cancel_left _ hG0]
theorem divInt_add (r s : Rat) : Rat.divInt (r.num * s.den + s.num * r.den) (r.den * s.den) = r + s := by
  rw [← Rat.divInt_add_divInt _ _ (den_ne r) (den_ne s), Rat.num_divInt_den, Rat.num_divInt_den]
theorem divInt_sub (r s : Rat) : Rat.divInt (r.num * s.den - s.num * r.den) (r.den * s.den) = r - s := by
  rw [← Rat.divInt_sub_divInt _ _ (den_ne r) (den_ne s), Rat.num_divInt_den, Rat.num_divInt_den]
theorem divInt_mul (r s : Rat) : Rat.divInt (r.num * s.num) (r.den * s.den) = r * s := by
  rw [← Rat.divInt_mul_divInt, Rat.num_divInt_den, Rat.num_divInt_den]
theorem den_mul_ne (r s : Rat) : (r.den : Int) * s.den ≠ 0 := Int.mul_ne_zero (den_ne r) (den_ne s)
/-- a gcd is small -/
theorem gcd_sz {t b : Int} {n : Nat} [s : Sz b n] (hb : b ≠ 0) : Sz ((t.natAbs.gcd b.natAbs : Nat) : Int) n := ⟨by
  have := Nat.le_of_dvd (by omega) (Nat.gcd_dvd_right t.natAbs b.natAbs)
  have := s.h
  omega⟩
/-! ## points -/
def pt (x y : Rat) : D := .tup [fr x, fr y]
def hG (x y : Rat) : Nat := Nat.gcd x.den y.den
def hX (x y : Rat) : Int := x.num * ((y.den / hG x y : Nat) : Int)
def hY (x y : Rat) : Int := y.num * ((x.den / hG x y : Nat) : Int)
def hB (x y : Rat) : Int := ((x.den / hG x y : Nat) : Int) * (y.den : Int)
/-- a point as the program has it -/
def hp (x y : Rat) : D := .tup [.int (hX x y), .int (hY x y), .int (hB x y)]
theorem hG_pos (x y : Rat) : 0 < hG x y := Nat.gcd_pos_of_pos_left _ x.den_pos
theorem hG_l (x y : Rat) : x.den / hG x y * hG x y = x.den := Nat.div_mul_cancel (Nat.gcd_dvd_left _ _)
theorem hG_r (x y : Rat) : y.den / hG x y * hG x y = y.den := Nat.div_mul_cancel (Nat.gcd_dvd_right _ _)
theorem hl_pos (x y : Rat) : 0 < x.den / hG x y := Nat.pos_of_ne_zero fun h => by
  have := hG_l x y; rw [h, Nat.zero_mul] at this; have := x.den_pos; omega
theorem hr_pos (x y : Rat) : 0 < y.den / hG x y := Nat.pos_of_ne_zero fun h => by
  have := hG_r x y; rw [h, Nat.zero_mul] at this; have := y.den_pos; omega
theorem hB_pos (x y : Rat) : 0 < hB x y := by
  unfold hB
  have := hl_pos x y
  have := y.den_pos
  exact Int.mul_pos (by omega) (by omega)
theorem hB_eq (x y : Rat) : hB x y = (y.den / hG x y : Nat) * (x.den : Int) := by
  unfold hB
  have h1 := hG_l x y
  have h2 := hG_r x y
  generalize x.den / hG x y = p at *
  generalize y.den / hG x y = q at *
  rw [← h1, ← h2]
  push_cast
  grind
instance szHX {x y : Rat} {a b : Nat} [r : Bq x a] [s : Bq y b] : Sz (hX x y) (a + b) := ⟨by
  unfold hX
  have := Nat.div_le_self y.den (hG x y)
  have h1 : Sz (((y.den / hG x y : Nat)) : Int) b := ⟨by rw [Int.natAbs_natCast]; exact Nat.lt_of_le_of_lt this s.den⟩
  exact (@szMul _ _ a b szNum h1).h⟩
instance szHY {x y : Rat} {a b : Nat} [r : Bq x a] [s : Bq y b] : Sz (hY x y) (b + a) := ⟨by
  unfold hY
  have := Nat.div_le_self x.den (hG x y)
  have h1 : Sz (((x.den / hG x y : Nat)) : Int) a := ⟨by rw [Int.natAbs_natCast]; exact Nat.lt_of_le_of_lt this r.den⟩
  exact (@szMul _ _ b a szNum h1).h⟩
instance szHB {x y : Rat} {a b : Nat} [r : Bq x a] [s : Bq y b] : Sz (hB x y) (a + b) := ⟨by
  unfold hB
  have := Nat.div_le_self x.den (hG x y)
  have h1 : Sz (((x.den / hG x y : Nat)) : Int) a := ⟨by rw [Int.natAbs_natCast]; exact Nat.lt_of_le_of_lt this r.den⟩
  exact (@szMul _ _ a b h1 szDen).h⟩
theorem cast_num (x : Rat) : (x.num : Rat) = x * (x.den : Rat) := by
  have h := Rat.num_divInt_den x
  rw [Rat.divInt_eq_div] at h
  have hd : ((x.den : Int) : Rat) ≠ 0 := by
    have := x.den_pos
    intro z
    have : ((x.den : Int) : Rat) = ((0 : Int) : Rat) := by simpa using z
    rw [Rat.intCast_inj] at this; omega
  have e : ((x.den : Int) : Rat) = (x.den : Rat) := rfl
  rw [e] at h hd
  grind
theorem hX_eq (x y : Rat) : (hX x y : Rat) = x * (hB x y : Rat) := by
  rw [hB_eq]
  unfold hX
  rw [Rat.intCast_mul, Rat.intCast_mul, cast_num x]
  have e : ((x.den : Int) : Rat) = (x.den : Rat) := rfl
  rw [e]
  grind
theorem hY_eq (x y : Rat) : (hY x y : Rat) = y * (hB x y : Rat) := by
  unfold hY hB
  rw [Rat.intCast_mul, Rat.intCast_mul, cast_num y]
  have e : ((y.den : Int) : Rat) = (y.den : Rat) := rfl
  rw [e]
  grind
/-- no number above 1 divides all three -/
theorem hp_gcd (x y : Rat) : ((hX x y).natAbs.gcd (hY x y).natAbs).gcd (hB x y).natAbs = 1 := by
  have eX : (hX x y).natAbs = x.num.natAbs * (y.den / hG x y) := by unfold hX; rw [Int.natAbs_mul, Int.natAbs_natCast]
  have eY : (hY x y).natAbs = y.num.natAbs * (x.den / hG x y) := by unfold hY; rw [Int.natAbs_mul, Int.natAbs_natCast]
  have eB : (hB x y).natAbs = x.den * (y.den / hG x y) := by rw [hB_eq, Int.natAbs_mul, Int.natAbs_natCast, Int.natAbs_natCast, Nat.mul_comm]
  have c1 : Nat.gcd x.num.natAbs x.den = 1 := x.reduced
  have c2 : Nat.Coprime y.num.natAbs (y.den / hG x y) := Nat.Coprime.coprime_dvd_right (Nat.div_dvd_of_dvd (Nat.gcd_dvd_right _ _)) y.reduced
  have c3 : Nat.Coprime (x.den / hG x y) (y.den / hG x y) := Nat.coprime_div_gcd_div_gcd (hG_pos x y)
  rw [eX, eY, eB, Nat.gcd_assoc, Nat.gcd_comm (y.num.natAbs * _), ← Nat.gcd_assoc, Nat.gcd_mul_right, c1, Nat.one_mul]
  exact Nat.Coprime.symm (Nat.Coprime.mul_left c2 c3)
end Dl

namespace Dl
open PySem PySem.Spec PyProof.Rows L2
theorem canon {X Y B : Int} {x y : Rat} (hB0 : 0 < B) (ex : (X : Rat) = x * (B : Rat)) (ey : (Y : Rat) = y * (B : Rat)) {g : Int} (hg : g = (((X.natAbs.gcd Y.natAbs).gcd B.natAbs : Nat) : Int)) :
    X = g * hX x y ∧ Y = g * hY x y ∧ B = g * hB x y ∧ 0 < g := by
  have hb := hB_pos x y
  have c1 : X * hB x y = hX x y * B := by
    have h := hX_eq x y
    rw [← Rat.intCast_inj, Rat.intCast_mul, Rat.intCast_mul, ex, h]; grind
  have c2 : Y * hB x y = hY x y * B := by
    have h := hY_eq x y
    rw [← Rat.intCast_inj, Rat.intCast_mul, Rat.intCast_mul, ey, h]; grind
  have n1 : X.natAbs * (hB x y).natAbs = (hX x y).natAbs * B.natAbs := by rw [← Int.natAbs_mul, ← Int.natAbs_mul, c1]
  have n2 : Y.natAbs * (hB x y).natAbs = (hY x y).natAbs * B.natAbs := by rw [← Int.natAbs_mul, ← Int.natAbs_mul, c2]
  have key : ((X.natAbs.gcd Y.natAbs).gcd B.natAbs) * (hB x y).natAbs = B.natAbs := by
    rw [← Nat.gcd_mul_right, ← Nat.gcd_mul_right, n1, n2, Nat.mul_comm B.natAbs, Nat.gcd_mul_right, Nat.gcd_mul_right, hp_gcd, Nat.one_mul]
  have eB : B = g * hB x y := by
    have a1 : (B.natAbs : Int) = B := by omega
    have a2 : ((hB x y).natAbs : Int) = hB x y := by omega
    have key' : (((X.natAbs.gcd Y.natAbs).gcd B.natAbs : Nat) : Int) * ((hB x y).natAbs : Int) = (B.natAbs : Int) := by rw [← Int.natCast_mul, key]
    rw [a2, a1] at key'
    rw [hg]
    exact key'.symm
  have gp : 0 < g := by
    rcases Int.lt_trichotomy g 0 with h | h | h
    · have : g * hB x y < 0 := Int.mul_neg_of_neg_of_pos h hb
      omega
    · rw [h, Int.zero_mul] at eB; omega
    · exact h
  refine ⟨?_, ?_, eB, gp⟩
  · apply Int.eq_of_mul_eq_mul_right (a := hB x y) (by omega)
    rw [c1]; conv => lhs; rw [eB]
    grind
  · apply Int.eq_of_mul_eq_mul_right (a := hB x y) (by omega)
    rw [c2]; conv => lhs; rw [eB]
    grind
/-- the side -/
def sg (r : Rat) : Int := if r = 0 then 0 else if 0 < r then 1 else -1
theorem int_sg {T : Int} {k r : Rat} (h : (T : Rat) = k * r) (hk : 0 < k) : (if T = 0 then (0 : Int) else if 0 < T then 1 else -1) = sg r := by
  have h0 : T = 0 ↔ r = 0 := by
    constructor
    · intro z
      rw [z] at h
      have : k * r = 0 := by rw [← h]; rfl
      rcases Rat.mul_eq_zero.mp this with q | q
      · rw [q] at hk; exact absurd hk (by decide)
      · exact q
    · intro z
      rw [z, Rat.mul_zero] at h
      exact Rat.intCast_inj.mp (by rw [h]; rfl)
  have h1 : 0 < T ↔ 0 < r := by
    have e : (0 < T) ↔ (0 : Rat) < (T : Rat) := by
      have := @Rat.intCast_lt_intCast 0 T
      exact this.symm
    rw [e, h]
    constructor
    · intro z
      by_cases q : r < 0
      · exfalso
        have : k * r < k * 0 := Rat.mul_lt_mul_of_pos_left q hk
        rw [Rat.mul_zero] at this
        exact absurd z (Rat.not_lt.mpr (Rat.le_of_lt this))
      · by_cases q' : r = 0
        · rw [q', Rat.mul_zero] at z; exact absurd z (by decide)
        · grind
    · intro z
      have : k * 0 < k * r := Rat.mul_lt_mul_of_pos_left z hk
      rwa [Rat.mul_zero] at this
  unfold sg
  by_cases c : T = 0
  · rw [if_pos c, if_pos (h0.mp c)]
  · rw [if_neg c, if_neg (fun z => c (h0.mpr z))]
    by_cases d : 0 < T
    · rw [if_pos d, if_pos (h1.mp d)]
    · rw [if_neg d, if_neg (fun z => d (h1.mpr z))]
def crs (ax ay bx by_ cx cy : Rat) : Rat := (bx - ax) * (cy - ay) - (by_ - ay) * (cx - ax)
def detI (a b c d e f g h i : Int) : Int := a * (e * i - f * h) - b * (d * i - f * g) + c * (d * h - e * g)
theorem int_pos_rat {b : Int} (h : 0 < b) : (0 : Rat) < (b : Rat) := (@Rat.intCast_lt_intCast 0 b).mpr h
theorem det_sg (ax ay bx by_ cx cy : Rat) :
    (if detI (hX ax ay) (hY ax ay) (hB ax ay) (hX bx by_) (hY bx by_) (hB bx by_) (hX cx cy) (hY cx cy) (hB cx cy) = 0 then (0 : Int) else if 0 < detI (hX ax ay) (hY ax ay) (hB ax ay) (hX bx by_) (hY bx by_) (hB bx by_) (hX cx cy) (hY cx cy) (hB cx cy) then 1 else -1) = sg (crs ax ay bx by_ cx cy) := by
  have h1 := hX_eq ax ay
  have h2 := hY_eq ax ay
  have h3 := hX_eq bx by_
  have h4 := hY_eq bx by_
  have h5 := hX_eq cx cy
  have h6 := hY_eq cx cy
  have p1 := int_pos_rat (hB_pos ax ay)
  have p2 := int_pos_rat (hB_pos bx by_)
  have p3 := int_pos_rat (hB_pos cx cy)
  refine int_sg (k := (hB ax ay : Rat) * (hB bx by_ : Rat) * (hB cx cy : Rat)) ?_ (Rat.mul_pos (Rat.mul_pos p1 p2) p3)
  unfold detI crs
  simp only [Rat.intCast_add, Rat.intCast_sub, Rat.intCast_mul, h1, h2, h3, h4, h5, h6]
  grind
section
variable {hd : Hd}
@[simp] theorem e_eqii {i j : Int} : eqD (.int i) (.int j) hd = some (.bl (i == j), hd) := by simp [eqD, strsOf, toPy, PyData.eqv]
@[simp] theorem e_neii {i j : Int} : neD (.int i) (.int j) hd = some (.bl (!(i == j)), hd) := by simp [neD, strsOf, toPy, PyData.eqv]
@[simp] theorem e_eqss {x y : Str} : eqD (.str x) (.str y) hd = some (.bl (decide (x = y)), hd) := rfl
@[simp] theorem e_ness {x y : Str} : neD (.str x) (.str y) hd = some (.bl (!decide (x = y)), hd) := rfl
/-- repr of data -/
theorem repr_of {d : D} {p : PyData} (h : toPy hd 8 d = some p) (h1 : p.showable = true) (h2 : pw p ≤ 16000000) : reprD [d] hd = some (.str p.shown, hd) := by
  show (toPy hd 8 d).bind _ = _
  rw [h, Option.bind_some, if_pos ⟨h1, h2⟩]
theorem show_int {i : Int} {n : Nat} [s : Sz i n] (h : n ≤ 1920) : (PyData.int i).showable = true := by
  simp only [PyData.showable, decide_eq_true_eq]
  exact PySem.Flt.log2_lt_of (by decide) (s.mono h)
end
end Dl

namespace Dl
open PySem PySem.Spec PyProof.Rows L2
/-! ## a pot of draws -/
structure Pot (n : Nat) (hd : Hd) (c : Nat) : Prop where
  ex : ∃ o m k : Int, hd[n]? = some (.lst [.int o, .int m, .int k]) ∧ 0 ≤ o ∧ o.natAbs < 2 ^ 1000 ∧ 0 ≤ m ∧ m.natAbs < 2 ^ 62 ∧ 0 ≤ k ∧ k ≤ (c : Int)
/-- all but the pot stays -/
def Kp (n : Nat) (hd hd' : Hd) : Prop := hd.length ≤ hd'.length ∧ ∀ m, m ≠ n → m < hd.length → hd'[m]? = hd[m]?
theorem Kp.refl {n : Nat} {hd : Hd} : Kp n hd hd := ⟨Nat.le_refl _, fun _ _ _ => rfl⟩
theorem Kp.trans {n : Nat} {a b c : Hd} (h : Kp n a b) (k : Kp n b c) : Kp n a c := ⟨Nat.le_trans h.1 k.1, fun m hm hl => (k.2 m hm (Nat.lt_of_lt_of_le hl h.1)).trans (h.2 m hm hl)⟩
theorem Kp.app {n : Nat} {a : Hd} (l : Hd) : Kp n a (a ++ l) := ⟨by simp, fun m _ hl => List.getElem?_append_left hl⟩
theorem Kp.set {n : Nat} {a : Hd} {o : Ob} : Kp n a (a.set n o) := ⟨by simp, fun m hm _ => List.getElem?_set_ne (fun e => hm e.symm)⟩
theorem Pot.app {n c : Nat} {a : Hd} (P : Pot n a c) (l : Hd) : Pot n (a ++ l) c := by
  obtain ⟨o, m, k, h, r⟩ := P.ex
  exact ⟨o, m, k, by rw [List.getElem?_append_left (List.getElem?_eq_some_iff.mp h).1]; exact h, r⟩
theorem Pot.mono {n c d : Nat} {a : Hd} (P : Pot n a c) (h : c ≤ d) : Pot n a d := by
  obtain ⟨o, m, k, e, a1, a2, a3, a4, a5, a6⟩ := P.ex
  exact ⟨o, m, k, e, a1, a2, a3, a4, a5, by omega⟩
theorem Pot.lt {n c : Nat} {a : Hd} (P : Pot n a c) : n < a.length := by
  obtain ⟨o, m, k, h, r⟩ := P.ex
  exact (List.getElem?_eq_some_iff.mp h).1
theorem lsOf_get {n : Nat} {hd : Hd} {ds : List D} (h : hd[n]? = some (.lst ds)) : lsOf hd n = some ds := by unfold lsOf; rw [h]
theorem lsOf_of {n : Nat} {hd : Hd} {ds : List D} (h : lsOf hd n = some ds) : hd[n]? = some (.lst ds) := by
  unfold lsOf at h
  split at h
  · cases h; assumption
  · cases h
theorem Kp.ls {n m : Nat} {a b : Hd} {ds : List D} (h : Kp n a b) (hm : m ≠ n) (e : lsOf a m = some ds) : lsOf b m = some ds := by
  have e' := lsOf_of e
  exact lsOf_get ((h.2 m hm (List.getElem?_eq_some_iff.mp e').1).trans e')
section
variable {env : Ev} {hd : Hd} {a b o i : EM} {d : D}
@[simp] theorem e_gsb : gSb o i d env hd = (o env hd).bind fun p => (i env p.2).bind fun q => match p.1, q.1 with
  | .ref n, .int k => match q.2[n]? with
    | some (.lst ds) => (ixN ds.length k).map fun j => (env, q.2.set n (.lst (ds.set j d)))
    | _ => none
  | _, _ => none := rfl
theorem e_powii {i j : Int} {m : Nat} [s : Sz i m] (h0 : 0 ≤ j) (h1 : j ≤ 100) (h : m ≤ 20000) : powD (.int i) (.int j) hd = some (.int (i ^ j.toNat), hd) := by
  show (if _ then _ else _) = _
  rw [if_pos ⟨h0, h1, s.mono h⟩]
end
theorem fmod_lo {x u : Int} (h : 0 < u) : 0 ≤ x.fmod u := by rw [Int.fmod_eq_emod_of_nonneg _ (by omega)]; exact Int.emod_nonneg _ (by omega)
theorem fmod_hi {x u : Int} (h : 0 < u) : x.fmod u < u := by rw [Int.fmod_eq_emod_of_nonneg _ (by omega)]; exact Int.emod_lt_of_pos _ h
theorem fdiv_nn {x u : Int} (hx : 0 ≤ x) (h : 0 < u) : 0 ≤ x.fdiv u ∧ x.fdiv u ≤ x := by
  rw [Int.fdiv_eq_ediv_of_nonneg _ (by omega)]
  exact ⟨Int.ediv_nonneg hx (by omega), Int.ediv_le_self _ hx⟩
theorem sz_of {x : Int} {n : Nat} (h0 : 0 ≤ x) (h : x < 2 ^ n) : Sz x n := ⟨by
  have e : ((x.natAbs : Nat) : Int) = x := by omega
  have : ((x.natAbs : Nat) : Int) < ((2 ^ n : Nat) : Int) := by rw [e]; simpa using h
  omega⟩
end Dl

namespace Dl
open PySem PySem.Spec PyProof.Rows L2
/-! ## more of evaluation -/
section
variable {env : Ev} {hd : Hd} {d e : D} {ds es : List D}
@[simp] theorem e_par3 {i j l : Nat} {r : AM} : mPar3 i j l r env hd = (r env hd).bind fun p => match p.1 with | [a, b, c] => some (.nx, ((env.set i (some a)).set j (some b)).set l (some c), p.2) | _ => none := rfl
@[simp] theorem e_max3 {i j k : Int} : maxD [.int i, .int j, .int k] hd = some (.int (if j > i then (if k > j then k else j) else (if k > i then k else i)), hd) := rfl
theorem e_addtt (h : (decide (ds.length ≠ 0) && decide (es.length ≠ 0) && decide (ds.length + es.length ≤ 1000000)) = true) : addD (.tup ds) (.tup es) hd = some (.tup (ds ++ es), hd) := by
  simp only [Bool.and_eq_true, decide_eq_true_eq] at h
  show (if _ then _ else _) = _
  rw [if_pos ⟨h.1.1, h.1.2, h.2⟩]
theorem e_maxr {n : Nat} {i : Int} {is : List Int} (hl : lsOf hd n = some ((i :: is).map .int)) : maxD [.ref n] hd = some (.int (maxI i is), hd) := by
  have h : intsOf ((i :: is).map D.int) = some (i :: is) := by
    clear hl
    generalize i :: is = l
    induction l with
    | nil => rfl
    | cons x l ih => simp [intsOf, ih]
  show ((lsOf hd n).bind _) = _
  rw [hl, Option.bind_some, h]
theorem maxI_le : ∀ (ms : List Int) (m b : Int), maxI m ms ≤ b → m ≤ b ∧ ∀ y ∈ ms, y ≤ b := by
  intro ms m b h
  have g := maxI_ge ms m
  exact ⟨Int.le_trans g.1 h, fun y hy => Int.le_trans (g.2.2 y hy) h⟩
/-- the comprehension of a plain tuple of ints -/
theorem comp_abs {v : Nat} : ∀ (is : List Int) (hd : Hd) (env : Ev), v < env.length →
    compL [] (gNm v) bYes (mCall absD (mCons (mVar v) mNil)) env (is.map .int) hd = some (is.map fun i => .int (if i < 0 then -i else i), hd)
  | [], hd, env, _ => by simp
  | i :: is, hd, env, h => by
    rw [List.map_cons, e_comp1 keep_nil]
    simp only [e_gnm, Option.bind_some, e_yes, if_true, e_call, e_cons, e_var, e_nil, List.getElem?_set_self h, e_abs]
    rw [comp_abs is hd env h]
    rfl
theorem Bq.mono {r : Rat} {n m : Nat} (b : Bq r n) (h : n ≤ m) : Bq r m := ⟨Nat.lt_of_lt_of_le b.num (Nat.pow_le_pow_right (by decide) h), Nat.lt_of_lt_of_le b.den (Nat.pow_le_pow_right (by decide) h)⟩
theorem range3 : rangeL 0 3 = [.int 0, .int 1, .int 2] := rfl
end
/-! ## whole coordinates -/
theorem hG_one {x y : Rat} (h : hB x y = 1) : x.den = 1 ∧ y.den = 1 := by
  have h1 : x.den / hG x y * y.den = 1 := by
    have := h
    unfold hB at this
    exact_mod_cast this
  have h2 : y.den = 1 := Nat.eq_one_of_mul_eq_one_left h1
  have h3 : y.den / hG x y * x.den = 1 := by
    have := hB_eq x y
    rw [h] at this
    exact_mod_cast this.symm
  exact ⟨Nat.eq_one_of_mul_eq_one_left h3, h2⟩
theorem hp_int (i j : Int) : hp (i : Rat) (j : Rat) = .tup [.int i, .int j, .int 1] := by
  unfold hp hX hY hB hG
  simp
theorem whole_of {x y : Rat} (h : hB x y = 1) : x = (hX x y : Rat) ∧ y = (hY x y : Rat) := by
  have h1 := hX_eq x y
  have h2 := hY_eq x y
  rw [h] at h1 h2
  constructor
  · rw [h1]; grind
  · rw [h2]; grind
theorem hp_whole {x y : Rat} (h : hB x y = 1) : hp x y = .tup [.int (hX x y), .int (hY x y), .int 1] := by
  unfold hp; rw [h]
def half : Rat := ⟨1, 2, by decide, by decide⟩
instance bqHalf : Bq half 2 := ⟨by decide, by decide⟩
theorem fr_half : D.tup [.int 1, .int 2] = fr half := rfl
theorem half_two : half + half = 1 := by decide +kernel
theorem half_nn : 0 ≤ half := by decide +kernel
theorem half_le : half ≤ 1 := by decide +kernel
theorem sg_neg (r : Rat) : sg (-r) = -sg r := by
  unfold sg
  by_cases h : r = 0
  · subst h; simp
  · by_cases h1 : 0 < r
    · have a : ¬ (-r = 0) := by grind
      have b : ¬ (0 < -r) := by grind
      simp [h, h1, a, b]
    · have a : ¬ (-r = 0) := by grind
      have b : 0 < -r := by grind
      simp [h, h1, a, b]
theorem sg_sz (r : Rat) : Sz (sg r) 1 := by
  constructor
  unfold sg
  split
  · decide
  · split <;> decide
theorem sg_num (r : Rat) : (if decide (0 < r.num) = true then (1 : Int) else 0) - (if decide (r.num < 0) = true then (1 : Int) else 0) = sg r := by
  unfold sg
  have h0 : 0 ≤ r ↔ 0 ≤ r.num := Rat.num_nonneg.symm
  have h1 : 0 ≤ -r ↔ 0 ≤ (-r).num := Rat.num_nonneg.symm
  rw [Rat.neg_num] at h1
  by_cases a : 0 ≤ r.num
  · by_cases b : 0 ≤ -r.num
    · have e : r.num = 0 := by omega
      have z : r = 0 := by have := h0.mpr a; have := h1.mpr b; grind
      simp [e, z]
    · have z : ¬ r = 0 := fun z => by subst z; simp at b
      have p : 0 < r := by have := h0.mpr a; grind
      simp [z, p, show 0 < r.num by omega, show ¬ r.num < 0 by omega]
  · have z : ¬ r = 0 := fun z => by subst z; simp at a
    have p : ¬ 0 < r := fun p => a (h0.mp (by grind))
    simp [z, p, show ¬ 0 < r.num by omega, show r.num < 0 by omega]
end Dl

namespace Dl
open PySem PySem.Spec PyProof.Rows L2
/-! ## an exception that is caught and kept -/
theorem caught_ok {P : Program} {w : World} {H : Hp} {h : Heap} {a : Addr} {cls : Value} {d : Option Addr} {oe : Obj} (e : h.get? a = some oe) (z : Zc cls d oe) (v : ∃ vs, oe.data = .fields vs) : ObjOk P w H h a (Caught cls d a) :=
  ⟨⟨oe, e, z, v⟩, ⟨oe, e⟩, fun _ _ ⟨o, q, r⟩ k => ⟨o, k o q, r⟩⟩
section
variable {X : Cx} {pins : List (Addr × Obj)} {σ : L2.St} {H : Hp} {s : Shared} {a : Addr} {oe : Obj} {cls : Value} {d : Option Addr}
/-- what was pinned alone is noted in the abstract heap -/
theorem keepX (I : Inv X ((a, oe) :: pins) σ H s) (z : Zc cls d oe) (v : ∃ vs, oe.data = .fields vs) (new : X.s_0.heap.get? a = none) (np : ∀ p ∈ X.pn ++ pins, p.1 ≠ a) : Inv X pins σ (upd H a (Caught cls d a)) s := by
  have here : (a, oe) ∈ X.pn ++ (a, oe) :: pins := List.mem_append_right _ List.mem_cons_self
  obtain ⟨ha, na, nL, nF, nc⟩ := I.pin (a, oe) here
  have off : ∀ {b : Addr} {u : HO}, H b = some u → b ≠ a := fun {b u} q w => by
    rw [w] at q
    have na' : H a = none := na
    rw [na'] at q
    cases q
  have sub : ∀ p ∈ X.pn ++ pins, p ∈ X.pn ++ (a, oe) :: pins := fun p hp => (List.mem_append.mp hp).elim (fun q => List.mem_append_left _ q) fun q => List.mem_append_right _ (List.mem_cons_of_mem _ q)
  exact {
    ok := I.ok
    os := I.os
    bare := I.bare
    base := {
      keep := I.base.keep
      slot := I.base.slot
      free := fun b o e n hx => by
        have q := I.base.free b o e n hx
        rw [upd_ne fun w => by rw [w, new] at e; cases e]
        exact q
      there := I.base.there
      tups := fun b xs e => by
        have q := I.base.tups b xs e
        rw [upd_ne (off q)]; exact q
      frzs := fun b o u e => by
        have q := I.base.frzs b o u e
        rw [upd_ne (off q)]; exact q
      tbls := fun b ps e => by
        obtain ⟨more, q⟩ := I.base.tbls b ps e
        exact ⟨more, by rw [upd_ne (off q)]; exact q⟩ }
    loc := I.loc
    cell := I.cell
    free := by rw [upd_ne fun w => nL w.symm]; exact I.free
    freeC := fun x c hc => by
      obtain ⟨v', o, e, q⟩ := I.cell x c hc
      rw [upd_ne fun w => by
        rw [w, show s.heap.get? a = some oe from ha] at e
        cases e
        exact nc _ q]
      exact I.freeC x c hc
    pin := fun p hp => by
      obtain ⟨p1, p2, p3⟩ := I.pin p (sub p hp)
      exact ⟨p1, by rw [upd_ne (np p hp)]; exact p2, p3⟩
    hok := HOk.laidN I.hok (fun _ _ q => q) na (caught_ok ha z v)
    len := I.len }
/-- the wish of a clause 'except C as n' whose exception is kept behind the suite -/
def wKeep (K : PySem.W.Frag) (C : Value) (i : Nat) (ts : Addr → Value → Option Addr → TS) (Wo : WX) (D : Ends) : WX := fun cls d σ H => ∃ b, PySem.W.exmOne K cls C = some b ∧
  (b = true → ∀ a, H a = none → ts a cls d ⟨fun τ G => D.nx (τ.set i none) (upd G a (Caught cls d a)), D.rt, fun τ G => D.bk (τ.set i none) G, fun τ G => D.ct (τ.set i none) G⟩ (σ.set i (some (.ref a))) H) ∧ (b = false → Wo cls d σ H)
theorem ps_try_keep {x n : Str} {C : Value} {i : Nat} {body suite : List Stmt} {b₀ : Stmt} {np pos pos' : Pos} {tb : WX → TS} {ts : Addr → Value → Option Addr → TS} {Wo : WX}
    (hx : X.ex = []) (hs : X.stack = X.env :: X.outer) (hf : X.env.frame = some X.env.locals) (nd : X.N.Nodup) (hi : X.N[i]? = some n) (hn : X.env.kindOf n = some .local) (hc : Names X x C) (tk : Takes X Wo)
    (hb : ∀ (W : WX) (pn : List (Addr × Obj)) (xe : Value → Shared → Prop), Takes (X.tr pn xe) W → PassesOwn (model X.prog X.w) X.A X.env xe → PSs (X.tr pn xe) body (tb W))
    (hsu : ∀ (a : Addr) (oe : Obj) (cls : Value) (d : Option Addr) (pn : List (Addr × Obj)), Zc cls d oe → (∃ vs, oe.data = .fields vs) → PSs (X.suite a ((a, oe) :: pn)) (b₀ :: suite) (ts a cls d)) :
    PS X (.Try body [.ExceptHandler (some (.Name x np)) (some n) (b₀ :: suite) pos'] [] [] pos) (fun D σ H => tb (wKeep X.K C i ts Wo D) D σ H) := by
  constructor
  intro pins s σ H D I h
  have ok := I.ok
  have fr : X.A.frames = some (X.env :: X.outer) := ok.frames.trans (congrArg some hs)
  apply wpAny_Try_except
  have run := (hb (wKeep X.K C i ts Wo D) (X.pn ++ pins) (fun e s₁ => wpAny (model X.prog X.w) X.A (noteFrame e X.env) (fun _ s₂ => wpAny (model X.prog X.w) X.A (setFlight e none) (fun _ s₃ => wpAny (model X.prog X.w) X.A (handleBy e X.env [.ExceptHandler (some (.Name x np)) (some n) (b₀ :: suite) pos']) (SP X pins D) X.xe s₃) X.xe s₂) X.xe s₁) ?land PassesOwn.looking).run [] s σ H D (I.toTry _) h
  case land =>
    rintro u s' ⟨a, B, sI, q, τ, G, cls, d, rfl, J0, nb, up, sky, na, os, ag, b, hb1, yes, no⟩
    have J : Inv X pins τ G sI := J0.ofTry ok
    rw [hs] at sky
    apply Sky.land Zc.steady fr hf sky
    intro h3 fl up3
    have J3 : Inv X pins τ G { s' with heap := h3 } := J.landed nb fl.1 (up.trans up3) os ag
    obtain ⟨oe, vs, e3, z3, d3⟩ := fl.there
    have aF : a ∉ frs (X.env :: X.outer) := fun m => by
      obtain ⟨_, o, e, ne⟩ := fl.2.2.1.mem m
      rw [e3] at e; cases e
      exact ne _ d3
    have aL : a ≠ X.env.locals := fun w => aF (List.mem_filterMap.mpr ⟨X.env, .head _, hf.trans (congrArg some w.symm)⟩)
    have aO : a ∉ X.fs := fun m => by
      obtain ⟨e, m1, m2⟩ := List.mem_filterMap.mp m
      exact aF (List.mem_filterMap.mpr ⟨e, .tail _ m1, m2⟩)
    -- a stands in nothing older
    have aI : sI.heap.get? a = none := by
      cases w : sI.heap.get? a with
      | none => rfl
      | some o =>
        have := nb a o w (by rw [hs]; exact aF)
        rw [fl.2.1] at this
        cases this
    have a0 : X.s_0.heap.get? a = none := by
      cases w : X.s_0.heap.get? a with
      | none => rfl
      | some o =>
        obtain ⟨o', w'⟩ := J.base.there a o w (by rw [hx]; exact fun m => nomatch m)
        rw [aI] at w'
        cases w'
    have aP : ∀ p ∈ X.pn ++ pins, p.1 ≠ a := fun p hp w => by
      have := (J.pin p hp).1
      rw [w, aI] at this
      cases this
    have S3 := J3.suite e3 d3 na aL aO
    have cl : PySem.W.Looks (model X.prog X.w) h3 (typeOf (.ref a)) cls := fun A' Q' E' t k q => wpAny_typeOf_ref (k _ _ e3) (z3.1.symm ▸ q)
    have ex1 := PySem.W.exm_one (M := model X.prog X.w) J3.kIn cl hb1
    have nm : ∀ {Q : Value → Shared → Prop} {E : Value → Shared → Prop}, Q C { s' with heap := h3 } → wpAny (model X.prog X.w) (X.A.mark (some (.ref a))) (eval (.Name x np) X.env) Q E { s' with heap := h3 } := by
      intro Q E q
      obtain ⟨g, db, m | ⟨m, v, w⟩⟩ := hc
      · exact ld_glob (X := X.suite a ((a, oe) :: (X.pn ++ pins))) S3 g m q db
      · exact ld_blt (X := X.suite a ((a, oe) :: (X.pn ++ pins))) S3 g m v q w db
    refine wpAny_handleBy_cons (codeAny_handlers_test (nm (ex1.here ?_))) (fun q => nomatch q)
    cases b
    · -- another class: it goes on
      refine wpAny_handleBy_nil ?_
      obtain ⟨_, _, _, o4, v4, T, oT, ts4, e4, _, y4, y1, _⟩ := id fl
      have fin : wpAny (model X.prog X.w) X.A (setFlight (.ref a) X.env.frame) (fun _ s4 => wpAny (model X.prog X.w) X.A (throw (.ref a) : Sem Flow) (SP X pins D) X.xe s4) X.xe { s' with heap := h3 } := by
        rw [hf]
        refine HandSPX.setFlight_upZ fl fun h4 w4 up4 => wpAny_throw (tk _ _ ?_)
        exact ⟨a, B, sI, pins, τ, G, cls, d, rfl, J, nb, (up.trans up3).trans up4, .inr (.inr (hs ▸ w4)), na, os, ag, no rfl⟩
      unfold PySem.passOn
      refine wpAny_bind (wpAny_field e4 y4 y1 ?_)
      rw [if_neg (show ¬ ((Value.ref T == Value.none) = true) by simp)]
      first
        | exact wpAny_bind (wpAny_pure (wpAny_bind fin))
        | exact wpAny_bind fin
    · refine codeAny_handlers_suite_as (HandSPX.lands_againZ fl fun h4 fl4 up4 => ?_)
      have J4 : Inv X pins τ G { s' with heap := h4 } := J.landed nb fl4.1 ((up.trans up3).trans up4) os ag
      obtain ⟨o4, v4, e4, z4, d4⟩ := fl4.there
      have S4 := J4.suite e4 d4 na aL aO
      refine store_ok (X := X.suite a ((a, o4) :: (X.pn ++ pins))) (v := .ref a) S4 nd hi (.inl hn) rfl (fun s5 S5 => ?_) (.inr hn)
      refine wpAny_mono ((hsu a o4 cls d (X.pn ++ pins) z4 ⟨_, d4⟩).run [] s5 _ G _ S5 (yes rfl a na)) (fun f s6 r => ?_) (fun _ _ z => z.elim)
      have last : ∀ {ρ : L2.St} {K' : Hp} {Q : Shared → Prop}, Inv (X.suite a ((a, o4) :: (X.pn ++ pins))) [] ρ K' s6 → (∀ s7, Inv X ((a, o4) :: pins) (ρ.set i none) K' s7 → Q s7) → wpAny (model X.prog X.w) X.A (do bindName X.env n .none; unbindBehindTheSuite X.env n pos') (fun _ s7 => Q s7) X.xe s6 := by
        intro ρ K' Q S6 q7
        have T6 : Inv X ((a, o4) :: pins) ρ K' s6 := ⟨ok, S6.os, S6.bare, S6.base, S6.loc, S6.cell, S6.free, S6.freeC, fun p hp => S6.pin p (by
          simp only [List.mem_append, List.mem_cons] at hp
          simp only [List.append_nil, List.mem_append, List.mem_cons]
          rcases hp with w | w | w
          · exact .inr (.inl w)
          · exact .inl w
          · exact .inr (.inr w)), S6.hok, S6.len⟩
        exact gone_ok T6 nd hi hn q7
      have drop : ∀ {ρ : L2.St} {K' : Hp} {s7 : Shared}, Inv X ((a, o4) :: pins) ρ K' s7 → Inv X pins ρ K' s7 := fun {ρ K' s7} S7 => ⟨ok, S7.os, S7.bare, S7.base, S7.loc, S7.cell, S7.free, S7.freeC, fun p hp => S7.pin p (by
          simp only [List.mem_append, List.mem_cons] at hp ⊢
          rcases hp with w | w
          · exact .inl w
          · exact .inr (.inr w)), S7.hok, S7.len⟩
      cases f with
      | next => obtain ⟨ρ, K', S6, r⟩ := r; exact last S6 fun s7 S7 => ⟨_, _, keepX S7 z4 ⟨_, d4⟩ a0 aP, r⟩
      | brk => obtain ⟨ρ, K', S6, r⟩ := r; exact last S6 fun s7 S7 => ⟨_, _, drop S7, r⟩
      | cont => obtain ⟨ρ, K', S6, r⟩ := r; exact last S6 fun s7 S7 => ⟨_, _, drop S7, r⟩
      | ret u => obtain ⟨v, ρ, K', S6, r1, r2⟩ := r; exact last S6 fun s7 S7 => ⟨_, _, _, drop S7, r1, r2⟩
  refine wpAny_mono run (fun f s1 r => ?_) fun _ _ z => z
  cases f with
  | next => obtain ⟨τ, G, J, r⟩ := r; exact wpAny_execs_nil ⟨τ, G, J.ofTry ok, r⟩
  | ret u => obtain ⟨v, τ, G, J, r1, r2⟩ := r; exact ⟨v, τ, G, J.ofTry ok, r1, r2⟩
  | brk => obtain ⟨τ, G, J, r⟩ := r; exact ⟨τ, G, J.ofTry ok, r⟩
  | cont => obtain ⟨τ, G, J, r⟩ := r; exact ⟨τ, G, J.ofTry ok, r⟩
end
end Dl

namespace Dl
open PySem PySem.Spec PyProof.Rows L2 LamX
/-! ## a lambda that may raise, called in a def whose slots are known -/
section
variable {X : Cx} {pins : List (Addr × Obj)} {σ : L2.St} {H : Hp} {s : Shared}
/-- the context of the def g that got the lambda -/
abbrev Zx (X : Cx) (N : List Str) (x : Str) (sg : Scope) (g : Addr) (cd : Value) (s : Shared) (H : Hp) : Cx := cxOf C8.CX0 X.prog X.w X.K X.mg X.base N x sg g cd X.A X.stack s H C8.E0
theorem act_at {N : List Str} {x : Str} {sg scope : Scope} {g f co : Addr} {cd pm ct : Value} {pr : Arguments} {body : Expr} {k i : Nat} {y : Str} {pn : List (Addr × Obj)} {xe : Value → Shared → Prop} {W : WX} {τ : L2.St} {tb : TE} {p1 p2 : Pos}
    (I : Inv X pins σ H s) (L : LamS X.env.scope scope)
    (lf : s.heap.get? f = some (PySem.W.kla_obj "<lambda>" (X.env.qual ++ "<lambda>") pr body scope (cloFrom X.env.cells scope.names []) pm co ct)) (nf : H f = none) (ff : f ∉ frs X.stack)
    (nb : bindArgs (PySem.W.kla_fn "<lambda>" (X.env.qual ++ "<lambda>") pr body scope (cloFrom X.env.cells scope.names []) pm (.ref co) ct) ⟨[], []⟩ = pure [])
    (tk : Takes ((Zx X N x sg g cd s H).tr pn xe) W) (room : Room (k + 1) (X.A.deeper (envOfC x sg s.heap.objs.size g cd)))
    (hb : ∀ (A : Around) (outer : List Env) (s' : Shared) (G : Hp), A.guards = X.A.guards → Room k (A.deeper (lamEnv X scope s'.heap.objs.size f co)) → PE (lamCx X A outer s' G (WE W τ) scope f co) body tb)
    (hN : N[i]? = some y) (hv : Vis sg y) (d1 : (y == ("__debug__" : Str)) = false) (d2 : (y == ("__classdict__" : Str)) = false) :
    PE ((Zx X N x sg g cd s H).tr pn xe) (.Call (.Name y p1) [] [] p2) (fun ρ G Q => ρ = τ ∧ τ[i]? = some (some (.ref f)) ∧ G co = some (CodeO co (X.env.qual ++ "<lambda>")) ∧ tb σ G Q) := by
  constructor
  rintro pz sz ρ G Q J ⟨rfl, at_, code, want⟩
  have nm := (pe_var (X := (Zx X N x sg g cd s H).tr pn xe) (pos := p1) (i := i) hN hv d1 d2).run pz sz ρ G (fun v G1 => v = .ref f ∧ G1 = G) J ⟨.ref f, at_, rfl, rfl⟩
  refine wpAny_Call_Name_kw (thn nm ?_)
  rintro u s1 ⟨v, G1, J1, ru, rfl, rfl⟩
  cases (show u = Value.ref f from ru)
  have f1 := J1.base.keep f _ lf nf ff (fun m => nomatch (show f ∈ ([] : List Addr) from m))
  obtain ⟨⟨oc, vs, t, o1, o2, o3⟩, -, -⟩ := J1.hok co _ code
  apply PySem.W.callWith_F0 ⟨_, _, _, _, f1⟩
  have call1 : codeAny (model X.prog X.w) (X.A.deeper (envOfC x sg s.heap.objs.size g cd)) (.call (.ref f) ⟨[], []⟩) (CR (L2.CX X.prog X.w) (envOfC x sg s.heap.objs.size g cd :: X.stack) X.prog X.w G1 s1 Q (WE W ρ)) s1 := by
    apply PySem.W.kla_callFunE room.depth f1 rfl L.co L.gen rfl ⟨co, oc, vs, t, rfl, o1, o2, o3⟩
    rw [nb]
    apply wpAny_pure
    refine wpAny_newFunctionEnv (fun z m => (L.own z m).2) (fun z m => nomatch m) (fun h1 ns sb => ⟨J1.nolimit.fresh _ sb, ?_⟩) L.kind
    have stay : ∀ b o, s1.heap.get? b = some o → h1.get? b = some o := fun b o e => sb.extBut b o (Nat.ne_of_lt (Heap.lt_size e)) (Heap.get?_push_of_some _ e)
    have st := lam_start2 (E := WE W ρ) (f := f) (c' := co) (tk := s1.toks + ([] : List (Str × Value)).length) I L J1.env0 room.hd J1.base ns stay
    refine PySem.W.kla_codeExpr (wpAny_mono ((hb (X.A.deeper (envOfC x sg s.heap.objs.size g cd)) _ s1 G1 rfl (room.deeper _)).run [] _ _ G1 Q st want) ?_ fun e s2 w => w)
    rintro v s2 ⟨w, G2, J2, rw2, q2⟩
    exact ⟨w, G2, J2.os, J2.bare, J2.base, J2.hok, rw2, q2⟩
  refine wpAny_call (codeAny_mono call1 fun r s2 q => ?_)
  cases r with
  | error e => exact passAt tk ρ pz G1 s1 e s2 J1 q
  | ok fl =>
    cases fl with
    | ret u => exact J1.after q
    | next => exact absurd q id
    | brk => exact absurd q id
    | cont => exact absurd q id
/-- the def g calls what it got, its first name y -/
def GivesAt (X : Cx) (N : List Str) (x : Str) (sg : Scope) (g : Addr) (cd : Value) (bg : List Stmt) (y q : Str) (TT : (XK → Hp → VK → Prop) → Hp → VK → Prop) : Prop :=
  ∀ (f co : Addr) (s : Shared) (H : Hp) (Q : VK) (tl : XK → Hp → VK → Prop),
    (∀ (W : WX) (pn : List (Addr × Obj)) (xe : Value → Shared → Prop) (τ : L2.St) (p1 p2 : Pos), Takes ((Zx X N x sg g cd s H).tr pn xe) W →
      PE ((Zx X N x sg g cd s H).tr pn xe) (.Call (.Name y p1) [] [] p2) (fun ρ G Q' => ρ = τ ∧ τ[0]? = some (some (.ref f)) ∧ G co = some (CodeO co q) ∧ tl (WE W τ) G Q')) →
    H co = some (CodeO co q) → TT tl H Q → ∃ t, PSs (Zx X N x sg g cd s H).nox bg t ∧ t { nx := fun _ G => Q .non G, rt := Q } (L2.start N [.ref f]) H
theorem lamcall_at {T : List (Addr × Str)} {TT : (XK → Hp → VK → Prop) → Hp → VK → Prop} {x y : Str} {g c P : Addr} {k : Nat} {pg pr : Arguments} {bg : List Stmt} {sg scope : Scope} {dV kV doc pm cd ct oc : Value} {an od : Option Addr} {osl : Array (Option Value)} {N : List Str}
    {body : Expr} {t : XK → TE} {p lp pos : Pos} (hg : Gl X x) (hm : X.mg x = some (.ref g)) (hk : PySem.W.keepIn X.K (.ref g) = true)
    (lk : X.K.lookup g = some ⟨oc, od, .func (PySem.W.fnOf x x pg bg sg dV kV doc pm an cd ct), osl⟩) (cg : PySem.W.codeIn X.K cd x = true) (hb : L2.Binds X.K (PySem.W.fnOf x x pg bg sg dV kV doc pm an cd ct) [y] []) (Sg : FnScope N [y] sg) (hN : N[0]? = some y) (hv : Vis sg y)
    (gives : GivesAt X N x sg g cd bg y (X.env.qual ++ "<lambda>") TT) (TB : TabB X.base X.mg c P) (ec : X.env.code = .ref c) (inT : (P, X.env.qual ++ "<lambda>") ∈ T) (one : ∀ p ∈ T, p.1 = P → p.2 = X.env.qual ++ "<lambda>") (room : Room (k + 2) X.A) (L : LamS X.env.scope scope) (nd : defaultsOf pr X.env = ([], []))
    (bind0 : ∀ (q : Str) (cl : List (Str × Addr)) (pm cv ctv : Value), bindArgs (PySem.W.kla_fn "<lambda>" q pr body scope cl pm cv ctv) ⟨[], []⟩ = pure [])
    (hbody : ∀ (A : Around) (outer : List Env) (s : Shared) (H : Hp) (E : XK) (f co : Addr), A.guards = X.A.guards → Room k (A.deeper (lamEnv X scope s.heap.objs.size f co)) → PE (lamCx X A outer s H E scope f co) body (t E))
    (d0 : (x == ("__debug__" : Str)) = false) (d1 : (y == ("__debug__" : Str)) = false) (d2 : (y == ("__classdict__" : Str)) = false) : PE X (.Call (.Name x p) [.Lambda pr body scope lp] [] pos) (tLam T TT t) := by
  constructor
  rintro pz s σ H Q I ⟨tabs, h⟩
  apply wpAny_Call_Name_kw
  apply ld_glob I hg hm ?_ d0
  refine PySem.W.callWith_K (h₀ := X.base) I.ok.mod.kin hk ?_ (by rfl) (by rfl)
  show wpAny _ _ (spliced ((false, eval (.Lambda pr body scope lp) X.env) :: backTo pos (starEach [] X.env))) _ _ s
  apply Calls.spliced_cons
  apply lam_make2 I TB ec inT one tabs nd (L.has I.ok)
  intro f co pm1 ct1 H1 s1 I1 ex T1 lf nf ff code
  apply Calls.spliced_nil
  refine ⟨I1.kIn, ?_⟩
  have run : codeAny (model X.prog X.w) X.A (.call (.ref g) ⟨[.ref f], []⟩) (CR C8.CX0 X.stack X.prog X.w H1 s1 Q C8.E0) s1 := by
    apply run_ofS (N := N) (ps := [y]) (us := [.ref f]) (vs := [.ref f]) lk cg Sg room I1.env0 (hb s1 [.ref f] I1.kIn rfl) (.cons rfl .nil) rfl
    intro room2
    obtain ⟨t', p', w'⟩ := gives f co s1 H1 Q (fun E G R => t E σ G R) (fun W pn xe τ p1 p2 tk => act_at (i := 0) I1 L lf nf ff (bind0 _ _ _ _ _) tk room2 (fun A outer s G g r => hbody A outer s G (WE W τ) f co g r) hN hv d1 d2) code (h H1 ex T1)
    exact ⟨t', p'.nox, w'⟩
  apply wpAny_call
  apply codeAny_mono run
  intro r s2 q
  cases r with
  | error e => exact absurd q id
  | ok fl =>
    cases fl with
    | ret u => exact I1.after q
    | next => exact absurd q id
    | brk => exact absurd q id
    | cont => exact absurd q id
end
/-! ## a def that calls what it is handed, and tells (error, None) or (None, value) -/
/-- what it makes of the reading tl of what it calls; z: its pair of two Nones -/
def TTheard (K : PySem.W.Frag) (C : Addr) : (XK → Hp → VK → Prop) → Hp → VK → Prop := fun tl H Q => ∀ z, H z = none →
  tl (fun cls d G => PySem.W.exmOne K cls (.ref C) = some true ∧ ∀ a, G a = none → ∀ p, upd G a (Caught cls d a) p = none → Q (.ref p) (upd (upd G a (Caught cls d a)) p (.tup [.ref a, .non]))) (upd H z (.tup [.non, .non]))
    (fun v G => ∀ p, G p = none → Q (.ref p) (upd G p (.tup [.non, v])))
abbrev Nh : List Str := ["call", "caught", "back", "error"]
theorem heard_gives {X : Cx} {x q : Str} {sg : Scope} {g C : Addr} {cdg : Value} {j1 j2 kt k2 kr : Nat} {p1 p2 c1 c2 pt pt2 pos1 q1 q2 q3 q4 q5 q6 q7 q8 q9 q10 r1 r2 r4 r5 : Pos}
    (n0 : sg.names.lookup ("call" : Str) = some .local) (n1 : sg.names.lookup ("caught" : Str) = some .local) (n2 : sg.names.lookup ("back" : Str) = some .local) (n3 : sg.names.lookup ("error" : Str) = some .local)
    (ng : sg.names.lookup ("FenceError" : Str) = some .globalImplicit) (mC : X.mg ("FenceError" : Str) = some (.ref C))
    (hsw : ∀ (s : Shared) (H : Hp), swappedStores [.Tuple [.Name "caught" p1, .Name "back" p2] kt pt] (.Tuple [.Constant .none j1 c1, .Constant .none j2 c2] k2 pt2) (Zx X Nh x sg g cdg s H).env = pure none)
    (hsole : ∀ (s : Shared) (H : Hp), swapsWithSole [.Tuple [.Name "caught" p1, .Name "back" p2] kt pt] (.Tuple [.Constant .none j1 c1, .Constant .none j2 c2] k2 pt2) pos1.line (Zx X Nh x sg g cdg s H).env = pure false) :
    GivesAt X Nh x sg g cdg [
      .Assign [.Tuple [.Name "caught" p1, .Name "back" p2] kt pt] (.Tuple [.Constant .none j1 c1, .Constant .none j2 c2] k2 pt2) pos1,
      .Try [.Assign [.Name "back" q1] (.Call (.Name "call" q2) [] [] q3) q4] [.ExceptHandler (some (.Name "FenceError" q5)) (some "error") [.Assign [.Name "caught" q6] (.Name "error" q7) q8] q9] [] [] q10,
      .Return (some (.Tuple [.Name "caught" r1, .Name "back" r2] kr r4)) r5] "call" q (TTheard X.K C) := by
  intro f co s H Q tl act hc h
  have nd : Nh.Nodup := by decide +kernel
  refine ⟨_, pss_cons (ps_asg (pe_tup (pa_cons pe_non (pa_cons pe_non pa_nil))) (pg_tup (n := 2) rfl (pgs_cons (pg_name (x := "caught") (i := 1) nd rfl (.inl n1) (.inl rfl)) (pgs_cons (pg_name (x := "back") (i := 2) nd rfl (.inl n2) (.inl rfl)) pgs_nil))) (hsole s H) (hsw s H))
    (pss_cons (ps_try_keep (X := (Zx X Nh x sg g cdg s H).nox) (C := .ref C) (i := 3)
      (tb := fun W D σ G => σ[0]? = some (some (.ref f)) ∧ G co = some (CodeO co q) ∧ tl (WE W σ) G (fun v G' => D.nx (σ.set 2 (some v)) G'))
      (ts := fun a cls d D σ G => ∃ v, σ[3]? = some (some v) ∧ D.nx (σ.set 1 (some v)) G)
      rfl rfl rfl nd rfl n3 ⟨ng, by decide, .inl mC⟩ takes0 (fun W pn xe tk _ => ?body) (fun a oe cls d pn _ _ => ?suite))
    (pss_one (ps_ret (pe_tup (pa_cons (pe_var (i := 1) rfl (.inl n1)) (pa_cons (pe_var (i := 2) rfl (.inl n2)) pa_nil)))))), ?_⟩
  case body =>
    constructor
    rintro pz s' σ G D I ⟨w0, w1, w2⟩
    have asg := pss_one (ps_asg (pos := q4) (act W pn xe σ q2 q3 tk) (pg_name (x := "back") (pos := q1) (i := 2) nd rfl (.inl n2) (.inl rfl)))
    exact asg.run pz s' σ G D I ⟨rfl, w0, w1, w2⟩
  case suite =>
    exact pss_one (ps_asg (pe_var (i := 3) rfl (.inl n3)) (pg_name (i := 1) nd rfl (.inl n1) (.inl rfl)))
  · refine ⟨by rw [sizeLine_eq]; simp, fun z nz => ?_⟩
    refine ⟨z, [.non, .non], rfl, .of upd_same, rfl, _, _, rfl, _, _, rfl, rfl, ?_⟩
    refine ⟨rfl, by rw [upd_ne (ne_of_none hc nz)]; exact hc, ?_⟩
    have same : ∀ {W1 W2 : XK} {Q1 Q2 : VK}, W1 = W2 → Q1 = Q2 → tl W1 (upd H z (.tup [.non, .non])) Q1 → tl W2 (upd H z (.tup [.non, .non])) Q2 := by rintro _ _ _ _ rfl rfl y; exact y
    refine same ?_ ?_ (h z nz)
    · funext cls d G
      apply propext
      constructor
      · rintro ⟨e, w⟩
        exact ⟨true, e, fun _ a na => ⟨_, rfl, _, rfl, _, rfl, by rw [sizeLine_eq]; simp, fun p np => w a na p np⟩, fun z => nomatch z⟩
      · rintro ⟨b, e, w1, w2⟩
        cases b with
        | false => exact (w2 rfl).elim
        | true =>
          refine ⟨e, fun a na p np => ?_⟩
          obtain ⟨v, ev, v1, e1, v2, e2, -, w⟩ := w1 rfl a na
          cases ev; cases e1; cases e2
          exact w p np
    · funext v G
      apply propext
      constructor
      · intro w
        exact ⟨_, rfl, _, rfl, by rw [sizeLine_eq]; simp, fun p np => w p np⟩
      · rintro ⟨v1, e1, v2, e2, -, w⟩ p np
        cases e1; cases e2
        exact w p np
end Dl

namespace Dl
open PySem PySem.Spec PyProof.Rows L2 LamX
/-! ## what is asked of a caught exception -/
/-- what the class at C must say -/
structure ExcK (K : PySem.W.Frag) (C : Addr) : Prop where
  cl : (PySem.W.clsIn K C).isSome = true
  ga : PySem.W.findIn K (.ref C) "__getattribute__" = some (some (.builtin "BaseException.__getattribute__"))
  gt : PySem.W.findIn K (.ref C) "__getattr__" = some none
  su : PySem.W.subIn K (.ref C) (.type "BaseException") = some true
  hd : PySem.W.hasDictIn K C = true
  ca : PySem.W.findIn K (.ref C) "__class__" = some (some (.builtin "object.__class__"))
  sp : PySem.W.specialIn K (.builtin "object.__class__") "__get__" = some (some (.builtin "getset_descriptor.__get__"))
  tk : PySem.W.takesIn K (.builtin "object.__class__") = some true
  mr : PySem.W.mroIn K C (.type "object") = some true
  no : PySem.W.findIn K (.ref C) "value" = some none
section
variable {X : Cx} {pins : List (Addr × Obj)} {σ : L2.St} {H : Hp} {s : Shared} {a C : Addr} {v : V}
/-- the object, its dict -/
theorem inst_of (I : Inv X pins σ H s) (e : ExcF H a C v) : ∃ oe od, PySem.W.InstAt s.heap a oe C (some od) ∧ ∃ u, PySem.W.lookIn "value" od = some (some u) ∧ RelV v u := by
  obtain ⟨dd, h1, h2⟩ := e
  obtain ⟨⟨oe, e1, z, vs, e2⟩, -, -⟩ : ObjOk X.prog X.w H s.heap a (.ext fun h => ∃ oe : Obj, h.get? a = some oe ∧ Zc (.ref C) (some dd) oe ∧ ∃ vs, oe.data = .fields vs) := I.hok a _ h1
  obtain ⟨mA, ns, r⟩ : ObjOk X.prog X.w H s.heap dd (.xd [(("value" : Str), v)]) := I.hok dd _ h2
  obtain ⟨od, ho, hl⟩ := lookIn_ns ns
  obtain ⟨u, hu, ru⟩ := RelO.some_of (v := v) (o := mA "value") (by have q := r "value"; simpa [List.lookup] using q)
  exact ⟨oe, od, ⟨e1, z.1, by unfold PySem.W.notCls; rw [e2] <;> rfl, by rw [z.2]; exact ho⟩, u, by rw [hl, hu], ru⟩
theorem isi_caught : CallR X (.builtin "isinstance") (fun xs H Q => ∃ a C v cv b, xs = [.ref a, .ref cv] ∧ ExcF H a C v ∧ ExcK X.K C ∧ PySem.W.kitOne X.K (.ref C) (.ref cv) = some b ∧ Q (.bl b) H) := by
  rintro pins s σ H xs us Q I r ⟨a, C, v, cv, b, rfl, e, k, kb, q⟩
  obtain ⟨oe, od, at_, -⟩ := inst_of I e
  cases r with
  | cons r1 r2 =>
    cases r2 with
    | cons r2 r3 =>
      cases r3
      cases r1
      cases r2
      exact PySem.W.kia_one (PySem.W.kitx_exc k.cl k.ga k.gt k.su k.ca k.sp k.tk k.mr) I.kIn at_ kb (fun z => nomatch z) fun tk => ⟨.bl b, H, I.kept (t' := tk) fun _ _ z => z, rfl, q⟩
/-- caught.value -/
theorem pe_val {e : Expr} {te : TE} {pos : Pos} (he : PE X e te) (hb : attributeBase e "value" X.env (eval e X.env) = eval e X.env := by rfl) :
    PE X (.Attribute e "value" pos) (fun σ H Q => te σ H fun x G => ∃ a C v, x = .ref a ∧ ExcF G a C v ∧ ExcK X.K C ∧ Q v G) := by
  constructor
  intro pins s σ H Q I h
  refine attr_of hb (thn (he.run pins s σ H _ I h) ?_)
  rintro u s1 ⟨x, G, I1, rx, a, C, v, rfl, e, k, q⟩
  cases (show u = Value.ref a from rx)
  obtain ⟨oe, od, at_, u, hu, ru⟩ := inst_of I1 e
  exact HandSPX.exc_get I1.kIn at_ k.ga k.gt k.su (PySem.W.findObj_own k.hd k.no rfl hu) (handed_of ru) ⟨v, G, I1.tok _, ru, q⟩
end
/-! ## .. and the same in plain data; cls: the classes of the program's errors -/
structure Cls (K : PySem.W.Frag) (cls : List Addr) : Prop where
  ok : ∀ C ∈ cls, ExcK K C
  is : ∀ C ∈ cls, ∀ c ∈ cls, PySem.W.kitOne K (.ref C) (.ref c) = some (decide (C = c))
def isED (cls : List Addr) : GN := fun ds hd => match ds with
  | [.exc C _, .raw (.ref c)] => if C ∈ cls ∧ c ∈ cls then some (.bl (decide (C = c)), hd) else none
  | _ => none
def valD (cls : List Addr) (a : EM) : EM := fun env hd => (a env hd).bind fun p => match p.1 with
  | .exc C d => if C ∈ cls then some (d, p.2) else none
  | _ => none
section
variable {X : Cx} {cls : List Addr}
theorem cm_isE (F : Cls X.K cls) : CallR X (.builtin "isinstance") (rN X.K (isED cls)) := by
  refine CallR.to isi_caught fun xs H Q ⟨ρ, hd, ds, d, hd', r, ra, e, q⟩ => ?_
  unfold isED at e
  split at e
  · rename_i C d0 c
    split at e
    · rename_i h
      cases e
      obtain ⟨v, w, rfl, rv, rw_⟩ := repL2 ra
      rw [rep_exc] at rv
      obtain ⟨a, u, rfl, ex, ru⟩ := rv
      rw [rep_raw] at rw_; subst rw_
      exact ⟨a, C, u, c, _, rfl, ex, F.ok C h.1, F.is C h.1 c h.2, q _ ρ H (.refl r) (rep_bl.mpr rfl)⟩
    · cases e
  · cases e
theorem pm_val {e : Expr} {fa : EM} {pos : Pos} (F : Cls X.K cls) (he : PE X e (tM X.K fa)) (hb : attributeBase e "value" X.env (eval e X.env) = eval e X.env := by rfl) : PE X (.Attribute e "value" pos) (tM X.K (valD cls fa)) :=
  PE.to (pe_val he hb) fun σ H Q ⟨ρ, env, hd, d, hd', A, e, q⟩ => by
    obtain ⟨⟨x, h1⟩, e1, e⟩ := Option.bind_eq_some_iff.mp e
    dsimp only at e
    split at e
    · rename_i C d0
      split at e
      · rename_i h
        cases e
        refine ⟨ρ, env, hd, .exc C _, _, A, e1, fun v ρ1 H1 P1 r1 => ?_⟩
        rw [rep_exc] at r1
        obtain ⟨a, w, rfl, ex, rw_⟩ := r1
        exact ⟨a, C, w, rfl, ex, F.ok C h, q w ρ1 H1 P1 rw_⟩
      · cases e
    · cases e
end
end Dl

namespace Dl
open PySem PySem.Spec PyProof.Rows L2 LamX
/-! ## raise E(e), E an own class whose __init__ stores its one argument as .value -/
/-- what that __init__ does for an error of the class at C -/
def spIni (C : Addr) : Sp := fun vs H Q _ => ∃ (a : Addr) (v : V), vs = [.ref a, v] ∧ H a = some (exo a C none) ∧ ∀ dx, H dx = none → dx ≠ a → Q .non (upd (upd H dx (exd dx [(("value" : Str), v)])) a (exo a C (some dx)))
structure ErrC (P : Program) (w : World) (K : PySem.W.Frag) (mg : Str → Option Value) (base : Heap) (k : Nat) (x : Str) (C : Addr) : Prop where
  ox : OexC K C
  g : mg x = some (.ref C)
  ini : ∃ (fI : Addr) (fd : FuncData), PySem.W.findIn K (.ref C) "__init__" = some (some (.ref fI)) ∧ PySem.W.typeIn K (.ref fI) = some (.type "function") ∧ FnOk P w K mg base CX0 k fI fd ["self", "value"] (spIni C) ∧ Binds K fd ["self", "value"] []
section
variable {X : Cx} {e : Expr} {fa : EM} {x : Str} {C : Addr} {k : Nat} {p pos pos2 : Pos} {W : WX}
def tRaise (K : PySem.W.Frag) (W : WX) (C : Addr) (fa : EM) : TS := fun _ σ H => ∃ ρ env hd d hd', At K ρ σ H env hd ∧ fa env hd = some (d, hd') ∧ ∀ v ρ' H' dd, Post K ρ ρ' H H' hd' → Rep K ρ' H' d v → H' dd = none → W (.ref C) (some dd) σ (upd H' dd (.xd [(("value" : Str), v)]))
theorem psm_raise (hc : X.calm = true) (tk : Takes X W) (R : ErrC X.prog X.w X.K X.mg X.base k x C) (hr : Room (k + 1) X.A) (hg : Gl X x) (he : PE X e (tM X.K fa)) (hdb : (x == ("__debug__" : Str)) = false)
    (hst : starEach [e] X.env = (false, eval e X.env) :: starEach [] X.env := by rfl) (hpl : (backTo pos (starEach [] X.env)).any (·.1) = false := by rfl) :
    PS X (.Raise (some (.Call (.Name x p) [e] [] pos)) none pos2) (tRaise X.K W C fa) := by
  obtain ⟨fI, fd, i1, i2, F1, b⟩ := R.ini
  have mk := pmk_oex (p := p) (pos := pos) (x := x) (ds := []) (dvs := []) R.ox i1 i2 F1 hr b .nil (fun _ _ _ _ _ _ _ z => z.elim) hg R.g (pa_cons he pa_nil hst) hdb hst hpl
  refine PS.to (ps_raise (pos := pos2) hc tk mk) fun D σ H h => ?_
  obtain ⟨ρ, env, hd, d, hd', A, ev, q⟩ := h
  refine ⟨ρ, env, hd, d, hd', A, ev, fun v ρ' H' P' r' => ?_⟩
  refine ⟨by simp, fun a na => ⟨a, v, rfl, upd_same, fun dx n1 n2 => ?_⟩⟩
  have n3 : H' dx = none := by rw [upd_ne n2] at n1; exact n1
  refine ⟨rfl, dx, [(("value" : Str), v)], upd_same, by rw [upd_ne n2, upd_same], n3, ?_⟩
  have eq : upd (L2.del (upd (upd (upd H' a (exo a C none)) dx (exd dx [(("value" : Str), v)])) a (exo a C (some dx))) a) dx (.xd [(("value" : Str), v)]) = upd H' dx (.xd [(("value" : Str), v)]) := by
    funext y
    by_cases h1 : y = dx
    · subst h1; rw [upd_same, upd_same]
    · rw [upd_ne h1, upd_ne h1]
      by_cases h2 : y = a
      · subst h2; rw [del_same, na]
      · rw [del_ne h2, upd_ne h2, upd_ne h1, upd_ne h2]
  rw [eq]
  exact q v ρ' H' dx P' r' n3
end
end Dl

namespace Dl
open PySem PySem.Spec PyProof.Rows L2 LamX
/-! ## the raising way of a block, of a def -/
abbrev XM := Ev → Hd → Option (Addr × D × Hd)
abbrev RN := List D → Hd → Option (Addr × D × Hd)
/-- a wish that looks at no slot -/
def tX (K : PySem.W.Frag) (E : XK) (r : XM) : TS := fun _ σ H => ∃ ρ env hd C d hd', At K ρ σ H env hd ∧ r env hd = some (C, d, hd') ∧ ∀ v ρ' H' dd, Post K ρ ρ' H H' hd' → Rep K ρ' H' d v → H' dd = none → E (.ref C) (some dd) (upd H' dd (.xd [(("value" : Str), v)]))
def xSeq (f : SM) (r : XM) : XM := fun env hd => (f env hd).bind fun p => match p.1 with | .nx => r p.2.1 p.2.2 | _ => none
def xIf (c : BM) (r : XM) : XM := fun env hd => (c env hd).bind fun p => if p.1 = true then r env p.2 else none
def xRaise (C : Addr) (a : EM) : XM := fun env hd => (a env hd).map fun p => (C, p.1, p.2)
section
variable {X : Cx} {st : Stmt} {sts els : List Stmt} {f : SM} {r : XM} {E : XK} {c : Expr} {cb : BM} {pos : Pos}
theorem psx_here (h : PS X st (tX X.K E r)) : PSs X (st :: sts) (tX X.K E r) := by
  constructor
  intro pins s σ H D I w
  refine wpAny_execs_cons (thn (h.run pins s σ H ⟨fun _ _ => False, fun _ _ => False, fun _ _ => False, fun _ _ => False⟩ I w) fun fl s1 q => ?_)
  cases fl with
  | next => obtain ⟨_, _, _, q⟩ := q; exact q.elim
  | ret v => obtain ⟨_, _, _, _, _, q⟩ := q; exact q.elim
  | brk => obtain ⟨_, _, _, q⟩ := q; exact q.elim
  | cont => obtain ⟨_, _, _, q⟩ := q; exact q.elim
theorem psx_next (h1 : PS X st (tS X.K f)) (h2 : PSs X sts (tX X.K E r)) : PSs X (st :: sts) (tX X.K E (xSeq f r)) :=
  PSs.to (pss_cons h1 h2) fun D σ H ⟨ρ, env, hd, C, d, hd', A, e, q⟩ => by
    obtain ⟨⟨fl, env1, h1⟩, e1, e⟩ := Option.bind_eq_some_iff.mp e
    dsimp only at e
    cases fl with
    | nx =>
      exact ⟨ρ, env, hd, .nx, env1, h1, A, e1, fun ρ1 σ1 H1 P1 S1 => ⟨ρ1, env1, h1, C, d, hd', ⟨P1.rel, S1⟩, e, fun v ρ2 H2 dd P2 r2 n => q v ρ2 H2 dd (P1.trans P2) r2 n⟩⟩
    | rt _ => cases e
    | bk => cases e
    | ct => cases e
theorem psx_if (h1 : PT X c (tT X.K cb)) (h2 : PSs X sts (tX X.K E r)) (h3 : PSs X els (fun _ _ _ => False)) : PS X (.If c sts els pos) (tX X.K E (xIf cb r)) :=
  PS.to (ps_if h1 h2 h3) fun D σ H ⟨ρ, env, hd, C, d, hd', A, e, q⟩ => by
    obtain ⟨⟨b, h1⟩, e1, e⟩ := Option.bind_eq_some_iff.mp e
    dsimp only at e
    split at e
    · rename_i hb
      refine ⟨ρ, env, hd, b, h1, A, e1, fun ρ1 H1 P1 => ?_⟩
      show (if b = true then tX X.K E r D σ H1 else False)
      rw [if_pos hb]
      exact ⟨ρ1, env, h1, C, d, hd', A.post P1, e, fun v ρ2 H2 dd P2 r2 n => q v ρ2 H2 dd (P1.trans P2) r2 n⟩
    · cases e
theorem pss_never : PSs X sts (fun _ _ _ => False) := ⟨fun _ _ _ _ _ _ w => w.elim⟩
theorem psx_raise {x : Str} {C : Addr} {k : Nat} {e : Expr} {fa : EM} {p pos2 : Pos} (hc : X.calm = true) (tk : Takes X fun cls d _ G => E cls d G) (R : ErrC X.prog X.w X.K X.mg X.base k x C) (hr : Room (k + 1) X.A) (hg : Gl X x) (he : PE X e (tM X.K fa)) (hdb : (x == ("__debug__" : Str)) = false)
    (hst : starEach [e] X.env = (false, eval e X.env) :: starEach [] X.env := by rfl) (hpl : (backTo pos (starEach [] X.env)).any (·.1) = false := by rfl) :
    PS X (.Raise (some (.Call (.Name x p) [e] [] pos)) none pos2) (tX X.K E (xRaise C fa)) :=
  PS.to (psm_raise hc tk R hr hg he hdb hst hpl) fun D σ H ⟨ρ, env, hd, C', d, hd', A, e, q⟩ => by
    obtain ⟨⟨x1, h1⟩, e1, e⟩ := Option.map_eq_some_iff.mp e
    cases e
    exact ⟨ρ, env, hd, _, _, A, e1, q⟩
end
/-- a def: a value, or an error -/
def rX (K : PySem.W.Frag) (F : GN) (R : RN) : Sp := fun vs H Q E => ∃ ρ hd ds, Rel K ρ H hd ∧ RepL K ρ H ds vs ∧
  ((∃ d hd', F ds hd = some (d, hd') ∧ ∀ v ρ' H', Post K ρ ρ' H H' hd' → Rep K ρ' H' d v → Q v H') ∨
   (∃ C d hd', R ds hd = some (C, d, hd') ∧ ∀ v ρ' H' dd, Post K ρ ρ' H H' hd' → Rep K ρ' H' d v → H' dd = none → E (.ref C) (some dd) (upd H' dd (.xd [(("value" : Str), v)]))))
def mFx (n m : Nat) (r : XM) : RN := fun ds hd => if ds.length = n then r (ds.map some ++ List.replicate m none) hd else none
structure FnX (P : Program) (w : World) (K : PySem.W.Frag) (mg : Str → Option Value) (base : Heap) (k : Nat) (f : Addr) (fd : FuncData) (ps : List Str) (F : GN) (R : RN) : Prop where
  len : ∀ vs H Q E, rX K F R vs H Q E → vs.length = ps.length
  run : ∀ (A : Around) (outer : List Env) (s : Shared) (H : Hp) (args : Args) (us : List Value) (vs : List V) (Q : VK) (E : XK), Room k A → A.guards = some [] → Env0 P w K mg base A outer s H → BindsTo s fd args (ps.zip us) → Vals vs us → rX K F R vs H Q E →
    codeAny (model P w) A (.call (.ref f) args) (CR (L2.CX P w) outer P w H s Q E) s
theorem fnx_of {P : Program} {w : World} {K : PySem.W.Frag} {mg : Str → Option Value} {base : Heap} {x qual : Str} {params : Arguments} {body : List Stmt} {scope : Scope} {dvs : List V} {kws : List (Str × V)} {f : Addr} {fd : FuncData} {N ps : List Str} {k n m : Nat} {fb : SM} {rb : XM}
    (F : FunD K x qual params body scope dvs kws f fd) (S : FnScope N ps scope) (hn : ps.length = n) (hm : N.length - ps.length = m)
    (hbody : ∀ (cdv : Value) (A : Around) (outer : List Env) (s : Shared) (H : Hp) (E : XK), Room k (A.deeper (envOfC qual scope s.heap.objs.size f cdv)) → (A.deeper (envOfC qual scope s.heap.objs.size f cdv)).guards = some [] →
      PSs (cxOf (L2.CX P w) P w K mg base N qual scope f cdv A outer s H E) body (tS K fb) ∧ PSs (cxOf (L2.CX P w) P w K mg base N qual scope f cdv A outer s H E) body (tX K E rb)) :
    FnX P w K mg base (k + 1) f fd ps (mFn n m fb) (mFx n m rb) := by
  obtain ⟨oc, od, dV, kV, doc, pm, an, cdv, ct, osl, rfl, lk, hcd, _, _⟩ := F.ex
  have len : ∀ vs H Q E, rX K (mFn n m fb) (mFx n m rb) vs H Q E → vs.length = ps.length := by
    rintro vs H Q E ⟨ρ, hd, ds, rel, ra, h⟩
    rw [← ra.length, hn]
    rcases h with ⟨d, hd', e, _⟩ | ⟨C, d, hd', e, _⟩
    · unfold mFn at e; split at e
      · assumption
      · cases e
    · unfold mFx at e; split at e
      · assumption
      · cases e
  refine ⟨len, fun A outer s H args us vs Q E hr hG e0 hb hv hq => ?_⟩
  have hvl := len vs H Q E hq
  have inK : K.In s.heap := e0.mod.kin.keeps fun b o z => (e0.bs b o z).1
  have nol : s.heap.NoLimit := e0.mod.nolimit.keeps fun b o z => (e0.bs b o z).1
  have kinds : ∀ y ∈ ps.zip us, scope.names.lookup y.1 = some .local ∨ (scope.names.lookup y.1 = some .cell ∧ ((cellsFrom (s.heap.objs.size + 1) scope.names []).lookup y.1).isSome = true) := by
    rintro ⟨z, v⟩ hy
    rcases S.par z (List.of_mem_zip hy).1 with q | q
    · left; exact q
    · right; exact ⟨q, PySem.W.cellsFrom_some _ _ _ (.inl q)⟩
  refine codeAny_call_function hr.depth (inK _ _ lk) rfl S.co S.gen rfl (PySem.W.codeRec_of inK hcd) (hb _ _ _ _ ?_)
  refine wpAny_newFunctionEnv_cells S.kind kinds fun env henv s1 xc => ?_
  subst henv
  refine ⟨nol.keeps xc.toInCall.keep, codeAny_func ?_⟩
  have I0 : Inv (cxOf (L2.CX P w) P w K mg base N qual scope f cdv A outer s H E) [] (L2.start N vs) H s1 := inv_start S hr.hd e0 hvl hv xc
  obtain ⟨b1, b2⟩ := hbody cdv A outer s H E (hr.deeper _) hG
  obtain ⟨ρ, hd, ds, rel, ra, h⟩ := hq
  have hds : ds.length = n := by rw [ra.length, hvl, hn]
  have S0 : SRel K ρ H (ds.map some ++ List.replicate m none) (L2.start N vs) := by
    unfold L2.start
    refine ⟨by simp [ra.length, hvl, ← hm], fun i d' h => ?_⟩
    by_cases hi : i < ds.length
    · rw [List.getElem?_append_left (by simpa using hi), List.getElem?_map] at h
      obtain ⟨d2, h2, h3⟩ := Option.map_eq_some_iff.mp h
      cases h3
      obtain ⟨v, hv', r'⟩ := ra.get h2
      exact ⟨v, by rw [List.getElem?_append_left (by rw [List.length_map, ← ra.length]; exact hi), List.getElem?_map, hv']; rfl, r'⟩
    · rw [List.getElem?_append_right (by simpa using hi), List.getElem?_replicate] at h
      split at h <;> simp at h
  have run : wpAny (model P w) (A.deeper (envOfC qual scope s.heap.objs.size f cdv)) (execs body (envOfC qual scope s.heap.objs.size f cdv)) (SP (cxOf (L2.CX P w) P w K mg base N qual scope f cdv A outer s H E) [] { nx := fun _ H' => Q .non H', rt := Q }) (cxOf (L2.CX P w) P w K mg base N qual scope f cdv A outer s H E).xe s1 := by
    rcases h with ⟨d, hd', e, q⟩ | ⟨C, d, hd', e, q⟩
    · refine b1.run [] s1 (L2.start N vs) H _ I0 ?_
      unfold mFn at e
      rw [if_pos hds] at e
      obtain ⟨⟨fl, env', hd2⟩, eb, e⟩ := Option.bind_eq_some_iff.mp e
      refine ⟨ρ, _, hd, fl, env', hd2, ⟨rel, S0⟩, eb, fun ρ' σ' H' P' S' => ?_⟩
      cases fl with
      | nx => cases e; exact q _ ρ' H' P' (rep_non.mpr rfl)
      | rt d2 => cases e; exact fun v rv => q v ρ' H' P' rv
      | bk => cases e
      | ct => cases e
    · refine b2.run [] s1 (L2.start N vs) H _ I0 ?_
      unfold mFx at e
      rw [if_pos hds] at e
      exact ⟨ρ, _, hd, C, d, hd', ⟨rel, S0⟩, e, q⟩
  refine wpAny_mono run (fun fl2 s2 hs => ?_) fun e2 s2 hs => hs
  have done : ∀ {σ2 : L2.St} {H2 : Hp} {v : V} {u : Value}, Inv (cxOf (L2.CX P w) P w K mg base N qual scope f cdv A outer s H E) [] σ2 H2 s2 → RelV v u → Q v H2 → CE outer P w H s Q u s2 :=
    fun {σ2 H2 v u} J rv qv => ⟨v, H2, J.os, J.bare, J.base, J.hok, rv, qv⟩
  cases fl2 with
  | ret u => obtain ⟨v, σ2, H2, J, rv, qv⟩ := hs; exact done J rv qv
  | next => obtain ⟨σ2, H2, J, qv⟩ := hs; exact done (v := V.non) (u := Value.none) J rfl qv
  | brk => obtain ⟨_, _, _, qv⟩ := hs; exact qv.elim
  | cont => obtain ⟨_, _, _, qv⟩ := hs; exact qv.elim
end Dl

namespace Dl
open PySem PySem.Spec PyProof.Rows L2 LamX
/-! ## g(lambda: e), g a def that hears: in plain data -/
/-- the raising way of an expression -/
def tEX (K : PySem.W.Frag) (E : XK) (r : XM) : TE := fun σ H _ => ∃ ρ env hd C d hd', At K ρ σ H env hd ∧ r env hd = some (C, d, hd') ∧ ∀ v ρ' H' dd, Post K ρ ρ' H H' hd' → Rep K ρ' H' d v → H' dd = none → E (.ref C) (some dd) (upd H' dd (.xd [(("value" : Str), v)]))
open Classical in
noncomputable def heardD (cls : List Addr) (P : Addr) (q : Str) (a : EM) (r : XM) : EM := fun env hd => if Ob.tab P q ∈ hd then
    (match a env hd with
    | some p => some (.tup [.non, p.1], p.2)
    | none => (r env hd).bind fun p => if p.1 ∈ cls then some (.tup [.exc p.1 p.2.1, .non], p.2.2) else none)
  else none
/-- the tables that stand -/
def tabsOf (ρ : List Addr) (hd : Hd) : List (Addr × Str) := (ρ.zip hd).filterMap fun p => match p.2 with | .tab P q => some (P, q) | _ => none
theorem mem_tabs {ρ : List Addr} {hd : Hd} {P : Addr} {q : Str} : (P, q) ∈ tabsOf ρ hd ↔ ∃ (n : Nat) (a : Addr), ρ[n]? = some a ∧ hd[n]? = some (Ob.tab P q) := by
  unfold tabsOf
  rw [List.mem_filterMap]
  constructor
  · rintro ⟨⟨a, o⟩, hm, e⟩
    obtain ⟨n, hn, hz⟩ := List.getElem_of_mem hm
    cases o with
    | lst ds => cases e
    | tab P' q' =>
      cases e
      rw [List.getElem_zip] at hz
      obtain ⟨e1, e2⟩ := Prod.mk.inj hz
      have l1 : n < ρ.length := by rw [List.length_zip] at hn; omega
      have l2 : n < hd.length := by rw [List.length_zip] at hn; omega
      exact ⟨n, a, by rw [List.getElem?_eq_getElem l1, e1], by rw [List.getElem?_eq_getElem l2, e2]⟩
  · rintro ⟨n, a, e1, e2⟩
    obtain ⟨l1, e1⟩ := List.getElem?_eq_some_iff.mp e1
    obtain ⟨l2, e2⟩ := List.getElem?_eq_some_iff.mp e2
    refine ⟨(a, .tab P q), ?_, rfl⟩
    rw [List.mem_iff_getElem]
    exact ⟨n, by rw [List.length_zip]; omega, by rw [List.getElem_zip, e1, e2]⟩
theorem tabs_rel {K : PySem.W.Frag} {ρ : List Addr} {H : Hp} {hd : Hd} (r : Rel K ρ H hd) : Tabs (tabsOf ρ hd) H := by
  rintro ⟨P, q⟩ hp
  obtain ⟨n, a, e1, e2⟩ := mem_tabs.mp hp
  obtain ⟨rfl, t⟩ := r.ob n a _ e1 e2
  exact t
theorem extN_ext {K : PySem.W.Frag} {H H1 : Hp} (x : ExtN H H1) : Ext K H H1 := by
  refine ⟨fun a xs h => ?_, fun a xs h => ?_, fun a C v ⟨dd, h1, h2⟩ => ⟨dd, x _ _ h1 fun ps z => (by unfold Caught at z; cases z), x _ _ h2 fun ps z => nomatch z⟩, fun c q h => x _ _ h fun ps z => (by unfold CodeO at z; cases z), fun a C v ⟨dd, h1, h2⟩ => ⟨dd, x _ _ h1 (fun ps z => nomatch z), x _ _ h2 (fun ps z => nomatch z)⟩⟩
  · rcases h with (h | ⟨o, h⟩) | h
    · exact .inl (.inl (x _ _ h fun ps z => nomatch z))
    · exact .inl (.inr ⟨o, x _ _ h fun ps z => nomatch z⟩)
    · exact .inr h
  · rcases h with ⟨o, h⟩ | h
    · exact .inl ⟨o, x _ _ h fun ps z => nomatch z⟩
    · exact .inr h
theorem rel_extN {K : PySem.W.Frag} {ρ : List Addr} {H H1 : Hp} {hd : Hd} (r : Rel K ρ H hd) (x : ExtN H H1) (t : Tabs (tabsOf ρ hd) H1) : Rel K ρ H1 hd := by
  refine ⟨r.len, r.nd, fun n a o e1 e2 => ?_⟩
  have q := r.ob n a o e1 e2
  cases o with
  | lst ds =>
    obtain ⟨vs, h, l⟩ := q
    exact ⟨vs, x _ _ h (fun ps z => nomatch z), l.mono (List.prefix_refl _) (extN_ext x)⟩
  | tab P q' =>
    obtain ⟨rfl, _⟩ := q
    exact ⟨rfl, t (a, q') (mem_tabs.mpr ⟨n, a, e1, e2⟩)⟩
theorem PE.orE {X : Cx} {e : Expr} {t u : TE} (h : PE X e t) (k : PE X e u) : PE X e (fun σ H Q => t σ H Q ∨ u σ H Q) := ⟨fun pins s σ H Q I w => w.elim (h.run pins s σ H Q I) (k.run pins s σ H Q I)⟩
/-- a new error, kept -/
theorem post_exc {K : PySem.W.Frag} {ρ : List Addr} {H : Hp} {hd : Hd} {C a dd : Addr} {v : V} (r : Rel K ρ H hd) (n : H dd = none) (na : upd H dd (.xd [(("value" : Str), v)]) a = none) :
    Post K ρ ρ H (upd (upd H dd (.xd [(("value" : Str), v)])) a (Caught (.ref C) (some dd) a)) hd ∧ ExcF (upd (upd H dd (.xd [(("value" : Str), v)])) a (Caught (.ref C) (some dd) a)) a C v := by
  have p1 := Post.newT (o := .xd [(("value" : Str), v)]) r n
  have p2 := Post.newT (o := Caught (.ref C) (some dd) a) p1.rel na
  refine ⟨p1.trans p2, dd, upd_same, ?_⟩
  rw [upd_ne (show dd ≠ a from fun z => by rw [← z, upd_same] at na; cases na), upd_same]
theorem pm_heard {X : Cx} {cls : List Addr} {x y : Str} {g c P CF : Addr} {k : Nat} {pg pr : Arguments} {bg : List Stmt} {sg scope : Scope} {dV kV doc pm cd ct oc : Value} {an od : Option Addr} {osl : Array (Option Value)} {N : List Str}
    {body : Expr} {p lp pos : Pos} {a : EM} {r : XM} (hex : ∀ C ∈ cls, PySem.W.exmOne X.K (.ref C) (.ref CF) = some true)
    (hg : Gl X x) (hm : X.mg x = some (.ref g)) (hk : PySem.W.keepIn X.K (.ref g) = true)
    (lk : X.K.lookup g = some ⟨oc, od, .func (PySem.W.fnOf x x pg bg sg dV kV doc pm an cd ct), osl⟩) (cg : PySem.W.codeIn X.K cd x = true) (hb : L2.Binds X.K (PySem.W.fnOf x x pg bg sg dV kV doc pm an cd ct) [y] []) (Sg : FnScope N [y] sg) (hN : N[0]? = some y) (hv : Vis sg y)
    (gives : GivesAt X N x sg g cd bg y (X.env.qual ++ "<lambda>") (TTheard X.K CF)) (TB : TabB X.base X.mg c P) (ec : X.env.code = .ref c) (room : Room (k + 2) X.A) (L : LamS X.env.scope scope) (nd : defaultsOf pr X.env = ([], []))
    (bind0 : ∀ (q : Str) (cl : List (Str × Addr)) (pm cv ctv : Value), bindArgs (PySem.W.kla_fn "<lambda>" q pr body scope cl pm cv ctv) ⟨[], []⟩ = pure [])
    (hbody : ∀ (A : Around) (outer : List Env) (s : Shared) (H : Hp) (E : XK) (f co : Addr), A.guards = X.A.guards → Room k (A.deeper (lamEnv X scope s.heap.objs.size f co)) → PE (lamCx X A outer s H E scope f co) body (tM X.K a) ∧ PE (lamCx X A outer s H E scope f co) body (tEX X.K E r))
    (d0 : (x == ("__debug__" : Str)) = false) (d1 : (y == ("__debug__" : Str)) = false) (d2 : (y == ("__classdict__" : Str)) = false) : PE X (.Call (.Name x p) [.Lambda pr body scope lp] [] pos) (tM X.K (heardD cls P (X.env.qual ++ "<lambda>") a r)) := by
  constructor
  rintro pins s σ H Q I ⟨ρ, env, hd, d, hd', A, e, q⟩
  unfold heardD at e
  split at e
  rotate_left
  · cases e
  rename_i here
  obtain ⟨n, hn⟩ := List.mem_iff_getElem?.mp here
  have ln : n < ρ.length := by rw [A.rel.len]; exact (List.getElem?_eq_some_iff.mp hn).1
  have eP : ρ[n]? = some P := by
    have e1 := List.getElem?_eq_getElem ln
    obtain ⟨w, -⟩ := A.rel.ob n _ _ e1 hn
    rw [e1, w]
  have inT : (P, X.env.qual ++ "<lambda>") ∈ tabsOf ρ hd := mem_tabs.mpr ⟨n, P, eP, hn⟩
  have one : ∀ z ∈ tabsOf ρ hd, z.1 = P → z.2 = X.env.qual ++ "<lambda>" := by
    rintro ⟨P2, q2⟩ hz w
    obtain ⟨m, b, m1, m2⟩ := mem_tabs.mp hz
    obtain ⟨w2, -⟩ := A.rel.ob m b _ m1 m2
    dsimp only at w ⊢
    have hmn : m = n := nodup_get A.rel.nd m1 (by rw [eP, ← w, w2])
    rw [hmn, hn] at m2
    cases m2
    rfl
  have rule := lamcall_at (p := p) (lp := lp) (pos := pos) (T := tabsOf ρ hd) (TT := TTheard X.K CF) (t := fun E σ H Q => tM X.K a σ H Q ∨ tEX X.K E r σ H Q) hg hm hk lk cg hb Sg hN hv gives TB ec inT one room L nd bind0
    (fun A' outer s' H' E f co gg rr => PE.orE (hbody A' outer s' H' E f co gg rr).1 (hbody A' outer s' H' E f co gg rr).2) d0 d1 d2
  refine rule.run pins s σ H Q I ⟨tabs_rel A.rel, fun H0 ex T1 z nz => ?_⟩
  have R0 := rel_extN A.rel ex T1
  have P0 : Post X.K ρ ρ H H0 hd := ⟨List.prefix_refl _, extN_ext ex, R0, fun b o hb t m => ⟨ex b o hb t, m⟩⟩
  have P1 : Post X.K ρ ρ H (upd H0 z (.tup [.non, .non])) hd := P0.trans (Post.newT R0 nz)
  obtain ⟨H1, eH1⟩ : ∃ H1, H1 = upd H0 z (.tup [.non, .non]) := ⟨_, rfl⟩
  rw [← eH1] at P1 ⊢
  have A1 : At X.K ρ σ H1 env hd := A.post P1
  cases ea : a env hd with
  | some w =>
    rw [ea] at e
    cases e
    refine .inl ⟨ρ, env, hd, w.1, w.2, A1, by rw [ea], fun v ρ' H' P2 rv pp np => ?_⟩
    have P3 := Post.newT (o := .tup [.non, v]) P2.rel np
    refine q _ ρ' _ (P1.trans (P2.trans P3)) (rep_tup.mpr ⟨pp, [.non, v], rfl, .of upd_same, ?_⟩)
    simp only [RepL]
    exact ⟨_, _, rfl, rep_non.mpr rfl, _, _, rfl, rv.mono P3.pre P3.ext, rfl⟩
  | none =>
    rw [ea] at e
    obtain ⟨⟨C, d2, h2⟩, er, e⟩ := Option.bind_eq_some_iff.mp e
    dsimp only at e
    split at e
    rotate_left
    · cases e
    rename_i hC
    cases e
    refine .inr ⟨ρ, env, hd, C, d2, _, A1, er, fun v ρ' H' dd P2 rv ndd => ⟨hex C hC, fun b nb pp np => ?_⟩⟩
    obtain ⟨P3, ex3⟩ := post_exc (C := C) P2.rel ndd nb
    have P4 := Post.newT (o := .tup [.ref b, .non]) P3.rel np
    refine q _ ρ' _ (P1.trans (P2.trans (P3.trans P4))) (rep_tup.mpr ⟨pp, [.ref b, .non], rfl, .of upd_same, ?_⟩)
    simp only [RepL]
    exact ⟨_, _, rfl, rep_exc.mpr ⟨b, v, rfl, ex3.new np, (rv.mono P3.pre P3.ext).mono P4.pre P4.ext⟩, _, _, rfl, rep_non.mpr rfl, rfl⟩
end Dl

namespace Dl
open PySem PySem.Spec PyProof.Rows L2 LamX
/-! ## a def that may raise, called where errors are wished for -/
def xCall (R : RN) (fr : AM) : XM := fun env hd => (fr env hd).bind fun p => R p.1 p.2
section
variable {X : Cx} {pos p : Pos} {e : Expr} {es : List Expr} {fr : AM} {F : GN} {R : RN} {k : Nat} {f : Addr} {fd : FuncData} {ps : List Str} {x : Str} {E : XK}
theorem pe_callX (tk : Takes X fun cls d _ G => E cls d G) (G : FnX X.prog X.w X.K X.mg X.base k f fd ps F R) (hr : Room k X.A) (hG : X.A.guards = some []) (hg : Gl X x) (hm : X.mg x = some (.ref f)) (hk : PySem.W.keepIn X.K (.ref f) = true) (hb : Binds X.K fd ps [])
    (ha : PA X (e :: es) (tA X.K fr)) (hdb : (x == ("__debug__" : Str)) = false := by decide) (he : starEach (e :: es) X.env = (false, eval e X.env) :: starEach es X.env := by rfl) (hpl : (backTo pos (starEach es X.env)).any (·.1) = false := by rfl) :
    PE X (.Call (.Name x p) (e :: es) [] pos) (fun σ H Q => tA X.K fr σ H fun vs H1 => rX X.K F R vs H1 Q E) := by
  constructor
  intro pins s σ H Q I h
  refine wpAny_Call_Name_kw (ld_glob I hg hm ?_ hdb)
  refine PySem.W.callWith_K (h₀ := X.base) I.ok.mod.kin hk (thn (ha.run pos pins s σ H _ I h) ?_) he hpl
  rintro us s1 ⟨vs, H1, I1, r, q⟩
  refine ⟨I1.kIn, ?_⟩
  have hl : us.length = ps.length := by rw [← r.length]; exact G.len vs H1 Q E q
  have b := hb s1 us I1.kIn (by rw [List.append_nil]; exact hl)
  rw [List.append_nil] at b
  refine wpAny_call (codeAny_mono (G.run X.A X.stack s1 H1 ⟨us, []⟩ us vs Q E hr hG I1.env0 b r q) fun w s' hq => ?_)
  cases w with
  | error er => exact passAt tk σ pins H1 s1 er s' I1 hq
  | ok fl =>
    cases fl with
    | ret u => exact I1.after hq
    | next => exact absurd hq id
    | brk => exact absurd hq id
    | cont => exact absurd hq id
theorem pm_callX (tk : Takes X fun cls d _ G => E cls d G) (G : FnX X.prog X.w X.K X.mg X.base k f fd ps F R) (hr : Room k X.A) (hG : X.A.guards = some []) (hg : Gl X x) (hm : X.mg x = some (.ref f)) (hk : PySem.W.keepIn X.K (.ref f) = true) (hb : Binds X.K fd ps [])
    (ha : PA X (e :: es) (tA X.K fr)) (hdb : (x == ("__debug__" : Str)) = false := by decide) (he : starEach (e :: es) X.env = (false, eval e X.env) :: starEach es X.env := by rfl) (hpl : (backTo pos (starEach es X.env)).any (·.1) = false := by rfl) :
    PE X (.Call (.Name x p) (e :: es) [] pos) (tM X.K (mCall F fr)) ∧ PE X (.Call (.Name x p) (e :: es) [] pos) (tEX X.K E (xCall R fr)) := by
  have w := pe_callX (p := p) tk G hr hG hg hm hk hb ha hdb he hpl
  constructor
  · refine PE.to w fun σ H Q ⟨ρ, env, hd, d, hd', A, e1, q⟩ => ?_
    obtain ⟨⟨ds, h1⟩, e2, e3⟩ := Option.bind_eq_some_iff.mp e1
    exact ⟨ρ, env, hd, ds, h1, A, e2, fun vs ρ1 H1 P1 r1 => ⟨ρ1, h1, ds, P1.rel, r1, .inl ⟨d, hd', e3, fun v ρ2 H2 P2 r2 => q v ρ2 H2 (P1.trans P2) r2⟩⟩⟩
  · refine PE.to w fun σ H Q ⟨ρ, env, hd, C, d, hd', A, e1, q⟩ => ?_
    obtain ⟨⟨ds, h1⟩, e2, e3⟩ := Option.bind_eq_some_iff.mp e1
    exact ⟨ρ, env, hd, ds, h1, A, e2, fun vs ρ1 H1 P1 r1 => ⟨ρ1, h1, ds, P1.rel, r1, .inr ⟨C, d, hd', e3, fun v ρ2 H2 dd P2 r2 n => q v ρ2 H2 dd (P1.trans P2) r2 n⟩⟩⟩
/-- in a lambda's body -/
theorem takes_lam {A : Around} {outer : List Env} {s : Shared} {H : Hp} {scope : Scope} {f co : Addr} : Takes (lamCx X A outer s H E scope f co) (fun cls d _ G => E cls d G) := takes_of rfl rfl rfl rfl
end
end Dl

namespace Dl
open PySem PySem.Spec PyProof.Rows L2 LamX
/-! ## the law's end, one table of code objects standing empty -/
theorem law_endT {P : Program} {w : World} {K : PySem.W.Frag} {mg mb : Str → Option Value} {k : Nat} {fa a c T : Addr} {nm : Str} {fd : FuncData} {x : Str} {F : GN} {s : Shared} {vs : List Value} {ns : List Int}
    (KX : K.In s.heap) (n1 : s.heap.Ns mainGlobals mg) (n2 : s.heap.Ns builtinsNs mb) (n3 : ∀ y : Str, y ≠ "__name__" → mb y = bootBuiltins y) (lim : s.heap.NoLimit) (gens : s.gens = #[])
    (bI : ∃ (b : Addr) (o : Obj), mg "__builtins__" = some (.ref b) ∧ b ≠ builtinsNs ∧ s.heap.get? b = some o ∧ o.cls = .type "module" ∧ o.dict = some builtinsNs ∧ o.data = .plain)
    (eT : s.heap.get? T = some { cls := .none, data := .fields #[] }) (oT : K.lookup T = none) (hT : PySem.W.codeHdIn K c T = true)
    (ea : s.heap.get? a = some { cls := .type "list", data := .seq vs.toArray }) (iv : IntsAre vs ns) (hl : ns.length ≤ sizeLine) (hr : Room k callerA)
    (G : ∀ base : Heap, K.In base → base.Ns mainGlobals mg → TabB base mg c T → FnG P w K mg base k fa fd [x] F) (bind : ∀ (s : Shared) (u : Value), BindsTo s fd ⟨[u], []⟩ [(x, u)])
    (hF : ∃ hd', F [.fls (ns.map .int)] [.tab T nm] = some (.bl true, hd')) :
    codeAny (model P w) callerA (.call (.ref fa) ⟨[.ref a], []⟩) (fun r s' => r = .ok (.ret (.bool true)) ∧ OldK s.heap s'.heap ∧ s'.os = s.os ∧ AllBare s'.gens) s := by
  obtain ⟨hd', hF⟩ := hF
  have rv := vals_ints iv
  have hlen := iv.length
  have aT : a ≠ T := fun z => by
    rw [z, eT] at ea
    exact nomatch (show Data.fields #[] = Data.seq vs.toArray _ from congrArg Obj.data (Option.some.inj ea))
  have go : ∀ H : Hp, SqF K H a (ns.map V.int) → HOk P w H s.heap → H T = some (.tbl #[]) → (∀ b, b ≠ T → H b = none ∨ (b = a ∧ ∃ o ys, H b = some (.frz o (.lst ys)) ∧ K.lookup a = none)) →
      codeAny (model P w) callerA (.call (.ref fa) ⟨[.ref a], []⟩) (fun r s' => r = .ok (.ret (.bool true)) ∧ OldK s.heap s'.heap ∧ s'.os = s.os ∧ AllBare s'.gens) s := by
    intro H sq ok tT only
    have keepB : ∀ {b : Addr} {o : Obj}, s.heap.get? b = some o → H b = none → (hidT s.heap H).get? b = some o := fun e n => hidT_get e n
    -- an object that is neither the script nor the table
    have freeB : ∀ {b : Addr} {o : Obj}, s.heap.get? b = some o → (∀ xs m, o.data ≠ .seq xs m) → (∀ xs, o.data ≠ .fields xs) → H b = none := by
      intro b o e d1 d2
      by_cases hb : b = T
      · subst hb
        rw [eT] at e
        cases e
        exact absurd rfl (d2 #[])
      · rcases only b hb with z | ⟨rfl, _⟩
        · exact z
        · rw [ea] at e
          cases e
          exact absurd rfl (d1 vs.toArray _)
    have dictFree : ∀ {b : Addr} {o : Obj} {es : Array DictEntry} {ep : Nat}, s.heap.get? b = some o → o.data = .dict es ep → H b = none := fun e d => freeB e (fun _ _ z => by rw [d] at z; cases z) fun _ z => by rw [d] at z; cases z
    have nsB : ∀ {b : Addr} {m : Str → Option Value}, s.heap.Ns b m → (hidT s.heap H).Ns b m := fun ⟨o, es, ep, e, d, r⟩ => ⟨o, es, ep, keepB e (dictFree e d), d, r⟩
    have inB : K.In (hidT s.heap H) := fun b o e => keepB (KX b o e) (by
      by_cases hb : b = T
      · rw [hb, oT] at e; cases e
      · rcases only b hb with z | ⟨rfl, _, _, _, z⟩
        · exact z
        · rw [z] at e; cases e)
    have md : Mod K mg (hidT s.heap H) := by
      obtain ⟨mc, l1, l2⟩ := lim
      exact ⟨inB, nsB n1, ⟨mb, nsB n2, n3⟩, ⟨mc, nsB l1, l2⟩⟩
    have gT : mainGlobals ≠ T := fun z => by
      obtain ⟨o, es, ep, e, d, _⟩ := n1
      rw [z, eT] at e
      cases e
      cases d
    have tb : TabB (hidT s.heap H) mg c T := by
      refine NdefX.tabB_of_K inB hT ?_ gT
      obtain ⟨b, o, b1, b2, b3, b4, b5, b6⟩ := bI
      refine ⟨b, o, b1, b2, fun z => ?_, fun z => ?_, keepB b3 (freeB b3 (fun _ _ z => by rw [b6] at z; cases z) fun _ z => by rw [b6] at z; cases z), b4, b5, b6⟩
      · obtain ⟨o2, es, ep, e, d, _⟩ := n1
        rw [← z, b3] at e
        cases e
        rw [b6] at d
        cases d
      · rw [z, eT] at b3
        cases b3
        cases b6
    have env0 : Env0 P w K mg (hidT s.heap H) callerA [] s H :=
      ⟨rfl, md, fun b o e => of_hidT e, Nat.le_of_eq (hidT_size _ _), trivial, fun b hb => (List.not_mem_nil (show b ∈ ([] : List Addr) from hb)).elim, ok, .of_eq gens⟩
    have want : rN K F [.ref a] H (fun v _ => v = .bl true) :=
      ⟨[T], [.tab T nm], [.fls (ns.map .int)], .bl true, hd', ⟨rfl, by simp, fun n b o e1 e2 => by
        cases n with
        | zero =>
          simp at e1 e2
          subst e1 e2
          exact ⟨rfl, #[], tT, trivial, fun _ _ z => nomatch z⟩
        | succ n => simp at e1⟩, RepL.one (rep_fls.mpr ⟨a, _, rfl, sq, ints_rep ns⟩), hF, fun v ρ' H' _ r => rep_bl.mp r⟩
    refine codeAny_mono ((G _ inB (nsB n1) tb).run callerA [] s H ⟨[.ref a], []⟩ [.ref a] [.ref a] _ hr rfl env0 (bind s (.ref a)) (.cons rfl .nil) want) fun r s' hq => ?_
    cases r with
    | error e => exact False.elim hq
    | ok fl =>
      cases fl with
      | next => exact False.elim hq
      | brk => exact False.elim hq
      | cont => exact False.elim hq
      | ret u =>
        obtain ⟨v, H', os, bare, un, ok', rv', hv⟩ := hq
        subst hv
        have hu : u = Value.bool true := rv'
        subst hu
        obtain ⟨more, mT⟩ := un.tbls T #[] tT
        have gT' : s'.heap.get? T = some { cls := .none, data := .fields (#[] ++ more) } := ok' T _ mT
        have stay : ∀ b o, b ≠ T → s.heap.get? b = some o → s'.heap.get? b = some o := fun b o hb e => by
          rcases only b hb with z | ⟨_, ob, ys, z, _⟩
          · exact un.keep b o e z (fun y => (List.not_mem_nil (show b ∈ ([] : List Addr) from y)).elim) (List.not_mem_nil)
          · have h1 := (ok b _ z).1
            have h2 := (ok' b _ (un.frzs b ob _ z)).1
            rw [e] at h1
            cases h1
            exact h2
        refine ⟨rfl, ⟨fun b o e => ?_, fun b o e => ?_⟩, os, bare⟩
        · by_cases hb : b = T
          · subst hb
            rw [eT] at e
            cases e
            exact .inr (.inl ⟨((PySem.W.codeHd_of_K KX hT).tab eT).isCodeTable, rfl, #[], more, rfl, gT'⟩)
          · exact .inl (stay b o hb e)
        · by_cases hb : b = T
          · exact ⟨_, by rw [hb]; exact gT'⟩
          · exact ⟨o, stay b o hb e⟩
  cases hk : K.lookup a with
  | some o =>
    have e := KX a o hk
    rw [ea] at e
    cases e
    refine go (upd (fun _ => none) T (.tbl #[])) (.inr (.inr ⟨_, vs.toArray, _, hk, rfl, rfl, rfl, by rw [List.size_toArray, hlen]; exact hl, by simpa using rv⟩)) (fun b u z => ?_) upd_same fun b hb => .inl (by rw [upd_ne hb])
    by_cases hb : b = T
    · subst hb
      rw [upd_same] at z
      cases z
      exact eT
    · rw [upd_ne hb] at z
      cases z
  | none =>
    refine go (upd (upd (fun _ => none) a (.frz { cls := .type "list", data := .seq vs.toArray } (.lst (ns.map V.int)))) T (.tbl #[])) (.inl ⟨_, by rw [upd_ne aT]; exact upd_same⟩) (fun b u z => ?_) upd_same fun b hT => ?_
    · by_cases hb : b = T
      · subst hb
        rw [upd_same] at z
        cases z
        exact eT
      · rw [upd_ne hb] at z
        by_cases ha : b = a
        · subst ha
          rw [upd_same] at z
          cases z
          exact ⟨ea, by rw [List.length_map]; exact hl, vs, _, rv, ea⟩
        · rw [upd_ne ha] at z
          cases z
    · rw [upd_ne hT]
      by_cases hb : b = a
      · subst hb
        exact .inr ⟨rfl, _, _, upd_same, hk⟩
      · exact .inl (by rw [upd_ne hb])
theorem walk_GT {l : PySem.W.OpenLaw} {n k : Nat} {q : Program} {loose : List Str} {XP : (Str → Option Value) → Heap → Prop} {YP : World → Heap → Prop} {d : DefRec} {x : Str}
    (hn : l.most = some n) (hn2 : n ≤ sizeLine) (hdf : d.params.defaults = []) (hr : Room k callerA)
    (W : ∀ (w : World) (mg : Str → Option Value) (fa : Addr) (h : Heap), YP w h → h.Ns mainGlobals mg → mg d.name = some (.ref fa) →
      ∃ (K : PySem.W.Frag) (fd : FuncData) (F : GN) (c T : Addr) (nm : Str), K.In h ∧ (∀ (s : Shared) (u : Value), BindsTo s fd ⟨[u], []⟩ [(x, u)]) ∧ h.get? T = some { cls := .none, data := .fields #[] } ∧ K.lookup T = none ∧ PySem.W.codeHdIn K c T = true ∧
        (∀ ns : List Int, ns.length ≤ n → ∃ hd', F [.fls (ns.map .int)] [.tab T nm] = some (.bl true, hd')) ∧ ∀ base : Heap, K.In base → base.Ns mainGlobals mg → TabB base mg c T → FnG l.prog w K mg base k fa fd [x] F) :
    PySem.W.WalkO q loose XP YP l.row.toRowW d [] (fun f vs => PySem.call f vs) := by
  refine Att.attach_callB hn hdf fun w s₀ s₁ mg mb fa o pm cd doc a vs ns G Y ho hd hcd hmg hobj hints hlen _ hg => ?_
  obtain ⟨K, fd, F, c, T, nm, KX, hb, eT, oT, hT, hF, hG⟩ := W w mg fa _ Y G.T.g hmg
  exact law_endT KX G.T.g G.T.b G.T.builtins G.T.nolimit hg G.T.bmain eT oT hT hobj hints (Nat.le_trans hlen hn2) hr hG hb (hF ns hlen)
end Dl

namespace Dl
open PySem PySem.Spec PyProof.Rows L2 LamX
/-! ## contracts for a law that hears errors -/
section
variable {P : Program} {w : World} {K : PySem.W.Frag} {mg : Str → Option Value} {base : Heap} {k n m : Nat} {x : Str} {ps N : List Str} {f : Addr} {params : Arguments} {body : List Stmt} {scope : Scope} {fb : SM} {rb : XM}
/-- a def whose code object is told -/
theorem df_ofC (F : ∃ fd, FunD K x x params body scope [] [] f fd) (hf : f = He.fAd K (x, none)) (g : mg x = some (.ref f)) (S : FnScope N ps scope) (hn : ps.length = n) (hm : N.length - ps.length = m)
    (hb : ∀ (kV doc pm : Value) (an : Option Addr) (cdv ct : Value) (us : List Value), us.length = ps.length → bindArgs (PySem.W.fnOf x x params body scope .none kV doc pm an cdv ct) ⟨us, []⟩ = pure (ps.zip us))
    (hbody : ∀ (cdv : Value), cdv = .ref (He.codeOf K (x, none)) → ∀ (A : Around) (outer : List Env) (s : Shared) (H : Hp), Room k (A.deeper (envOfC x scope s.heap.objs.size f cdv)) → (A.deeper (envOfC x scope s.heap.objs.size f cdv)).guards = some [] →
      PSs (cxOf L2.CX0 P w K mg base N x scope f cdv A outer s H L2.E0).nox body (tS K fb)) : Df P w K mg base (k + 1) x ps (mFn n m fb) := by
  obtain ⟨fd, F⟩ := F
  refine ⟨f, fd, fng_ofL F S hn hm (fun cdv ⟨oc, od, osl, fd', lk, e, hc⟩ A outer s H hr hG => PSs.nox (hbody cdv ?_ A outer s H hr hG)), g, F.kp, F.bindsN hb⟩
  obtain ⟨c, ec⟩ := He.codeIn_ref hc
  rw [hf] at lk
  rw [He.codeOf_eq lk (e.trans ec), ec]
def Dfx (P : Program) (w : World) (K : PySem.W.Frag) (mg : Str → Option Value) (base : Heap) (k : Nat) (x : Str) (ps : List Str) (F : GN) (R : RN) : Prop :=
  ∃ (f : Addr) (fd : FuncData), FnX P w K mg base k f fd ps F R ∧ mg x = some (.ref f) ∧ PySem.W.keepIn K (.ref f) = true ∧ Binds K fd ps []
theorem dfx_of (F : ∃ fd, FunD K x x params body scope [] [] f fd) (g : mg x = some (.ref f)) (S : FnScope N ps scope) (hn : ps.length = n) (hm : N.length - ps.length = m)
    (hb : ∀ (kV doc pm : Value) (an : Option Addr) (cdv ct : Value) (us : List Value), us.length = ps.length → bindArgs (PySem.W.fnOf x x params body scope .none kV doc pm an cdv ct) ⟨us, []⟩ = pure (ps.zip us))
    (hbody : ∀ (cdv : Value) (A : Around) (outer : List Env) (s : Shared) (H : Hp) (E : XK), Room k (A.deeper (envOfC x scope s.heap.objs.size f cdv)) → (A.deeper (envOfC x scope s.heap.objs.size f cdv)).guards = some [] →
      PSs (cxOf (L2.CX P w) P w K mg base N x scope f cdv A outer s H E) body (tS K fb) ∧ PSs (cxOf (L2.CX P w) P w K mg base N x scope f cdv A outer s H E) body (tX K E rb)) : Dfx P w K mg base (k + 1) x ps (mFn n m fb) (mFx n m rb) := by
  obtain ⟨fd, F⟩ := F
  exact ⟨f, fd, fnx_of F S hn hm hbody, g, F.kp, F.bindsN hb⟩
/-- a def that hears -/
def HearD (K : PySem.W.Frag) (mg : Str → Option Value) (x : Str) (C : Addr) : Prop := ∃ (g : Addr) (oc : Value) (od an : Option Addr) (pg : Arguments) (bg : List Stmt) (sg : Scope) (dV kV doc pm cd ct : Value) (osl : Array (Option Value)),
  mg x = some (.ref g) ∧ PySem.W.keepIn K (.ref g) = true ∧ K.lookup g = some ⟨oc, od, .func (PySem.W.fnOf x x pg bg sg dV kV doc pm an cd ct), osl⟩ ∧ PySem.W.codeIn K cd x = true ∧ L2.Binds K (PySem.W.fnOf x x pg bg sg dV kV doc pm an cd ct) ["call"] [] ∧
  FnScope Nh ["call"] sg ∧ Vis sg "call" ∧ ∀ (X : Cx), X.K = K → X.mg = mg → ∀ q, GivesAt X Nh x sg g cd bg "call" q (TTheard K C)
theorem hearD_of {C : Addr} (F : ∃ fd, FunD K x x params body scope [] [] f fd) (g : mg x = some (.ref f)) (S : FnScope Nh ["call"] scope) (v : Vis scope "call")
    (hb : ∀ (kV doc pm : Value) (an : Option Addr) (cdv ct : Value) (us : List Value), us.length = (["call"] : List Str).length → bindArgs (PySem.W.fnOf x x params body scope .none kV doc pm an cdv ct) ⟨us, []⟩ = pure ((["call"] : List Str).zip us))
    (gv : ∀ (X : Cx) (cd : Value), X.K = K → X.mg = mg → ∀ q, GivesAt X Nh x scope f cd body "call" q (TTheard K C)) : HearD K mg x C := by
  obtain ⟨fd, F⟩ := F
  have b := F.bindsN hb
  have kp := F.kp
  obtain ⟨oc, od, dV, kV, doc, pm, an, cdv, ct, osl, rfl, lk, hcd, _, _⟩ := F.ex
  exact ⟨f, oc, od, an, params, body, scope, dV, kV, doc, pm, cdv, ct, osl, g, kp, lk, hcd, b, S, v, fun X eK em q => gv X cdv eK em q⟩
end
section
variable {X : Cx} {pos p lp : Pos} {e : Expr} {es : List Expr} {fr : AM} {F : GN} {R : RN} {k : Nat} {ps : List Str} {x : Str} {E : XK}
theorem pm_callDX (tk : Takes X fun cls d _ G => E cls d G) (C : Dfx X.prog X.w X.K X.mg X.base k x ps F R) (hr : Room k X.A) (hG : X.A.guards = some []) (hg : Gl X x)
    (ha : PA X (e :: es) (tA X.K fr)) (hdb : (x == ("__debug__" : Str)) = false := by decide) (he : starEach (e :: es) X.env = (false, eval e X.env) :: starEach es X.env := by rfl) (hpl : (backTo pos (starEach es X.env)).any (·.1) = false := by rfl) :
    PE X (.Call (.Name x p) (e :: es) [] pos) (tM X.K (mCall F fr)) ∧ PE X (.Call (.Name x p) (e :: es) [] pos) (tEX X.K E (xCall R fr)) := by
  obtain ⟨f, fd, G, hm, hk, hb⟩ := C
  exact pm_callX tk G hr hG hg hm hk hb ha hdb he hpl
theorem pm_heardD {cls : List Addr} {c P CF : Addr} {pr : Arguments} {scope : Scope} {body : Expr} {a : EM} {r : XM} {q : Str} (Hd : HearD X.K X.mg x CF) (hex : ∀ C ∈ cls, PySem.W.exmOne X.K (.ref C) (.ref CF) = some true)
    (hg : Gl X x) (TB : TabB X.base X.mg c P) (ec : X.env.code = .ref c) (room : Room (k + 2) X.A) (L : LamS X.env.scope scope) (nd : defaultsOf pr X.env = ([], []))
    (bind0 : ∀ (q : Str) (cl : List (Str × Addr)) (pm cv ctv : Value), bindArgs (PySem.W.kla_fn "<lambda>" q pr body scope cl pm cv ctv) ⟨[], []⟩ = pure [])
    (hbody : ∀ (A : Around) (outer : List Env) (s : Shared) (H : Hp) (E : XK) (f co : Addr), A.guards = X.A.guards → Room k (A.deeper (lamEnv X scope s.heap.objs.size f co)) → PE (lamCx X A outer s H E scope f co) body (tM X.K a) ∧ PE (lamCx X A outer s H E scope f co) body (tEX X.K E r))
    (hq : X.env.qual ++ "<lambda>" = q) (d0 : (x == ("__debug__" : Str)) = false := by decide) : PE X (.Call (.Name x p) [.Lambda pr body scope lp] [] pos) (tM X.K (heardD cls P q a r)) := by
  subst hq
  obtain ⟨g, oc, od, an, pg, bg, sg, dV, kV, doc, pm, cd, ct, osl, h1, h2, h3, h4, h5, h6, h7, h8⟩ := Hd
  exact pm_heard (N := Nh) (y := "call") hex hg h1 h2 h3 h4 h5 h6 rfl h7 (h8 X rfl rfl _) TB ec room L nd bind0 hbody d0 (by decide) (by decide)
end
/-! ## the errors' classes -/
def oexB (K : PySem.W.Frag) (C : Addr) : Bool := match K.lookup C with
  | some ⟨ty, _, .cls c, sl⟩ => (match ty with
    | .type t => decide (t = "type")
    | _ => false) && ((match c.mro with
    | .ref C1 :: l => decide (C1 = C) && PySem.HandSPX.refsVE l
    | _ => false) && (c.hasDict && (!c.hasDel && match sl.toList with
    | [_, _, _, _, some (.builtin b), _] => decide (b = "ValueError.__new__")
    | _ => false)))
  | _ => false
theorem oexB_ok {K : PySem.W.Frag} {C : Addr} (h : oexB K C = true) : ∃ nm q N bs bm sn sub ab col dd k0 k1 k2 k3 k5, K.lookup C = some (excClassObj nm q C N bs bm true sn sub ab col dd k0 k1 k2 k3 k5 "ValueError.__new__") ∧ PySem.HandSPX.refsVE bm = true := by
  unfold oexB at h
  split at h
  · rename_i ty dd c sl lk
    simp only [Bool.and_eq_true] at h
    obtain ⟨h1, h2, h3, h4, h5⟩ := h
    split at h1
    · have et := of_decide_eq_true h1
      split at h2
      · rename_i C1 l hm
        simp only [Bool.and_eq_true] at h2
        have e1 := of_decide_eq_true h2.1
        split at h5
        · rename_i k0 k1 k2 k3 b k5 hs
          have e2 := of_decide_eq_true h5
          obtain ⟨nm, bs, mro, ns, qn, hd, sn, sub, ab, col, del⟩ := c
          dsimp only at hm h3 h4
          simp only [Bool.not_eq_true'] at h4
          subst hm h3 h4 e1 e2 et
          have hsl : sl = #[k0, k1, k2, k3, some (.builtin "ValueError.__new__"), k5] := by
            obtain ⟨v⟩ := sl
            simp only at hs
            rw [hs]
          subst hsl
          exact ⟨nm, qn, ns, bs, l, sn, sub, ab, col, dd, k0, k1, k2, k3, k5, lk, h2.2⟩
        · cases h5
      · cases h2
    · cases h1
  · cases h
def eq1 (a b : Option Value) : Bool := decide (a = b)
/-- all that is asked of an error's class; fI: the __init__ -/
def errB (K : PySem.W.Frag) (C fI : Addr) : Bool := oexB K C && (He.eqO (PySem.W.findIn K (.ref C) "__setattr__") (some (some (.builtin "object.__setattr__"))) && (decide (PySem.W.subIn K (.ref C) (.type "BaseException") = some true) && (eq1 (PySem.W.typeIn K (.ref C)) (some (.type "type")) && (PySem.W.keepIn K (.ref C) &&
  (He.eqO (PySem.W.findIn K (.ref C) "__init__") (some (some (.ref fI))) && (eq1 (PySem.W.typeIn K (.ref fI)) (some (.type "function")) && (He.eqO (PySem.W.findIn K (.ref C) "value") (some none) && ((PySem.W.clsIn K C).isSome && (He.eqO (PySem.W.findIn K (.ref C) "__getattribute__") (some (some (.builtin "BaseException.__getattribute__"))) &&
  (He.eqO (PySem.W.findIn K (.ref C) "__getattr__") (some none) && (PySem.W.hasDictIn K C && (He.eqO (PySem.W.findIn K (.ref C) "__class__") (some (some (.builtin "object.__class__"))) && (He.eqO (PySem.W.specialIn K (.builtin "object.__class__") "__get__") (some (some (.builtin "getset_descriptor.__get__"))) &&
  (decide (PySem.W.takesIn K (.builtin "object.__class__") = some true) && decide (PySem.W.mroIn K C (.type "object") = some true)))))))))))))))
/-- a class's own statements -/
def kidsOf : Stmt → List Stmt
  | .ClassDef _ _ _ b _ _ _ _ _ _ _ => b
  | _ => []
/-- __init__(self, value): self.value = value -/
theorem ini_of {P : Program} {w : World} {K : PySem.W.Frag} {mg : Str → Option Value} {base : Heap} {x qual : Str} {params : Arguments} {scope : Scope} {f C : Addr} {fd : FuncData} {p1 p2 p3 p4 : Pos} (F : FunD K x qual params [.Assign [.Attribute (.Name "self" p1) "value" p2] (.Name "value" p3) p4] scope [] [] f fd) (T : OexC K C)
    (no : PySem.W.findIn K (.ref C) "value" = some none) (S : FnScope ["self", "value"] ["self", "value"] scope) (v1 : Vis scope "self") (v2 : Vis scope "value") : FnOk P w K mg base CX0 1 f fd ["self", "value"] (spIni C) := by
  refine F.ok S (fun vs H Q E h => ?_) (fun cdv A outer s H vs Q E hr h => ⟨tOst K "value" (tVar 0) (tVar 1), PSs.nox (pss_one (ps_ost (pe_var (i := 0) rfl v1) (pe_var (i := 1) rfl v2))), ?_⟩)
  · obtain ⟨a, v, rfl, _⟩ := h
    rfl
  · obtain ⟨a, v, rfl, ha, k⟩ := h
    exact ⟨v, rfl, .ref a, rfl, a, C, rfl, T, no, .inl ⟨ha, fun dx n ne => k dx n ne⟩⟩
theorem errB_ok {P : Program} {w : World} {K : PySem.W.Frag} {mg : Str → Option Value} {base : Heap} {x y qual : Str} {params : Arguments} {scope : Scope} {fI C : Addr} {fd : FuncData} {p1 p2 p3 p4 : Pos} (h : errB K C fI = true) (g : mg x = some (.ref C)) (F : FunD K y qual params [.Assign [.Attribute (.Name "self" p1) "value" p2] (.Name "value" p3) p4] scope [] [] fI fd)
    (S : FnScope ["self", "value"] ["self", "value"] scope) (v1 : Vis scope "self") (v2 : Vis scope "value") (hb : L2.Binds K fd ["self", "value"] []) : ErrC P w K mg base 1 x C ∧ ExcK K C := by
  unfold errB at h
  simp only [Bool.and_eq_true] at h
  obtain ⟨h1, h2, h3, h4, h5, h6, h7, h8, h9, h10, h11, h12, h13, h14, h15, h16⟩ := h
  have T : OexC K C := ⟨oexB_ok h1, He.eqO_ok h2, of_decide_eq_true h3, of_decide_eq_true h4, h5⟩
  exact ⟨⟨T, g, fI, fd, He.eqO_ok h6, of_decide_eq_true h7, ini_of F T (He.eqO_ok h8) S v1 v2, hb⟩, ⟨h9, He.eqO_ok h10, He.eqO_ok h11, of_decide_eq_true h3, h12, He.eqO_ok h13, He.eqO_ok h14, of_decide_eq_true h15, of_decide_eq_true h16, He.eqO_ok h8⟩⟩
theorem cls_one {K : PySem.W.Frag} {C : Addr} (h : ExcK K C) : Cls K [C] := by
  refine ⟨fun D hD => ?_, fun D hD D' hD' => ?_⟩
  · rw [List.mem_singleton] at hD; subst hD; exact h
  · rw [List.mem_singleton] at hD hD'; subst hD hD'
    unfold PySem.W.kitOne
    rw [if_pos (beq_iff_eq.mpr rfl)]
    simp
/-- what a law's defs ask of the one error that is heard -/
structure Ers (P : Program) (w : World) (K : PySem.W.Frag) (mg : Str → Option Value) (base : Heap) (cl : Str → Addr) (x : Str) : Prop where
  k : ExcK K (cl x)
  er : ErrC P w K mg base 1 x (cl x)
  hex : PySem.W.exmOne K (.ref (cl x)) (.ref (cl "FenceError")) = some true
  gF : mg "FenceError" = some (.ref (cl "FenceError"))
theorem Ers.hexs {P w K mg base cl x} (e : Ers P w K mg base cl x) : ∀ C ∈ [cl x], PySem.W.exmOne K (.ref C) (.ref (cl "FenceError")) = some true := fun C hC => by
  rw [List.mem_singleton] at hC; subst hC; exact e.hex
/-! ## is, of a bool -/
def isbD : G2 := fun a b hd => match a, b with
  | .bl x, .bl y => some (.bl (decide (x = y)), hd)
  | _, _ => none
theorem om_isb {X : Cx} : OpR X (compareOp .Is) (rM X.K isbD) := by
  refine OpR.to op_isBl fun x y H Q ⟨ρ, hd, a, b, d, hd', r, ra, rb, e, q⟩ => ?_
  unfold isbD at e
  split at e
  · cases e
    rw [rep_bl] at ra rb; subst ra rb
    exact ⟨_, _, rfl, rfl, q _ ρ H (.refl r) (rep_bl.mpr rfl)⟩
  · cases e
end Dl

namespace Dl
open PySem PySem.Spec PyProof.Rows L2
/-! ## list(zip(xs, ys)) of two lists: the pairs are kept, so each turn makes a new one -/
section
variable {prog : Program} {w : World} {A : Around} {E : Value → Shared → Prop} {s : Shared}
/-- a zip that has handed out its pair f0 -/
abbrev Zs (h : Heap) (z p q : Addr) (f0 : Value) (b : Bool) : Prop := h.get? z = some { cls := .type "zip", dict := none, data := .fields #[f0, .bool b, .bool false, .ref p, .ref q], slots := #[] }
theorem zs_free {z p q T : Addr} {b : Bool} {o : Obj} {Q : Bool → Shared → Prop} (hz : Zs s.heap z p q (rawInt T) b) (hT : s.heap.get? T = some o)
    (hQ : ∀ h', Zs h' z p q (rawInt T) true → Heap.SameBut z s.heap h' → Q false { s with heap := h' }) : wpAny (model prog w) A (Builtin.SmallTypes.ownedTupleIsFree (.ref z)) Q E s := by
  unfold Builtin.SmallTypes.ownedTupleIsFree
  refine wpAny_bind (wpAny_field hz rfl (x := rawInt T) rfl ?_)
  show wpAny _ _ (loadIfAlive (Int.toNat (T : Nat)) >>= _) _ _ s
  rw [Int.toNat_natCast]
  refine wpAny_bind (PySem.W.kdx_alive hT ?_)
  simp only [Option.isNone_some, Bool.false_eq_true, if_false]
  refine wpAny_bind (wpAny_field hz rfl (x := .bool b) rfl ?_)
  cases b with
  | true =>
    rw [if_neg (by simp)]
    exact wpAny_bind (wpAny_pure (wpAny_pure (hQ s.heap hz ⟨rfl, fun _ _ => rfl⟩)))
  | false =>
    rw [if_pos (by simp)]
    refine wpAny_bind (wpAny_setField_rec hz (by simp) fun h1 z1 s1 => wpAny_pure (hQ h1 z1 s1))
/-- a turn -/
theorem zs_item {z p q i1 i2 l1 l2 T : Addr} {k1 k2 : Nat} {xs ys : Array Value} {x y : Value} {b : Bool} {o : Obj} {Q : Value → Shared → Prop} (D : ZipApart z p q i1 i2 l1 l2) (hz : Zs s.heap z p q (rawInt T) b) (hT : s.heap.get? T = some o) (hp : IsPair s.heap p (.ref i1) (.ref i2))
    (h1 : s.heap.IsListIter i1 l1 k1) (h2 : s.heap.IsListIter i2 l2 k2) (hl1 : s.heap.IsList l1 xs) (hl2 : s.heap.IsList l2 ys) (hx : xs[k1]? = some x) (hy : ys[k2]? = some y)
    (hQ : ∀ h', Zs h' z p q (rawInt T) true → h'.IsListIter i1 l1 (k1 + 1) → h'.IsListIter i2 l2 (k2 + 1) → IsPair h' s.heap.objs.size x y → h'.objs.size = s.heap.objs.size + 1 → (∀ c u, c ≠ z → c ≠ i1 → c ≠ i2 → s.heap.get? c = some u → h'.get? c = some u) → Q (.ref s.heap.objs.size) { s with heap := h' }) :
    wpAny (model prog w) A (Builtin.«zip.__next__» ⟨[.ref z], []⟩) (fun fin s' => ∃ v, fin = .done (.ret v) ∧ Q v s') E s := by
  show wpAny _ _ (field (.ref z) 2 >>= _) _ _ s
  refine wpAny_bind (wpAny_field hz rfl (x := .bool false) rfl ?_)
  show wpAny _ _ (field (.ref z) 3 >>= _) _ _ s
  refine wpAny_bind (wpAny_field hz rfl (x := .ref p) rfl ?_)
  refine wpAny_bind (wpAny_seqItems hp rfl ?_)
  show wpAny _ _ (Builtin.SmallTypes.ownedTupleIsFree (.ref z) >>= _) _ _ s
  refine wpAny_bind (zs_free hz hT fun ha za sa => ?_)
  simp only [Bool.false_eq_true, if_false]
  rw [← Array.forIn_toList]
  simp only [List.forIn_cons, List.forIn_nil]
  refine wpAny_bind (wpAny_bind (wpAny_bind (wpAny_holding ?_)))
  show wpAny _ _ (Builtin.SmallTypes.nextOf (.ref i1) >>= _) _ _ _
  refine wpAny_bind (wpAny_nextOf_list_item (h1.extBut sa.extBut D.i1z) (hl1.extBut sa.extBut D.l1z) hx fun hb u1 sb => wpAny_pure ?_)
  refine wpAny_pure ?_
  refine wpAny_bind (wpAny_bind (wpAny_holding ?_))
  show wpAny _ _ (Builtin.SmallTypes.nextOf (.ref i2) >>= _) _ _ _
  refine wpAny_bind (wpAny_nextOf_list_item ((h2.extBut sa.extBut D.i2z).extBut sb.extBut D.i12.symm) ((hl2.extBut sa.extBut D.l2z).extBut sb.extBut D.l2i1) hy fun hc u2 sc => wpAny_pure ?_)
  refine wpAny_pure (wpAny_pure ?_)
  refine wpAny_bind (wpAny_newTuple ?_ (by rw [sizeLine_eq]; simp))
  have hsz : hc.objs.size = s.heap.objs.size := by rw [sc.1, sb.1, sa.1]
  have zc : Zs hc z p q (rawInt T) true := sc.extBut _ _ D.i2z.symm (sb.extBut _ _ D.i1z.symm za)
  refine wpAny_pure ⟨_, rfl, ?_⟩
  have fin := hQ (hc.push { cls := .type "tuple", data := .seq #[x, y] }) (Heap.get?_push_of_some _ zc) ((u1.extBut sc.extBut D.i12).at fun _ e => Heap.get?_push_of_some _ e) (u2.at fun _ e => Heap.get?_push_of_some _ e) (by rw [← hsz]; exact Heap.get?_push_size _ rfl) (by rw [Heap.size_push, hsz]) (fun c u c1 c2 c3 e => Heap.get?_push_of_some _ (sc.extBut _ _ c3 (sb.extBut _ _ c2 (sa.extBut _ _ c1 e))))
  rw [← hsz] at fin
  exact fin
/-- the end -/
theorem zs_end {z p q i1 i2 l1 l2 T : Addr} {k1 k2 : Nat} {xs ys : Array Value} {b : Bool} {o : Obj} {Q : Fin → Shared → Prop} (hh : A.handled = none) (D : ZipApart z p q i1 i2 l1 l2) (hz : Zs s.heap z p q (rawInt T) b) (hT : s.heap.get? T = some o) (hp : IsPair s.heap p (.ref i1) (.ref i2))
    (h1 : s.heap.IsListIter i1 l1 k1) (h2 : s.heap.IsListIter i2 l2 k2) (hl1 : s.heap.IsList l1 xs) (hl2 : s.heap.IsList l2 ys) (off : xs[k1]? = none ∨ ys[k2]? = none)
    (hE : ∀ h' e, (∀ c u, c ≠ z → c ≠ i1 → c ≠ i2 → s.heap.get? c = some u → h'.get? c = some u) → (∃ u, h'.get? e = some u ∧ u.cls = .type "StopIteration") → E (.ref e) { s with heap := h' }) :
    wpAny (model prog w) A (Builtin.«zip.__next__» ⟨[.ref z], []⟩) Q E s := by
  show wpAny _ _ (field (.ref z) 2 >>= _) _ _ s
  refine wpAny_bind (wpAny_field hz rfl (x := .bool false) rfl ?_)
  show wpAny _ _ (field (.ref z) 3 >>= _) _ _ s
  refine wpAny_bind (wpAny_field hz rfl (x := .ref p) rfl ?_)
  refine wpAny_bind (wpAny_seqItems hp rfl ?_)
  show wpAny _ _ (Builtin.SmallTypes.ownedTupleIsFree (.ref z) >>= _) _ _ s
  refine wpAny_bind (zs_free hz hT fun ha za sa => ?_)
  simp only [Bool.false_eq_true, if_false]
  rw [← Array.forIn_toList]
  simp only [List.forIn_cons, List.forIn_nil]
  refine wpAny_bind (wpAny_bind (wpAny_bind (wpAny_holding ?_)))
  show wpAny _ _ (Builtin.SmallTypes.nextOf (.ref i1) >>= _) _ _ _
  cases hx : xs[k1]? with
  | none => exact wpAny_bind (wpAny_nextOf_list_end hh (h1.extBut sa.extBut D.i1z) (hl1.extBut sa.extBut D.l1z) hx fun hb e sb he => hE hb e (fun c u c1 c2 _ q => sb _ _ c2 (sa.extBut _ _ c1 q)) he)
  | some x =>
    have hy : ys[k2]? = none := by
      rcases off with q | q
      · rw [hx] at q; cases q
      · exact q
    refine wpAny_bind (wpAny_nextOf_list_item (h1.extBut sa.extBut D.i1z) (hl1.extBut sa.extBut D.l1z) hx fun hb u1 sb => wpAny_pure ?_)
    refine wpAny_pure ?_
    refine wpAny_bind (wpAny_bind (wpAny_holding ?_))
    show wpAny _ _ (Builtin.SmallTypes.nextOf (.ref i2) >>= _) _ _ _
    exact wpAny_bind (wpAny_nextOf_list_end hh ((h2.extBut sa.extBut D.i2z).extBut sb.extBut D.i12.symm) ((hl2.extBut sa.extBut D.l2z).extBut sb.extBut D.l2i1) hy fun hc e sc he => hE hc e (fun c u c1 c2 c3 q => sc _ _ c3 (sb.extBut _ _ c2 (sa.extBut _ _ c1 q))) he)
/-- next(z), twice told: an item, the end -/
theorem zs_next {z p q i1 i2 l1 l2 T : Addr} {k1 k2 : Nat} {xs ys : Array Value} {x y : Value} {b : Bool} {o : Obj} {Q : Option Value → Shared → Prop} (D : ZipApart z p q i1 i2 l1 l2) (hz : Zs s.heap z p q (rawInt T) b) (hT : s.heap.get? T = some o) (hp : IsPair s.heap p (.ref i1) (.ref i2))
    (h1 : s.heap.IsListIter i1 l1 k1) (h2 : s.heap.IsListIter i2 l2 k2) (hl1 : s.heap.IsList l1 xs) (hl2 : s.heap.IsList l2 ys) (hx : xs[k1]? = some x) (hy : ys[k2]? = some y)
    (hQ : ∀ h', Zs h' z p q (rawInt T) true → h'.IsListIter i1 l1 (k1 + 1) → h'.IsListIter i2 l2 (k2 + 1) → IsPair h' s.heap.objs.size x y → h'.objs.size = s.heap.objs.size + 1 → (∀ c u, c ≠ z → c ≠ i1 → c ≠ i2 → s.heap.get? c = some u → h'.get? c = some u) → Q (some (.ref s.heap.objs.size)) { s with heap := h' }) :
    wpAny (model prog w) A (pyNext (.ref z)) Q E s := by
  have ty : s.TypeIs (.ref z) "zip" := ⟨_, hz, rfl⟩
  unfold pyNext
  exact wpAny_bind (wpAny_attempt (wpAny_callSpecial?_slot (name := Str.ofString "__next__") ty F.slot_zip_next (wpAny_call_entry F.slot_zip_next ty F.entry_zip_next (zs_item D hz hT hp h1 h2 hl1 hl2 hx hy fun h' a1 a2 a3 a4 a5 a6 => wpAny_pure (hQ h' a1 a2 a3 a4 a5 a6)) (F.args_zip_next_1 _))))
theorem zs_stop {z p q i1 i2 l1 l2 T : Addr} {k1 k2 : Nat} {xs ys : Array Value} {b : Bool} {o : Obj} {Q : Option Value → Shared → Prop} (hh : A.handled = none) (D : ZipApart z p q i1 i2 l1 l2) (hz : Zs s.heap z p q (rawInt T) b) (hT : s.heap.get? T = some o) (hp : IsPair s.heap p (.ref i1) (.ref i2))
    (h1 : s.heap.IsListIter i1 l1 k1) (h2 : s.heap.IsListIter i2 l2 k2) (hl1 : s.heap.IsList l1 xs) (hl2 : s.heap.IsList l2 ys) (off : xs[k1]? = none ∨ ys[k2]? = none)
    (hQ : ∀ h', (∀ c u, c ≠ z → c ≠ i1 → c ≠ i2 → s.heap.get? c = some u → h'.get? c = some u) → Q none { s with heap := h' }) : wpAny (model prog w) A (pyNext (.ref z)) Q E s := by
  have ty : s.TypeIs (.ref z) "zip" := ⟨_, hz, rfl⟩
  unfold pyNext
  refine wpAny_bind (wpAny_attempt (wpAny_callSpecial?_slot (name := Str.ofString "__next__") ty F.slot_zip_next (wpAny_call_entry F.slot_zip_next ty F.entry_zip_next (zs_end hh D hz hT hp h1 h2 hl1 hl2 off fun h' e k he => ?_) (F.args_zip_next_1 _))))
  obtain ⟨u, hu, c⟩ := he
  refine wpAny_bind (wpAny_isInstance (T := "StopIteration") (b := true) ⟨u, hu, c⟩ isSubtype_stop ?_)
  exact wpAny_pure (hQ _ k)
end
end Dl

namespace Dl
open PySem PySem.Spec PyProof.Rows L2
abbrev lstO (acc : Array Value) (c : Nat) : Obj := { cls := .type "list", dict := none, data := .seq acc c, slots := #[] }
/-- behind i turns: the pairs at ts, all of them told in the list at S -/
structure Zr (base S z i1 i2 : Addr) (xs ys : Array Value) (h : Heap) (i : Nat) (ts : List Addr) : Prop where
  len : ts.length = i
  nd : ts.Nodup
  big : ∀ t ∈ ts, base ≤ t
  far : ∀ t ∈ ts, t ≠ S ∧ t ≠ z ∧ t ≠ i1 ∧ t ≠ i2
  at_ : ∀ (j : Nat) (t : Addr), ts[j]? = some t → ∃ x y, xs[j]? = some x ∧ ys[j]? = some y ∧ IsPair h t x y
  lst : ∃ c, h.get? S = some (lstO (ts.map Value.ref).toArray c)
structure Zi (p i1 i2 l1 l2 : Addr) (xs ys : Array Value) (h : Heap) (i : Nat) : Prop where
  it1 : h.IsListIter i1 l1 i
  it2 : h.IsListIter i2 l2 i
  pr : IsPair h p (.ref i1) (.ref i2)
  ls1 : h.IsList l1 xs
  ls2 : h.IsList l2 ys
structure Sd (S z p i1 i2 l1 l2 : Addr) : Prop where
  z : S ≠ z
  p : S ≠ p
  i1 : S ≠ i1
  i2 : S ≠ i2
  l1 : S ≠ l1
  l2 : S ≠ l2
section
variable {prog : Program} {w : World} {A : Around} {E : Value → Shared → Prop} {R : Result → Shared → Prop} {base : Addr} {S z p q i1 i2 l1 l2 T : Addr} {xs ys : Array Value}
theorem Zr.stay {h h1 : Heap} {i : Nat} {ts : List Addr} (Z : Zr base S z i1 i2 xs ys h i ts) (d : S ≠ z ∧ S ≠ i1 ∧ S ≠ i2) (k : ∀ a u, a ≠ z → a ≠ i1 → a ≠ i2 → h.get? a = some u → h1.get? a = some u) : Zr base S z i1 i2 xs ys h1 i ts :=
  ⟨Z.len, Z.nd, Z.big, Z.far, fun j t e => by
    obtain ⟨x, y, e1, e2, e3⟩ := Z.at_ j t e
    obtain ⟨_, f2, f3, f4⟩ := Z.far t (List.mem_of_getElem? e)
    exact ⟨x, y, e1, e2, k _ _ f2 f3 f4 e3⟩, by
    obtain ⟨c, e⟩ := Z.lst
    exact ⟨c, k _ _ d.1 d.2.1 d.2.2 e⟩⟩
/-- a further turn -/
theorem Zr.more {h h1 : Heap} {i : Nat} {ts : List Addr} {x y : Value} {t : Addr} {c : Nat} (Z : Zr base S z i1 i2 xs ys h i ts) (hx : xs[i]? = some x) (hy : ys[i]? = some y) (hb : base ≤ t) (new : h.get? t = none) (tz : t ≠ z ∧ t ≠ i1 ∧ t ≠ i2) (tS : t ≠ S)
    (nt : IsPair h1 t x y) (nS : h1.get? S = some (lstO ((ts.map Value.ref).toArray.push (.ref t)) c)) (k : ∀ a u, a ≠ z → a ≠ i1 → a ≠ i2 → a ≠ S → h.get? a = some u → h1.get? a = some u) :
    Zr base S z i1 i2 xs ys h1 (i + 1) (ts ++ [t]) := by
  have tn : t ∉ ts := fun m => by
    obtain ⟨j, hj, e⟩ := List.getElem_of_mem m
    obtain ⟨_, _, _, _, e2⟩ := Z.at_ j t (by rw [List.getElem?_eq_getElem hj, e])
    have e3 : h.get? t = some _ := e2
    rw [new] at e3; cases e3
  refine ⟨by simp [Z.len], ?_, fun a ha => ?_, fun a ha => ?_, fun j a e => ?_, ⟨c, by rw [nS]; simp⟩⟩
  · rw [List.nodup_append]
    exact ⟨Z.nd, by simp, fun a ha b hb e => tn (by rw [List.mem_singleton] at hb; rw [← hb, ← e]; exact ha)⟩
  · rcases List.mem_append.mp ha with m | m
    · exact Z.big a m
    · rw [List.mem_singleton.mp m]; exact hb
  · rcases List.mem_append.mp ha with m | m
    · exact Z.far a m
    · rw [List.mem_singleton.mp m]; exact ⟨tS, tz⟩
  · by_cases hj : j < ts.length
    · rw [List.getElem?_append_left hj] at e
      obtain ⟨u, v, e1, e2, e3⟩ := Z.at_ j a e
      obtain ⟨f1, f2, f3, f4⟩ := Z.far a (List.mem_of_getElem? e)
      exact ⟨u, v, e1, e2, k _ _ f2 f3 f4 f1 e3⟩
    · rw [List.getElem?_append_right (by omega)] at e
      have j0 : j - ts.length = 0 := by
        have := (List.getElem?_eq_some_iff.mp e).1
        simp at this; omega
      rw [j0] at e
      simp at e
      subst e
      have : j = i := by have := Z.len; omega
      subst this
      exact ⟨x, y, hx, hy, nt⟩
theorem zl_loop (hh : A.handled = none) (D : ZipApart z p q i1 i2 l1 l2) (SD : Sd S z p i1 i2 l1 l2) (n : Nat) (hn : n = min xs.size ys.size) (sz : n ≤ 1000000) (res : Value) :
    ∀ (k i : Nat) (s : Shared) (ts : List Addr) (b : Bool), n - i = k → i ≤ n → Zr base S z i1 i2 xs ys s.heap i ts → Zi p i1 i2 l1 l2 xs ys s.heap i → Zs s.heap z p q (rawInt T) b → T ∈ ts → base ≤ s.heap.objs.size →
      (∀ h' us, Zr base S z i1 i2 xs ys h' n us → (∀ a u, a ≠ z → a ≠ i1 → a ≠ i2 → a ≠ S → s.heap.get? a = some u → h'.get? a = some u) → R (.ok (.ret res)) { s with heap := h' }) →
      codeAny (model prog w) A (.builtin "list.extend.loop" ⟨[.ref S, .ref z, res], []⟩) R s := by
  intro k
  induction k with
  | zero =>
    intro i s ts b hk hi Z I hz hT hB hR
    have e : i = n := by omega
    subst e
    obtain ⟨j, hj, ej⟩ := List.getElem_of_mem hT
    obtain ⟨_, _, _, _, eT⟩ := Z.at_ j T (by rw [List.getElem?_eq_getElem hj, ej])
    refine codeAny_builtin F.entry_extend_loop ?_
    rw [Around.under_plainId F.plain_extend_loop _]
    show wpAny _ A.in1 (pyNext (.ref z) >>= _) _ _ s
    refine wpAny_bind (zs_stop (A := A.in1) hh D hz eT I.pr I.it1 I.it2 I.ls1 I.ls2 ?_ fun h' k => wpAny_pure (hR h' ts (Z.stay ⟨SD.z, SD.i1, SD.i2⟩ k) fun a u c1 c2 c3 _ e => k a u c1 c2 c3 e))
    rcases Nat.le_total xs.size ys.size with q | q
    · left; rw [hn, Nat.min_eq_left q]; exact Array.getElem?_eq_none (Nat.le_refl _)
    · right; rw [hn, Nat.min_eq_right q]; exact Array.getElem?_eq_none (Nat.le_refl _)
  | succ k ih =>
    intro i s ts b hk hi Z I hz hT hB hR
    have hx : i < xs.size := by have := Nat.min_le_left xs.size ys.size; omega
    have hy : i < ys.size := by have := Nat.min_le_right xs.size ys.size; omega
    obtain ⟨j, hj, ej⟩ := List.getElem_of_mem hT
    obtain ⟨_, _, _, _, eT⟩ := Z.at_ j T (by rw [List.getElem?_eq_getElem hj, ej])
    obtain ⟨c, eS⟩ := Z.lst
    refine codeAny_builtin F.entry_extend_loop ?_
    rw [Around.under_plainId F.plain_extend_loop _]
    show wpAny _ A.in1 (pyNext (.ref z) >>= _) _ _ s
    refine wpAny_bind (zs_next (A := A.in1) D hz eT I.pr I.it1 I.it2 I.ls1 I.ls2 (Array.getElem?_eq_getElem hx) (Array.getElem?_eq_getElem hy) fun h1 z1 a1 a2 a3 a4 k1 => ?_)
    have eS1 := k1 S _ SD.z SD.i1 SD.i2 eS
    show wpAny _ A.in1 (updateSeq S (·.push (.ref s.heap.objs.size)) >>= _) _ _ _
    have lt : ∀ {a u}, s.heap.get? a = some u → s.heap.objs.size ≠ a := fun e => Nat.ne_of_gt (Heap.lt_size e)
    have zlt := lt hz
    have ilt1 : s.heap.objs.size ≠ i1 := by obtain ⟨_, e, _⟩ := I.it1; exact lt e
    have ilt2 : s.heap.objs.size ≠ i2 := by obtain ⟨_, e, _⟩ := I.it2; exact lt e
    refine wpAny_bind (wpAny_updateSeq eS1 rfl (wpAny_pure ⟨plainId_quiet F.plain_extend_loop _, ?_⟩) (by rw [List.size_toArray, List.length_map, Z.len, sizeLine_eq]; omega) (by show (Array.push _ _).size ≤ sizeLine + 1; rw [Array.size_push, List.size_toArray, List.length_map, Z.len, sizeLine_eq]; omega))
    have oth : ∀ a u, a ≠ S → h1.get? a = some u → (h1.update S (Obj.mapSeq (·.push (.ref s.heap.objs.size)))).get? a = some u := fun a u na e => (Heap.get?_update_other _ _ (Ne.symm na)).trans e
    have nS := Heap.get?_update_self (Obj.mapSeq (·.push (Value.ref s.heap.objs.size))) eS1 rfl
    have kk : ∀ a u, a ≠ z → a ≠ i1 → a ≠ i2 → a ≠ S → s.heap.get? a = some u → (h1.update S (Obj.mapSeq (·.push (.ref s.heap.objs.size)))).get? a = some u := fun a u c1 c2 c3 c4 e => oth a u c4 (k1 a u c1 c2 c3 e)
    refine ih (i + 1) _ (ts ++ [s.heap.objs.size]) true (by omega) (by omega) (Z.more (Array.getElem?_eq_getElem hx) (Array.getElem?_eq_getElem hy) hB ?_ ⟨zlt, ilt1, ilt2⟩ (lt eS) (oth _ _ (lt eS) a3) nS kk) ?_ (oth _ _ (Ne.symm SD.z) z1) (List.mem_append_left _ hT) ?_ fun h' us Zf kf => hR h' us Zf fun a u c1 c2 c3 c4 e => kf a u c1 c2 c3 c4 (kk a u c1 c2 c3 c4 e)
    · cases e : s.heap.get? s.heap.objs.size with
      | none => rfl
      | some u => exact absurd (Heap.lt_size e) (Nat.lt_irrefl _)
    · exact ⟨a1.at fun u e => oth _ u (Ne.symm SD.i1) e, a2.at fun u e => oth _ u (Ne.symm SD.i2) e, kk _ _ D.TIz D.TIi1 D.TIi2 (Ne.symm SD.p) I.pr, I.ls1.at fun u e => kk _ u D.l1z D.l1i1 D.l1i2 (Ne.symm SD.l1) e, I.ls2.at fun u e => kk _ u D.l2z D.l2i1 D.l2i2 (Ne.symm SD.l2) e⟩
    · show base ≤ (h1.update S _).objs.size
      rw [Heap.size_update, a4]; exact Nat.le_succ_of_le hB
end
end Dl

namespace Dl
open PySem PySem.Spec PyProof.Rows L2
theorem nolen_zp : typeLookup (.type "zip") "__len__" = pure none := by rw [typeLookup_type, builtinLookup_eq_fast] <;> kernel_rfl
theorem nohint_zp : typeLookup (.type "zip") "__length_hint__" = pure none := by rw [typeLookup_type, builtinLookup_eq_fast] <;> kernel_rfl
/-- the zip ahead of its first turn -/
structure Z0 (z p q i1 i2 l1 l2 : Addr) (xs ys : Array Value) (h : Heap) : Prop where
  z : IsZip h z p q .none
  q : ∃ a b, IsPair h q a b
  i : Zi p i1 i2 l1 l2 xs ys h 0
section
variable {prog : Program} {w : World} {A : Around} {E : Value → Shared → Prop} {R : Result → Shared → Prop} {base : Addr} {S z p q i1 i2 l1 l2 T : Addr} {xs ys : Array Value} {s : Shared}
theorem Z0.keep {h h1 : Heap} (Z : Z0 z p q i1 i2 l1 l2 xs ys h) (SD : Sd S z p i1 i2 l1 l2) (Sq : S ≠ q) (k : ∀ a u, a ≠ S → h.get? a = some u → h1.get? a = some u) : Z0 z p q i1 i2 l1 l2 xs ys h1 := by
  obtain ⟨a, b, e⟩ := Z.q
  exact ⟨k _ _ (Ne.symm SD.z) Z.z, ⟨a, b, k _ _ (Ne.symm Sq) e⟩, Z.i.it1.at fun u e => k _ u (Ne.symm SD.i1) e, Z.i.it2.at fun u e => k _ u (Ne.symm SD.i2) e, k _ _ (Ne.symm SD.p) Z.i.pr, Z.i.ls1.at fun u e => k _ u (Ne.symm SD.l1) e, Z.i.ls2.at fun u e => k _ u (Ne.symm SD.l2) e⟩
theorem zl_first (hh : A.handled = none) (D : ZipApart z p q i1 i2 l1 l2) (SD : Sd S z p i1 i2 l1 l2) (Sq : S ≠ q) (n : Nat) (hn : n = min xs.size ys.size) (sz : n ≤ 1000000) (res : Value) (Z : Z0 z p q i1 i2 l1 l2 xs ys s.heap) {c : Nat} (eS : s.heap.get? S = some (lstO #[] c)) (hB : base ≤ s.heap.objs.size)
    (hR : ∀ h' us, Zr base S z i1 i2 xs ys h' n us → (∀ a u, a ≠ z → a ≠ q → a ≠ i1 → a ≠ i2 → a ≠ S → s.heap.get? a = some u → h'.get? a = some u) → R (.ok (.ret res)) { s with heap := h' }) :
    codeAny (model prog w) A (.builtin "list.extend.loop" ⟨[.ref S, .ref z, res], []⟩) R s := by
  obtain ⟨qa, qb, hq⟩ := Z.q
  refine codeAny_builtin F.entry_extend_loop ?_
  rw [Around.under_plainId F.plain_extend_loop _]
  show wpAny _ A.in1 (pyNext (.ref z) >>= _) _ _ s
  by_cases n0 : n = 0
  · subst n0
    have off : xs[0]? = none ∨ ys[0]? = none := by
      rcases Nat.le_total xs.size ys.size with r | r
      · left; exact Array.getElem?_eq_none (by rw [Nat.min_eq_left r] at hn; omega)
      · right; exact Array.getElem?_eq_none (by rw [Nat.min_eq_right r] at hn; omega)
    refine wpAny_bind (wpAny_pyNext_zip_end (A := A.in1) hh D Z.z Z.i.pr hq Z.i.it1 Z.i.it2 Z.i.ls1 Z.i.ls2 off fun h' k => wpAny_pure (hR h' [] ?_ fun a u c1 c2 c3 c4 _ e => k a u c1 c2 c3 c4 e))
    exact ⟨rfl, List.nodup_nil, fun t m => (List.not_mem_nil m).elim, fun t m => (List.not_mem_nil m).elim, fun j t e => by simp at e, ⟨c, k _ _ SD.z Sq SD.i1 SD.i2 eS⟩⟩
  · have hx : 0 < xs.size := by have := Nat.min_le_left xs.size ys.size; omega
    have hy : 0 < ys.size := by have := Nat.min_le_right xs.size ys.size; omega
    refine wpAny_bind (wpAny_pyNext_zip_item (A := A.in1) D Z.z Z.i.pr hq Z.i.it1 Z.i.it2 Z.i.ls1 Z.i.ls2 (Array.getElem?_eq_getElem hx) (Array.getElem?_eq_getElem hy) fun h1 z1 b1 a1 a2 a3 a4 k1 => ?_)
    have eS1 := k1 S _ SD.z Sq SD.i1 SD.i2 eS
    show wpAny _ A.in1 (updateSeq S (·.push (.ref s.heap.objs.size)) >>= _) _ _ _
    have lt : ∀ {a u}, s.heap.get? a = some u → s.heap.objs.size ≠ a := fun e => Nat.ne_of_gt (Heap.lt_size e)
    have ilt1 : s.heap.objs.size ≠ i1 := by obtain ⟨_, e, _⟩ := Z.i.it1; exact lt e
    have ilt2 : s.heap.objs.size ≠ i2 := by obtain ⟨_, e, _⟩ := Z.i.it2; exact lt e
    refine wpAny_bind (wpAny_updateSeq eS1 rfl (wpAny_pure ⟨plainId_quiet F.plain_extend_loop _, ?_⟩) (by simp) (by show (Array.push _ _).size ≤ sizeLine + 1; rw [sizeLine_eq]; simp))
    have oth : ∀ a u, a ≠ S → h1.get? a = some u → (h1.update S (Obj.mapSeq (·.push (.ref s.heap.objs.size)))).get? a = some u := fun a u na e => (Heap.get?_update_other _ _ (Ne.symm na)).trans e
    have nS := Heap.get?_update_self (Obj.mapSeq (·.push (Value.ref s.heap.objs.size))) eS1 rfl
    have kk : ∀ a u, a ≠ z → a ≠ q → a ≠ i1 → a ≠ i2 → a ≠ S → s.heap.get? a = some u → (h1.update S (Obj.mapSeq (·.push (.ref s.heap.objs.size)))).get? a = some u := fun a u c1 c2 c3 c4 c5 e => oth a u c5 (k1 a u c1 c2 c3 c4 e)
    refine zl_loop (T := s.heap.objs.size) (base := base) hh D SD n hn sz res (n - 1) 1 _ [s.heap.objs.size] false rfl (by omega) ?_ ?_ (oth _ _ (Ne.symm SD.z) z1) (by simp) ?_ fun h' us Zf kf => hR h' us Zf fun a u c1 c2 c3 c4 c5 e => kf a u c1 c3 c4 c5 (kk a u c1 c2 c3 c4 c5 e)
    · refine ⟨rfl, by simp, fun t m => by rw [List.mem_singleton.mp m]; exact hB, fun t m => by rw [List.mem_singleton.mp m]; exact ⟨lt eS, lt Z.z, ilt1, ilt2⟩, fun j t e => ?_, ⟨_, nS⟩⟩
      have : j = 0 := by
        have := (List.getElem?_eq_some_iff.mp e).1
        simp at this; exact this
      subst this
      simp at e
      subst e
      exact ⟨_, _, Array.getElem?_eq_getElem hx, Array.getElem?_eq_getElem hy, oth _ _ (lt eS) a3⟩
    · exact ⟨a1.at fun u e => oth _ u (Ne.symm SD.i1) e, a2.at fun u e => oth _ u (Ne.symm SD.i2) e, kk _ _ D.TIz D.TITO D.TIi1 D.TIi2 (Ne.symm SD.p) Z.i.pr, Z.i.ls1.at fun u e => kk _ u D.l1z D.l1TO D.l1i1 D.l1i2 (Ne.symm SD.l1) e, Z.i.ls2.at fun u e => kk _ u D.l2z D.l2TO D.l2i1 D.l2i2 (Ne.symm SD.l2) e⟩
    · show base ≤ (h1.update S _).objs.size
      rw [Heap.size_update, a4]; exact Nat.le_succ_of_le hB
theorem ext_zip (hh : A.handled = none) (D : ZipApart z p q i1 i2 l1 l2) (SD : Sd S z p i1 i2 l1 l2) (Sq : S ≠ q) (n : Nat) (hn : n = min xs.size ys.size) (sz : n ≤ 1000000) (res : Value) (Z : Z0 z p q i1 i2 l1 l2 xs ys s.heap) {c : Nat} (eS : s.heap.get? S = some (lstO #[] c)) (hB : base ≤ s.heap.objs.size)
    (hR : ∀ h' us, Zr base S z i1 i2 xs ys h' n us → (∀ a u, a ≠ z → a ≠ q → a ≠ i1 → a ≠ i2 → a ≠ S → s.heap.get? a = some u → h'.get? a = some u) → R (.ok (.ret res)) { s with heap := h' }) :
    wpAny (model prog w) A.in1 (Builtin.List.listExtendWith (.ref S) (.ref z) res) (fun fin s' => match fin with | .done f => R (.ok f) s' | .again c' => c'.quiet = true ∧ codeAny (model prog w) A c' R s') (fun e s' => R (.error e) s') s := by
  have ty : s.TypeIs (.ref z) "zip" := ⟨_, Z.z, rfl⟩
  unfold Builtin.List.listExtendWith
  refine wpAny_bind (wpAny_typeOf ty ?_)
  have r1 : Builtin.List.listSameRef (.ref S) (.ref z) = false := by simp [Builtin.List.listSameRef, SD.z]
  have r2 : (Value.type "zip" == Value.type "list") = false := by decide
  have r3 : (Value.type "zip" == Value.type "tuple") = false := by decide
  simp only [r1, r2, r3, Bool.or_false, Bool.false_eq_true, if_false]
  refine wpAny_bind (wpAny_pyIter_zip Z.z ?_)
  refine wpAny_bind (wpAny_holding ?_)
  unfold Builtin.List.listLengthHint
  refine wpAny_bind (wpAny_specialOf ty nolen_zp ?_)
  show wpAny _ A.in1 (specialOf (Value.ref z) (Str.ofString "__length_hint__") >>= _) _ _ _
  refine wpAny_bind (wpAny_specialOf ty nohint_zp ?_)
  refine wpAny_pure ?_
  show wpAny _ A.in1 (rule "list.extend.makes-room" >>= fun _ => Builtin.List.listTouch (.ref S) >>= fun _ => again (.builtin "list.extend.loop" ⟨[.ref S, .ref z, res], []⟩)) _ _ _
  refine wpAny_bind (wpAny_rule ?_)
  refine wpAny_bind ?_
  show wpAny _ A.in1 (updateSeq S (·.push .none) >>= fun _ => updateSeq S (·.pop)) _ _ _
  refine wpAny_bind (wpAny_updateSeq eS rfl ?_)
  have e2 := Heap.get?_update_self (Obj.mapSeq (·.push Value.none)) eS rfl
  refine wpAny_updateSeq e2 rfl ?_
  have e3 := Heap.get?_update_self (Obj.mapSeq (·.pop)) e2 rfl
  have oth : ∀ a u, a ≠ S → s.heap.get? a = some u → ((s.heap.update S (Obj.mapSeq (·.push Value.none))).update S (Obj.mapSeq (·.pop))).get? a = some u := fun a u na e => (Heap.get?_update_other _ _ (Ne.symm na)).trans ((Heap.get?_update_other _ _ (Ne.symm na)).trans e)
  refine wpAny_pure ⟨plainId_quiet F.plain_extend_loop _, zl_first hh D SD Sq n hn sz res (Z.keep SD Sq oth) e3 ?_ fun h' us Zf kf => hR h' us Zf fun a u c1 c2 c3 c4 c5 e => kf a u c1 c2 c3 c4 c5 (oth a u c5 e)⟩
  show base ≤ ((s.heap.update S _).update S _).objs.size
  rw [Heap.size_update, Heap.size_update]; exact hB
theorem call_list_zip {Q : Value → Shared → Prop} (hh : A.handled = none) (D : ZipApart z p q i1 i2 l1 l2) (n : Nat) (hn : n = min xs.size ys.size) (sz : n ≤ 1000000) (Z : Z0 z p q i1 i2 l1 l2 xs ys s.heap)
    (hQ : ∀ h' us, Zr s.heap.objs.size s.heap.objs.size z i1 i2 xs ys h' n us → (∀ a u, a ≠ z → a ≠ q → a ≠ i1 → a ≠ i2 → s.heap.get? a = some u → h'.get? a = some u) → Q (.ref s.heap.objs.size) { s with heap := h' }) :
    wpAny (model prog w) A (call (.type "list") [.ref z]) Q E s := by
  refine callType_codes (Q₁ := fun obj s1 => obj = .ref s.heap.objs.size ∧ s1 = { s with heap := s.heap.push { cls := .type "list", data := .seq #[] } }) F.called_list (F.typeCall_list_1 _) F.entry_list_init (code_list_new _ ⟨rfl, rfl⟩) fun obj s1 h1 => ?_
  obtain ⟨rfl, rfl⟩ := h1
  have lt : ∀ {a u}, s.heap.get? a = some u → s.heap.objs.size ≠ a := fun e => Nat.ne_of_gt (Heap.lt_size e)
  obtain ⟨qa, qb, hq⟩ := Z.q
  have SD : Sd s.heap.objs.size z p i1 i2 l1 l2 := ⟨lt Z.z, lt Z.i.pr, by obtain ⟨_, e, _⟩ := Z.i.it1; exact lt e, by obtain ⟨_, e, _⟩ := Z.i.it2; exact lt e, by obtain ⟨_, e, _⟩ := Z.i.ls1; exact lt e, by obtain ⟨_, e, _⟩ := Z.i.ls2; exact lt e⟩
  have e1 : (s.heap.push { cls := .type "list", data := .seq #[] }).get? s.heap.objs.size = some { cls := .type "list", data := .seq #[] } := Heap.get?_push_size _ rfl
  refine ⟨⟨_, e1, rfl⟩, F.args_list_init_2 _ _, ?_⟩
  show wpAny _ _ (do let old ← Builtin.List.listItems (.ref s.heap.objs.size); Builtin.List.listUpdate (.ref s.heap.objs.size) (fun _ => #[]); letGo old.toList.reverse; Builtin.List.listExtendWith (.ref s.heap.objs.size) (.ref z) .none) _ _ _
  refine wpAny_bind ?_
  unfold Builtin.List.listItems
  refine wpAny_bind (wpAny_seqItems e1 rfl (wpAny_pure ?_))
  show wpAny _ _ (updateSeq s.heap.objs.size (fun _ => #[]) >>= fun _ => letGo (#[] : Array Value).toList.reverse >>= fun _ => Builtin.List.listExtendWith (.ref s.heap.objs.size) (.ref z) .none) _ _ _
  refine wpAny_bind (wpAny_updateSeq e1 rfl ?_)
  have e2 := Heap.get?_update_self (Obj.mapSeq (fun _ => (#[] : Array Value))) e1 rfl
  have oth : ∀ a u, a ≠ s.heap.objs.size → s.heap.get? a = some u → ((s.heap.push { cls := .type "list", data := .seq #[] }).update s.heap.objs.size (Obj.mapSeq (fun _ => (#[] : Array Value)))).get? a = some u := fun a u na e => (Heap.get?_update_other _ _ (Ne.symm na)).trans (Heap.get?_push_of_some _ e)
  refine wpAny_bind (wpAny_letGo ?_)
  refine ext_zip (A := A.in1) (base := s.heap.objs.size) hh D SD (lt hq) n hn sz .none (Z.keep SD (lt hq) oth) e2 ?_ fun h' us Zf kf => ⟨rfl, hQ h' us Zf fun a u c1 c2 c3 c4 e => kf a u c1 c2 c3 c4 (Ne.symm (lt e)) (oth a u (Ne.symm (lt e)) e)⟩
  show s.heap.objs.size ≤ ((s.heap.push _).update _ _).objs.size
  rw [Heap.size_update, Heap.size_push]; exact Nat.le_succ _
end
end Dl

namespace Dl
open PySem PySem.Spec PyProof.Rows L2
theorem vals_refs : ∀ ts : List Addr, Vals (ts.map V.ref) (ts.map Value.ref)
  | [] => .nil
  | t :: ts => .cons rfl (vals_refs ts)
/-- the pairs ps at ts -/
def prH : Hp → List Addr → List (V × V) → Hp
  | H, t :: ts, p :: ps => prH (upd H t (.tup [p.1, p.2])) ts ps
  | H, _, _ => H
theorem prH_off {a : Addr} : ∀ (ts : List Addr) (ps : List (V × V)) (H : Hp), a ∉ ts → prH H ts ps a = H a
  | [], ps, H, _ => by cases ps <;> rfl
  | t :: ts, [], H, _ => rfl
  | t :: ts, p :: ps, H, h => by
    have h1 : a ≠ t := fun e => h (by rw [e]; exact List.mem_cons_self)
    have h2 : a ∉ ts := fun e => h (List.mem_cons_of_mem _ e)
    show prH (upd H t (.tup [p.1, p.2])) ts ps a = H a
    rw [prH_off ts ps _ h2, upd_ne h1]
theorem prH_at {a : Addr} {p : V × V} : ∀ (ts : List Addr) (ps : List (V × V)) (H : Hp) (j : Nat), ts.Nodup → ts[j]? = some a → ps[j]? = some p → prH H ts ps a = some (.tup [p.1, p.2])
  | [], ps, H, j, _, e, _ => by simp at e
  | t :: ts, [], H, j, _, _, e => by simp at e
  | t :: ts, q :: ps, H, 0, nd, e1, e2 => by
    simp at e1 e2
    subst e1 e2
    show prH (upd H t (.tup [q.1, q.2])) ts ps t = _
    rw [prH_off ts ps _ (List.nodup_cons.mp nd).1, upd_same]
  | t :: ts, q :: ps, H, j + 1, nd, e1, e2 => prH_at ts ps _ j (List.nodup_cons.mp nd).2 (by simpa using e1) (by simpa using e2)
section
variable {X : Cx} {pins : List (Addr × Obj)} {σ : L2.St} {H : Hp} {s : Shared} {S : Addr} {ts : List Addr} {ps : List (V × V)} {h1 : Heap}
theorem inv_lz (I : Inv X pins σ H s) (lens : ts.length = ps.length) (nd : ts.Nodup) (big : ∀ t ∈ ts, s.heap.objs.size ≤ t) (bS : s.heap.objs.size ≤ S) (St : S ∉ ts) (k : ∀ b o, s.heap.get? b = some o → h1.get? b = some o) (eS : ∃ c, h1.get? S = some (lstO (ts.map Value.ref).toArray c))
    (at_ : ∀ (j : Nat) (t : Addr) (p : V × V), ts[j]? = some t → ps[j]? = some p → ∃ x y, RelV p.1 x ∧ RelV p.2 y ∧ IsPair h1 t x y) (sz : ts.length ≤ sizeLine) : Inv X pins σ (upd (prH H ts ps) S (.lst (ts.map V.ref))) { s with heap := h1 } := by
  have old : ∀ {b o}, s.heap.get? b = some o → b ≠ S ∧ b ∉ ts := fun {b o} e => by
    have := Heap.lt_size e
    exact ⟨fun z => Nat.lt_irrefl _ (Nat.lt_of_lt_of_le this (by rw [z]; exact bS)), fun m => Nat.lt_irrefl _ (Nat.lt_of_lt_of_le this (big b m))⟩
  have same : ∀ {b}, b ≠ S → b ∉ ts → upd (prH H ts ps) S (.lst (ts.map V.ref)) b = H b := fun {b} c1 c2 => by rw [upd_ne c1, prH_off ts ps H c2]
  have offH : ∀ {b u}, H b = some u → b ≠ S ∧ b ∉ ts := fun {b u} e => by
    constructor
    · intro z; rw [z, I.hok.fresh bS] at e; cases e
    · intro m; rw [I.hok.fresh (big b m)] at e; cases e
  have keepH : ∀ {b u}, H b = some u → upd (prH H ts ps) S (.lst (ts.map V.ref)) b = some u := fun {b u} e => by rw [same (offH e).1 (offH e).2]; exact e
  have u : Un X.fs [] H (upd (prH H ts ps) S (.lst (ts.map V.ref))) s.heap h1 := ⟨fun b o e n _ _ => k b o e, fun b o e n _ _ => ⟨o.slots, k b o e⟩, fun b o e n _ => by rw [same (old e).1 (old e).2]; exact n, fun b o e _ => ⟨o, k b o e⟩, fun b xs e => keepH e, fun b o v e => keepH e, fun b q e => ⟨#[], by rw [keepH e]; simp⟩⟩
  refine I.un (t' := s.toks) u fun b v e => ?_
  by_cases c1 : b = S
  · subst c1
    rw [upd_same] at e
    cases e
    obtain ⟨c, q⟩ := eS
    exact ⟨by rw [List.length_map]; exact sz, ts.map Value.ref, c, vals_refs ts, q⟩
  · rw [upd_ne c1] at e
    by_cases c2 : b ∈ ts
    · obtain ⟨j, hj, ej⟩ := List.getElem_of_mem c2
      have e1 : ts[j]? = some b := by rw [List.getElem?_eq_getElem hj, ej]
      have e2 : ps[j]? = some ps[j] := List.getElem?_eq_getElem (by rw [← lens]; exact hj)
      rw [prH_at ts ps H j nd e1 e2] at e
      cases e
      obtain ⟨x, y, r1, r2, q⟩ := at_ j b _ e1 e2
      exact ⟨by show 2 ≤ sizeLine; decide, [x, y], .cons r1 (.cons r2 .nil), ⟨_, q, rfl, _, rfl⟩⟩
    · rw [prH_off ts ps H c2] at e
      exact (I.hok b v e).stay (fun c o _ q => k c o q) (fun c q => keepH q) fun c xs q => keepH q
def tLZ (K : PySem.W.Frag) (ta : TA) : TE := fun σ H Q => ta σ H fun vs H1 => ∃ a b xs ys, vs = [.ref a, .ref b] ∧ SqL K H1 a xs ∧ SqL K H1 b ys ∧ (xs.zip ys).length ≤ 1000000 ∧
  ∀ (S : Addr) (ts : List Addr), ts.length = (xs.zip ys).length → ts.Nodup → S ∉ ts → H1 S = none → (∀ t ∈ ts, H1 t = none) → Q (.ref S) (upd (prH H1 ts (xs.zip ys)) S (.lst (ts.map V.ref)))
theorem vals_get {xs : List V} {us : List Value} (r : Vals xs us) : ∀ {j : Nat} {x : V} {u : Value}, xs[j]? = some x → us[j]? = some u → RelV x u := by
  induction r with
  | nil => intro j x u e; simp at e
  | cons h r ih =>
    intro j x u e1 e2
    cases j with
    | zero => simp at e1 e2; subst e1 e2; exact h
    | succ j => exact ih (by simpa using e1) (by simpa using e2)
theorem pe_lz {e e2 : Expr} {ta : TA} {p pos p2 pos2 : Pos} (hc : X.calm = true) (hg : Gl X "list") (hm : X.mg "list" = none) (hgz : Gl X "zip") (hmz : X.mg "zip" = none) (ha : PA X [e, e2] ta)
    (hs : starEach [e, e2] X.env = (false, eval e X.env) :: starEach [e2] X.env := by rfl) (hpl : (backTo pos2 (starEach [e2] X.env)).any (·.1) = false := by rfl)
    (na : starEach [.Call (.Name "zip" p2) [e, e2] [] pos2] X.env = (false, eval (.Call (.Name "zip" p2) [e, e2] [] pos2) X.env) :: starEach [] X.env := by rfl) (hpl2 : (backTo pos (starEach [] X.env)).any (·.1) = false := by rfl) :
    PE X (.Call (.Name "list" p) [.Call (.Name "zip" p2) [e, e2] [] pos2] [] pos) (tLZ X.K ta) := by
  refine ⟨fun pins s σ H Q I h => ?_⟩
  refine Call_ (ld_blt I hg hm boot_list (PyProof.Rows.callWith_type1 (args_cons ?_ na)))
  refine Call_ (ld_blt (s := s) I hgz hmz PyProof.Rows.boot_zip (PyProof.Rows.callWith_type1 (thn (ha.run pos2 pins s σ H _ I h) fun us s1 ⟨vs, H1, I1, r1, q1⟩ => ?_) hs hpl))
  obtain ⟨a, b, xs, ys, ex, hx, hy, sz, q⟩ := q1
  subst ex
  cases r1 with
  | cons ra rr =>
    cases rr with
    | cons rb rn =>
      cases rn
      cases ra
      cases rb
      obtain ⟨its, rv, q1, _⟩ := I1.list hx
      obtain ⟨its2, rv2, q2, _⟩ := I1.list hy
      refine call_zip_2 q1.isList q2.isList fun h' hz hTI hTO h1' h2' hsz hk => args_nil ?_
      have D := PySem.W.ktu_apart s1.heap.objs.size a b q1.lt q2.lt
      have lx := rv.length
      have ly := rv2.length
      have ln : (xs.zip ys).length = min its.toArray.size its2.toArray.size := by rw [List.length_zip, lx, ly, List.size_toArray, List.size_toArray]
      have hd : X.A.handled = none := I.ok.hd hc
      refine call_list_zip (s := { s1 with heap := h' }) (xs := its.toArray) (ys := its2.toArray) hd D (xs.zip ys).length ln sz ⟨hz, ⟨_, _, hTO⟩, h1', h2', hTI, q1.isList.at fun u e => hk _ u e, q2.isList.at fun u e => hk _ u e⟩ fun hf us Zf kf => ?_
      have sz' : s1.heap.objs.size ≤ h'.objs.size := by rw [hsz]; exact Nat.le_add_right _ _
      have far : ∀ {b o}, s1.heap.get? b = some o → hf.get? b = some o := fun {b o} e => by
        have := Heap.lt_size e
        exact kf b o (fun z => by rw [z] at this; exact absurd this (Nat.not_lt.mpr (Nat.le_add_right _ _))) (fun z => by rw [z] at this; exact absurd this (Nat.not_lt.mpr (Nat.le_add_right _ _))) (fun z => by rw [z] at this; exact Nat.lt_irrefl _ this) (fun z => by rw [z] at this; exact absurd this (Nat.not_lt.mpr (Nat.le_add_right _ _))) (hk b o e)
      have nS : h'.objs.size ∉ us := fun m => (Zf.far _ m).1 rfl
      have I2 := inv_lz (ps := xs.zip ys) (S := h'.objs.size) (ts := us) (h1 := hf) I1 Zf.len Zf.nd (fun t m => Nat.le_trans sz' (Zf.big t m)) sz' nS (fun b o e => far e) Zf.lst (fun j t pr e1 e2 => by
        obtain ⟨x, y, f1, f2, f3⟩ := Zf.at_ j t e1
        have ez := List.getElem?_zip_eq_some.mp e2
        exact ⟨x, y, vals_get rv ez.1 (by simpa using f1), vals_get rv2 ez.2 (by simpa using f2), f3⟩) (by rw [Zf.len, sizeLine_eq]; omega)
      exact ⟨.ref h'.objs.size, _, I2, rfl, q _ us Zf.len Zf.nd nS (I1.hok.fresh sz') fun t m => I1.hok.fresh (Nat.le_trans sz' (Zf.big t m))⟩
end
/-! ### .. in plain data -/
theorem prH_post {K : PySem.W.Frag} {ρ : List Addr} {hd : Hd} : ∀ (ts : List Addr) (ds es : List D) (vs ws : List V) (H : Hp), Rel K ρ H hd → RepL K ρ H ds vs → RepL K ρ H es ws → ts.length = (vs.zip ws).length → ts.Nodup → (∀ t ∈ ts, H t = none) →
    Post K ρ ρ H (prH H ts (vs.zip ws)) hd ∧ RepL K ρ (prH H ts (vs.zip ws)) (zipL ds es) (ts.map V.ref)
  | [], ds, es, vs, ws, H, r, r1, r2, hl, _, _ => by
    have z : zipL ds es = [] := by
      apply List.eq_nil_of_length_eq_zero
      rw [zipL_len, r1.length, r2.length, ← List.length_zip, ← hl]; rfl
    rw [z]
    exact ⟨by cases vs.zip ws <;> exact .refl r, RepL.nil⟩
  | t :: ts, [], es, vs, ws, H, r, r1, r2, hl, _, _ => by
    have : vs = [] := by simpa only [RepL] using r1
    subst this; simp at hl
  | t :: ts, d :: ds, [], vs, ws, H, r, r1, r2, hl, _, _ => by
    have : ws = [] := by simpa only [RepL] using r2
    subst this; simp at hl
  | t :: ts, d :: ds, e :: es, vs, ws, H, r, r1, r2, hl, nd, fr => by
    simp only [RepL] at r1 r2
    obtain ⟨v, vr, rfl, q1, r1⟩ := r1
    obtain ⟨u, ur, rfl, q2, r2⟩ := r2
    obtain ⟨n1, n2⟩ := List.nodup_cons.mp nd
    have nt := fr t List.mem_cons_self
    have P1 := Post.newT (o := .tup [v, u]) r nt
    obtain ⟨P2, R2⟩ := prH_post ts ds es vr ur (upd H t (.tup [v, u])) P1.rel (r1.mono P1.pre P1.ext) (r2.mono P1.pre P1.ext) (by simpa using hl) n2 fun a m => by
      rw [upd_ne (fun z => n1 (by rw [← z]; exact m))]; exact fr a (List.mem_cons_of_mem _ m)
    refine ⟨P1.trans P2, ?_⟩
    show RepL K ρ (prH (upd H t (.tup [v, u])) ts (vr.zip ur)) (.tup [d, e] :: zipL ds es) (.ref t :: ts.map V.ref)
    simp only [RepL]
    exact ⟨_, _, rfl, (pair_new r nt q1 q2).mono P2.pre P2.ext, R2⟩
def lzD (r : AM) : EM := fun env hd => (r env hd).bind fun p => match p.1 with
  | [.ref n, .ref m] => (lsOf p.2 n).bind fun xs => (lsOf p.2 m).bind fun ys => if (zipL xs ys).length ≤ 1000000 then some (.ref p.2.length, p.2 ++ [.lst (zipL xs ys)]) else none
  | _ => none
theorem pm_lz {X : Cx} {e e2 : Expr} {r : AM} {p pos p2 pos2 : Pos} (hc : X.calm = true) (hg : Gl X "list") (hm : X.mg "list" = none) (hgz : Gl X "zip") (hmz : X.mg "zip" = none) (ha : PA X [e, e2] (tA X.K r))
    (hs : starEach [e, e2] X.env = (false, eval e X.env) :: starEach [e2] X.env := by rfl) (hpl : (backTo pos2 (starEach [e2] X.env)).any (·.1) = false := by rfl)
    (na : starEach [.Call (.Name "zip" p2) [e, e2] [] pos2] X.env = (false, eval (.Call (.Name "zip" p2) [e, e2] [] pos2) X.env) :: starEach [] X.env := by rfl) (hpl2 : (backTo pos (starEach [] X.env)).any (·.1) = false := by rfl) :
    PE X (.Call (.Name "list" p) [.Call (.Name "zip" p2) [e, e2] [] pos2] [] pos) (tM X.K (lzD r)) := PE.to (pe_lz hc hg hm hgz hmz ha hs hpl na hpl2) fun σ H Q ⟨ρ, env, hd, d, hd', A, ev, q⟩ => by
  obtain ⟨⟨vs, h1⟩, e1, e2⟩ := Option.bind_eq_some_iff.mp ev
  dsimp only at e2
  split at e2
  · rename_i n m
    obtain ⟨xs, l1, e2⟩ := Option.bind_eq_some_iff.mp e2
    obtain ⟨ys, l2, e2⟩ := Option.bind_eq_some_iff.mp e2
    split at e2
    · rename_i sz
      cases e2
      refine ⟨ρ, env, hd, _, h1, A, e1, fun us ρ1 H1 P1 r1 => ?_⟩
      obtain ⟨v, u, rfl, rv, ru⟩ := repL2 r1
      rw [rep_ref] at rv ru
      obtain ⟨a, rfl, ea⟩ := rv
      obtain ⟨b, rfl, eb⟩ := ru
      obtain ⟨xv, s1, x1⟩ := lsOf_sq P1.rel l1 ea
      obtain ⟨yv, s2, x2⟩ := lsOf_sq P1.rel l2 eb
      refine ⟨a, b, xv, yv, rfl, s1, s2, by rw [List.length_zip, ← x1.length, ← x2.length, ← zipL_len]; exact sz, fun S ts ht nd nS fS ft => ?_⟩
      obtain ⟨P2, R2⟩ := prH_post ts xs ys xv yv H1 P1.rel x1 x2 ht nd ft
      have fS' : prH H1 ts (xv.zip yv) S = none := by rw [prH_off ts _ H1 nS]; exact fS
      have P3 := Post.newL P2.rel fS' R2
      exact q _ _ _ (P1.trans (P2.trans P3)) (rep_new P2.rel)
    · cases e2
  · cases e2
end Dl

namespace Dl
open PySem PySem.Spec PyProof.Rows L2
theorem RepL.rev {K : PySem.W.Frag} {ρ : List Addr} {H : Hp} : ∀ {ds : List D} {vs : List V}, RepL K ρ H ds vs → RepL K ρ H ds.reverse vs.reverse
  | [], vs, h => by simp only [RepL] at h; subst h; exact RepL.nil
  | d :: ds, vs, h => by
    simp only [RepL] at h
    obtain ⟨v, r, rfl, q, t⟩ := h
    rw [List.reverse_cons, List.reverse_cons]
    exact (RepL.rev t).append (RepL.one q)
/-- xs[::-1] of a list -/
def revD (a : EM) : EM := fun env hd => (a env hd).bind fun p => match p.1 with
  | .ref n => (lsOf p.2 n).map fun ds => (.ref p.2.length, p.2 ++ [.lst ds.reverse])
  | _ => none
theorem pm_rev {X : Cx} {e : Expr} {fa : EM} {k : Nat} {p1 p2 p3 pos : Pos} (he : PE X e (tM X.K fa)) : PE X (.Subscript e (.Slice none none (some (.UnaryOp .USub (.Constant (.int 1) k p1) p2)) p3) pos) (tM X.K (revD fa)) :=
  PE.to (pe_revL he) fun σ H Q ⟨ρ, env, hd, d, hd', A, ev, q⟩ => by
    obtain ⟨⟨v, h1⟩, e1, e2⟩ := Option.bind_eq_some_iff.mp ev
    dsimp only at e2
    split at e2
    · rename_i n
      obtain ⟨ds, l, e2⟩ := Option.map_eq_some_iff.mp e2
      cases e2
      refine ⟨ρ, env, hd, _, h1, A, e1, fun u ρ1 H1 P1 r1 => ?_⟩
      rw [rep_ref] at r1
      obtain ⟨a, rfl, ea⟩ := r1
      obtain ⟨xv, s1, x1⟩ := lsOf_sq P1.rel l ea
      exact ⟨a, xv, rfl, s1, fun S nS => q _ _ _ (P1.trans (Post.newL P1.rel nS x1.rev)) (rep_new P1.rel)⟩
    · cases e2
end Dl

namespace Dl
/-! ## parity of crossings, by signs alone -/
/-- the sign of a×b that signs of coordinates leave open: sgP = sa·tb against sgQ = ta·sb -/
def okS (sa ta sb tb c : Int) : Bool :=
  (if ta * sb < sa * tb then c == 1 else if sa * tb < ta * sb then c == -1 else if sa * tb == 0 then c == 0 else true) &&
  -- both are not the origin; of one line through it they lie on one side of it
  !(sa == 0 && ta == 0) && !(sb == 0 && tb == 0) && (c != 0 || (sa == sb && ta == tb))
/-- a crossing, by a look u at both ends -/
def crossU (ua ub : Bool) (c : Int) : Bool := (ua != ub) && (c == (if ub then 1 else 0) - (if ua then 1 else 0))
def three : List Int := [-1, 0, 1]
def allS (p : Int → Int → Int → Int → Int → Bool) : Bool := three.all fun a => three.all fun b => three.all fun c => three.all fun d => three.all fun e => p a b c d e
theorem of_allS {p : Int → Int → Int → Int → Int → Bool} (h : allS p = true) {a b c d e : Int} (ha : a ∈ three) (hb : b ∈ three) (hc : c ∈ three) (hd : d ∈ three) (he : e ∈ three) : p a b c d e = true := by
  unfold allS at h
  simp only [List.all_eq_true] at h
  exact h a ha b hb c hc d hd e he
/-- the ray to the right, ends told by y > 0, against the ray upward, ends told by x < 0: the quarter between them parts them -/
theorem quarter_step : allS (fun sa ta sb tb c => !okS sa ta sb tb c || ((crossU (decide (0 < ta)) (decide (0 < tb)) c ^^ crossU (decide (sa < 0)) (decide (sb < 0)) c) == ((decide (0 < ta) && decide (0 ≤ sa)) ^^ (decide (0 < tb) && decide (0 ≤ sb))))) = true := by decide +kernel
/-- ends told by y > 0 against y ≥ 0 -/
theorem edge_step : allS (fun sa ta sb tb c => !okS sa ta sb tb c || ((crossU (decide (0 < ta)) (decide (0 < tb)) c ^^ crossU (decide (0 ≤ ta)) (decide (0 ≤ tb)) c) == ((ta == 0 && decide (0 < sa)) ^^ (tb == 0 && decide (0 < sb))))) = true := by decide +kernel
end Dl
namespace Dl
/-! ## round a closed line -/
def chainE {α : Type} : α → List α → List (α × α)
  | _, [] => []
  | a, b :: r => (a, b) :: chainE b r
/-- from the last one to the first, and on -/
def edgesE {α : Type} (l : List α) : List (α × α) := match l.getLast? with | some z => chainE z l | none => []
def xorL : List Bool → Bool
  | [] => false
  | b :: r => b ^^ xorL r
theorem xor_chain {α : Type} (φ : α → Bool) : ∀ (l : List α) (a : α), xorL ((chainE a l).map fun e => φ e.1 ^^ φ e.2) = (φ a ^^ φ (l.getLast?.getD a))
  | [], a => by simp [chainE, xorL]
  | [b], a => by simp [chainE, xorL]
  | b :: c :: r, a => by
    have h := xor_chain φ (c :: r) b
    rw [show chainE a (b :: c :: r) = (a, b) :: chainE b (c :: r) from rfl, List.map_cons, xorL, h]
    rw [List.getLast?_cons_cons]
    have : ∃ z, (c :: r).getLast? = some z := ⟨_, List.getLast?_eq_some_getLast (by simp)⟩
    obtain ⟨z, hz⟩ := this
    rw [hz]
    simp only [Option.getD_some]
    cases φ a <;> cases φ b <;> cases φ z <;> rfl
theorem xor_edges {α : Type} (φ : α → Bool) (l : List α) : xorL ((edgesE l).map fun e => φ e.1 ^^ φ e.2) = false := by
  unfold edgesE
  cases h : l.getLast? with
  | none => rfl
  | some z => rw [xor_chain, h]; simp
theorem xorL_map2 {α : Type} (f g : α → Bool) : ∀ l : List α, xorL (l.map fun e => f e ^^ g e) = (xorL (l.map f) ^^ xorL (l.map g))
  | [] => rfl
  | e :: l => by
    rw [List.map_cons, List.map_cons, List.map_cons, xorL, xorL, xorL, xorL_map2 f g l]
    cases f e <;> cases g e <;> cases xorL (l.map f) <;> cases xorL (l.map g) <;> rfl
/-- two ways of counting that differ at each stretch by what its ends tell are alike round the line -/
theorem round_same {α : Type} (φ : α → Bool) (f g : α × α → Bool) (l : List α) (h : ∀ e ∈ edgesE l, (f e ^^ g e) = (φ e.1 ^^ φ e.2)) : xorL ((edgesE l).map f) = xorL ((edgesE l).map g) := by
  have h1 := xorL_map2 f g (edgesE l)
  rw [List.map_congr_left h, xor_edges] at h1
  cases a : xorL ((edgesE l).map f) <;> cases b : xorL ((edgesE l).map g) <;> rw [a, b] at h1 <;> first | rfl | cases h1
end Dl

namespace ringsorways_k05_whole_the_same_moved_tur
open PySem PySem.Spec PyProof.Rows L2 Dl
def topS (i : Nat) : Stmt := PySem.Challenge.pw_ringsorways_k05_whole_the_same_moved_tur.main.body.getD i (.Pass ⟨0, 0, 0, 0⟩)
abbrev s__law_pot : Stmt := topS 38
abbrev s__law_cells : Stmt := topS 41
abbrev s_turn : Stmt := topS 10
abbrev s_is_whole_number : Stmt := topS 25
abbrev s_are_integers : Stmt := topS 26
abbrev s_is_point : Stmt := topS 29
abbrev s_check_points : Stmt := topS 35
abbrev s_side : Stmt := topS 31
abbrev s_is_ahead : Stmt := topS 11
abbrev s_first_of : Stmt := topS 12
abbrev s_last_of : Stmt := topS 13
abbrev s_meeting_in_line : Stmt := topS 16
abbrev s_point_at : Stmt := topS 9
abbrev s_line_through : Stmt := topS 17
abbrev s_common_point : Stmt := topS 18
abbrev s_meeting : Stmt := topS 15
abbrev s_meet : Stmt := topS 32
abbrev s_point_between : Stmt := topS 19
abbrev s_is_fraction : Stmt := topS 27
abbrev s_is_share : Stmt := topS 28
abbrev s_between : Stmt := topS 33
abbrev s__law_take : Stmt := topS 39
abbrev s__law_frac_common : Stmt := topS 43
abbrev s__law_frac : Stmt := topS 44
abbrev s__law_point_told : Stmt := topS 48
abbrev s__law_of : Stmt := topS 40
abbrev s__law_leader : Stmt := topS 49
abbrev s__law_small_point : Stmt := topS 51
abbrev s__law_frac_plus : Stmt := topS 45
abbrev s__law_frac_times : Stmt := topS 46
abbrev s__law_led_point : Stmt := topS 50
abbrev s__law_told : Stmt := topS 52
abbrev s__law_point_own : Stmt := topS 47
abbrev s__law_led_told : Stmt := topS 53
abbrev s_lies_on : Stmt := topS 14
abbrev s_closed_stretches : Stmt := topS 20
abbrev s_goes_upward : Stmt := topS 21
abbrev s_is_crossed : Stmt := topS 22
abbrev s_is_round : Stmt := topS 23
abbrev s_is_closed_line : Stmt := topS 36
abbrev s_inside : Stmt := topS 34
abbrev s__law_inside : Stmt := topS 54
abbrev s__law_right : Stmt := topS 55
abbrev s_law : Stmt := topS 56
abbrev s__law_heard : Stmt := topS 42
theorem sc__law_heard : FnScope Nh ["call"] (defScope s__law_heard) := ⟨rfl, rfl, rfl, by decide +kernel, rfl, by decide +kernel, by decide +kernel⟩
abbrev s_ini : Stmt := (kidsOf (topS 2)).getD 0 (.Pass ⟨0, 0, 0, 0⟩)
theorem sc_ini : FnScope ["self", "value"] ["self", "value"] (defScope s_ini) := ⟨rfl, rfl, rfl, by decide +kernel, rfl, by decide +kernel, by decide +kernel⟩
abbrev N__law_pot : List Str := ["script", "place", "cell", "own", "small"]
theorem sc__law_pot : FnScope N__law_pot ["script", "place"] (defScope s__law_pot) := ⟨rfl, rfl, rfl, by decide +kernel, rfl, by decide +kernel, by decide +kernel⟩
abbrev N__law_cells : List Str := ["script", "most"]
theorem sc__law_cells : FnScope N__law_cells ["script", "most"] (defScope s__law_cells) := ⟨rfl, rfl, rfl, by decide +kernel, rfl, by decide +kernel, by decide +kernel⟩
abbrev N_turn : List Str := ["a", "b", "c", "total"]
theorem sc_turn : FnScope N_turn ["a", "b", "c"] (defScope s_turn) := ⟨rfl, rfl, rfl, by decide +kernel, rfl, by decide +kernel, by decide +kernel⟩
abbrev N_is_whole_number : List Str := ["value"]
theorem sc_is_whole_number : FnScope N_is_whole_number ["value"] (defScope s_is_whole_number) := ⟨rfl, rfl, rfl, by decide +kernel, rfl, by decide +kernel, by decide +kernel⟩
abbrev N_are_integers : List Str := ["value", "many", "part"]
theorem sc_are_integers : FnScope N_are_integers ["value", "many"] (defScope s_are_integers) := ⟨rfl, rfl, rfl, by decide +kernel, rfl, by decide +kernel, by decide +kernel⟩
abbrev N_is_point : List Str := ["value"]
theorem sc_is_point : FnScope N_is_point ["value"] (defScope s_is_point) := ⟨rfl, rfl, rfl, by decide +kernel, rfl, by decide +kernel, by decide +kernel⟩
abbrev N_check_points : List Str := ["values", "value"]
theorem sc_check_points : FnScope N_check_points ["values"] (defScope s_check_points) := ⟨rfl, rfl, rfl, by decide +kernel, rfl, by decide +kernel, by decide +kernel⟩
abbrev N_side : List Str := ["a", "b", "c"]
theorem sc_side : FnScope N_side ["a", "b", "c"] (defScope s_side) := ⟨rfl, rfl, rfl, by decide +kernel, rfl, by decide +kernel, by decide +kernel⟩
abbrev N_is_ahead : List Str := ["a", "b", "apart"]
theorem sc_is_ahead : FnScope N_is_ahead ["a", "b"] (defScope s_is_ahead) := ⟨rfl, rfl, rfl, by decide +kernel, rfl, by decide +kernel, by decide +kernel⟩
abbrev N_first_of : List Str := ["a", "b"]
theorem sc_first_of : FnScope N_first_of ["a", "b"] (defScope s_first_of) := ⟨rfl, rfl, rfl, by decide +kernel, rfl, by decide +kernel, by decide +kernel⟩
abbrev N_last_of : List Str := ["a", "b"]
theorem sc_last_of : FnScope N_last_of ["a", "b"] (defScope s_last_of) := ⟨rfl, rfl, rfl, by decide +kernel, rfl, by decide +kernel, by decide +kernel⟩
abbrev N_meeting_in_line : List Str := ["a", "b", "c", "d", "low", "high"]
theorem sc_meeting_in_line : FnScope N_meeting_in_line ["a", "b", "c", "d"] (defScope s_meeting_in_line) := ⟨rfl, rfl, rfl, by decide +kernel, rfl, by decide +kernel, by decide +kernel⟩
abbrev N_point_at : List Str := ["x", "y", "bottom", "common"]
theorem sc_point_at : FnScope N_point_at ["x", "y", "bottom"] (defScope s_point_at) := ⟨rfl, rfl, rfl, by decide +kernel, rfl, by decide +kernel, by decide +kernel⟩
abbrev N_line_through : List Str := ["a", "b"]
theorem sc_line_through : FnScope N_line_through ["a", "b"] (defScope s_line_through) := ⟨rfl, rfl, rfl, by decide +kernel, rfl, by decide +kernel, by decide +kernel⟩
abbrev N_common_point : List Str := ["a", "b", "c", "d", "one", "other", "x", "y", "bottom"]
theorem sc_common_point : FnScope N_common_point ["a", "b", "c", "d"] (defScope s_common_point) := ⟨rfl, rfl, rfl, by decide +kernel, rfl, by decide +kernel, by decide +kernel⟩
abbrev N_meeting : List Str := ["a", "b", "c", "d", "of_c", "of_d", "of_a", "of_b", "end", "where"]
theorem sc_meeting : FnScope N_meeting ["a", "b", "c", "d"] (defScope s_meeting) := ⟨rfl, rfl, rfl, by decide +kernel, rfl, by decide +kernel, by decide +kernel⟩
abbrev N_meet : List Str := ["a", "b", "c", "d", "ends"]
theorem sc_meet : FnScope N_meet ["a", "b", "c", "d"] (defScope s_meet) := ⟨rfl, rfl, rfl, by decide +kernel, rfl, by decide +kernel, by decide +kernel⟩
abbrev N_point_between : List Str := ["a", "b", "share", "behind", "ahead"]
theorem sc_point_between : FnScope N_point_between ["a", "b", "share"] (defScope s_point_between) := ⟨rfl, rfl, rfl, by decide +kernel, rfl, by decide +kernel, by decide +kernel⟩
abbrev N_is_fraction : List Str := ["value"]
theorem sc_is_fraction : FnScope N_is_fraction ["value"] (defScope s_is_fraction) := ⟨rfl, rfl, rfl, by decide +kernel, rfl, by decide +kernel, by decide +kernel⟩
abbrev N_is_share : List Str := ["value"]
theorem sc_is_share : FnScope N_is_share ["value"] (defScope s_is_share) := ⟨rfl, rfl, rfl, by decide +kernel, rfl, by decide +kernel, by decide +kernel⟩
abbrev N_between : List Str := ["a", "b", "share"]
theorem sc_between : FnScope N_between ["a", "b", "share"] (defScope s_between) := ⟨rfl, rfl, rfl, by decide +kernel, rfl, by decide +kernel, by decide +kernel⟩
abbrev N__law_take : List Str := ["pot", "upto", "prime", "blend", "digit"]
theorem sc__law_take : FnScope N__law_take ["pot", "upto"] (defScope s__law_take) := ⟨rfl, rfl, rfl, by decide +kernel, rfl, by decide +kernel, by decide +kernel⟩
abbrev N__law_frac_common : List Str := ["one", "other"]
theorem sc__law_frac_common : FnScope N__law_frac_common ["one", "other"] (defScope s__law_frac_common) := ⟨rfl, rfl, rfl, by decide +kernel, rfl, by decide +kernel, by decide +kernel⟩
abbrev N__law_frac : List Str := ["top", "bottom", "by"]
theorem sc__law_frac : FnScope N__law_frac ["top", "bottom"] (defScope s__law_frac) := ⟨rfl, rfl, rfl, by decide +kernel, rfl, by decide +kernel, by decide +kernel⟩
abbrev N__law_point_told : List Str := ["point", "by", "x", "low", "y", "high"]
theorem sc__law_point_told : FnScope N__law_point_told ["point"] (defScope s__law_point_told) := ⟨rfl, rfl, rfl, by decide +kernel, rfl, by decide +kernel, by decide +kernel⟩
abbrev N__law_of : List Str := ["pot", "some"]
theorem sc__law_of : FnScope N__law_of ["pot", "some"] (defScope s__law_of) := ⟨rfl, rfl, rfl, by decide +kernel, rfl, by decide +kernel, by decide +kernel⟩
abbrev N__law_leader : List Str := ["pot", "way", "factor"]
theorem sc__law_leader : FnScope N__law_leader ["pot"] (defScope s__law_leader) := ⟨rfl, rfl, rfl, by decide +kernel, rfl, by decide +kernel, by decide +kernel⟩
abbrev N__law_small_point : List Str := ["pot", "bottom"]
theorem sc__law_small_point : FnScope N__law_small_point ["pot"] (defScope s__law_small_point) := ⟨rfl, rfl, rfl, by decide +kernel, rfl, by decide +kernel, by decide +kernel⟩
abbrev N__law_frac_plus : List Str := ["one", "other"]
theorem sc__law_frac_plus : FnScope N__law_frac_plus ["one", "other"] (defScope s__law_frac_plus) := ⟨rfl, rfl, rfl, by decide +kernel, rfl, by decide +kernel, by decide +kernel⟩
abbrev N__law_frac_times : List Str := ["one", "other"]
theorem sc__law_frac_times : FnScope N__law_frac_times ["one", "other"] (defScope s__law_frac_times) := ⟨rfl, rfl, rfl, by decide +kernel, rfl, by decide +kernel, by decide +kernel⟩
abbrev N__law_led_point : List Str := ["leader", "point", "word", "way", "factor", "x", "y"]
theorem sc__law_led_point : FnScope N__law_led_point ["leader", "point"] (defScope s__law_led_point) := ⟨rfl, rfl, rfl, by decide +kernel, rfl, by decide +kernel, by decide +kernel⟩
abbrev N__law_told : List Str := ["leader", "points", "point"]
theorem sc__law_told : FnScope N__law_told ["leader", "points"] (defScope s__law_told) := ⟨rfl, rfl, rfl, by decide +kernel, rfl, by decide +kernel, by decide +kernel⟩
abbrev N__law_point_own : List Str := ["told"]
theorem sc__law_point_own : FnScope N__law_point_own ["told"] (defScope s__law_point_own) := ⟨rfl, rfl, rfl, by decide +kernel, rfl, by decide +kernel, by decide +kernel⟩
abbrev N__law_led_told : List Str := ["leader", "value"]
theorem sc__law_led_told : FnScope N__law_led_told ["leader", "value"] (defScope s__law_led_told) := ⟨rfl, rfl, rfl, by decide +kernel, rfl, by decide +kernel, by decide +kernel⟩
abbrev N_lies_on : List Str := ["a", "b", "c"]
theorem sc_lies_on : FnScope N_lies_on ["a", "b", "c"] (defScope s_lies_on) := ⟨rfl, rfl, rfl, by decide +kernel, rfl, by decide +kernel, by decide +kernel⟩
abbrev N_closed_stretches : List Str := ["points", "k"]
theorem sc_closed_stretches : FnScope N_closed_stretches ["points"] (defScope s_closed_stretches) := ⟨rfl, rfl, rfl, by decide +kernel, rfl, by decide +kernel, by decide +kernel⟩
abbrev N_goes_upward : List Str := ["stretch", "spot", "heights", "point"]
theorem sc_goes_upward : FnScope N_goes_upward ["stretch", "spot"] (defScope s_goes_upward) := ⟨rfl, rfl, rfl, by decide +kernel, rfl, by decide +kernel, by decide +kernel⟩
abbrev N_is_crossed : List Str := ["stretch", "spot", "upward"]
theorem sc_is_crossed : FnScope N_is_crossed ["stretch", "spot"] (defScope s_is_crossed) := ⟨rfl, rfl, rfl, by decide +kernel, rfl, by decide +kernel, by decide +kernel⟩
abbrev N_is_round : List Str := ["points", "spot", "stretch"]
theorem sc_is_round : FnScope N_is_round ["points", "spot"] (defScope s_is_round) := ⟨rfl, rfl, rfl, by decide +kernel, rfl, by decide +kernel, by decide +kernel⟩
abbrev N_is_closed_line : List Str := ["value", "a", "b", "point"]
theorem sc_is_closed_line : FnScope N_is_closed_line ["value"] (defScope s_is_closed_line) := ⟨rfl, rfl, rfl, by decide +kernel, rfl, by decide +kernel, by decide +kernel⟩
abbrev N_inside : List Str := ["points", "spot", "a", "b"]
theorem sc_inside : FnScope N_inside ["points", "spot"] (defScope s_inside) := ⟨rfl, rfl, rfl, by decide +kernel, rfl, by decide +kernel, by decide +kernel⟩
abbrev N__law_inside : List Str := ["points", "spot", "caught", "back"]
theorem sc__law_inside : FnScope N__law_inside ["points", "spot"] (defScope s__law_inside) := ⟨rfl, rfl, rfl, by decide +kernel, rfl, by decide +kernel, by decide +kernel⟩
abbrev N__law_right : List Str := ["pot", "sign", "share", "line", "spot", "mine", "its", "leader", "own", "here", "there", "due", "at", "lap", "point"]
theorem sc__law_right : FnScope N__law_right ["pot"] (defScope s__law_right) := ⟨rfl, rfl, rfl, by decide +kernel, rfl, by decide +kernel, by decide +kernel⟩
abbrev N_law : List Str := ["script", "place"]
theorem sc_law : FnScope N_law ["script"] (defScope s_law) := ⟨rfl, rfl, rfl, by decide +kernel, rfl, by decide +kernel, by decide +kernel⟩
/-! ### names -/
structure Nms (mg : Str → Option Value) : Prop where
  n_abs : mg "abs" = none
  n_all : mg "all" = none
  n_any : mg "any" = none
  n_bool : mg "bool" = none
  n_int : mg "int" = none
  n_isinstance : mg "isinstance" = none
  n_len : mg "len" = none
  n_list : mg "list" = none
  n_max : mg "max" = none
  n_min : mg "min" = none
  n_range : mg "range" = none
  n_repr : mg "repr" = none
  n_sum : mg "sum" = none
  n_tuple : mg "tuple" = none
  g_gcd : mg "gcd" = some (.builtin "math.gcd")

noncomputable def F__law_pot : SM := (mSeq (mAsg (mIf (bCmp (mBin (cmpI fun i j => decide (i < j)) (mVar 1) (mCall lenD (mCons (mVar 0) mNil)))) (mBin idxD (mVar 0) (mVar 1)) (mBin addD (mBin addD (mBin modD (mCall sumD (mCons (mSl (mVar 0) oNone (oSome (mC (.int 1)))) mNil)) (mC (.int 1000003))) (mBin mulD (mC (.int 1314)) (mVar 1))) (mC (.int 604)))) (gNm 2)) (mSeq (mAsg (mBin mulD (mBin modD (mCall intD (mCons (mCall absD (mCons (mVar 2) mNil)) mNil)) (mBin powD (mBin powD (mC (.int 10)) (mC (.int 60))) (mC (.int 5)))) (mCall intD (mCons (mBin (cmpI fun i j => decide (j ≤ i)) (mCall absD (mCons (mVar 2) mNil)) (mBin powD (mC (.int 10)) (mC (.int 18)))) mNil))) (gNm 3)) (mSeq (mAsg (mBin modD (mCall intD (mCons (mVar 2) mNil)) (mC (.int 2305843009213693951))) (gNm 4)) (mRet (mLst (mCons (mVar 3) (mCons (mBin modD (mCall intD (mCons (mBin addD (mBin addD (mBin mulD (mVar 4) (mC (.int 73514))) (mBin mulD (mBin mulD (mC (.int 8204)) (mVar 1)) (mVar 1))) (mC (.int 562))) mNil)) (mC (.int 2305843009213693921))) (mCons (mC (.int 0)) mNil))))))))
noncomputable def D__law_pot : GN := mFn 2 3 F__law_pot
noncomputable def F__law_cells : SM := (mRet (mLstRg (rg1 (mCall maxD (mCons (mC (.int 1)) (mCons (mCall minD (mCons (mVar 1) (mCons (mCall lenD (mCons (mVar 0) mNil)) mNil))) mNil))))))
noncomputable def D__law_cells : GN := mFn 2 0 F__law_cells
noncomputable def F_turn : SM := (mSeq (mAsg (mBin addD (mBin subD (mBin mulD (mBin idxD (mVar 0) (mC (.int 0))) (mBin subD (mBin mulD (mBin idxD (mVar 1) (mC (.int 1))) (mBin idxD (mVar 2) (mC (.int 2)))) (mBin mulD (mBin idxD (mVar 1) (mC (.int 2))) (mBin idxD (mVar 2) (mC (.int 1)))))) (mBin mulD (mBin idxD (mVar 0) (mC (.int 1))) (mBin subD (mBin mulD (mBin idxD (mVar 1) (mC (.int 0))) (mBin idxD (mVar 2) (mC (.int 2)))) (mBin mulD (mBin idxD (mVar 1) (mC (.int 2))) (mBin idxD (mVar 2) (mC (.int 0))))))) (mBin mulD (mBin idxD (mVar 0) (mC (.int 2))) (mBin subD (mBin mulD (mBin idxD (mVar 1) (mC (.int 0))) (mBin idxD (mVar 2) (mC (.int 1)))) (mBin mulD (mBin idxD (mVar 1) (mC (.int 1))) (mBin idxD (mVar 2) (mC (.int 0))))))) (gNm 3)) (mSeq (mIfS (bCmp (mBin eqD (mVar 3) (mC (.int 0)))) (mRet (mC (.int 0))) mSkip) (mRet (mIf (bCmp (mBin (cmpI fun i j => decide (j < i)) (mVar 3) (mC (.int 0)))) (mC (.int 1)) (mUn negD (mC (.int 1)))))))
noncomputable def D_turn : GN := mFn 3 1 F_turn
noncomputable def F_is_whole_number : SM := (mRet (mAnd (mCall isiD (mCons (mVar 0) (mCons (mC (.raw (.ty "int"))) mNil))) (mNot (mCall isiD (mCons (mVar 0) (mCons (mC (.raw (.ty "bool"))) mNil))))))
noncomputable def D_is_whole_number : GN := mFn 1 0 F_is_whole_number
noncomputable def F_are_integers : SM := (mRet (mAnd (mCall isiD (mCons (mVar 0) (mCons (mC (.raw (.ty "tuple"))) mNil))) (mAnd (mBin eqD (mCall lenD (mCons (mVar 0) mNil)) (mVar 1)) (mCall allD (mCons (mComp (iSeq (mVar 0)) (gNm 2) bYes (mCall D_is_whole_number (mCons (mVar 2) mNil)) [2]) mNil)))))
noncomputable def D_are_integers : GN := mFn 2 1 F_are_integers
noncomputable def F_is_point : SM := (mRet (mAnd (mCall D_are_integers (mCons (mVar 0) (mCons (mC (.int 3)) mNil))) (mAnd (mBin (cmpI fun i j => decide (j ≤ i)) (mBin idxD (mVar 0) (mC (.int 2))) (mC (.int 1))) (mBin eqD (mCall gcdD (mCons (mBin idxD (mVar 0) (mC (.int 0))) (mCons (mBin idxD (mVar 0) (mC (.int 1))) (mCons (mBin idxD (mVar 0) (mC (.int 2))) mNil)))) (mC (.int 1))))))
noncomputable def D_is_point : GN := mFn 1 0 F_is_point
noncomputable def F_check_points : SM := (mFor (iSeq (mVar 0)) (gNm 1) (mIfS (bNot (bTru (mCall D_is_point (mCons (mVar 1) mNil)))) mNone mSkip))
noncomputable def D_check_points : GN := mFn 1 1 F_check_points
noncomputable def F_side : SM := (mSeq (mExpr (mCall D_check_points (mCons (mTup (mCons (mVar 0) (mCons (mVar 1) (mCons (mVar 2) mNil)))) mNil))) (mRet (mCall D_turn (mCons (mVar 0) (mCons (mVar 1) (mCons (mVar 2) mNil))))))
noncomputable def D_side : GN := mFn 3 0 F_side
noncomputable def F_is_ahead : SM := (mSeq (mAsg (mBin subD (mBin mulD (mBin idxD (mVar 0) (mC (.int 0))) (mBin idxD (mVar 1) (mC (.int 2)))) (mBin mulD (mBin idxD (mVar 1) (mC (.int 0))) (mBin idxD (mVar 0) (mC (.int 2))))) (gNm 2)) (mSeq (mIfS (bCmp (mBin neD (mVar 2) (mC (.int 0)))) (mRet (mBin (cmpI fun i j => decide (i < j)) (mVar 2) (mC (.int 0)))) mSkip) (mRet (mBin (cmpI fun i j => decide (i < j)) (mBin mulD (mBin idxD (mVar 0) (mC (.int 1))) (mBin idxD (mVar 1) (mC (.int 2)))) (mBin mulD (mBin idxD (mVar 1) (mC (.int 1))) (mBin idxD (mVar 0) (mC (.int 2))))))))
noncomputable def D_is_ahead : GN := mFn 2 1 F_is_ahead
noncomputable def F_first_of : SM := (mRet (mIf (bTru (mCall D_is_ahead (mCons (mVar 1) (mCons (mVar 0) mNil)))) (mVar 1) (mVar 0)))
noncomputable def D_first_of : GN := mFn 2 0 F_first_of
noncomputable def F_last_of : SM := (mRet (mIf (bTru (mCall D_is_ahead (mCons (mVar 1) (mCons (mVar 0) mNil)))) (mVar 0) (mVar 1)))
noncomputable def D_last_of : GN := mFn 2 0 F_last_of
noncomputable def F_meeting_in_line : SM := (mSeq (mAsg (mCall D_last_of (mCons (mCall D_first_of (mCons (mVar 0) (mCons (mVar 1) mNil))) (mCons (mCall D_first_of (mCons (mVar 2) (mCons (mVar 3) mNil))) mNil))) (gNm 4)) (mSeq (mAsg (mCall D_first_of (mCons (mCall D_last_of (mCons (mVar 0) (mCons (mVar 1) mNil))) (mCons (mCall D_last_of (mCons (mVar 2) (mCons (mVar 3) mNil))) mNil))) (gNm 5)) (mSeq (mIfS (bCmp (mBin eqD (mVar 4) (mVar 5))) (mRet (mTup (mCons (mC (.str "touch")) (mCons (mVar 4) mNil)))) mSkip) (mRet (mIf (bTru (mCall D_is_ahead (mCons (mVar 4) (mCons (mVar 5) mNil)))) (mTup (mCons (mC (.str "along")) mNil)) (mTup (mCons (mC (.str "none")) mNil)))))))
noncomputable def D_meeting_in_line : GN := mFn 4 2 F_meeting_in_line
noncomputable def F_point_at : SM := (mSeq (mAsg (mCall gcdD (mCons (mVar 0) (mCons (mVar 1) (mCons (mVar 2) mNil)))) (gNm 3)) (mSeq (mIfS (bCmp (mBin (cmpI fun i j => decide (i < j)) (mVar 2) (mC (.int 0)))) (mAsg (mUn negD (mVar 3)) (gNm 3)) mSkip) (mRet (mTup (mCons (mBin divD (mVar 0) (mVar 3)) (mCons (mBin divD (mVar 1) (mVar 3)) (mCons (mBin divD (mVar 2) (mVar 3)) mNil)))))))
noncomputable def D_point_at : GN := mFn 3 1 F_point_at
noncomputable def F_line_through : SM := (mRet (mTup (mCons (mBin subD (mBin mulD (mBin idxD (mVar 0) (mC (.int 1))) (mBin idxD (mVar 1) (mC (.int 2)))) (mBin mulD (mBin idxD (mVar 0) (mC (.int 2))) (mBin idxD (mVar 1) (mC (.int 1))))) (mCons (mBin subD (mBin mulD (mBin idxD (mVar 0) (mC (.int 2))) (mBin idxD (mVar 1) (mC (.int 0)))) (mBin mulD (mBin idxD (mVar 0) (mC (.int 0))) (mBin idxD (mVar 1) (mC (.int 2))))) (mCons (mBin subD (mBin mulD (mBin idxD (mVar 0) (mC (.int 0))) (mBin idxD (mVar 1) (mC (.int 1)))) (mBin mulD (mBin idxD (mVar 0) (mC (.int 1))) (mBin idxD (mVar 1) (mC (.int 0))))) mNil)))))
noncomputable def D_line_through : GN := mFn 2 0 F_line_through
noncomputable def F_common_point : SM := (mSeq (mPar 4 5 (mCons (mCall D_line_through (mCons (mVar 0) (mCons (mVar 1) mNil))) (mCons (mCall D_line_through (mCons (mVar 2) (mCons (mVar 3) mNil))) mNil))) (mSeq (mAsg (mCall D_line_through (mCons (mVar 4) (mCons (mVar 5) mNil))) (gTp (gsCons (gNm 6) (gsCons (gNm 7) (gsCons (gNm 8) gsNil))))) (mRet (mCall D_point_at (mCons (mVar 6) (mCons (mVar 7) (mCons (mVar 8) mNil)))))))
noncomputable def D_common_point : GN := mFn 4 5 F_common_point
noncomputable def F_meeting : SM := (mSeq (mPar 4 5 (mCons (mCall D_turn (mCons (mVar 0) (mCons (mVar 1) (mCons (mVar 2) mNil)))) (mCons (mCall D_turn (mCons (mVar 0) (mCons (mVar 1) (mCons (mVar 3) mNil)))) mNil))) (mSeq (mIfS (bAnd (bCmp (mBin eqD (mVar 4) (mC (.int 0)))) (bCmp (mBin eqD (mVar 5) (mC (.int 0))))) (mRet (mCall D_meeting_in_line (mCons (mVar 0) (mCons (mVar 1) (mCons (mVar 2) (mCons (mVar 3) mNil)))))) mSkip) (mSeq (mPar 6 7 (mCons (mCall D_turn (mCons (mVar 2) (mCons (mVar 3) (mCons (mVar 0) mNil)))) (mCons (mCall D_turn (mCons (mVar 2) (mCons (mVar 3) (mCons (mVar 1) mNil)))) mNil))) (mSeq (mIfS (bOr (bCmp (mBin (cmpI fun i j => decide (j < i)) (mBin mulD (mVar 4) (mVar 5)) (mC (.int 0)))) (bCmp (mBin (cmpI fun i j => decide (j < i)) (mBin mulD (mVar 6) (mVar 7)) (mC (.int 0))))) (mRet (mTup (mCons (mC (.str "none")) mNil))) mSkip) (mSeq (mFor (iSeq (mTup (mCons (mTup (mCons (mVar 2) (mCons (mVar 4) mNil))) (mCons (mTup (mCons (mVar 3) (mCons (mVar 5) mNil))) (mCons (mTup (mCons (mVar 0) (mCons (mVar 6) mNil))) (mCons (mTup (mCons (mVar 1) (mCons (mVar 7) mNil))) mNil)))))) (gTp (gsCons (gNm 8) (gsCons (gNm 9) gsNil))) (mIfS (bCmp (mBin eqD (mVar 9) (mC (.int 0)))) (mRet (mTup (mCons (mC (.str "touch")) (mCons (mVar 8) mNil)))) mSkip)) (mRet (mTup (mCons (mC (.str "cross")) (mCons (mCall D_common_point (mCons (mVar 0) (mCons (mVar 1) (mCons (mVar 2) (mCons (mVar 3) mNil))))) mNil)))))))))
noncomputable def D_meeting : GN := mFn 4 6 F_meeting
noncomputable def F_meet : SM := (mSeq (mExpr (mCall D_check_points (mCons (mTup (mCons (mVar 0) (mCons (mVar 1) (mCons (mVar 2) (mCons (mVar 3) mNil))))) mNil))) (mSeq (mFor (iSeq (mTup (mCons (mTup (mCons (mVar 0) (mCons (mVar 1) mNil))) (mCons (mTup (mCons (mVar 2) (mCons (mVar 3) mNil))) mNil)))) (gNm 4) (mIfS (bCmp (mBin eqD (mBin idxD (mVar 4) (mC (.int 0))) (mBin idxD (mVar 4) (mC (.int 1))))) mNone mSkip)) (mRet (mCall D_meeting (mCons (mVar 0) (mCons (mVar 1) (mCons (mVar 2) (mCons (mVar 3) mNil))))))))
noncomputable def D_meet : GN := mFn 4 1 F_meet
noncomputable def F_point_between : SM := (mSeq (mAsg (mBin mulD (mBin idxD (mVar 2) (mC (.int 0))) (mBin idxD (mVar 0) (mC (.int 2)))) (gNm 3)) (mSeq (mAsg (mBin mulD (mBin subD (mBin idxD (mVar 2) (mC (.int 1))) (mBin idxD (mVar 2) (mC (.int 0)))) (mBin idxD (mVar 1) (mC (.int 2)))) (gNm 4)) (mRet (mCall D_point_at (mCons (mBin addD (mBin mulD (mBin idxD (mVar 0) (mC (.int 0))) (mVar 4)) (mBin mulD (mBin idxD (mVar 1) (mC (.int 0))) (mVar 3))) (mCons (mBin addD (mBin mulD (mBin idxD (mVar 0) (mC (.int 1))) (mVar 4)) (mBin mulD (mBin idxD (mVar 1) (mC (.int 1))) (mVar 3))) (mCons (mBin mulD (mBin mulD (mBin idxD (mVar 0) (mC (.int 2))) (mBin idxD (mVar 1) (mC (.int 2)))) (mBin idxD (mVar 2) (mC (.int 1)))) mNil)))))))
noncomputable def D_point_between : GN := mFn 3 2 F_point_between
noncomputable def F_is_fraction : SM := (mRet (mAnd (mCall D_are_integers (mCons (mVar 0) (mCons (mC (.int 2)) mNil))) (mAnd (mBin (cmpI fun i j => decide (j ≤ i)) (mBin idxD (mVar 0) (mC (.int 1))) (mC (.int 1))) (mBin eqD (mCall gcdD (mCons (mBin idxD (mVar 0) (mC (.int 0))) (mCons (mBin idxD (mVar 0) (mC (.int 1))) mNil))) (mC (.int 1))))))
noncomputable def D_is_fraction : GN := mFn 1 0 F_is_fraction
noncomputable def F_is_share : SM := (mRet (mAnd (mCall D_is_fraction (mCons (mVar 0) mNil)) (mChain (cmpI fun i j => decide (i ≤ j)) (cmpI fun i j => decide (i ≤ j)) (mC (.int 0)) (mBin idxD (mVar 0) (mC (.int 0))) (mBin idxD (mVar 0) (mC (.int 1))))))
noncomputable def D_is_share : GN := mFn 1 0 F_is_share
noncomputable def F_between : SM := (mSeq (mExpr (mCall D_check_points (mCons (mTup (mCons (mVar 0) (mCons (mVar 1) mNil))) mNil))) (mSeq (mIfS (bNot (bTru (mCall D_is_share (mCons (mVar 2) mNil)))) mNone mSkip) (mRet (mCall D_point_between (mCons (mVar 0) (mCons (mVar 1) (mCons (mVar 2) mNil)))))))
noncomputable def D_between : GN := mFn 3 0 F_between
noncomputable def F__law_take : SM := (mSeq (mIfS (bCmp (mBin (cmpI fun i j => decide (j < i)) (mBin idxD (mVar 0) (mC (.int 0))) (mC (.int 0)))) (mSeq (mAsg (mBin modD (mCall intD (mCons (mBin idxD (mVar 0) (mC (.int 0))) mNil)) (mVar 1)) (gNm 4)) (mSeq (mAsg (mBin divD (mBin idxD (mVar 0) (mC (.int 0))) (mVar 1)) (gSb (mVar 0) (mC (.int 0)))) (mRet (mVar 4)))) mSkip) (mSeq (mAsg (mBin addD (mBin idxD (mVar 0) (mC (.int 2))) (mC (.int 1))) (gSb (mVar 0) (mC (.int 2)))) (mSeq (mAsg (mBin idxD (mLst (mCons (mC (.int 2147483647)) (mCons (mC (.int 2147483629)) (mCons (mC (.int 2147483587)) (mCons (mC (.int 2147483579)) (mCons (mC (.int 2147483563)) mNil)))))) (mBin modD (mCall intD (mCons (mBin idxD (mVar 0) (mC (.int 2))) mNil)) (mC (.int 5)))) (gNm 2)) (mSeq (mAsg (mBin modD (mCall intD (mCons (mBin powD (mCall intD (mCons (mBin addD (mBin addD (mBin idxD (mVar 0) (mC (.int 1))) (mBin mulD (mBin mulD (mC (.int 99548)) (mBin idxD (mVar 0) (mC (.int 2)))) (mBin idxD (mVar 0) (mC (.int 2))))) (mC (.int 846))) mNil)) (mC (.int 3))) mNil)) (mVar 2)) (gNm 3)) (mSeq (mAsg (mBin modD (mCall intD (mCons (mBin mulD (mVar 3) (mBin addD (mBin modD (mCall intD (mCons (mVar 3) mNil)) (mC (.int 10614))) (mBin mulD (mC (.int 202)) (mBin idxD (mVar 0) (mC (.int 2)))))) mNil)) (mC (.int 2305843009213693907))) (gNm 3)) (mRet (mBin modD (mCall intD (mCons (mBin divD (mVar 3) (mC (.int 167))) mNil)) (mVar 1))))))))
noncomputable def D__law_take : GN := mFn 2 3 F__law_take
def fuel__law_frac_common : Ev → Hd → Nat := fuelE
noncomputable def F__law_frac_common : SM := (mSeq (mPar 0 1 (mCons (mCall absD (mCons (mVar 0) mNil)) (mCons (mCall absD (mCons (mVar 1) mNil)) mNil))) (mSeq (mWhile fuel__law_frac_common (bCmp (mBin (cmpI fun i j => decide (j < i)) (mVar 1) (mC (.int 0)))) (mPar 0 1 (mCons (mVar 1) (mCons (mBin modD (mCall intD (mCons (mVar 0) mNil)) (mVar 1)) mNil)))) (mRet (mVar 0))))
noncomputable def D__law_frac_common : GN := mFn 2 0 F__law_frac_common
noncomputable def F__law_frac : SM := (mSeq (mAsg (mCall D__law_frac_common (mCons (mVar 0) (mCons (mVar 1) mNil))) (gNm 2)) (mSeq (mAsg (mIf (bCmp (mBin (cmpI fun i j => decide (j < i)) (mVar 1) (mC (.int 0)))) (mVar 2) (mUn negD (mVar 2))) (gNm 2)) (mRet (mTup (mCons (mBin divD (mVar 0) (mVar 2)) (mCons (mBin divD (mVar 1) (mVar 2)) mNil))))))
noncomputable def D__law_frac : GN := mFn 2 1 F__law_frac
noncomputable def F__law_point_told : SM := (mSeq (mAsg (mVar 0) (gTp (gsCons (gTp (gsCons (gNm 2) (gsCons (gNm 3) gsNil))) (gsCons (gTp (gsCons (gNm 4) (gsCons (gNm 5) gsNil))) gsNil)))) (mSeq (mAsg (mCall D__law_frac_common (mCons (mVar 3) (mCons (mVar 5) mNil))) (gNm 1)) (mRet (mTup (mCons (mBin mulD (mVar 2) (mBin divD (mVar 5) (mVar 1))) (mCons (mBin mulD (mVar 4) (mBin divD (mVar 3) (mVar 1))) (mCons (mBin mulD (mBin divD (mVar 3) (mVar 1)) (mVar 5)) mNil)))))))
noncomputable def D__law_point_told : GN := mFn 1 5 F__law_point_told
noncomputable def F__law_of : SM := (mRet (mBin idxD (mVar 1) (mCall D__law_take (mCons (mVar 0) (mCons (mCall lenD (mCons (mVar 1) mNil)) mNil)))))
noncomputable def D__law_of : GN := mFn 2 0 F__law_of
noncomputable def F__law_leader : SM := (mSeq (mAsg (mTup (mCons (mCall D__law_frac (mCons (mBin subD (mCall D__law_take (mCons (mVar 0) (mCons (mC (.int 13)) mNil))) (mC (.int 6))) (mCons (mCall D__law_of (mCons (mVar 0) (mCons (mLst (mCons (mC (.int 1)) (mCons (mC (.int 1)) (mCons (mC (.int 3)) mNil)))) mNil))) mNil))) (mCons (mCall D__law_frac (mCons (mBin subD (mCall D__law_take (mCons (mVar 0) (mCons (mC (.int 13)) mNil))) (mC (.int 6))) (mCons (mC (.int 1)) mNil))) mNil))) (gNm 1)) (mSeq (mAsg (mCall D__law_of (mCons (mVar 0) (mCons (mLst (mCons (mTup (mCons (mC (.int 1)) (mCons (mC (.int 1)) mNil))) (mCons (mTup (mCons (mC (.int 2)) (mCons (mC (.int 1)) mNil))) (mCons (mTup (mCons (mC (.int 1)) (mCons (mC (.int 2)) mNil))) (mCons (mTup (mCons (mC (.int 7)) (mCons (mC (.int 3)) mNil))) (mCons (mTup (mCons (mC (.int 1000)) (mCons (mC (.int 1)) mNil))) (mCons (mTup (mCons (mBin powD (mC (.int 10)) (mC (.int 10))) (mCons (mC (.int 1)) mNil))) mNil))))))) mNil))) (gNm 2)) (mRet (mTup (mCons (mCall D__law_of (mCons (mVar 0) (mCons (mLst (mCons (mC (.str "stay")) (mCons (mC (.str "turned")) (mCons (mC (.str "mirrored")) (mCons (mC (.str "back")) mNil))))) mNil))) (mCons (mVar 1) (mCons (mVar 2) mNil)))))))
noncomputable def D__law_leader : GN := mFn 1 2 F__law_leader
noncomputable def F__law_small_point : SM := (mSeq (mAsg (mCall D__law_of (mCons (mVar 0) (mCons (mLst (mCons (mC (.int 1)) (mCons (mC (.int 1)) (mCons (mC (.int 2)) (mCons (mC (.int 5)) mNil))))) mNil))) (gNm 1)) (mRet (mTup (mCons (mCall D__law_frac (mCons (mBin subD (mCall D__law_take (mCons (mVar 0) (mCons (mC (.int 9)) mNil))) (mC (.int 4))) (mCons (mVar 1) mNil))) (mCons (mCall D__law_frac (mCons (mBin subD (mCall D__law_take (mCons (mVar 0) (mCons (mC (.int 9)) mNil))) (mC (.int 4))) (mCons (mC (.int 1)) mNil))) mNil)))))
noncomputable def D__law_small_point : GN := mFn 1 1 F__law_small_point
noncomputable def F__law_frac_plus : SM := (mRet (mCall D__law_frac (mCons (mBin addD (mBin mulD (mBin idxD (mVar 0) (mC (.int 0))) (mBin idxD (mVar 1) (mC (.int 1)))) (mBin mulD (mBin idxD (mVar 1) (mC (.int 0))) (mBin idxD (mVar 0) (mC (.int 1))))) (mCons (mBin mulD (mBin idxD (mVar 0) (mC (.int 1))) (mBin idxD (mVar 1) (mC (.int 1)))) mNil))))
noncomputable def D__law_frac_plus : GN := mFn 2 0 F__law_frac_plus
noncomputable def F__law_frac_times : SM := (mRet (mCall D__law_frac (mCons (mBin mulD (mBin idxD (mVar 0) (mC (.int 0))) (mBin idxD (mVar 1) (mC (.int 0)))) (mCons (mBin mulD (mBin idxD (mVar 0) (mC (.int 1))) (mBin idxD (mVar 1) (mC (.int 1)))) mNil))))
noncomputable def D__law_frac_times : GN := mFn 2 0 F__law_frac_times
noncomputable def F__law_led_point : SM := (mSeq (mAsg (mVar 0) (gTp (gsCons (gNm 2) (gsCons (gNm 3) (gsCons (gNm 4) gsNil))))) (mSeq (mAsg (mVar 1) (gTp (gsCons (gNm 5) (gsCons (gNm 6) gsNil)))) (mSeq (mIfS (bCmp (mBin eqD (mVar 2) (mC (.str "turned")))) (mPar 5 6 (mCons (mCall D__law_frac_times (mCons (mTup (mCons (mUn negD (mC (.int 1))) (mCons (mC (.int 1)) mNil))) (mCons (mVar 6) mNil))) (mCons (mVar 5) mNil))) (mIfS (bCmp (mBin eqD (mVar 2) (mC (.str "mirrored")))) (mAsg (mCall D__law_frac_times (mCons (mTup (mCons (mUn negD (mC (.int 1))) (mCons (mC (.int 1)) mNil))) (mCons (mVar 5) mNil))) (gNm 5)) (mIfS (bCmp (mBin eqD (mVar 2) (mC (.str "back")))) (mPar 5 6 (mCons (mCall D__law_frac_times (mCons (mTup (mCons (mUn negD (mC (.int 1))) (mCons (mC (.int 1)) mNil))) (mCons (mVar 5) mNil))) (mCons (mCall D__law_frac_times (mCons (mTup (mCons (mUn negD (mC (.int 1))) (mCons (mC (.int 1)) mNil))) (mCons (mVar 6) mNil))) mNil))) mSkip))) (mRet (mTup (mCons (mCall D__law_frac_plus (mCons (mCall D__law_frac_times (mCons (mVar 4) (mCons (mVar 5) mNil))) (mCons (mBin idxD (mVar 3) (mC (.int 0))) mNil))) (mCons (mCall D__law_frac_plus (mCons (mCall D__law_frac_times (mCons (mVar 4) (mCons (mVar 6) mNil))) (mCons (mBin idxD (mVar 3) (mC (.int 1))) mNil))) mNil)))))))
noncomputable def D__law_led_point : GN := mFn 2 5 F__law_led_point
noncomputable def F__law_told : SM := (mRet (mComp (iSeq (mVar 1)) (gNm 2) bYes (mCall D__law_point_told (mCons (mCall D__law_led_point (mCons (mVar 0) (mCons (mVar 2) mNil))) mNil)) [2]))
noncomputable def D__law_told : GN := mFn 2 1 F__law_told
noncomputable def F__law_point_own : SM := (mRet (mTup (mCons (mCall D__law_frac (mCons (mBin idxD (mVar 0) (mC (.int 0))) (mCons (mBin idxD (mVar 0) (mC (.int 2))) mNil))) (mCons (mCall D__law_frac (mCons (mBin idxD (mVar 0) (mC (.int 1))) (mCons (mBin idxD (mVar 0) (mC (.int 2))) mNil))) mNil))))
noncomputable def D__law_point_own : GN := mFn 1 0 F__law_point_own
noncomputable def F__law_led_told : SM := (mRet (mCall D__law_point_told (mCons (mCall D__law_led_point (mCons (mVar 0) (mCons (mCall D__law_point_own (mCons (mVar 1) mNil)) mNil))) mNil)))
noncomputable def D__law_led_told : GN := mFn 2 0 F__law_led_told
noncomputable def F_lies_on : SM := (mRet (mAnd (mBin eqD (mCall D_turn (mCons (mVar 0) (mCons (mVar 1) (mCons (mVar 2) mNil)))) (mC (.int 0))) (mAnd (mNot (mCall D_is_ahead (mCons (mVar 2) (mCons (mCall D_first_of (mCons (mVar 0) (mCons (mVar 1) mNil))) mNil)))) (mNot (mCall D_is_ahead (mCons (mCall D_last_of (mCons (mVar 0) (mCons (mVar 1) mNil))) (mCons (mVar 2) mNil)))))))
noncomputable def D_lies_on : GN := mFn 3 0 F_lies_on
noncomputable def F_closed_stretches : SM := (mRet (mComp (iRange1 (mCons (mCall lenD (mCons (mVar 0) mNil)) mNil)) (gNm 1) bYes (mTup (mCons (mBin idxD (mVar 0) (mBin subD (mVar 1) (mC (.int 1)))) (mCons (mBin idxD (mVar 0) (mVar 1)) mNil))) [1]))
noncomputable def D_closed_stretches : GN := mFn 1 1 F_closed_stretches
noncomputable def F_goes_upward : SM := (mSeq (mAsg (mComp (iSeq (mVar 0)) (gNm 3) bYes (mBin (cmpI fun i j => decide (j < i)) (mBin mulD (mBin idxD (mVar 3) (mC (.int 1))) (mBin idxD (mVar 1) (mC (.int 2)))) (mBin mulD (mBin idxD (mVar 1) (mC (.int 1))) (mBin idxD (mVar 3) (mC (.int 2))))) [3]) (gNm 2)) (mRet (mBin subD (mCall intD (mCons (mBin idxD (mVar 2) (mC (.int 1))) mNil)) (mCall intD (mCons (mBin idxD (mVar 2) (mC (.int 0))) mNil)))))
noncomputable def D_goes_upward : GN := mFn 2 2 F_goes_upward
noncomputable def F_is_crossed : SM := (mSeq (mAsg (mCall D_goes_upward (mCons (mVar 0) (mCons (mVar 1) mNil))) (gNm 2)) (mRet (mAnd (mBin neD (mVar 2) (mC (.int 0))) (mBin eqD (mCall D_turn (mCons (mBin idxD (mVar 0) (mC (.int 0))) (mCons (mBin idxD (mVar 0) (mC (.int 1))) (mCons (mVar 1) mNil)))) (mVar 2)))))
noncomputable def D_is_crossed : GN := mFn 2 1 F_is_crossed
noncomputable def F_is_round : SM := (mRet (mBin eqD (mBin modD (mCall lenD (mCons (mComp (iSeq (mCall D_closed_stretches (mCons (mVar 0) mNil))) (gNm 2) (bTru (mCall D_is_crossed (mCons (mVar 2) (mCons (mVar 1) mNil)))) (mVar 2) [2]) mNil)) (mC (.int 2))) (mC (.int 1))))
noncomputable def D_is_round : GN := mFn 2 1 F_is_round
noncomputable def F_is_closed_line : SM := (mSeq (mIfS (bOr (bNot (bTru (mCall isiD (mCons (mVar 0) (mCons (mC (.raw (.ty "tuple"))) mNil))))) (bOr (bCmp (mBin (cmpI fun i j => decide (i < j)) (mCall lenD (mCons (mVar 0) mNil)) (mC (.int 3)))) (bNot (bTru (mCall allD (mCons (mComp (iSeq (mVar 0)) (gNm 3) bYes (mCall D_is_point (mCons (mVar 3) mNil)) [3]) mNil)))))) (mRet (mC (.bl false))) mSkip) (mRet (mCall allD (mCons (mComp (iSeq (mCall D_closed_stretches (mCons (mVar 0) mNil))) (gTp (gsCons (gNm 1) (gsCons (gNm 2) gsNil))) bYes (mBin neD (mVar 1) (mVar 2)) [1, 2]) mNil))))
noncomputable def D_is_closed_line : GN := mFn 1 3 F_is_closed_line
noncomputable def F_inside : SM := (mSeq (mIfS (bNot (bTru (mCall D_is_closed_line (mCons (mVar 0) mNil)))) mNone mSkip) (mSeq (mExpr (mCall D_check_points (mCons (mTup (mCons (mVar 1) mNil)) mNil))) (mSeq (mIfS (bTru (mCall anyD (mCons (mComp (iSeq (mCall D_closed_stretches (mCons (mVar 0) mNil))) (gTp (gsCons (gNm 2) (gsCons (gNm 3) gsNil))) bYes (mCall D_lies_on (mCons (mVar 2) (mCons (mVar 3) (mCons (mVar 1) mNil)))) [2, 3]) mNil))) mNone mSkip) (mRet (mCall D_is_round (mCons (mVar 0) (mCons (mVar 1) mNil)))))))
noncomputable def D_inside : GN := mFn 2 2 F_inside
noncomputable def X_inside (cl : Str → Addr) : XM := (xSeq (mIfS (bNot (bTru (mCall D_is_closed_line (mCons (mVar 0) mNil)))) mNone mSkip) (xSeq (mExpr (mCall D_check_points (mCons (mTup (mCons (mVar 1) mNil)) mNil))) (xIf (bTru (mCall anyD (mCons (mComp (iSeq (mCall D_closed_stretches (mCons (mVar 0) mNil))) (gTp (gsCons (gNm 2) (gsCons (gNm 3) gsNil))) bYes (mCall D_lies_on (mCons (mVar 2) (mCons (mVar 3) (mCons (mVar 1) mNil)))) [2, 3]) mNil))) (xRaise (cl "OnLine") (mVar 1)))))
noncomputable def R_inside (cl : Str → Addr) : RN := mFx 2 2 (X_inside cl)
noncomputable def F__law_inside (cl : Str → Addr) (T : Addr) : SM := (mSeq (mAsg (heardD [cl "OnLine"] T "_law_inside.<locals>.<lambda>" (mCall D_inside (mCons (mCall tupleD (mCons (mVar 0) mNil)) (mCons (mVar 1) mNil))) (xCall (R_inside cl) (mCons (mCall tupleD (mCons (mVar 0) mNil)) (mCons (mVar 1) mNil)))) (gTp (gsCons (gNm 2) (gsCons (gNm 3) gsNil)))) (mSeq (mIfS (bCmp (mBin isD (mVar 2) (mC .non))) (mRet (mTup (mCons (mC (.bl false)) (mCons (mVar 3) mNil)))) mSkip) (mRet (mIf (bTru (mCall (isED [cl "OnLine"]) (mCons (mVar 2) (mCons (mC (.raw (.ref (cl "OnLine")))) mNil)))) (mTup (mCons (mC (.bl true)) (mCons (mC .non) mNil))) (mC .non)))))
noncomputable def D__law_inside (cl : Str → Addr) (T : Addr) : GN := mFn 2 2 (F__law_inside cl T)
noncomputable def F__law_right (cl : Str → Addr) (T : Addr) : SM := (mSeq (mAsg (mTup (mCons (mCall D__law_leader (mCons (mVar 0) mNil)) (mCons (mComp (iRange1 (mCons (mC (.int 4)) mNil)) (gNm 13) bYes (mCall D__law_small_point (mCons (mVar 0) mNil)) [13]) mNil))) (gTp (gsCons (gNm 7) (gsCons (gNm 8) gsNil)))) (mSeq (mPar 9 10 (mCons (mComp (iSeq (mVar 8)) (gNm 14) bYes (mCall D__law_point_told (mCons (mVar 14) mNil)) [14]) (mCons (mCall D__law_told (mCons (mVar 7) (mCons (mVar 8) mNil))) mNil))) (mSeq (mAsg (mIf (bCmp (mBin eqD (mBin idxD (mVar 7) (mC (.int 0))) (mC (.str "mirrored")))) (mUn negD (mC (.int 1))) (mC (.int 1))) (gNm 1)) (mSeq (mIfS (bCmp (mBin neD (mCall reprD (mCons (mCall D_side (mCons (mBin idxD (mVar 10) (mC (.int 0))) (mCons (mBin idxD (mVar 10) (mC (.int 1))) (mCons (mBin idxD (mVar 10) (mC (.int 2))) mNil)))) mNil)) (mCall reprD (mCons (mBin mulD (mVar 1) (mCall D_side (mCons (mBin idxD (mVar 9) (mC (.int 0))) (mCons (mBin idxD (mVar 9) (mC (.int 1))) (mCons (mBin idxD (mVar 9) (mC (.int 2))) mNil))))) mNil)))) (mRet (mC (.bl false))) mSkip) (mSeq (mAsg (mCall D__law_frac (mCons (mCall D__law_take (mCons (mVar 0) (mCons (mC (.int 6)) mNil))) (mCons (mC (.int 5)) mNil))) (gNm 2)) (mSeq (mIfS (bCmp (mBin neD (mCall reprD (mCons (mCall D_between (mCons (mBin idxD (mVar 10) (mC (.int 0))) (mCons (mBin idxD (mVar 10) (mC (.int 1))) (mCons (mVar 2) mNil)))) mNil)) (mCall reprD (mCons (mCall D__law_led_told (mCons (mVar 7) (mCons (mCall D_between (mCons (mBin idxD (mVar 9) (mC (.int 0))) (mCons (mBin idxD (mVar 9) (mC (.int 1))) (mCons (mVar 2) mNil)))) mNil))) mNil)))) (mRet (mC (.bl false))) mSkip) (mSeq (mIfS (bAnd (bCmp (mBin neD (mBin idxD (mVar 8) (mC (.int 0))) (mBin idxD (mVar 8) (mC (.int 1))))) (bCmp (mBin neD (mBin idxD (mVar 8) (mC (.int 2))) (mBin idxD (mVar 8) (mC (.int 3)))))) (mSeq (mPar 5 6 (mCons (mCall D_meet (mCons (mBin idxD (mVar 9) (mC (.int 0))) (mCons (mBin idxD (mVar 9) (mC (.int 1))) (mCons (mBin idxD (mVar 9) (mC (.int 2))) (mCons (mBin idxD (mVar 9) (mC (.int 3))) mNil))))) (mCons (mCall D_meet (mCons (mBin idxD (mVar 10) (mC (.int 0))) (mCons (mBin idxD (mVar 10) (mC (.int 1))) (mCons (mBin idxD (mVar 10) (mC (.int 2))) (mCons (mBin idxD (mVar 10) (mC (.int 3))) mNil))))) mNil))) (mSeq (mAsg (mIf (bCmp (mBin eqD (mCall lenD (mCons (mVar 5) mNil)) (mC (.int 1)))) (mVar 5) (mTup (mCons (mBin idxD (mVar 5) (mC (.int 0))) (mCons (mCall D__law_led_told (mCons (mVar 7) (mCons (mBin idxD (mVar 5) (mC (.int 1))) mNil))) mNil)))) (gNm 11)) (mIfS (bCmp (mBin neD (mCall reprD (mCons (mVar 6) mNil)) (mCall reprD (mCons (mVar 11) mNil)))) (mRet (mC (.bl false))) mSkip))) mSkip) (mSeq (mAsg (mComp (iRange1 (mCons (mC (.int 4)) mNil)) (gNm 12) (bCmp (mBin neD (mBin idxD (mVar 8) (mVar 12)) (mBin idxD (mVar 8) (mBin subD (mVar 12) (mC (.int 1)))))) (mBin idxD (mVar 8) (mVar 12)) [12]) (gNm 3)) (mSeq (mIfS (bOr (bCmp (mBin (cmpI fun i j => decide (i < j)) (mCall lenD (mCons (mVar 3) mNil)) (mC (.int 3)))) (bTru (mCall anyD (mCons (mComp (iRange1 (mCons (mCall lenD (mCons (mVar 3) mNil)) mNil)) (gNm 12) bYes (mBin eqD (mBin idxD (mVar 3) (mVar 12)) (mBin idxD (mVar 3) (mBin subD (mVar 12) (mC (.int 1))))) [12]) mNil)))) (mRet (mC (.bl true))) mSkip) (mSeq (mAsg (mCall D__law_small_point (mCons (mVar 0) mNil)) (gNm 4)) (mSeq (mAsg (mCall (D__law_inside cl T) (mCons (mComp (iSeq (mVar 3)) (gNm 14) bYes (mCall D__law_point_told (mCons (mVar 14) mNil)) [14]) (mCons (mCall D__law_point_told (mCons (mVar 4) mNil)) mNil))) (gNm 5)) (mSeq (mAsg (mCall (D__law_inside cl T) (mCons (mCall D__law_told (mCons (mVar 7) (mCons (mVar 3) mNil))) (mCons (mBin idxD (mCall D__law_told (mCons (mVar 7) (mCons (mLst (mCons (mVar 4) mNil)) mNil))) (mC (.int 0))) mNil))) (gNm 6)) (mRet (mAnd (mBin isnD (mVar 5) (mC .non)) (mBin eqD (mCall reprD (mCons (mVar 5) mNil)) (mCall reprD (mCons (mVar 6) mNil)))))))))))))))))
noncomputable def D__law_right (cl : Str → Addr) (T : Addr) : GN := mFn 1 14 (F__law_right cl T)
noncomputable def F_law (cl : Str → Addr) (T : Addr) : SM := (mRet (mCall allD (mCons (mComp (iSeq (mCall D__law_cells (mCons (mVar 0) (mCons (mC (.int 2)) mNil)))) (gNm 1) bYes (mCall (D__law_right cl T) (mCons (mCall D__law_pot (mCons (mVar 0) (mCons (mVar 1) mNil))) mNil)) [1]) mNil)))
noncomputable def D_law (cl : Str → Addr) (T : Addr) : GN := mFn 1 1 (F_law cl T)
theorem gcd_loop {hd : Hd} : ∀ (n a b : Nat), b < n →
    whileL (bCmp (mBin (cmpI fun i j => decide (j < i)) (mVar 1) (mC (.int 0)))) (mPar 0 1 (mCons (mVar 1) (mCons (mBin modD (mCall intD (mCons (mVar 0) mNil)) (mVar 1)) mNil))) n [some (.int a), some (.int b)] hd = some (.nx, [some (.int (a.gcd b : Nat)), some (.int 0)], hd) := by
  intro n
  induction n with
  | zero => intro a b h; omega
  | succ n ih =>
    intro a b h
    unfold whileL
    by_cases hb : b = 0
    · subst hb; simp
    · have h0 : (0 : Int) < (b : Int) := by omega
      have hm : a % b < b := Nat.mod_lt _ (by omega)
      have e : (a : Int).fmod (b : Int) = ((a % b : Nat) : Int) := by rw [Int.fmod_eq_emod_of_nonneg _ (by omega)]; simp
      simp only [e_bcmp, e_bin, e_var, e_c, e_par, e_cons, e_call, e_nil, List.getElem?_cons_zero, List.getElem?_cons_succ, Option.bind_some, e_cmp, e_inti, h0, decide_true, if_true, e_modii (show (b : Int) ≠ 0 by omega), e, List.set_cons_zero, List.set_cons_succ]
      rw [ih b (a % b) (by omega)]
      rw [Nat.gcd_comm a b, Nat.gcd_rec b a, Nat.gcd_comm (a % b) b]
theorem common_ok {hd : Hd} {a b : Int} : D__law_frac_common [.int a, .int b] hd = some (.int (a.natAbs.gcd b.natAbs : Nat), hd) := by
  have ha : (if a < 0 then -a else a) = (a.natAbs : Int) := by split <;> omega
  have hb : (if b < 0 then -b else b) = (b.natAbs : Int) := by split <;> omega
  unfold D__law_frac_common
  rw [e_fn (n := 2) (by rfl)]
  unfold F__law_frac_common
  simp only [e_seq, e_par, e_cons, e_call, e_var, e_nil, e_while, List.map_cons, List.map_nil, List.replicate, List.append_nil, List.getElem?_cons_zero, List.getElem?_cons_succ, Option.bind_some, e_abs, List.set_cons_zero, List.set_cons_succ, ha, hb, fuel__law_frac_common]
  rw [gcd_loop]
  · simp
  · simp [fuelE, fuelD]; omega
theorem frac_ok {hd : Hd} {t b : Int} {n : Nat} [s : Sz b n] (hb : b ≠ 0) (hn : n ≤ 8000) : D__law_frac [.int t, .int b] hd = some (fr (Rat.divInt t b), hd) := by
  have sz := @gcd_sz t b n s hb
  have gp := gcd_pos_of (t := t) hb
  unfold D__law_frac
  rw [e_fn (n := 2) (by rfl)]
  unfold F__law_frac
  simp only [e_seq, e_asg, e_call, e_cons, e_nil, e_var, e_gnm, e_if, e_bcmp, e_bin, e_c, e_cmp, e_un, e_neg, e_ret, e_tup, List.map_cons, List.map_nil, List.replicate, List.cons_append, List.nil_append, List.getElem?_cons_zero, List.getElem?_cons_succ, Option.bind_some, List.set_cons_zero, List.set_cons_succ, common_ok, decide_eq_true_eq]
  by_cases h : 0 < b
  · simp only [if_pos h, Option.bind_some, List.getElem?_cons_zero, List.getElem?_cons_succ]
    rw [e_divii (n := n) (by omega) hn]
    simp only [Option.bind_some]
    rw [e_divii (n := n) (by omega) hn]
    rw [frac_num hb (if_pos h).symm, frac_den hb (if_pos h).symm]
    simp [fr]
  · simp only [if_neg h, Option.bind_some, List.getElem?_cons_zero, List.getElem?_cons_succ]
    rw [e_divii (n := n) (by omega) hn]
    simp only [Option.bind_some]
    rw [e_divii (n := n) (by omega) hn]
    rw [frac_num hb (if_neg h).symm, frac_den hb (if_neg h).symm]
    simp [fr]
theorem plus_ok {hd : Hd} {r s : Rat} {a b : Nat} [x : Bq r a] [y : Bq s b] (h : (decide (a ≤ 3000) && decide (b ≤ 3000)) = true) : D__law_frac_plus [fr r, fr s] hd = some (fr (r + s), hd) := by
  simp only [Bool.and_eq_true, decide_eq_true_eq] at h
  unfold D__law_frac_plus
  rw [e_fn (n := 2) (by rfl)]
  unfold F__law_frac_plus fr
  simp (disch := (simp; omega)) only [e_ret, e_call, e_cons, e_nil, e_bin, e_var, e_c, e_ixt, at0, at1, e_mulii, e_addii, List.map_cons, List.map_nil, List.replicate, List.append_nil, List.getElem?_cons_zero, List.getElem?_cons_succ, Option.bind_some, Option.map_some]
  rw [frac_ok (n := a + b) (den_mul_ne r s) (by omega), divInt_add]
  simp [fr]
theorem times_ok {hd : Hd} {r s : Rat} {a b : Nat} [x : Bq r a] [y : Bq s b] (h : (decide (a ≤ 3000) && decide (b ≤ 3000)) = true) : D__law_frac_times [fr r, fr s] hd = some (fr (r * s), hd) := by
  simp only [Bool.and_eq_true, decide_eq_true_eq] at h
  unfold D__law_frac_times
  rw [e_fn (n := 2) (by rfl)]
  unfold F__law_frac_times fr
  simp (disch := (simp; omega)) only [e_ret, e_call, e_cons, e_nil, e_bin, e_var, e_c, e_ixt, at0, at1, e_mulii, List.map_cons, List.map_nil, List.replicate, List.append_nil, List.getElem?_cons_zero, List.getElem?_cons_succ, Option.bind_some, Option.map_some]
  rw [frac_ok (n := a + b) (den_mul_ne r s) (by omega), divInt_mul]
  simp [fr]
theorem told_ok {hd : Hd} {x y : Rat} {a b : Nat} [r : Bq x a] [s : Bq y b] (h : (decide (a ≤ 3000) && decide (b ≤ 3000)) = true) : D__law_point_told [pt x y] hd = some (hp x y, hd) := by
  simp only [Bool.and_eq_true, decide_eq_true_eq] at h
  have gp := hG_pos x y
  have eg : ((x.den : Int).natAbs.gcd (y.den : Int).natAbs : Nat) = hG x y := by simp [hG]
  have g0 : ((hG x y : Nat) : Int) ≠ 0 := by omega
  have sg : Sz ((hG x y : Nat) : Int) b := ⟨by
    rw [Int.natAbs_natCast]
    exact Nat.lt_of_le_of_lt (Nat.le_of_dvd y.den_pos (Nat.gcd_dvd_right _ _)) s.den⟩
  have d1 : (y.den : Int).fdiv (hG x y : Nat) = ((y.den / hG x y : Nat) : Int) := by rw [Int.fdiv_eq_ediv_of_nonneg _ (by omega)]; simp
  have d2 : (x.den : Int).fdiv (hG x y : Nat) = ((x.den / hG x y : Nat) : Int) := by rw [Int.fdiv_eq_ediv_of_nonneg _ (by omega)]; simp
  have z1 : Sz ((y.den / hG x y : Nat) : Int) b := ⟨by rw [Int.natAbs_natCast]; exact Nat.lt_of_le_of_lt (Nat.div_le_self _ _) s.den⟩
  have z2 : Sz ((x.den / hG x y : Nat) : Int) a := ⟨by rw [Int.natAbs_natCast]; exact Nat.lt_of_le_of_lt (Nat.div_le_self _ _) r.den⟩
  unfold D__law_point_told
  rw [e_fn (n := 1) (by rfl)]
  unfold F__law_point_told pt fr
  simp only [e_seq, e_asg, e_call, e_cons, e_nil, e_var, e_gtp, e_gscons, e_gsnil, e_gnm, e_ret, e_tup, e_bin, List.map_cons, List.map_nil, List.replicate, List.cons_append, List.nil_append, List.getElem?_cons_zero, List.getElem?_cons_succ, Option.bind_some, List.set_cons_zero, List.set_cons_succ, common_ok, eg]
  simp (disch := (first | assumption | omega | (simp; omega))) only [e_divii (n := b) g0, d1, d2, Option.bind_some, e_mulii]
  simp [hp, hX, hY, hB]
theorem turn_ok {hd : Hd} {ax ay bx by_ cx cy : Rat} {a b c d e f : Nat} [Bq ax a] [Bq ay b] [Bq bx c] [Bq by_ d] [Bq cx e] [Bq cy f] (h : (decide (a ≤ 1500) && decide (b ≤ 1500) && decide (c ≤ 1500) && decide (d ≤ 1500) && decide (e ≤ 1500) && decide (f ≤ 1500)) = true) :
    D_turn [hp ax ay, hp bx by_, hp cx cy] hd = some (.int (sg (crs ax ay bx by_ cx cy)), hd) := by
  simp only [Bool.and_eq_true, decide_eq_true_eq] at h
  have key := det_sg ax ay bx by_ cx cy
  unfold detI at key
  unfold D_turn
  rw [e_fn (n := 3) (by rfl)]
  unfold F_turn hp
  simp (disch := (first | omega | (simp; omega))) only [e_seq, e_asg, e_gnm, e_ret, e_ifs, e_skip, e_bcmp, e_if, e_un, e_neg, e_bin, e_var, e_c, e_ixt, at0, at1, at2, e_mulii, e_subii, e_addii, e_eqii, e_cmp, List.map_cons, List.map_nil, List.replicate, List.cons_append, List.nil_append, List.getElem?_cons_zero, List.getElem?_cons_succ, List.set_cons_zero, List.set_cons_succ, Option.bind_some, Option.map_some]
  generalize hX ax ay * (hY bx by_ * hB cx cy - hB bx by_ * hY cx cy) - hY ax ay * (hX bx by_ * hB cx cy - hB bx by_ * hX cx cy) + hB ax ay * (hX bx by_ * hY cx cy - hY bx by_ * hX cx cy) = T at *
  by_cases h0 : T = 0
  · simp [h0] at key ⊢; exact key
  · by_cases h1 : 0 < T
    · simp [h0, h1] at key ⊢; exact key
    · simp [h0, h1] at key ⊢; exact key
theorem iswn_ok {hd : Hd} {i : Int} : D_is_whole_number [.int i] hd = some (.bl true, hd) := by
  unfold D_is_whole_number
  rw [e_fn (n := 1) (by rfl)]
  unfold F_is_whole_number
  simp
theorem areint3_ok {hd : Hd} {i j k : Int} : D_are_integers [.tup [.int i, .int j, .int k], .int 3] hd = some (.bl true, hd ++ [.lst [.bl true, .bl true, .bl true]]) := by
  unfold D_are_integers
  rw [e_fn (n := 2) (by rfl)]
  unfold F_are_integers
  simp [iswn_ok]
theorem ispoint_ok {hd : Hd} {x y : Rat} : D_is_point [hp x y] hd = some (.bl true, hd ++ [.lst [.bl true, .bl true, .bl true]]) := by
  have h1 := hB_pos x y
  have h2 : decide (1 ≤ hB x y) = true := decide_eq_true (by omega)
  unfold D_is_point
  rw [e_fn (n := 1) (by rfl)]
  unfold F_is_point hp
  simp [areint3_ok, h2, hp_gcd]
theorem check1_ok {hd : Hd} {x y : Rat} {ds : List D} {env : Ev} {v : D} {p : Option D} : forL [] (gNm 1) (mIfS (bNot (bTru (mCall D_is_point (mCons (mVar 1) mNil)))) mNone mSkip) (hp x y :: ds) [some v, p] hd = forL [] (gNm 1) (mIfS (bNot (bTru (mCall D_is_point (mCons (mVar 1) mNil)))) mNone mSkip) ds [some v, some (hp x y)] (hd ++ [.lst [.bl true, .bl true, .bl true]]) := by
  rw [e_for1 keep_nil]
  simp [ispoint_ok]
theorem check2_ok {hd : Hd} {x y u v : Rat} : ∃ l1 l2, D_check_points [.tup [hp x y, hp u v]] hd = some (.non, hd ++ [l1, l2]) := by
  refine ⟨.lst [.bl true, .bl true, .bl true], .lst [.bl true, .bl true, .bl true], ?_⟩
  unfold D_check_points
  rw [e_fn (n := 1) (by rfl)]
  unfold F_check_points
  simp only [e_for, e_iseq_tup, e_var, List.map_cons, List.map_nil, List.replicate, List.cons_append, List.nil_append, List.getElem?_cons_zero, List.getElem?_cons_succ, Option.bind_some]
  rw [check1_ok (env := []), check1_ok (env := []), e_for0 keep_nil]
  simp only [Option.bind_some, List.append_assoc, List.cons_append, List.nil_append]
theorem check3_ok {hd : Hd} {x y u v s t : Rat} : ∃ l1 l2 l3, D_check_points [.tup [hp x y, hp u v, hp s t]] hd = some (.non, hd ++ [l1, l2, l3]) := by
  refine ⟨.lst [.bl true, .bl true, .bl true], .lst [.bl true, .bl true, .bl true], .lst [.bl true, .bl true, .bl true], ?_⟩
  unfold D_check_points
  rw [e_fn (n := 1) (by rfl)]
  unfold F_check_points
  simp only [e_for, e_iseq_tup, e_var, List.map_cons, List.map_nil, List.replicate, List.cons_append, List.nil_append, List.getElem?_cons_zero, List.getElem?_cons_succ, Option.bind_some]
  rw [check1_ok (env := []), check1_ok (env := []), check1_ok (env := []), e_for0 keep_nil]
  simp only [Option.bind_some, List.append_assoc, List.cons_append, List.nil_append]
theorem side_ok {hd : Hd} {ax ay bx by_ cx cy : Rat} {a b c d e f : Nat} [Bq ax a] [Bq ay b] [Bq bx c] [Bq by_ d] [Bq cx e] [Bq cy f] (h : (decide (a ≤ 1500) && decide (b ≤ 1500) && decide (c ≤ 1500) && decide (d ≤ 1500) && decide (e ≤ 1500) && decide (f ≤ 1500)) = true) :
    ∃ l1 l2 l3, D_side [hp ax ay, hp bx by_, hp cx cy] hd = some (.int (sg (crs ax ay bx by_ cx cy)), hd ++ [l1, l2, l3]) := by
  obtain ⟨l1, l2, l3, e⟩ := check3_ok (hd := hd) (x := ax) (y := ay) (u := bx) (v := by_) (s := cx) (t := cy)
  refine ⟨l1, l2, l3, ?_⟩
  unfold D_side
  rw [e_fn (n := 3) (by rfl)]
  unfold F_side
  simp [e, turn_ok h]
theorem hpat_ok {hd : Hd} {X Y B : Int} {x y : Rat} {n : Nat} [s : Sz B n] (hn : n ≤ 8000) (hB0 : 0 < B) (ex : (X : Rat) = x * (B : Rat)) (ey : (Y : Rat) = y * (B : Rat)) : D_point_at [.int X, .int Y, .int B] hd = some (hp x y, hd) := by
  obtain ⟨g, hg⟩ : ∃ g, g = (((X.natAbs.gcd Y.natAbs).gcd B.natAbs : Nat) : Int) := ⟨_, rfl⟩
  obtain ⟨c1, c2, c3, c4⟩ := canon hB0 ex ey hg
  have sz : Sz g n := ⟨by
    have h1 : g.natAbs ≤ B.natAbs := by rw [hg, Int.natAbs_natCast]; exact Nat.le_of_dvd (by omega) (Nat.gcd_dvd_right _ _)
    have := s.h
    omega⟩
  have g0 : g ≠ 0 := by omega
  unfold D_point_at
  rw [e_fn (n := 3) (by rfl)]
  unfold F_point_at
  simp only [e_seq, e_asg, e_gnm, e_ifs, e_bcmp, e_skip, e_un, e_neg, e_ret, e_tup, e_call, e_cons, e_nil, e_var, e_bin, e_c, e_cmp, e_gcd3, ← hg, List.map_cons, List.map_nil, List.replicate, List.cons_append, List.nil_append, List.getElem?_cons_zero, List.getElem?_cons_succ, List.set_cons_zero, List.set_cons_succ, Option.bind_some, show ¬ B < 0 by omega, decide_false, Bool.false_eq_true, if_false]
  simp only [e_divii (n := n) g0 hn, Option.bind_some, fdiv_exact g0 c1, fdiv_exact g0 c2, fdiv_exact g0 c3]
  simp [hp]
theorem pbtw_ok {hd : Hd} {x y u v s : Rat} {a b c d e : Nat} [Bq x a] [Bq y b] [Bq u c] [Bq v d] [Bq s e] (h : (decide (a ≤ 1000) && decide (b ≤ 1000) && decide (c ≤ 1000) && decide (d ≤ 1000) && decide (e ≤ 1000)) = true) :
    D_point_between [hp x y, hp u v, fr s] hd = some (hp (x + s * (u - x)) (y + s * (v - y)), hd) := by
  simp only [Bool.and_eq_true, decide_eq_true_eq] at h
  have p1 := hB_pos x y
  have p2 := hB_pos u v
  have p3 : (0 : Int) < (s.den : Int) := by have := s.den_pos; omega
  have h1 := hX_eq x y
  have h2 := hY_eq x y
  have h3 := hX_eq u v
  have h4 := hY_eq u v
  have h5 := cast_num s
  have h6 : ((s.den : Int) : Rat) = (s.den : Rat) := rfl
  unfold D_point_between
  rw [e_fn (n := 3) (by rfl)]
  unfold F_point_between hp fr
  simp (disch := (first | omega | (simp; omega))) only [e_seq, e_asg, e_gnm, e_ret, e_call, e_cons, e_nil, e_bin, e_var, e_c, e_ixt, at0, at1, at2, e_mulii, e_subii, e_addii, List.map_cons, List.map_nil, List.replicate, List.cons_append, List.nil_append, List.getElem?_cons_zero, List.getElem?_cons_succ, List.set_cons_zero, List.set_cons_succ, Option.bind_some, Option.map_some]
  rw [hpat_ok (x := x + s * (u - x)) (y := y + s * (v - y)) (n := (a + b) + (c + d) + e) (by omega) (Int.mul_pos (Int.mul_pos p1 p2) p3) ?ex ?ey]
  · simp [hp]
  · simp only [Rat.intCast_add, Rat.intCast_sub, Rat.intCast_mul, h1, h3, h5, h6]; grind
  · simp only [Rat.intCast_add, Rat.intCast_sub, Rat.intCast_mul, h2, h4, h5, h6]; grind
theorem areint2_ok {hd : Hd} {i j : Int} : D_are_integers [.tup [.int i, .int j], .int 2] hd = some (.bl true, hd ++ [.lst [.bl true, .bl true]]) := by
  unfold D_are_integers
  rw [e_fn (n := 2) (by rfl)]
  unfold F_are_integers
  simp [iswn_ok]
theorem isshare_ok {hd : Hd} {s : Rat} (h0 : 0 ≤ s) (h1 : s ≤ 1) : D_is_share [fr s] hd = some (.bl true, hd ++ [.lst [.bl true, .bl true]]) := by
  have d1 : (1 : Int) ≤ (s.den : Int) := by have := s.den_pos; omega
  have n0 : (0 : Int) ≤ s.num := Rat.num_nonneg.mpr h0
  have n1 : s.num ≤ (s.den : Int) := by
    have := Rat.le_iff s 1
    rw [this] at h1
    simpa using h1
  have gc : s.num.natAbs.gcd s.den = 1 := s.reduced
  unfold D_is_share
  rw [e_fn (n := 1) (by rfl)]
  unfold F_is_share
  have e : D_is_fraction [fr s] hd = some (.bl true, hd ++ [.lst [.bl true, .bl true]]) := by
    unfold D_is_fraction
    rw [e_fn (n := 1) (by rfl)]
    unfold F_is_fraction fr
    simp [areint2_ok, d1, gc]
  unfold fr at e ⊢
  simp [e, n0, n1]
theorem btw_ok {hd : Hd} {x y u v s : Rat} {a b c d e : Nat} [Bq x a] [Bq y b] [Bq u c] [Bq v d] [Bq s e] (h : (decide (a ≤ 1000) && decide (b ≤ 1000) && decide (c ≤ 1000) && decide (d ≤ 1000) && decide (e ≤ 1000)) = true) (h0 : 0 ≤ s) (h1 : s ≤ 1) :
    ∃ l1 l2 l3, D_between [hp x y, hp u v, fr s] hd = some (hp (x + s * (u - x)) (y + s * (v - y)), hd ++ [l1, l2, l3]) := by
  obtain ⟨l1, l2, e2⟩ := check2_ok (hd := hd) (x := x) (y := y) (u := u) (v := v)
  refine ⟨l1, l2, .lst [.bl true, .bl true], ?_⟩
  unfold D_between
  rw [e_fn (n := 3) (by rfl)]
  unfold F_between
  simp [e2, isshare_ok h0 h1, pbtw_ok h]
instance szl0 : Sz 0 1 := ⟨by decide⟩
instance szl1 : Sz 1 1 := ⟨by decide⟩
instance szl2 : Sz 2 2 := ⟨by decide⟩
instance szl3 : Sz 3 2 := ⟨by decide⟩
instance szl4 : Sz 4 3 := ⟨by decide⟩
instance szl5 : Sz 5 3 := ⟨by decide⟩
instance szl6 : Sz 6 3 := ⟨by decide⟩
instance szl7 : Sz 7 3 := ⟨by decide⟩
instance szl9 : Sz 9 4 := ⟨by decide⟩
instance szl10 : Sz 10 4 := ⟨by decide⟩
instance szl13 : Sz 13 4 := ⟨by decide⟩
instance szl18 : Sz 18 5 := ⟨by decide⟩
instance szl60 : Sz 60 6 := ⟨by decide⟩
instance szl167 : Sz 167 8 := ⟨by decide⟩
instance szl202 : Sz 202 8 := ⟨by decide⟩
instance szl562 : Sz 562 10 := ⟨by decide⟩
instance szl604 : Sz 604 10 := ⟨by decide⟩
instance szl846 : Sz 846 10 := ⟨by decide⟩
instance szl1000 : Sz 1000 10 := ⟨by decide⟩
instance szl1314 : Sz 1314 11 := ⟨by decide⟩
instance szl8204 : Sz 8204 14 := ⟨by decide⟩
instance szl10614 : Sz 10614 14 := ⟨by decide⟩
instance szl73514 : Sz 73514 17 := ⟨by decide⟩
instance szl99548 : Sz 99548 17 := ⟨by decide⟩
instance szl1000003 : Sz 1000003 20 := ⟨by decide⟩
instance szl2147483563 : Sz 2147483563 31 := ⟨by decide⟩
instance szl2147483579 : Sz 2147483579 31 := ⟨by decide⟩
instance szl2147483587 : Sz 2147483587 31 := ⟨by decide⟩
instance szl2147483629 : Sz 2147483629 31 := ⟨by decide⟩
instance szl2147483647 : Sz 2147483647 31 := ⟨by decide⟩
instance szl2305843009213693907 : Sz 2305843009213693907 61 := ⟨by decide⟩
instance szl2305843009213693921 : Sz 2305843009213693921 61 := ⟨by decide⟩
instance szl2305843009213693951 : Sz 2305843009213693951 61 := ⟨by decide⟩
theorem take_ok {n c : Nat} {hd : Hd} {u : Int} (P : Pot n hd c) (hc : c ≤ 100000) (h0 : 0 < u) (h1 : u < 2 ^ 40) : ∃ d hd', D__law_take [.ref n, .int u] hd = some (.int d, hd') ∧ 0 ≤ d ∧ d < u ∧ Pot n hd' (c + 1) ∧ Kp n hd hd' := by
  obtain ⟨o, m, k, e, o0, o1, m0, m1, k0, k1⟩ := P.ex
  have hn := (List.getElem?_eq_some_iff.mp e).1
  have hl := lsOf_get e
  have su : Sz u 40 := sz_of (by omega) h1
  have u0 : u ≠ 0 := by omega
  by_cases ho : 0 < o
  · refine ⟨o.fmod u, hd.set n (.lst [.int (o.fdiv u), .int m, .int k]), ?_, fmod_lo h0, fmod_hi h0, ?_, .set⟩
    · unfold D__law_take
      rw [e_fn (n := 2) (by rfl)]
      unfold F__law_take
      simp [hl, e, ho, e_modii u0, e_divii u0 (show 40 ≤ 8000 by decide), ixN]
    · have := fdiv_nn o0 h0
      exact ⟨o.fdiv u, m, k, by rw [List.getElem?_set_self hn], this.1, by omega, m0, m1, k0, by omega⟩
  · have sk : Sz (k + 1) 20 := sz_of (by omega) (by omega)
    have sm : Sz m 62 := ⟨m1⟩
    obtain ⟨pr, hpr, p0, p1⟩ : ∃ pr : Int, atI [D.int 2147483647, .int 2147483629, .int 2147483587, .int 2147483579, .int 2147483563] ((k + 1).fmod 5) = some (.int pr) ∧ 0 < pr ∧ pr < 2 ^ 31 := by
      have a := @fmod_lo (k + 1) 5 (by decide)
      have b := @fmod_hi (k + 1) 5 (by decide)
      generalize (k + 1).fmod 5 = r at a b
      have : r = 0 ∨ r = 1 ∨ r = 2 ∨ r = 3 ∨ r = 4 := by omega
      rcases this with rfl | rfl | rfl | rfl | rfl
      · exact ⟨_, at0, by decide, by decide⟩
      · exact ⟨_, at1, by decide, by decide⟩
      · exact ⟨_, at2, by decide, by decide⟩
      · exact ⟨_, at3, by decide, by decide⟩
      · exact ⟨2147483563, by rw [show (4 : Int) = ((4 : Nat) : Int) from rfl, atI_at (by simp)]; rfl, by decide, by decide⟩
    generalize hh : hd.set n (.lst [.int o, .int m, .int (k + 1)]) = hd1
    have e1 : hd1[n]? = some (.lst [.int o, .int m, .int (k + 1)]) := by rw [← hh, List.getElem?_set_self hn]
    have n1 := (List.getElem?_eq_some_iff.mp e1).1
    generalize hg : hd1 ++ [.lst [D.int 2147483647, .int 2147483629, .int 2147483587, .int 2147483579, .int 2147483563]] = hd2
    have e2 : hd2[n]? = some (.lst [.int o, .int m, .int (k + 1)]) := by rw [← hg, List.getElem?_append_left n1]; exact e1
    have l1 := lsOf_get e1
    have l2 := lsOf_get e2
    have l3 : lsOf hd2 hd1.length = some [D.int 2147483647, .int 2147483629, .int 2147483587, .int 2147483579, .int 2147483563] := by rw [← hg]; exact e_ls_new
    have kp : Kp n hd hd2 := by rw [← hg, ← hh]; exact Kp.set.trans (.app _)
    have pot : Pot n hd2 (c + 1) := ⟨o, m, k + 1, e2, o0, o1, m0, m1, by omega, by omega⟩
    have q0 : pr ≠ 0 := by omega
    have main : ∃ d, D__law_take [.ref n, .int u] hd = some (.int (Int.fmod d u), hd2) := by
      unfold D__law_take
      rw [e_fn (n := 2) (by rfl)]
      unfold F__law_take
      simp only [e_seq, e_ifs, e_bcmp, e_bin, e_var, e_c, e_skip, e_ixr, hl, at0, at1, at2, e_cmp, ho, decide_false, Bool.false_eq_true, if_false, List.map_cons, List.map_nil, List.replicate, List.cons_append, List.nil_append, List.getElem?_cons_zero, List.getElem?_cons_succ, Option.bind_some, Option.map_some, e_asg, e_addii, e_gsb, e, ixN, List.length_cons, List.length_nil, e_gnm, e_lst, e_cons, e_nil, e_call, e_inti]
      simp only [show (0 : Int) ≤ 2 by decide, if_true, show (2 : Int) < ((0 + 1 + 1 + 1 : Nat) : Int) by decide, Option.map_some, Option.bind_some, show Int.toNat 2 = 2 from rfl, List.set_cons_zero, List.set_cons_succ, hh, l1, at2, at1, Option.map_some, Option.bind_some, show 0 + 1 + 1 + 1 + 1 + 1 ≤ 1000 by decide, if_true, hg, l2, l3, e_ixr, e_inti, e_modii (show (5 : Int) ≠ 0 by decide), hpr, List.getElem?_cons_zero, List.getElem?_cons_succ]
      simp (disch := (first | assumption | omega | decide | (simp; omega))) only [e_mulii, e_addii, Option.bind_some, Option.map_some, e_powii, e_inti, e_modii q0, e_ixr, l2, at0, at1, at2,  List.getElem?_cons_zero, List.getElem?_cons_succ, List.set_cons_zero, List.set_cons_succ]
      generalize hx : Int.fmod _ pr = x
      have x0 : 0 ≤ x := by rw [← hx]; exact fmod_lo p0
      have x1 : x < pr := by rw [← hx]; exact fmod_hi p0
      have sx : Sz x 31 := sz_of x0 (by omega)
      rw [e_modii (by decide)]
      simp only [Option.bind_some]
      generalize hy : Int.fmod x _ = y
      have y0 : 0 ≤ y := by rw [← hy]; exact fmod_lo (by decide)
      have y1 : y < 2 ^ 20 := by rw [← hy]; exact Int.lt_of_lt_of_le (fmod_hi (by decide)) (by decide)
      have sy : Sz y 20 := sz_of y0 y1
      simp (disch := (first | assumption | omega | decide | (simp; omega))) only [e_mulii, e_addii, Option.bind_some, Option.map_some, e_inti, e_ixr, l2, at0, at1, at2, e_modii, e_ret, e_bin, e_call, e_cons, e_nil, e_var, e_c, List.getElem?_cons_zero, List.getElem?_cons_succ, List.set_cons_zero, List.set_cons_succ]
      rw [e_divii (n := 8) (by decide) (by decide)]
      simp (disch := (first | assumption | omega | decide)) only [Option.bind_some, e_inti, e_modii]
      exact ⟨_, rfl⟩
    obtain ⟨d, hd_⟩ := main
    exact ⟨_, hd2, hd_, fmod_lo h0, fmod_hi h0, pot, kp⟩
theorem of_ok {n m c : Nat} {hd : Hd} {ds : List D} (P : Pot n hd c) (hc : c ≤ 100000) (hm : m ≠ n) (hl : lsOf hd m = some ds) (h0 : 0 < ds.length) (h1 : ds.length ≤ 1000) : ∃ d hd', D__law_of [.ref n, .ref m] hd = some (d, hd') ∧ d ∈ ds ∧ Pot n hd' (c + 1) ∧ Kp n hd hd' := by
  obtain ⟨i, hd', e, i0, i1, P', k⟩ := take_ok (u := ds.length) P hc (by omega) (by omega)
  have hl' := k.ls hm hl
  have hi : i.toNat < ds.length := by omega
  have ei : i = ((i.toNat : Nat) : Int) := by omega
  refine ⟨ds[i.toNat], hd', ?_, List.getElem_mem hi, P', k⟩
  have at' : atI ds i = some ds[i.toNat] := by
    have z := atI_at hi
    rw [← ei, List.getElem?_eq_getElem hi] at z
    exact z
  unfold D__law_of
  rw [e_fn (n := 2) (by rfl)]
  unfold F__law_of
  simp [hl, e, hl', at']
theorem bit01 {c : Bool} : 0 ≤ (if c = true then (1 : Int) else 0) ∧ (if c = true then (1 : Int) else 0) ≤ 1 := by cases c <;> decide
theorem p300 : ((10 : Int) ^ 60) ^ 5 = 10 ^ 300 := by rw [← Int.pow_mul]
theorem pot_ok {hd : Hd} {ns : List Int} {pl : Nat} (hp : pl ≤ 63) (hn : ns.length ≤ 63) : ∃ n hd', D__law_pot [.fls (ns.map .int), .int (pl : Nat)] hd = some (.ref n, hd') ∧ Pot n hd' 0 ∧ hd.length ≤ n ∧ ∃ l, hd' = hd ++ l := by
  have spl : Sz (pl : Nat) 6 := ⟨by rw [Int.natAbs_natCast]; omega⟩
  -- the cell
  have cell : ∃ (l : Hd) (x : Int), mIf (bCmp (mBin (cmpI fun i j => decide (i < j)) (mVar 1) (mCall lenD (mCons (mVar 0) mNil)))) (mBin idxD (mVar 0) (mVar 1)) (mBin addD (mBin addD (mBin modD (mCall sumD (mCons (mSl (mVar 0) oNone (oSome (mC (.int 1)))) mNil)) (mC (.int 1000003))) (mBin mulD (mC (.int 1314)) (mVar 1))) (mC (.int 604))) [some (.fls (ns.map .int)), some (.int (pl : Nat)), none, none, none] hd = some (.int x, hd ++ l) := by
    by_cases h : pl < ns.length
    · have h' : ((pl : Nat) : Int) < ((ns.length : Nat) : Int) := by omega
      refine ⟨[], ns[pl], ?_⟩
      simp only [e_if, e_bcmp, e_bin, e_var, e_call, e_cons, e_nil, e_lenf, List.getElem?_cons_zero, List.getElem?_cons_succ, Option.bind_some, e_cmp, List.length_map, h', decide_true, if_true, e_ixf]
      rw [atI_at (by simpa using h)]
      simp [h]
    · have h' : ¬ ((pl : Nat) : Int) < ((ns.length : Nat) : Int) := by omega
      refine ⟨[.lst ((ns.map D.int).take 1)], ?_⟩
      have cut : cutL (ns.map D.int) none (some 1) = (ns.map D.int).take 1 := by
        unfold cutL
        rw [HT.sIx_none, show (some (1 : Int)) = some ((1 : Nat) : Int) from rfl, HT.sIx_nat]
        cases ns <;> simp
      have hint : intsOf ((ns.map D.int).take 1) = some (ns.take 1) := by cases ns <;> simp [intsOf]
      simp (disch := (first | assumption | omega | decide)) only [e_if, e_bcmp, e_bin, e_var, e_c, e_call, e_cons, e_nil, e_lenf, List.getElem?_cons_zero, List.getElem?_cons_succ, Option.bind_some, e_cmp, List.length_map, h', decide_false, Bool.false_eq_true, if_false, e_sl, e_onone, e_osome, sliD, cut, sumD, e_ls_new, hint, Option.map_some, e_modii, e_mulii, e_addii]
      exact ⟨_, rfl⟩
  obtain ⟨l, x, ec⟩ := cell
  have sb : Sz (if (decide (((10 : Int) ^ (18 : Int).toNat) ≤ (if x < 0 then -x else x))) = true then (1 : Int) else 0) 1 := sz_of bit01.1 (Int.lt_of_le_of_lt bit01.2 (by decide))
  have p0 : (0 : Int) < ((10 : Int) ^ (60 : Int).toNat) ^ (5 : Int).toNat := by decide +kernel
  have pz : Sz ((10 : Int) ^ (60 : Int).toNat) 200 := ⟨by decide +kernel⟩
  generalize hX : Int.fmod (if x < 0 then -x else x) (((10 : Int) ^ (60 : Int).toNat) ^ (5 : Int).toNat) = X at *
  have X0 : 0 ≤ X := by rw [← hX]; exact fmod_lo p0
  have X1 : X < 2 ^ 999 := by rw [← hX]; exact Int.lt_of_lt_of_le (fmod_hi p0) (by decide +kernel)
  have sX : Sz X 999 := sz_of X0 X1
  generalize hB : (if (decide (((10 : Int) ^ (18 : Int).toNat) ≤ (if x < 0 then -x else x))) = true then (1 : Int) else 0) = b at *
  have b0 : 0 ≤ b := by rw [← hB]; exact bit01.1
  have b1 : b ≤ 1 := by rw [← hB]; exact bit01.2
  generalize hm : Int.fmod x 2305843009213693951 = y at *
  have y0 : 0 ≤ y := by rw [← hm]; exact fmod_lo (by decide)
  have y1 : y < 2 ^ 61 := by rw [← hm]; exact Int.lt_of_lt_of_le (fmod_hi (by decide)) (by decide)
  have sy : Sz y 61 := sz_of y0 y1
  have main : ∃ z, D__law_pot [.fls (ns.map .int), .int (pl : Nat)] hd = some (.ref (hd ++ l).length, (hd ++ l) ++ [.lst [.int (X * b), .int (Int.fmod z 2305843009213693921), .int 0]]) := by
    unfold D__law_pot
    rw [e_fn (n := 2) (by rfl)]
    unfold F__law_pot
    simp only [e_seq, e_asg, e_gnm, List.map_cons, List.map_nil, List.replicate, List.cons_append, List.nil_append, ec, Option.bind_some, List.set_cons_zero, List.set_cons_succ]
    simp (disch := (first | assumption | omega | decide)) only [e_bin, e_call, e_cons, e_nil, e_var, e_c, List.getElem?_cons_zero, List.getElem?_cons_succ, Option.bind_some, e_abs, e_inti, e_intb, e_powii, e_modii, e_cmp, hX, hB, e_mulii, List.set_cons_zero, List.set_cons_succ, hm, e_ret, e_lst, List.length_cons, List.length_nil, show 0 + 1 + 1 + 1 ≤ 1000 by decide, if_true, e_addii]
    exact ⟨_, rfl⟩
  obtain ⟨z, ez⟩ := main
  refine ⟨_, _, ez, ⟨X * b, Int.fmod z 2305843009213693921, 0, by rw [List.getElem?_append_right (Nat.le_refl _)]; simp, Int.mul_nonneg X0 b0, ?_, fmod_lo (by decide), ?_, Int.le_refl _, by simp⟩, by simp, l ++ [.lst [.int (X * b), .int (Int.fmod z 2305843009213693921), .int 0]], by rw [List.append_assoc]⟩
  · have s1 : Sz b 1 := sz_of b0 (by omega)
    exact (@szMul X b 999 1 sX s1).h
  · have h1 := @fmod_lo z 2305843009213693921 (by decide)
    have h2 := @fmod_hi z 2305843009213693921 (by decide)
    omega
theorem cells_ok {hd : Hd} {ns : List Int} {u : Nat} (hu : u ≤ 63) (hu0 : 1 ≤ u) : ∃ j : Nat, 1 ≤ j ∧ j ≤ u ∧ D__law_cells [.fls (ns.map .int), .int (u : Nat)] hd = some (.ref hd.length, hd ++ [.lst (rangeL 0 (j : Nat))]) := by
  refine ⟨max 1 (min u ns.length), by omega, by omega, ?_⟩
  unfold D__law_cells
  rw [e_fn (n := 2) (by rfl)]
  unfold F__law_cells
  have e : (if (if ((ns.length : Nat) : Int) < ((u : Nat) : Int) then ((ns.length : Nat) : Int) else ((u : Nat) : Int)) > 1 then (if ((ns.length : Nat) : Int) < ((u : Nat) : Int) then ((ns.length : Nat) : Int) else ((u : Nat) : Int)) else (1 : Int)) = ((max 1 (min u ns.length) : Nat) : Int) := by
    split <;> split <;> omega
  simp only [e_ret, mLstRg, rg1, e_call, e_cons, e_nil, e_var, e_c, List.map_cons, List.map_nil, List.replicate, List.append_nil, List.getElem?_cons_zero, List.getElem?_cons_succ, Option.bind_some, e_lenf, e_min2, e_max2, List.length_map]
  rw [e]
  rw [if_pos (by omega)]
  simp
abbrev P2 := Rat × Rat
class BP (p : P2) (n : outParam Nat) : Prop where
  x : Bq p.1 n
  y : Bq p.2 n
instance bpx {p : P2} {n : Nat} [b : BP p n] : Bq p.1 n := b.x
instance bpy {p : P2} {n : Nat} [b : BP p n] : Bq p.2 n := b.y
theorem BP.mono {p : P2} {n m : Nat} (b : BP p n) (h : n ≤ m) : BP p m := ⟨b.x.mono h, b.y.mono h⟩
def ltp (p q : P2) : Bool := decide (p.1 < q.1) || (decide (p.1 = q.1) && decide (p.2 < q.2))
def mn (p q : P2) : P2 := if ltp q p then q else p
def mx (p q : P2) : P2 := if ltp q p then p else q
instance bpMn {p q : P2} {n m : Nat} [a : BP p n] [b : BP q m] : BP (mn p q) (max n m) := by
  unfold mn; split
  · exact b.mono (Nat.le_max_right _ _)
  · exact a.mono (Nat.le_max_left _ _)
instance bpMx {p q : P2} {n m : Nat} [a : BP p n] [b : BP q m] : BP (mx p q) (max n m) := by
  unfold mx; split
  · exact a.mono (Nat.le_max_left _ _)
  · exact b.mono (Nat.le_max_right _ _)
theorem int_cmp {T : Int} {k r : Rat} (h : (T : Rat) = k * r) (hk : 0 < k) : (T = 0 ↔ r = 0) ∧ (T < 0 ↔ r < 0) ∧ (0 < T ↔ 0 < r) := by
  have e0 : T = 0 ↔ (T : Rat) = 0 := by
    constructor
    · intro h; rw [h]; rfl
    · intro h; exact Rat.intCast_inj.mp (h.trans (by rfl))
  have e1 : T < 0 ↔ (T : Rat) < 0 := (@Rat.intCast_lt_intCast T 0).symm
  have e2 : 0 < T ↔ (0 : Rat) < (T : Rat) := (@Rat.intCast_lt_intCast 0 T).symm
  have key := int_sg h hk
  unfold sg at key
  by_cases a : T = 0
  · subst a
    simp at key
    by_cases b : r = 0
    · subst b; simp
    · by_cases c : 0 < r <;> simp [b, c] at key
  · by_cases c : 0 < T
    · simp [a, c] at key
      by_cases b : r = 0
      · simp [b] at key
      · by_cases d : 0 < r
        · refine ⟨by simp [a, b], ?_, by simp [c, d]⟩
          constructor
          · intro h; omega
          · intro h; grind
        · simp [b, d] at key
    · simp [a, c] at key
      by_cases b : r = 0
      · simp [b] at key
      · by_cases d : 0 < r
        · simp [b, d] at key
        · refine ⟨by simp [a, b], ?_, by simp [c, d]⟩
          constructor
          · intro _; grind
          · intro _; omega
theorem ahead_ok {hd : Hd} {p q : P2} {n m : Nat} [BP p n] [BP q m] (h : (decide (n ≤ 3000) && decide (m ≤ 3000)) = true) : D_is_ahead [hp p.1 p.2, hp q.1 q.2] hd = some (.bl (ltp p q), hd) := by
  simp only [Bool.and_eq_true, decide_eq_true_eq] at h
  have p1 := int_pos_rat (hB_pos p.1 p.2)
  have p2 := int_pos_rat (hB_pos q.1 q.2)
  have k0 : (0 : Rat) < (hB p.1 p.2 : Rat) * (hB q.1 q.2 : Rat) := Rat.mul_pos p1 p2
  obtain ⟨c1, c2, _⟩ := int_cmp (T := hX p.1 p.2 * hB q.1 q.2 - hX q.1 q.2 * hB p.1 p.2) (k := (hB p.1 p.2 : Rat) * (hB q.1 q.2 : Rat)) (r := p.1 - q.1) (by rw [Rat.intCast_sub, Rat.intCast_mul, Rat.intCast_mul, hX_eq, hX_eq]; grind) k0
  obtain ⟨_, d2, _⟩ := int_cmp (T := hY p.1 p.2 * hB q.1 q.2 - hY q.1 q.2 * hB p.1 p.2) (k := (hB p.1 p.2 : Rat) * (hB q.1 q.2 : Rat)) (r := p.2 - q.2) (by rw [Rat.intCast_sub, Rat.intCast_mul, Rat.intCast_mul, hY_eq, hY_eq]; grind) k0
  unfold D_is_ahead
  rw [e_fn (n := 2) (by rfl)]
  unfold F_is_ahead hp
  simp (disch := (first | omega | (simp; omega))) only [e_seq, e_asg, e_gnm, e_ret, e_ifs, e_skip, e_bcmp, e_bin, e_var, e_c, e_ixt, at0, at1, at2, e_mulii, e_subii, e_neii, e_cmp, List.map_cons, List.map_nil, List.replicate, List.cons_append, List.nil_append, List.getElem?_cons_zero, List.getElem?_cons_succ, List.set_cons_zero, List.set_cons_succ, Option.bind_some, Option.map_some]
  generalize hX p.1 p.2 * hB q.1 q.2 - hX q.1 q.2 * hB p.1 p.2 = T at *
  have e3 : (hY p.1 p.2 * hB q.1 q.2 < hY q.1 q.2 * hB p.1 p.2) ↔ p.2 < q.2 := by
    have : (hY p.1 p.2 * hB q.1 q.2 < hY q.1 q.2 * hB p.1 p.2) ↔ hY p.1 p.2 * hB q.1 q.2 - hY q.1 q.2 * hB p.1 p.2 < 0 := by omega
    rw [this, d2]
    constructor <;> intro h <;> grind
  by_cases h0 : T = 0
  · have e : p.1 = q.1 := by have := c1.mp h0; grind
    have n : ¬ p.1 < q.1 := by grind
    simp (disch := (first | omega | (simp; omega))) only [h0, beq_self_eq_true, Bool.not_true, Bool.false_eq_true, if_false, e_seq, e_asg, e_gnm, e_ret, e_ifs, e_skip, e_bcmp, e_bin, e_var, e_c, e_ixt, at0, at1, at2, List.getElem?_cons_zero, List.getElem?_cons_succ, List.set_cons_zero, List.set_cons_succ, Option.bind_some, Option.map_some, e_mulii, e_cmp, e3]
    simp [ltp, e, show ¬ q.1 < q.1 by grind]
  · have e : ¬ p.1 = q.1 := fun e => h0 (c1.mpr (by grind))
    have e' : (T < 0) ↔ p.1 < q.1 := by rw [c2]; constructor <;> intro h <;> grind
    have b : (!(T == 0)) = true := by simp [h0]
    simp only [b, if_true, ltp, e, e', decide_false, Bool.false_and, Bool.or_false, Option.bind_some]
theorem first_ok {hd : Hd} {p q : P2} {n m : Nat} [BP p n] [BP q m] (h : (decide (n ≤ 3000) && decide (m ≤ 3000)) = true) : D_first_of [hp p.1 p.2, hp q.1 q.2] hd = some (hp (mn p q).1 (mn p q).2, hd) := by
  unfold D_first_of
  rw [e_fn (n := 2) (by rfl)]
  unfold F_first_of mn
  have h' : (decide (m ≤ 3000) && decide (n ≤ 3000)) = true := by rw [Bool.and_comm]; exact h
  have e := ahead_ok (hd := hd) (p := q) (q := p) h'
  simp only [e_ret, e_if, e_btru, e_call, e_cons, e_nil, e_var, e, e_tru_bl, List.map_cons, List.map_nil, List.replicate, List.append_nil, List.getElem?_cons_zero, List.getElem?_cons_succ, Option.bind_some, Option.map_some]
  by_cases c : ltp q p = true <;> simp [c]
theorem last_ok {hd : Hd} {p q : P2} {n m : Nat} [BP p n] [BP q m] (h : (decide (n ≤ 3000) && decide (m ≤ 3000)) = true) : D_last_of [hp p.1 p.2, hp q.1 q.2] hd = some (hp (mx p q).1 (mx p q).2, hd) := by
  unfold D_last_of
  rw [e_fn (n := 2) (by rfl)]
  unfold F_last_of mx
  have h' : (decide (m ≤ 3000) && decide (n ≤ 3000)) = true := by rw [Bool.and_comm]; exact h
  have e := ahead_ok (hd := hd) (p := q) (q := p) h'
  simp only [e_ret, e_if, e_btru, e_call, e_cons, e_nil, e_var, e, e_tru_bl, List.map_cons, List.map_nil, List.replicate, List.append_nil, List.getElem?_cons_zero, List.getElem?_cons_succ, Option.bind_some, Option.map_some]
  by_cases c : ltp q p = true <;> simp [c]
theorem hp_inj {x y u v : Rat} (h : hX x y = hX u v ∧ hY x y = hY u v ∧ hB x y = hB u v) : x = u ∧ y = v := by
  obtain ⟨h1, h2, h3⟩ := h
  have p1 := int_pos_rat (hB_pos u v)
  have a1 := hX_eq x y
  have a2 := hY_eq x y
  have a3 := hX_eq u v
  have a4 := hY_eq u v
  rw [h1, h3, a3] at a1
  rw [h2, h3, a4] at a2
  have ne : (hB u v : Rat) ≠ 0 := by grind
  constructor
  · have : (hB u v : Rat) * (x - u) = 0 := by grind
    rcases Rat.mul_eq_zero.mp this with h | h <;> grind
  · have : (hB u v : Rat) * (y - v) = 0 := by grind
    rcases Rat.mul_eq_zero.mp this with h | h <;> grind
theorem eq_hp {hd : Hd} {p q : P2} : eqD (hp p.1 p.2) (hp q.1 q.2) hd = some (.bl (decide (p = q)), hd) := by
  have e : (decide (p = q)) = (hX p.1 p.2 == hX q.1 q.2 && (hY p.1 p.2 == hY q.1 q.2 && hB p.1 p.2 == hB q.1 q.2)) := by
    by_cases h : p = q
    · subst h; simp
    · have : ¬ (hX p.1 p.2 = hX q.1 q.2 ∧ hY p.1 p.2 = hY q.1 q.2 ∧ hB p.1 p.2 = hB q.1 q.2) := fun k => h (Prod.ext (hp_inj k).1 (hp_inj k).2)
      rw [decide_eq_false h]
      symm
      by_cases a : hX p.1 p.2 = hX q.1 q.2 <;> by_cases b : hY p.1 p.2 = hY q.1 q.2 <;> by_cases c : hB p.1 p.2 = hB q.1 q.2 <;> simp_all
  rw [e]
  simp [eqD, strsOf, hp, toPy, optL, PyData.eqv, PyData.eqvAll]
inductive V where
  | none | along | touch (p : P2) | cross (p : P2)
def vD : V → D
  | .none => .tup [.str "none"]
  | .along => .tup [.str "along"]
  | .touch p => .tup [.str "touch", hp p.1 p.2]
  | .cross p => .tup [.str "cross", hp p.1 p.2]
def inl (a b c d : P2) : V := if mx (mn a b) (mn c d) = mn (mx a b) (mx c d) then .touch (mx (mn a b) (mn c d)) else if ltp (mx (mn a b) (mn c d)) (mn (mx a b) (mx c d)) = true then .along else .none
theorem inl_ok {hd : Hd} {a b c d : P2} {k : Nat} [BP a k] [BP b k] [BP c k] [BP d k] (h : (decide (k ≤ 3000)) = true) : D_meeting_in_line [hp a.1 a.2, hp b.1 b.2, hp c.1 c.2, hp d.1 d.2] hd = some (vD (inl a b c d), hd) := by
  have h' : k ≤ 3000 := of_decide_eq_true h
  unfold D_meeting_in_line
  rw [e_fn (n := 4) (by rfl)]
  unfold F_meeting_in_line inl
  simp (disch := (simp; omega)) only [e_seq, e_asg, e_gnm, e_ret, e_ifs, e_skip, e_bcmp, e_bin, e_call, e_cons, e_nil, e_var, e_c, e_if, e_btru, e_tup, first_ok, last_ok, ahead_ok, eq_hp, e_tru_bl, List.map_cons, List.map_nil, List.replicate, List.cons_append, List.nil_append, List.getElem?_cons_zero, List.getElem?_cons_succ, List.set_cons_zero, List.set_cons_succ, Option.bind_some, Option.map_some]
  by_cases c1 : mx (mn a b) (mn c d) = mn (mx a b) (mx c d)
  · rw [if_pos c1]
    simp [c1, vD]
  · rw [if_neg c1]
    simp (disch := (simp; omega)) only [c1, decide_false, Bool.false_eq_true, if_false, e_seq, e_asg, e_gnm, e_ret, e_ifs, e_skip, e_bcmp, e_bin, e_call, e_cons, e_nil, e_var, e_c, e_if, e_btru, e_tup, first_ok, last_ok, ahead_ok, eq_hp, e_tru_bl, List.getElem?_cons_zero, List.getElem?_cons_succ, List.set_cons_zero, List.set_cons_succ, Option.bind_some, Option.map_some]
    by_cases c2 : ltp (mx (mn a b) (mn c d)) (mn (mx a b) (mx c d)) = true <;> simp [c2, vD]
def cr (a b c : P2) : Rat := crs a.1 a.2 b.1 b.2 c.1 c.2
def dt (a b c d : P2) : Rat := (b.1 - a.1) * (d.2 - c.2) - (b.2 - a.2) * (d.1 - c.1)
def hh (a b c d : P2) : Rat := ((c.1 - a.1) * (d.2 - c.2) - (c.2 - a.2) * (d.1 - c.1)) / dt a b c d
def tt (a b c d : P2) : Rat := ((c.1 - a.1) * (b.2 - a.2) - (c.2 - a.2) * (b.1 - a.1)) / dt a b c d
def pp (a b c d : P2) : P2 := (a.1 + hh a b c d * (b.1 - a.1), a.2 + hh a b c d * (b.2 - a.2))
def mt (a b c d : P2) : V := if dt a b c d = 0 then (if cr a b c = 0 then inl a b c d else .none) else if ¬ (0 ≤ hh a b c d ∧ hh a b c d ≤ 1) ∨ ¬ (0 ≤ tt a b c d ∧ tt a b c d ≤ 1) then .none else if (0 < hh a b c d ∧ hh a b c d < 1) ∧ (0 < tt a b c d ∧ tt a b c d < 1) then .cross (pp a b c d) else .touch (pp a b c d)
def pm (a b c d : P2) : V :=
  if sg (cr a b c) = 0 ∧ sg (cr a b d) = 0 then inl a b c d else if 0 < sg (cr a b c) * sg (cr a b d) ∨ 0 < sg (cr c d a) * sg (cr c d b) then .none
  else if sg (cr a b c) = 0 then .touch c else if sg (cr a b d) = 0 then .touch d else if sg (cr c d a) = 0 then .touch a else if sg (cr c d b) = 0 then .touch b else .cross (pp a b c d)
theorem sg_zero {r : Rat} : sg r = 0 ↔ r = 0 := by
  unfold sg
  by_cases h : r = 0
  · simp [h]
  · by_cases k : 0 < r <;> simp [h, k]
theorem sg_cases (r : Rat) : (r = 0 ∧ sg r = 0) ∨ (0 < r ∧ sg r = 1) ∨ (r < 0 ∧ sg r = -1) := by
  unfold sg
  by_cases h : r = 0
  · simp [h]
  · by_cases k : 0 < r
    · simp [h, k]
    · simp [h, k]; grind
theorem sg_mul (x y : Rat) : sg (x * y) = sg x * sg y := by
  rcases sg_cases x with ⟨h, e⟩ | ⟨h, e⟩ | ⟨h, e⟩ <;> rcases sg_cases y with ⟨k, f⟩ | ⟨k, f⟩ | ⟨k, f⟩
  · rw [e, f, sg_zero.mpr (by rw [h]; grind)]; rfl
  · rw [e, f, sg_zero.mpr (by rw [h]; grind)]; rfl
  · rw [e, f, sg_zero.mpr (by rw [h]; grind)]; rfl
  · rw [e, f, sg_zero.mpr (by rw [k]; grind)]; rfl
  · have := Rat.mul_pos h k
    rw [e, f]; unfold sg; rw [if_neg (by grind), if_pos this]; rfl
  · have : x * y < 0 := by have := Rat.mul_pos h (show (0 : Rat) < -y by grind); grind
    rw [e, f]; unfold sg; rw [if_neg (by grind), if_neg (by grind)]; rfl
  · rw [e, f, sg_zero.mpr (by rw [k]; grind)]; rfl
  · have : x * y < 0 := by have := Rat.mul_pos (show (0 : Rat) < -x by grind) k; grind
    rw [e, f]; unfold sg; rw [if_neg (by grind), if_neg (by grind)]; rfl
  · have : 0 < x * y := by have := Rat.mul_pos (show (0 : Rat) < -x by grind) (show (0 : Rat) < -y by grind); grind
    rw [e, f]; unfold sg; rw [if_neg (by grind), if_pos this]; rfl
theorem hh_mul {a b c d : P2} (h : dt a b c d ≠ 0) : hh a b c d * dt a b c d = (c.1 - a.1) * (d.2 - c.2) - (c.2 - a.2) * (d.1 - c.1) := by
  unfold hh; exact Rat.div_mul_cancel h
theorem tt_mul {a b c d : P2} (h : dt a b c d ≠ 0) : tt a b c d * dt a b c d = (c.1 - a.1) * (b.2 - a.2) - (c.2 - a.2) * (b.1 - a.1) := by
  unfold tt; exact Rat.div_mul_cancel h
theorem pp_other {a b c d : P2} (h : dt a b c d ≠ 0) : pp a b c d = (c.1 + tt a b c d * (d.1 - c.1), c.2 + tt a b c d * (d.2 - c.2)) := by
  have h1 := hh_mul h
  have h2 := tt_mul h
  have k : ∀ {x y : Rat}, x * dt a b c d = y * dt a b c d → x = y := fun {x y} e => by
    have : (x - y) * dt a b c d = 0 := by grind
    rcases Rat.mul_eq_zero.mp this with h' | h'
    · grind
    · exact absurd h' h
  unfold pp
  refine Prod.ext (k ?_) (k ?_)
  · show (a.1 + hh a b c d * (b.1 - a.1)) * dt a b c d = (c.1 + tt a b c d * (d.1 - c.1)) * dt a b c d
    have e1 : (a.1 + hh a b c d * (b.1 - a.1)) * dt a b c d = a.1 * dt a b c d + (hh a b c d * dt a b c d) * (b.1 - a.1) := by grind
    have e2 : (c.1 + tt a b c d * (d.1 - c.1)) * dt a b c d = c.1 * dt a b c d + (tt a b c d * dt a b c d) * (d.1 - c.1) := by grind
    rw [e1, e2, h1, h2]; unfold dt; grind
  · show (a.2 + hh a b c d * (b.2 - a.2)) * dt a b c d = (c.2 + tt a b c d * (d.2 - c.2)) * dt a b c d
    have e1 : (a.2 + hh a b c d * (b.2 - a.2)) * dt a b c d = a.2 * dt a b c d + (hh a b c d * dt a b c d) * (b.2 - a.2) := by grind
    have e2 : (c.2 + tt a b c d * (d.2 - c.2)) * dt a b c d = c.2 * dt a b c d + (tt a b c d * dt a b c d) * (d.2 - c.2) := by grind
    rw [e1, e2, h1, h2]; unfold dt; grind
theorem sgT {x T : Rat} (h : T ≠ 0) : sg (x * T) = sg x * sg T ∧ (sg T = 1 ∨ sg T = -1) := ⟨sg_mul _ _, by rcases sg_cases T with ⟨k, _⟩ | ⟨_, k⟩ | ⟨_, k⟩ <;> simp_all⟩
theorem sg_sq {r : Rat} (h : ¬ r = 0) : 0 < sg r * sg r := by
  rcases sg_cases r with ⟨z, _⟩ | ⟨_, z⟩ | ⟨_, z⟩
  · exact absurd z h
  · rw [z]; decide
  · rw [z]; decide
/-- the program's looks tell the law's word -/
theorem pm_mt {a b c d : P2} (hab : a ≠ b) (hcd : c ≠ d) : pm a b c d = mt a b c d := by
  unfold pm mt
  by_cases h : dt a b c d = 0
  · have e : cr a b d = cr a b c := by unfold dt at h; unfold cr crs; grind
    rw [if_pos h, e]
    by_cases k : cr a b c = 0
    · rw [if_pos k, if_pos ⟨sg_zero.mpr k, sg_zero.mpr k⟩]
    · have k' : sg (cr a b c) ≠ 0 := fun x => k (sg_zero.mp x)
      rw [if_neg k, if_neg (fun x => k' x.1), if_pos (Or.inl (sg_sq k))]
  · rw [if_neg h]
    have h1 := hh_mul h
    have h2 := tt_mul h
    have po := pp_other h
    have o1 : cr a b c = (-tt a b c d) * dt a b c d := by rw [Rat.neg_mul, h2]; unfold cr crs; grind
    have o2 : cr a b d = (1 - tt a b c d) * dt a b c d := by
      have : (1 - tt a b c d) * dt a b c d = dt a b c d - tt a b c d * dt a b c d := by grind
      rw [this, h2]; unfold cr crs dt; grind
    have o3 : cr c d a = hh a b c d * dt a b c d := by rw [h1]; unfold cr crs; grind
    have o4 : cr c d b = (hh a b c d - 1) * dt a b c d := by
      have : (hh a b c d - 1) * dt a b c d = hh a b c d * dt a b c d - dt a b c d := by grind
      rw [this, h1]; unfold cr crs dt; grind
    obtain ⟨s1, st⟩ := sgT (x := -tt a b c d) h
    obtain ⟨s2, _⟩ := sgT (x := 1 - tt a b c d) h
    obtain ⟨s3, _⟩ := sgT (x := hh a b c d) h
    obtain ⟨s4, _⟩ := sgT (x := hh a b c d - 1) h
    rw [o1, o2, o3, o4, s1, s2, s3, s4]
    have pc : tt a b c d = 0 → pp a b c d = c := fun e => by rw [po, e]; exact Prod.ext (by grind) (by grind)
    have pd : tt a b c d = 1 → pp a b c d = d := fun e => by rw [po, e]; exact Prod.ext (by grind) (by grind)
    have pa : hh a b c d = 0 → pp a b c d = a := fun e => by unfold pp; rw [e]; exact Prod.ext (by grind) (by grind)
    have pb : hh a b c d = 1 → pp a b c d = b := fun e => by unfold pp; rw [e]; exact Prod.ext (by grind) (by grind)
    generalize hh a b c d = x at *
    generalize tt a b c d = t at *
    generalize pp a b c d = p at *
    clear h1 h2 po o1 o2 o3 o4 s1 s2 s3 s4
    have z : ∀ i : Int, (i * sg (dt a b c d) = 0 ↔ i = 0) := fun i => by rcases st with e | e <;> rw [e] <;> omega
    have y : ∀ i j : Int, i * sg (dt a b c d) * (j * sg (dt a b c d)) = i * j := fun i j => by rcases st with e | e <;> rw [e] <;> grind
    simp only [z, y]
    rcases sg_cases (-t) with ⟨q1, e1⟩ | ⟨q1, e1⟩ | ⟨q1, e1⟩ <;> rcases sg_cases (1 - t) with ⟨q2, e2⟩ | ⟨q2, e2⟩ | ⟨q2, e2⟩ <;> first
      | (exfalso; grind)
      | skip
    all_goals rcases sg_cases x with ⟨q3, e3⟩ | ⟨q3, e3⟩ | ⟨q3, e3⟩ <;> rcases sg_cases (x - 1) with ⟨q4, e4⟩ | ⟨q4, e4⟩ | ⟨q4, e4⟩ <;> first
      | (exfalso; grind)
      | skip
    all_goals rw [e1, e2, e3, e4]
    all_goals first
      | (rw [if_pos (show ¬(0 ≤ x ∧ x ≤ 1) ∨ ¬(0 ≤ t ∧ t ≤ 1) by grind)]; simp; done)
      | (rw [if_neg (show ¬ (¬(0 ≤ x ∧ x ≤ 1) ∨ ¬(0 ≤ t ∧ t ≤ 1)) by grind), if_pos (show (0 < x ∧ x < 1) ∧ 0 < t ∧ t < 1 by grind)]; simp; done)
      | (rw [if_neg (show ¬ (¬(0 ≤ x ∧ x ≤ 1) ∨ ¬(0 ≤ t ∧ t ≤ 1)) by grind), if_neg (show ¬ ((0 < x ∧ x < 1) ∧ 0 < t ∧ t < 1) by grind), pc (by grind)]; simp; done)
      | (rw [if_neg (show ¬ (¬(0 ≤ x ∧ x ≤ 1) ∨ ¬(0 ≤ t ∧ t ≤ 1)) by grind), if_neg (show ¬ ((0 < x ∧ x < 1) ∧ 0 < t ∧ t < 1) by grind), pd (by grind)]; simp; done)
      | (rw [if_neg (show ¬ (¬(0 ≤ x ∧ x ≤ 1) ∨ ¬(0 ≤ t ∧ t ≤ 1)) by grind), if_neg (show ¬ ((0 < x ∧ x < 1) ∧ 0 < t ∧ t < 1) by grind), pa (by grind)]; simp; done)
      | (rw [if_neg (show ¬ (¬(0 ≤ x ∧ x ≤ 1) ∨ ¬(0 ≤ t ∧ t ≤ 1)) by grind), if_neg (show ¬ ((0 < x ∧ x < 1) ∧ 0 < t ∧ t < 1) by grind), pb (by grind)]; simp; done)
theorem hpat2_ok {hd : Hd} {X Y B : Int} {x y : Rat} {n : Nat} [s : Sz B n] (hn : n ≤ 8000) (hB0 : B ≠ 0) (ex : (X : Rat) = x * (B : Rat)) (ey : (Y : Rat) = y * (B : Rat)) : D_point_at [.int X, .int Y, .int B] hd = some (hp x y, hd) := by
  obtain ⟨g, hg⟩ : ∃ g, g = (((X.natAbs.gcd Y.natAbs).gcd B.natAbs : Nat) : Int) := ⟨_, rfl⟩
  have sz : Sz g n := ⟨by
    have h1 : g.natAbs ≤ B.natAbs := by rw [hg, Int.natAbs_natCast]; exact Nat.le_of_dvd (by omega) (Nat.gcd_dvd_right _ _)
    have := s.h
    omega⟩
  by_cases hb : 0 < B
  · obtain ⟨c1, c2, c3, c4⟩ := canon hb ex ey hg
    have g0 : g ≠ 0 := by omega
    unfold D_point_at
    rw [e_fn (n := 3) (by rfl)]
    unfold F_point_at
    simp only [e_seq, e_asg, e_gnm, e_ifs, e_bcmp, e_skip, e_un, e_neg, e_ret, e_tup, e_call, e_cons, e_nil, e_var, e_bin, e_c, e_cmp, e_gcd3, ← hg, List.map_cons, List.map_nil, List.replicate, List.cons_append, List.nil_append, List.getElem?_cons_zero, List.getElem?_cons_succ, List.set_cons_zero, List.set_cons_succ, Option.bind_some, show ¬ B < 0 by omega, decide_false, Bool.false_eq_true, if_false]
    simp only [e_divii (n := n) g0 hn, Option.bind_some, fdiv_exact g0 c1, fdiv_exact g0 c2, fdiv_exact g0 c3]
    simp [hp]
  · have hb' : B < 0 := by omega
    obtain ⟨c1, c2, c3, c4⟩ := canon (X := -X) (Y := -Y) (B := -B) (x := x) (y := y) (by omega) (by rw [Rat.intCast_neg, Rat.intCast_neg, ex]; grind) (by rw [Rat.intCast_neg, Rat.intCast_neg, ey]; grind) (g := g) (by rw [hg]; simp)
    have g0 : -g ≠ 0 := by omega
    have d1 : X = -g * hX x y := by rw [Int.neg_mul, ← c1]; omega
    have d2 : Y = -g * hY x y := by rw [Int.neg_mul, ← c2]; omega
    have d3 : B = -g * hB x y := by rw [Int.neg_mul, ← c3]; omega
    unfold D_point_at
    rw [e_fn (n := 3) (by rfl)]
    unfold F_point_at
    simp only [e_seq, e_asg, e_gnm, e_ifs, e_bcmp, e_skip, e_un, e_neg, e_ret, e_tup, e_call, e_cons, e_nil, e_var, e_bin, e_c, e_cmp, e_gcd3, ← hg, List.map_cons, List.map_nil, List.replicate, List.cons_append, List.nil_append, List.getElem?_cons_zero, List.getElem?_cons_succ, List.set_cons_zero, List.set_cons_succ, Option.bind_some, hb', decide_true, if_true]
    simp only [e_divii (n := n) g0 hn, Option.bind_some]
    rw [fdiv_exact g0 d1, fdiv_exact g0 d2, fdiv_exact g0 d3]
    simp [hp]
theorem line_ok {hd : Hd} {a b c d e f : Int} {k l : Nat} [Sz a k] [Sz b k] [Sz c k] [Sz d l] [Sz e l] [Sz f l] (h : (decide (k ≤ 9000) && decide (l ≤ 9000)) = true) : D_line_through [.tup [.int a, .int b, .int c], .tup [.int d, .int e, .int f]] hd = some (.tup [.int (b * f - c * e), .int (c * d - a * f), .int (a * e - b * d)], hd) := by
  simp only [Bool.and_eq_true, decide_eq_true_eq] at h
  unfold D_line_through
  rw [e_fn (n := 2) (by rfl)]
  unfold F_line_through
  simp (disch := (first | omega | (simp; omega))) only [e_ret, e_tup, e_cons, e_nil, e_bin, e_var, e_c, e_ixt, at0, at1, at2, e_mulii, e_subii, List.map_cons, List.map_nil, List.replicate, List.append_nil, List.getElem?_cons_zero, List.getElem?_cons_succ, Option.bind_some, Option.map_some]
  simp
theorem Sz.up {x : Int} {n m : Nat} (s : Sz x n) (h : n ≤ m) : Sz x m := ⟨s.mono h⟩
theorem hsz {p : P2} {k : Nat} [b : BP p k] : Sz (hX p.1 p.2) (k + k) ∧ Sz (hY p.1 p.2) (k + k) ∧ Sz (hB p.1 p.2) (k + k) := ⟨inferInstance, inferInstance, inferInstance⟩
theorem common_pt {hd : Hd} {a b c d : P2} {k : Nat} [BP a k] [BP b k] [BP c k] [BP d k] (h : (decide (k ≤ 500)) = true) (ht : dt a b c d ≠ 0) : D_common_point [hp a.1 a.2, hp b.1 b.2, hp c.1 c.2, hp d.1 d.2] hd = some (hp (pp a b c d).1 (pp a b c d).2, hd) := by
  have h' : k ≤ 500 := of_decide_eq_true h
  obtain ⟨a1, a2, a3⟩ := hsz (p := a)
  obtain ⟨b1, b2, b3⟩ := hsz (p := b)
  obtain ⟨c1, c2, c3⟩ := hsz (p := c)
  obtain ⟨d1, d2, d3⟩ := hsz (p := d)
  have e1 := line_ok (hd := hd) (a := hX a.1 a.2) (b := hY a.1 a.2) (c := hB a.1 a.2) (d := hX b.1 b.2) (e := hY b.1 b.2) (f := hB b.1 b.2) (by simp; omega)
  have e2 := line_ok (hd := hd) (a := hX c.1 c.2) (b := hY c.1 c.2) (c := hB c.1 c.2) (d := hX d.1 d.2) (e := hY d.1 d.2) (f := hB d.1 d.2) (by simp; omega)
  have m : ∀ {x y u v : Int} [Sz x (k + k)] [Sz y (k + k)] [Sz u (k + k)] [Sz v (k + k)], Sz (x * y - u * v) (max (k + k + (k + k)) (k + k + (k + k)) + 1) := inferInstance
  have e3 := line_ok (hd := hd) (a := hY a.1 a.2 * hB b.1 b.2 - hB a.1 a.2 * hY b.1 b.2) (b := hB a.1 a.2 * hX b.1 b.2 - hX a.1 a.2 * hB b.1 b.2) (c := hX a.1 a.2 * hY b.1 b.2 - hY a.1 a.2 * hX b.1 b.2) (d := hY c.1 c.2 * hB d.1 d.2 - hB c.1 c.2 * hY d.1 d.2) (e := hB c.1 c.2 * hX d.1 d.2 - hX c.1 c.2 * hB d.1 d.2) (f := hX c.1 c.2 * hY d.1 d.2 - hY c.1 c.2 * hX d.1 d.2) (by simp; omega)
  have A1 := hX_eq a.1 a.2
  have A2 := hY_eq a.1 a.2
  have A0 := int_pos_rat (hB_pos a.1 a.2)
  have B1 := hX_eq b.1 b.2
  have B2 := hY_eq b.1 b.2
  have B0 := int_pos_rat (hB_pos b.1 b.2)
  have C1 := hX_eq c.1 c.2
  have C2 := hY_eq c.1 c.2
  have C0 := int_pos_rat (hB_pos c.1 c.2)
  have D1 := hX_eq d.1 d.2
  have D2 := hY_eq d.1 d.2
  have D0 := int_pos_rat (hB_pos d.1 d.2)
  have h1 := hh_mul ht
  have bot : (((hY a.1 a.2 * hB b.1 b.2 - hB a.1 a.2 * hY b.1 b.2) * (hB c.1 c.2 * hX d.1 d.2 - hX c.1 c.2 * hB d.1 d.2) - (hB a.1 a.2 * hX b.1 b.2 - hX a.1 a.2 * hB b.1 b.2) * (hY c.1 c.2 * hB d.1 d.2 - hB c.1 c.2 * hY d.1 d.2) : Int) : Rat) = ((hB a.1 a.2 : Rat) * (hB b.1 b.2 : Rat) * (hB c.1 c.2 : Rat) * (hB d.1 d.2 : Rat)) * dt a b c d := by
    simp only [Rat.intCast_sub, Rat.intCast_mul, A1, A2, B1, B2, C1, C2, D1, D2]
    unfold dt; grind
  have K0 : ((hB a.1 a.2 : Rat) * (hB b.1 b.2 : Rat) * (hB c.1 c.2 : Rat) * (hB d.1 d.2 : Rat)) ≠ 0 := by
    have := Rat.mul_pos (Rat.mul_pos (Rat.mul_pos A0 B0) C0) D0
    grind
  have bn : ((hY a.1 a.2 * hB b.1 b.2 - hB a.1 a.2 * hY b.1 b.2) * (hB c.1 c.2 * hX d.1 d.2 - hX c.1 c.2 * hB d.1 d.2) - (hB a.1 a.2 * hX b.1 b.2 - hX a.1 a.2 * hB b.1 b.2) * (hY c.1 c.2 * hB d.1 d.2 - hB c.1 c.2 * hY d.1 d.2) : Int) ≠ 0 := by
    intro z
    rw [z] at bot
    have : ((hB a.1 a.2 : Rat) * (hB b.1 b.2 : Rat) * (hB c.1 c.2 : Rat) * (hB d.1 d.2 : Rat)) * dt a b c d = 0 := by rw [← bot]; rfl
    rcases Rat.mul_eq_zero.mp this with q | q
    · exact K0 q
    · exact ht q
  have ptx : dt a b c d * (pp a b c d).1 = a.1 * dt a b c d + ((c.1 - a.1) * (d.2 - c.2) - (c.2 - a.2) * (d.1 - c.1)) * (b.1 - a.1) := by rw [← h1]; unfold pp; grind
  have pty : dt a b c d * (pp a b c d).2 = a.2 * dt a b c d + ((c.1 - a.1) * (d.2 - c.2) - (c.2 - a.2) * (d.1 - c.1)) * (b.2 - a.2) := by rw [← h1]; unfold pp; grind
  unfold D_common_point
  rw [e_fn (n := 4) (by rfl)]
  unfold F_common_point
  unfold hp
  simp only [e_seq, e_par, e_asg, e_ret, e_call, e_cons, e_nil, e_var, e_gtp, e_gscons, e_gsnil, e_gnm, List.map_cons, List.map_nil, List.replicate, List.cons_append, List.nil_append, List.getElem?_cons_zero, List.getElem?_cons_succ, List.set_cons_zero, List.set_cons_succ, Option.bind_some, e1, e2, e3]
  rw [hpat2_ok (x := (pp a b c d).1) (y := (pp a b c d).2) (n := max (max (k + k + (k + k)) (k + k + (k + k)) + 1 + (max (k + k + (k + k)) (k + k + (k + k)) + 1)) (max (k + k + (k + k)) (k + k + (k + k)) + 1 + (max (k + k + (k + k)) (k + k + (k + k)) + 1)) + 1) (by omega) bn ?ex ?ey]
  · simp [hp]
  · rw [bot]
    have : (pp a b c d).1 * (((hB a.1 a.2 : Rat) * (hB b.1 b.2 : Rat) * (hB c.1 c.2 : Rat) * (hB d.1 d.2 : Rat)) * dt a b c d) = ((hB a.1 a.2 : Rat) * (hB b.1 b.2 : Rat) * (hB c.1 c.2 : Rat) * (hB d.1 d.2 : Rat)) * (dt a b c d * (pp a b c d).1) := by grind
    rw [this, ptx]
    simp only [Rat.intCast_sub, Rat.intCast_mul, A1, A2, B1, B2, C1, C2, D1, D2]
    unfold dt; grind
  · rw [bot]
    have : (pp a b c d).2 * (((hB a.1 a.2 : Rat) * (hB b.1 b.2 : Rat) * (hB c.1 c.2 : Rat) * (hB d.1 d.2 : Rat)) * dt a b c d) = ((hB a.1 a.2 : Rat) * (hB b.1 b.2 : Rat) * (hB c.1 c.2 : Rat) * (hB d.1 d.2 : Rat)) * (dt a b c d * (pp a b c d).2) := by grind
    rw [this, pty]
    simp only [Rat.intCast_sub, Rat.intCast_mul, A1, A2, B1, B2, C1, C2, D1, D2]
    unfold dt; grind
theorem meeting_ok {hd : Hd} {a b c d : P2} {k : Nat} [BP a k] [BP b k] [BP c k] [BP d k] (h : (decide (k ≤ 500)) = true) (hab : a ≠ b) (hcd : c ≠ d) : D_meeting [hp a.1 a.2, hp b.1 b.2, hp c.1 c.2, hp d.1 d.2] hd = some (vD (mt a b c d), hd) := by
  have h' : k ≤ 500 := of_decide_eq_true h
  have e1 : ∀ hd : Hd, D_turn [hp a.1 a.2, hp b.1 b.2, hp c.1 c.2] hd = some (.int (sg (cr a b c)), hd) := fun hd => turn_ok (by simp; omega)
  have e2 : ∀ hd : Hd, D_turn [hp a.1 a.2, hp b.1 b.2, hp d.1 d.2] hd = some (.int (sg (cr a b d)), hd) := fun hd => turn_ok (by simp; omega)
  have e3 : ∀ hd : Hd, D_turn [hp c.1 c.2, hp d.1 d.2, hp a.1 a.2] hd = some (.int (sg (cr c d a)), hd) := fun hd => turn_ok (by simp; omega)
  have e4 : ∀ hd : Hd, D_turn [hp c.1 c.2, hp d.1 d.2, hp b.1 b.2] hd = some (.int (sg (cr c d b)), hd) := fun hd => turn_ok (by simp; omega)
  have s1 := sg_sz (cr a b c)
  have s2 := sg_sz (cr a b d)
  have s3 := sg_sz (cr c d a)
  have s4 := sg_sz (cr c d b)
  have e5 := inl_ok (hd := hd) (a := a) (b := b) (c := c) (d := d) (k := k) (by simp; omega)
  have e6 : ¬ (sg (cr a b c) = 0 ∧ sg (cr a b d) = 0) → ¬ 0 < sg (cr a b c) * sg (cr a b d) → D_common_point [hp a.1 a.2, hp b.1 b.2, hp c.1 c.2, hp d.1 d.2] hd = some (hp (pp a b c d).1 (pp a b c d).2, hd) := by
    intro n1 n2
    refine common_pt h fun z => ?_
    have e : cr a b d = cr a b c := by unfold dt at z; unfold cr crs; grind
    rw [e] at n1 n2
    exact n2 (sg_sq fun q => n1 ⟨sg_zero.mpr q, sg_zero.mpr q⟩)
  rw [← pm_mt hab hcd]
  unfold D_meeting
  rw [e_fn (n := 4) (by rfl)]
  unfold F_meeting pm
  generalize sg (cr a b c) = o1 at *
  generalize sg (cr a b d) = o2 at *
  generalize sg (cr c d a) = o3 at *
  generalize sg (cr c d b) = o4 at *
  simp only [e_seq, e_par, e_ret, e_call, e_cons, e_nil, e_var, e_c, e_ifs, e_skip, e_band, e_bor, e_bcmp, e_bin, List.map_cons, List.map_nil, List.replicate, List.cons_append, List.nil_append, List.getElem?_cons_zero, List.getElem?_cons_succ, List.set_cons_zero, List.set_cons_succ, Option.bind_some, e1, e2, e_eqii]
  by_cases c1 : o1 = 0 ∧ o2 = 0
  · rw [if_pos c1]
    obtain ⟨rfl, rfl⟩ := c1
    simp [e5]
  rw [if_neg c1]
  have q1 : (if (o1 == 0) = true then (some (o2 == 0, hd)) else some (false, hd)) = some (false, hd) := by
    by_cases z : o1 = 0
    · have z2 : ¬ o2 = 0 := fun y => c1 ⟨z, y⟩
      simp [z, z2]
    · simp [z]
  rw [q1]
  simp (disch := decide) only [Bool.false_eq_true, if_false, e_seq, e_par, e_ret, e_call, e_cons, e_nil, e_var, e_c, e_ifs, e_skip, e_band, e_bor, e_bcmp, e_bin, List.getElem?_cons_zero, List.getElem?_cons_succ, List.set_cons_zero, List.set_cons_succ, Option.bind_some, e3, e4, e_mulii, e_cmp]
  by_cases c2 : 0 < o1 * o2
  · rw [if_pos (Or.inl c2)]
    simp [c2, vD]
  by_cases c3 : 0 < o3 * o4
  · rw [if_pos (Or.inr c3)]
    simp [c2, c3, vD]
  rw [if_neg (show ¬ (0 < o1 * o2 ∨ 0 < o3 * o4) from fun x => x.elim c2 c3)]
  have e6' := e6 c1 c2
  simp (disch := decide) only [c2, c3, decide_false, Bool.false_eq_true, if_false, e_seq, e_ret, e_call, e_cons, e_nil, e_var, e_c, e_ifs, e_skip, e_bor, e_bcmp, e_bin, e_for, e_iseq_tup, e_tup, List.getElem?_cons_zero, List.getElem?_cons_succ, List.set_cons_zero, List.set_cons_succ, Option.bind_some, e_mulii, e_cmp, List.length_cons, List.length_nil, Nat.reduceAdd, Nat.reduceLeDiff, if_true]
  by_cases d1 : o1 = 0
  · rw [if_pos d1]
    rw [e_for1 keep_nil]
    simp [d1, vD]
  rw [if_neg d1, e_for1 keep_nil]
  by_cases d2 : o2 = 0
  · rw [if_pos d2]
    simp [d1, d2, vD, e_for1 keep_nil]
  rw [if_neg d2]
  by_cases d3 : o3 = 0
  · rw [if_pos d3]
    simp [d1, d2, d3, vD, e_for1 keep_nil]
  rw [if_neg d3]
  by_cases d4 : o4 = 0
  · rw [if_pos d4]
    simp [d1, d2, d3, d4, vD, e_for1 keep_nil]
  rw [if_neg d4]
  simp [d1, d2, d3, d4, vD, e_for1 keep_nil, e6']
theorem check4_ok {hd : Hd} {a b c d : P2} : ∃ l1 l2 l3 l4, D_check_points [.tup [hp a.1 a.2, hp b.1 b.2, hp c.1 c.2, hp d.1 d.2]] hd = some (.non, hd ++ [l1, l2, l3, l4]) := by
  refine ⟨.lst [.bl true, .bl true, .bl true], .lst [.bl true, .bl true, .bl true], .lst [.bl true, .bl true, .bl true], .lst [.bl true, .bl true, .bl true], ?_⟩
  unfold D_check_points
  rw [e_fn (n := 1) (by rfl)]
  unfold F_check_points
  simp only [e_for, e_iseq_tup, e_var, List.map_cons, List.map_nil, List.replicate, List.cons_append, List.nil_append, List.getElem?_cons_zero, List.getElem?_cons_succ, Option.bind_some]
  rw [check1_ok (env := []), check1_ok (env := []), check1_ok (env := []), check1_ok (env := []), e_for0 keep_nil]
  simp only [Option.bind_some, List.append_assoc, List.cons_append, List.nil_append]
theorem meet_ok {hd : Hd} {a b c d : P2} {k : Nat} [BP a k] [BP b k] [BP c k] [BP d k] (h : (decide (k ≤ 500)) = true) (hab : a ≠ b) (hcd : c ≠ d) : ∃ l1 l2 l3 l4, D_meet [hp a.1 a.2, hp b.1 b.2, hp c.1 c.2, hp d.1 d.2] hd = some (vD (mt a b c d), hd ++ [l1, l2, l3, l4]) := by
  obtain ⟨l1, l2, l3, l4, e⟩ := check4_ok (hd := hd) (a := a) (b := b) (c := c) (d := d)
  refine ⟨l1, l2, l3, l4, ?_⟩
  unfold D_meet
  rw [e_fn (n := 4) (by rfl)]
  unfold F_meet
  simp only [e_seq, e_expr, e_ret, e_call, e_cons, e_nil, e_var, e_c, e_tup, e_for, e_iseq_tup, List.map_cons, List.map_nil, List.replicate, List.cons_append, List.nil_append, List.getElem?_cons_zero, List.getElem?_cons_succ, Option.bind_some, List.length_cons, List.length_nil, Nat.reduceAdd, Nat.reduceLeDiff, if_true, e]
  rw [e_for1 keep_nil]
  simp only [e_gnm, Option.bind_some, e_ifs, e_bcmp, e_bin, e_var, e_c, e_ixt, at0, at1, List.set_cons_zero, List.set_cons_succ, List.getElem?_cons_zero, List.getElem?_cons_succ, Option.map_some, eq_hp, hab, decide_false, Bool.false_eq_true, if_false, e_skip]
  rw [e_for1 keep_nil]
  simp only [e_gnm, Option.bind_some, e_ifs, e_bcmp, e_bin, e_var, e_c, e_ixt, at0, at1, List.set_cons_zero, List.set_cons_succ, List.getElem?_cons_zero, List.getElem?_cons_succ, Option.map_some, eq_hp, hcd, decide_false, Bool.false_eq_true, if_false, e_skip]
  rw [e_for0 keep_nil]
  simp only [Option.bind_some, e_ret, e_call, e_cons, e_nil, e_var, List.getElem?_cons_zero, List.getElem?_cons_succ, meeting_ok h hab hcd]
theorem cancel {T x y : Rat} (h : T ≠ 0) (e : x * T = y * T) : x = y := by
  have : (x - y) * T = 0 := by grind
  rcases Rat.mul_eq_zero.mp this with h' | h'
  · grind
  · exact absurd h' h
def ats (a b : P2) (s : Rat) : P2 := (a.1 + s * (b.1 - a.1), a.2 + s * (b.2 - a.2))
theorem mul_lt {f s t : Rat} (h : 0 < f) : (s * f < t * f) = (s < t) := by
  have : t * f - s * f = (t - s) * f := by grind
  apply propext
  constructor
  · intro q
    have : 0 < (t - s) * f := by grind
    rcases sg_cases (t - s) with ⟨z, _⟩ | ⟨z, _⟩ | ⟨z, _⟩
    · rw [z] at this; grind
    · grind
    · have := Rat.mul_pos (show (0 : Rat) < -(t - s) by grind) h; grind
  · intro q
    have := Rat.mul_pos (show (0 : Rat) < t - s by grind) h
    grind
theorem mul_lt_neg {f s t : Rat} (h : f < 0) : (s * f < t * f) = (t < s) := by
  have e := @mul_lt (-f) t s (by grind)
  rw [← e]
  apply propext
  constructor <;> intro q <;> grind
theorem ats_eq {a b : P2} (hab : a ≠ b) {s t : Rat} : (ats a b s = ats a b t) = (s = t) := by
  apply propext
  constructor
  · intro h
    have h1 : a.1 + s * (b.1 - a.1) = a.1 + t * (b.1 - a.1) := congrArg Prod.fst h
    have h2 : a.2 + s * (b.2 - a.2) = a.2 + t * (b.2 - a.2) := congrArg Prod.snd h
    by_cases k : b.1 - a.1 = 0
    · have l : b.2 - a.2 ≠ 0 := fun l => hab (Prod.ext (by grind) (by grind))
      exact cancel l (by grind)
    · exact cancel k (by grind)
  · rintro rfl; rfl
theorem ats_lt {a b : P2} (hab : a ≠ b) : (∀ s t, ltp (ats a b s) (ats a b t) = decide (s < t)) ∨ (∀ s t, ltp (ats a b s) (ats a b t) = decide (t < s)) := by
  have dec : ∀ s t, ltp (ats a b s) (ats a b t) = (decide (s * (b.1 - a.1) < t * (b.1 - a.1)) || (decide (s * (b.1 - a.1) = t * (b.1 - a.1)) && decide (s * (b.2 - a.2) < t * (b.2 - a.2)))) := by
    intro s t
    unfold ltp ats
    have e1 : (a.1 + s * (b.1 - a.1) < a.1 + t * (b.1 - a.1)) = (s * (b.1 - a.1) < t * (b.1 - a.1)) := propext ⟨fun h => by grind, fun h => by grind⟩
    have e2 : (a.1 + s * (b.1 - a.1) = a.1 + t * (b.1 - a.1)) = (s * (b.1 - a.1) = t * (b.1 - a.1)) := propext ⟨fun h => by grind, fun h => by grind⟩
    have e3 : (a.2 + s * (b.2 - a.2) < a.2 + t * (b.2 - a.2)) = (s * (b.2 - a.2) < t * (b.2 - a.2)) := propext ⟨fun h => by grind, fun h => by grind⟩
    simp only [e1, e2, e3]
  have ne : ∀ s t, b.1 - a.1 ≠ 0 → s * (b.1 - a.1) = t * (b.1 - a.1) → s = t := fun s t h e => cancel h e
  rcases sg_cases (b.1 - a.1) with ⟨z, _⟩ | ⟨z, _⟩ | ⟨z, _⟩
  · have l : b.2 - a.2 ≠ 0 := fun l => hab (Prod.ext (by grind) (by grind))
    have q : ∀ s t : Rat, (decide (s * 0 < t * 0) || (decide (s * 0 = t * 0) && decide (s * (b.2 - a.2) < t * (b.2 - a.2)))) = decide (s * (b.2 - a.2) < t * (b.2 - a.2)) := fun s t => by
      have a0 : s * 0 = 0 := by grind
      have b0 : t * 0 = 0 := by grind
      rw [a0, b0]; simp [show ¬ (0 : Rat) < 0 by grind]
    rcases sg_cases (b.2 - a.2) with ⟨y, _⟩ | ⟨y, _⟩ | ⟨y, _⟩
    · exact absurd y l
    · left; intro s t; rw [dec, z, q]; simp only [mul_lt y]
    · right; intro s t; rw [dec, z, q]; simp only [mul_lt_neg y]
  · left; intro s t; rw [dec]; simp only [mul_lt z]
    by_cases e : s * (b.1 - a.1) = t * (b.1 - a.1)
    · have := ne s t (by grind) e
      subst this
      simp [show ¬ s < s by grind, show ¬ s * (b.2 - a.2) < s * (b.2 - a.2) by grind]
    · simp [e]
  · right; intro s t; rw [dec]; simp only [mul_lt_neg z]
    by_cases e : s * (b.1 - a.1) = t * (b.1 - a.1)
    · have := ne s t (by grind) e
      subst this
      simp [show ¬ s < s by grind, show ¬ s * (b.2 - a.2) < s * (b.2 - a.2) by grind]
    · simp [e]
theorem fr_inj {r s : Rat} : (r.num = s.num ∧ (r.den : Int) = (s.den : Int)) ↔ r = s := by
  constructor
  · rintro ⟨h, k⟩
    exact Rat.ext h (by exact_mod_cast k)
  · rintro rfl; exact ⟨rfl, rfl⟩
theorem eq_fr {hd : Hd} {r s : Rat} : eqD (fr r) (fr s) hd = some (.bl (decide (r = s)), hd) := by
  have e : decide (r = s) = (r.num == s.num && (r.den : Int) == (s.den : Int)) := by
    rw [← decide_eq_decide.mpr fr_inj, Bool.decide_and]; rfl
  rw [e]
  simp [eqD, strsOf, fr, toPy, optL, PyData.eqv, PyData.eqvAll]
theorem ne_fr {hd : Hd} {r s : Rat} : neD (fr r) (fr s) hd = some (.bl (!decide (r = s)), hd) := by
  have e : decide (r = s) = (r.num == s.num && (r.den : Int) == (s.den : Int)) := by
    rw [← decide_eq_decide.mpr fr_inj, Bool.decide_and]; rfl
  rw [e]
  simp [neD, strsOf, fr, toPy, optL, PyData.eqv, PyData.eqvAll]
theorem eq_pt {hd : Hd} {p q : P2} : eqD (pt p.1 p.2) (pt q.1 q.2) hd = some (.bl (decide (p = q)), hd) := by
  have e : decide (p = q) = ((p.1.num == q.1.num && (p.1.den : Int) == (q.1.den : Int)) && (p.2.num == q.2.num && (p.2.den : Int) == (q.2.den : Int))) := by
    have : p = q ↔ ((p.1.num = q.1.num ∧ (p.1.den : Int) = (q.1.den : Int)) ∧ (p.2.num = q.2.num ∧ (p.2.den : Int) = (q.2.den : Int))) := by
      rw [fr_inj, fr_inj]; exact ⟨fun h => by rw [h]; exact ⟨rfl, rfl⟩, fun h => Prod.ext h.1 h.2⟩
    rw [decide_eq_decide.mpr this, Bool.decide_and, Bool.decide_and, Bool.decide_and]; rfl
  rw [e]
  simp [eqD, strsOf, pt, fr, toPy, optL, PyData.eqv, PyData.eqvAll]
theorem ix_fr0 {hd : Hd} {r : Rat} : idxD (fr r) (.int 0) hd = some (.int r.num, hd) := by unfold fr; simp
theorem ix_fr1 {hd : Hd} {r : Rat} : idxD (fr r) (.int 1) hd = some (.int r.den, hd) := by unfold fr; simp
theorem ix_pt0 {hd : Hd} {x y : Rat} : idxD (pt x y) (.int 0) hd = some (fr x, hd) := by unfold pt; simp
theorem ix_pt1 {hd : Hd} {x y : Rat} : idxD (pt x y) (.int 1) hd = some (fr y, hd) := by unfold pt; simp
theorem num_le0 {r : Rat} : (0 ≤ r.num) = (0 ≤ r) := propext Rat.num_nonneg
theorem num_lt0 {r : Rat} : (0 < r.num) = (0 < r) := by
  rw [Rat.lt_iff]; simp
theorem num_lt0' {r : Rat} : (r.num < 0) = (r < 0) := by
  rw [Rat.lt_iff]; simp
theorem num_le1 {r : Rat} : (r.num ≤ (r.den : Int)) = (r ≤ 1) := by
  rw [Rat.le_iff]; simp
theorem num_lt1 {r : Rat} : (r.num < (r.den : Int)) = (r < 1) := by
  rw [Rat.lt_iff]; simp
theorem num_gt1 {r : Rat} : ((r.den : Int) < r.num) = (1 < r) := by
  rw [Rat.lt_iff]; simp
theorem fr01 : D.tup [.int 0, .int 1] = fr 0 := rfl
theorem fr11 : D.tup [.int 1, .int 1] = fr 1 := rfl
theorem lsOf_app {hd l : Hd} {s : Nat} {ds : List D} (h : lsOf hd s = some ds) : lsOf (hd ++ l) s = some ds := lsOf_get (by
  have := lsOf_of h
  rw [List.getElem?_append_left ((List.getElem?_eq_some_iff.mp this).1)]; exact this)
theorem ok_str : PyData.strOk ("touch" : Str) = true ∧ PyData.strOk ("cross" : Str) = true ∧ PyData.strOk ("none" : Str) = true ∧ PyData.strOk ("along" : Str) = true := by decide +kernel
theorem sh_str : (PyData.str "touch").showable = true ∧ (PyData.str "cross").showable = true ∧ (PyData.str "none").showable = true ∧ (PyData.str "along").showable = true := by decide
def VB (v : V) (n : Nat) : Prop := match v with | .touch p => BP p n | .cross p => BP p n | _ => True
theorem repr_v {v : V} {n : Nat} (h : VB v n) (hn : (decide (n ≤ 900)) = true) : ∃ z, ∀ hd : Hd, reprD [vD v] hd = some (.str z, hd) := by
  have h' : n ≤ 900 := of_decide_eq_true hn
  have hs := sh_str
  obtain ⟨o1, o2, o3, o4⟩ := ok_str
  cases v with
  | none => exact ⟨PyData.shown (.tuple [.str "none"]), fun hd => repr_of (by simp [vD, toPy, optL, o1, o2, o3, o4]) (by simp only [PyData.showable, PyData.showableAll, Bool.and_true]) (by decide)⟩
  | along => exact ⟨PyData.shown (.tuple [.str "along"]), fun hd => repr_of (by simp [vD, toPy, optL, o1, o2, o3, o4]) (by simp only [PyData.showable, PyData.showableAll, Bool.and_true]) (by decide)⟩
  | touch p =>
    have b : BP p n := h
    refine ⟨PyData.shown (.tuple [.str "touch", .tuple [.int (hX p.1 p.2), .int (hY p.1 p.2), .int (hB p.1 p.2)]]), fun hd => repr_of (by simp [vD, hp, toPy, optL, o1, o2, o3, o4]) ?_ ?_⟩
    · simp only [PyData.showable, PyData.showableAll, Bool.and_true, Bool.and_eq_true]
      exact ⟨by decide, show_int (n := n + n) (by omega), show_int (n := n + n) (by omega), show_int (n := n + n) (by omega)⟩
    · simp [pw, pwL, show (Str.ofString "touch").length = 5 by decide +kernel, show (Str.ofString "cross").length = 5 by decide +kernel]
  | cross p =>
    have b : BP p n := h
    refine ⟨PyData.shown (.tuple [.str "cross", .tuple [.int (hX p.1 p.2), .int (hY p.1 p.2), .int (hB p.1 p.2)]]), fun hd => repr_of (by simp [vD, hp, toPy, optL, o1, o2, o3, o4]) ?_ ?_⟩
    · simp only [PyData.showable, PyData.showableAll, Bool.and_true, Bool.and_eq_true]
      exact ⟨by decide, show_int (n := n + n) (by omega), show_int (n := n + n) (by omega), show_int (n := n + n) (by omega)⟩
    · simp [pw, pwL, show (Str.ofString "touch").length = 5 by decide +kernel, show (Str.ofString "cross").length = 5 by decide +kernel]
def sh (a b c : P2) : Rat := if b.1 - a.1 = 0 then (c.2 - a.2) / (b.2 - a.2) else (c.1 - a.1) / (b.1 - a.1)
theorem sh_spec {a b c : P2} (hab : a ≠ b) (h : cr a b c = 0) : c = (a.1 + sh a b c * (b.1 - a.1), a.2 + sh a b c * (b.2 - a.2)) := by
  unfold cr crs at h
  unfold sh
  by_cases k : b.1 - a.1 = 0
  · have l : b.2 - a.2 ≠ 0 := fun l => hab (Prod.ext (by grind) (by grind))
    rw [if_pos k]
    have e := Rat.div_mul_cancel (a := c.2 - a.2) l
    refine Prod.ext ?_ ?_
    · have : c.1 - a.1 = 0 := cancel l (by grind)
      show c.1 = a.1 + _ * (b.1 - a.1)
      rw [k]; grind
    · show c.2 = a.2 + _ * (b.2 - a.2)
      rw [e]; grind
  · rw [if_neg k]
    have e := Rat.div_mul_cancel (a := c.1 - a.1) k
    refine Prod.ext ?_ ?_
    · show c.1 = a.1 + _ * (b.1 - a.1)
      rw [e]; grind
    · show c.2 = a.2 + _ * (b.2 - a.2)
      generalize (c.1 - a.1) / (b.1 - a.1) = s at *
      have : c.2 - a.2 = s * (b.2 - a.2) := cancel k (by grind)
      grind
def ovl (a b : P2) (s t : Rat) : V :=
  if (if (if s < t then s else t) < 0 then 0 else (if s < t then s else t)) = (if 1 < (if s < t then t else s) then 1 else (if s < t then t else s)) then .touch (a.1 + (if (if s < t then s else t) < 0 then 0 else (if s < t then s else t)) * (b.1 - a.1), a.2 + (if (if s < t then s else t) < 0 then 0 else (if s < t then s else t)) * (b.2 - a.2))
  else if (if (if s < t then s else t) < 0 then 0 else (if s < t then s else t)) < (if 1 < (if s < t then t else s) then 1 else (if s < t then t else s)) then .along else .none
theorem ovl_inl {a b c d : P2} (hab : a ≠ b) (hc : cr a b c = 0) (hd : cr a b d = 0) : inl a b c d = ovl a b (sh a b c) (sh a b d) := by
  have ec := sh_spec hab hc
  have ed := sh_spec hab hd
  generalize sh a b c = s at *
  generalize sh a b d = t at *
  have ea : a = ats a b 0 := Prod.ext (by unfold ats; grind) (by unfold ats; grind)
  have eb : b = ats a b 1 := Prod.ext (by unfold ats; grind) (by unfold ats; grind)
  have ec' : c = ats a b s := ec
  have ed' : d = ats a b t := ed
  have eo : ∀ x : Rat, ((a.1 + x * (b.1 - a.1), a.2 + x * (b.2 - a.2)) : P2) = ats a b x := fun _ => rfl
  unfold ovl
  simp only [eo]
  have key : inl (ats a b 0) (ats a b 1) (ats a b s) (ats a b t) = _ := rfl
  rw [show inl a b c d = inl (ats a b 0) (ats a b 1) (ats a b s) (ats a b t) by rw [← ea, ← eb, ← ec', ← ed']]
  unfold inl
  have m1 : ∀ {q : Bool} {x y : Rat}, (if q = true then ats a b x else ats a b y) = ats a b (if q = true then x else y) := fun {q x y} => by cases q <;> rfl
  rcases ats_lt hab with o | o
  · have n1 : ∀ x y, mn (ats a b x) (ats a b y) = ats a b (if decide (y < x) = true then y else x) := fun x y => by unfold mn; rw [o, m1]
    have n2 : ∀ x y, mx (ats a b x) (ats a b y) = ats a b (if decide (y < x) = true then x else y) := fun x y => by unfold mx; rw [o, m1]
    simp only [n1, n2, o, ats_eq hab, decide_eq_true_eq]
    have z1 : (if (if t < s then t else s) < (if (1 : Rat) < 0 then 1 else 0) then (if (1 : Rat) < 0 then 1 else 0) else (if t < s then t else s)) = (if (if s < t then s else t) < 0 then 0 else (if s < t then s else t)) := by grind
    have z2 : (if (if t < s then s else t) < (if (1 : Rat) < 0 then 0 else 1) then (if t < s then s else t) else (if (1 : Rat) < 0 then 0 else 1)) = (if 1 < (if s < t then t else s) then 1 else (if s < t then t else s)) := by grind
    rw [z1, z2]
  · have n1 : ∀ x y, mn (ats a b x) (ats a b y) = ats a b (if decide (x < y) = true then y else x) := fun x y => by unfold mn; rw [o, m1]
    have n2 : ∀ x y, mx (ats a b x) (ats a b y) = ats a b (if decide (x < y) = true then x else y) := fun x y => by unfold mx; rw [o, m1]
    simp only [n1, n2, o, ats_eq hab, decide_eq_true_eq]
    have z1 : (if (if (0 : Rat) < 1 then 1 else 0) < (if s < t then t else s) then (if (0 : Rat) < 1 then 1 else 0) else (if s < t then t else s)) = (if 1 < (if s < t then t else s) then 1 else (if s < t then t else s)) := by grind
    have z2 : (if (if (0 : Rat) < 1 then 0 else 1) < (if s < t then s else t) then (if s < t then s else t) else (if (0 : Rat) < 1 then 0 else 1)) = (if (if s < t then s else t) < 0 then 0 else (if s < t then s else t)) := by grind
    rw [z1, z2]
    generalize (if 1 < (if s < t then t else s) then 1 else (if s < t then t else s)) = H
    generalize (if (if s < t then s else t) < 0 then 0 else (if s < t then s else t)) = L
    by_cases e : H = L
    · subst e; simp
    · rw [if_neg e, if_neg (show ¬ L = H from fun x => e x.symm)]
theorem keep_app {k : List (Nat × List D)} {hd l : Hd} (h : keepOk k hd) : keepOk k (hd ++ l) := fun p hp => lsOf_app (h p hp)
/-- a comprehension whose terms only lengthen the heap -/
theorem comp_up {k : List (Nat × List D)} {g : GT} {te : EM} {f : D → D} : ∀ (ds : List D) (env : Ev) (hd : Hd), keepOk k hd → (∀ d ∈ ds, ∀ l, ∃ l', (g d env (hd ++ l)).bind (fun p => te p.1 p.2) = some (f d, hd ++ l ++ l')) → ∃ l', compL k g bYes te env ds hd = some (ds.map f, hd ++ l')
  | [], env, hd, hk, _ => ⟨[], by rw [e_comp0 hk]; simp⟩
  | d :: ds, env, hd, hk, h => by
    obtain ⟨l1, e1⟩ := h d (by simp) []
    rw [List.append_nil] at e1
    obtain ⟨l2, e2⟩ := comp_up (k := k) (g := g) (te := te) (f := f) ds env (hd ++ l1) (keep_app hk) (fun x hx l => by
      obtain ⟨l', e⟩ := h x (by simp [hx]) (l1 ++ l)
      exact ⟨l', by simpa only [List.append_assoc] using e⟩)
    refine ⟨l1 ++ l2, ?_⟩
    rw [e_comp1 hk]
    obtain ⟨p, ep, e1⟩ := Option.bind_eq_some_iff.mp e1
    rw [ep, Option.bind_some, e_yes, Option.bind_some, if_pos rfl, e1, Option.bind_some, e2, Option.bind_some]
    simp only [List.map_cons, List.append_assoc]
/-- .. that leave it -/
theorem comp_st {k : List (Nat × List D)} {g : GT} {te : EM} {f : D → D} : ∀ (ds : List D) (env : Ev) (hd : Hd), keepOk k hd → (∀ d ∈ ds, (g d env hd).bind (fun p => te p.1 p.2) = some (f d, hd)) → compL k g bYes te env ds hd = some (ds.map f, hd)
  | [], env, hd, hk, _ => by rw [e_comp0 hk]; simp
  | d :: ds, env, hd, hk, h => by
    have e1 := h d (by simp)
    rw [e_comp1 hk]
    obtain ⟨p, ep, e1⟩ := Option.bind_eq_some_iff.mp e1
    rw [ep, Option.bind_some, e_yes, Option.bind_some, if_pos rfl, e1, Option.bind_some, comp_st (f := f) ds env hd hk fun x hx => h x (by simp [hx]), Option.bind_some]
    simp only [List.map_cons]
theorem bls_map {α : Type} {f : α → Bool} : ∀ l : List α, blsOf (l.map fun x => D.bl (f x)) = some (l.map f)
  | [] => rfl
  | x :: l => by rw [List.map_cons, e_bls1, bls_map l]; rfl
theorem chain_get {α : Type} : ∀ (l : List α) (a : α) (i : Nat), (chainE a l)[i]? = ((a :: l)[i]?).bind fun x => (l[i]?).map fun y => (x, y)
  | [], a, i => by cases i <;> simp [chainE]
  | b :: r, a, 0 => by simp [chainE]
  | b :: r, a, i + 1 => by
    rw [show chainE a (b :: r) = (a, b) :: chainE b r from rfl, List.getElem?_cons_succ, chain_get r b i]
    simp
theorem chain_len {α : Type} : ∀ (l : List α) (a : α), (chainE a l).length = l.length
  | [], a => rfl
  | b :: r, a => by rw [show chainE a (b :: r) = (a, b) :: chainE b r from rfl, List.length_cons, chain_len r b, List.length_cons]
theorem edges_len {α : Type} (l : List α) : (edgesE l).length = l.length := by
  unfold edgesE
  cases h : l.getLast? with
  | none => rw [List.getLast?_eq_none_iff.mp h]; rfl
  | some z => exact chain_len l z
theorem mem_chain {α : Type} : ∀ (l : List α) (a : α) (e : α × α), e ∈ chainE a l → (e.1 = a ∨ e.1 ∈ l) ∧ e.2 ∈ l
  | [], a, e, h => by cases h
  | b :: r, a, e, h => by
    rw [show chainE a (b :: r) = (a, b) :: chainE b r from rfl] at h
    rcases List.mem_cons.mp h with rfl | h
    · simp
    · obtain ⟨h1, h2⟩ := mem_chain r b e h
      refine ⟨?_, by simp [h2]⟩
      rcases h1 with h1 | h1 <;> simp [h1]
theorem mem_edges {α : Type} {l : List α} {e : α × α} (h : e ∈ edgesE l) : e.1 ∈ l ∧ e.2 ∈ l := by
  unfold edgesE at h
  split at h
  · rename_i z hz
    obtain ⟨h1, h2⟩ := mem_chain l z e h
    refine ⟨?_, h2⟩
    rcases h1 with h1 | h1
    · rw [h1]; exact List.mem_of_getLast? hz
    · exact h1
  · cases h
theorem chain_map {α β : Type} (f : α → β) : ∀ (l : List α) (a : α), chainE (f a) (l.map f) = (chainE a l).map fun e => (f e.1, f e.2)
  | [], a => rfl
  | b :: r, a => by
    rw [List.map_cons, show chainE (f a) (f b :: r.map f) = (f a, f b) :: chainE (f b) (r.map f) from rfl, chain_map f r b]
    rfl
theorem edges_map {α β : Type} (f : α → β) (l : List α) : edgesE (l.map f) = (edgesE l).map fun e => (f e.1, f e.2) := by
  unfold edgesE
  rw [List.getLast?_map]
  cases l.getLast? with
  | none => rfl
  | some z => exact chain_map f l z
theorem bls_tt {α : Type} : ∀ l : List α, blsOf (l.map fun _ => D.bl true) = some (l.map fun _ => true)
  | [] => rfl
  | x :: l => by rw [List.map_cons, e_bls1, bls_tt l]; rfl
theorem all_tt {α : Type} : ∀ l : List α, (l.map fun _ => true).all id = true
  | [] => rfl
  | x :: l => by rw [List.map_cons, List.all_cons, all_tt l]; rfl
theorem comp_stm {α : Type} {k : List (Nat × List D)} {g : GT} {te : EM} {i f : α → D} : ∀ (as : List α) (env : Ev) (hd : Hd), keepOk k hd → (∀ a ∈ as, (g (i a) env hd).bind (fun p => te p.1 p.2) = some (f a, hd)) → compL k g bYes te env (as.map i) hd = some (as.map f, hd)
  | [], env, hd, hk, _ => by rw [List.map_nil, e_comp0 hk]; simp
  | a :: as, env, hd, hk, h => by
    have e1 := h a (by simp)
    rw [List.map_cons, e_comp1 hk]
    obtain ⟨p, ep, e1⟩ := Option.bind_eq_some_iff.mp e1
    rw [ep, Option.bind_some, e_yes, Option.bind_some, if_pos rfl, e1, Option.bind_some, comp_stm (f := f) as env hd hk fun x hx => h x (by simp [hx]), Option.bind_some]
    simp only [List.map_cons]
theorem ls_two {A : Hd} {x : Ob} {ds : List D} : lsOf (A ++ [x, .lst ds]) (A.length + 1) = some ds := by
  unfold lsOf
  rw [List.getElem?_append_right (by omega)]
  simp
abbrev hq (p : P2) : D := hp p.1 p.2
def ed (e : P2 × P2) : D := .tup [hq e.1, hq e.2]
theorem at_last {ds : List D} {z : D} (h : ds.getLast? = some z) : atI ds (-1) = some z := by
  cases ds with
  | nil => cases h
  | cons d r =>
    rw [List.getLast?_eq_getElem?] at h
    unfold L2.atI L2.ixN
    rw [if_neg (by decide), if_pos (by simp; omega), Option.bind_some]
    rw [← h]
    congr 1
    simp
    omega
theorem stretches_ok {hd : Hd} {ps : List P2} (h0 : ps ≠ []) (h1 : ps.length ≤ 1000) : D_closed_stretches [.tup (ps.map hq)] hd = some (.ref hd.length, hd ++ [.lst ((edgesE ps).map ed)]) := by
  obtain ⟨z, hz⟩ : ∃ z, ps.getLast? = some z := by
    cases h : ps.getLast? with
    | none => exact absurd (List.getLast?_eq_none_iff.mp h) h0
    | some z => exact ⟨z, rfl⟩
  have hz' : (ps.map hq).getLast? = some (hq z) := by rw [List.getLast?_map, hz]; rfl
  have body : ∀ (env : Ev), env = [some (.tup (ps.map hq)), none] → compL [] (gNm 1) bYes (mTup (mCons (mBin idxD (mVar 0) (mBin subD (mVar 1) (mC (.int 1)))) (mCons (mBin idxD (mVar 0) (mVar 1)) mNil))) env (rangeL 0 (ps.length : Nat)) hd = some ((edgesE ps).map ed, hd) := by
    rintro env rfl
    have e := comp_st (k := []) (g := gNm 1) (te := mTup (mCons (mBin idxD (mVar 0) (mBin subD (mVar 1) (mC (.int 1)))) (mCons (mBin idxD (mVar 0) (mVar 1)) mNil))) (f := fun d => match d with | .int k => .tup [(atI (ps.map hq) (k - 1)).getD .non, (atI (ps.map hq) k).getD .non] | _ => .non) (rangeL 0 (ps.length : Nat)) [some (.tup (ps.map hq)), none] hd keep_nil (by
      intro d hd'
      unfold rangeL at hd'
      obtain ⟨k, hk, rfl⟩ := List.mem_map.mp hd'
      have hk : k < ps.length := by simpa using hk
      have a2 : ∃ y, atI (ps.map hq) ((k : Nat) : Int) = some y := by rw [atI_at (by simpa using hk)]; exact ⟨_, List.getElem?_eq_getElem (by simpa using hk)⟩
      have a1 : ∃ y, atI (ps.map hq) (((k : Nat) : Int) - 1) = some y := by
        cases k with
        | zero => exact ⟨_, at_last hz'⟩
        | succ k =>
          rw [show (((k + 1 : Nat) : Int) - 1) = ((k : Nat) : Int) by omega, atI_at (by simp; omega)]
          exact ⟨_, List.getElem?_eq_getElem (by simp; omega)⟩
      obtain ⟨y2, a2⟩ := a2
      obtain ⟨y1, a1⟩ := a1
      rw [Int.zero_add]
      simp only [e_gnm, Option.bind_some, e_tup, e_cons, e_nil, e_bin, e_var, e_c, List.set_cons_succ, List.set_cons_zero, List.getElem?_cons_zero, List.getElem?_cons_succ, e_subii, e_ixt, a1, a2, Option.map_some, List.length_cons, List.length_nil, Nat.reduceAdd, Nat.reduceLeDiff, if_true, Option.getD_some])
    rw [e]
    congr 2
    apply List.ext_getElem?
    intro i
    by_cases hi : i < ps.length
    · have r : (rangeL 0 (ps.length : Nat))[i]? = some (.int (i : Nat)) := by rw [rangeL_get (by omega)]; simp
      rw [List.getElem?_map, r, List.getElem?_map]
      unfold edgesE
      rw [hz]
      simp only [Option.map_some]
      rw [chain_get]
      have h2 : atI (ps.map hq) ((i : Nat) : Int) = some (hq ps[i]) := by rw [atI_at (by simpa using hi)]; simp [hi]
      cases i with
      | zero =>
        have h1 : atI (ps.map hq) (((0 : Nat) : Int) - 1) = some (hq z) := at_last hz'
        rw [h1, h2, List.getElem?_eq_getElem hi]
        rfl
      | succ i =>
        have h1 : atI (ps.map hq) (((i + 1 : Nat) : Int) - 1) = some (hq ps[i]) := by
          rw [show (((i + 1 : Nat) : Int) - 1) = ((i : Nat) : Int) by omega, atI_at (by simp; omega)]
          simp [show i < ps.length by omega]
        rw [h1, h2, List.getElem?_eq_getElem hi, List.getElem?_cons_succ, List.getElem?_eq_getElem (show i < ps.length by omega)]
        rfl
    · rw [List.getElem?_eq_none (by rw [List.length_map, rangeL_len]; omega), List.getElem?_eq_none (by rw [List.length_map, edges_len]; omega)]
  unfold D_closed_stretches
  rw [e_fn (n := 1) (by rfl)]
  unfold F_closed_stretches
  simp only [e_ret, e_comp, e_irange1, e_cons, e_nil, e_call, e_var, e_lent, List.map_cons, List.map_nil, List.replicate, List.cons_append, List.nil_append, List.getElem?_cons_zero, List.length_map, Option.bind_some]
  rw [if_pos (by omega)]
  simp only [Option.bind_some, e_wipe1, e_wipe0, List.set_cons_succ, List.set_cons_zero]
  rw [body _ rfl]
  simp only [Option.bind_some]
  rw [if_pos (by rw [List.length_map, edges_len]; omega)]
  rfl
theorem ne_hp {hd : Hd} {p q : P2} : neD (hp p.1 p.2) (hp q.1 q.2) hd = some (.bl (!decide (p = q)), hd) := by
  have h := eq_hp (hd := hd) (p := p) (q := q)
  unfold eqD at h
  unfold neD
  simp [strsOf, hp, toPy, optL] at h ⊢
  exact h
def lo (a b z : P2) : Bool := decide (cr a b z = 0) && (!ltp z (mn a b) && !ltp (mx a b) z)
theorem lies_ok {hd : Hd} {a b z : P2} {k : Nat} [BP a k] [BP b k] [BP z k] (h : (decide (k ≤ 1500)) = true) : D_lies_on [hq a, hq b, hq z] hd = some (.bl (lo a b z), hd) := by
  have h' : k ≤ 1500 := of_decide_eq_true h
  have e1 : D_turn [hp a.1 a.2, hp b.1 b.2, hp z.1 z.2] hd = some (.int (sg (cr a b z)), hd) := turn_ok (by simp; omega)
  have e2 := first_ok (hd := hd) (p := a) (q := b) (by simp; omega)
  have e3 := last_ok (hd := hd) (p := a) (q := b) (by simp; omega)
  have e4 := ahead_ok (hd := hd) (p := z) (q := mn a b) (by simp; omega)
  have e5 := ahead_ok (hd := hd) (p := mx a b) (q := z) (by simp; omega)
  unfold D_lies_on
  rw [e_fn (n := 3) (by rfl)]
  unfold F_lies_on lo
  simp only [hq, e_ret, e_and, e_not, e_bin, e_call, e_cons, e_nil, e_var, e_c, List.map_cons, List.map_nil, List.replicate, List.append_nil, List.getElem?_cons_zero, List.getElem?_cons_succ, Option.bind_some, e1, e2, e3, e4, e5, e_eqii]
  by_cases c : cr a b z = 0
  · have : sg (cr a b z) = 0 := sg_zero.mpr c
    cases q : ltp z (mn a b) <;> simp [c, this, q, sg]
  · have : (sg (cr a b z) == 0) = false := by
      have : ¬ sg (cr a b z) = 0 := fun x => c (sg_zero.mp x)
      simp [this]
    simp [c, this]
theorem up_cmp {p z : P2} : decide (hY z.1 z.2 * hB p.1 p.2 < hY p.1 p.2 * hB z.1 z.2) = decide (z.2 < p.2) := by
  have p1 := int_pos_rat (hB_pos p.1 p.2)
  have p2 := int_pos_rat (hB_pos z.1 z.2)
  have k0 : (0 : Rat) < (hB p.1 p.2 : Rat) * (hB z.1 z.2 : Rat) := Rat.mul_pos p1 p2
  obtain ⟨_, _, c3⟩ := int_cmp (T := hY p.1 p.2 * hB z.1 z.2 - hY z.1 z.2 * hB p.1 p.2) (k := (hB p.1 p.2 : Rat) * (hB z.1 z.2 : Rat)) (r := p.2 - z.2) (by rw [Rat.intCast_sub, Rat.intCast_mul, Rat.intCast_mul, hY_eq, hY_eq]; grind) k0
  apply decide_eq_decide.mpr
  constructor
  · intro h
    have := c3.mp (by omega)
    grind
  · intro h
    have := c3.mpr (by grind)
    omega
def upI (ua ub : Bool) : Int := (if ub then 1 else 0) - (if ua then 1 else 0)
theorem upward_ok {hd : Hd} {e : P2 × P2} {z : P2} {k : Nat} [BP e.1 k] [BP e.2 k] [BP z k] (h : (decide (k ≤ 1500)) = true) : ∃ l, D_goes_upward [ed e, hq z] hd = some (.int (upI (decide (z.2 < e.1.2)) (decide (z.2 < e.2.2))), hd ++ [l]) := by
  have h' : k ≤ 1500 := of_decide_eq_true h
  refine ⟨.lst [.bl (decide (z.2 < e.1.2)), .bl (decide (z.2 < e.2.2))], ?_⟩
  unfold D_goes_upward
  rw [e_fn (n := 2) (by rfl)]
  unfold F_goes_upward ed upI
  simp only [hq]
  unfold hp
  simp (disch := (first | omega | (simp; omega) | exact keep_nil)) only [e_seq, e_asg, e_gnm, e_ret, e_comp, e_comp1, e_comp0, e_yes, e_iseq_tup, e_call, e_cons, e_nil, e_bin, e_var, e_c, e_ixt, at0, at1, at2, e_mulii, e_cmp, e_wipe1, e_wipe0, List.map_cons, List.map_nil, List.replicate, List.cons_append, List.nil_append, List.getElem?_cons_zero, List.getElem?_cons_succ, List.set_cons_zero, List.set_cons_succ, Option.bind_some, Option.map_some, if_true, up_cmp, List.length_cons, List.length_nil, Nat.reduceAdd, Nat.reduceLeDiff, e_ixr, e_ls_new, e_intb, e_subii]
def cross (z : P2) (e : P2 × P2) : Bool := crossU (decide (z.2 < e.1.2)) (decide (z.2 < e.2.2)) (sg (cr e.1 e.2 z))
def rnd (ps : List P2) (z : P2) : Bool := xorL ((edgesE ps).map (cross z))
def onl (ps : List P2) (z : P2) : Bool := (edgesE ps).any fun e => lo e.1 e.2 z
theorem crossU_eq (ua ub : Bool) (c : Int) : (!(upI ua ub == 0) && (c == upI ua ub)) = crossU ua ub c := by
  unfold crossU upI
  cases ua <;> cases ub <;> simp
theorem comp_filt {α : Type} {k : List (Nat × List D)} {g : GT} {tt : BM} {te : EM} {i : α → D} {c : α → Bool} : ∀ (as : List α) (env : Ev) (hd : Hd), keepOk k hd → (∀ a ∈ as, ∀ l, ∃ l' env', g (i a) env (hd ++ l) = some (env', hd ++ l) ∧ tt env' (hd ++ l) = some (c a, hd ++ l ++ l') ∧ ∀ m, te env' (hd ++ m) = some (i a, hd ++ m)) → ∃ l', compL k g tt te env (as.map i) hd = some ((as.filter c).map i, hd ++ l')
  | [], env, hd, hk, _ => ⟨[], by rw [List.map_nil, e_comp0 hk]; simp⟩
  | a :: as, env, hd, hk, h => by
    obtain ⟨l1, env1, e1, e2, e3⟩ := h a (by simp) []
    rw [List.append_nil] at e1 e2
    obtain ⟨l2, e4⟩ := comp_filt (k := k) (g := g) (tt := tt) (te := te) (i := i) (c := c) as env (hd ++ l1) (keep_app hk) (fun x hx l => by
      obtain ⟨l', env', q1, q2, q3⟩ := h x (by simp [hx]) (l1 ++ l)
      refine ⟨l', env', by simpa only [List.append_assoc] using q1, by simpa only [List.append_assoc] using q2, fun m => ?_⟩
      have := q3 (l1 ++ m)
      simpa only [List.append_assoc] using this)
    refine ⟨l1 ++ l2, ?_⟩
    rw [List.map_cons, e_comp1 hk, e1, Option.bind_some, e2, Option.bind_some, List.filter_cons]
    cases c a with
    | true =>
      rw [if_pos rfl, e3 l1, Option.bind_some, e4, Option.bind_some, if_pos rfl]
      simp only [List.map_cons, List.append_assoc]
    | false =>
      rw [if_neg (by simp), e4, if_neg (by simp)]
      simp only [List.append_assoc]
theorem iscrossed_ok {hd : Hd} {e : P2 × P2} {z : P2} {k : Nat} [BP e.1 k] [BP e.2 k] [BP z k] (hk : (decide (k ≤ 1500)) = true) : ∃ l, D_is_crossed [ed e, hq z] hd = some (.bl (cross z e), hd ++ l) := by
  have hk' : k ≤ 1500 := of_decide_eq_true hk
  obtain ⟨l1, e1⟩ := upward_ok (hd := hd) (e := e) (z := z) (k := k) hk
  have e2 : ∀ hd : Hd, D_turn [hq e.1, hq e.2, hq z] hd = some (.int (sg (cr e.1 e.2 z)), hd) := fun hd => turn_ok (by simp; omega)
  have cu := crossU_eq (decide (z.2 < e.1.2)) (decide (z.2 < e.2.2)) (sg (cr e.1 e.2 z))
  refine ⟨[l1], ?_⟩
  unfold D_is_crossed
  rw [e_fn (n := 2) (by rfl)]
  unfold F_is_crossed cross
  rw [← cu]
  simp only [e_seq, e_asg, e_gnm, e_ret, e_call, e_cons, e_nil, e_var, List.map_cons, List.map_nil, List.replicate, List.cons_append, List.nil_append, List.getElem?_cons_zero, List.getElem?_cons_succ, List.set_cons_zero, List.set_cons_succ, Option.bind_some, e1]
  generalize upI (decide (z.2 < e.1.2)) (decide (z.2 < e.2.2)) = u at *
  have ev : idxD (ed e) (.int 0) (hd ++ [l1]) = some (hq e.1, hd ++ [l1]) ∧ idxD (ed e) (.int 1) (hd ++ [l1]) = some (hq e.2, hd ++ [l1]) := ⟨by unfold ed; simp, by unfold ed; simp⟩
  simp only [e_and, e_bin, e_var, e_c, e_neii, e_call, e_cons, e_nil, List.getElem?_cons_zero, List.getElem?_cons_succ, Option.bind_some]
  by_cases n0 : (u == 0) = true
  · simp only [n0, Bool.not_true, Bool.false_and, Option.bind_some]
  · have n1 : (u == 0) = false := by simpa using n0
    simp only [n1, Bool.not_false, Bool.true_and, ev.1, ev.2, Option.bind_some, e2, e_eqii]
theorem xor_count {α : Type} (c : α → Bool) : ∀ es : List α, decide ((((es.filter c).length : Nat) : Int).fmod 2 = 1) = xorL (es.map c)
  | [] => by simp [xorL]
  | e :: es => by
    have ih := xor_count c es
    rw [List.map_cons, xorL, ← ih, List.filter_cons]
    cases c e with
    | true =>
      rw [if_pos rfl, List.length_cons, Bool.true_xor]
      have h1 : ∀ n : Nat, decide ((((n + 1 : Nat) : Int)).fmod 2 = 1) = !decide (((n : Nat) : Int).fmod 2 = 1) := by
        intro n
        rw [Int.fmod_eq_emod_of_nonneg _ (by decide), Int.fmod_eq_emod_of_nonneg _ (by decide)]
        rw [← decide_not]
        apply decide_eq_decide.mpr
        omega
      exact h1 _
    | false => simp
/-- what is asked of a line and a spot -/
structure Ln (ps : List P2) (z : P2) (k : Nat) : Prop where
  l3 : 3 ≤ ps.length
  l9 : ps.length ≤ 1000
  bp : ∀ p ∈ ps, BP p k
  bz : BP z k
  ne : ∀ e ∈ edgesE ps, e.1 ≠ e.2
  hk : (decide (k ≤ 1500)) = true
theorem Ln.n0 {ps : List P2} {z : P2} {k : Nat} (L : Ln ps z k) : ps ≠ [] := fun h => by have := L.l3; rw [h] at this; simp at this
theorem Ln.be {ps : List P2} {z : P2} {k : Nat} (L : Ln ps z k) : ∀ e ∈ edgesE ps, BP e.1 k ∧ BP e.2 k := fun e he => ⟨L.bp _ (mem_edges he).1, L.bp _ (mem_edges he).2⟩
theorem isround_ok {hd : Hd} {ps : List P2} {z : P2} {k : Nat} (L : Ln ps z k) : ∃ l, D_is_round [.tup (ps.map hq), hq z] hd = some (.bl (rnd ps z), hd ++ l) := by
  have bz := L.bz
  have h9 := L.l9
  have e1 := stretches_ok (hd := hd) L.n0 L.l9
  obtain ⟨l, e2⟩ := comp_filt (k := [(hd.length, (edgesE ps).map ed)]) (g := gNm 2) (tt := bTru (mCall D_is_crossed (mCons (mVar 2) (mCons (mVar 1) mNil)))) (te := mVar 2) (i := ed) (c := cross z) (edgesE ps) [some (.tup (ps.map hq)), some (hq z), none] (hd ++ [.lst ((edgesE ps).map ed)]) (by rw [keep_cons]; exact ⟨e_ls_new, keep_nil⟩) (fun e he l => by
    obtain ⟨b1, b2⟩ := L.be e he
    obtain ⟨l', q⟩ := iscrossed_ok (hd := hd ++ [.lst ((edgesE ps).map ed)] ++ l) (e := e) (z := z) L.hk
    refine ⟨l', _, e_gnm, ?_, fun m => ?_⟩
    · simp only [e_btru, e_call, e_cons, e_nil, e_var, List.set_cons_succ, List.set_cons_zero, List.getElem?_cons_zero, List.getElem?_cons_succ, Option.bind_some, q, e_tru_bl, Option.map_some]
    · simp only [e_var, List.set_cons_succ, List.set_cons_zero, List.getElem?_cons_zero, List.getElem?_cons_succ])
  refine ⟨[.lst ((edgesE ps).map ed)] ++ l ++ [.lst (((edgesE ps).filter (cross z)).map ed)], ?_⟩
  have hle : (((edgesE ps).filter (cross z)).map ed).length ≤ 1000000 := by
    have := List.length_filter_le (cross z) (edgesE ps)
    rw [edges_len] at this
    rw [List.length_map]
    omega
  unfold D_is_round
  rw [e_fn (n := 2) (by rfl)]
  unfold F_is_round rnd
  rw [← xor_count]
  simp only [e_ret, e_bin, e_c, e_comp, e_iseq_tup, e_call, e_cons, e_nil, e_var, List.map_cons, List.map_nil, List.replicate, List.cons_append, List.nil_append, List.getElem?_cons_zero, List.getElem?_cons_succ, Option.bind_some, e1, e_ls_new, Option.map_some, e_wipe1, e_wipe0, List.set_cons_succ, List.set_cons_zero]
  rw [e2]
  simp only [Option.bind_some]
  rw [if_pos hle]
  simp only [Option.bind_some, e_lenr, e_ls_new, Option.map_some, List.length_map, e_modii (show (2 : Int) ≠ 0 by decide), e_eqii]
  have hl : hd ++ [Ob.lst ((edgesE ps).map ed)] ++ l ++ [Ob.lst (((edgesE ps).filter (cross z)).map ed)] = hd ++ ([Ob.lst ((edgesE ps).map ed)] ++ l ++ [Ob.lst (((edgesE ps).filter (cross z)).map ed)]) := by simp only [List.append_assoc]
  rw [hl]
  rfl
theorem closed_ok {hd : Hd} {ps : List P2} {z : P2} {k : Nat} (L : Ln ps z k) : ∃ l, D_is_closed_line [.tup (ps.map hq)] hd = some (.bl true, hd ++ l) := by
  obtain ⟨l1, e1⟩ := comp_up (k := []) (g := gNm 3) (te := mCall D_is_point (mCons (mVar 3) mNil)) (f := fun _ => .bl true) (ps.map hq) [some (.tup (ps.map hq)), none, none, none] hd keep_nil (fun d hd' l => by
    obtain ⟨p, hp, rfl⟩ := List.mem_map.mp hd'
    exact ⟨_, by simp only [e_gnm, Option.bind_some, e_call, e_cons, e_nil, e_var, List.set_cons_succ, List.set_cons_zero, List.getElem?_cons_zero, List.getElem?_cons_succ]; exact ispoint_ok⟩)
  have t1 : ((ps.map hq).map fun _ => D.bl true) = ps.map fun _ => D.bl true := by rw [List.map_map]; rfl
  rw [t1] at e1
  have e2 := stretches_ok (hd := hd ++ l1 ++ [Ob.lst (ps.map fun _ => D.bl true)]) L.n0 L.l9
  have e3 := comp_st (k := [((hd ++ l1 ++ [Ob.lst (ps.map fun _ => D.bl true)]).length, (edgesE ps).map ed)]) (g := gTp (gsCons (gNm 1) (gsCons (gNm 2) gsNil))) (te := mBin neD (mVar 1) (mVar 2)) (f := fun _ => .bl true) ((edgesE ps).map ed) [some (.tup (ps.map hq)), none, none, none] (hd ++ l1 ++ [Ob.lst (ps.map fun _ => D.bl true)] ++ [.lst ((edgesE ps).map ed)]) (by rw [keep_cons]; exact ⟨e_ls_new, keep_nil⟩) (fun d hd' => by
    obtain ⟨e, he, rfl⟩ := List.mem_map.mp hd'
    have := L.ne e he
    unfold ed
    simp only [e_gtp, e_gscons, e_gsnil, e_gnm, Option.bind_some, e_bin, e_var, List.set_cons_succ, List.set_cons_zero, List.getElem?_cons_zero, List.getElem?_cons_succ, hq, ne_hp]
    simp [this])
  have t2 : (((edgesE ps).map ed).map fun _ => D.bl true) = (edgesE ps).map fun _ => D.bl true := by rw [List.map_map]; rfl
  rw [t2] at e3
  refine ⟨l1 ++ [Ob.lst (ps.map fun _ => D.bl true)] ++ [.lst ((edgesE ps).map ed)] ++ [Ob.lst ((edgesE ps).map fun _ => D.bl true)], ?_⟩
  have h3 := L.l3
  have h9 := L.l9
  unfold D_is_closed_line
  rw [e_fn (n := 1) (by rfl)]
  unfold F_is_closed_line
  simp only [e_seq, e_ifs, e_bor, e_bnot, e_btru, e_bcmp, e_bin, e_c, e_skip, e_ret, e_call, e_cons, e_nil, e_var, e_isi_tt, e_tru_bl, e_cmp, e_lent, e_comp, e_iseq_tup, e_wipe1, e_wipe0, List.map_cons, List.map_nil, List.replicate, List.cons_append, List.nil_append, List.getElem?_cons_zero, List.getElem?_cons_succ, List.set_cons_zero, List.set_cons_succ, Option.bind_some, Option.map_some, Bool.not_true, Bool.false_eq_true, if_false, List.length_map, show ¬ ((ps.length : Nat) : Int) < 3 by omega, decide_false, e1]
  rw [if_pos (by omega)]
  simp only [Option.bind_some, Option.map_some, e_all, e_ls_new, bls_tt, all_tt, e_tru_bl, Bool.not_true, Bool.false_eq_true, if_false, List.getElem?_cons_zero, e2, List.set_cons_succ, List.set_cons_zero]
  rw [e3]
  simp only [Option.bind_some, List.length_map, edges_len]
  rw [if_pos (by omega)]
  simp only [Option.bind_some, Option.map_some, e_all, e_ls_new, bls_tt, all_tt]
  simp only [List.append_assoc]
theorem check1p_ok {hd : Hd} {p : P2} : ∃ l, D_check_points [.tup [hq p]] hd = some (.non, hd ++ l) := by
  refine ⟨[.lst [.bl true, .bl true, .bl true]], ?_⟩
  unfold D_check_points
  rw [e_fn (n := 1) (by rfl)]
  unfold F_check_points
  simp only [hq, e_for, e_iseq_tup, e_var, List.map_cons, List.map_nil, List.replicate, List.cons_append, List.nil_append, List.getElem?_cons_zero, List.getElem?_cons_succ, Option.bind_some]
  rw [check1_ok (env := []), e_for0 keep_nil]
  simp only [Option.bind_some]
theorem e_any {hd : Hd} {n : Nat} : anyD [.ref n] hd = (lsOf hd n).bind fun es => (blsOf es).map fun ns => (.bl (ns.any id), hd) := rfl
theorem any_ok {hd : Hd} {ps : List P2} {z : P2} {k : Nat} (L : Ln ps z k) : ∃ l, mComp (iSeq (mCall D_closed_stretches (mCons (mVar 0) mNil))) (gTp (gsCons (gNm 2) (gsCons (gNm 3) gsNil))) bYes (mCall D_lies_on (mCons (mVar 2) (mCons (mVar 3) (mCons (mVar 1) mNil)))) [2, 3] [some (.tup (ps.map hq)), some (hq z), none, none] hd = some (.ref (hd.length + 1), hd ++ [l, .lst ((edgesE ps).map fun e => D.bl (lo e.1 e.2 z))]) := by
  have bz := L.bz
  have h9 := L.l9
  have e2 := stretches_ok (hd := hd) L.n0 L.l9
  have e3 := comp_stm (k := [(hd.length, (edgesE ps).map ed)]) (g := gTp (gsCons (gNm 2) (gsCons (gNm 3) gsNil))) (te := mCall D_lies_on (mCons (mVar 2) (mCons (mVar 3) (mCons (mVar 1) mNil)))) (i := ed) (f := fun e => D.bl (lo e.1 e.2 z)) (edgesE ps) [some (.tup (ps.map hq)), some (hq z), none, none] (hd ++ [.lst ((edgesE ps).map ed)]) (by rw [keep_cons]; exact ⟨e_ls_new, keep_nil⟩) (fun e he => by
    obtain ⟨b1, b2⟩ := L.be e he
    have q := lies_ok (hd := hd ++ [.lst ((edgesE ps).map ed)]) (a := e.1) (b := e.2) (z := z) L.hk
    generalize hd ++ [Ob.lst ((edgesE ps).map ed)] = hd2 at *
    unfold ed
    simp only [e_gtp, e_gscons, e_gsnil, e_gnm, Option.bind_some, e_call, e_cons, e_nil, e_var, List.set_cons_succ, List.set_cons_zero, List.getElem?_cons_zero, List.getElem?_cons_succ, q])
  refine ⟨.lst ((edgesE ps).map ed), ?_⟩
  simp only [e_comp, e_iseq_tup, e_call, e_cons, e_nil, e_var, List.getElem?_cons_zero, Option.bind_some, e2, e_ls_new, Option.map_some, e_wipe1, e_wipe0, List.set_cons_zero, List.set_cons_succ]
  rw [e3]
  simp only [Option.bind_some, List.length_map, edges_len]
  rw [if_pos (by omega)]
  simp
theorem inside_no {hd : Hd} {ps : List P2} {z : P2} {k : Nat} (L : Ln ps z k) (h : onl ps z = false) : ∃ l, D_inside [.tup (ps.map hq), hq z] hd = some (.bl (rnd ps z), hd ++ l) := by
  obtain ⟨l1, e1⟩ := closed_ok (hd := hd) L
  obtain ⟨l2, e2⟩ := check1p_ok (hd := hd ++ l1) (p := z)
  obtain ⟨l3, e3⟩ := any_ok (hd := hd ++ l1 ++ l2) L
  obtain ⟨l4, e4⟩ := isround_ok (hd := hd ++ l1 ++ l2 ++ [l3, .lst ((edgesE ps).map fun e => D.bl (lo e.1 e.2 z))]) L
  refine ⟨l1 ++ l2 ++ [l3, .lst ((edgesE ps).map fun e => D.bl (lo e.1 e.2 z))] ++ l4, ?_⟩
  have nl : lsOf (hd ++ l1 ++ l2 ++ [l3, .lst ((edgesE ps).map fun e => D.bl (lo e.1 e.2 z))]) ((hd ++ l1 ++ l2).length + 1) = some ((edgesE ps).map fun e => D.bl (lo e.1 e.2 z)) := ls_two
  have an : ((edgesE ps).map fun e => lo e.1 e.2 z).any id = false := by rw [List.any_map]; exact h
  unfold D_inside
  rw [e_fn (n := 2) (by rfl)]
  unfold F_inside
  simp only [e_seq, e_ifs, e_bnot, e_btru, e_skip, e_expr, e_ret, e_call, e_cons, e_nil, e_var, e_tup, e_tru_bl, List.map_cons, List.map_nil, List.replicate, List.cons_append, List.nil_append, List.getElem?_cons_zero, List.getElem?_cons_succ, List.length_cons, List.length_nil, Nat.reduceAdd, Nat.reduceLeDiff, Option.bind_some, Option.map_some, Bool.not_true, Bool.false_eq_true, if_false, if_true, e1, e2]
  rw [e3]
  simp only [Option.bind_some, Option.map_some, e_any, nl, bls_map (f := fun e : P2 × P2 => lo e.1 e.2 z), an, e_tru_bl, Bool.false_eq_true, if_false, List.getElem?_cons_zero, List.getElem?_cons_succ, e4]
  simp only [List.append_assoc]
theorem e_xseq {f : SM} {r : XM} {env : Ev} {hd : Hd} : xSeq f r env hd = (f env hd).bind fun p => match p.1 with | .nx => r p.2.1 p.2.2 | _ => none := rfl
theorem e_xif {c : BM} {r : XM} {env : Ev} {hd : Hd} : xIf c r env hd = (c env hd).bind fun p => if p.1 = true then r env p.2 else none := rfl
theorem e_xraise {C : Addr} {a : EM} {env : Ev} {hd : Hd} : xRaise C a env hd = (a env hd).map fun p => (C, p.1, p.2) := rfl
theorem e_fnx {n m : Nat} {r : XM} {ds : List D} {hd : Hd} (h : ds.length = n) : mFx n m r ds hd = r (ds.map some ++ List.replicate m none) hd := by
  unfold mFx; rw [if_pos h]
theorem inside_on {cl : Str → Addr} {hd : Hd} {ps : List P2} {z : P2} {k : Nat} (L : Ln ps z k) (h : onl ps z = true) : D_inside [.tup (ps.map hq), hq z] hd = none ∧ ∃ l, R_inside cl [.tup (ps.map hq), hq z] hd = some (cl "OnLine", hq z, hd ++ l) := by
  obtain ⟨l1, e1⟩ := closed_ok (hd := hd) L
  obtain ⟨l2, e2⟩ := check1p_ok (hd := hd ++ l1) (p := z)
  obtain ⟨l3, e3⟩ := any_ok (hd := hd ++ l1 ++ l2) L
  have nl : lsOf (hd ++ l1 ++ l2 ++ [l3, .lst ((edgesE ps).map fun e => D.bl (lo e.1 e.2 z))]) ((hd ++ l1 ++ l2).length + 1) = some ((edgesE ps).map fun e => D.bl (lo e.1 e.2 z)) := ls_two
  have an : ((edgesE ps).map fun e => lo e.1 e.2 z).any id = true := by rw [List.any_map]; exact h
  constructor
  · unfold D_inside
    rw [e_fn (n := 2) (by rfl)]
    unfold F_inside
    simp only [e_seq, e_ifs, e_bnot, e_btru, e_skip, e_expr, e_ret, e_call, e_cons, e_nil, e_var, e_tup, e_tru_bl, List.map_cons, List.map_nil, List.replicate, List.cons_append, List.nil_append, List.getElem?_cons_zero, List.getElem?_cons_succ, List.length_cons, List.length_nil, Nat.reduceAdd, Nat.reduceLeDiff, Option.bind_some, Option.map_some, Bool.not_true, Bool.false_eq_true, if_false, if_true, e1, e2]
    rw [e3]
    simp only [Option.bind_some, Option.map_some, e_any, nl, bls_map (f := fun e : P2 × P2 => lo e.1 e.2 z), an, e_tru_bl, if_true, e_none, Option.bind_none]
  · refine ⟨l1 ++ l2 ++ [l3, .lst ((edgesE ps).map fun e => D.bl (lo e.1 e.2 z))], ?_⟩
    unfold R_inside
    rw [e_fnx (n := 2) (by rfl)]
    unfold X_inside
    simp only [e_xseq, e_xif, e_xraise, e_seq, e_ifs, e_bnot, e_btru, e_skip, e_expr, e_ret, e_call, e_cons, e_nil, e_var, e_tup, e_tru_bl, List.map_cons, List.map_nil, List.replicate, List.cons_append, List.nil_append, List.getElem?_cons_zero, List.getElem?_cons_succ, List.length_cons, List.length_nil, Nat.reduceAdd, Nat.reduceLeDiff, Option.bind_some, Option.map_some, Bool.not_true, Bool.false_eq_true, if_false, if_true, e1, e2]
    rw [e3]
    simp only [Option.bind_some, Option.map_some, e_any, nl, bls_map (f := fun e : P2 × P2 => lo e.1 e.2 z), an, e_tru_bl, if_true, List.getElem?_cons_zero, List.getElem?_cons_succ]
    simp only [List.append_assoc]
theorem sg_one {r : Rat} (h : 0 < r) : sg r = 1 := by unfold sg; rw [if_neg (by grind), if_pos h]
/-! an affine map that keeps crosses up to a factor -/
structure Af (L : P2 → P2) (Δ : Rat) : Prop where
  n0 : Δ ≠ 0
  d : ∀ a b c e, dt (L a) (L b) (L c) (L e) = Δ * dt a b c e
  s : ∀ a b s, L (ats a b s) = ats (L a) (L b) s
  inj : ∀ a b, L a = L b → a = b
theorem cr_dt (a b c : P2) : cr a b c = dt a b a c := by unfold cr crs dt; grind
theorem mul_z {k x : Rat} (h : k ≠ 0) : k * x = 0 ↔ x = 0 := by
  constructor
  · intro e
    rcases Rat.mul_eq_zero.mp e with q | q
    · exact absurd q h
    · exact q
  · intro e; rw [e]; grind
theorem div_scale {x y k : Rat} (hk : k ≠ 0) (hy : y ≠ 0) : (k * x) / (k * y) = x / y := by
  have n : k * y ≠ 0 := fun z => hy ((mul_z hk).mp z)
  refine cancel n ?_
  rw [Rat.div_mul_cancel n]
  have := Rat.div_mul_cancel (a := x) hy
  generalize x / y = q at *
  grind
def mpV (L : P2 → P2) : V → V
  | .touch p => .touch (L p)
  | .cross p => .cross (L p)
  | v => v
section
variable {L : P2 → P2} {Δ : Rat} {a b c d z : P2}
theorem af_cr (A : Af L Δ) : cr (L a) (L b) (L c) = Δ * cr a b c := by rw [cr_dt, cr_dt, A.d]
theorem af_sh (A : Af L Δ) (hab : a ≠ b) (h : cr a b c = 0) : sh (L a) (L b) (L c) = sh a b c := by
  have n : L a ≠ L b := fun e => hab (A.inj _ _ e)
  have h' : cr (L a) (L b) (L c) = 0 := by rw [af_cr A]; exact (mul_z A.n0).mpr h
  have e1 := sh_spec n h'
  have e2 := sh_spec hab h
  have e3 : ats (L a) (L b) (sh a b c) = ats (L a) (L b) (sh (L a) (L b) (L c)) := by
    rw [← A.s, show ats a b (sh a b c) = c from e2.symm]; exact e1
  exact ((ats_eq n).mp e3).symm
theorem ovl_af (A : Af L Δ) (s t : Rat) : ovl (L a) (L b) s t = mpV L (ovl a b s t) := by
  have eo : ∀ x : Rat, (((L a).1 + x * ((L b).1 - (L a).1), (L a).2 + x * ((L b).2 - (L a).2)) : P2) = L (a.1 + x * (b.1 - a.1), a.2 + x * (b.2 - a.2)) := fun x => (A.s a b x).symm
  unfold ovl
  simp only [eo]
  generalize (if (if s < t then s else t) < 0 then 0 else (if s < t then s else t)) = X
  generalize (if 1 < (if s < t then t else s) then 1 else (if s < t then t else s)) = Y
  by_cases h1 : X = Y
  · rw [if_pos h1, if_pos h1]; rfl
  · rw [if_neg h1, if_neg h1]; split <;> rfl
theorem af_mt (A : Af L Δ) (hab : a ≠ b) : mt (L a) (L b) (L c) (L d) = mpV L (mt a b c d) := by
  have n : L a ≠ L b := fun e => hab (A.inj _ _ e)
  unfold mt
  by_cases z : dt a b c d = 0
  · have z' : dt (L a) (L b) (L c) (L d) = 0 := by rw [A.d]; exact (mul_z A.n0).mpr z
    rw [if_pos z, if_pos z']
    by_cases k : cr a b c = 0
    · have k' : cr (L a) (L b) (L c) = 0 := by rw [af_cr A]; exact (mul_z A.n0).mpr k
      have kd : cr a b d = 0 := by unfold dt at z; unfold cr crs at k ⊢; grind
      have kd' : cr (L a) (L b) (L d) = 0 := by rw [af_cr A]; exact (mul_z A.n0).mpr kd
      rw [if_pos k, if_pos k', ovl_inl n k' kd', ovl_inl hab k kd, af_sh A hab k, af_sh A hab kd, ovl_af A]
    · have k' : ¬ cr (L a) (L b) (L c) = 0 := by rw [af_cr A]; exact fun e => k ((mul_z A.n0).mp e)
      rw [if_neg k, if_neg k']; rfl
  · have z' : ¬ dt (L a) (L b) (L c) (L d) = 0 := by rw [A.d]; exact fun e => z ((mul_z A.n0).mp e)
    have e1 : hh (L a) (L b) (L c) (L d) = hh a b c d := by
      show dt (L a) (L c) (L c) (L d) / dt (L a) (L b) (L c) (L d) = dt a c c d / dt a b c d
      rw [A.d, A.d, div_scale A.n0 z]
    have e2 : tt (L a) (L b) (L c) (L d) = tt a b c d := by
      show dt (L a) (L c) (L a) (L b) / dt (L a) (L b) (L c) (L d) = dt a c a b / dt a b c d
      rw [A.d, A.d, div_scale A.n0 z]
    have e3 : pp (L a) (L b) (L c) (L d) = L (pp a b c d) := by
      show ats (L a) (L b) (hh (L a) (L b) (L c) (L d)) = L (ats a b (hh a b c d))
      rw [e1, A.s]
    rw [if_neg z, if_neg z', e1, e2, e3]
    generalize hh a b c d = H
    generalize tt a b c d = T
    split
    · rfl
    · split <;> rfl
theorem lo_eq (hab : a ≠ b) : lo a b z = decide (cr a b z = 0 ∧ 0 ≤ sh a b z ∧ sh a b z ≤ 1) := by
  by_cases h : cr a b z = 0
  · have e := sh_spec hab h
    unfold lo
    generalize sh a b z = s at e ⊢
    have ea : a = ats a b 0 := Prod.ext (by unfold ats; grind) (by unfold ats; grind)
    have eb : b = ats a b 1 := Prod.ext (by unfold ats; grind) (by unfold ats; grind)
    have ez : z = ats a b s := e
    have key : (!ltp z (mn a b) && !ltp (mx a b) z) = decide (0 ≤ s ∧ s ≤ 1) := by
      rw [show ltp z (mn a b) = ltp (ats a b s) (mn (ats a b 0) (ats a b 1)) by rw [← ea, ← eb, ← ez], show ltp (mx a b) z = ltp (mx (ats a b 0) (ats a b 1)) (ats a b s) by rw [← ea, ← eb, ← ez]]
      unfold mn mx
      rcases ats_lt hab with o | o
      · rw [o 1 0, show decide ((1 : Rat) < 0) = false by decide +kernel, if_neg (by decide), if_neg (by decide), o, o]
        by_cases h0 : s < 0 <;> by_cases h1 : 1 < s <;> simp [h0, h1] <;> grind
      · rw [o 1 0, show decide ((0 : Rat) < 1) = true by decide +kernel, if_pos rfl, if_pos rfl, o, o]
        by_cases h0 : s < 0 <;> by_cases h1 : 1 < s <;> simp [h0, h1] <;> grind
    rw [key, h]
    simp
  · unfold lo; simp [h]
theorem af_lo (A : Af L Δ) (hab : a ≠ b) : lo (L a) (L b) (L z) = lo a b z := by
  have n : L a ≠ L b := fun e => hab (A.inj _ _ e)
  rw [lo_eq hab, lo_eq n]
  by_cases h : cr a b z = 0
  · have h' : cr (L a) (L b) (L z) = 0 := by rw [af_cr A]; exact (mul_z A.n0).mpr h
    rw [af_sh A hab h]; simp [h, h']
  · have h' : ¬ cr (L a) (L b) (L z) = 0 := by rw [af_cr A]; exact fun e => h ((mul_z A.n0).mp e)
    simp [h, h']
theorem af_onl (A : Af L Δ) {ps : List P2} (hn : ∀ e ∈ edgesE ps, e.1 ≠ e.2) : onl (ps.map L) (L z) = onl ps z := by
  unfold onl
  rw [edges_map, List.any_map]
  apply Bool.eq_iff_iff.mpr
  simp only [List.any_eq_true, Function.comp]
  constructor
  · rintro ⟨e, he, h⟩; exact ⟨e, he, by rw [af_lo A (hn e he)] at h; exact h⟩
  · rintro ⟨e, he, h⟩; exact ⟨e, he, by rw [af_lo A (hn e he)]; exact h⟩
end
theorem sg_mem (r : Rat) : sg r ∈ three := by
  rcases sg_cases r with ⟨_, e⟩ | ⟨_, e⟩ | ⟨_, e⟩ <;> rw [e] <;> decide
theorem sg_pos {r : Rat} : 0 < sg r ↔ 0 < r := by
  rcases sg_cases r with ⟨h, e⟩ | ⟨h, e⟩ | ⟨h, e⟩ <;> rw [e] <;> constructor <;> intro _ <;> first | grind | decide | omega
theorem sg_scale {k r : Rat} (h : 0 < k) : sg (k * r) = sg r := by
  rw [sg_mul, sg_one h, Int.one_mul]
/-- the signs that a spot beside a stretch sees -/
theorem okS_of {a b z : P2} (hab : a ≠ b) (h : lo a b z = false) : okS (sg (a.1 - z.1)) (sg (a.2 - z.2)) (sg (b.1 - z.1)) (sg (b.2 - z.2)) (sg (cr a b z)) = true := by
  rw [lo_eq hab] at h
  have h := of_decide_eq_false h
  have ec : cr a b z = (a.1 - z.1) * (b.2 - z.2) - (a.2 - z.2) * (b.1 - z.1) := by unfold cr crs; grind
  -- the ends
  have na : ¬ (a.1 - z.1 = 0 ∧ a.2 - z.2 = 0) := by
    rintro ⟨h1, h2⟩
    have e : z = a := Prod.ext (by grind) (by grind)
    subst e
    have c0 : cr z b z = 0 := by unfold cr crs; grind
    have es := sh_spec hab c0
    have : sh z b z = 0 := by
      have : ats z b 0 = ats z b (sh z b z) := by rw [show ats z b (sh z b z) = z from es.symm]; exact Prod.ext (by unfold ats; grind) (by unfold ats; grind)
      exact ((ats_eq hab).mp this).symm
    rw [this] at h
    exact h ⟨c0, by decide +kernel, by decide +kernel⟩
  have nb : ¬ (b.1 - z.1 = 0 ∧ b.2 - z.2 = 0) := by
    rintro ⟨h1, h2⟩
    have e : z = b := Prod.ext (by grind) (by grind)
    subst e
    have c0 : cr a z z = 0 := by unfold cr crs; grind
    have es := sh_spec hab c0
    have : sh a z z = 1 := by
      have : ats a z 1 = ats a z (sh a z z) := by rw [show ats a z (sh a z z) = z from es.symm]; exact Prod.ext (by unfold ats; grind) (by unfold ats; grind)
      exact ((ats_eq hab).mp this).symm
    rw [this] at h
    exact h ⟨c0, by decide +kernel, by decide +kernel⟩
  -- of one line
  have line : cr a b z = 0 → sg (a.1 - z.1) = sg (b.1 - z.1) ∧ sg (a.2 - z.2) = sg (b.2 - z.2) := by
    intro c0
    have es := sh_spec hab c0
    generalize sh a b z = s at *
    have z1 : z.1 = a.1 + s * (b.1 - a.1) := by rw [es]
    have z2 : z.2 = a.2 + s * (b.2 - a.2) := by rw [es]
    have out : s < 0 ∨ 1 < s := by
      by_cases q : 0 ≤ s
      · right
        by_cases r : s ≤ 1
        · exact absurd ⟨c0, q, r⟩ h
        · grind
      · left; grind
    have p1 : a.1 - z.1 = -s * (b.1 - a.1) := by grind
    have p2 : b.1 - z.1 = (1 - s) * (b.1 - a.1) := by grind
    have p3 : a.2 - z.2 = -s * (b.2 - a.2) := by grind
    have p4 : b.2 - z.2 = (1 - s) * (b.2 - a.2) := by grind
    rw [p1, p2, p3, p4, sg_mul, sg_mul, sg_mul, sg_mul]
    rcases out with q | q
    · rw [sg_one (show 0 < -s by grind), sg_one (show 0 < 1 - s by grind)]; exact ⟨rfl, rfl⟩
    · have m1 : sg (-s) = -1 := by rcases sg_cases (-s) with ⟨k, e⟩ | ⟨k, e⟩ | ⟨k, e⟩ <;> first | exact e | grind
      have m2 : sg (1 - s) = -1 := by rcases sg_cases (1 - s) with ⟨k, e⟩ | ⟨k, e⟩ | ⟨k, e⟩ <;> first | exact e | grind
      rw [m1, m2]; exact ⟨rfl, rfl⟩
  have u1 := sg_mul (a.1 - z.1) (b.2 - z.2)
  have u2 := sg_mul (a.2 - z.2) (b.1 - z.1)
  unfold okS
  rw [← u1, ← u2]
  simp only [Bool.and_eq_true, Bool.not_eq_true', Bool.or_eq_true, beq_iff_eq, bne_iff_ne]
  refine ⟨⟨⟨?_, ?_⟩, ?_⟩, ?_⟩
  · rw [ec]
    generalize (a.1 - z.1) * (b.2 - z.2) = u
    generalize (a.2 - z.2) * (b.1 - z.1) = v
    rcases sg_cases u with ⟨k, e⟩ | ⟨k, e⟩ | ⟨k, e⟩ <;> rcases sg_cases v with ⟨k', e'⟩ | ⟨k', e'⟩ | ⟨k', e'⟩ <;> rw [e, e'] <;> simp <;> rcases sg_cases (u - v) with ⟨k2, e2⟩ | ⟨k2, e2⟩ | ⟨k2, e2⟩ <;> first | exact e2 | grind
  · have : ¬ (sg (a.1 - z.1) = 0 ∧ sg (a.2 - z.2) = 0) := fun x => na ⟨sg_zero.mp x.1, sg_zero.mp x.2⟩
    by_cases q : sg (a.1 - z.1) = 0 <;> by_cases r : sg (a.2 - z.2) = 0 <;> simp_all
  · have : ¬ (sg (b.1 - z.1) = 0 ∧ sg (b.2 - z.2) = 0) := fun x => nb ⟨sg_zero.mp x.1, sg_zero.mp x.2⟩
    by_cases q : sg (b.1 - z.1) = 0 <;> by_cases r : sg (b.2 - z.2) = 0 <;> simp_all
  · by_cases q : cr a b z = 0
    · right; exact line q
    · left; exact fun x => q (sg_zero.mp x)
/-! the four words, a factor, a way -/
def Lw (a b c d f x y : Rat) (p : P2) : P2 := (f * (a * p.1 + b * p.2) + x, f * (c * p.1 + d * p.2) + y)
theorem af_of {a b c d f x y : Rat} (h : a * d - b * c ≠ 0) (hf : f ≠ 0) : Af (Lw a b c d f x y) (f * f * (a * d - b * c)) where
  n0 := fun z => by
    rcases Rat.mul_eq_zero.mp z with q | q
    · rcases Rat.mul_eq_zero.mp q with q | q <;> exact hf q
    · exact h q
  d := fun p q r s => by unfold dt Lw; grind
  s := fun p q s => Prod.ext (by unfold ats Lw; grind) (by unfold ats Lw; grind)
  inj := fun p q e => by
    have e1 : f * (a * p.1 + b * p.2) + x = f * (a * q.1 + b * q.2) + x := congrArg Prod.fst e
    have e2 : f * (c * p.1 + d * p.2) + y = f * (c * q.1 + d * q.2) + y := congrArg Prod.snd e
    have e3 : a * (p.1 - q.1) + b * (p.2 - q.2) = 0 := (mul_z hf).mp (by grind)
    have e4 : c * (p.1 - q.1) + d * (p.2 - q.2) = 0 := (mul_z hf).mp (by grind)
    have e5 : p.1 - q.1 = 0 := (mul_z h).mp (by grind)
    have e6 : p.2 - q.2 = 0 := (mul_z h).mp (by grind)
    exact Prod.ext (by grind) (by grind)
theorem up_sg {p z : P2} : decide (z.2 < p.2) = decide (0 < sg (p.2 - z.2)) := by
  apply decide_eq_decide.mpr
  rw [sg_pos]
  constructor <;> intro h <;> grind
theorem rnd_by {ps : List P2} {z : P2} {L : P2 → P2} (hn : ∀ e ∈ edgesE ps, e.1 ≠ e.2) (ho : onl ps z = false) (g : Int → Int → Int → Int → Int → Bool) (φ : Int → Int → Bool)
    (hs : allS (fun sa ta sb tb c => !okS sa ta sb tb c || ((crossU (decide (0 < ta)) (decide (0 < tb)) c ^^ g sa ta sb tb c) == (φ sa ta ^^ φ sb tb))) = true)
    (hg : ∀ a b : P2, cross (L z) (L a, L b) = g (sg (a.1 - z.1)) (sg (a.2 - z.2)) (sg (b.1 - z.1)) (sg (b.2 - z.2)) (sg (cr a b z))) : rnd (ps.map L) (L z) = rnd ps z := by
  unfold rnd
  rw [edges_map, List.map_map]
  symm
  refine round_same (fun p : P2 => φ (sg (p.1 - z.1)) (sg (p.2 - z.2))) (cross z) (cross (L z) ∘ fun e => (L e.1, L e.2)) ps fun e he => ?_
  have hl : lo e.1 e.2 z = false := by
    unfold onl at ho
    have := List.any_eq_false.mp ho e he
    simpa using this
  have ok := okS_of (hn e he) hl
  have st := of_allS hs (sg_mem (e.1.1 - z.1)) (sg_mem (e.1.2 - z.2)) (sg_mem (e.2.1 - z.1)) (sg_mem (e.2.2 - z.2)) (sg_mem (cr e.1 e.2 z))
  rw [ok, Bool.not_true, Bool.false_or] at st
  have st := beq_iff_eq.mp st
  rw [Function.comp, hg, ← st]
  unfold cross
  rw [up_sg, up_sg]
def wStay : Rat × Rat × Rat × Rat := (1, 0, 0, 1)
theorem cr_z {L : P2 → P2} {Δ : Rat} (A : Af L Δ) {a b z : P2} : sg (cr (L a) (L b) (L z)) = sg Δ * sg (cr a b z) := by rw [af_cr A, sg_mul]
section
variable {ps : List P2} {z : P2} {f x y : Rat}
theorem up_L {a b c d : Rat} (hf : 0 < f) (p : P2) : decide ((Lw a b c d f x y z).2 < (Lw a b c d f x y p).2) = decide (0 < sg (c * (p.1 - z.1) + d * (p.2 - z.2))) := by
  rw [up_sg]
  have : (Lw a b c d f x y p).2 - (Lw a b c d f x y z).2 = f * (c * (p.1 - z.1) + d * (p.2 - z.2)) := by unfold Lw; grind
  rw [this, sg_scale hf]
theorem ff_pos (hf : 0 < f) : 0 < f * f := Rat.mul_pos hf hf
theorem rnd_stay (hf : 0 < f) (hn : ∀ e ∈ edgesE ps, e.1 ≠ e.2) (ho : onl ps z = false) : rnd (ps.map (Lw 1 0 0 1 f x y)) (Lw 1 0 0 1 f x y z) = rnd ps z := by
  refine rnd_by hn ho (fun sa ta sb tb c => crossU (decide (0 < ta)) (decide (0 < tb)) c) (fun _ _ => false) (by decide +kernel) fun a b => ?_
  have A := af_of (a := 1) (b := 0) (c := 0) (d := 1) (f := f) (x := x) (y := y) (by decide +kernel) (by grind)
  have m1 : sg (f * f * (1 * 1 - 0 * 0)) = 1 := sg_one (by have := ff_pos hf; grind)
  unfold cross
  rw [up_L hf, up_L hf, cr_z A, m1, Int.one_mul]
  rw [show (0 : Rat) * (a.1 - z.1) + 1 * (a.2 - z.2) = a.2 - z.2 by grind, show (0 : Rat) * (b.1 - z.1) + 1 * (b.2 - z.2) = b.2 - z.2 by grind]
theorem rnd_turned (hf : 0 < f) (hn : ∀ e ∈ edgesE ps, e.1 ≠ e.2) (ho : onl ps z = false) : rnd (ps.map (Lw 0 (-1) 1 0 f x y)) (Lw 0 (-1) 1 0 f x y z) = rnd ps z := by
  refine rnd_by hn ho (fun sa ta sb tb c => crossU (decide (0 < sa)) (decide (0 < sb)) c) (fun s t => decide (0 < s) && decide (t ≤ 0)) (by decide +kernel) fun a b => ?_
  have A := af_of (a := 0) (b := -1) (c := 1) (d := 0) (f := f) (x := x) (y := y) (by decide +kernel) (by grind)
  have m1 : sg (f * f * (0 * 0 - -1 * 1)) = 1 := sg_one (by have := ff_pos hf; grind)
  unfold cross
  rw [up_L hf, up_L hf, cr_z A, m1, Int.one_mul]
  rw [show (1 : Rat) * (a.1 - z.1) + 0 * (a.2 - z.2) = a.1 - z.1 by grind, show (1 : Rat) * (b.1 - z.1) + 0 * (b.2 - z.2) = b.1 - z.1 by grind]
theorem rnd_mirrored (hf : 0 < f) (hn : ∀ e ∈ edgesE ps, e.1 ≠ e.2) (ho : onl ps z = false) : rnd (ps.map (Lw (-1) 0 0 1 f x y)) (Lw (-1) 0 0 1 f x y z) = rnd ps z := by
  refine rnd_by hn ho (fun sa ta sb tb c => crossU (decide (0 < ta)) (decide (0 < tb)) (-c)) (fun _ t => decide (0 < t)) (by decide +kernel) fun a b => ?_
  have A := af_of (a := -1) (b := 0) (c := 0) (d := 1) (f := f) (x := x) (y := y) (by decide +kernel) (by grind)
  have m1 : sg (f * f * (-1 * 1 - 0 * 0)) = -1 := by
    have := ff_pos hf
    rcases sg_cases (f * f * (-1 * 1 - 0 * 0)) with ⟨k, e⟩ | ⟨k, e⟩ | ⟨k, e⟩ <;> first | exact e | grind
  unfold cross
  rw [up_L hf, up_L hf, cr_z A, m1]
  rw [show (0 : Rat) * (a.1 - z.1) + 1 * (a.2 - z.2) = a.2 - z.2 by grind, show (0 : Rat) * (b.1 - z.1) + 1 * (b.2 - z.2) = b.2 - z.2 by grind, show (-1 : Int) * sg (cr a b z) = -sg (cr a b z) by omega]
theorem rnd_back (hf : 0 < f) (hn : ∀ e ∈ edgesE ps, e.1 ≠ e.2) (ho : onl ps z = false) : rnd (ps.map (Lw (-1) 0 0 (-1) f x y)) (Lw (-1) 0 0 (-1) f x y z) = rnd ps z := by
  refine rnd_by hn ho (fun sa ta sb tb c => crossU (decide (ta < 0)) (decide (tb < 0)) c) (fun s t => (decide (0 < s) && decide (t ≤ 0)) || decide (t < 0)) (by decide +kernel) fun a b => ?_
  have A := af_of (a := -1) (b := 0) (c := 0) (d := -1) (f := f) (x := x) (y := y) (by decide +kernel) (by grind)
  have ng : ∀ r : Rat, decide (0 < sg (0 * (r) + -1 * r)) = decide (sg r < 0) := fun r => by
    rw [show (0 : Rat) * r + -1 * r = -r by grind, sg_neg]
    apply decide_eq_decide.mpr; omega
  have m1 : sg (f * f * (-1 * -1 - 0 * 0)) = 1 := sg_one (by have := ff_pos hf; grind)
  unfold cross
  rw [up_L hf, up_L hf, cr_z A, m1, Int.one_mul]
  rw [show (0 : Rat) * (a.1 - z.1) + -1 * (a.2 - z.2) = -(a.2 - z.2) by grind, show (0 : Rat) * (b.1 - z.1) + -1 * (b.2 - z.2) = -(b.2 - z.2) by grind, sg_neg, sg_neg]
  congr 1 <;> (apply decide_eq_decide.mpr; omega)
end
abbrev pq (p : P2) : D := pt p.1 p.2
theorem ne_pt {hd : Hd} {p q : P2} : neD (pq p) (pq q) hd = some (.bl (!decide (p = q)), hd) := by
  have h := eq_pt (hd := hd) (p := p) (q := q)
  unfold eqD at h
  unfold neD
  simp [strsOf, pt, fr, toPy, optL] at h ⊢
  exact h
theorem comp_if {α : Type} {k : List (Nat × List D)} {g : GT} {tt : BM} {te : EM} {i f : α → D} {b : α → Bool} : ∀ (as : List α) (env : Ev) (hd : Hd), keepOk k hd → (∀ a ∈ as, ∃ e, g (i a) env hd = some (e, hd) ∧ tt e hd = some (b a, hd) ∧ (b a = true → te e hd = some (f a, hd))) → compL k g tt te env (as.map i) hd = some ((as.filter b).map f, hd)
  | [], env, hd, hk, _ => by rw [List.map_nil, e_comp0 hk]; simp
  | a :: as, env, hd, hk, h => by
    obtain ⟨e, h1, h2, h3⟩ := h a (by simp)
    have r := comp_if (k := k) (g := g) (tt := tt) (te := te) (i := i) (f := f) (b := b) as env hd hk fun x hx => h x (by simp [hx])
    rw [List.map_cons, e_comp1 hk, h1, Option.bind_some]
    simp only [h2, Option.bind_some]
    cases hb : b a with
    | true => rw [if_pos rfl, h3 hb, Option.bind_some, r, Option.bind_some]; simp [hb]
    | false => rw [if_neg (by decide), r]; simp [hb]
theorem edges_at {α : Type} {i : α → D} {ps : List α} {j : Nat} {e : α × α} (h : (edgesE ps)[j]? = some e) : atI (ps.map i) ((j : Nat) : Int) = some (i e.2) ∧ atI (ps.map i) (((j : Nat) : Int) - 1) = some (i e.1) := by
  have hj : j < ps.length := by have := (List.getElem?_eq_some_iff.mp h).1; rw [edges_len] at this; exact this
  obtain ⟨z, hz⟩ : ∃ z, ps.getLast? = some z := by
    cases h : ps.getLast? with
    | none => rw [List.getLast?_eq_none_iff.mp h] at hj; simp at hj
    | some z => exact ⟨z, rfl⟩
  unfold edgesE at h
  rw [hz] at h
  simp only at h
  rw [chain_get] at h
  rw [List.getElem?_eq_getElem hj] at h
  cases j with
  | zero =>
    simp at h
    subst h
    refine ⟨?_, at_last (by rw [List.getLast?_map, hz]; rfl)⟩
    rw [atI_at (by simpa using hj)]
    simp [hj]
  | succ j =>
    rw [List.getElem?_cons_succ, List.getElem?_eq_getElem (show j < ps.length by omega)] at h
    simp at h
    subst h
    constructor
    · rw [atI_at (by simpa using hj)]; simp [hj]
    · rw [show (((j + 1 : Nat) : Int) - 1) = ((j : Nat) : Int) by omega, atI_at (by simp; omega)]; simp [show j < ps.length by omega]
theorem comp_edges {α : Type} {k : List (Nat × List D)} {v : Nat} {tt : BM} {te : EM} {i : α → D} {ps : List α} {b : α × α → Bool} {f : α × α → D} {env : Ev} {hd : Hd} (hk : keepOk k hd)
    (h : ∀ (j : Nat) (e : α × α), atI (ps.map i) ((j : Nat) : Int) = some (i e.2) → atI (ps.map i) (((j : Nat) : Int) - 1) = some (i e.1) → tt (env.set v (some (.int (j : Nat)))) hd = some (b e, hd) ∧ (b e = true → te (env.set v (some (.int (j : Nat)))) hd = some (f e, hd))) :
    compL k (gNm v) tt te env (rangeL 0 (ps.length : Nat)) hd = some (((edgesE ps).filter b).map f, hd) := by
  have r := comp_if (k := k) (g := gNm v) (tt := tt) (te := te) (i := fun x : (α × α) × Nat => D.int (x.2 : Nat)) (f := fun x => f x.1) (b := fun x => b x.1) (edgesE ps).zipIdx env hd hk (fun x hx => by
    have := List.mem_zipIdx_iff_getElem?.mp hx
    obtain ⟨h1, h2⟩ := edges_at (i := i) this
    exact ⟨_, e_gnm, h x.2 x.1 h1 h2⟩)
  have e1 : (edgesE ps).zipIdx.map (fun x : (α × α) × Nat => D.int (x.2 : Nat)) = rangeL 0 (ps.length : Nat) := by
    apply List.ext_getElem?
    intro j
    rw [List.getElem?_map, List.getElem?_zipIdx]
    by_cases hj : j < ps.length
    · rw [rangeL_get (by omega), List.getElem?_eq_getElem (by rw [edges_len]; exact hj)]; simp
    · rw [List.getElem?_eq_none (by rw [edges_len]; omega), List.getElem?_eq_none (by rw [rangeL_len]; omega)]; rfl
  rw [e1] at r
  rw [r]
  congr 2
  have : ∀ l : List ((α × α) × Nat), (l.filter fun x => b x.1).map (fun x => f x.1) = ((l.map fun x => x.1).filter b).map f := by
    intro l
    induction l with
    | nil => rfl
    | cons x l ih => cases hb : b x.1 <;> simp [hb, ih]
  rw [this, List.zipIdx_map_fst]
theorem e_heard_no {cls : List Addr} {P : Addr} {q : Str} {a : EM} {r : XM} {env : Ev} {hd : Hd} {p : D × Hd} (h : Ob.tab P q ∈ hd) (e : a env hd = some p) : heardD cls P q a r env hd = some (.tup [.non, p.1], p.2) := by
  unfold heardD; rw [if_pos h, e]
theorem e_heard_on {cls : List Addr} {P C : Addr} {q : Str} {a : EM} {r : XM} {env : Ev} {hd hd' : Hd} {d : D} (h : Ob.tab P q ∈ hd) (e : a env hd = none) (er : r env hd = some (C, d, hd')) (hc : C ∈ cls) : heardD cls P q a r env hd = some (.tup [.exc C d, .non], hd') := by
  unfold heardD; rw [if_pos h, e]
  simp only [er, Option.bind_some]
  rw [if_pos hc]
theorem e_isED {C : Addr} {d : D} {hd : Hd} : isED [C] [.exc C d, .raw (.ref C)] hd = some (.bl true, hd) := by
  unfold isED
  simp
def inW (b : Bool) (r : Bool) : D := if b = true then .tup [.bl true, .non] else .tup [.bl false, .bl r]
theorem lawin_ok {cl : Str → Addr} {T : Addr} {m : Nat} {hd : Hd} {ps : List P2} {z : P2} {k : Nat} (L : Ln ps z k) (hl : lsOf hd m = some (ps.map hq)) (ht : Ob.tab T "_law_inside.<locals>.<lambda>" ∈ hd) :
    ∃ l, D__law_inside cl T [.ref m, hq z] hd = some (inW (onl ps z) (rnd ps z), hd ++ l) := by
  cases ho : onl ps z with
  | false =>
    obtain ⟨l, e⟩ := inside_no (hd := hd) L ho
    refine ⟨l, ?_⟩
    unfold D__law_inside
    rw [e_fn (n := 2) (by rfl)]
    unfold F__law_inside
    simp only [e_seq, e_asg, List.map_cons, List.map_nil, List.replicate, List.cons_append, List.nil_append]
    rw [e_heard_no ht (p := (.bl (rnd ps z), hd ++ l)) (by simp only [e_call, e_cons, e_nil, e_var, List.getElem?_cons_zero, List.getElem?_cons_succ, Option.bind_some, e_tupleR, hl, Option.map_some]; exact e)]
    simp [isD, Dl.isNon, inW]
  | true =>
    obtain ⟨e1, l, e2⟩ := inside_on (cl := cl) (hd := hd) L ho
    refine ⟨l, ?_⟩
    unfold D__law_inside
    rw [e_fn (n := 2) (by rfl)]
    unfold F__law_inside
    simp only [e_seq, e_asg, List.map_cons, List.map_nil, List.replicate, List.cons_append, List.nil_append]
    rw [e_heard_on ht (C := cl "OnLine") (d := hq z) (hd' := hd ++ l) (by simp only [e_call, e_cons, e_nil, e_var, List.getElem?_cons_zero, List.getElem?_cons_succ, Option.bind_some, e_tupleR, hl, Option.map_some]; exact e1)
      (by unfold xCall; simp only [e_call, e_cons, e_nil, e_var, List.getElem?_cons_zero, List.getElem?_cons_succ, Option.bind_some, e_tupleR, hl, Option.map_some]; exact e2) (by simp)]
    simp [isD, Dl.isNon, inW, e_isED]
theorem small_ok {n c : Nat} {hd : Hd} (P : Pot n hd c) (hc : c ≤ 90000) : ∃ x y hd', D__law_small_point [.ref n] hd = some (pt x y, hd') ∧ Bq x 3 ∧ Bq y 3 ∧ Pot n hd' (c + 3) ∧ Kp n hd hd' := by
  have ln := P.lt
  obtain ⟨low, h1, e1, m1, P1, k1⟩ := of_ok (m := hd.length) (ds := [.int 1, .int 1, .int 2, .int 5]) (P.app _) (by omega) (by omega) e_ls_new (by simp) (by simp)
  obtain ⟨l, rfl, l0, l1⟩ : ∃ l : Int, low = .int l ∧ 1 ≤ l ∧ l ≤ 5 := by
    simp only [List.mem_cons, List.not_mem_nil, or_false] at m1
    rcases m1 with rfl | rfl | rfl | rfl <;> exact ⟨_, rfl, by decide, by decide⟩
  obtain ⟨d2, h2, e2, a2, b2, P2, k2⟩ := take_ok (u := 9) P1 (by omega) (by omega) (by omega)
  obtain ⟨d3, h3, e3, a3, b3, P3, k3⟩ := take_ok (u := 9) P2 (by omega) (by omega) (by omega)
  have sl : Sz l 14 := sz_of (by omega) (by omega)
  refine ⟨Rat.divInt (d2 - 4) l, Rat.divInt (d3 - 4) 1, h3, ?_, bq_divInt (m := 3) (n := 3) (by omega) (by omega) (by omega), bq_divInt (m := 3) (n := 3) (by omega) (by omega) (by omega), P3, ?_⟩
  · unfold D__law_small_point
    rw [e_fn (n := 1) (by rfl)]
    unfold F__law_small_point
    simp (disch := (first | assumption | omega | decide)) only [e_seq, e_asg, e_gnm, e_par, e_ret, e_tup, e_lst, e_call, e_cons, e_nil, e_var, e_c, e_bin, List.map_cons, List.map_nil, List.replicate, List.cons_append, List.nil_append, List.getElem?_cons_zero, List.getElem?_cons_succ, List.set_cons_zero, List.set_cons_succ, Option.bind_some, List.length_cons, List.length_nil, Nat.reduceAdd, Nat.reduceLeDiff, if_true, e1, e2, e3, e_subii]
    rw [frac_ok (n := 14) (by omega) (by decide)]
    simp only [Option.bind_some, e3, e_subii]
    rw [frac_ok (b := 1) (by omega) (by decide)]
    simp [pt]
  · exact (Kp.app _).trans (k1.trans (k2.trans k3))
def isW (w : Str) : Prop := w = "stay" ∨ w = "turned" ∨ w = "mirrored" ∨ w = "back"
theorem leader_ok {n c : Nat} {hd : Hd} (P : Pot n hd c) (hc : c ≤ 90000) : ∃ (w : Str) (x y f : Rat) (hd' : Hd), D__law_leader [.ref n] hd = some (.tup [.str w, pt x y, fr f], hd') ∧ isW w ∧ Bq x 4 ∧ Bq y 4 ∧ Bq f 40 ∧ 0 < f ∧ Pot n hd' (c + 5) ∧ Kp n hd hd' := by
  have ln := P.lt
  obtain ⟨d1, h1, e1, a1, b1, P1, k1⟩ := take_ok (u := 13) P (by omega) (by omega) (by omega)
  have l1 := P1.lt
  obtain ⟨low, h2, e2, m2, P2, k2⟩ := of_ok (m := h1.length) (ds := [.int 1, .int 1, .int 3]) (P1.app _) (by omega) (by omega) e_ls_new (by simp) (by simp)
  obtain ⟨l, rfl, l0, l9⟩ : ∃ l : Int, low = .int l ∧ 1 ≤ l ∧ l ≤ 3 := by
    simp only [List.mem_cons, List.not_mem_nil, or_false] at m2
    rcases m2 with rfl | rfl | rfl <;> exact ⟨_, rfl, by decide, by decide⟩
  obtain ⟨d3, h3, e3, a3, b3, P3, k3⟩ := take_ok (u := 13) P2 (by omega) (by omega) (by omega)
  have l3 := P3.lt
  obtain ⟨fa, h4, e4, m4, P4, k4⟩ := of_ok (m := h3.length) (ds := [.tup [.int 1, .int 1], .tup [.int 2, .int 1], .tup [.int 1, .int 2], .tup [.int 7, .int 3], .tup [.int 1000, .int 1], .tup [.int (10 ^ (10 : Int).toNat), .int 1]]) (P3.app _) (by omega) (by omega) e_ls_new (by simp) (by simp)
  obtain ⟨f, rfl, bf, f0⟩ : ∃ f : Rat, fa = fr f ∧ Bq f 40 ∧ 0 < f := by
    simp only [List.mem_cons, List.not_mem_nil, or_false] at m4
    rcases m4 with rfl | rfl | rfl | rfl | rfl | rfl
    · exact ⟨⟨1, 1, by decide, by decide⟩, rfl, ⟨by decide, by decide⟩, by decide +kernel⟩
    · exact ⟨⟨2, 1, by decide, by decide⟩, rfl, ⟨by decide, by decide⟩, by decide +kernel⟩
    · exact ⟨⟨1, 2, by decide, by decide⟩, rfl, ⟨by decide, by decide⟩, by decide +kernel⟩
    · exact ⟨⟨7, 3, by decide, by decide⟩, rfl, ⟨by decide, by decide⟩, by decide +kernel⟩
    · exact ⟨⟨1000, 1, by decide, by decide⟩, rfl, ⟨by decide, by decide⟩, by decide +kernel⟩
    · exact ⟨⟨10000000000, 1, by decide, by decide⟩, rfl, ⟨by decide, by decide⟩, by decide +kernel⟩
  have l4 := P4.lt
  obtain ⟨wd, h5, e5, m5, P5, k5⟩ := of_ok (m := h4.length) (ds := [.str "stay", .str "turned", .str "mirrored", .str "back"]) (P4.app _) (by omega) (by omega) e_ls_new (by simp) (by simp)
  obtain ⟨w, rfl, hw⟩ : ∃ w : Str, wd = .str w ∧ isW w := by
    simp only [List.mem_cons, List.not_mem_nil, or_false] at m5
    rcases m5 with rfl | rfl | rfl | rfl
    · exact ⟨_, rfl, .inl rfl⟩
    · exact ⟨_, rfl, .inr (.inl rfl)⟩
    · exact ⟨_, rfl, .inr (.inr (.inl rfl))⟩
    · exact ⟨_, rfl, .inr (.inr (.inr rfl))⟩
  have sl : Sz l 14 := sz_of (by omega) (by omega)
  refine ⟨w, Rat.divInt (d1 - 6) l, Rat.divInt (d3 - 6) 1, f, h5, ?_, hw, bq_divInt (m := 4) (n := 4) (by omega) (by omega) (by omega), bq_divInt (m := 4) (n := 4) (by omega) (by omega) (by omega), bf, f0, P5, ?_⟩
  · unfold D__law_leader
    rw [e_fn (n := 1) (by rfl)]
    unfold F__law_leader
    simp (disch := (first | assumption | omega | decide)) only [e_seq, e_asg, e_gnm, e_par, e_ret, e_tup, e_lst, e_call, e_cons, e_nil, e_var, e_c, e_bin, e_powii, List.map_cons, List.map_nil, List.replicate, List.cons_append, List.nil_append, List.getElem?_cons_zero, List.getElem?_cons_succ, List.set_cons_zero, List.set_cons_succ, Option.bind_some, List.length_cons, List.length_nil, Nat.reduceAdd, Nat.reduceLeDiff, if_true, e1, e2, e_subii]
    rw [frac_ok (n := 14) (by omega) (by decide)]
    simp only [Option.bind_some, e3, e_subii]
    rw [frac_ok (b := 1) (by omega) (by decide)]
    simp (disch := (first | assumption | omega | decide)) only [Option.bind_some, List.length_cons, List.length_nil, Nat.reduceAdd, Nat.reduceLeDiff, if_true, e4, e5, e_powii, List.getElem?_cons_zero, List.getElem?_cons_succ, List.set_cons_zero, List.set_cons_succ]
    simp [pt]
  · exact k1.trans ((Kp.app _).trans (k2.trans (k3.trans ((Kp.app _).trans (k4.trans ((Kp.app _).trans k5))))))
/-- a leader -/
structure Ld (lead : D) (w : Str) (L : P2 → P2) : Prop where
  ix : ∃ x y, lead = .tup [.str w, x, y]
  isw : isW w
  af : ∃ Δ, Af L Δ ∧ sg Δ = (if w = "mirrored" then -1 else 1)
  led : ∀ (hd : Hd) (p : P2), BP p 450 → D__law_led_point [lead, pq p] hd = some (pq (L p), hd)
  bp : ∀ (p : P2) (k : Nat), BP p k → BP (L p) (k + 50)
  rnd : ∀ (ps : List P2) (z : P2), (∀ e ∈ edgesE ps, e.1 ≠ e.2) → onl ps z = false → rnd (ps.map L) (L z) = rnd ps z
theorem frm1 : D.tup [.int (-1), .int 1] = fr (-1) := rfl
instance bqm1 : Bq (-1) 1 := ⟨by decide, by decide⟩
theorem ld_of {w : Str} {x y f : Rat} (hw : isW w) [Bq x 4] [Bq y 4] [Bq f 40] (f0 : 0 < f) : ∃ L, Ld (.tup [.str w, pt x y, fr f]) w L := by
  have fn : f ≠ 0 := fun e => by rw [e] at f0; exact absurd f0 (by decide +kernel)
  have ff := ff_pos f0
  rcases hw with rfl | rfl | rfl | rfl
  · refine ⟨Lw 1 0 0 1 f x y, ⟨_, _, rfl⟩, .inl rfl, ⟨_, af_of (by decide +kernel) fn, ?_⟩, fun hd p b => ?_, fun p k b => ?_, fun ps z hn ho => rnd_stay f0 hn ho⟩
    · rw [if_neg (by decide +kernel), sg_one (by grind)]
    · unfold D__law_led_point
      rw [e_fn (n := 2) (by rfl)]
      unfold F__law_led_point
      simp (disch := decide) only [pt, e_seq, e_asg, e_gnm, e_par, e_ifs, e_skip, e_bcmp, e_btru, e_bnot, e_band, e_bor, e_tru_bl, e_if, e_un, e_neg, e_not, e_and, e_or, e_bin, e_var, e_c, e_ret, e_expr, e_tup, e_lst, e_call, e_cons, e_nil, e_gtp, e_gscons, e_gsnil, List.map_cons, List.map_nil, List.replicate, List.cons_append, List.nil_append, List.append_nil, List.getElem?_cons_zero, List.getElem?_cons_succ, List.set_cons_zero, List.set_cons_succ, Option.bind_some, Option.map_some, List.length_cons, List.length_nil, if_true, if_false, decide_true, decide_false, Bool.not_true, Bool.not_false, Bool.false_eq_true, Nat.reduceAdd, Nat.reduceLeDiff, e_ness, e_eqss, e_addii, e_subii, e_cmp, e_inti, e_intb, e_eqss, at0, at1, at2, e_ixt, show decide (("stay" : Str) = "turned") = false by decide +kernel, show decide (("stay" : Str) = "mirrored") = false by decide +kernel, show decide (("stay" : Str) = "back") = false by decide +kernel, times_ok, plus_ok]
      simp only [Lw]
      congr 6 <;> grind
    · exact ⟨(show Bq (f * (1 * p.1 + 0 * p.2) + x) _ from by rw [show f * (1 * p.1 + 0 * p.2) + x = f * p.1 + x by grind]; exact inferInstance).mono (by omega), (show Bq (f * (0 * p.1 + 1 * p.2) + y) _ from by rw [show f * (0 * p.1 + 1 * p.2) + y = f * p.2 + y by grind]; exact inferInstance).mono (by omega)⟩
  · refine ⟨Lw 0 (-1) 1 0 f x y, ⟨_, _, rfl⟩, .inr (.inl rfl), ⟨_, af_of (by decide +kernel) fn, ?_⟩, fun hd p b => ?_, fun p k b => ?_, fun ps z hn ho => rnd_turned f0 hn ho⟩
    · rw [if_neg (by decide +kernel), sg_one (by grind)]
    · unfold D__law_led_point
      rw [e_fn (n := 2) (by rfl)]
      unfold F__law_led_point
      simp (disch := decide) only [pt, e_seq, e_asg, e_gnm, e_par, e_ifs, e_skip, e_bcmp, e_btru, e_bnot, e_band, e_bor, e_tru_bl, e_if, e_un, e_neg, e_not, e_and, e_or, e_bin, e_var, e_c, e_ret, e_expr, e_tup, e_lst, e_call, e_cons, e_nil, e_gtp, e_gscons, e_gsnil, List.map_cons, List.map_nil, List.replicate, List.cons_append, List.nil_append, List.append_nil, List.getElem?_cons_zero, List.getElem?_cons_succ, List.set_cons_zero, List.set_cons_succ, Option.bind_some, Option.map_some, List.length_cons, List.length_nil, if_true, if_false, decide_true, decide_false, Bool.not_true, Bool.not_false, Bool.false_eq_true, Nat.reduceAdd, Nat.reduceLeDiff, e_ness, e_eqss, e_addii, e_subii, e_cmp, e_inti, e_intb, e_eqss, at0, at1, at2, e_ixt, show decide (("turned" : Str) = "turned") = true by decide +kernel, frm1, times_ok, plus_ok]
      simp only [Lw]
      congr 6 <;> grind
    · exact ⟨(show Bq (f * (0 * p.1 + -1 * p.2) + x) _ from by rw [show f * (0 * p.1 + -1 * p.2) + x = f * (-p.2) + x by grind]; exact inferInstance).mono (by omega), (show Bq (f * (1 * p.1 + 0 * p.2) + y) _ from by rw [show f * (1 * p.1 + 0 * p.2) + y = f * p.1 + y by grind]; exact inferInstance).mono (by omega)⟩
  · refine ⟨Lw (-1) 0 0 1 f x y, ⟨_, _, rfl⟩, .inr (.inr (.inl rfl)), ⟨_, af_of (by decide +kernel) fn, ?_⟩, fun hd p b => ?_, fun p k b => ?_, fun ps z hn ho => rnd_mirrored f0 hn ho⟩
    · rw [if_pos rfl]
      rcases sg_cases (f * f * (-1 * 1 - 0 * 0)) with ⟨k, e⟩ | ⟨k, e⟩ | ⟨k, e⟩ <;> first | exact e | grind
    · unfold D__law_led_point
      rw [e_fn (n := 2) (by rfl)]
      unfold F__law_led_point
      simp (disch := decide) only [pt, e_seq, e_asg, e_gnm, e_par, e_ifs, e_skip, e_bcmp, e_btru, e_bnot, e_band, e_bor, e_tru_bl, e_if, e_un, e_neg, e_not, e_and, e_or, e_bin, e_var, e_c, e_ret, e_expr, e_tup, e_lst, e_call, e_cons, e_nil, e_gtp, e_gscons, e_gsnil, List.map_cons, List.map_nil, List.replicate, List.cons_append, List.nil_append, List.append_nil, List.getElem?_cons_zero, List.getElem?_cons_succ, List.set_cons_zero, List.set_cons_succ, Option.bind_some, Option.map_some, List.length_cons, List.length_nil, if_true, if_false, decide_true, decide_false, Bool.not_true, Bool.not_false, Bool.false_eq_true, Nat.reduceAdd, Nat.reduceLeDiff, e_ness, e_eqss, e_addii, e_subii, e_cmp, e_inti, e_intb, e_eqss, at0, at1, at2, e_ixt, show decide (("mirrored" : Str) = "turned") = false by decide +kernel, show decide (("mirrored" : Str) = "mirrored") = true by decide +kernel, frm1, times_ok, plus_ok]
      simp only [Lw]
      congr 6 <;> grind
    · exact ⟨(show Bq (f * (-1 * p.1 + 0 * p.2) + x) _ from by rw [show f * (-1 * p.1 + 0 * p.2) + x = f * (-p.1) + x by grind]; exact inferInstance).mono (by omega), (show Bq (f * (0 * p.1 + 1 * p.2) + y) _ from by rw [show f * (0 * p.1 + 1 * p.2) + y = f * p.2 + y by grind]; exact inferInstance).mono (by omega)⟩
  · refine ⟨Lw (-1) 0 0 (-1) f x y, ⟨_, _, rfl⟩, .inr (.inr (.inr rfl)), ⟨_, af_of (by decide +kernel) fn, ?_⟩, fun hd p b => ?_, fun p k b => ?_, fun ps z hn ho => rnd_back f0 hn ho⟩
    · rw [if_neg (by decide +kernel), sg_one (by grind)]
    · unfold D__law_led_point
      rw [e_fn (n := 2) (by rfl)]
      unfold F__law_led_point
      simp (disch := decide) only [pt, e_seq, e_asg, e_gnm, e_par, e_ifs, e_skip, e_bcmp, e_btru, e_bnot, e_band, e_bor, e_tru_bl, e_if, e_un, e_neg, e_not, e_and, e_or, e_bin, e_var, e_c, e_ret, e_expr, e_tup, e_lst, e_call, e_cons, e_nil, e_gtp, e_gscons, e_gsnil, List.map_cons, List.map_nil, List.replicate, List.cons_append, List.nil_append, List.append_nil, List.getElem?_cons_zero, List.getElem?_cons_succ, List.set_cons_zero, List.set_cons_succ, Option.bind_some, Option.map_some, List.length_cons, List.length_nil, if_true, if_false, decide_true, decide_false, Bool.not_true, Bool.not_false, Bool.false_eq_true, Nat.reduceAdd, Nat.reduceLeDiff, e_ness, e_eqss, e_addii, e_subii, e_cmp, e_inti, e_intb, e_eqss, at0, at1, at2, e_ixt, show decide (("back" : Str) = "turned") = false by decide +kernel, show decide (("back" : Str) = "mirrored") = false by decide +kernel, show decide (("back" : Str) = "back") = true by decide +kernel, frm1, times_ok, plus_ok]
      simp only [Lw]
      congr 6 <;> grind
    · exact ⟨(show Bq (f * (-1 * p.1 + 0 * p.2) + x) _ from by rw [show f * (-1 * p.1 + 0 * p.2) + x = f * (-p.1) + x by grind]; exact inferInstance).mono (by omega), (show Bq (f * (0 * p.1 + -1 * p.2) + y) _ from by rw [show f * (0 * p.1 + -1 * p.2) + y = f * (-p.2) + y by grind]; exact inferInstance).mono (by omega)⟩
theorem divInt_over (r s : Rat) (h : s ≠ 0) : Rat.divInt (r.num * s.den) (r.den * s.num) = r / s := by
  rw [Rat.div_def, Rat.inv_def]
  conv => rhs; lhs; rw [← Rat.num_divInt_den r]
  rw [Rat.divInt_mul_divInt]
theorem num_ne {s : Rat} (h : s ≠ 0) : s.num ≠ 0 := fun z => h (Rat.num_eq_zero.mp z)
instance bqDiv {r s : Rat} {a b : Nat} [x : Bq r a] [y : Bq s b] : Bq (r / s) (a + b) := by
  by_cases h : s = 0
  · have : r / s = 0 := by rw [h, Rat.div_def]; simp
    rw [this]
    have p : 1 ≤ 2 ^ (a + b) := Nat.one_le_two_pow
    have q : a + b ≠ 0 := fun z => by
      have := y.den
      have := s.den_pos
      have : b = 0 := by omega
      subst this
      simp at *
      omega
    have p : 2 ^ 1 ≤ 2 ^ (a + b) := Nat.pow_le_pow_right (by decide) (by omega)
    exact ⟨by simp; omega, by simp; omega⟩
  · rw [← divInt_over r s h]
    have n0 := num_ne h
    have d0 := den_ne r
    have h1 : (r.num * s.den).natAbs < 2 ^ (a + b) := (@szMul r.num s.den a b inferInstance inferInstance).h
    have h2 : ((r.den : Int) * s.num).natAbs < 2 ^ (a + b) := (@szMul r.den s.num a b inferInstance inferInstance).h
    have := bq_divInt h1 h2 (Int.mul_ne_zero d0 n0)
    simpa using this
theorem mt_vb {a b c d : P2} [BP a 20] [BP b 20] [BP c 20] [BP d 20] : VB (mt a b c d) 420 := by
  have bp : BP (pp a b c d) 420 := by
    have bh : Bq (hh a b c d) 330 := by unfold hh dt; infer_instance
    unfold pp
    exact ⟨(show Bq (a.1 + hh a b c d * (b.1 - a.1)) _ from inferInstance).mono (by decide), (show Bq (a.2 + hh a b c d * (b.2 - a.2)) _ from inferInstance).mono (by decide)⟩
  have bi : BP (mx (mn a b) (mn c d)) 420 := (show BP (mx (mn a b) (mn c d)) _ from inferInstance).mono (by decide)
  unfold mt
  split
  · split
    · unfold inl
      split
      · exact bi
      · split <;> exact trivial
    · exact trivial
  · split
    · exact trivial
    · split
      · exact bp
      · exact bp
theorem share_rat {d b : Int} (h0 : 0 ≤ d) (h1 : d ≤ b) (hb : 0 < b) : 0 ≤ Rat.divInt d b ∧ Rat.divInt d b ≤ 1 := by
  have hb' : b ≠ 0 := by omega
  refine ⟨Rat.divInt_nonneg h0 (by omega), ?_⟩
  have e : (1 : Rat) - Rat.divInt d b = Rat.divInt (b - d) b := by
    have h1 : (1 : Rat) = Rat.divInt b b := by rw [Rat.divInt_self' hb']
    rw [h1, Rat.divInt_sub_divInt _ _ hb' hb', Rat.divInt_eq_divInt_iff (Int.mul_ne_zero hb' hb') hb']
    grind
  have : 0 ≤ (1 : Rat) - Rat.divInt d b := by rw [e]; exact Rat.divInt_nonneg (by omega) (by omega)
  grind
abbrev TQ : Str := "_law_inside.<locals>.<lambda>"
theorem tab_app {T : Addr} {q : Str} {hd l : Hd} (h : Ob.tab T q ∈ hd) : Ob.tab T q ∈ hd ++ l := List.mem_append_left _ h
theorem tab_kp {T : Addr} {q : Str} {n c : Nat} {hd hd' : Hd} (h : Ob.tab T q ∈ hd) (P : Pot n hd c) (k : Kp n hd hd') : Ob.tab T q ∈ hd' := by
  obtain ⟨i, hi, e⟩ := List.getElem_of_mem h
  obtain ⟨o, m, k', e2, _⟩ := P.ex
  have ne : i ≠ n := fun z => by subst z; rw [List.getElem?_eq_getElem hi, e] at e2; cases e2
  have := k.2 i ne hi
  rw [List.getElem?_eq_getElem hi, e] at this
  exact List.mem_of_getElem? this
theorem range4 : rangeL 0 4 = [.int 0, .int 1, .int 2, .int 3] := rfl
theorem own4_ok {n c : Nat} {hd : Hd} {e1 e2 e3 e4 e5 e6 e7 e8 e9 e10 e11 e12 e13 e14 : Option D} (P : Pot n hd c) (hc : c ≤ 80000) : ∃ (p q r s : P2) (hd' : Hd), mComp (iRange1 (mCons (mC (.int 4)) mNil)) (gNm 13) bYes (mCall D__law_small_point (mCons (mVar 0) mNil)) [13] [some (.ref n), e1, e2, e3, e4, e5, e6, e7, e8, e9, e10, e11, e12, e13, e14] hd = some (.ref hd'.length, hd' ++ [.lst ([p, q, r, s].map pq)]) ∧ BP p 20 ∧ BP q 20 ∧ BP r 20 ∧ BP s 20 ∧ Pot n hd' (c + 12) ∧ Kp n hd hd' := by
  obtain ⟨x1, y1, h1, f1, a1, b1, P1, k1⟩ := small_ok P (by omega)
  obtain ⟨x2, y2, h2, f2, a2, b2, P2, k2⟩ := small_ok P1 (by omega)
  obtain ⟨x3, y3, h3, f3, a3, b3, P3, k3⟩ := small_ok P2 (by omega)
  obtain ⟨x4, y4, h4, f4, a4, b4, P4, k4⟩ := small_ok P3 (by omega)
  refine ⟨(x1, y1), (x2, y2), (x3, y3), (x4, y4), h4, ?_, ⟨a1.mono (by decide), b1.mono (by decide)⟩, ⟨a2.mono (by decide), b2.mono (by decide)⟩, ⟨a3.mono (by decide), b3.mono (by decide)⟩, ⟨a4.mono (by decide), b4.mono (by decide)⟩, P4, k1.trans (k2.trans (k3.trans k4))⟩
  simp only [e_comp, e_irange1, e_cons, e_nil, e_c, Option.bind_some, show (-1000000 : Int) ≤ 4 ∧ (4 : Int) ≤ 1000000 by decide, and_self, if_true, range4, e_wipe1, e_wipe0, List.set_cons_zero, List.set_cons_succ, e_comp1 keep_nil, e_comp0 keep_nil, e_gnm, e_yes, e_call, e_var, List.getElem?_cons_zero, List.getElem?_cons_succ, f1, f2, f3, f4, List.length_cons, List.length_nil, Nat.reduceAdd, Nat.reduceLeDiff, List.map_cons, List.map_nil]
theorem toldc_ok {m s k : Nat} {hd : Hd} {env : Ev} {ps : List P2} (he : env[s]? = some (some (.ref m))) (hs : env.length = 15) (hl : lsOf hd m = some (ps.map pq)) (hb : ∀ p ∈ ps, BP p k) (hk : (decide (k ≤ 3000)) = true) (hn : ps.length ≤ 1000) :
    mComp (iSeq (mVar s)) (gNm 14) bYes (mCall D__law_point_told (mCons (mVar 14) mNil)) [14] env hd = some (.ref hd.length, hd ++ [.lst (ps.map hq)]) := by
  have hk' : k ≤ 3000 := of_decide_eq_true hk
  have e3 := comp_stm (k := [(m, ps.map pq)]) (g := gNm 14) (te := mCall D__law_point_told (mCons (mVar 14) mNil)) (i := pq) (f := hq) ps (env.set 14 none) hd (by rw [keep_cons]; exact ⟨hl, keep_nil⟩) (fun p hp => by
    have b := hb p hp
    simp only [e_gnm, Option.bind_some, e_call, e_cons, e_nil, e_var]
    rw [List.getElem?_set_self (by rw [List.length_set, hs]; decide)]
    simp only [Option.bind_some]
    exact told_ok (by simp; omega))
  simp only [e_comp, e_iseq_tup, e_var, he, Option.bind_some, hl, Option.map_some, e_wipe1, e_wipe0]
  rw [e3]
  simp only [Option.bind_some, List.length_map]
  rw [if_pos (by omega)]
theorem lawtold_ok {m k : Nat} {hd : Hd} {lead : D} {w : Str} {L : P2 → P2} {ps : List P2} (l : Ld lead w L) (hl : lsOf hd m = some (ps.map pq)) (hb : ∀ p ∈ ps, BP p k) (hk : (decide (k ≤ 450)) = true) (hn : ps.length ≤ 1000) :
    D__law_told [lead, .ref m] hd = some (.ref hd.length, hd ++ [.lst (ps.map fun p => hq (L p))]) := by
  have hk' : k ≤ 450 := of_decide_eq_true hk
  have e3 := comp_stm (k := [(m, ps.map pq)]) (g := gNm 2) (te := mCall D__law_point_told (mCons (mCall D__law_led_point (mCons (mVar 0) (mCons (mVar 2) mNil))) mNil)) (i := pq) (f := fun p => hq (L p)) ps [some lead, some (.ref m), none] hd (by rw [keep_cons]; exact ⟨hl, keep_nil⟩) (fun p hp => by
    have b := hb p hp
    have b2 := l.bp p k b
    simp only [e_gnm, Option.bind_some, e_call, e_cons, e_nil, e_var, List.set_cons_zero, List.set_cons_succ, List.getElem?_cons_zero, List.getElem?_cons_succ]
    rw [l.led hd p (b.mono hk')]
    simp only [Option.bind_some]
    exact told_ok (by simp; omega))
  unfold D__law_told
  rw [e_fn (n := 2) (by rfl)]
  unfold F__law_told
  simp only [e_ret, e_comp, e_iseq_tup, e_var, List.map_cons, List.map_nil, List.replicate, List.cons_append, List.nil_append, List.getElem?_cons_zero, List.getElem?_cons_succ, Option.bind_some, hl, Option.map_some, e_wipe1, e_wipe0, List.set_cons_zero, List.set_cons_succ]
  rw [e3]
  simp only [Option.bind_some, List.length_map]
  rw [if_pos (by omega)]
  rfl
theorem div_h {x y : Rat} : Rat.divInt (hX x y) (hB x y) = x ∧ Rat.divInt (hY x y) (hB x y) = y := by
  have b := int_pos_rat (hB_pos x y)
  have b0 : (hB x y : Rat) ≠ 0 := by grind
  constructor
  · rw [Rat.divInt_eq_div, hX_eq]
    refine cancel b0 ?_
    rw [Rat.div_mul_cancel b0]
  · rw [Rat.divInt_eq_div, hY_eq]
    refine cancel b0 ?_
    rw [Rat.div_mul_cancel b0]
theorem own_ok {hd : Hd} {p : P2} [b : BP p 450] : D__law_point_own [hq p] hd = some (pq p, hd) := by
  have h0 : hB p.1 p.2 ≠ 0 := by have := hB_pos p.1 p.2; omega
  have f1 := frac_ok (hd := hd) (t := hX p.1 p.2) (b := hB p.1 p.2) h0 (by decide)
  have f2 := frac_ok (hd := hd) (t := hY p.1 p.2) (b := hB p.1 p.2) h0 (by decide)
  rw [div_h.1] at f1
  rw [div_h.2] at f2
  unfold D__law_point_own
  rw [e_fn (n := 1) (by rfl)]
  unfold F__law_point_own
  simp only [hq]
  unfold hp
  simp [f1, f2, pt]
theorem ledtold_ok {hd : Hd} {lead : D} {w : Str} {L : P2 → P2} {p : P2} {k : Nat} (l : Ld lead w L) (b : BP p k) (hk : (decide (k ≤ 450)) = true) : D__law_led_told [lead, hq p] hd = some (hq (L p), hd) := by
  have hk' : k ≤ 450 := of_decide_eq_true hk
  have b1 : BP p 450 := b.mono hk'
  have b2 := l.bp p 450 b1
  have e1 := own_ok (hd := hd) (p := p)
  have e2 := l.led hd p b1
  have e3 : D__law_point_told [pq (L p)] hd = some (hq (L p), hd) := told_ok (by decide)
  unfold D__law_led_told
  rw [e_fn (n := 2) (by rfl)]
  unfold F__law_led_told
  simp only [e_ret, e_call, e_cons, e_nil, e_var, List.map_cons, List.map_nil, List.replicate, List.append_nil, List.getElem?_cons_zero, List.getElem?_cons_succ, Option.bind_some, e1, e2, e3]
theorem vb_af {L : P2 → P2} {lead : D} {w : Str} (l : Ld lead w L) {v : V} {n : Nat} (h : VB v n) : VB (mpV L v) (n + 50) := by
  cases v with
  | none => exact trivial
  | along => exact trivial
  | touch p => exact l.bp p n h
  | cross p => exact l.bp p n h
/-- what is due of a meeting that is led over -/
theorem due_ok {hd : Hd} {lead : D} {w : Str} {L : P2 → P2} {v : V} (l : Ld lead w L) (h : VB v 420) {e0 e1 e2 e3 e4 e6 e8 e9 e10 e11 e12 e13 e14 : Option D} :
    mIf (bCmp (mBin eqD (mCall lenD (mCons (mVar 5) mNil)) (mC (.int 1)))) (mVar 5) (mTup (mCons (mBin idxD (mVar 5) (mC (.int 0))) (mCons (mCall D__law_led_told (mCons (mVar 7) (mCons (mBin idxD (mVar 5) (mC (.int 1))) mNil))) mNil))) [e0, e1, e2, e3, e4, some (vD v), e6, some lead, e8, e9, e10, e11, e12, e13, e14] hd = some (vD (mpV L v), hd) := by
  cases v with
  | none => simp [vD, mpV]
  | along => simp [vD, mpV]
  | touch p =>
    have e := ledtold_ok (hd := hd) (p := p) l h (by decide)
    simp only [hq] at e
    simp [vD, mpV, e]
  | cross p =>
    have e := ledtold_ok (hd := hd) (p := p) l h (by decide)
    simp only [hq] at e
    simp [vD, mpV, e]
def lin (ps : List P2) : List P2 := ((edgesE ps).filter fun e => !decide (e.2 = e.1)).map fun e => e.2
theorem linec_ok {m : Nat} {hd : Hd} {p q r s : P2} {env : Ev} (he : env[8]? = some (some (.ref m))) (hs : env.length = 15) (hl : lsOf hd m = some ([p, q, r, s].map pq)) :
    mComp (iRange1 (mCons (mC (.int 4)) mNil)) (gNm 12) (bCmp (mBin neD (mBin idxD (mVar 8) (mVar 12)) (mBin idxD (mVar 8) (mBin subD (mVar 12) (mC (.int 1)))))) (mBin idxD (mVar 8) (mVar 12)) [12] env hd = some (.ref hd.length, hd ++ [.lst ((lin [p, q, r, s]).map pq)]) := by
  have g8 : ∀ o : Option D, ((env.set 12 none).set 12 o)[8]? = some (some (.ref m)) := fun o => by rw [List.getElem?_set_ne (by decide), List.getElem?_set_ne (by decide), he]
  have g12 : ∀ d : D, ((env.set 12 none).set 12 (some d))[12]? = some (some d) := fun d => List.getElem?_set_self (by rw [List.length_set, hs]; decide)
  have e3 := comp_edges (k := []) (v := 12) (tt := bCmp (mBin neD (mBin idxD (mVar 8) (mVar 12)) (mBin idxD (mVar 8) (mBin subD (mVar 12) (mC (.int 1)))))) (te := mBin idxD (mVar 8) (mVar 12)) (i := pq) (ps := [p, q, r, s]) (b := fun e => !decide (e.2 = e.1)) (f := fun e => pq e.2) (env := env.set 12 none) (hd := hd) keep_nil (fun j e h1 h2 => by
    constructor
    · simp only [e_bcmp, e_bin, e_var, e_c, g8, g12, Option.bind_some, e_subii, e_ixr, hl, h1, h2, Option.map_some, ne_pt]
    · intro _
      simp only [e_bin, e_var, g8, g12, Option.bind_some, e_ixr, hl, h1, Option.map_some])
  simp only [e_comp, e_irange1, e_cons, e_nil, e_c, Option.bind_some, show (-1000000 : Int) ≤ 4 ∧ (4 : Int) ≤ 1000000 by decide, and_self, if_true, e_wipe1, e_wipe0]
  rw [show (4 : Int) = (([p, q, r, s].length : Nat) : Int) by rfl, e3]
  have hn : ((edgesE [p, q, r, s]).filter fun e => !decide (e.2 = e.1)).length ≤ 4 := Nat.le_trans (List.length_filter_le _ _) (by rw [edges_len]; exact Nat.le_refl 4)
  simp only [Option.bind_some, List.length_map]
  rw [if_pos (by omega)]
  simp [lin]
theorem anyc_ok {m : Nat} {hd : Hd} {ps : List P2} {env : Ev} (he : env[3]? = some (some (.ref m))) (hs : env.length = 15) (hl : lsOf hd m = some (ps.map pq)) (hn : ps.length ≤ 1000) :
    mComp (iRange1 (mCons (mCall lenD (mCons (mVar 3) mNil)) mNil)) (gNm 12) bYes (mBin eqD (mBin idxD (mVar 3) (mVar 12)) (mBin idxD (mVar 3) (mBin subD (mVar 12) (mC (.int 1))))) [12] env hd = some (.ref hd.length, hd ++ [.lst ((edgesE ps).map fun e => D.bl (decide (e.2 = e.1)))]) := by
  have g3 : ∀ o : Option D, ((env.set 12 none).set 12 o)[3]? = some (some (.ref m)) := fun o => by rw [List.getElem?_set_ne (by decide), List.getElem?_set_ne (by decide), he]
  have g12 : ∀ d : D, ((env.set 12 none).set 12 (some d))[12]? = some (some d) := fun d => List.getElem?_set_self (by rw [List.length_set, hs]; decide)
  have e3 := comp_edges (k := []) (v := 12) (tt := bYes) (te := mBin eqD (mBin idxD (mVar 3) (mVar 12)) (mBin idxD (mVar 3) (mBin subD (mVar 12) (mC (.int 1))))) (i := pq) (ps := ps) (b := fun _ => true) (f := fun e => D.bl (decide (e.2 = e.1))) (env := env.set 12 none) (hd := hd) keep_nil (fun j e h1 h2 => by
    constructor
    · rfl
    · intro _
      simp only [e_bin, e_var, e_c, g3, g12, Option.bind_some, e_subii, e_ixr, hl, h1, h2, Option.map_some, eq_pt])
  have ft : (edgesE ps).filter (fun _ => true) = edgesE ps := List.filter_eq_self.mpr fun _ _ => rfl
  simp only [e_comp, e_irange1, e_cons, e_nil, e_call, e_var, he, e_lenr, hl, Option.bind_some, Option.map_some, List.length_map, e_wipe1, e_wipe0]
  rw [if_pos (by omega)]
  simp only [Option.bind_some]
  rw [e3, ft]
  simp only [Option.bind_some, List.length_map, edges_len]
  rw [if_pos (by omega)]
theorem inW_repr (b r : Bool) : ∃ z, ∀ hd : Hd, reprD [inW b r] hd = some (.str z, hd) := by
  cases b with
  | true => exact ⟨PyData.shown (.tuple [.bool true, .none]), fun hd => repr_of (by simp [inW, toPy, optL]) (by decide) (by decide)⟩
  | false => exact ⟨PyData.shown (.tuple [.bool false, .bool r]), fun hd => repr_of (by simp [inW, toPy, optL]) (by cases r <;> decide) (by cases r <;> decide)⟩
theorem inW_isn {b r : Bool} {hd : Hd} : isnD (inW b r) .non hd = some (.bl true, hd) := by
  cases b <;> rfl
theorem repr_i1 {hd : Hd} {d : Int} [Sz d 1] : reprD [.int d] hd = some (.str (PyData.shown (.int d)), hd) :=
  repr_of (by simp [toPy]) (show_int (n := 1) (by omega)) (by simp [pw])
theorem repr_hpz {x y : Rat} {a b : Nat} [Bq x a] [Bq y b] (h : (decide (a + b ≤ 1900)) = true) : ∃ z, ∀ hd : Hd, reprD [hp x y] hd = some (.str z, hd) := by
  have h' : a + b ≤ 1900 := of_decide_eq_true h
  refine ⟨PyData.shown (.tuple [.int (hX x y), .int (hY x y), .int (hB x y)]), fun hd => repr_of (by simp [hp, toPy, optL]) ?_ (by simp [pw, pwL])⟩
  simp only [PyData.showable, PyData.showableAll, Bool.and_true, Bool.and_eq_true]
  exact ⟨show_int (n := a + b) (by omega), show_int (n := b + a) (by omega), show_int (n := a + b) (by omega)⟩
noncomputable def tail (cl : Str → Addr) (T : Addr) : SM := (mSeq (mAsg (mComp (iRange1 (mCons (mC (.int 4)) mNil)) (gNm 12) (bCmp (mBin neD (mBin idxD (mVar 8) (mVar 12)) (mBin idxD (mVar 8) (mBin subD (mVar 12) (mC (.int 1)))))) (mBin idxD (mVar 8) (mVar 12)) [12]) (gNm 3)) (mSeq (mIfS (bOr (bCmp (mBin (cmpI fun i j => decide (i < j)) (mCall lenD (mCons (mVar 3) mNil)) (mC (.int 3)))) (bTru (mCall anyD (mCons (mComp (iRange1 (mCons (mCall lenD (mCons (mVar 3) mNil)) mNil)) (gNm 12) bYes (mBin eqD (mBin idxD (mVar 3) (mVar 12)) (mBin idxD (mVar 3) (mBin subD (mVar 12) (mC (.int 1))))) [12]) mNil)))) (mRet (mC (.bl true))) mSkip) (mSeq (mAsg (mCall D__law_small_point (mCons (mVar 0) mNil)) (gNm 4)) (mSeq (mAsg (mCall (D__law_inside cl T) (mCons (mComp (iSeq (mVar 3)) (gNm 14) bYes (mCall D__law_point_told (mCons (mVar 14) mNil)) [14]) (mCons (mCall D__law_point_told (mCons (mVar 4) mNil)) mNil))) (gNm 5)) (mSeq (mAsg (mCall (D__law_inside cl T) (mCons (mCall D__law_told (mCons (mVar 7) (mCons (mVar 3) mNil))) (mCons (mBin idxD (mCall D__law_told (mCons (mVar 7) (mCons (mLst (mCons (mVar 4) mNil)) mNil))) (mC (.int 0))) mNil))) (gNm 6)) (mRet (mAnd (mBin isnD (mVar 5) (mC .non)) (mBin eqD (mCall reprD (mCons (mVar 5) mNil)) (mCall reprD (mCons (mVar 6) mNil))))))))))
theorem F_split (cl : Str → Addr) (T : Addr) : F__law_right cl T = (mSeq (mAsg (mTup (mCons (mCall D__law_leader (mCons (mVar 0) mNil)) (mCons (mComp (iRange1 (mCons (mC (.int 4)) mNil)) (gNm 13) bYes (mCall D__law_small_point (mCons (mVar 0) mNil)) [13]) mNil))) (gTp (gsCons (gNm 7) (gsCons (gNm 8) gsNil)))) (mSeq (mPar 9 10 (mCons (mComp (iSeq (mVar 8)) (gNm 14) bYes (mCall D__law_point_told (mCons (mVar 14) mNil)) [14]) (mCons (mCall D__law_told (mCons (mVar 7) (mCons (mVar 8) mNil))) mNil))) (mSeq (mAsg (mIf (bCmp (mBin eqD (mBin idxD (mVar 7) (mC (.int 0))) (mC (.str "mirrored")))) (mUn negD (mC (.int 1))) (mC (.int 1))) (gNm 1)) (mSeq (mIfS (bCmp (mBin neD (mCall reprD (mCons (mCall D_side (mCons (mBin idxD (mVar 10) (mC (.int 0))) (mCons (mBin idxD (mVar 10) (mC (.int 1))) (mCons (mBin idxD (mVar 10) (mC (.int 2))) mNil)))) mNil)) (mCall reprD (mCons (mBin mulD (mVar 1) (mCall D_side (mCons (mBin idxD (mVar 9) (mC (.int 0))) (mCons (mBin idxD (mVar 9) (mC (.int 1))) (mCons (mBin idxD (mVar 9) (mC (.int 2))) mNil))))) mNil)))) (mRet (mC (.bl false))) mSkip) (mSeq (mAsg (mCall D__law_frac (mCons (mCall D__law_take (mCons (mVar 0) (mCons (mC (.int 6)) mNil))) (mCons (mC (.int 5)) mNil))) (gNm 2)) (mSeq (mIfS (bCmp (mBin neD (mCall reprD (mCons (mCall D_between (mCons (mBin idxD (mVar 10) (mC (.int 0))) (mCons (mBin idxD (mVar 10) (mC (.int 1))) (mCons (mVar 2) mNil)))) mNil)) (mCall reprD (mCons (mCall D__law_led_told (mCons (mVar 7) (mCons (mCall D_between (mCons (mBin idxD (mVar 9) (mC (.int 0))) (mCons (mBin idxD (mVar 9) (mC (.int 1))) (mCons (mVar 2) mNil)))) mNil))) mNil)))) (mRet (mC (.bl false))) mSkip) (mSeq (mIfS (bAnd (bCmp (mBin neD (mBin idxD (mVar 8) (mC (.int 0))) (mBin idxD (mVar 8) (mC (.int 1))))) (bCmp (mBin neD (mBin idxD (mVar 8) (mC (.int 2))) (mBin idxD (mVar 8) (mC (.int 3)))))) (mSeq (mPar 5 6 (mCons (mCall D_meet (mCons (mBin idxD (mVar 9) (mC (.int 0))) (mCons (mBin idxD (mVar 9) (mC (.int 1))) (mCons (mBin idxD (mVar 9) (mC (.int 2))) (mCons (mBin idxD (mVar 9) (mC (.int 3))) mNil))))) (mCons (mCall D_meet (mCons (mBin idxD (mVar 10) (mC (.int 0))) (mCons (mBin idxD (mVar 10) (mC (.int 1))) (mCons (mBin idxD (mVar 10) (mC (.int 2))) (mCons (mBin idxD (mVar 10) (mC (.int 3))) mNil))))) mNil))) (mSeq (mAsg (mIf (bCmp (mBin eqD (mCall lenD (mCons (mVar 5) mNil)) (mC (.int 1)))) (mVar 5) (mTup (mCons (mBin idxD (mVar 5) (mC (.int 0))) (mCons (mCall D__law_led_told (mCons (mVar 7) (mCons (mBin idxD (mVar 5) (mC (.int 1))) mNil))) mNil)))) (gNm 11)) (mIfS (bCmp (mBin neD (mCall reprD (mCons (mVar 6) mNil)) (mCall reprD (mCons (mVar 11) mNil)))) (mRet (mC (.bl false))) mSkip))) mSkip) (tail cl T)))))))) := rfl
theorem lin_bp {ps : List P2} {k : Nat} (h : ∀ p ∈ ps, BP p k) : ∀ p ∈ lin ps, BP p k := fun p hp => by
  unfold lin at hp
  obtain ⟨e, he, rfl⟩ := List.mem_map.mp hp
  exact h _ (mem_edges (List.mem_filter.mp he).1).2
theorem rest_ok {cl : Str → Addr} {T : Addr} {n c m : Nat} {hd : Hd} {lead : D} {w : Str} {L : P2 → P2} {p q r s : P2} {e1 e2 e5 e6 e9 e10 e11 : Option D} (l : Ld lead w L) (bp : BP p 20) (bq : BP q 20) (br : BP r 20) (bs : BP s 20) (P : Pot n hd c) (hc : c ≤ 80000) (ht : Ob.tab T TQ ∈ hd) (hl : lsOf hd m = some ([p, q, r, s].map pq)) :
    ∃ env' hd', tail cl T [some (.ref n), e1, e2, none, none, e5, e6, some lead, some (.ref m), e9, e10, e11, none, none, none] hd = some (.rt (.bl true), env', hd') ∧ Kp n hd hd' := by
  have hb : ∀ x ∈ [p, q, r, s], BP x 20 := fun x hx => by
    simp only [List.mem_cons, List.not_mem_nil, or_false] at hx
    rcases hx with rfl | rfl | rfl | rfl <;> assumption
  have lb := lin_bp hb
  have ll : (lin [p, q, r, s]).length ≤ 4 := by
    unfold lin
    rw [List.length_map]
    exact Nat.le_trans (List.length_filter_le _ _) (by rw [edges_len]; exact Nat.le_refl 4)
  have f1 := linec_ok (m := m) (hd := hd) (p := p) (q := q) (r := r) (s := s) (env := [some (.ref n), e1, e2, none, none, e5, e6, some lead, some (.ref m), e9, e10, e11, none, none, none]) rfl rfl hl
  generalize lin [p, q, r, s] = ps at *
  obtain ⟨h1, g1⟩ : ∃ h1, hd ++ [Ob.lst (ps.map pq)] = h1 := ⟨_, rfl⟩
  have l1 : lsOf h1 hd.length = some (ps.map pq) := by rw [← g1]; exact e_ls_new
  have P1 : Pot n h1 c := by rw [← g1]; exact P.app _
  have k1 : Kp n hd h1 := by rw [← g1]; exact .app _
  rw [g1] at f1
  have ln := P.lt
  by_cases c3 : ps.length < 3
  · refine ⟨[some (.ref n), e1, e2, some (.ref hd.length), none, e5, e6, some lead, some (.ref m), e9, e10, e11, none, none, none], h1, ?_, k1⟩
    unfold tail
    have c3' : ((ps.length : Nat) : Int) < 3 := by omega
    rw [e_seq, e_asg, f1]
    simp [l1, c3']
  have f2 := anyc_ok (m := hd.length) (hd := h1) (ps := ps) (env := [some (.ref n), e1, e2, some (.ref hd.length), none, e5, e6, some lead, some (.ref m), e9, e10, e11, none, none, none]) rfl rfl l1 (by omega)
  obtain ⟨h2, g2⟩ : ∃ h2, h1 ++ [Ob.lst ((edgesE ps).map fun e => D.bl (decide (e.2 = e.1)))] = h2 := ⟨_, rfl⟩
  rw [g2] at f2
  have l2 : lsOf h2 h1.length = some ((edgesE ps).map fun e => D.bl (decide (e.2 = e.1))) := by rw [← g2]; exact e_ls_new
  have l2' : lsOf h2 hd.length = some (ps.map pq) := by rw [← g2]; exact lsOf_app l1
  have Pb : Pot n h2 c := by rw [← g2]; exact P1.app _
  have k2 : Kp n hd h2 := by rw [← g2]; exact k1.trans (.app _)
  have a2 : anyD [.ref h1.length] h2 = some (.bl ((edgesE ps).any fun e => decide (e.2 = e.1)), h2) := by
    rw [e_any, l2]
    simp only [Option.bind_some, bls_map, Option.map_some]
    rw [List.any_map]; rfl
  cases ha : (edgesE ps).any fun e => decide (e.2 = e.1) with
  | true =>
    refine ⟨[some (.ref n), e1, e2, some (.ref hd.length), none, e5, e6, some lead, some (.ref m), e9, e10, e11, none, none, none], h2, ?_, k2⟩
    rw [ha] at a2
    unfold tail
    have c3' : ¬ ((ps.length : Nat) : Int) < 3 := by omega
    rw [e_seq, e_asg, f1]
    simp only [Option.bind_some, e_gnm, List.set_cons_zero, List.set_cons_succ]
    rw [e_seq]
    simp only [e_ifs, e_bor, e_bcmp, e_btru, e_bin, e_call, e_cons, e_nil, e_var, e_c, e_skip, e_cmp, e_lenr, l1, List.getElem?_cons_zero, List.getElem?_cons_succ, Option.bind_some, Option.map_some, List.length_map, c3', decide_false, Bool.false_eq_true, if_false]
    rw [f2]
    simp only [Option.bind_some, a2, e_tru_bl, Option.map_some, if_true, e_ret, e_c]
  | false =>
    rw [ha] at a2
    have hn : ∀ e ∈ edgesE ps, e.1 ≠ e.2 := fun e he z => by
      have := List.any_eq_false.mp ha e he
      simp [z] at this
    obtain ⟨x, y, h3, f3, bx, by_, P3, k3⟩ := small_ok Pb (by omega)
    obtain ⟨z, hz⟩ : ∃ z : P2, z = (x, y) := ⟨_, rfl⟩
    have ez : pt x y = pq z := by rw [hz]
    rw [ez] at f3
    have bz : BP z 20 := by rw [hz]; exact ⟨bx.mono (by decide), by_.mono (by decide)⟩
    have bLz := l.bp z 20 bz
    have l3 : lsOf h3 hd.length = some (ps.map pq) := k3.ls (by omega) l2'
    have t3 : Ob.tab T TQ ∈ h3 := tab_kp ht P (k2.trans k3)
    have f4 := toldc_ok (s := 3) (m := hd.length) (hd := h3) (ps := ps) (k := 20) (env := [some (.ref n), e1, e2, some (.ref hd.length), some (pq z), e5, e6, some lead, some (.ref m), e9, e10, e11, none, none, none]) rfl rfl l3 lb (by decide) (by omega)
    obtain ⟨h4, g4⟩ : ∃ h4, h3 ++ [Ob.lst (ps.map hq)] = h4 := ⟨_, rfl⟩
    rw [g4] at f4
    have l4 : lsOf h4 h3.length = some (ps.map hq) := by rw [← g4]; exact e_ls_new
    have t4 : Ob.tab T TQ ∈ h4 := by rw [← g4]; exact tab_app t3
    have f5 : D__law_point_told [pq z] h4 = some (hq z, h4) := told_ok (by decide)
    have LN : Ln ps z 20 := ⟨by omega, by omega, lb, bz, hn, by decide⟩
    obtain ⟨l5, f6⟩ := lawin_ok (cl := cl) (T := T) (hd := h4) LN l4 t4
    obtain ⟨h5, g5⟩ : ∃ h5, h4 ++ l5 = h5 := ⟨_, rfl⟩
    rw [g5] at f6
    have l5' : lsOf h5 hd.length = some (ps.map pq) := by rw [← g5, ← g4]; exact lsOf_app (lsOf_app l3)
    have t5 : Ob.tab T TQ ∈ h5 := by rw [← g5]; exact tab_app t4
    have f7 := lawtold_ok (hd := h5) (k := 20) l l5' lb (by decide) (by omega)
    obtain ⟨h6, g6⟩ : ∃ h6, h5 ++ [Ob.lst (ps.map fun p => hq (L p))] = h6 := ⟨_, rfl⟩
    rw [g6] at f7
    have l6 : lsOf h6 h5.length = some ((ps.map L).map hq) := by rw [← g6, List.map_map]; exact e_ls_new
    obtain ⟨h7, g7⟩ : ∃ h7, h6 ++ [Ob.lst [pq z]] = h7 := ⟨_, rfl⟩
    have l7 : lsOf h7 h6.length = some ([z].map pq) := by rw [← g7]; exact e_ls_new
    have f8 := lawtold_ok (hd := h7) (k := 20) l l7 (fun p hp => by rw [List.mem_singleton] at hp; subst hp; exact bz) (by decide) (by simp)
    obtain ⟨h8, g8⟩ : ∃ h8, h7 ++ [Ob.lst ([z].map fun p => hq (L p))] = h8 := ⟨_, rfl⟩
    rw [g8] at f8
    have l8 : lsOf h8 h7.length = some [hq (L z)] := by rw [← g8]; exact e_ls_new
    have l9 : lsOf h8 h5.length = some ((ps.map L).map hq) := by rw [← g8, ← g7]; exact lsOf_app (lsOf_app l6)
    have t8 : Ob.tab T TQ ∈ h8 := by rw [← g8, ← g7, ← g6]; exact tab_app (tab_app (tab_app t5))
    obtain ⟨Δ, A, sΔ⟩ := l.af
    have hn2 : ∀ e ∈ edgesE (ps.map L), e.1 ≠ e.2 := fun e he z => by
      rw [edges_map] at he
      obtain ⟨e', he', rfl⟩ := List.mem_map.mp he
      exact hn e' he' (A.inj _ _ z)
    have LN2 : Ln (ps.map L) (L z) 70 := ⟨by rw [List.length_map]; omega, by rw [List.length_map]; omega, fun p hp => by
      obtain ⟨p', hp', rfl⟩ := List.mem_map.mp hp
      exact l.bp p' 20 (lb p' hp'), bLz, hn2, by decide⟩
    obtain ⟨l10, f9⟩ := lawin_ok (cl := cl) (T := T) (hd := h8) LN2 l9 t8
    obtain ⟨h9, g9⟩ : ∃ h9, h8 ++ l10 = h9 := ⟨_, rfl⟩
    rw [g9] at f9
    have same : inW (onl (ps.map L) (L z)) (rnd (ps.map L) (L z)) = inW (onl ps z) (rnd ps z) := by
      rw [af_onl A hn]
      cases ho : onl ps z with
      | true => rfl
      | false => rw [l.rnd ps z hn ho]
    rw [same] at f9
    obtain ⟨zz, rz⟩ := inW_repr (onl ps z) (rnd ps z)
    have isn : ∀ hd : Hd, isnD (inW (onl ps z) (rnd ps z)) .non hd = some (.bl true, hd) := fun hd => inW_isn
    generalize inW (onl ps z) (rnd ps z) = res at *
    have k9 : Kp n hd h9 := by
      rw [← g9, ← g8, ← g7, ← g6, ← g5, ← g4]
      exact (k2.trans k3).trans ((Kp.app _).trans ((Kp.app _).trans ((Kp.app _).trans ((Kp.app _).trans ((Kp.app _).trans (Kp.app _))))))
    refine ⟨[some (.ref n), e1, e2, some (.ref hd.length), some (pq z), some res, some res, some lead, some (.ref m), e9, e10, e11, none, none, none], h9, ?_, k9⟩
    unfold tail
    rw [e_seq, e_asg, f1]
    simp only [Option.bind_some, e_gnm, List.set_cons_zero, List.set_cons_succ]
    rw [e_seq]
    simp only [e_ifs, e_bor, e_bcmp, e_btru, e_bin, e_call, e_cons, e_nil, e_var, e_c, e_skip, e_cmp, e_lenr, l1, List.getElem?_cons_zero, List.getElem?_cons_succ, Option.bind_some, Option.map_some, List.length_map, show ¬ ((ps.length : Nat) : Int) < 3 by omega, decide_false, Bool.false_eq_true, if_false]
    rw [f2]
    simp only [Option.bind_some, a2, e_tru_bl, Option.map_some, Bool.false_eq_true, if_false]
    rw [e_seq, e_asg]
    simp only [e_call, e_cons, e_nil, e_var, List.getElem?_cons_zero, Option.bind_some, f3, e_gnm, List.set_cons_zero, List.set_cons_succ]
    rw [e_seq, e_asg]
    simp only [e_call, e_cons, e_nil]
    rw [f4]
    simp only [Option.bind_some, e_var, List.getElem?_cons_zero, List.getElem?_cons_succ, f5, f6, e_gnm, List.set_cons_zero, List.set_cons_succ]
    rw [e_seq, e_asg]
    have f8' : D__law_told [lead, .ref h6.length] h7 = some (.ref h7.length, h8) := f8
    simp only [e_call, e_cons, e_nil, e_var, List.getElem?_cons_zero, List.getElem?_cons_succ, Option.bind_some, f7, e_bin, e_lst, List.length_cons, List.length_nil, Nat.reduceAdd, Nat.reduceLeDiff, if_true, g7, f8', e_c, e_ixr, l8, at0, Option.map_some, f9, e_gnm, List.set_cons_zero, List.set_cons_succ, e_ret, e_and, isn, rz, e_eqss, decide_true]
theorem side2 {hd : Hd} {a b c : P2} {k : Nat} [BP a k] [BP b k] [BP c k] (h : (decide (k ≤ 1500)) = true) : ∃ l, D_side [hq a, hq b, hq c] hd = some (.int (sg (cr a b c)), hd ++ l) := by
  have h' : k ≤ 1500 := of_decide_eq_true h
  obtain ⟨l1, l2, l3, e⟩ := side_ok (hd := hd) (ax := a.1) (ay := a.2) (bx := b.1) (by_ := b.2) (cx := c.1) (cy := c.2) (by simp; omega)
  exact ⟨_, e⟩
theorem btw2 {hd : Hd} {a b : P2} {s : Rat} {k j : Nat} [BP a k] [BP b k] [Bq s j] (h : (decide (k ≤ 1000) && decide (j ≤ 1000)) = true) (h0 : 0 ≤ s) (h1 : s ≤ 1) : ∃ l, D_between [hq a, hq b, fr s] hd = some (hq (ats a b s), hd ++ l) := by
  simp only [Bool.and_eq_true, decide_eq_true_eq] at h
  obtain ⟨l1, l2, l3, e⟩ := btw_ok (hd := hd) (x := a.1) (y := a.2) (u := b.1) (v := b.2) (s := s) (by simp; omega) h0 h1
  exact ⟨_, e⟩
theorem meet2 {hd : Hd} {a b c d : P2} {k : Nat} [BP a k] [BP b k] [BP c k] [BP d k] (h : (decide (k ≤ 500)) = true) (hab : a ≠ b) (hcd : c ≠ d) : ∃ l, D_meet [hq a, hq b, hq c, hq d] hd = some (vD (mt a b c d), hd ++ l) := by
  obtain ⟨l1, l2, l3, l4, e⟩ := meet_ok (hd := hd) (a := a) (b := b) (c := c) (d := d) h hab hcd
  exact ⟨_, e⟩
theorem right_ok {cl : Str → Addr} {T : Addr} {n c : Nat} {hd : Hd} (P : Pot n hd c) (hc : c ≤ 70000) (ht : Ob.tab T TQ ∈ hd) : ∃ hd', D__law_right cl T [.ref n] hd = some (.bl true, hd') ∧ Kp n hd hd' := by
  obtain ⟨w, x, y, f, h1, e1, hw, bx, by_, bf, f0, Pa, k1⟩ := leader_ok P (by omega)
  obtain ⟨L, l⟩ := ld_of (x := x) (y := y) (f := f) hw f0
  obtain ⟨lx, ly, elead⟩ := l.ix
  generalize hlead : D.tup [.str w, pt x y, fr f] = lead at *
  obtain ⟨Δ, A, sΔ⟩ := l.af
  obtain ⟨p, q, r, s, h2, e2, bp, bq, br, bs, Pb, k2⟩ := own4_ok (e1 := none) (e2 := none) (e3 := none) (e4 := none) (e5 := none) (e6 := none) (e7 := none) (e8 := none) (e9 := none) (e10 := none) (e11 := none) (e12 := none) (e13 := none) (e14 := none) Pa (by omega)
  have hb : ∀ x ∈ [p, q, r, s], BP x 20 := fun x hx => by
    simp only [List.mem_cons, List.not_mem_nil, or_false] at hx
    rcases hx with rfl | rfl | rfl | rfl <;> assumption
  have cp := l.bp p 20 bp
  have cq := l.bp q 20 bq
  have cr_ := l.bp r 20 br
  have cs := l.bp s 20 bs
  have ln := P.lt
  have ln1 := k1.1
  have ln2 := k2.1
  obtain ⟨h3, g3⟩ : ∃ h3, h2 ++ [Ob.lst ([p, q, r, s].map pq)] = h3 := ⟨_, rfl⟩
  rw [g3] at e2
  have l3 : lsOf h3 h2.length = some ([p, q, r, s].map pq) := by rw [← g3]; exact e_ls_new
  have n3 : h3.length = h2.length + 1 := by rw [← g3]; simp
  have e3 := toldc_ok (s := 8) (m := h2.length) (hd := h3) (ps := [p, q, r, s]) (k := 20) (env := [some (.ref n), none, none, none, none, none, none, some lead, some (.ref h2.length), none, none, none, none, none, none]) rfl rfl l3 hb (by decide) (by simp)
  obtain ⟨h4, g4⟩ : ∃ h4, h3 ++ [Ob.lst ([p, q, r, s].map hq)] = h4 := ⟨_, rfl⟩
  rw [g4] at e3
  have n4 : h4.length = h3.length + 1 := by rw [← g4]; simp
  have l4 : lsOf h4 h2.length = some ([p, q, r, s].map pq) := by rw [← g4]; exact lsOf_app l3
  have e4 := lawtold_ok (hd := h4) (k := 20) l l4 hb (by decide) (by simp)
  obtain ⟨h5, g5⟩ : ∃ h5, h4 ++ [Ob.lst ([p, q, r, s].map fun p => hq (L p))] = h5 := ⟨_, rfl⟩
  rw [g5] at e4
  have lh : ∀ l : Hd, lsOf (h5 ++ l) h3.length = some [hq p, hq q, hq r, hq s] := fun l => lsOf_app (by rw [← g5]; exact lsOf_app (by rw [← g4]; exact e_ls_new))
  have lt : ∀ l : Hd, lsOf (h5 ++ l) h4.length = some [hq (L p), hq (L q), hq (L r), hq (L s)] := fun l => lsOf_app (by rw [← g5]; exact e_ls_new)
  have lo : ∀ l : Hd, lsOf (h5 ++ l) h2.length = some [pq p, pq q, pq r, pq s] := fun l => lsOf_app (by rw [← g5]; exact lsOf_app l4)
  have lh0 : lsOf h5 h3.length = some [hq p, hq q, hq r, hq s] := by rw [← g5]; exact lsOf_app (by rw [← g4]; exact e_ls_new)
  have lt0 : lsOf h5 h4.length = some [hq (L p), hq (L q), hq (L r), hq (L s)] := by rw [← g5]; exact e_ls_new
  have k5 : Kp n hd h5 := by rw [← g5, ← g4, ← g3]; exact k1.trans (k2.trans ((Kp.app _).trans ((Kp.app _).trans (Kp.app _))))
  have P5 : Pot n h5 (c + 17) := by rw [← g5, ← g4, ← g3]; exact ((Pb.app _).app _).app _
  -- sides
  obtain ⟨sgn, hs⟩ : ∃ sgn : Int, sgn = (if w = "mirrored" then -1 else 1) := ⟨_, rfl⟩
  have ss : Sz sgn 1 := by rw [hs]; split <;> exact ⟨by decide⟩
  have esgn : ∀ {env : Ev} {hd : Hd}, env[7]? = some (some lead) → mIf (bCmp (mBin eqD (mBin idxD (mVar 7) (mC (.int 0))) (mC (.str "mirrored")))) (mUn negD (mC (.int 1))) (mC (.int 1)) env hd = some (.int sgn, hd) := by
    intro env hd he
    simp only [e_if, e_bcmp, e_bin, e_var, he, e_c, elead, e_ixt, at0, Option.bind_some, Option.map_some, e_eqss, e_un, e_neg]
    rw [hs]
    by_cases hm : w = "mirrored"
    · simp [hm]
    · simp [hm]
  have sd1 := sg_sz (cr p q r)
  have sd2 := sg_sz (cr (L p) (L q) (L r))
  have sgq : sgn * sg (cr p q r) = sg (cr (L p) (L q) (L r)) := by rw [af_cr A, sg_mul, sΔ, hs]
  obtain ⟨la, e5⟩ := side2 (hd := h5) (a := L p) (b := L q) (c := L r) (by decide)
  obtain ⟨lb, e6⟩ := side2 (hd := h5 ++ la) (a := p) (b := q) (c := r) (by decide)
  have em : ∀ hd : Hd, mulD (.int sgn) (.int (sg (cr p q r))) hd = some (.int (sg (cr (L p) (L q) (L r))), hd) := fun hd => by rw [e_mulii (by decide), sgq]
  have r1 : ∀ hd : Hd, reprD [.int (sg (cr (L p) (L q) (L r)))] hd = some (.str (PyData.shown (.int (sg (cr (L p) (L q) (L r))))), hd) := fun hd => repr_i1
  generalize hh7 : h5 ++ la ++ lb = h7 at e6
  have P7 : Pot n h7 (c + 17) := by rw [← hh7]; exact (P5.app _).app _
  have k7 : Kp n hd h7 := by rw [← hh7]; exact k5.trans ((Kp.app _).trans (Kp.app _))
  -- the share
  obtain ⟨d, h8, e7, d0, d1, P8, k8⟩ := take_ok (u := 6) P7 (by omega) (by omega) (by omega)
  have e8 : D__law_frac [.int d, .int 5] h8 = some (fr (Rat.divInt d 5), h8) := frac_ok (by decide) (by decide)
  obtain ⟨t0, t1⟩ := share_rat (d := d) (b := 5) d0 (by omega) (by decide)
  have bt : Bq (Rat.divInt d 5) 3 := bq_divInt (m := 3) (n := 3) (by omega) (by decide) (by decide)
  generalize Rat.divInt d 5 = t at *
  have lh8 : lsOf h8 h3.length = some [hq p, hq q, hq r, hq s] := k8.ls (by omega) (by rw [← hh7, List.append_assoc]; exact lh _)
  have lt8 : lsOf h8 h4.length = some [hq (L p), hq (L q), hq (L r), hq (L s)] := k8.ls (by omega) (by rw [← hh7, List.append_assoc]; exact lt _)
  have lo8 : lsOf h8 h2.length = some [pq p, pq q, pq r, pq s] := k8.ls (by omega) (by rw [← hh7, List.append_assoc]; exact lo _)
  -- points between
  obtain ⟨lc, e9⟩ := btw2 (hd := h8) (a := L p) (b := L q) (s := t) (by decide) t0 t1
  obtain ⟨ld, e10⟩ := btw2 (hd := h8 ++ lc) (a := p) (b := q) (s := t) (by decide) t0 t1
  rw [← A.s] at e9
  have ba : BP (ats p q t) 65 := ⟨(show Bq (p.1 + t * (q.1 - p.1)) _ from inferInstance).mono (by decide), (show Bq (p.2 + t * (q.2 - p.2)) _ from inferInstance).mono (by decide)⟩
  have ba2 := l.bp _ 65 ba
  obtain ⟨z1, r2⟩ := repr_hpz (x := (L (ats p q t)).1) (y := (L (ats p q t)).2) (by decide)
  have r2' : ∀ hd : Hd, reprD [hq (L (ats p q t))] hd = some (.str z1, hd) := r2
  obtain ⟨h10, g10⟩ : ∃ h10, h8 ++ lc ++ ld = h10 := ⟨_, rfl⟩
  rw [g10] at e10
  have e11 := ledtold_ok (hd := h10) l ba (by decide)
  have lo10 : lsOf h10 h2.length = some [pq p, pq q, pq r, pq s] := by rw [← g10]; exact lsOf_app (lsOf_app lo8)
  have lh10 : lsOf h10 h3.length = some [hq p, hq q, hq r, hq s] := by rw [← g10]; exact lsOf_app (lsOf_app lh8)
  have lt10 : lsOf h10 h4.length = some [hq (L p), hq (L q), hq (L r), hq (L s)] := by rw [← g10]; exact lsOf_app (lsOf_app lt8)
  have P10 : Pot n h10 (c + 18) := by rw [← g10]; exact (P8.app _).app _
  have k10 : Kp n hd h10 := by rw [← g10]; exact k7.trans (k8.trans ((Kp.app _).trans (Kp.app _)))
  have t10 : Ob.tab T TQ ∈ h10 := tab_kp ht P k10
  have front : ∀ (h12 : Hd) (e5' e6' e11' : Option D), (mIfS (bAnd (bCmp (mBin neD (mBin idxD (mVar 8) (mC (.int 0))) (mBin idxD (mVar 8) (mC (.int 1))))) (bCmp (mBin neD (mBin idxD (mVar 8) (mC (.int 2))) (mBin idxD (mVar 8) (mC (.int 3)))))) (mSeq (mPar 5 6 (mCons (mCall D_meet (mCons (mBin idxD (mVar 9) (mC (.int 0))) (mCons (mBin idxD (mVar 9) (mC (.int 1))) (mCons (mBin idxD (mVar 9) (mC (.int 2))) (mCons (mBin idxD (mVar 9) (mC (.int 3))) mNil))))) (mCons (mCall D_meet (mCons (mBin idxD (mVar 10) (mC (.int 0))) (mCons (mBin idxD (mVar 10) (mC (.int 1))) (mCons (mBin idxD (mVar 10) (mC (.int 2))) (mCons (mBin idxD (mVar 10) (mC (.int 3))) mNil))))) mNil))) (mSeq (mAsg (mIf (bCmp (mBin eqD (mCall lenD (mCons (mVar 5) mNil)) (mC (.int 1)))) (mVar 5) (mTup (mCons (mBin idxD (mVar 5) (mC (.int 0))) (mCons (mCall D__law_led_told (mCons (mVar 7) (mCons (mBin idxD (mVar 5) (mC (.int 1))) mNil))) mNil)))) (gNm 11)) (mIfS (bCmp (mBin neD (mCall reprD (mCons (mVar 6) mNil)) (mCall reprD (mCons (mVar 11) mNil)))) (mRet (mC (.bl false))) mSkip))) mSkip) [some (.ref n), some (.int sgn), some (fr t), none, none, none, none, some lead, some (.ref h2.length), some (.ref h3.length), some (.ref h4.length), none, none, none, none] h10 = some (.nx, [some (.ref n), some (.int sgn), some (fr t), none, none, e5', e6', some lead, some (.ref h2.length), some (.ref h3.length), some (.ref h4.length), e11', none, none, none], h12) →
      lsOf h12 h2.length = some ([p, q, r, s].map pq) → Pot n h12 (c + 18) → Kp n hd h12 → Ob.tab T TQ ∈ h12 → ∃ hd', D__law_right cl T [.ref n] hd = some (.bl true, hd') ∧ Kp n hd hd' := by
    intro h12 e5' e6' e11' st lo12 P12 k12 t12
    obtain ⟨env', h13, et, k13⟩ := rest_ok (cl := cl) (e1 := some (.int sgn)) (e2 := some (fr t)) (e5 := e5') (e6 := e6') (e9 := some (.ref h3.length)) (e10 := some (.ref h4.length)) (e11 := e11') l bp bq br bs P12 (by omega) t12 lo12
    refine ⟨h13, ?_, k12.trans k13⟩
    unfold D__law_right
    rw [e_fn (n := 1) (by rfl), F_split]
    simp only [List.map_cons, List.map_nil, List.replicate, List.cons_append, List.nil_append]
    rw [e_seq, e_asg, e_tup]
    simp only [e_cons, e_nil, e_call, e_var, List.getElem?_cons_zero, Option.bind_some, e1]
    rw [e2]
    simp only [Option.bind_some, List.length_cons, List.length_nil, Nat.reduceAdd, Nat.reduceLeDiff, if_true, e_gtp, e_gscons, e_gsnil, e_gnm, List.set_cons_zero, List.set_cons_succ]
    rw [e_seq, e_par]
    simp only [e_cons, e_nil]
    rw [e3]
    simp only [Option.bind_some, e_call, e_cons, e_nil, e_var, List.getElem?_cons_zero, List.getElem?_cons_succ, e4, List.set_cons_zero, List.set_cons_succ]
    rw [e_seq, e_asg, esgn (by rfl)]
    simp only [Option.bind_some, e_gnm, List.set_cons_zero, List.set_cons_succ]
    rw [e_seq]
    simp only [e_ifs, e_bcmp, e_bin, e_call, e_cons, e_nil, e_var, e_c, e_ixr, lt0, List.getElem?_cons_zero, List.getElem?_cons_succ, Option.bind_some, Option.map_some, at0, at1, at2, e5, r1, lh, e6, em, e_ness, decide_true, Bool.not_true, Bool.false_eq_true, if_false, e_skip]
    rw [e_seq, e_asg]
    simp only [e_call, e_cons, e_nil, e_var, e_c, List.getElem?_cons_zero, Option.bind_some, e7, e8, e_gnm, List.set_cons_zero, List.set_cons_succ]
    rw [e_seq]
    simp only [e_ifs, e_bcmp, e_bin, e_call, e_cons, e_nil, e_var, e_c, e_ixr, lt8, lh8, List.getElem?_cons_zero, List.getElem?_cons_succ, Option.bind_some, Option.map_some, at0, at1, e9, r2', lsOf_app lh8, e10, e11, e_ness, decide_true, Bool.not_true, Bool.false_eq_true, if_false, e_skip]
    rw [e_seq, st]
    simp only [Option.bind_some, et]
  by_cases m1 : p ≠ q ∧ r ≠ s
  · obtain ⟨m1, m2⟩ := m1
    have m3 : L p ≠ L q := fun e => m1 (A.inj _ _ e)
    have m4 : L r ≠ L s := fun e => m2 (A.inj _ _ e)
    obtain ⟨le, e12⟩ := meet2 (hd := h10) (a := p) (b := q) (c := r) (d := s) (by decide) m1 m2
    obtain ⟨lf, e13⟩ := meet2 (hd := h10 ++ le) (a := L p) (b := L q) (c := L r) (d := L s) (by decide) m3 m4
    rw [af_mt A m1] at e13
    have vb : VB (mt p q r s) 420 := mt_vb
    have vb2 := vb_af l vb
    obtain ⟨z2, r3⟩ := repr_v vb2 (by decide)
    generalize mt p q r s = v at *
    have e14 := due_ok (hd := h10 ++ le ++ lf) l vb (e0 := some (.ref n)) (e1 := some (.int sgn)) (e2 := some (fr t)) (e3 := none) (e4 := none) (e6 := some (vD (mpV L v))) (e8 := some (.ref h2.length)) (e9 := some (.ref h3.length)) (e10 := some (.ref h4.length)) (e11 := none) (e12 := none) (e13 := none) (e14 := none)
    refine front (h10 ++ le ++ lf) (some (vD v)) (some (vD (mpV L v))) (some (vD (mpV L v))) ?_ (lsOf_app (lsOf_app lo10)) ((P10.app _).app _) (k10.trans ((Kp.app _).trans (Kp.app _))) (tab_app (tab_app t10))
    simp only [e_ifs, e_band, e_bcmp, e_bin, e_var, e_c, e_ixr, lo10, List.getElem?_cons_zero, List.getElem?_cons_succ, Option.bind_some, Option.map_some, at0, at1, at2, at3, ne_pt, m1, m2, decide_false, Bool.not_false, if_true]
    rw [e_seq, e_par]
    simp only [e_call, e_cons, e_nil, e_bin, e_var, e_c, e_ixr, lh10, lsOf_app lt10, List.getElem?_cons_zero, List.getElem?_cons_succ, Option.bind_some, Option.map_some, at0, at1, at2, at3, e12, e13, List.set_cons_zero, List.set_cons_succ]
    rw [e_seq, e_asg, e14]
    simp only [Option.bind_some, e_gnm, List.set_cons_zero, List.set_cons_succ, e_ifs, e_bcmp, e_bin, e_call, e_cons, e_nil, e_var, List.getElem?_cons_zero, List.getElem?_cons_succ, r3, e_ness, decide_true, Bool.not_true, Bool.false_eq_true, if_false, e_skip]
  · refine front h10 none none none ?_ lo10 P10 k10 t10
    by_cases m2 : p = q
    · simp only [e_ifs, e_band, e_bcmp, e_bin, e_var, e_c, e_ixr, lo10, List.getElem?_cons_zero, List.getElem?_cons_succ, Option.bind_some, Option.map_some, at0, at1, at2, at3, ne_pt, m2, decide_true, Bool.not_true, Bool.false_eq_true, if_false, e_skip]
    · have m3 : r = s := by
        by_cases h : r = s
        · exact h
        · exact absurd ⟨m2, h⟩ m1
      simp only [e_ifs, e_band, e_bcmp, e_bin, e_var, e_c, e_ixr, lo10, List.getElem?_cons_zero, List.getElem?_cons_succ, Option.bind_some, Option.map_some, at0, at1, at2, at3, ne_pt, m2, m3, decide_true, decide_false, Bool.not_true, Bool.not_false, if_true, Bool.false_eq_true, if_false, e_skip]
theorem loop_ok {cl : Str → Addr} {T : Addr} {m : Nat} {ns : List Int} (hn : ns.length ≤ 63) {all : List D} : ∀ (ds : List D) (hd : Hd), (∀ d ∈ ds, ∃ k : Nat, d = .int (k : Nat) ∧ k ≤ 63) → lsOf hd m = some all → Ob.tab T TQ ∈ hd →
    ∃ hd', compL [(m, all)] (gNm 1) bYes (mCall (D__law_right cl T) (mCons (mCall D__law_pot (mCons (mVar 0) (mCons (mVar 1) mNil))) mNil)) [some (.fls (ns.map .int)), none] ds hd = some (ds.map fun _ => .bl true, hd') ∧ lsOf hd' m = some all
  | [], hd, _, hl, _ => ⟨hd, by rw [e_comp0 (by simp [hl])]; rfl, hl⟩
  | d :: ds, hd, h, hl, ht => by
    obtain ⟨k, rfl, hk⟩ := h d (by simp)
    have hm : m < hd.length := (List.getElem?_eq_some_iff.mp (lsOf_of hl)).1
    obtain ⟨p, h1, e1, P1, lp, l, rfl⟩ := pot_ok (hd := hd) (ns := ns) (pl := k) hk hn
    obtain ⟨h2, e2, k2⟩ := right_ok (cl := cl) P1 (by omega) (tab_app ht)
    have hl1 : lsOf (hd ++ l) m = some all := lsOf_get (by rw [List.getElem?_append_left hm]; exact lsOf_of hl)
    have hl2 := k2.ls (by omega) hl1
    obtain ⟨h3, e3, hl3⟩ := loop_ok (cl := cl) (T := T) hn ds h2 (fun d hd => h d (by simp [hd])) hl2 (tab_kp (tab_app ht) P1 k2)
    refine ⟨h3, ?_, hl3⟩
    rw [e_comp1 (by simp [hl])]
    simp only [e_gnm, Option.bind_some, e_yes, if_true, List.set_cons_succ, List.set_cons_zero, e_call, e_cons, e_nil, e_var, List.getElem?_cons_zero, List.getElem?_cons_succ, e1, e2, e3, List.map_cons]
theorem bls_true {α : Type} : ∀ (l : List α), blsOf (l.map fun _ => D.bl true) = some (l.map fun _ => true)
  | [] => rfl
  | _ :: l => by simp [bls_true l]
theorem law_true {cl : Str → Addr} {T : Addr} (ns : List Int) (hn : ns.length ≤ 63) : ∃ hd', D_law cl T [.fls (ns.map .int)] [.tab T TQ] = some (.bl true, hd') := by
  obtain ⟨j, j1, j2, ec⟩ := cells_ok (hd := [.tab T TQ]) (ns := ns) (u := 2) (by decide) (by decide)
  obtain ⟨h1, e1, _⟩ := loop_ok (cl := cl) (T := T) (m := 1) hn (all := rangeL 0 (j : Nat)) (rangeL 0 (j : Nat)) [.tab T TQ, .lst (rangeL 0 (j : Nat))] (fun d hd => by
    unfold rangeL at hd
    obtain ⟨i, hi, rfl⟩ := List.mem_map.mp hd
    rw [List.mem_range] at hi
    exact ⟨i, by simp, by omega⟩) (by simp [lsOf]) (by simp)
  refine ⟨h1 ++ [.lst ((rangeL 0 (j : Nat)).map fun _ => .bl true)], ?_⟩
  unfold D_law
  rw [e_fn (n := 1) (by rfl)]
  unfold F_law
  have ec' : D__law_cells [.fls (ns.map .int), .int 2] [.tab T TQ] = some (.ref 1, [.tab T TQ, .lst (rangeL 0 (j : Nat))]) := ec
  simp only [e_ret, e_call, e_cons, e_nil, e_comp, e_iseq_tup, e_var, e_c, List.map_cons, List.map_nil, List.replicate, List.cons_append, List.nil_append, List.getElem?_cons_zero, List.getElem?_cons_succ, Option.bind_some, ec', show lsOf [Ob.tab T TQ, Ob.lst (rangeL 0 (j : Nat))] 1 = some (rangeL 0 (j : Nat)) by simp [lsOf], Option.map_some, e_wipe1, e_wipe0, List.set_cons_succ, List.set_cons_zero, e1, List.length_map]
  rw [if_pos (by rw [rangeL_len]; omega)]
  simp only [Option.bind_some, e_all, e_ls_new, bls_true, Option.map_some]
  congr 3
  simp
section
variable {P : Program} {w : World} {K : PySem.W.Frag} {mg : Str → Option Value} {base : Heap} {cl : Str → Addr} {T : Addr}
theorem df__law_pot (N : Nms mg)  {f : Addr} (F : ∃ fd, FunD K "_law_pot" "_law_pot" (defArgs s__law_pot) (defBody s__law_pot) (defScope s__law_pot) [] [] f fd) (g : mg "_law_pot" = some (.ref f)) : Df P w K mg base 1 "_law_pot" ["script", "place"] D__law_pot := by
  refine df_of F g sc__law_pot rfl rfl (fun _ _ _ _ _ _ us hl => match us, hl with | [_, _], _ => rfl) fun cdv A outer s H hr hG => ?_
  unfold F__law_pot
  exact (psm_cons (psm_asg (pm_if (pt_cm om_lt (pm_var (pv 1)) (pm_callB cm_len rfl N.n_len boot_len (pm_cons (pm_var (pv 0)) pm_nil)) (nomark _)) (pm_ix (pm_var (pv 0)) (pm_var (pv 1))) (pm_bin om_add (pm_bin om_add (pm_bin om_mod (pm_callB (cm_sum rfl) rfl N.n_sum boot_sum (pm_cons (pm_sl (pm_var (pv 0)) pom_none (pom_some pm_int)) pm_nil)) pm_int) (pm_bin om_mul pm_int (pm_var (pv 1)))) pm_int)) (pgm_name (i := 2) sc__law_pot.nd rfl (by first | exact .inl rfl | exact .inr rfl))) (psm_cons (psm_asg (pm_bin om_mul (pm_bin om_mod (pm_callTy cm_int rfl N.n_int boot_int (pm_cons (pm_callB cm_abs rfl N.n_abs boot_abs (pm_cons (pm_var (pv 2)) pm_nil)) pm_nil)) (pm_bin om_pow (pm_bin om_pow pm_int pm_int) pm_int)) (pm_callTy cm_int rfl N.n_int boot_int (pm_cons (pm_cmp om_ge (pm_callB cm_abs rfl N.n_abs boot_abs (pm_cons (pm_var (pv 2)) pm_nil)) (pm_bin om_pow pm_int pm_int) (nomark _)) pm_nil))) (pgm_name (i := 3) sc__law_pot.nd rfl (by first | exact .inl rfl | exact .inr rfl))) (psm_cons (psm_asg (pm_bin om_mod (pm_callTy cm_int rfl N.n_int boot_int (pm_cons (pm_var (pv 2)) pm_nil)) pm_int) (pgm_name (i := 4) sc__law_pot.nd rfl (by first | exact .inl rfl | exact .inr rfl))) (psm_one (psm_ret (pm_lst (pm_cons (pm_var (pv 3)) (pm_cons (pm_bin om_mod (pm_callTy cm_int rfl N.n_int boot_int (pm_cons (pm_bin om_add (pm_bin om_add (pm_bin om_mul (pm_var (pv 4)) pm_int) (pm_bin om_mul (pm_bin om_mul pm_int (pm_var (pv 1))) (pm_var (pv 1)))) pm_int) pm_nil)) pm_int) (pm_cons pm_int pm_nil)))))))))
theorem df__law_cells (N : Nms mg)  {f : Addr} (F : ∃ fd, FunD K "_law_cells" "_law_cells" (defArgs s__law_cells) (defBody s__law_cells) (defScope s__law_cells) [] [] f fd) (g : mg "_law_cells" = some (.ref f)) : Df P w K mg base 1 "_law_cells" ["script", "most"] D__law_cells := by
  refine df_of F g sc__law_cells rfl rfl (fun _ _ _ _ _ _ us hl => match us, hl with | [_, _], _ => rfl) fun cdv A outer s H hr hG => ?_
  unfold F__law_cells
  exact (psm_one (psm_ret (pm_listRg1 rfl rfl N.n_list rfl N.n_range (pm_callB (cm_max rfl) rfl N.n_max boot_max (pm_cons pm_int (pm_cons (pm_callB (cm_min rfl) rfl N.n_min boot_min (pm_cons (pm_var (pv 1)) (pm_cons (pm_callB cm_len rfl N.n_len boot_len (pm_cons (pm_var (pv 0)) pm_nil)) pm_nil))) pm_nil))))))
theorem df_turn (N : Nms mg)  {f : Addr} (F : ∃ fd, FunD K "turn" "turn" (defArgs s_turn) (defBody s_turn) (defScope s_turn) [] [] f fd) (g : mg "turn" = some (.ref f)) : Df P w K mg base 1 "turn" ["a", "b", "c"] D_turn := by
  refine df_of F g sc_turn rfl rfl (fun _ _ _ _ _ _ us hl => match us, hl with | [_, _, _], _ => rfl) fun cdv A outer s H hr hG => ?_
  unfold F_turn
  exact (psm_cons (psm_asg (pm_bin om_add (pm_bin om_sub (pm_bin om_mul (pm_ix (pm_var (pv 0)) pm_int) (pm_bin om_sub (pm_bin om_mul (pm_ix (pm_var (pv 1)) pm_int) (pm_ix (pm_var (pv 2)) pm_int)) (pm_bin om_mul (pm_ix (pm_var (pv 1)) pm_int) (pm_ix (pm_var (pv 2)) pm_int)))) (pm_bin om_mul (pm_ix (pm_var (pv 0)) pm_int) (pm_bin om_sub (pm_bin om_mul (pm_ix (pm_var (pv 1)) pm_int) (pm_ix (pm_var (pv 2)) pm_int)) (pm_bin om_mul (pm_ix (pm_var (pv 1)) pm_int) (pm_ix (pm_var (pv 2)) pm_int))))) (pm_bin om_mul (pm_ix (pm_var (pv 0)) pm_int) (pm_bin om_sub (pm_bin om_mul (pm_ix (pm_var (pv 1)) pm_int) (pm_ix (pm_var (pv 2)) pm_int)) (pm_bin om_mul (pm_ix (pm_var (pv 1)) pm_int) (pm_ix (pm_var (pv 2)) pm_int))))) (pgm_name (i := 3) sc_turn.nd rfl (by first | exact .inl rfl | exact .inr rfl))) (psm_cons (psm_if (pt_cm (om_eq hr.units) (pm_var (pv 3)) pm_int (nomark _)) (psm_one (psm_ret pm_int)) psm_nil) (psm_one (psm_ret (pm_if (pt_cm om_gt (pm_var (pv 3)) pm_int (nomark _)) pm_int (pm_un um_neg pm_int))))))
theorem df_is_whole_number (N : Nms mg)  {f : Addr} (F : ∃ fd, FunD K "is_whole_number" "is_whole_number" (defArgs s_is_whole_number) (defBody s_is_whole_number) (defScope s_is_whole_number) [] [] f fd) (g : mg "is_whole_number" = some (.ref f)) : Df P w K mg base 1 "is_whole_number" ["value"] D_is_whole_number := by
  refine df_of F g sc_is_whole_number rfl rfl (fun _ _ _ _ _ _ us hl => match us, hl with | [_], _ => rfl) fun cdv A outer s H hr hG => ?_
  unfold F_is_whole_number
  exact (psm_one (psm_ret (pm_and (pm_callB cm_isi rfl N.n_isinstance boot_isinstance (pm_cons (pm_var (pv 0)) (pm_cons (pm_raw (pe_bltn rfl N.n_int boot_int rfl)) pm_nil))) (pm_one (pm_not (pm_callB cm_isi rfl N.n_isinstance boot_isinstance (pm_cons (pm_var (pv 0)) (pm_cons (pm_raw (pe_bltn rfl N.n_bool boot_bool rfl)) pm_nil))))))))
theorem df_are_integers (N : Nms mg) (c_is_whole_number : Df P w K mg base 1 "is_whole_number" ["value"] D_is_whole_number) {f : Addr} (F : ∃ fd, FunD K "are_integers" "are_integers" (defArgs s_are_integers) (defBody s_are_integers) (defScope s_are_integers) [] [] f fd) (g : mg "are_integers" = some (.ref f)) : Df P w K mg base 2 "are_integers" ["value", "many"] D_are_integers := by
  refine df_of F g sc_are_integers rfl rfl (fun _ _ _ _ _ _ us hl => match us, hl with | [_, _], _ => rfl) fun cdv A outer s H hr hG => ?_
  unfold F_are_integers
  exact (psm_one (psm_ret (pm_and (pm_callB cm_isi rfl N.n_isinstance boot_isinstance (pm_cons (pm_var (pv 0)) (pm_cons (pm_raw (pe_bltn rfl N.n_tuple boot_tuple rfl)) pm_nil))) (pm_and (pm_cmp (om_eq hr.units) (pm_callB cm_len rfl N.n_len boot_len (pm_cons (pm_var (pv 0)) pm_nil)) (pm_var (pv 1)) (nomark _)) (pm_one (pm_callB (cm_all rfl) rfl N.n_all boot_all (pm_cons (pm_comp (own := [("part", 2)]) rfl sc_are_integers.nd (pim_seq (pm_var (pv 0))) (blkOk_by (own := [("part", 2)]) (N := N_are_integers) (sc := defScope s_are_integers) (by decide +kernel)) (by decide) (fun _ _ _ _ _ => (pgm_name (i := 2) sc_are_integers.nd rfl (by first | exact .inl rfl | exact .inr rfl))) (fun _ _ _ _ _ => ptsm_nil) (fun _ _ _ _ _ => (pm_callD c_is_whole_number (hr.mono (by decide)) hG rfl (pm_cons (pm_var (pv 2)) pm_nil)))) pm_nil)))))))
theorem df_is_point (N : Nms mg) (c_are_integers : Df P w K mg base 2 "are_integers" ["value", "many"] D_are_integers) {f : Addr} (F : ∃ fd, FunD K "is_point" "is_point" (defArgs s_is_point) (defBody s_is_point) (defScope s_is_point) [] [] f fd) (g : mg "is_point" = some (.ref f)) : Df P w K mg base 3 "is_point" ["value"] D_is_point := by
  refine df_of F g sc_is_point rfl rfl (fun _ _ _ _ _ _ us hl => match us, hl with | [_], _ => rfl) fun cdv A outer s H hr hG => ?_
  unfold F_is_point
  exact (psm_one (psm_ret (pm_and (pm_callD c_are_integers (hr.mono (by decide)) hG rfl (pm_cons (pm_var (pv 0)) (pm_cons pm_int pm_nil))) (pm_and (pm_cmp om_ge (pm_ix (pm_var (pv 0)) pm_int) pm_int (nomark _)) (pm_one (pm_cmp (om_eq hr.units) (pm_callF cm_gcd rfl N.g_gcd (pm_cons (pm_ix (pm_var (pv 0)) pm_int) (pm_cons (pm_ix (pm_var (pv 0)) pm_int) (pm_cons (pm_ix (pm_var (pv 0)) pm_int) pm_nil)))) pm_int (nomark _)))))))
theorem df_check_points (N : Nms mg) (c_is_point : Df P w K mg base 3 "is_point" ["value"] D_is_point) {f : Addr} (F : ∃ fd, FunD K "check_points" "check_points" (defArgs s_check_points) (defBody s_check_points) (defScope s_check_points) [] [] f fd) (g : mg "check_points" = some (.ref f)) : Df P w K mg base 4 "check_points" ["values"] D_check_points := by
  refine df_of F g sc_check_points rfl rfl (fun _ _ _ _ _ _ us hl => match us, hl with | [_], _ => rfl) fun cdv A outer s H hr hG => ?_
  unfold F_check_points
  exact (psm_one (psm_for PassesOwn.never rfl (pim_seq (pm_var (pv 0))) (pgm_name (i := 1) sc_check_points.nd rfl (by first | exact .inl rfl | exact .inr rfl)) (psm_one (psm_if (ptm_not (pt_tru (pm_callD c_is_point (hr.mono (by decide)) hG rfl (pm_cons (pm_var (pv 1)) pm_nil)))) (psm_one psm_never) psm_nil))))
theorem df_side (N : Nms mg) (c_turn : Df P w K mg base 1 "turn" ["a", "b", "c"] D_turn) (c_check_points : Df P w K mg base 4 "check_points" ["values"] D_check_points) {f : Addr} (F : ∃ fd, FunD K "side" "side" (defArgs s_side) (defBody s_side) (defScope s_side) [] [] f fd) (g : mg "side" = some (.ref f)) : Df P w K mg base 5 "side" ["a", "b", "c"] D_side := by
  refine df_of F g sc_side rfl rfl (fun _ _ _ _ _ _ us hl => match us, hl with | [_, _, _], _ => rfl) fun cdv A outer s H hr hG => ?_
  unfold F_side
  exact (psm_cons (psm_expr (pm_callD c_check_points (hr.mono (by decide)) hG rfl (pm_cons (pm_tup (pm_cons (pm_var (pv 0)) (pm_cons (pm_var (pv 1)) (pm_cons (pm_var (pv 2)) pm_nil)))) pm_nil))) (psm_one (psm_ret (pm_callD c_turn (hr.mono (by decide)) hG rfl (pm_cons (pm_var (pv 0)) (pm_cons (pm_var (pv 1)) (pm_cons (pm_var (pv 2)) pm_nil)))))))
theorem df_is_ahead (N : Nms mg)  {f : Addr} (F : ∃ fd, FunD K "is_ahead" "is_ahead" (defArgs s_is_ahead) (defBody s_is_ahead) (defScope s_is_ahead) [] [] f fd) (g : mg "is_ahead" = some (.ref f)) : Df P w K mg base 1 "is_ahead" ["a", "b"] D_is_ahead := by
  refine df_of F g sc_is_ahead rfl rfl (fun _ _ _ _ _ _ us hl => match us, hl with | [_, _], _ => rfl) fun cdv A outer s H hr hG => ?_
  unfold F_is_ahead
  exact (psm_cons (psm_asg (pm_bin om_sub (pm_bin om_mul (pm_ix (pm_var (pv 0)) pm_int) (pm_ix (pm_var (pv 1)) pm_int)) (pm_bin om_mul (pm_ix (pm_var (pv 1)) pm_int) (pm_ix (pm_var (pv 0)) pm_int))) (pgm_name (i := 2) sc_is_ahead.nd rfl (by first | exact .inl rfl | exact .inr rfl))) (psm_cons (psm_if (pt_cm (om_ne hr.units) (pm_var (pv 2)) pm_int (nomark _)) (psm_one (psm_ret (pm_cmp om_lt (pm_var (pv 2)) pm_int (nomark _)))) psm_nil) (psm_one (psm_ret (pm_cmp om_lt (pm_bin om_mul (pm_ix (pm_var (pv 0)) pm_int) (pm_ix (pm_var (pv 1)) pm_int)) (pm_bin om_mul (pm_ix (pm_var (pv 1)) pm_int) (pm_ix (pm_var (pv 0)) pm_int)) (nomark _))))))
theorem df_first_of (N : Nms mg) (c_is_ahead : Df P w K mg base 1 "is_ahead" ["a", "b"] D_is_ahead) {f : Addr} (F : ∃ fd, FunD K "first_of" "first_of" (defArgs s_first_of) (defBody s_first_of) (defScope s_first_of) [] [] f fd) (g : mg "first_of" = some (.ref f)) : Df P w K mg base 2 "first_of" ["a", "b"] D_first_of := by
  refine df_of F g sc_first_of rfl rfl (fun _ _ _ _ _ _ us hl => match us, hl with | [_, _], _ => rfl) fun cdv A outer s H hr hG => ?_
  unfold F_first_of
  exact (psm_one (psm_ret (pm_if (pt_tru (pm_callD c_is_ahead (hr.mono (by decide)) hG rfl (pm_cons (pm_var (pv 1)) (pm_cons (pm_var (pv 0)) pm_nil)))) (pm_var (pv 1)) (pm_var (pv 0)))))
theorem df_last_of (N : Nms mg) (c_is_ahead : Df P w K mg base 1 "is_ahead" ["a", "b"] D_is_ahead) {f : Addr} (F : ∃ fd, FunD K "last_of" "last_of" (defArgs s_last_of) (defBody s_last_of) (defScope s_last_of) [] [] f fd) (g : mg "last_of" = some (.ref f)) : Df P w K mg base 2 "last_of" ["a", "b"] D_last_of := by
  refine df_of F g sc_last_of rfl rfl (fun _ _ _ _ _ _ us hl => match us, hl with | [_, _], _ => rfl) fun cdv A outer s H hr hG => ?_
  unfold F_last_of
  exact (psm_one (psm_ret (pm_if (pt_tru (pm_callD c_is_ahead (hr.mono (by decide)) hG rfl (pm_cons (pm_var (pv 1)) (pm_cons (pm_var (pv 0)) pm_nil)))) (pm_var (pv 0)) (pm_var (pv 1)))))
theorem df_meeting_in_line (N : Nms mg) (c_is_ahead : Df P w K mg base 1 "is_ahead" ["a", "b"] D_is_ahead) (c_first_of : Df P w K mg base 2 "first_of" ["a", "b"] D_first_of) (c_last_of : Df P w K mg base 2 "last_of" ["a", "b"] D_last_of) {f : Addr} (F : ∃ fd, FunD K "meeting_in_line" "meeting_in_line" (defArgs s_meeting_in_line) (defBody s_meeting_in_line) (defScope s_meeting_in_line) [] [] f fd) (g : mg "meeting_in_line" = some (.ref f)) : Df P w K mg base 3 "meeting_in_line" ["a", "b", "c", "d"] D_meeting_in_line := by
  refine df_of F g sc_meeting_in_line rfl rfl (fun _ _ _ _ _ _ us hl => match us, hl with | [_, _, _, _], _ => rfl) fun cdv A outer s H hr hG => ?_
  unfold F_meeting_in_line
  exact (psm_cons (psm_asg (pm_callD c_last_of (hr.mono (by decide)) hG rfl (pm_cons (pm_callD c_first_of (hr.mono (by decide)) hG rfl (pm_cons (pm_var (pv 0)) (pm_cons (pm_var (pv 1)) pm_nil))) (pm_cons (pm_callD c_first_of (hr.mono (by decide)) hG rfl (pm_cons (pm_var (pv 2)) (pm_cons (pm_var (pv 3)) pm_nil))) pm_nil))) (pgm_name (i := 4) sc_meeting_in_line.nd rfl (by first | exact .inl rfl | exact .inr rfl))) (psm_cons (psm_asg (pm_callD c_first_of (hr.mono (by decide)) hG rfl (pm_cons (pm_callD c_last_of (hr.mono (by decide)) hG rfl (pm_cons (pm_var (pv 0)) (pm_cons (pm_var (pv 1)) pm_nil))) (pm_cons (pm_callD c_last_of (hr.mono (by decide)) hG rfl (pm_cons (pm_var (pv 2)) (pm_cons (pm_var (pv 3)) pm_nil))) pm_nil))) (pgm_name (i := 5) sc_meeting_in_line.nd rfl (by first | exact .inl rfl | exact .inr rfl))) (psm_cons (psm_if (pt_cm (om_eq hr.units) (pm_var (pv 4)) (pm_var (pv 5)) (nomark _)) (psm_one (psm_ret (pm_tup (pm_cons pm_str (pm_cons (pm_var (pv 4)) pm_nil))))) psm_nil) (psm_one (psm_ret (pm_if (pt_tru (pm_callD c_is_ahead (hr.mono (by decide)) hG rfl (pm_cons (pm_var (pv 4)) (pm_cons (pm_var (pv 5)) pm_nil)))) (pm_tup (pm_cons pm_str pm_nil)) (pm_tup (pm_cons pm_str pm_nil))))))))
theorem df_point_at (N : Nms mg)  {f : Addr} (F : ∃ fd, FunD K "point_at" "point_at" (defArgs s_point_at) (defBody s_point_at) (defScope s_point_at) [] [] f fd) (g : mg "point_at" = some (.ref f)) : Df P w K mg base 1 "point_at" ["x", "y", "bottom"] D_point_at := by
  refine df_of F g sc_point_at rfl rfl (fun _ _ _ _ _ _ us hl => match us, hl with | [_, _, _], _ => rfl) fun cdv A outer s H hr hG => ?_
  unfold F_point_at
  exact (psm_cons (psm_asg (pm_callF cm_gcd rfl N.g_gcd (pm_cons (pm_var (pv 0)) (pm_cons (pm_var (pv 1)) (pm_cons (pm_var (pv 2)) pm_nil)))) (pgm_name (i := 3) sc_point_at.nd rfl (by first | exact .inl rfl | exact .inr rfl))) (psm_cons (psm_if (pt_cm om_lt (pm_var (pv 2)) pm_int (nomark _)) (psm_one (psm_asg (pm_un um_neg (pm_var (pv 3))) (pgm_name (i := 3) sc_point_at.nd rfl (by first | exact .inl rfl | exact .inr rfl)))) psm_nil) (psm_one (psm_ret (pm_tup (pm_cons (pm_bin om_div (pm_var (pv 0)) (pm_var (pv 3))) (pm_cons (pm_bin om_div (pm_var (pv 1)) (pm_var (pv 3))) (pm_cons (pm_bin om_div (pm_var (pv 2)) (pm_var (pv 3))) pm_nil))))))))
theorem df_line_through (N : Nms mg)  {f : Addr} (F : ∃ fd, FunD K "line_through" "line_through" (defArgs s_line_through) (defBody s_line_through) (defScope s_line_through) [] [] f fd) (g : mg "line_through" = some (.ref f)) : Df P w K mg base 1 "line_through" ["a", "b"] D_line_through := by
  refine df_of F g sc_line_through rfl rfl (fun _ _ _ _ _ _ us hl => match us, hl with | [_, _], _ => rfl) fun cdv A outer s H hr hG => ?_
  unfold F_line_through
  exact (psm_one (psm_ret (pm_tup (pm_cons (pm_bin om_sub (pm_bin om_mul (pm_ix (pm_var (pv 0)) pm_int) (pm_ix (pm_var (pv 1)) pm_int)) (pm_bin om_mul (pm_ix (pm_var (pv 0)) pm_int) (pm_ix (pm_var (pv 1)) pm_int))) (pm_cons (pm_bin om_sub (pm_bin om_mul (pm_ix (pm_var (pv 0)) pm_int) (pm_ix (pm_var (pv 1)) pm_int)) (pm_bin om_mul (pm_ix (pm_var (pv 0)) pm_int) (pm_ix (pm_var (pv 1)) pm_int))) (pm_cons (pm_bin om_sub (pm_bin om_mul (pm_ix (pm_var (pv 0)) pm_int) (pm_ix (pm_var (pv 1)) pm_int)) (pm_bin om_mul (pm_ix (pm_var (pv 0)) pm_int) (pm_ix (pm_var (pv 1)) pm_int))) pm_nil))))))
theorem df_common_point (N : Nms mg) (c_point_at : Df P w K mg base 1 "point_at" ["x", "y", "bottom"] D_point_at) (c_line_through : Df P w K mg base 1 "line_through" ["a", "b"] D_line_through) {f : Addr} (F : ∃ fd, FunD K "common_point" "common_point" (defArgs s_common_point) (defBody s_common_point) (defScope s_common_point) [] [] f fd) (g : mg "common_point" = some (.ref f)) : Df P w K mg base 2 "common_point" ["a", "b", "c", "d"] D_common_point := by
  refine df_of F g sc_common_point rfl rfl (fun _ _ _ _ _ _ us hl => match us, hl with | [_, _, _, _], _ => rfl) fun cdv A outer s H hr hG => ?_
  unfold F_common_point
  exact (psm_cons (psm_par (i := 4) (j := 5) rfl sc_common_point.nd rfl rfl (by decide) rfl rfl (pm_cons (pm_callD c_line_through (hr.mono (by decide)) hG rfl (pm_cons (pm_var (pv 0)) (pm_cons (pm_var (pv 1)) pm_nil))) (pm_cons (pm_callD c_line_through (hr.mono (by decide)) hG rfl (pm_cons (pm_var (pv 2)) (pm_cons (pm_var (pv 3)) pm_nil))) pm_nil)) (by rfl)) (psm_cons (psm_asg (pm_callD c_line_through (hr.mono (by decide)) hG rfl (pm_cons (pm_var (pv 4)) (pm_cons (pm_var (pv 5)) pm_nil))) (pgm_tup rfl (pgsm_cons (pgm_name (i := 6) sc_common_point.nd rfl (by first | exact .inl rfl | exact .inr rfl)) (pgsm_cons (pgm_name (i := 7) sc_common_point.nd rfl (by first | exact .inl rfl | exact .inr rfl)) (pgsm_cons (pgm_name (i := 8) sc_common_point.nd rfl (by first | exact .inl rfl | exact .inr rfl)) pgsm_nil))) (gsCons_len (gsCons_len (gsCons_len gsNil_len))))) (psm_one (psm_ret (pm_callD c_point_at (hr.mono (by decide)) hG rfl (pm_cons (pm_var (pv 6)) (pm_cons (pm_var (pv 7)) (pm_cons (pm_var (pv 8)) pm_nil))))))))
theorem df_meeting (N : Nms mg) (c_turn : Df P w K mg base 1 "turn" ["a", "b", "c"] D_turn) (c_meeting_in_line : Df P w K mg base 3 "meeting_in_line" ["a", "b", "c", "d"] D_meeting_in_line) (c_common_point : Df P w K mg base 2 "common_point" ["a", "b", "c", "d"] D_common_point) {f : Addr} (F : ∃ fd, FunD K "meeting" "meeting" (defArgs s_meeting) (defBody s_meeting) (defScope s_meeting) [] [] f fd) (g : mg "meeting" = some (.ref f)) : Df P w K mg base 4 "meeting" ["a", "b", "c", "d"] D_meeting := by
  refine df_of F g sc_meeting rfl rfl (fun _ _ _ _ _ _ us hl => match us, hl with | [_, _, _, _], _ => rfl) fun cdv A outer s H hr hG => ?_
  unfold F_meeting
  exact (psm_cons (psm_par (i := 4) (j := 5) rfl sc_meeting.nd rfl rfl (by decide) rfl rfl (pm_cons (pm_callD c_turn (hr.mono (by decide)) hG rfl (pm_cons (pm_var (pv 0)) (pm_cons (pm_var (pv 1)) (pm_cons (pm_var (pv 2)) pm_nil)))) (pm_cons (pm_callD c_turn (hr.mono (by decide)) hG rfl (pm_cons (pm_var (pv 0)) (pm_cons (pm_var (pv 1)) (pm_cons (pm_var (pv 3)) pm_nil)))) pm_nil)) (by rfl)) (psm_cons (psm_if (PW.pt (pwm_and (pt_cm (om_eq hr.units) (pm_var (pv 4)) pm_int (nomark _)) (pwm_and1 (pt_cm (om_eq hr.units) (pm_var (pv 5)) pm_int (nomark _))))) (psm_one (psm_ret (pm_callD c_meeting_in_line (hr.mono (by decide)) hG rfl (pm_cons (pm_var (pv 0)) (pm_cons (pm_var (pv 1)) (pm_cons (pm_var (pv 2)) (pm_cons (pm_var (pv 3)) pm_nil))))))) psm_nil) (psm_cons (psm_par (i := 6) (j := 7) rfl sc_meeting.nd rfl rfl (by decide) rfl rfl (pm_cons (pm_callD c_turn (hr.mono (by decide)) hG rfl (pm_cons (pm_var (pv 2)) (pm_cons (pm_var (pv 3)) (pm_cons (pm_var (pv 0)) pm_nil)))) (pm_cons (pm_callD c_turn (hr.mono (by decide)) hG rfl (pm_cons (pm_var (pv 2)) (pm_cons (pm_var (pv 3)) (pm_cons (pm_var (pv 1)) pm_nil)))) pm_nil)) (by rfl)) (psm_cons (psm_if (PW.pt (pwm_or (pt_cm om_gt (pm_bin om_mul (pm_var (pv 4)) (pm_var (pv 5))) pm_int (nomark _)) (pwm_or1 (pt_cm om_gt (pm_bin om_mul (pm_var (pv 6)) (pm_var (pv 7))) pm_int (nomark _))))) (psm_one (psm_ret (pm_tup (pm_cons pm_str pm_nil)))) psm_nil) (psm_cons (psm_for PassesOwn.never rfl (pim_seq (pm_tup (pm_cons (pm_tup (pm_cons (pm_var (pv 2)) (pm_cons (pm_var (pv 4)) pm_nil))) (pm_cons (pm_tup (pm_cons (pm_var (pv 3)) (pm_cons (pm_var (pv 5)) pm_nil))) (pm_cons (pm_tup (pm_cons (pm_var (pv 0)) (pm_cons (pm_var (pv 6)) pm_nil))) (pm_cons (pm_tup (pm_cons (pm_var (pv 1)) (pm_cons (pm_var (pv 7)) pm_nil))) pm_nil)))))) (pgm_tup rfl (pgsm_cons (pgm_name (i := 8) sc_meeting.nd rfl (by first | exact .inl rfl | exact .inr rfl)) (pgsm_cons (pgm_name (i := 9) sc_meeting.nd rfl (by first | exact .inl rfl | exact .inr rfl)) pgsm_nil)) (gsCons_len (gsCons_len gsNil_len))) (psm_one (psm_if (pt_cm (om_eq hr.units) (pm_var (pv 9)) pm_int (nomark _)) (psm_one (psm_ret (pm_tup (pm_cons pm_str (pm_cons (pm_var (pv 8)) pm_nil))))) psm_nil))) (psm_one (psm_ret (pm_tup (pm_cons pm_str (pm_cons (pm_callD c_common_point (hr.mono (by decide)) hG rfl (pm_cons (pm_var (pv 0)) (pm_cons (pm_var (pv 1)) (pm_cons (pm_var (pv 2)) (pm_cons (pm_var (pv 3)) pm_nil))))) pm_nil))))))))))
theorem df_meet (N : Nms mg) (c_meeting : Df P w K mg base 4 "meeting" ["a", "b", "c", "d"] D_meeting) (c_check_points : Df P w K mg base 4 "check_points" ["values"] D_check_points) {f : Addr} (F : ∃ fd, FunD K "meet" "meet" (defArgs s_meet) (defBody s_meet) (defScope s_meet) [] [] f fd) (g : mg "meet" = some (.ref f)) : Df P w K mg base 5 "meet" ["a", "b", "c", "d"] D_meet := by
  refine df_of F g sc_meet rfl rfl (fun _ _ _ _ _ _ us hl => match us, hl with | [_, _, _, _], _ => rfl) fun cdv A outer s H hr hG => ?_
  unfold F_meet
  exact (psm_cons (psm_expr (pm_callD c_check_points (hr.mono (by decide)) hG rfl (pm_cons (pm_tup (pm_cons (pm_var (pv 0)) (pm_cons (pm_var (pv 1)) (pm_cons (pm_var (pv 2)) (pm_cons (pm_var (pv 3)) pm_nil))))) pm_nil))) (psm_cons (psm_for PassesOwn.never rfl (pim_seq (pm_tup (pm_cons (pm_tup (pm_cons (pm_var (pv 0)) (pm_cons (pm_var (pv 1)) pm_nil))) (pm_cons (pm_tup (pm_cons (pm_var (pv 2)) (pm_cons (pm_var (pv 3)) pm_nil))) pm_nil)))) (pgm_name (i := 4) sc_meet.nd rfl (by first | exact .inl rfl | exact .inr rfl)) (psm_one (psm_if (pt_cm (om_eq hr.units) (pm_ix (pm_var (pv 4)) pm_int) (pm_ix (pm_var (pv 4)) pm_int) (nomark _)) (psm_one psm_never) psm_nil))) (psm_one (psm_ret (pm_callD c_meeting (hr.mono (by decide)) hG rfl (pm_cons (pm_var (pv 0)) (pm_cons (pm_var (pv 1)) (pm_cons (pm_var (pv 2)) (pm_cons (pm_var (pv 3)) pm_nil)))))))))
theorem df_point_between (N : Nms mg) (c_point_at : Df P w K mg base 1 "point_at" ["x", "y", "bottom"] D_point_at) {f : Addr} (F : ∃ fd, FunD K "point_between" "point_between" (defArgs s_point_between) (defBody s_point_between) (defScope s_point_between) [] [] f fd) (g : mg "point_between" = some (.ref f)) : Df P w K mg base 2 "point_between" ["a", "b", "share"] D_point_between := by
  refine df_of F g sc_point_between rfl rfl (fun _ _ _ _ _ _ us hl => match us, hl with | [_, _, _], _ => rfl) fun cdv A outer s H hr hG => ?_
  unfold F_point_between
  exact (psm_cons (psm_asg (pm_bin om_mul (pm_ix (pm_var (pv 2)) pm_int) (pm_ix (pm_var (pv 0)) pm_int)) (pgm_name (i := 3) sc_point_between.nd rfl (by first | exact .inl rfl | exact .inr rfl))) (psm_cons (psm_asg (pm_bin om_mul (pm_bin om_sub (pm_ix (pm_var (pv 2)) pm_int) (pm_ix (pm_var (pv 2)) pm_int)) (pm_ix (pm_var (pv 1)) pm_int)) (pgm_name (i := 4) sc_point_between.nd rfl (by first | exact .inl rfl | exact .inr rfl))) (psm_one (psm_ret (pm_callD c_point_at (hr.mono (by decide)) hG rfl (pm_cons (pm_bin om_add (pm_bin om_mul (pm_ix (pm_var (pv 0)) pm_int) (pm_var (pv 4))) (pm_bin om_mul (pm_ix (pm_var (pv 1)) pm_int) (pm_var (pv 3)))) (pm_cons (pm_bin om_add (pm_bin om_mul (pm_ix (pm_var (pv 0)) pm_int) (pm_var (pv 4))) (pm_bin om_mul (pm_ix (pm_var (pv 1)) pm_int) (pm_var (pv 3)))) (pm_cons (pm_bin om_mul (pm_bin om_mul (pm_ix (pm_var (pv 0)) pm_int) (pm_ix (pm_var (pv 1)) pm_int)) (pm_ix (pm_var (pv 2)) pm_int)) pm_nil))))))))
theorem df_is_fraction (N : Nms mg) (c_are_integers : Df P w K mg base 2 "are_integers" ["value", "many"] D_are_integers) {f : Addr} (F : ∃ fd, FunD K "is_fraction" "is_fraction" (defArgs s_is_fraction) (defBody s_is_fraction) (defScope s_is_fraction) [] [] f fd) (g : mg "is_fraction" = some (.ref f)) : Df P w K mg base 3 "is_fraction" ["value"] D_is_fraction := by
  refine df_of F g sc_is_fraction rfl rfl (fun _ _ _ _ _ _ us hl => match us, hl with | [_], _ => rfl) fun cdv A outer s H hr hG => ?_
  unfold F_is_fraction
  exact (psm_one (psm_ret (pm_and (pm_callD c_are_integers (hr.mono (by decide)) hG rfl (pm_cons (pm_var (pv 0)) (pm_cons pm_int pm_nil))) (pm_and (pm_cmp om_ge (pm_ix (pm_var (pv 0)) pm_int) pm_int (nomark _)) (pm_one (pm_cmp (om_eq hr.units) (pm_callF cm_gcd rfl N.g_gcd (pm_cons (pm_ix (pm_var (pv 0)) pm_int) (pm_cons (pm_ix (pm_var (pv 0)) pm_int) pm_nil))) pm_int (nomark _)))))))
theorem df_is_share (N : Nms mg) (c_is_fraction : Df P w K mg base 3 "is_fraction" ["value"] D_is_fraction) {f : Addr} (F : ∃ fd, FunD K "is_share" "is_share" (defArgs s_is_share) (defBody s_is_share) (defScope s_is_share) [] [] f fd) (g : mg "is_share" = some (.ref f)) : Df P w K mg base 4 "is_share" ["value"] D_is_share := by
  refine df_of F g sc_is_share rfl rfl (fun _ _ _ _ _ _ us hl => match us, hl with | [_], _ => rfl) fun cdv A outer s H hr hG => ?_
  unfold F_is_share
  exact (psm_one (psm_ret (pm_and (pm_callD c_is_fraction (hr.mono (by decide)) hG rfl (pm_cons (pm_var (pv 0)) pm_nil)) (pm_one (pm_chain om_le om_le pm_int (pm_ix (pm_var (pv 0)) pm_int) (pm_ix (pm_var (pv 0)) pm_int))))))
theorem df_between (N : Nms mg) (c_point_between : Df P w K mg base 2 "point_between" ["a", "b", "share"] D_point_between) (c_is_share : Df P w K mg base 4 "is_share" ["value"] D_is_share) (c_check_points : Df P w K mg base 4 "check_points" ["values"] D_check_points) {f : Addr} (F : ∃ fd, FunD K "between" "between" (defArgs s_between) (defBody s_between) (defScope s_between) [] [] f fd) (g : mg "between" = some (.ref f)) : Df P w K mg base 5 "between" ["a", "b", "share"] D_between := by
  refine df_of F g sc_between rfl rfl (fun _ _ _ _ _ _ us hl => match us, hl with | [_, _, _], _ => rfl) fun cdv A outer s H hr hG => ?_
  unfold F_between
  exact (psm_cons (psm_expr (pm_callD c_check_points (hr.mono (by decide)) hG rfl (pm_cons (pm_tup (pm_cons (pm_var (pv 0)) (pm_cons (pm_var (pv 1)) pm_nil))) pm_nil))) (psm_cons (psm_if (ptm_not (pt_tru (pm_callD c_is_share (hr.mono (by decide)) hG rfl (pm_cons (pm_var (pv 2)) pm_nil)))) (psm_one psm_never) psm_nil) (psm_one (psm_ret (pm_callD c_point_between (hr.mono (by decide)) hG rfl (pm_cons (pm_var (pv 0)) (pm_cons (pm_var (pv 1)) (pm_cons (pm_var (pv 2)) pm_nil))))))))
theorem df__law_take (N : Nms mg)  {f : Addr} (F : ∃ fd, FunD K "_law_take" "_law_take" (defArgs s__law_take) (defBody s__law_take) (defScope s__law_take) [] [] f fd) (g : mg "_law_take" = some (.ref f)) : Df P w K mg base 1 "_law_take" ["pot", "upto"] D__law_take := by
  refine df_of F g sc__law_take rfl rfl (fun _ _ _ _ _ _ us hl => match us, hl with | [_, _], _ => rfl) fun cdv A outer s H hr hG => ?_
  unfold F__law_take
  exact (psm_cons (psm_if (pt_cm om_gt (pm_ix (pm_var (pv 0)) pm_int) pm_int (nomark _)) (psm_cons (psm_asg (pm_bin om_mod (pm_callTy cm_int rfl N.n_int boot_int (pm_cons (pm_ix (pm_var (pv 0)) pm_int) pm_nil)) (pm_var (pv 1))) (pgm_name (i := 4) sc__law_take.nd rfl (by first | exact .inl rfl | exact .inr rfl))) (psm_cons (psm_asg (pm_bin om_div (pm_ix (pm_var (pv 0)) pm_int) (pm_var (pv 1))) (pgm_sub (pm_var (pv 0)) pm_int)) (psm_one (psm_ret (pm_var (pv 4)))))) psm_nil) (psm_cons (psm_asg (pm_bin om_add (pm_ix (pm_var (pv 0)) pm_int) pm_int) (pgm_sub (pm_var (pv 0)) pm_int)) (psm_cons (psm_asg (pm_ix (pm_lst (pm_cons pm_int (pm_cons pm_int (pm_cons pm_int (pm_cons pm_int (pm_cons pm_int pm_nil)))))) (pm_bin om_mod (pm_callTy cm_int rfl N.n_int boot_int (pm_cons (pm_ix (pm_var (pv 0)) pm_int) pm_nil)) pm_int)) (pgm_name (i := 2) sc__law_take.nd rfl (by first | exact .inl rfl | exact .inr rfl))) (psm_cons (psm_asg (pm_bin om_mod (pm_callTy cm_int rfl N.n_int boot_int (pm_cons (pm_bin om_pow (pm_callTy cm_int rfl N.n_int boot_int (pm_cons (pm_bin om_add (pm_bin om_add (pm_ix (pm_var (pv 0)) pm_int) (pm_bin om_mul (pm_bin om_mul pm_int (pm_ix (pm_var (pv 0)) pm_int)) (pm_ix (pm_var (pv 0)) pm_int))) pm_int) pm_nil)) pm_int) pm_nil)) (pm_var (pv 2))) (pgm_name (i := 3) sc__law_take.nd rfl (by first | exact .inl rfl | exact .inr rfl))) (psm_cons (psm_asg (pm_bin om_mod (pm_callTy cm_int rfl N.n_int boot_int (pm_cons (pm_bin om_mul (pm_var (pv 3)) (pm_bin om_add (pm_bin om_mod (pm_callTy cm_int rfl N.n_int boot_int (pm_cons (pm_var (pv 3)) pm_nil)) pm_int) (pm_bin om_mul pm_int (pm_ix (pm_var (pv 0)) pm_int)))) pm_nil)) pm_int) (pgm_name (i := 3) sc__law_take.nd rfl (by first | exact .inl rfl | exact .inr rfl))) (psm_one (psm_ret (pm_bin om_mod (pm_callTy cm_int rfl N.n_int boot_int (pm_cons (pm_bin om_div (pm_var (pv 3)) pm_int) pm_nil)) (pm_var (pv 1))))))))))
theorem df__law_frac_common (N : Nms mg)  {f : Addr} (F : ∃ fd, FunD K "_law_frac_common" "_law_frac_common" (defArgs s__law_frac_common) (defBody s__law_frac_common) (defScope s__law_frac_common) [] [] f fd) (g : mg "_law_frac_common" = some (.ref f)) : Df P w K mg base 1 "_law_frac_common" ["one", "other"] D__law_frac_common := by
  refine df_of F g sc__law_frac_common rfl rfl (fun _ _ _ _ _ _ us hl => match us, hl with | [_, _], _ => rfl) fun cdv A outer s H hr hG => ?_
  unfold F__law_frac_common
  exact (psm_cons (psm_par (i := 0) (j := 1) rfl sc__law_frac_common.nd rfl rfl (by decide) rfl rfl (pm_cons (pm_callB cm_abs rfl N.n_abs boot_abs (pm_cons (pm_var (pv 0)) pm_nil)) (pm_cons (pm_callB cm_abs rfl N.n_abs boot_abs (pm_cons (pm_var (pv 1)) pm_nil)) pm_nil)) (by rfl)) (psm_cons (psm_while fuel__law_frac_common PassesOwn.never (pt_cm om_gt (pm_var (pv 1)) pm_int (nomark _)) (psm_one (psm_par (i := 0) (j := 1) rfl sc__law_frac_common.nd rfl rfl (by decide) rfl rfl (pm_cons (pm_var (pv 1)) (pm_cons (pm_bin om_mod (pm_callTy cm_int rfl N.n_int boot_int (pm_cons (pm_var (pv 0)) pm_nil)) (pm_var (pv 1))) pm_nil)) (by rfl)))) (psm_one (psm_ret (pm_var (pv 0))))))
theorem df__law_frac (N : Nms mg) (c__law_frac_common : Df P w K mg base 1 "_law_frac_common" ["one", "other"] D__law_frac_common) {f : Addr} (F : ∃ fd, FunD K "_law_frac" "_law_frac" (defArgs s__law_frac) (defBody s__law_frac) (defScope s__law_frac) [] [] f fd) (g : mg "_law_frac" = some (.ref f)) : Df P w K mg base 2 "_law_frac" ["top", "bottom"] D__law_frac := by
  refine df_of F g sc__law_frac rfl rfl (fun _ _ _ _ _ _ us hl => match us, hl with | [_, _], _ => rfl) fun cdv A outer s H hr hG => ?_
  unfold F__law_frac
  exact (psm_cons (psm_asg (pm_callD c__law_frac_common (hr.mono (by decide)) hG rfl (pm_cons (pm_var (pv 0)) (pm_cons (pm_var (pv 1)) pm_nil))) (pgm_name (i := 2) sc__law_frac.nd rfl (by first | exact .inl rfl | exact .inr rfl))) (psm_cons (psm_asg (pm_if (pt_cm om_gt (pm_var (pv 1)) pm_int (nomark _)) (pm_var (pv 2)) (pm_un um_neg (pm_var (pv 2)))) (pgm_name (i := 2) sc__law_frac.nd rfl (by first | exact .inl rfl | exact .inr rfl))) (psm_one (psm_ret (pm_tup (pm_cons (pm_bin om_div (pm_var (pv 0)) (pm_var (pv 2))) (pm_cons (pm_bin om_div (pm_var (pv 1)) (pm_var (pv 2))) pm_nil)))))))
theorem df__law_point_told (N : Nms mg) (c__law_frac_common : Df P w K mg base 1 "_law_frac_common" ["one", "other"] D__law_frac_common) {f : Addr} (F : ∃ fd, FunD K "_law_point_told" "_law_point_told" (defArgs s__law_point_told) (defBody s__law_point_told) (defScope s__law_point_told) [] [] f fd) (g : mg "_law_point_told" = some (.ref f)) : Df P w K mg base 2 "_law_point_told" ["point"] D__law_point_told := by
  refine df_of F g sc__law_point_told rfl rfl (fun _ _ _ _ _ _ us hl => match us, hl with | [_], _ => rfl) fun cdv A outer s H hr hG => ?_
  unfold F__law_point_told
  exact (psm_cons (psm_asg (pm_var (pv 0)) (pgm_tup rfl (pgsm_cons (pgm_tup rfl (pgsm_cons (pgm_name (i := 2) sc__law_point_told.nd rfl (by first | exact .inl rfl | exact .inr rfl)) (pgsm_cons (pgm_name (i := 3) sc__law_point_told.nd rfl (by first | exact .inl rfl | exact .inr rfl)) pgsm_nil)) (gsCons_len (gsCons_len gsNil_len))) (pgsm_cons (pgm_tup rfl (pgsm_cons (pgm_name (i := 4) sc__law_point_told.nd rfl (by first | exact .inl rfl | exact .inr rfl)) (pgsm_cons (pgm_name (i := 5) sc__law_point_told.nd rfl (by first | exact .inl rfl | exact .inr rfl)) pgsm_nil)) (gsCons_len (gsCons_len gsNil_len))) pgsm_nil)) (gsCons_len (gsCons_len gsNil_len)))) (psm_cons (psm_asg (pm_callD c__law_frac_common (hr.mono (by decide)) hG rfl (pm_cons (pm_var (pv 3)) (pm_cons (pm_var (pv 5)) pm_nil))) (pgm_name (i := 1) sc__law_point_told.nd rfl (by first | exact .inl rfl | exact .inr rfl))) (psm_one (psm_ret (pm_tup (pm_cons (pm_bin om_mul (pm_var (pv 2)) (pm_bin om_div (pm_var (pv 5)) (pm_var (pv 1)))) (pm_cons (pm_bin om_mul (pm_var (pv 4)) (pm_bin om_div (pm_var (pv 3)) (pm_var (pv 1)))) (pm_cons (pm_bin om_mul (pm_bin om_div (pm_var (pv 3)) (pm_var (pv 1))) (pm_var (pv 5))) pm_nil))))))))
theorem df__law_of (N : Nms mg) (c__law_take : Df P w K mg base 1 "_law_take" ["pot", "upto"] D__law_take) {f : Addr} (F : ∃ fd, FunD K "_law_of" "_law_of" (defArgs s__law_of) (defBody s__law_of) (defScope s__law_of) [] [] f fd) (g : mg "_law_of" = some (.ref f)) : Df P w K mg base 2 "_law_of" ["pot", "some"] D__law_of := by
  refine df_of F g sc__law_of rfl rfl (fun _ _ _ _ _ _ us hl => match us, hl with | [_, _], _ => rfl) fun cdv A outer s H hr hG => ?_
  unfold F__law_of
  exact (psm_one (psm_ret (pm_ix (pm_var (pv 1)) (pm_callD c__law_take (hr.mono (by decide)) hG rfl (pm_cons (pm_var (pv 0)) (pm_cons (pm_callB cm_len rfl N.n_len boot_len (pm_cons (pm_var (pv 1)) pm_nil)) pm_nil))))))
theorem df__law_leader (N : Nms mg) (c__law_take : Df P w K mg base 1 "_law_take" ["pot", "upto"] D__law_take) (c__law_of : Df P w K mg base 2 "_law_of" ["pot", "some"] D__law_of) (c__law_frac : Df P w K mg base 2 "_law_frac" ["top", "bottom"] D__law_frac) {f : Addr} (F : ∃ fd, FunD K "_law_leader" "_law_leader" (defArgs s__law_leader) (defBody s__law_leader) (defScope s__law_leader) [] [] f fd) (g : mg "_law_leader" = some (.ref f)) : Df P w K mg base 3 "_law_leader" ["pot"] D__law_leader := by
  refine df_of F g sc__law_leader rfl rfl (fun _ _ _ _ _ _ us hl => match us, hl with | [_], _ => rfl) fun cdv A outer s H hr hG => ?_
  unfold F__law_leader
  exact (psm_cons (psm_asg (pm_tup (pm_cons (pm_callD c__law_frac (hr.mono (by decide)) hG rfl (pm_cons (pm_bin om_sub (pm_callD c__law_take (hr.mono (by decide)) hG rfl (pm_cons (pm_var (pv 0)) (pm_cons pm_int pm_nil))) pm_int) (pm_cons (pm_callD c__law_of (hr.mono (by decide)) hG rfl (pm_cons (pm_var (pv 0)) (pm_cons (pm_lst (pm_cons pm_int (pm_cons pm_int (pm_cons pm_int pm_nil)))) pm_nil))) pm_nil))) (pm_cons (pm_callD c__law_frac (hr.mono (by decide)) hG rfl (pm_cons (pm_bin om_sub (pm_callD c__law_take (hr.mono (by decide)) hG rfl (pm_cons (pm_var (pv 0)) (pm_cons pm_int pm_nil))) pm_int) (pm_cons pm_int pm_nil))) pm_nil))) (pgm_name (i := 1) sc__law_leader.nd rfl (by first | exact .inl rfl | exact .inr rfl))) (psm_cons (psm_asg (pm_callD c__law_of (hr.mono (by decide)) hG rfl (pm_cons (pm_var (pv 0)) (pm_cons (pm_lst (pm_cons (pm_tup (pm_cons pm_int (pm_cons pm_int pm_nil))) (pm_cons (pm_tup (pm_cons pm_int (pm_cons pm_int pm_nil))) (pm_cons (pm_tup (pm_cons pm_int (pm_cons pm_int pm_nil))) (pm_cons (pm_tup (pm_cons pm_int (pm_cons pm_int pm_nil))) (pm_cons (pm_tup (pm_cons pm_int (pm_cons pm_int pm_nil))) (pm_cons (pm_tup (pm_cons (pm_bin om_pow pm_int pm_int) (pm_cons pm_int pm_nil))) pm_nil))))))) pm_nil))) (pgm_name (i := 2) sc__law_leader.nd rfl (by first | exact .inl rfl | exact .inr rfl))) (psm_one (psm_ret (pm_tup (pm_cons (pm_callD c__law_of (hr.mono (by decide)) hG rfl (pm_cons (pm_var (pv 0)) (pm_cons (pm_lst (pm_cons pm_str (pm_cons pm_str (pm_cons pm_str (pm_cons pm_str pm_nil))))) pm_nil))) (pm_cons (pm_var (pv 1)) (pm_cons (pm_var (pv 2)) pm_nil))))))))
theorem df__law_small_point (N : Nms mg) (c__law_take : Df P w K mg base 1 "_law_take" ["pot", "upto"] D__law_take) (c__law_of : Df P w K mg base 2 "_law_of" ["pot", "some"] D__law_of) (c__law_frac : Df P w K mg base 2 "_law_frac" ["top", "bottom"] D__law_frac) {f : Addr} (F : ∃ fd, FunD K "_law_small_point" "_law_small_point" (defArgs s__law_small_point) (defBody s__law_small_point) (defScope s__law_small_point) [] [] f fd) (g : mg "_law_small_point" = some (.ref f)) : Df P w K mg base 3 "_law_small_point" ["pot"] D__law_small_point := by
  refine df_of F g sc__law_small_point rfl rfl (fun _ _ _ _ _ _ us hl => match us, hl with | [_], _ => rfl) fun cdv A outer s H hr hG => ?_
  unfold F__law_small_point
  exact (psm_cons (psm_asg (pm_callD c__law_of (hr.mono (by decide)) hG rfl (pm_cons (pm_var (pv 0)) (pm_cons (pm_lst (pm_cons pm_int (pm_cons pm_int (pm_cons pm_int (pm_cons pm_int pm_nil))))) pm_nil))) (pgm_name (i := 1) sc__law_small_point.nd rfl (by first | exact .inl rfl | exact .inr rfl))) (psm_one (psm_ret (pm_tup (pm_cons (pm_callD c__law_frac (hr.mono (by decide)) hG rfl (pm_cons (pm_bin om_sub (pm_callD c__law_take (hr.mono (by decide)) hG rfl (pm_cons (pm_var (pv 0)) (pm_cons pm_int pm_nil))) pm_int) (pm_cons (pm_var (pv 1)) pm_nil))) (pm_cons (pm_callD c__law_frac (hr.mono (by decide)) hG rfl (pm_cons (pm_bin om_sub (pm_callD c__law_take (hr.mono (by decide)) hG rfl (pm_cons (pm_var (pv 0)) (pm_cons pm_int pm_nil))) pm_int) (pm_cons pm_int pm_nil))) pm_nil))))))
theorem df__law_frac_plus (N : Nms mg) (c__law_frac : Df P w K mg base 2 "_law_frac" ["top", "bottom"] D__law_frac) {f : Addr} (F : ∃ fd, FunD K "_law_frac_plus" "_law_frac_plus" (defArgs s__law_frac_plus) (defBody s__law_frac_plus) (defScope s__law_frac_plus) [] [] f fd) (g : mg "_law_frac_plus" = some (.ref f)) : Df P w K mg base 3 "_law_frac_plus" ["one", "other"] D__law_frac_plus := by
  refine df_of F g sc__law_frac_plus rfl rfl (fun _ _ _ _ _ _ us hl => match us, hl with | [_, _], _ => rfl) fun cdv A outer s H hr hG => ?_
  unfold F__law_frac_plus
  exact (psm_one (psm_ret (pm_callD c__law_frac (hr.mono (by decide)) hG rfl (pm_cons (pm_bin om_add (pm_bin om_mul (pm_ix (pm_var (pv 0)) pm_int) (pm_ix (pm_var (pv 1)) pm_int)) (pm_bin om_mul (pm_ix (pm_var (pv 1)) pm_int) (pm_ix (pm_var (pv 0)) pm_int))) (pm_cons (pm_bin om_mul (pm_ix (pm_var (pv 0)) pm_int) (pm_ix (pm_var (pv 1)) pm_int)) pm_nil)))))
theorem df__law_frac_times (N : Nms mg) (c__law_frac : Df P w K mg base 2 "_law_frac" ["top", "bottom"] D__law_frac) {f : Addr} (F : ∃ fd, FunD K "_law_frac_times" "_law_frac_times" (defArgs s__law_frac_times) (defBody s__law_frac_times) (defScope s__law_frac_times) [] [] f fd) (g : mg "_law_frac_times" = some (.ref f)) : Df P w K mg base 3 "_law_frac_times" ["one", "other"] D__law_frac_times := by
  refine df_of F g sc__law_frac_times rfl rfl (fun _ _ _ _ _ _ us hl => match us, hl with | [_, _], _ => rfl) fun cdv A outer s H hr hG => ?_
  unfold F__law_frac_times
  exact (psm_one (psm_ret (pm_callD c__law_frac (hr.mono (by decide)) hG rfl (pm_cons (pm_bin om_mul (pm_ix (pm_var (pv 0)) pm_int) (pm_ix (pm_var (pv 1)) pm_int)) (pm_cons (pm_bin om_mul (pm_ix (pm_var (pv 0)) pm_int) (pm_ix (pm_var (pv 1)) pm_int)) pm_nil)))))
theorem df__law_led_point (N : Nms mg) (c__law_frac_plus : Df P w K mg base 3 "_law_frac_plus" ["one", "other"] D__law_frac_plus) (c__law_frac_times : Df P w K mg base 3 "_law_frac_times" ["one", "other"] D__law_frac_times) {f : Addr} (F : ∃ fd, FunD K "_law_led_point" "_law_led_point" (defArgs s__law_led_point) (defBody s__law_led_point) (defScope s__law_led_point) [] [] f fd) (g : mg "_law_led_point" = some (.ref f)) : Df P w K mg base 4 "_law_led_point" ["leader", "point"] D__law_led_point := by
  refine df_of F g sc__law_led_point rfl rfl (fun _ _ _ _ _ _ us hl => match us, hl with | [_, _], _ => rfl) fun cdv A outer s H hr hG => ?_
  unfold F__law_led_point
  exact (psm_cons (psm_asg (pm_var (pv 0)) (pgm_tup rfl (pgsm_cons (pgm_name (i := 2) sc__law_led_point.nd rfl (by first | exact .inl rfl | exact .inr rfl)) (pgsm_cons (pgm_name (i := 3) sc__law_led_point.nd rfl (by first | exact .inl rfl | exact .inr rfl)) (pgsm_cons (pgm_name (i := 4) sc__law_led_point.nd rfl (by first | exact .inl rfl | exact .inr rfl)) pgsm_nil))) (gsCons_len (gsCons_len (gsCons_len gsNil_len))))) (psm_cons (psm_asg (pm_var (pv 1)) (pgm_tup rfl (pgsm_cons (pgm_name (i := 5) sc__law_led_point.nd rfl (by first | exact .inl rfl | exact .inr rfl)) (pgsm_cons (pgm_name (i := 6) sc__law_led_point.nd rfl (by first | exact .inl rfl | exact .inr rfl)) pgsm_nil)) (gsCons_len (gsCons_len gsNil_len)))) (psm_cons (psm_if (pt_cm (om_eq hr.units) (pm_var (pv 2)) pm_str (nomark _)) (psm_one (psm_par (i := 5) (j := 6) rfl sc__law_led_point.nd rfl rfl (by decide) rfl rfl (pm_cons (pm_callD c__law_frac_times (hr.mono (by decide)) hG rfl (pm_cons (pm_tup (pm_cons (pm_un um_neg pm_int) (pm_cons pm_int pm_nil))) (pm_cons (pm_var (pv 6)) pm_nil))) (pm_cons (pm_var (pv 5)) pm_nil)) (by rfl))) (psm_one (psm_if (pt_cm (om_eq hr.units) (pm_var (pv 2)) pm_str (nomark _)) (psm_one (psm_asg (pm_callD c__law_frac_times (hr.mono (by decide)) hG rfl (pm_cons (pm_tup (pm_cons (pm_un um_neg pm_int) (pm_cons pm_int pm_nil))) (pm_cons (pm_var (pv 5)) pm_nil))) (pgm_name (i := 5) sc__law_led_point.nd rfl (by first | exact .inl rfl | exact .inr rfl)))) (psm_one (psm_if (pt_cm (om_eq hr.units) (pm_var (pv 2)) pm_str (nomark _)) (psm_one (psm_par (i := 5) (j := 6) rfl sc__law_led_point.nd rfl rfl (by decide) rfl rfl (pm_cons (pm_callD c__law_frac_times (hr.mono (by decide)) hG rfl (pm_cons (pm_tup (pm_cons (pm_un um_neg pm_int) (pm_cons pm_int pm_nil))) (pm_cons (pm_var (pv 5)) pm_nil))) (pm_cons (pm_callD c__law_frac_times (hr.mono (by decide)) hG rfl (pm_cons (pm_tup (pm_cons (pm_un um_neg pm_int) (pm_cons pm_int pm_nil))) (pm_cons (pm_var (pv 6)) pm_nil))) pm_nil)) (by rfl))) psm_nil))))) (psm_one (psm_ret (pm_tup (pm_cons (pm_callD c__law_frac_plus (hr.mono (by decide)) hG rfl (pm_cons (pm_callD c__law_frac_times (hr.mono (by decide)) hG rfl (pm_cons (pm_var (pv 4)) (pm_cons (pm_var (pv 5)) pm_nil))) (pm_cons (pm_ix (pm_var (pv 3)) pm_int) pm_nil))) (pm_cons (pm_callD c__law_frac_plus (hr.mono (by decide)) hG rfl (pm_cons (pm_callD c__law_frac_times (hr.mono (by decide)) hG rfl (pm_cons (pm_var (pv 4)) (pm_cons (pm_var (pv 6)) pm_nil))) (pm_cons (pm_ix (pm_var (pv 3)) pm_int) pm_nil))) pm_nil))))))))
theorem df__law_told (N : Nms mg) (c__law_point_told : Df P w K mg base 2 "_law_point_told" ["point"] D__law_point_told) (c__law_led_point : Df P w K mg base 4 "_law_led_point" ["leader", "point"] D__law_led_point) {f : Addr} (F : ∃ fd, FunD K "_law_told" "_law_told" (defArgs s__law_told) (defBody s__law_told) (defScope s__law_told) [] [] f fd) (g : mg "_law_told" = some (.ref f)) : Df P w K mg base 5 "_law_told" ["leader", "points"] D__law_told := by
  refine df_of F g sc__law_told rfl rfl (fun _ _ _ _ _ _ us hl => match us, hl with | [_, _], _ => rfl) fun cdv A outer s H hr hG => ?_
  unfold F__law_told
  exact (psm_one (psm_ret (pm_comp (own := [("point", 2)]) rfl sc__law_told.nd (pim_seq (pm_var (pv 1))) (blkOk_by (own := [("point", 2)]) (N := N__law_told) (sc := defScope s__law_told) (by decide +kernel)) (by decide) (fun _ _ _ _ _ => (pgm_name (i := 2) sc__law_told.nd rfl (by first | exact .inl rfl | exact .inr rfl))) (fun _ _ _ _ _ => ptsm_nil) (fun _ _ _ _ _ => (pm_callD c__law_point_told (hr.mono (by decide)) hG rfl (pm_cons (pm_callD c__law_led_point (hr.mono (by decide)) hG rfl (pm_cons (pm_var (pv 0)) (pm_cons (pm_var (pv 2)) pm_nil))) pm_nil))))))
theorem df__law_point_own (N : Nms mg) (c__law_frac : Df P w K mg base 2 "_law_frac" ["top", "bottom"] D__law_frac) {f : Addr} (F : ∃ fd, FunD K "_law_point_own" "_law_point_own" (defArgs s__law_point_own) (defBody s__law_point_own) (defScope s__law_point_own) [] [] f fd) (g : mg "_law_point_own" = some (.ref f)) : Df P w K mg base 3 "_law_point_own" ["told"] D__law_point_own := by
  refine df_of F g sc__law_point_own rfl rfl (fun _ _ _ _ _ _ us hl => match us, hl with | [_], _ => rfl) fun cdv A outer s H hr hG => ?_
  unfold F__law_point_own
  exact (psm_one (psm_ret (pm_tup (pm_cons (pm_callD c__law_frac (hr.mono (by decide)) hG rfl (pm_cons (pm_ix (pm_var (pv 0)) pm_int) (pm_cons (pm_ix (pm_var (pv 0)) pm_int) pm_nil))) (pm_cons (pm_callD c__law_frac (hr.mono (by decide)) hG rfl (pm_cons (pm_ix (pm_var (pv 0)) pm_int) (pm_cons (pm_ix (pm_var (pv 0)) pm_int) pm_nil))) pm_nil)))))
theorem df__law_led_told (N : Nms mg) (c__law_point_own : Df P w K mg base 3 "_law_point_own" ["told"] D__law_point_own) (c__law_point_told : Df P w K mg base 2 "_law_point_told" ["point"] D__law_point_told) (c__law_led_point : Df P w K mg base 4 "_law_led_point" ["leader", "point"] D__law_led_point) {f : Addr} (F : ∃ fd, FunD K "_law_led_told" "_law_led_told" (defArgs s__law_led_told) (defBody s__law_led_told) (defScope s__law_led_told) [] [] f fd) (g : mg "_law_led_told" = some (.ref f)) : Df P w K mg base 5 "_law_led_told" ["leader", "value"] D__law_led_told := by
  refine df_of F g sc__law_led_told rfl rfl (fun _ _ _ _ _ _ us hl => match us, hl with | [_, _], _ => rfl) fun cdv A outer s H hr hG => ?_
  unfold F__law_led_told
  exact (psm_one (psm_ret (pm_callD c__law_point_told (hr.mono (by decide)) hG rfl (pm_cons (pm_callD c__law_led_point (hr.mono (by decide)) hG rfl (pm_cons (pm_var (pv 0)) (pm_cons (pm_callD c__law_point_own (hr.mono (by decide)) hG rfl (pm_cons (pm_var (pv 1)) pm_nil)) pm_nil))) pm_nil))))
theorem df_lies_on (N : Nms mg) (c_turn : Df P w K mg base 1 "turn" ["a", "b", "c"] D_turn) (c_is_ahead : Df P w K mg base 1 "is_ahead" ["a", "b"] D_is_ahead) (c_first_of : Df P w K mg base 2 "first_of" ["a", "b"] D_first_of) (c_last_of : Df P w K mg base 2 "last_of" ["a", "b"] D_last_of) {f : Addr} (F : ∃ fd, FunD K "lies_on" "lies_on" (defArgs s_lies_on) (defBody s_lies_on) (defScope s_lies_on) [] [] f fd) (g : mg "lies_on" = some (.ref f)) : Df P w K mg base 3 "lies_on" ["a", "b", "c"] D_lies_on := by
  refine df_of F g sc_lies_on rfl rfl (fun _ _ _ _ _ _ us hl => match us, hl with | [_, _, _], _ => rfl) fun cdv A outer s H hr hG => ?_
  unfold F_lies_on
  exact (psm_one (psm_ret (pm_and (pm_cmp (om_eq hr.units) (pm_callD c_turn (hr.mono (by decide)) hG rfl (pm_cons (pm_var (pv 0)) (pm_cons (pm_var (pv 1)) (pm_cons (pm_var (pv 2)) pm_nil)))) pm_int (nomark _)) (pm_and (pm_not (pm_callD c_is_ahead (hr.mono (by decide)) hG rfl (pm_cons (pm_var (pv 2)) (pm_cons (pm_callD c_first_of (hr.mono (by decide)) hG rfl (pm_cons (pm_var (pv 0)) (pm_cons (pm_var (pv 1)) pm_nil))) pm_nil)))) (pm_one (pm_not (pm_callD c_is_ahead (hr.mono (by decide)) hG rfl (pm_cons (pm_callD c_last_of (hr.mono (by decide)) hG rfl (pm_cons (pm_var (pv 0)) (pm_cons (pm_var (pv 1)) pm_nil))) (pm_cons (pm_var (pv 2)) pm_nil)))))))))
theorem df_closed_stretches (N : Nms mg)  {f : Addr} (F : ∃ fd, FunD K "closed_stretches" "closed_stretches" (defArgs s_closed_stretches) (defBody s_closed_stretches) (defScope s_closed_stretches) [] [] f fd) (g : mg "closed_stretches" = some (.ref f)) : Df P w K mg base 1 "closed_stretches" ["points"] D_closed_stretches := by
  refine df_of F g sc_closed_stretches rfl rfl (fun _ _ _ _ _ _ us hl => match us, hl with | [_], _ => rfl) fun cdv A outer s H hr hG => ?_
  unfold F_closed_stretches
  exact (psm_one (psm_ret (pm_comp (own := [("k", 1)]) rfl sc_closed_stretches.nd (pim_range1 rfl N.n_range (pm_cons (pm_callB cm_len rfl N.n_len boot_len (pm_cons (pm_var (pv 0)) pm_nil)) pm_nil)) (blkOk_by (own := [("k", 1)]) (N := N_closed_stretches) (sc := defScope s_closed_stretches) (by decide +kernel)) (by decide) (fun _ _ _ _ _ => (pgm_name (i := 1) sc_closed_stretches.nd rfl (by first | exact .inl rfl | exact .inr rfl))) (fun _ _ _ _ _ => ptsm_nil) (fun _ _ _ _ _ => (pm_tup (pm_cons (pm_ix (pm_var (pv 0)) (pm_bin om_sub (pm_var (pv 1)) pm_int)) (pm_cons (pm_ix (pm_var (pv 0)) (pm_var (pv 1))) pm_nil)))))))
theorem df_goes_upward (N : Nms mg)  {f : Addr} (F : ∃ fd, FunD K "goes_upward" "goes_upward" (defArgs s_goes_upward) (defBody s_goes_upward) (defScope s_goes_upward) [] [] f fd) (g : mg "goes_upward" = some (.ref f)) : Df P w K mg base 1 "goes_upward" ["stretch", "spot"] D_goes_upward := by
  refine df_of F g sc_goes_upward rfl rfl (fun _ _ _ _ _ _ us hl => match us, hl with | [_, _], _ => rfl) fun cdv A outer s H hr hG => ?_
  unfold F_goes_upward
  exact (psm_cons (psm_setc (i := 2) (own := [("point", 3)]) rfl sc_goes_upward.nd rfl rfl (sw_true rfl rfl rfl (by decide +kernel)) (pim_seq (pm_var (pv 0))) (blkOk_by (own := [("point", 3)]) (N := N_goes_upward) (sc := defScope s_goes_upward) (by decide +kernel)) (by decide) (fun _ _ _ _ _ => (pgm_name (i := 3) sc_goes_upward.nd rfl (by first | exact .inl rfl | exact .inr rfl))) (fun _ _ _ _ _ => ptsm_nil) (fun _ _ _ _ _ => (pm_cmp om_gt (pm_bin om_mul (pm_ix (pm_var (pv 3)) pm_int) (pm_ix (pm_var (pv 1)) pm_int)) (pm_bin om_mul (pm_ix (pm_var (pv 1)) pm_int) (pm_ix (pm_var (pv 3)) pm_int)) (nomark _)))) (psm_one (psm_ret (pm_bin om_sub (pm_callTy cm_int rfl N.n_int boot_int (pm_cons (pm_ix (pm_var (pv 2)) pm_int) pm_nil)) (pm_callTy cm_int rfl N.n_int boot_int (pm_cons (pm_ix (pm_var (pv 2)) pm_int) pm_nil))))))
theorem df_is_crossed (N : Nms mg) (c_turn : Df P w K mg base 1 "turn" ["a", "b", "c"] D_turn) (c_goes_upward : Df P w K mg base 1 "goes_upward" ["stretch", "spot"] D_goes_upward) {f : Addr} (F : ∃ fd, FunD K "is_crossed" "is_crossed" (defArgs s_is_crossed) (defBody s_is_crossed) (defScope s_is_crossed) [] [] f fd) (g : mg "is_crossed" = some (.ref f)) : Df P w K mg base 2 "is_crossed" ["stretch", "spot"] D_is_crossed := by
  refine df_of F g sc_is_crossed rfl rfl (fun _ _ _ _ _ _ us hl => match us, hl with | [_, _], _ => rfl) fun cdv A outer s H hr hG => ?_
  unfold F_is_crossed
  exact (psm_cons (psm_asg (pm_callD c_goes_upward (hr.mono (by decide)) hG rfl (pm_cons (pm_var (pv 0)) (pm_cons (pm_var (pv 1)) pm_nil))) (pgm_name (i := 2) sc_is_crossed.nd rfl (by first | exact .inl rfl | exact .inr rfl))) (psm_one (psm_ret (pm_and (pm_cmp (om_ne hr.units) (pm_var (pv 2)) pm_int (nomark _)) (pm_one (pm_cmp (om_eq hr.units) (pm_callD c_turn (hr.mono (by decide)) hG rfl (pm_cons (pm_ix (pm_var (pv 0)) pm_int) (pm_cons (pm_ix (pm_var (pv 0)) pm_int) (pm_cons (pm_var (pv 1)) pm_nil)))) (pm_var (pv 2)) (nomark _)))))))
theorem df_is_round (N : Nms mg) (c_closed_stretches : Df P w K mg base 1 "closed_stretches" ["points"] D_closed_stretches) (c_is_crossed : Df P w K mg base 2 "is_crossed" ["stretch", "spot"] D_is_crossed) {f : Addr} (F : ∃ fd, FunD K "is_round" "is_round" (defArgs s_is_round) (defBody s_is_round) (defScope s_is_round) [] [] f fd) (g : mg "is_round" = some (.ref f)) : Df P w K mg base 3 "is_round" ["points", "spot"] D_is_round := by
  refine df_of F g sc_is_round rfl rfl (fun _ _ _ _ _ _ us hl => match us, hl with | [_, _], _ => rfl) fun cdv A outer s H hr hG => ?_
  unfold F_is_round
  exact (psm_one (psm_ret (pm_cmp (om_eq hr.units) (pm_bin om_mod (pm_callB cm_len rfl N.n_len boot_len (pm_cons (pm_comp (own := [("stretch", 2)]) rfl sc_is_round.nd (pim_seq (pm_callD c_closed_stretches (hr.mono (by decide)) hG rfl (pm_cons (pm_var (pv 0)) pm_nil))) (blkOk_by (own := [("stretch", 2)]) (N := N_is_round) (sc := defScope s_is_round) (by decide +kernel)) (by decide) (fun _ _ _ _ _ => (pgm_name (i := 2) sc_is_round.nd rfl (by first | exact .inl rfl | exact .inr rfl))) (fun _ _ _ _ _ => (ptsm_one (pt_tru (pm_callD c_is_crossed (hr.mono (by decide)) hG rfl (pm_cons (pm_var (pv 2)) (pm_cons (pm_var (pv 1)) pm_nil)))))) (fun _ _ _ _ _ => (pm_var (pv 2)))) pm_nil)) pm_int) pm_int (nomark _))))
theorem df_is_closed_line (N : Nms mg) (c_closed_stretches : Df P w K mg base 1 "closed_stretches" ["points"] D_closed_stretches) (c_is_point : Df P w K mg base 3 "is_point" ["value"] D_is_point) {f : Addr} (F : ∃ fd, FunD K "is_closed_line" "is_closed_line" (defArgs s_is_closed_line) (defBody s_is_closed_line) (defScope s_is_closed_line) [] [] f fd) (g : mg "is_closed_line" = some (.ref f)) : Df P w K mg base 4 "is_closed_line" ["value"] D_is_closed_line := by
  refine df_of F g sc_is_closed_line rfl rfl (fun _ _ _ _ _ _ us hl => match us, hl with | [_], _ => rfl) fun cdv A outer s H hr hG => ?_
  unfold F_is_closed_line
  exact (psm_cons (psm_if (PW.pt (pwm_or (ptm_not (pt_tru (pm_callB cm_isi rfl N.n_isinstance boot_isinstance (pm_cons (pm_var (pv 0)) (pm_cons (pm_raw (pe_bltn rfl N.n_tuple boot_tuple rfl)) pm_nil))))) (pwm_or (pt_cm om_lt (pm_callB cm_len rfl N.n_len boot_len (pm_cons (pm_var (pv 0)) pm_nil)) pm_int (nomark _)) (pwm_or1 (ptm_not (pt_tru (pm_callB (cm_all rfl) rfl N.n_all boot_all (pm_cons (pm_comp (own := [("point", 3)]) rfl sc_is_closed_line.nd (pim_seq (pm_var (pv 0))) (blkOk_by (own := [("point", 3)]) (N := N_is_closed_line) (sc := defScope s_is_closed_line) (by decide +kernel)) (by decide) (fun _ _ _ _ _ => (pgm_name (i := 3) sc_is_closed_line.nd rfl (by first | exact .inl rfl | exact .inr rfl))) (fun _ _ _ _ _ => ptsm_nil) (fun _ _ _ _ _ => (pm_callD c_is_point (hr.mono (by decide)) hG rfl (pm_cons (pm_var (pv 3)) pm_nil)))) pm_nil)))))))) (psm_one (psm_ret pm_bl)) psm_nil) (psm_one (psm_ret (pm_callB (cm_all rfl) rfl N.n_all boot_all (pm_cons (pm_comp (own := [("a", 1), ("b", 2)]) rfl sc_is_closed_line.nd (pim_seq (pm_callD c_closed_stretches (hr.mono (by decide)) hG rfl (pm_cons (pm_var (pv 0)) pm_nil))) (blkOk_by (own := [("a", 1), ("b", 2)]) (N := N_is_closed_line) (sc := defScope s_is_closed_line) (by decide +kernel)) (by decide) (fun _ _ _ _ _ => (pgm_tup rfl (pgsm_cons (pgm_name (i := 1) sc_is_closed_line.nd rfl (by first | exact .inl rfl | exact .inr rfl)) (pgsm_cons (pgm_name (i := 2) sc_is_closed_line.nd rfl (by first | exact .inl rfl | exact .inr rfl)) pgsm_nil)) (gsCons_len (gsCons_len gsNil_len)))) (fun _ _ _ _ _ => ptsm_nil) (fun _ _ _ _ _ => (pm_cmp (om_ne hr.units) (pm_var (pv 1)) (pm_var (pv 2)) (nomark _)))) pm_nil)))))
theorem df_inside (N : Nms mg) (c_lies_on : Df P w K mg base 3 "lies_on" ["a", "b", "c"] D_lies_on) (c_closed_stretches : Df P w K mg base 1 "closed_stretches" ["points"] D_closed_stretches) (c_is_round : Df P w K mg base 3 "is_round" ["points", "spot"] D_is_round) (c_check_points : Df P w K mg base 4 "check_points" ["values"] D_check_points) (c_is_closed_line : Df P w K mg base 4 "is_closed_line" ["value"] D_is_closed_line) {f : Addr} (F : ∃ fd, FunD K "inside" "inside" (defArgs s_inside) (defBody s_inside) (defScope s_inside) [] [] f fd) (g : mg "inside" = some (.ref f)) : Df P w K mg base 5 "inside" ["points", "spot"] D_inside := by
  refine df_of F g sc_inside rfl rfl (fun _ _ _ _ _ _ us hl => match us, hl with | [_, _], _ => rfl) fun cdv A outer s H hr hG => ?_
  unfold F_inside
  exact (psm_cons (psm_if (ptm_not (pt_tru (pm_callD c_is_closed_line (hr.mono (by decide)) hG rfl (pm_cons (pm_var (pv 0)) pm_nil)))) (psm_one psm_never) psm_nil) (psm_cons (psm_expr (pm_callD c_check_points (hr.mono (by decide)) hG rfl (pm_cons (pm_tup (pm_cons (pm_var (pv 1)) pm_nil)) pm_nil))) (psm_cons (psm_if (pt_tru (pm_callB (cm_any rfl) rfl N.n_any boot_any (pm_cons (pm_comp (own := [("a", 2), ("b", 3)]) rfl sc_inside.nd (pim_seq (pm_callD c_closed_stretches (hr.mono (by decide)) hG rfl (pm_cons (pm_var (pv 0)) pm_nil))) (blkOk_by (own := [("a", 2), ("b", 3)]) (N := N_inside) (sc := defScope s_inside) (by decide +kernel)) (by decide) (fun _ _ _ _ _ => (pgm_tup rfl (pgsm_cons (pgm_name (i := 2) sc_inside.nd rfl (by first | exact .inl rfl | exact .inr rfl)) (pgsm_cons (pgm_name (i := 3) sc_inside.nd rfl (by first | exact .inl rfl | exact .inr rfl)) pgsm_nil)) (gsCons_len (gsCons_len gsNil_len)))) (fun _ _ _ _ _ => ptsm_nil) (fun _ _ _ _ _ => (pm_callD c_lies_on (hr.mono (by decide)) hG rfl (pm_cons (pm_var (pv 2)) (pm_cons (pm_var (pv 3)) (pm_cons (pm_var (pv 1)) pm_nil)))))) pm_nil))) (psm_one psm_never) psm_nil) (psm_one (psm_ret (pm_callD c_is_round (hr.mono (by decide)) hG rfl (pm_cons (pm_var (pv 0)) (pm_cons (pm_var (pv 1)) pm_nil))))))))
theorem fx_inside (N : Nms mg) (c_lies_on : Df P w K mg base 3 "lies_on" ["a", "b", "c"] D_lies_on) (c_closed_stretches : Df P w K mg base 1 "closed_stretches" ["points"] D_closed_stretches) (c_is_round : Df P w K mg base 3 "is_round" ["points", "spot"] D_is_round) (c_check_points : Df P w K mg base 4 "check_points" ["values"] D_check_points) (c_is_closed_line : Df P w K mg base 4 "is_closed_line" ["value"] D_is_closed_line) (ers : Ers P w K mg base cl "OnLine") {f : Addr} (F : ∃ fd, FunD K "inside" "inside" (defArgs s_inside) (defBody s_inside) (defScope s_inside) [] [] f fd) (g : mg "inside" = some (.ref f)) : Dfx P w K mg base 5 "inside" ["points", "spot"] D_inside (R_inside cl) := by
  refine dfx_of F g sc_inside rfl rfl (fun _ _ _ _ _ _ us hl => match us, hl with | [_, _], _ => rfl) fun cdv A outer s H E hr hG => ⟨?_, ?_⟩
  · unfold F_inside
    exact (psm_cons (psm_if (ptm_not (pt_tru (pm_callD c_is_closed_line (hr.mono (by decide)) hG rfl (pm_cons (pm_var (pv 0)) pm_nil)))) (psm_one psm_never) psm_nil) (psm_cons (psm_expr (pm_callD c_check_points (hr.mono (by decide)) hG rfl (pm_cons (pm_tup (pm_cons (pm_var (pv 1)) pm_nil)) pm_nil))) (psm_cons (psm_if (pt_tru (pm_callB (cm_any rfl) rfl N.n_any boot_any (pm_cons (pm_comp (own := [("a", 2), ("b", 3)]) rfl sc_inside.nd (pim_seq (pm_callD c_closed_stretches (hr.mono (by decide)) hG rfl (pm_cons (pm_var (pv 0)) pm_nil))) (blkOk_by (own := [("a", 2), ("b", 3)]) (N := N_inside) (sc := defScope s_inside) (by decide +kernel)) (by decide) (fun _ _ _ _ _ => (pgm_tup rfl (pgsm_cons (pgm_name (i := 2) sc_inside.nd rfl (by first | exact .inl rfl | exact .inr rfl)) (pgsm_cons (pgm_name (i := 3) sc_inside.nd rfl (by first | exact .inl rfl | exact .inr rfl)) pgsm_nil)) (gsCons_len (gsCons_len gsNil_len)))) (fun _ _ _ _ _ => ptsm_nil) (fun _ _ _ _ _ => (pm_callD c_lies_on (hr.mono (by decide)) hG rfl (pm_cons (pm_var (pv 2)) (pm_cons (pm_var (pv 3)) (pm_cons (pm_var (pv 1)) pm_nil)))))) pm_nil))) (psm_one psm_never) psm_nil) (psm_one (psm_ret (pm_callD c_is_round (hr.mono (by decide)) hG rfl (pm_cons (pm_var (pv 0)) (pm_cons (pm_var (pv 1)) pm_nil))))))))
  · unfold X_inside
    exact (psx_next (psm_if (ptm_not (pt_tru (pm_callD c_is_closed_line (hr.mono (by decide)) hG rfl (pm_cons (pm_var (pv 0)) pm_nil)))) (psm_one psm_never) psm_nil) (psx_next (psm_expr (pm_callD c_check_points (hr.mono (by decide)) hG rfl (pm_cons (pm_tup (pm_cons (pm_var (pv 1)) pm_nil)) pm_nil))) (psx_here (psx_if (pt_tru (pm_callB (cm_any rfl) rfl N.n_any boot_any (pm_cons (pm_comp (own := [("a", 2), ("b", 3)]) rfl sc_inside.nd (pim_seq (pm_callD c_closed_stretches (hr.mono (by decide)) hG rfl (pm_cons (pm_var (pv 0)) pm_nil))) (blkOk_by (own := [("a", 2), ("b", 3)]) (N := N_inside) (sc := defScope s_inside) (by decide +kernel)) (by decide) (fun _ _ _ _ _ => (pgm_tup rfl (pgsm_cons (pgm_name (i := 2) sc_inside.nd rfl (by first | exact .inl rfl | exact .inr rfl)) (pgsm_cons (pgm_name (i := 3) sc_inside.nd rfl (by first | exact .inl rfl | exact .inr rfl)) pgsm_nil)) (gsCons_len (gsCons_len gsNil_len)))) (fun _ _ _ _ _ => ptsm_nil) (fun _ _ _ _ _ => (pm_callD c_lies_on (hr.mono (by decide)) hG rfl (pm_cons (pm_var (pv 2)) (pm_cons (pm_var (pv 3)) (pm_cons (pm_var (pv 1)) pm_nil)))))) pm_nil))) (psx_here (psx_raise rfl (takes_of rfl rfl rfl rfl) ers.er (hr.mono (by decide)) rfl (pm_var (pv 1)) (by decide))) Dl.pss_never))))
theorem df__law_inside (N : Nms mg)  (ers : Ers P w K mg base cl "OnLine") (hear : HearD K mg "_law_heard" (cl "FenceError")) (TB : LamX.TabB base mg (He.codeOf K ("_law_inside", none)) T) (fx_inside : Dfx P w K mg base 5 "inside" ["points", "spot"] D_inside (R_inside cl)) {f : Addr} (F : ∃ fd, FunD K "_law_inside" "_law_inside" (defArgs s__law_inside) (defBody s__law_inside) (defScope s__law_inside) [] [] f fd) (g : mg "_law_inside" = some (.ref f)) (hf : f = He.fAd K ("_law_inside", none)) : Df P w K mg base 8 "_law_inside" ["points", "spot"] (D__law_inside cl T) := by
  refine df_ofC F hf g sc__law_inside rfl rfl (fun _ _ _ _ _ _ us hl => match us, hl with | [_, _], _ => rfl) fun cdv ecd A outer s H hr hG => ?_
  unfold F__law_inside
  exact (psm_cons (psm_asg (pm_heardD (k := 5) (q := "_law_inside.<locals>.<lambda>") hear ers.hexs rfl TB ecd (hr.mono (by decide)) (LamX.lamS_by (show LamX.lamSB (defScope s__law_inside) _ = true by decide +kernel)) rfl (fun _ _ _ _ _ => rfl) (fun _ _ _ _ E _ _ gq hr => by have hG := gq.trans hG; exact pm_callDX takes_lam fx_inside (hr.mono (by decide)) hG rfl (pm_cons (pm_callTy cm_tuple rfl N.n_tuple boot_tuple (pm_cons (pm_var (pv 0)) pm_nil)) (pm_cons (pm_var (pv 1)) pm_nil))) (by first | rfl | kernel_rfl) (by decide)) (pgm_tup rfl (pgsm_cons (pgm_name (i := 2) sc__law_inside.nd rfl (by first | exact .inl rfl | exact .inr rfl)) (pgsm_cons (pgm_name (i := 3) sc__law_inside.nd rfl (by first | exact .inl rfl | exact .inr rfl)) pgsm_nil)) (gsCons_len (gsCons_len gsNil_len)))) (psm_cons (psm_if (pt_cm om_is (pm_var (pv 2)) pm_non (nomark _)) (psm_one (psm_ret (pm_tup (pm_cons pm_bl (pm_cons (pm_var (pv 3)) pm_nil))))) psm_nil) (psm_one (psm_ret (pm_if (pt_tru (pm_callB (cm_isE (cls_one ers.k)) rfl N.n_isinstance boot_isinstance (pm_cons (pm_var (pv 2)) (pm_cons (pm_raw (pe_glob (v := .ref _) rfl ers.er.g rfl)) pm_nil)))) (pm_tup (pm_cons pm_bl (pm_cons pm_non pm_nil))) pm_non)))))
theorem df__law_right (N : Nms mg) (c_side : Df P w K mg base 5 "side" ["a", "b", "c"] D_side) (c_meet : Df P w K mg base 5 "meet" ["a", "b", "c", "d"] D_meet) (c_between : Df P w K mg base 5 "between" ["a", "b", "share"] D_between) (c__law_take : Df P w K mg base 1 "_law_take" ["pot", "upto"] D__law_take) (c__law_frac : Df P w K mg base 2 "_law_frac" ["top", "bottom"] D__law_frac) (c__law_point_told : Df P w K mg base 2 "_law_point_told" ["point"] D__law_point_told) (c__law_leader : Df P w K mg base 3 "_law_leader" ["pot"] D__law_leader) (c__law_small_point : Df P w K mg base 3 "_law_small_point" ["pot"] D__law_small_point) (c__law_told : Df P w K mg base 5 "_law_told" ["leader", "points"] D__law_told) (c__law_led_told : Df P w K mg base 5 "_law_led_told" ["leader", "value"] D__law_led_told) (c__law_inside : Df P w K mg base 8 "_law_inside" ["points", "spot"] (D__law_inside cl T)) {f : Addr} (F : ∃ fd, FunD K "_law_right" "_law_right" (defArgs s__law_right) (defBody s__law_right) (defScope s__law_right) [] [] f fd) (g : mg "_law_right" = some (.ref f)) : Df P w K mg base 9 "_law_right" ["pot"] (D__law_right cl T) := by
  refine df_of F g sc__law_right rfl rfl (fun _ _ _ _ _ _ us hl => match us, hl with | [_], _ => rfl) fun cdv A outer s H hr hG => ?_
  unfold F__law_right
  exact (psm_cons (psm_asg (pm_tup (pm_cons (pm_callD c__law_leader (hr.mono (by decide)) hG rfl (pm_cons (pm_var (pv 0)) pm_nil)) (pm_cons (pm_comp (own := [("lap", 13)]) rfl sc__law_right.nd (pim_range1 rfl N.n_range (pm_cons pm_int pm_nil)) (blkOk_by (own := [("lap", 13)]) (N := N__law_right) (sc := defScope s__law_right) (by decide +kernel)) (by decide) (fun _ _ _ _ _ => (pgm_name (i := 13) sc__law_right.nd rfl (by first | exact .inl rfl | exact .inr rfl))) (fun _ _ _ _ _ => ptsm_nil) (fun _ _ _ _ _ => (pm_callD c__law_small_point (hr.mono (by decide)) hG rfl (pm_cons (pm_var (pv 0)) pm_nil)))) pm_nil))) (pgm_tup rfl (pgsm_cons (pgm_name (i := 7) sc__law_right.nd rfl (by first | exact .inl rfl | exact .inr rfl)) (pgsm_cons (pgm_name (i := 8) sc__law_right.nd rfl (by first | exact .inl rfl | exact .inr rfl)) pgsm_nil)) (gsCons_len (gsCons_len gsNil_len)))) (psm_cons (psm_par (i := 9) (j := 10) rfl sc__law_right.nd rfl rfl (by decide) rfl rfl (pm_cons (pm_comp (own := [("point", 14)]) rfl sc__law_right.nd (pim_seq (pm_var (pv 8))) (blkOk_by (own := [("point", 14)]) (N := N__law_right) (sc := defScope s__law_right) (by decide +kernel)) (by decide) (fun _ _ _ _ _ => (pgm_name (i := 14) sc__law_right.nd rfl (by first | exact .inl rfl | exact .inr rfl))) (fun _ _ _ _ _ => ptsm_nil) (fun _ _ _ _ _ => (pm_callD c__law_point_told (hr.mono (by decide)) hG rfl (pm_cons (pm_var (pv 14)) pm_nil)))) (pm_cons (pm_callD c__law_told (hr.mono (by decide)) hG rfl (pm_cons (pm_var (pv 7)) (pm_cons (pm_var (pv 8)) pm_nil))) pm_nil)) (by rfl)) (psm_cons (psm_asg (pm_if (pt_cm (om_eq hr.units) (pm_ix (pm_var (pv 7)) pm_int) pm_str (nomark _)) (pm_un um_neg pm_int) pm_int) (pgm_name (i := 1) sc__law_right.nd rfl (by first | exact .inl rfl | exact .inr rfl))) (psm_cons (psm_if (pt_cm (om_ne hr.units) (pm_callB (cm_repr hr.units hG) rfl N.n_repr boot_repr (pm_cons (pm_callD c_side (hr.mono (by decide)) hG rfl (pm_cons (pm_ix (pm_var (pv 10)) pm_int) (pm_cons (pm_ix (pm_var (pv 10)) pm_int) (pm_cons (pm_ix (pm_var (pv 10)) pm_int) pm_nil)))) pm_nil)) (pm_callB (cm_repr hr.units hG) rfl N.n_repr boot_repr (pm_cons (pm_bin om_mul (pm_var (pv 1)) (pm_callD c_side (hr.mono (by decide)) hG rfl (pm_cons (pm_ix (pm_var (pv 9)) pm_int) (pm_cons (pm_ix (pm_var (pv 9)) pm_int) (pm_cons (pm_ix (pm_var (pv 9)) pm_int) pm_nil))))) pm_nil)) (nomark _)) (psm_one (psm_ret pm_bl)) psm_nil) (psm_cons (psm_asg (pm_callD c__law_frac (hr.mono (by decide)) hG rfl (pm_cons (pm_callD c__law_take (hr.mono (by decide)) hG rfl (pm_cons (pm_var (pv 0)) (pm_cons pm_int pm_nil))) (pm_cons pm_int pm_nil))) (pgm_name (i := 2) sc__law_right.nd rfl (by first | exact .inl rfl | exact .inr rfl))) (psm_cons (psm_if (pt_cm (om_ne hr.units) (pm_callB (cm_repr hr.units hG) rfl N.n_repr boot_repr (pm_cons (pm_callD c_between (hr.mono (by decide)) hG rfl (pm_cons (pm_ix (pm_var (pv 10)) pm_int) (pm_cons (pm_ix (pm_var (pv 10)) pm_int) (pm_cons (pm_var (pv 2)) pm_nil)))) pm_nil)) (pm_callB (cm_repr hr.units hG) rfl N.n_repr boot_repr (pm_cons (pm_callD c__law_led_told (hr.mono (by decide)) hG rfl (pm_cons (pm_var (pv 7)) (pm_cons (pm_callD c_between (hr.mono (by decide)) hG rfl (pm_cons (pm_ix (pm_var (pv 9)) pm_int) (pm_cons (pm_ix (pm_var (pv 9)) pm_int) (pm_cons (pm_var (pv 2)) pm_nil)))) pm_nil))) pm_nil)) (nomark _)) (psm_one (psm_ret pm_bl)) psm_nil) (psm_cons (psm_if (PW.pt (pwm_and (pt_cm (om_ne hr.units) (pm_ix (pm_var (pv 8)) pm_int) (pm_ix (pm_var (pv 8)) pm_int) (nomark _)) (pwm_and1 (pt_cm (om_ne hr.units) (pm_ix (pm_var (pv 8)) pm_int) (pm_ix (pm_var (pv 8)) pm_int) (nomark _))))) (psm_cons (psm_par (i := 5) (j := 6) rfl sc__law_right.nd rfl rfl (by decide) rfl rfl (pm_cons (pm_callD c_meet (hr.mono (by decide)) hG rfl (pm_cons (pm_ix (pm_var (pv 9)) pm_int) (pm_cons (pm_ix (pm_var (pv 9)) pm_int) (pm_cons (pm_ix (pm_var (pv 9)) pm_int) (pm_cons (pm_ix (pm_var (pv 9)) pm_int) pm_nil))))) (pm_cons (pm_callD c_meet (hr.mono (by decide)) hG rfl (pm_cons (pm_ix (pm_var (pv 10)) pm_int) (pm_cons (pm_ix (pm_var (pv 10)) pm_int) (pm_cons (pm_ix (pm_var (pv 10)) pm_int) (pm_cons (pm_ix (pm_var (pv 10)) pm_int) pm_nil))))) pm_nil)) (by rfl)) (psm_cons (psm_asg (pm_if (pt_cm (om_eq hr.units) (pm_callB cm_len rfl N.n_len boot_len (pm_cons (pm_var (pv 5)) pm_nil)) pm_int (nomark _)) (pm_var (pv 5)) (pm_tup (pm_cons (pm_ix (pm_var (pv 5)) pm_int) (pm_cons (pm_callD c__law_led_told (hr.mono (by decide)) hG rfl (pm_cons (pm_var (pv 7)) (pm_cons (pm_ix (pm_var (pv 5)) pm_int) pm_nil))) pm_nil)))) (pgm_name (i := 11) sc__law_right.nd rfl (by first | exact .inl rfl | exact .inr rfl))) (psm_one (psm_if (pt_cm (om_ne hr.units) (pm_callB (cm_repr hr.units hG) rfl N.n_repr boot_repr (pm_cons (pm_var (pv 6)) pm_nil)) (pm_callB (cm_repr hr.units hG) rfl N.n_repr boot_repr (pm_cons (pm_var (pv 11)) pm_nil)) (nomark _)) (psm_one (psm_ret pm_bl)) psm_nil)))) psm_nil) (psm_cons (psm_asg (pm_comp (own := [("at", 12)]) rfl sc__law_right.nd (pim_range1 rfl N.n_range (pm_cons pm_int pm_nil)) (blkOk_by (own := [("at", 12)]) (N := N__law_right) (sc := defScope s__law_right) (by decide +kernel)) (by decide) (fun _ _ _ _ _ => (pgm_name (i := 12) sc__law_right.nd rfl (by first | exact .inl rfl | exact .inr rfl))) (fun _ _ _ _ _ => (ptsm_one (pt_cm (om_ne hr.units) (pm_ix (pm_var (pv 8)) (pm_var (pv 12))) (pm_ix (pm_var (pv 8)) (pm_bin om_sub (pm_var (pv 12)) pm_int)) (nomark _)))) (fun _ _ _ _ _ => (pm_ix (pm_var (pv 8)) (pm_var (pv 12))))) (pgm_name (i := 3) sc__law_right.nd rfl (by first | exact .inl rfl | exact .inr rfl))) (psm_cons (psm_if (PW.pt (pwm_or (pt_cm om_lt (pm_callB cm_len rfl N.n_len boot_len (pm_cons (pm_var (pv 3)) pm_nil)) pm_int (nomark _)) (pwm_or1 (pt_tru (pm_callB (cm_any rfl) rfl N.n_any boot_any (pm_cons (pm_comp (own := [("at", 12)]) rfl sc__law_right.nd (pim_range1 rfl N.n_range (pm_cons (pm_callB cm_len rfl N.n_len boot_len (pm_cons (pm_var (pv 3)) pm_nil)) pm_nil)) (blkOk_by (own := [("at", 12)]) (N := N__law_right) (sc := defScope s__law_right) (by decide +kernel)) (by decide) (fun _ _ _ _ _ => (pgm_name (i := 12) sc__law_right.nd rfl (by first | exact .inl rfl | exact .inr rfl))) (fun _ _ _ _ _ => ptsm_nil) (fun _ _ _ _ _ => (pm_cmp (om_eq hr.units) (pm_ix (pm_var (pv 3)) (pm_var (pv 12))) (pm_ix (pm_var (pv 3)) (pm_bin om_sub (pm_var (pv 12)) pm_int)) (nomark _)))) pm_nil)))))) (psm_one (psm_ret pm_bl)) psm_nil) (psm_cons (psm_asg (pm_callD c__law_small_point (hr.mono (by decide)) hG rfl (pm_cons (pm_var (pv 0)) pm_nil)) (pgm_name (i := 4) sc__law_right.nd rfl (by first | exact .inl rfl | exact .inr rfl))) (psm_cons (psm_asg (pm_callD c__law_inside (hr.mono (by decide)) hG rfl (pm_cons (pm_comp (own := [("point", 14)]) rfl sc__law_right.nd (pim_seq (pm_var (pv 3))) (blkOk_by (own := [("point", 14)]) (N := N__law_right) (sc := defScope s__law_right) (by decide +kernel)) (by decide) (fun _ _ _ _ _ => (pgm_name (i := 14) sc__law_right.nd rfl (by first | exact .inl rfl | exact .inr rfl))) (fun _ _ _ _ _ => ptsm_nil) (fun _ _ _ _ _ => (pm_callD c__law_point_told (hr.mono (by decide)) hG rfl (pm_cons (pm_var (pv 14)) pm_nil)))) (pm_cons (pm_callD c__law_point_told (hr.mono (by decide)) hG rfl (pm_cons (pm_var (pv 4)) pm_nil)) pm_nil))) (pgm_name (i := 5) sc__law_right.nd rfl (by first | exact .inl rfl | exact .inr rfl))) (psm_cons (psm_asg (pm_callD c__law_inside (hr.mono (by decide)) hG rfl (pm_cons (pm_callD c__law_told (hr.mono (by decide)) hG rfl (pm_cons (pm_var (pv 7)) (pm_cons (pm_var (pv 3)) pm_nil))) (pm_cons (pm_ix (pm_callD c__law_told (hr.mono (by decide)) hG rfl (pm_cons (pm_var (pv 7)) (pm_cons (pm_lst (pm_cons (pm_var (pv 4)) pm_nil)) pm_nil))) pm_int) pm_nil))) (pgm_name (i := 6) sc__law_right.nd rfl (by first | exact .inl rfl | exact .inr rfl))) (psm_one (psm_ret (pm_and (pm_cmp om_isn (pm_var (pv 5)) pm_non (nomark _)) (pm_one (pm_cmp (om_eq hr.units) (pm_callB (cm_repr hr.units hG) rfl N.n_repr boot_repr (pm_cons (pm_var (pv 5)) pm_nil)) (pm_callB (cm_repr hr.units hG) rfl N.n_repr boot_repr (pm_cons (pm_var (pv 6)) pm_nil)) (nomark _))))))))))))))))))
theorem hear__law_heard {f : Addr} (F : ∃ fd, FunD K "_law_heard" "_law_heard" (defArgs s__law_heard) (defBody s__law_heard) (defScope s__law_heard) [] [] f fd) (g : mg "_law_heard" = some (.ref f)) (gF : mg "FenceError" = some (.ref (cl "FenceError"))) : HearD K mg "_law_heard" (cl "FenceError") := by
  refine hearD_of F g sc__law_heard (.inl rfl) (fun _ _ _ _ _ _ us hl => match us, hl with | [_], _ => rfl) fun X cd eK em q => ?_
  subst eK em
  exact heard_gives rfl rfl rfl rfl rfl gF (fun _ _ => rfl) (fun _ _ => rfl)
theorem fg_law (N : Nms mg) (c__law_pot : Df P w K mg base 1 "_law_pot" ["script", "place"] D__law_pot) (c__law_cells : Df P w K mg base 1 "_law_cells" ["script", "most"] D__law_cells) (c__law_right : Df P w K mg base 9 "_law_right" ["pot"] (D__law_right cl T)) {f : Addr} {fd : FuncData} (F : FunD K "law" "law" (defArgs s_law) (defBody s_law) (defScope s_law) [] [] f fd) : FnG P w K mg base 10 f fd ["script"] (D_law cl T) := by
  refine fng_of F sc_law rfl rfl fun cdv A outer s H hr hG => PSs.nox ?_
  unfold F_law
  exact (psm_one (psm_ret (pm_callB (cm_all rfl) rfl N.n_all boot_all (pm_cons (pm_comp (own := [("place", 1)]) rfl sc_law.nd (pim_seq (pm_callD c__law_cells (hr.mono (by decide)) hG rfl (pm_cons (pm_var (pv 0)) (pm_cons pm_int pm_nil)))) (blkOk_by (own := [("place", 1)]) (N := N_law) (sc := defScope s_law) (by decide +kernel)) (by decide) (fun _ _ _ _ _ => (pgm_name (i := 1) sc_law.nd rfl (by first | exact .inl rfl | exact .inr rfl))) (fun _ _ _ _ _ => ptsm_nil) (fun _ _ _ _ _ => (pm_callD c__law_right (hr.mono (by decide)) hG rfl (pm_cons (pm_callD c__law_pot (hr.mono (by decide)) hG rfl (pm_cons (pm_var (pv 0)) (pm_cons (pm_var (pv 1)) pm_nil))) pm_nil)))) pm_nil))))
end
/-! ### the head -/
def d__law_pot : He.DefD := ⟨("_law_pot", none), "_law_pot", "_law_pot", defArgs s__law_pot, defBody s__law_pot, defScope s__law_pot, [], []⟩
def d__law_cells : He.DefD := ⟨("_law_cells", none), "_law_cells", "_law_cells", defArgs s__law_cells, defBody s__law_cells, defScope s__law_cells, [], []⟩
def d_turn : He.DefD := ⟨("turn", none), "turn", "turn", defArgs s_turn, defBody s_turn, defScope s_turn, [], []⟩
def d_is_whole_number : He.DefD := ⟨("is_whole_number", none), "is_whole_number", "is_whole_number", defArgs s_is_whole_number, defBody s_is_whole_number, defScope s_is_whole_number, [], []⟩
def d_are_integers : He.DefD := ⟨("are_integers", none), "are_integers", "are_integers", defArgs s_are_integers, defBody s_are_integers, defScope s_are_integers, [], []⟩
def d_is_point : He.DefD := ⟨("is_point", none), "is_point", "is_point", defArgs s_is_point, defBody s_is_point, defScope s_is_point, [], []⟩
def d_check_points : He.DefD := ⟨("check_points", none), "check_points", "check_points", defArgs s_check_points, defBody s_check_points, defScope s_check_points, [], []⟩
def d_side : He.DefD := ⟨("side", none), "side", "side", defArgs s_side, defBody s_side, defScope s_side, [], []⟩
def d_is_ahead : He.DefD := ⟨("is_ahead", none), "is_ahead", "is_ahead", defArgs s_is_ahead, defBody s_is_ahead, defScope s_is_ahead, [], []⟩
def d_first_of : He.DefD := ⟨("first_of", none), "first_of", "first_of", defArgs s_first_of, defBody s_first_of, defScope s_first_of, [], []⟩
def d_last_of : He.DefD := ⟨("last_of", none), "last_of", "last_of", defArgs s_last_of, defBody s_last_of, defScope s_last_of, [], []⟩
def d_meeting_in_line : He.DefD := ⟨("meeting_in_line", none), "meeting_in_line", "meeting_in_line", defArgs s_meeting_in_line, defBody s_meeting_in_line, defScope s_meeting_in_line, [], []⟩
def d_point_at : He.DefD := ⟨("point_at", none), "point_at", "point_at", defArgs s_point_at, defBody s_point_at, defScope s_point_at, [], []⟩
def d_line_through : He.DefD := ⟨("line_through", none), "line_through", "line_through", defArgs s_line_through, defBody s_line_through, defScope s_line_through, [], []⟩
def d_common_point : He.DefD := ⟨("common_point", none), "common_point", "common_point", defArgs s_common_point, defBody s_common_point, defScope s_common_point, [], []⟩
def d_meeting : He.DefD := ⟨("meeting", none), "meeting", "meeting", defArgs s_meeting, defBody s_meeting, defScope s_meeting, [], []⟩
def d_meet : He.DefD := ⟨("meet", none), "meet", "meet", defArgs s_meet, defBody s_meet, defScope s_meet, [], []⟩
def d_point_between : He.DefD := ⟨("point_between", none), "point_between", "point_between", defArgs s_point_between, defBody s_point_between, defScope s_point_between, [], []⟩
def d_is_fraction : He.DefD := ⟨("is_fraction", none), "is_fraction", "is_fraction", defArgs s_is_fraction, defBody s_is_fraction, defScope s_is_fraction, [], []⟩
def d_is_share : He.DefD := ⟨("is_share", none), "is_share", "is_share", defArgs s_is_share, defBody s_is_share, defScope s_is_share, [], []⟩
def d_between : He.DefD := ⟨("between", none), "between", "between", defArgs s_between, defBody s_between, defScope s_between, [], []⟩
def d__law_take : He.DefD := ⟨("_law_take", none), "_law_take", "_law_take", defArgs s__law_take, defBody s__law_take, defScope s__law_take, [], []⟩
def d__law_frac_common : He.DefD := ⟨("_law_frac_common", none), "_law_frac_common", "_law_frac_common", defArgs s__law_frac_common, defBody s__law_frac_common, defScope s__law_frac_common, [], []⟩
def d__law_frac : He.DefD := ⟨("_law_frac", none), "_law_frac", "_law_frac", defArgs s__law_frac, defBody s__law_frac, defScope s__law_frac, [], []⟩
def d__law_point_told : He.DefD := ⟨("_law_point_told", none), "_law_point_told", "_law_point_told", defArgs s__law_point_told, defBody s__law_point_told, defScope s__law_point_told, [], []⟩
def d__law_of : He.DefD := ⟨("_law_of", none), "_law_of", "_law_of", defArgs s__law_of, defBody s__law_of, defScope s__law_of, [], []⟩
def d__law_leader : He.DefD := ⟨("_law_leader", none), "_law_leader", "_law_leader", defArgs s__law_leader, defBody s__law_leader, defScope s__law_leader, [], []⟩
def d__law_small_point : He.DefD := ⟨("_law_small_point", none), "_law_small_point", "_law_small_point", defArgs s__law_small_point, defBody s__law_small_point, defScope s__law_small_point, [], []⟩
def d__law_frac_plus : He.DefD := ⟨("_law_frac_plus", none), "_law_frac_plus", "_law_frac_plus", defArgs s__law_frac_plus, defBody s__law_frac_plus, defScope s__law_frac_plus, [], []⟩
def d__law_frac_times : He.DefD := ⟨("_law_frac_times", none), "_law_frac_times", "_law_frac_times", defArgs s__law_frac_times, defBody s__law_frac_times, defScope s__law_frac_times, [], []⟩
def d__law_led_point : He.DefD := ⟨("_law_led_point", none), "_law_led_point", "_law_led_point", defArgs s__law_led_point, defBody s__law_led_point, defScope s__law_led_point, [], []⟩
def d__law_told : He.DefD := ⟨("_law_told", none), "_law_told", "_law_told", defArgs s__law_told, defBody s__law_told, defScope s__law_told, [], []⟩
def d__law_point_own : He.DefD := ⟨("_law_point_own", none), "_law_point_own", "_law_point_own", defArgs s__law_point_own, defBody s__law_point_own, defScope s__law_point_own, [], []⟩
def d__law_led_told : He.DefD := ⟨("_law_led_told", none), "_law_led_told", "_law_led_told", defArgs s__law_led_told, defBody s__law_led_told, defScope s__law_led_told, [], []⟩
def d_lies_on : He.DefD := ⟨("lies_on", none), "lies_on", "lies_on", defArgs s_lies_on, defBody s_lies_on, defScope s_lies_on, [], []⟩
def d_closed_stretches : He.DefD := ⟨("closed_stretches", none), "closed_stretches", "closed_stretches", defArgs s_closed_stretches, defBody s_closed_stretches, defScope s_closed_stretches, [], []⟩
def d_goes_upward : He.DefD := ⟨("goes_upward", none), "goes_upward", "goes_upward", defArgs s_goes_upward, defBody s_goes_upward, defScope s_goes_upward, [], []⟩
def d_is_crossed : He.DefD := ⟨("is_crossed", none), "is_crossed", "is_crossed", defArgs s_is_crossed, defBody s_is_crossed, defScope s_is_crossed, [], []⟩
def d_is_round : He.DefD := ⟨("is_round", none), "is_round", "is_round", defArgs s_is_round, defBody s_is_round, defScope s_is_round, [], []⟩
def d_is_closed_line : He.DefD := ⟨("is_closed_line", none), "is_closed_line", "is_closed_line", defArgs s_is_closed_line, defBody s_is_closed_line, defScope s_is_closed_line, [], []⟩
def d_inside : He.DefD := ⟨("inside", none), "inside", "inside", defArgs s_inside, defBody s_inside, defScope s_inside, [], []⟩
def d__law_inside : He.DefD := ⟨("_law_inside", none), "_law_inside", "_law_inside", defArgs s__law_inside, defBody s__law_inside, defScope s__law_inside, [], []⟩
def d__law_right : He.DefD := ⟨("_law_right", none), "_law_right", "_law_right", defArgs s__law_right, defBody s__law_right, defScope s__law_right, [], []⟩
def d_law : He.DefD := ⟨("law", none), "law", "law", defArgs s_law, defBody s_law, defScope s_law, [], []⟩
def d__law_heard : He.DefD := ⟨("_law_heard", none), "_law_heard", "_law_heard", defArgs s__law_heard, defBody s__law_heard, defScope s__law_heard, [], []⟩
def d_ini : He.DefD := ⟨("FenceError", some "__init__"), "__init__", "FenceError.__init__", defArgs s_ini, defBody s_ini, defScope s_ini, [], []⟩
def fn : List He.DefD := [d__law_pot, d__law_cells, d_turn, d_is_whole_number, d_are_integers, d_is_point, d_check_points, d_side, d_is_ahead, d_first_of, d_last_of, d_meeting_in_line, d_point_at, d_line_through, d_common_point, d_meeting, d_meet, d_point_between, d_is_fraction, d_is_share, d_between, d__law_take, d__law_frac_common, d__law_frac, d__law_point_told, d__law_of, d__law_leader, d__law_small_point, d__law_frac_plus, d__law_frac_times, d__law_led_point, d__law_told, d__law_point_own, d__law_led_told, d_lies_on, d_closed_stretches, d_goes_upward, d_is_crossed, d_is_round, d_is_closed_line, d_inside, d__law_inside, d__law_right, d_law, d__law_heard, d_ini]
def fa : List He.Fa := [.glo "_law_pot", .glo "_law_cells", .glo "turn", .glo "is_whole_number", .glo "are_integers", .glo "is_point", .glo "check_points", .glo "side", .glo "is_ahead", .glo "first_of", .glo "last_of", .glo "meeting_in_line", .glo "point_at", .glo "line_through", .glo "common_point", .glo "meeting", .glo "meet", .glo "point_between", .glo "is_fraction", .glo "is_share", .glo "between", .glo "_law_take", .glo "_law_frac_common", .glo "_law_frac", .glo "_law_point_told", .glo "_law_of", .glo "_law_leader", .glo "_law_small_point", .glo "_law_frac_plus", .glo "_law_frac_times", .glo "_law_led_point", .glo "_law_told", .glo "_law_point_own", .glo "_law_led_told", .glo "lies_on", .glo "closed_stretches", .glo "goes_upward", .glo "is_crossed", .glo "is_round", .glo "is_closed_line", .glo "inside", .glo "_law_inside", .glo "_law_right", .glo "law", .free "abs", .free "all", .free "any", .free "bool", .free "int", .free "isinstance", .free "len", .free "list", .free "max", .free "min", .free "range", .free "repr", .free "sum", .free "tuple", .glo "_law_heard", .glo "FenceError", .glo "OnLine", .exm "OnLine" "FenceError" true]
def ex (K : PySem.W.Frag) : Bool := decide (PySem.W.nsIn K mainGlobals "gcd" = some (some (.builtin "math.gcd"))) && errB K (He.ga K "OnLine") (He.fAd K ("FenceError", some "__init__"))
abbrev R : PySem.W.OpenRow := PySem.W.OpenLaw.row PySem.Challenge.rw_ringsorways_k05_whole_the_same_moved_tur
abbrev qv : Program := PySem.W.view R.prog [0, 56]
abbrev hk : PySem.W.Hook := He.hookX 4 fa fn [] [("_law_inside", none)] ex
def ob (s : PySem.W.SharedT) : He.AlX := He.obsX 4 fa fn [] [("_law_inside", none)] ex (HandSHeadRun.getT s)
theorem ob_eq (s : PySem.W.SharedT) : ob s = hk.obs s.abs := He.obsX_eq (HandSHeadRun.getT_eq s)
def loo : List Str := (["FenceError", "BadPoint", "Same", "BadShare", "BadRing", "OnLine", "point_at", "turn", "is_ahead", "first_of", "last_of", "lies_on", "meeting", "meeting_in_line", "line_through", "common_point"] : List Str) ++ (["point_between", "closed_stretches", "goes_upward", "is_crossed", "is_round", "is_whole_number", "are_integers", "is_fraction", "is_share", "is_point", "side", "meet", "between", "inside", "check_points", "is_closed_line"] : List Str) ++ (["_law_pot", "_law_take", "_law_of", "_law_cells", "_law_heard", "_law_frac_common", "_law_frac", "_law_frac_plus", "_law_frac_times", "_law_point_own", "_law_point_told", "_law_leader", "_law_led_point", "_law_small_point", "_law_told", "_law_led_told"] : List Str) ++ (["_law_inside", "_law_right"] : List Str)
theorem run (w : World) : HandSHeadRun.RunEqI R qv hk ob 20000 loo w := by unfold HandSHeadRun.RunEqI; kernel_rfl
theorem facts {P : Program} {w : World} {K : PySem.W.Frag} {h : Heap} {mg : Str → Option Value} {f : Addr} (X : K.In h) (G : h.Ns mainGlobals mg) (hfa : mg ("law" : Str) = some (.ref f)) (c : He.SaysX fa fn [] [("_law_inside", none)] ex w h K) :
    ∃ fd : FuncData, (∀ (s : Shared) (u : Value), BindsTo s fd ⟨[u], []⟩ [("script", u)]) ∧ ∀ base : Heap, K.In base → base.Ns mainGlobals mg → LamX.TabB base mg (He.cT K ("_law_inside", none)).1 (He.cT K ("_law_inside", none)).2 → FnG P w K mg base 10 f fd ["script"] (ringsorways_k05_whole_the_same_moved_tur.D_law (He.ga K) (He.cT K ("_law_inside", none)).2) := by
  have c1 := c.t.d
  have c2 := c.more
  unfold ex at c2
  simp only [Bool.and_eq_true] at c2
  have N : Nms mg := ⟨He.free_ok X G (c1.fact 44 (f := .free "abs") rfl), He.free_ok X G (c1.fact 45 (f := .free "all") rfl), He.free_ok X G (c1.fact 46 (f := .free "any") rfl), He.free_ok X G (c1.fact 47 (f := .free "bool") rfl), He.free_ok X G (c1.fact 48 (f := .free "int") rfl), He.free_ok X G (c1.fact 49 (f := .free "isinstance") rfl), He.free_ok X G (c1.fact 50 (f := .free "len") rfl), He.free_ok X G (c1.fact 51 (f := .free "list") rfl), He.free_ok X G (c1.fact 52 (f := .free "max") rfl), He.free_ok X G (c1.fact 53 (f := .free "min") rfl), He.free_ok X G (c1.fact 54 (f := .free "range") rfl), He.free_ok X G (c1.fact 55 (f := .free "repr") rfl), He.free_ok X G (c1.fact 56 (f := .free "sum") rfl), He.free_ok X G (c1.fact 57 (f := .free "tuple") rfl), PySem.W.mg_of X G (of_decide_eq_true c2.1)⟩
  have g__law_pot := He.glo_ok X G (c1.fact 0 (f := .glo "_law_pot") rfl)
  have F__law_pot := c1.def_ 0 (d := d__law_pot) rfl
  have g__law_cells := He.glo_ok X G (c1.fact 1 (f := .glo "_law_cells") rfl)
  have F__law_cells := c1.def_ 1 (d := d__law_cells) rfl
  have g_turn := He.glo_ok X G (c1.fact 2 (f := .glo "turn") rfl)
  have F_turn := c1.def_ 2 (d := d_turn) rfl
  have g_is_whole_number := He.glo_ok X G (c1.fact 3 (f := .glo "is_whole_number") rfl)
  have F_is_whole_number := c1.def_ 3 (d := d_is_whole_number) rfl
  have g_are_integers := He.glo_ok X G (c1.fact 4 (f := .glo "are_integers") rfl)
  have F_are_integers := c1.def_ 4 (d := d_are_integers) rfl
  have g_is_point := He.glo_ok X G (c1.fact 5 (f := .glo "is_point") rfl)
  have F_is_point := c1.def_ 5 (d := d_is_point) rfl
  have g_check_points := He.glo_ok X G (c1.fact 6 (f := .glo "check_points") rfl)
  have F_check_points := c1.def_ 6 (d := d_check_points) rfl
  have g_side := He.glo_ok X G (c1.fact 7 (f := .glo "side") rfl)
  have F_side := c1.def_ 7 (d := d_side) rfl
  have g_is_ahead := He.glo_ok X G (c1.fact 8 (f := .glo "is_ahead") rfl)
  have F_is_ahead := c1.def_ 8 (d := d_is_ahead) rfl
  have g_first_of := He.glo_ok X G (c1.fact 9 (f := .glo "first_of") rfl)
  have F_first_of := c1.def_ 9 (d := d_first_of) rfl
  have g_last_of := He.glo_ok X G (c1.fact 10 (f := .glo "last_of") rfl)
  have F_last_of := c1.def_ 10 (d := d_last_of) rfl
  have g_meeting_in_line := He.glo_ok X G (c1.fact 11 (f := .glo "meeting_in_line") rfl)
  have F_meeting_in_line := c1.def_ 11 (d := d_meeting_in_line) rfl
  have g_point_at := He.glo_ok X G (c1.fact 12 (f := .glo "point_at") rfl)
  have F_point_at := c1.def_ 12 (d := d_point_at) rfl
  have g_line_through := He.glo_ok X G (c1.fact 13 (f := .glo "line_through") rfl)
  have F_line_through := c1.def_ 13 (d := d_line_through) rfl
  have g_common_point := He.glo_ok X G (c1.fact 14 (f := .glo "common_point") rfl)
  have F_common_point := c1.def_ 14 (d := d_common_point) rfl
  have g_meeting := He.glo_ok X G (c1.fact 15 (f := .glo "meeting") rfl)
  have F_meeting := c1.def_ 15 (d := d_meeting) rfl
  have g_meet := He.glo_ok X G (c1.fact 16 (f := .glo "meet") rfl)
  have F_meet := c1.def_ 16 (d := d_meet) rfl
  have g_point_between := He.glo_ok X G (c1.fact 17 (f := .glo "point_between") rfl)
  have F_point_between := c1.def_ 17 (d := d_point_between) rfl
  have g_is_fraction := He.glo_ok X G (c1.fact 18 (f := .glo "is_fraction") rfl)
  have F_is_fraction := c1.def_ 18 (d := d_is_fraction) rfl
  have g_is_share := He.glo_ok X G (c1.fact 19 (f := .glo "is_share") rfl)
  have F_is_share := c1.def_ 19 (d := d_is_share) rfl
  have g_between := He.glo_ok X G (c1.fact 20 (f := .glo "between") rfl)
  have F_between := c1.def_ 20 (d := d_between) rfl
  have g__law_take := He.glo_ok X G (c1.fact 21 (f := .glo "_law_take") rfl)
  have F__law_take := c1.def_ 21 (d := d__law_take) rfl
  have g__law_frac_common := He.glo_ok X G (c1.fact 22 (f := .glo "_law_frac_common") rfl)
  have F__law_frac_common := c1.def_ 22 (d := d__law_frac_common) rfl
  have g__law_frac := He.glo_ok X G (c1.fact 23 (f := .glo "_law_frac") rfl)
  have F__law_frac := c1.def_ 23 (d := d__law_frac) rfl
  have g__law_point_told := He.glo_ok X G (c1.fact 24 (f := .glo "_law_point_told") rfl)
  have F__law_point_told := c1.def_ 24 (d := d__law_point_told) rfl
  have g__law_of := He.glo_ok X G (c1.fact 25 (f := .glo "_law_of") rfl)
  have F__law_of := c1.def_ 25 (d := d__law_of) rfl
  have g__law_leader := He.glo_ok X G (c1.fact 26 (f := .glo "_law_leader") rfl)
  have F__law_leader := c1.def_ 26 (d := d__law_leader) rfl
  have g__law_small_point := He.glo_ok X G (c1.fact 27 (f := .glo "_law_small_point") rfl)
  have F__law_small_point := c1.def_ 27 (d := d__law_small_point) rfl
  have g__law_frac_plus := He.glo_ok X G (c1.fact 28 (f := .glo "_law_frac_plus") rfl)
  have F__law_frac_plus := c1.def_ 28 (d := d__law_frac_plus) rfl
  have g__law_frac_times := He.glo_ok X G (c1.fact 29 (f := .glo "_law_frac_times") rfl)
  have F__law_frac_times := c1.def_ 29 (d := d__law_frac_times) rfl
  have g__law_led_point := He.glo_ok X G (c1.fact 30 (f := .glo "_law_led_point") rfl)
  have F__law_led_point := c1.def_ 30 (d := d__law_led_point) rfl
  have g__law_told := He.glo_ok X G (c1.fact 31 (f := .glo "_law_told") rfl)
  have F__law_told := c1.def_ 31 (d := d__law_told) rfl
  have g__law_point_own := He.glo_ok X G (c1.fact 32 (f := .glo "_law_point_own") rfl)
  have F__law_point_own := c1.def_ 32 (d := d__law_point_own) rfl
  have g__law_led_told := He.glo_ok X G (c1.fact 33 (f := .glo "_law_led_told") rfl)
  have F__law_led_told := c1.def_ 33 (d := d__law_led_told) rfl
  have g_lies_on := He.glo_ok X G (c1.fact 34 (f := .glo "lies_on") rfl)
  have F_lies_on := c1.def_ 34 (d := d_lies_on) rfl
  have g_closed_stretches := He.glo_ok X G (c1.fact 35 (f := .glo "closed_stretches") rfl)
  have F_closed_stretches := c1.def_ 35 (d := d_closed_stretches) rfl
  have g_goes_upward := He.glo_ok X G (c1.fact 36 (f := .glo "goes_upward") rfl)
  have F_goes_upward := c1.def_ 36 (d := d_goes_upward) rfl
  have g_is_crossed := He.glo_ok X G (c1.fact 37 (f := .glo "is_crossed") rfl)
  have F_is_crossed := c1.def_ 37 (d := d_is_crossed) rfl
  have g_is_round := He.glo_ok X G (c1.fact 38 (f := .glo "is_round") rfl)
  have F_is_round := c1.def_ 38 (d := d_is_round) rfl
  have g_is_closed_line := He.glo_ok X G (c1.fact 39 (f := .glo "is_closed_line") rfl)
  have F_is_closed_line := c1.def_ 39 (d := d_is_closed_line) rfl
  have g_inside := He.glo_ok X G (c1.fact 40 (f := .glo "inside") rfl)
  have F_inside := c1.def_ 40 (d := d_inside) rfl
  have g__law_inside := He.glo_ok X G (c1.fact 41 (f := .glo "_law_inside") rfl)
  have F__law_inside := c1.def_ 41 (d := d__law_inside) rfl
  have g__law_right := He.glo_ok X G (c1.fact 42 (f := .glo "_law_right") rfl)
  have F__law_right := c1.def_ 42 (d := d__law_right) rfl
  have g_law := He.glo_ok X G (c1.fact 43 (f := .glo "law") rfl)
  have F_law := c1.def_ 43 (d := d_law) rfl
  have g__law_heard := He.glo_ok X G (c1.fact 58 (f := .glo "_law_heard") rfl)
  have F__law_heard := c1.def_ 44 (d := d__law_heard) rfl
  have g_FE := He.glo_ok X G (c1.fact 59 (f := .glo "FenceError") rfl)
  have g_ER := He.glo_ok X G (c1.fact 60 (f := .glo "OnLine") rfl)
  have x_ER := He.exm_ok (c1.fact 61 (f := .exm "OnLine" "FenceError" true) rfl)
  obtain ⟨fdi, F_ini⟩ := c1.def_ 45 (d := d_ini) rfl
  have hear := hear__law_heard (cl := He.ga K) F__law_heard g__law_heard g_FE
  obtain ⟨fd, Fl⟩ := F_law
  have e := hfa.symm.trans g_law
  cases e
  have b := FunD.bindsA (ps := ["script"]) Fl fun _ _ _ _ _ _ us hl => match us, hl with | [_], _ => rfl
  have bi : Binds K fdi ["self", "value"] [] := FunD.bindsN F_ini fun _ _ _ _ _ _ us hl => match us, hl with | [_, _], _ => rfl
  refine ⟨fd, fun s u => b s [u] rfl, fun base _ _ TB => ?_⟩
  obtain ⟨e1, e2⟩ := errB_ok (P := P) (w := w) (base := base) c2.2 g_ER F_ini sc_ini (.inl rfl) (.inl rfl) bi
  have ers : Ers P w K mg base (He.ga K) "OnLine" := ⟨e2, e1, x_ER, g_FE⟩
  have c__law_pot := df__law_pot (P := P) (w := w) (base := base) N  F__law_pot g__law_pot
  have c__law_cells := df__law_cells (P := P) (w := w) (base := base) N  F__law_cells g__law_cells
  have c_turn := df_turn (P := P) (w := w) (base := base) N  F_turn g_turn
  have c_is_whole_number := df_is_whole_number (P := P) (w := w) (base := base) N  F_is_whole_number g_is_whole_number
  have c_are_integers := df_are_integers (P := P) (w := w) (base := base) N c_is_whole_number F_are_integers g_are_integers
  have c_is_point := df_is_point (P := P) (w := w) (base := base) N c_are_integers F_is_point g_is_point
  have c_check_points := df_check_points (P := P) (w := w) (base := base) N c_is_point F_check_points g_check_points
  have c_side := df_side (P := P) (w := w) (base := base) N c_turn c_check_points F_side g_side
  have c_is_ahead := df_is_ahead (P := P) (w := w) (base := base) N  F_is_ahead g_is_ahead
  have c_first_of := df_first_of (P := P) (w := w) (base := base) N c_is_ahead F_first_of g_first_of
  have c_last_of := df_last_of (P := P) (w := w) (base := base) N c_is_ahead F_last_of g_last_of
  have c_meeting_in_line := df_meeting_in_line (P := P) (w := w) (base := base) N c_is_ahead c_first_of c_last_of F_meeting_in_line g_meeting_in_line
  have c_point_at := df_point_at (P := P) (w := w) (base := base) N  F_point_at g_point_at
  have c_line_through := df_line_through (P := P) (w := w) (base := base) N  F_line_through g_line_through
  have c_common_point := df_common_point (P := P) (w := w) (base := base) N c_point_at c_line_through F_common_point g_common_point
  have c_meeting := df_meeting (P := P) (w := w) (base := base) N c_turn c_meeting_in_line c_common_point F_meeting g_meeting
  have c_meet := df_meet (P := P) (w := w) (base := base) N c_meeting c_check_points F_meet g_meet
  have c_point_between := df_point_between (P := P) (w := w) (base := base) N c_point_at F_point_between g_point_between
  have c_is_fraction := df_is_fraction (P := P) (w := w) (base := base) N c_are_integers F_is_fraction g_is_fraction
  have c_is_share := df_is_share (P := P) (w := w) (base := base) N c_is_fraction F_is_share g_is_share
  have c_between := df_between (P := P) (w := w) (base := base) N c_point_between c_is_share c_check_points F_between g_between
  have c__law_take := df__law_take (P := P) (w := w) (base := base) N  F__law_take g__law_take
  have c__law_frac_common := df__law_frac_common (P := P) (w := w) (base := base) N  F__law_frac_common g__law_frac_common
  have c__law_frac := df__law_frac (P := P) (w := w) (base := base) N c__law_frac_common F__law_frac g__law_frac
  have c__law_point_told := df__law_point_told (P := P) (w := w) (base := base) N c__law_frac_common F__law_point_told g__law_point_told
  have c__law_of := df__law_of (P := P) (w := w) (base := base) N c__law_take F__law_of g__law_of
  have c__law_leader := df__law_leader (P := P) (w := w) (base := base) N c__law_take c__law_of c__law_frac F__law_leader g__law_leader
  have c__law_small_point := df__law_small_point (P := P) (w := w) (base := base) N c__law_take c__law_of c__law_frac F__law_small_point g__law_small_point
  have c__law_frac_plus := df__law_frac_plus (P := P) (w := w) (base := base) N c__law_frac F__law_frac_plus g__law_frac_plus
  have c__law_frac_times := df__law_frac_times (P := P) (w := w) (base := base) N c__law_frac F__law_frac_times g__law_frac_times
  have c__law_led_point := df__law_led_point (P := P) (w := w) (base := base) N c__law_frac_plus c__law_frac_times F__law_led_point g__law_led_point
  have c__law_told := df__law_told (P := P) (w := w) (base := base) N c__law_point_told c__law_led_point F__law_told g__law_told
  have c__law_point_own := df__law_point_own (P := P) (w := w) (base := base) N c__law_frac F__law_point_own g__law_point_own
  have c__law_led_told := df__law_led_told (P := P) (w := w) (base := base) N c__law_point_own c__law_point_told c__law_led_point F__law_led_told g__law_led_told
  have c_lies_on := df_lies_on (P := P) (w := w) (base := base) N c_turn c_is_ahead c_first_of c_last_of F_lies_on g_lies_on
  have c_closed_stretches := df_closed_stretches (P := P) (w := w) (base := base) N  F_closed_stretches g_closed_stretches
  have c_goes_upward := df_goes_upward (P := P) (w := w) (base := base) N  F_goes_upward g_goes_upward
  have c_is_crossed := df_is_crossed (P := P) (w := w) (base := base) N c_turn c_goes_upward F_is_crossed g_is_crossed
  have c_is_round := df_is_round (P := P) (w := w) (base := base) N c_closed_stretches c_is_crossed F_is_round g_is_round
  have c_is_closed_line := df_is_closed_line (P := P) (w := w) (base := base) N c_closed_stretches c_is_point F_is_closed_line g_is_closed_line
  have c_inside := df_inside (P := P) (w := w) (base := base) N c_lies_on c_closed_stretches c_is_round c_check_points c_is_closed_line F_inside g_inside
  have fx_inside := fx_inside (P := P) (w := w) (base := base) N c_lies_on c_closed_stretches c_is_round c_check_points c_is_closed_line ers F_inside g_inside
  have c__law_inside := df__law_inside (P := P) (w := w) (base := base) N  ers hear TB fx_inside F__law_inside g__law_inside rfl
  have c__law_right := df__law_right (P := P) (w := w) (base := base) N c_side c_meet c_between c__law_take c__law_frac c__law_point_told c__law_leader c__law_small_point c__law_told c__law_led_told c__law_inside F__law_right g__law_right
  exact fg_law (P := P) (w := w) (base := base) N c__law_pot c__law_cells c__law_right Fl
end ringsorways_k05_whole_the_same_moved_tur
open PySem PySem.W PySem.Calls PyProof.Rows
theorem PySem.Challenge.cw_ringsorways_k05_whole_the_same_moved_tur_holds : PySem.Challenge.rw_ringsorways_k05_whole_the_same_moved_tur.Holds := by
  w_on; o_law
  refine HandSHeadRun.head_imp (r := OpenLaw.row PySem.Challenge.rw_ringsorways_k05_whole_the_same_moved_tur) (q := ringsorways_k05_whole_the_same_moved_tur.qv) (H := ringsorways_k05_whole_the_same_moved_tur.hk) (ob := ringsorways_k05_whole_the_same_moved_tur.ob) (M := 20000) (loose := ringsorways_k05_whole_the_same_moved_tur.loo) (d := HandSHeadRun.topDef (OpenLaw.row PySem.Challenge.rw_ringsorways_k05_whole_the_same_moved_tur).prog 56) (kwd := []) ringsorways_k05_whole_the_same_moved_tur.ob_eq ringsorways_k05_whole_the_same_moved_tur.run
    (by kernel_rfl) (by kernel_rfl) (by kernel_rfl) (by rfl) (by first | assumption | decide +kernel) (by decide +kernel) ⟨rfl, rfl, rfl, rfl, rfl, by decide +kernel⟩ ?hw ?hc
  case hw => w_witness2
  case hc =>
    refine Dl.walk_GT (l := PySem.Challenge.rw_ringsorways_k05_whole_the_same_moved_tur) (n := 63) (k := 10) (x := "script") rfl (by decide) (by kernel_rfl) ⟨rfl, by decide, by decide⟩ ?F
    intro w mg fa h Y G hmg0
    obtain ⟨K, KX, c⟩ := Y
    have hmg : mg ("law" : PySem.Str) = some (.ref fa) := by
      have e : (HandSHeadRun.topDef (OpenLaw.row PySem.Challenge.rw_ringsorways_k05_whole_the_same_moved_tur).prog 56).name = ("law" : PySem.Str) := by kernel_rfl
      rw [← e]
      exact hmg0
    obtain ⟨fd, hb, hF⟩ := ringsorways_k05_whole_the_same_moved_tur.facts (P := (PySem.Challenge.rw_ringsorways_k05_whole_the_same_moved_tur).prog) (w := w) KX G hmg c
    exact ⟨K, fd, (ringsorways_k05_whole_the_same_moved_tur.D_law (He.ga K) (He.cT K ("_law_inside", none)).2), (He.cT K ("_law_inside", none)).1, (He.cT K ("_law_inside", none)).2, "_law_inside.<locals>.<lambda>", KX, hb, c.empty _ (by simp), c.out _ (by simp), c.hd _ (by simp), fun ns hn => ringsorways_k05_whole_the_same_moved_tur.law_true ns hn, hF⟩
