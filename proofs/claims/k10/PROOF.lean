import PyProof.Rows.All
import Wide.All
import OpenK.AllK
import Wide.FinOn
import HandS.Conv
import HandS.Deep
import HandS.Defaults
import HandS.Exc
import HandS.ExcOwn
import HandS.Flow
import HandS.ForMost
import HandS.Head0
import HandS.Head1
import HandS.Head2
import HandS.HeadEnd
import HandS.HeadHook1
import HandS.HeadHook2
import HandS.More
import HandS.Small
import HandS.SortInts
import HandS.Style
import HandS.TupAny
import HandS.TupMul
import HandS.Walk
import HandS.WordsExc
import HandS.Zip
import KE.KRevSl
import KE.KSortedM
import KE.KStateDown
import PyProof.Rows.ReprShort
import Lean
import PySem.Challenge.RW_roomahead_k10_whole_stuck_and_held_fast
set_option Elab.async false
set_option linter.all false
set_option maxRecDepth 100000
namespace Rm
open PySem PySem.Spec PyProof.Rows L2

/-! ## Values, stores, outcomes -/
/-- a value: tuples are plain data, so is a list that is known to stay (kl: the script); what can change stands in the store -/
inductive D where
  | non | bl (b : Bool) | int (i : Int) | str (x : Str) | tup (ds : List D) | kl (ds : List D) | ref (n : Nat)
/-- what stands at a place of the store -/
inductive Cell where
  | lst (ds : List D) | dct (t : Bool) (kvs : List (D × D))
abbrev Sto := List Cell
structure Ex where
  cls : Str
  fs : List (Str × D)
/-- an expression's outcome -/
inductive R (α : Type) where
  | ok (a : α) (s : Sto) | exc (e : Ex) (s : Sto) | bad
abbrev Env := List (Option D)
/-- a statement's outcome -/
inductive RS where
  | nx (ρ : Env) (s : Sto) | rt (d : D) (s : Sto) | bk (ρ : Env) (s : Sto) | ct (ρ : Env) (s : Sto) | exc (e : Ex) (ρ : Env) (s : Sto) | bad
abbrev F := Env → Sto → R D
abbrev FT := Env → Sto → R Bool
abbrev FA := Env → Sto → R (List D)
abbrev FS := Env → Sto → RS
abbrev FG := D → Env → Sto → Option (Env × Sto)
def R.bd {α β : Type} (r : R α) (f : α → Sto → R β) : R β := match r with
  | .ok a s => f a s
  | .exc e s => .exc e s
  | .bad => .bad
def R.Sat {α : Type} (r : R α) (P : α → Sto → Prop) (E : Ex → Sto → Prop) : Prop := match r with
  | .ok a s => P a s
  | .exc e s => E e s
  | .bad => False
theorem R.sat_bd {α β : Type} {r : R α} {f : α → Sto → R β} {P : β → Sto → Prop} {E : Ex → Sto → Prop} : (r.bd f).Sat P E ↔ r.Sat (fun a s => (f a s).Sat P E) E := by
  cases r <;> exact Iff.rfl
theorem R.Sat.mono {α : Type} {r : R α} {P P' : α → Sto → Prop} {E E' : Ex → Sto → Prop} (h : r.Sat P E) (hP : ∀ a s, P a s → P' a s) (hE : ∀ a s, E a s → E' a s) : r.Sat P' E' := by
  cases r with
  | ok a s => exact hP a s h
  | exc e s => exact hE e s h
  | bad => exact h

/-! ## How values stand in the heap -/
variable (K : PySem.W.Frag)
/-- a list that stays -/
def FzL (H : Hp) (a : Addr) (xs : List V) : Prop := (∃ o, H a = some (.frz o (.lst xs))) ∨
  ∃ (o : Obj) (its : Array Value) (n : Nat), K.lookup a = some o ∧ o.cls = .type "list" ∧ o.dict = none ∧ o.data = .seq its n ∧ its.size ≤ sizeLine ∧ Vals xs its.toList
theorem FzL.sql {K : PySem.W.Frag} {H : Hp} {a : Addr} {xs : List V} (h : FzL K H a xs) : SqL K H a xs := h.elim (fun h => .inl (.inr h)) .inr
mutual
inductive RV (μ : List Addr) (H : Hp) : V → D → Prop
  | non : RV μ H .non .non
  | bl (b : Bool) : RV μ H (.bl b) (.bl b)
  | int (i : Int) : RV μ H (.int i) (.int i)
  | str (x : Str) : RV μ H (.str x) (.str x)
  | tup {a : Addr} {xs : List V} {ds : List D} : SqT K H a xs → RVs μ H xs ds → RV μ H (.ref a) (.tup ds)
  | kl {a : Addr} {xs : List V} {ds : List D} : FzL K H a xs → RVs μ H xs ds → RV μ H (.ref a) (.kl ds)
  | ref {n : Nat} {a : Addr} : μ[n]? = some a → RV μ H (.ref a) (.ref n)
inductive RVs (μ : List Addr) (H : Hp) : List V → List D → Prop
  | nil : RVs μ H [] []
  | cons {v : V} {vs : List V} {d : D} {ds : List D} : RV μ H v d → RVs μ H vs ds → RVs μ H (v :: vs) (d :: ds)
end
/-- a key of a dict -/
def keyOf : D → Option Key
  | .int i => some (.inl i)
  | .str x => some (.inr x)
  | _ => none
def keysOf : List D → Option (List Key)
  | [] => some []
  | d :: ds => (keyOf d).bind fun k => (keysOf ds).map (k :: ·)
def tkeyOf : D → Option (List Key)
  | .tup ds => keysOf ds
  | _ => none
inductive RK (μ : List Addr) (H : Hp) {κ : Type} (f : D → Option κ) : List (κ × V) → List (D × D) → Prop
  | nil : RK μ H f [] []
  | cons {k : κ} {v : V} {kd d : D} {kvs : List (κ × V)} {kds : List (D × D)} : f kd = some k → RV K μ H v d → RK μ H f kvs kds → RK μ H f ((k, v) :: kvs) ((kd, d) :: kds)
/-- a cell at its address -/
def RC (μ : List Addr) (H : Hp) (a : Addr) : Cell → Prop
  | .lst ds => ∃ xs, H a = some (.lst xs) ∧ RVs K μ H xs ds
  | .dct false kds => ∃ kvs, H a = some (.dK kvs) ∧ RK K μ H keyOf kvs kds
  | .dct true kds => ∃ kvs, H a = some (.dT kvs) ∧ RK K μ H tkeyOf kvs kds
structure RH (μ : List Addr) (H : Hp) (st : Sto) : Prop where
  len : μ.length = st.length
  nd : μ.Nodup
  cell : ∀ (n : Nat) (a : Addr) (c : Cell), μ[n]? = some a → st[n]? = some c → RC K μ H a c
/-- the slots -/
def RE (μ : List Addr) (H : Hp) (σ : L2.St) (ρ : Env) : Prop := σ.length = ρ.length ∧ ∀ (i : Nat) (d : D), ρ[i]? = some (some d) → ∃ v, σ[i]? = some (some v) ∧ RV K μ H v d
/-- what every step keeps -/
structure Ext (μ : List Addr) (H : Hp) (μ' : List Addr) (H' : Hp) : Prop where
  pre : ∃ l, μ' = μ ++ l
  sq : ∀ a xs, SqT K H a xs → SqT K H' a xs
  fz : ∀ a xs, FzL K H a xs → FzL K H' a xs
  fr : ∀ a o, H a = some o → a ∉ μ → H' a = some o
  new : ∀ a ∈ μ', a ∈ μ ∨ H a = none
/-- what a value's description leans on -/
structure Sub (μ : List Addr) (H : Hp) (μ' : List Addr) (H' : Hp) : Prop where
  pre : ∃ l, μ' = μ ++ l
  sq : ∀ a xs, SqT K H a xs → SqT K H' a xs
  fz : ∀ a xs, FzL K H a xs → FzL K H' a xs
variable {K}
variable {μ μ' μ1 μ2 : List Addr} {H H' H1 H2 : Hp} {st st' : Sto} {σ : L2.St} {ρ : Env}
theorem Ext.refl : Ext K μ H μ H := ⟨⟨[], by simp⟩, fun _ _ h => h, fun _ _ h => h, fun _ _ h _ => h, fun _ h => .inl h⟩
theorem Ext.trans (x : Ext K μ H μ1 H1) (y : Ext K μ1 H1 μ2 H2) : Ext K μ H μ2 H2 := by
  obtain ⟨l, e⟩ := x.pre
  obtain ⟨m, e'⟩ := y.pre
  refine ⟨⟨l ++ m, by rw [e', e, List.append_assoc]⟩, fun a xs h => y.sq a xs (x.sq a xs h), fun a xs h => y.fz a xs (x.fz a xs h), fun a o h n => ?_, fun a h => ?_⟩
  · refine y.fr a o (x.fr a o h n) fun q => ?_
    rcases x.new a q with q | q
    · exact n q
    · rw [h] at q; cases q
  · rcases y.new a h with q | q
    · exact x.new a q
    · by_cases hn : a ∈ μ
      · exact .inl hn
      · refine .inr ?_
        cases e : H a with
        | none => rfl
        | some o => rw [x.fr a o e hn] at q; cases q
theorem Ext.sub (x : Ext K μ H μ' H') : Sub K μ H μ' H' := ⟨x.pre, x.sq, x.fz⟩
theorem Sub.get (x : Sub K μ H μ' H') {n : Nat} {a : Addr} (h : μ[n]? = some a) : μ'[n]? = some a := by
  obtain ⟨l, e⟩ := x.pre
  rw [e, List.getElem?_append_left (List.getElem?_eq_some_iff.mp h).1]
  exact h
theorem Ext.get (x : Ext K μ H μ' H') {n : Nat} {a : Addr} (h : μ[n]? = some a) : μ'[n]? = some a := by
  obtain ⟨l, e⟩ := x.pre
  rw [e, List.getElem?_append_left (List.getElem?_eq_some_iff.mp h).1]
  exact h
mutual
theorem RV.monoS (x : Sub K μ H μ' H') : ∀ {v : V} {d : D}, RV K μ H v d → RV K μ' H' v d
  | _, _, .non => .non
  | _, _, .bl b => .bl b
  | _, _, .int b => .int b
  | _, _, .str b => .str b
  | _, _, .tup h r => .tup (x.sq _ _ h) (RVs.monoS x r)
  | _, _, .kl h r => .kl (x.fz _ _ h) (RVs.monoS x r)
  | _, _, .ref h => .ref (x.get h)
theorem RVs.monoS (x : Sub K μ H μ' H') : ∀ {vs : List V} {ds : List D}, RVs K μ H vs ds → RVs K μ' H' vs ds
  | _, _, .nil => .nil
  | _, _, .cons r t => .cons (RV.monoS x r) (RVs.monoS x t)
end
theorem RK.monoS {κ : Type} {f : D → Option κ} (x : Sub K μ H μ' H') : ∀ {kvs : List (κ × V)} {kds : List (D × D)}, RK K μ H f kvs kds → RK K μ' H' f kvs kds
  | _, _, .nil => .nil
  | _, _, .cons e r t => .cons e (RV.monoS x r) (RK.monoS x t)
theorem RV.mono (x : Ext K μ H μ' H') {v : V} {d : D} (h : RV K μ H v d) : RV K μ' H' v d := h.monoS x.sub
theorem RVs.mono (x : Ext K μ H μ' H') {vs : List V} {ds : List D} (h : RVs K μ H vs ds) : RVs K μ' H' vs ds := h.monoS x.sub
theorem RE.mono (x : Ext K μ H μ' H') (r : RE K μ H σ ρ) : RE K μ' H' σ ρ := ⟨r.1, fun i d h => let ⟨v, e, q⟩ := r.2 i d h; ⟨v, e, q.mono x⟩⟩
theorem RVs.length : ∀ {vs : List V} {ds : List D}, RVs K μ H vs ds → vs.length = ds.length
  | _, _, .nil => rfl
  | _, _, .cons _ t => congrArg (· + 1) (RVs.length t)
theorem RVs.get : ∀ {vs : List V} {ds : List D} {i : Nat} {d : D}, RVs K μ H vs ds → ds[i]? = some d → ∃ v, vs[i]? = some v ∧ RV K μ H v d
  | _, _, _, _, .nil, e => by simp at e
  | _, _, 0, _, .cons r _, e => by simp at e; subst e; exact ⟨_, rfl, r⟩
  | _, _, i + 1, _, .cons _ t, e => by
    obtain ⟨v, h, r⟩ := RVs.get (i := i) t (by simpa using e)
    exact ⟨v, by simpa using h, r⟩
theorem RVs.get' : ∀ {vs : List V} {ds : List D} {i : Nat} {v : V}, RVs K μ H vs ds → vs[i]? = some v → ∃ d, ds[i]? = some d ∧ RV K μ H v d
  | _, _, _, _, .nil, e => by simp at e
  | _, _, 0, _, .cons r _, e => by simp at e; subst e; exact ⟨_, rfl, r⟩
  | _, _, i + 1, _, .cons _ t, e => by
    obtain ⟨v, h, r⟩ := RVs.get' (i := i) t (by simpa using e)
    exact ⟨v, by simpa using h, r⟩
theorem RVs.append : ∀ {vs ws : List V} {ds es : List D}, RVs K μ H vs ds → RVs K μ H ws es → RVs K μ H (vs ++ ws) (ds ++ es)
  | _, _, _, _, .nil, s => s
  | _, _, _, _, .cons r t, s => .cons r (RVs.append t s)
theorem RVs.take : ∀ {vs : List V} {ds : List D} (n : Nat), RVs K μ H vs ds → RVs K μ H (vs.take n) (ds.take n)
  | _, _, 0, _ => .nil
  | _, _, _ + 1, .nil => .nil
  | _, _, n + 1, .cons r t => .cons r (RVs.take n t)
theorem RVs.drop : ∀ {vs : List V} {ds : List D} (n : Nat), RVs K μ H vs ds → RVs K μ H (vs.drop n) (ds.drop n)
  | _, _, 0, r => r
  | _, _, _ + 1, .nil => .nil
  | _, _, n + 1, .cons _ t => RVs.drop n t
theorem RVs.set {v : V} {d : D} (r : RV K μ H v d) : ∀ {vs : List V} {ds : List D} (n : Nat), RVs K μ H vs ds → RVs K μ H (vs.set n v) (ds.set n d)
  | _, _, _, .nil => .nil
  | _, _, 0, .cons _ t => .cons r t
  | _, _, n + 1, .cons q t => .cons q (RVs.set r n t)
theorem RVs.reverse {vs : List V} {ds : List D} (r : RVs K μ H vs ds) : RVs K μ H vs.reverse ds.reverse := by
  have aux : ∀ {vs : List V} {ds : List D} {ws : List V} {es : List D}, RVs K μ H vs ds → RVs K μ H ws es → RVs K μ H (vs.reverseAux ws) (ds.reverseAux es) := by
    intro vs
    induction vs with
    | nil => intro ds ws es r s; cases r; exact s
    | cons v vs ih =>
      intro ds ws es r s
      cases r with
      | cons a b => exact ih (es := _ :: es) b (.cons a s)
  exact aux r .nil
/-- a new object that is no cell -/
theorem sqT_keep {a p : Addr} {xs : List V} {o : HO} (h : SqT K H a xs) (hp : H p = none) : SqT K (upd H p o) a xs := by
  rcases h with (h | ⟨ob, h⟩) | h
  · exact .inl (.inl (by rw [upd_ne (ne_of_none h hp)]; exact h))
  · exact .inl (.inr ⟨ob, by rw [upd_ne (ne_of_none h hp)]; exact h⟩)
  · exact .inr h
theorem fzL_keep {a p : Addr} {xs : List V} {o : HO} (h : FzL K H a xs) (hp : H p = none) : FzL K (upd H p o) a xs := by
  rcases h with ⟨ob, h⟩ | h
  · exact .inl ⟨ob, by rw [upd_ne (ne_of_none h hp)]; exact h⟩
  · exact .inr h
theorem sqL_keep {a p : Addr} {xs : List V} {o : HO} (h : SqL K H a xs) (hp : H p = none) : SqL K (upd H p o) a xs := by
  rcases h with (h | ⟨ob, h⟩) | h
  · exact .inl (.inl (by rw [upd_ne (ne_of_none h hp)]; exact h))
  · exact .inl (.inr ⟨ob, by rw [upd_ne (ne_of_none h hp)]; exact h⟩)
  · exact .inr h
theorem RC.tracked {a : Addr} {c : Cell} (h : RC K μ H a c) : ∃ o, H a = some o := by
  cases c with
  | lst ds => obtain ⟨xs, h, _⟩ := h; exact ⟨_, h⟩
  | dct t ds => cases t <;> (obtain ⟨xs, h, _⟩ := h; exact ⟨_, h⟩)
theorem RH.tracked (r : RH K μ H st) {a : Addr} (h : a ∈ μ) : ∃ o, H a = some o := by
  obtain ⟨n, hn, e⟩ := List.getElem_of_mem h
  have h1 : μ[n]? = some a := by rw [List.getElem?_eq_getElem hn, e]
  have h2 : n < st.length := by rw [← r.len]; exact hn
  exact (r.cell n a _ h1 (List.getElem?_eq_getElem h2)).tracked
theorem RH.notIn (r : RH K μ H st) {p : Addr} (hp : H p = none) : p ∉ μ := fun h => by
  obtain ⟨o, e⟩ := r.tracked h
  rw [hp] at e; cases e
theorem RC.monoS {a : Addr} {c : Cell} (x : Sub K μ H μ' H') (e : H' a = H a) (h : RC K μ H a c) : RC K μ' H' a c := by
  cases c with
  | lst ds => obtain ⟨xs, h, r⟩ := h; exact ⟨xs, by rw [e]; exact h, r.monoS x⟩
  | dct t ds => cases t <;> (obtain ⟨xs, h, r⟩ := h; exact ⟨xs, by rw [e]; exact h, r.monoS x⟩)
theorem RC.mono {a : Addr} {c : Cell} (x : Ext K μ H μ' H') (e : H' a = H a) (h : RC K μ H a c) : RC K μ' H' a c := h.monoS x.sub e
/-- an object outside the store is changed -/
theorem RH.side (r : RH K μ H st) (x : Sub K μ H μ H') (h : ∀ a ∈ μ, H' a = H a) : RH K μ H' st :=
  ⟨r.len, r.nd, fun n a c h1 h2 => (r.cell n a c h1 h2).monoS x (h a (List.mem_of_getElem? h1))⟩
/-- a new object outside the store -/
theorem Ext.alloc (r : RH K μ H st) {p : Addr} {o : HO} (hp : H p = none) : Ext K μ H μ (upd H p o) :=
  ⟨⟨[], by simp⟩, fun _ _ h => sqT_keep h hp, fun _ _ h => fzL_keep h hp, fun a ob h _ => by rw [upd_ne (ne_of_none h hp)]; exact h, fun _ h => .inl h⟩
theorem RH.alloc (r : RH K μ H st) {p : Addr} {o : HO} (hp : H p = none) : RH K μ (upd H p o) st :=
  ⟨r.len, r.nd, fun n a c h1 h2 => (r.cell n a c h1 h2).mono (Ext.alloc r hp) (by
    obtain ⟨o', e⟩ := (r.cell n a c h1 h2).tracked
    rw [upd_ne (ne_of_none e hp)])⟩
/-- a new cell: an object that came since is taken into the store -/
theorem Ext.take {p : Addr} (hp : H p = none) (x : Ext K μ H μ' H') : Ext K μ H (μ' ++ [p]) H' := by
  obtain ⟨l, e⟩ := x.pre
  refine ⟨⟨l ++ [p], by rw [e, List.append_assoc]⟩, x.sq, x.fz, x.fr, fun a h => ?_⟩
  rcases List.mem_append.mp h with h | h
  · exact x.new a h
  · rw [List.mem_singleton] at h; subst h; exact .inr hp
theorem Ext.push {p : Addr} (hn : p ∉ μ) : ∀ (n : Nat) (a : Addr), μ[n]? = some a → (μ ++ [p])[n]? = some a := fun n a h => by
  rw [List.getElem?_append_left (List.getElem?_eq_some_iff.mp h).1]; exact h
mutual
theorem RV.push {p : Addr} : ∀ {v : V} {d : D}, RV K μ H v d → RV K (μ ++ [p]) H v d
  | _, _, .non => .non
  | _, _, .bl b => .bl b
  | _, _, .int b => .int b
  | _, _, .str b => .str b
  | _, _, .tup h r => .tup h (RVs.push r)
  | _, _, .kl h r => .kl h (RVs.push r)
  | _, _, .ref h => .ref (by rw [List.getElem?_append_left (List.getElem?_eq_some_iff.mp h).1]; exact h)
theorem RVs.push {p : Addr} : ∀ {vs : List V} {ds : List D}, RVs K μ H vs ds → RVs K (μ ++ [p]) H vs ds
  | _, _, .nil => .nil
  | _, _, .cons r t => .cons (RV.push r) (RVs.push t)
end
theorem RK.push {κ : Type} {f : D → Option κ} {p : Addr} : ∀ {kvs : List (κ × V)} {kds : List (D × D)}, RK K μ H f kvs kds → RK K (μ ++ [p]) H f kvs kds
  | _, _, .nil => .nil
  | _, _, .cons e r t => .cons e (RV.push r) (RK.push t)
theorem RC.push {p a : Addr} {c : Cell} (h : RC K μ H a c) : RC K (μ ++ [p]) H a c := by
  cases c with
  | lst ds => obtain ⟨xs, h, r⟩ := h; exact ⟨xs, h, r.push⟩
  | dct t ds => cases t <;> (obtain ⟨xs, h, r⟩ := h; exact ⟨xs, h, r.push⟩)
/-- the store grows by a cell that stands at p -/
theorem RH.push (r : RH K μ H st) {p : Addr} (hn : p ∉ μ) {c : Cell} (h : RC K μ H p c) : RH K (μ ++ [p]) H (st ++ [c]) := by
  refine ⟨by simp [r.len], List.nodup_append.mpr ⟨r.nd, by simp, fun a ha b hb e => ?_⟩, fun n a c' h1 h2 => ?_⟩
  · rw [List.mem_singleton] at hb; subst hb; subst e; exact hn ha
  · by_cases hl : n < μ.length
    · rw [List.getElem?_append_left hl] at h1
      rw [List.getElem?_append_left (by rw [← r.len]; exact hl)] at h2
      exact (r.cell n a c' h1 h2).push
    · have hl2 : n < (μ ++ [p]).length := (List.getElem?_eq_some_iff.mp h1).1
      rw [List.length_append, List.length_singleton] at hl2
      have e : n = μ.length := by omega
      subst e
      rw [List.getElem?_append_right (Nat.le_refl _)] at h1
      rw [r.len, List.getElem?_append_right (Nat.le_refl _)] at h2
      simp at h1 h2
      subst h1 h2
      exact h.push
theorem RH.ne (r : RH K μ H st) {n m : Nat} {a b : Addr} (h1 : μ[n]? = some a) (h2 : μ[m]? = some b) (h : n ≠ m) : a ≠ b := fun e => by
  subst e
  obtain ⟨l1, e1⟩ := List.getElem?_eq_some_iff.mp h1
  obtain ⟨l2, e2⟩ := List.getElem?_eq_some_iff.mp h2
  exact h ((List.getElem_inj r.nd).mp (e1.trans e2.symm))
/-- a cell is changed -/
theorem Ext.write (r : RH K μ H st) {n : Nat} {a : Addr} {o : HO} (h : μ[n]? = some a) (hm : ∃ u, H a = some u ∧ (∀ xs, u ≠ .tup xs) ∧ ∀ ob z, u ≠ .frz ob z) : Ext K μ H μ (upd H a o) := by
  obtain ⟨u, hu, n1, n2⟩ := hm
  refine ⟨⟨[], by simp⟩, fun b xs q => ?_, fun b xs q => ?_, fun b ob q hn => ?_, fun _ h => .inl h⟩
  · rcases q with (q | ⟨ob, q⟩) | q
    · refine .inl (.inl ?_)
      rw [upd_ne (fun z => by subst z; rw [hu] at q; exact n1 xs (Option.some.inj q))]; exact q
    · refine .inl (.inr ⟨ob, ?_⟩)
      rw [upd_ne (fun z => by subst z; rw [hu] at q; exact n2 ob _ (Option.some.inj q))]; exact q
    · exact .inr q
  · rcases q with ⟨ob, q⟩ | q
    · refine .inl ⟨ob, ?_⟩
      rw [upd_ne (fun z => by subst z; rw [hu] at q; exact n2 ob _ (Option.some.inj q))]; exact q
    · exact .inr q
  · rw [upd_ne (fun z => by subst z; exact hn (List.mem_of_getElem? h))]; exact q
theorem RH.write (r : RH K μ H st) {n : Nat} {a : Addr} {o : HO} {c : Cell} (h : μ[n]? = some a) (x : Ext K μ H μ (upd H a o)) (hc : RC K μ (upd H a o) a c) : RH K μ (upd H a o) (st.set n c) := by
  refine ⟨by simp [r.len], r.nd, fun m b c' h1 h2 => ?_⟩
  by_cases e : m = n
  · subst e
    rw [h] at h1; cases h1
    rw [List.getElem?_set_self (by rw [← r.len]; exact (List.getElem?_eq_some_iff.mp h).1)] at h2
    cases h2
    exact hc
  · rw [List.getElem?_set_ne (Ne.symm e)] at h2
    exact (r.cell m b c' h1 h2).mono x (upd_ne (r.ne h1 h e))
end Rm

namespace Rm
open PySem PySem.Spec PyProof.Rows L2

/-! ## Readings by outcomes -/
/-- an exception as it leaves: its class by name, its field -/
def RX (K : PySem.W.Frag) (mg : Str → Option Value) (μ : List Addr) (H : Hp) (e : Ex) (cls : Value) (dx : Option Addr) : Prop :=
  ∃ C : Addr, mg e.cls = some (.ref C) ∧ cls = .ref C ∧ ((e.fs = [] ∧ dx = none) ∨ ∃ f x v d, e.fs = [(f, x)] ∧ dx = some d ∧ H d = some (.xd [(f, v)]) ∧ RV K μ H v x)
section
variable (X : Cx) (W : WX)
def Eok (μ : List Addr) (H : Hp) (Q : VK) : D → Sto → Prop := fun d st' => ∀ v μ' H', Ext X.K μ H μ' H' → RH X.K μ' H' st' → RV X.K μ' H' v d → Q v H'
def Eex (μ : List Addr) (H : Hp) (σ : L2.St) : Ex → Sto → Prop := fun e st' => ∀ cls dx μ' H', Ext X.K μ H μ' H' → RH X.K μ' H' st' → RX X.K X.mg μ' H' e cls dx → W cls dx σ H'
def tE (f : F) : TE := fun σ H Q => ∃ μ ρ st, RH X.K μ H st ∧ RE X.K μ H σ ρ ∧ (f ρ st).Sat (Eok X μ H Q) (Eex X W μ H σ)
def Tok (μ : List Addr) (H : Hp) (Q : Bool → Hp → Prop) : Bool → Sto → Prop := fun b st' => ∀ μ' H', Ext X.K μ H μ' H' → RH X.K μ' H' st' → Q b H'
def tT (f : FT) : TT := fun σ H Q => ∃ μ ρ st, RH X.K μ H st ∧ RE X.K μ H σ ρ ∧ (f ρ st).Sat (Tok X μ H Q) (Eex X W μ H σ)
def Aok (μ : List Addr) (H : Hp) (Q : List V → Hp → Prop) : List D → Sto → Prop := fun ds st' => ∀ vs μ' H', Ext X.K μ H μ' H' → RH X.K μ' H' st' → RVs X.K μ' H' vs ds → Q vs H'
def tA (f : FA) : TA := fun σ H Q => ∃ μ ρ st, RH X.K μ H st ∧ RE X.K μ H σ ρ ∧ (f ρ st).Sat (Aok X μ H Q) (Eex X W μ H σ)
abbrev FO := Env → Sto → R (Option Int)
def Ook (μ : List Addr) (H : Hp) (Q : Option Int → Hp → Prop) : Option Int → Sto → Prop := fun o st' => ∀ μ' H', Ext X.K μ H μ' H' → RH X.K μ' H' st' → Q o H'
def tO (f : FO) : TO := fun σ H Q => ∃ μ ρ st, RH X.K μ H st ∧ RE X.K μ H σ ρ ∧ (f ρ st).Sat (Ook X μ H Q) (Eex X W μ H σ)
structure SE (e : Expr) (f : F) : Prop where run : PE X e (tE X W f)
structure ST (e : Expr) (f : FT) : Prop where run : PT X e (tT X W f)
structure SWd (e : Expr) (f : FT) : Prop where run : PW X e (tT X W f)
structure SA (es : List Expr) (f : FA) : Prop where run : PA X es (tA X W f)
structure SO (e : Option Expr) (f : FO) : Prop where run : PO X e (tO X W f)
/-- a step by values, without exceptions: an option of value and store -/
def OSat {α : Type} (o : Option (α × Sto)) (P : α → Sto → Prop) : Prop := match o with
  | some (a, s) => P a s
  | none => False
def R.of {α : Type} (o : Option (α × Sto)) : R α := match o with
  | some (a, s) => .ok a s
  | none => .bad
end
section
variable {X : Cx} {W : WX}
theorem sat_of {α : Type} {o : Option (α × Sto)} {P : α → Sto → Prop} {E : Ex → Sto → Prop} : (R.of o).Sat P E ↔ OSat o P := by
  cases o <;> exact Iff.rfl
variable {μ μ1 μ2 : List Addr} {H H1 H2 : Hp} {st st1 : Sto} {σ : L2.St} {ρ : Env}
theorem Eok.mono {Q : VK} {d : D} {s : Sto} (h : Eok X μ H Q d s) (x : Ext X.K μ H μ1 H1) : Eok X μ1 H1 Q d s := fun v μ' H' e r q => h v μ' H' (x.trans e) r q
theorem Tok.mono {Q : Bool → Hp → Prop} {d : Bool} {s : Sto} (h : Tok X μ H Q d s) (x : Ext X.K μ H μ1 H1) : Tok X μ1 H1 Q d s := fun μ' H' e r => h μ' H' (x.trans e) r
theorem Aok.mono {Q : List V → Hp → Prop} {d : List D} {s : Sto} (h : Aok X μ H Q d s) (x : Ext X.K μ H μ1 H1) : Aok X μ1 H1 Q d s := fun v μ' H' e r q => h v μ' H' (x.trans e) r q
theorem Eex.mono {e : Ex} {s : Sto} (h : Eex X W μ H σ e s) (x : Ext X.K μ H μ1 H1) : Eex X W μ1 H1 σ e s := fun c d μ' H' y r q => h c d μ' H' (x.trans y) r q
/-- from a rule of the layer -/
theorem SE.mk' {e : Expr} {t : TE} {f : F} (h : PE X e t) (c : ∀ σ H Q μ ρ st, RH X.K μ H st → RE X.K μ H σ ρ → (f ρ st).Sat (Eok X μ H Q) (Eex X W μ H σ) → t σ H Q) : SE X W e f :=
  ⟨⟨fun pins s σ H Q I ⟨μ, ρ, st, r, e, q⟩ => h.run pins s σ H Q I (c σ H Q μ ρ st r e q)⟩⟩
theorem ST.mk' {e : Expr} {t : TT} {f : FT} (h : PT X e t) (c : ∀ σ H Q μ ρ st, RH X.K μ H st → RE X.K μ H σ ρ → (f ρ st).Sat (Tok X μ H Q) (Eex X W μ H σ) → t σ H Q) : ST X W e f :=
  ⟨⟨fun pins s σ H Q I ⟨μ, ρ, st, r, e, q⟩ => h.run pins s σ H Q I (c σ H Q μ ρ st r e q)⟩⟩
theorem SWd.mk' {e : Expr} {t : TT} {f : FT} (h : PW X e t) (c : ∀ σ H Q μ ρ st, RH X.K μ H st → RE X.K μ H σ ρ → (f ρ st).Sat (Tok X μ H Q) (Eex X W μ H σ) → t σ H Q) : SWd X W e f :=
  ⟨⟨fun wh pins s σ H Q I ⟨μ, ρ, st, r, e, q⟩ => h.run wh pins s σ H Q I (c σ H Q μ ρ st r e q)⟩⟩
theorem SA.mk' {e : List Expr} {t : TA} {f : FA} (h : PA X e t) (c : ∀ σ H Q μ ρ st, RH X.K μ H st → RE X.K μ H σ ρ → (f ρ st).Sat (Aok X μ H Q) (Eex X W μ H σ) → t σ H Q) : SA X W e f :=
  ⟨⟨fun pos pins s σ H Q I ⟨μ, ρ, st, r, e, q⟩ => h.run pos pins s σ H Q I (c σ H Q μ ρ st r e q)⟩⟩
/-- use: a part's reading from its outcome -/
theorem tE.go {f : F} {Q : VK} (r : RH X.K μ H st) (re : RE X.K μ H σ ρ) {P : D → Sto → Prop} (h : (f ρ st).Sat P (Eex X W μ H σ))
    (c : ∀ d s v μ' H', P d s → Ext X.K μ H μ' H' → RH X.K μ' H' s → RE X.K μ' H' σ ρ → RV X.K μ' H' v d → Q v H') : tE X W f σ H Q :=
  ⟨μ, ρ, st, r, re, h.mono (fun d s p v μ' H' x r' q => c d s v μ' H' p x r' (re.mono x) q) fun _ _ z => z⟩
theorem tT.go {f : FT} {Q : Bool → Hp → Prop} (r : RH X.K μ H st) (re : RE X.K μ H σ ρ) {P : Bool → Sto → Prop} (h : (f ρ st).Sat P (Eex X W μ H σ))
    (c : ∀ d s μ' H', P d s → Ext X.K μ H μ' H' → RH X.K μ' H' s → RE X.K μ' H' σ ρ → Q d H') : tT X W f σ H Q :=
  ⟨μ, ρ, st, r, re, h.mono (fun d s p μ' H' x r' => c d s μ' H' p x r' (re.mono x)) fun _ _ z => z⟩
theorem tA.go {f : FA} {Q : List V → Hp → Prop} (r : RH X.K μ H st) (re : RE X.K μ H σ ρ) {P : List D → Sto → Prop} (h : (f ρ st).Sat P (Eex X W μ H σ))
    (c : ∀ d s v μ' H', P d s → Ext X.K μ H μ' H' → RH X.K μ' H' s → RE X.K μ' H' σ ρ → RVs X.K μ' H' v d → Q v H') : tA X W f σ H Q :=
  ⟨μ, ρ, st, r, re, h.mono (fun d s p v μ' H' x r' q => c d s v μ' H' p x r' (re.mono x) q) fun _ _ z => z⟩
theorem tO.go {f : FO} {Q : Option Int → Hp → Prop} (r : RH X.K μ H st) (re : RE X.K μ H σ ρ) {P : Option Int → Sto → Prop} (h : (f ρ st).Sat P (Eex X W μ H σ))
    (c : ∀ d s μ' H', P d s → Ext X.K μ H μ' H' → RH X.K μ' H' s → RE X.K μ' H' σ ρ → Q d H') : tO X W f σ H Q :=
  ⟨μ, ρ, st, r, re, h.mono (fun d s p μ' H' x r' => c d s μ' H' p x r' (re.mono x)) fun _ _ z => z⟩

/-! ### names and constants -/
def eVar (i : Nat) : F := fun ρ st => match ρ[i]? with
  | some (some d) => .ok d st
  | _ => .bad
def eC (d : D) : F := fun _ st => .ok d st
theorem se_var (i : Nat) {x : Str} {pos : Pos} (hN : X.N[i]? = some x := by rfl) (hv : Vis X.env.scope x := by first | exact Or.inl rfl | exact Or.inr (Or.inl rfl) | exact Or.inr (Or.inr rfl)) (hd : (x == ("__debug__" : Str)) = false := by decide)
    (hcd : (x == ("__classdict__" : Str)) = false := by decide) : SE X W (.Name x pos) (eVar i) :=
  .mk' (pe_var hN hv hd hcd) fun σ H Q μ ρ st r re q => by
    unfold eVar at q
    cases h : ρ[i]? with
    | none => rw [h] at q; exact q.elim
    | some o =>
      rw [h] at q
      cases o with
      | none => exact q.elim
      | some d =>
        obtain ⟨v, hv, rv⟩ := re.2 i d h
        exact ⟨v, hv, q v μ H .refl r rv⟩
theorem se_int {i j pos} : SE X W (.Constant (.int i) j pos) (eC (.int i)) := .mk' pe_int fun _ _ _ _ _ _ r _ q => q _ _ _ .refl r (.int i)
theorem se_bl {i j pos} : SE X W (.Constant (.bool i) j pos) (eC (.bl i)) := .mk' pe_bl fun _ _ _ _ _ _ r _ q => q _ _ _ .refl r (.bl i)
theorem se_non {j pos} : SE X W (.Constant .none j pos) (eC .non) := .mk' pe_non fun _ _ _ _ _ _ r _ q => q _ _ _ .refl r .non
theorem se_str {i j pos} : SE X W (.Constant (.str i) j pos) (eC (.str i)) := .mk' pe_str fun _ _ _ _ _ _ r _ q => q _ _ _ .refl r (.str i)
/-- a constant of a module -/
theorem se_glob {x : Str} {v : V} {d : D} {u : Value} {pos : Pos} (hg : Gl X x) (hm : X.mg x = some u) (rv : RelV v u) (hd : ∀ μ H, RV X.K μ H v d) (hdb : (x == ("__debug__" : Str)) = false := by decide) : SE X W (.Name x pos) (eC d) :=
  .mk' (pe_glob hg hm rv hdb) fun _ _ _ _ _ _ r _ q => q _ _ _ .refl r (hd _ _)

/-! ### operators -/
def e1 (op : D → Sto → Option (D × Sto)) (fa : F) : F := fun ρ st => (fa ρ st).bd fun x s1 => R.of (op x s1)
def e2 (op : D → D → Sto → Option (D × Sto)) (fa fb : F) : F := fun ρ st => (fa ρ st).bd fun x s1 => (fb ρ s1).bd fun y s2 => R.of (op x y s2)
/-- an operator's reading by its outcome -/
def OpD (K : PySem.W.Frag) (r : R2) (op : D → D → Sto → Option (D × Sto)) : Prop := ∀ μ H st x y dx dy Q, RH K μ H st → RV K μ H x dx → RV K μ H y dy →
  OSat (op dx dy st) (fun d st' => ∀ v μ' H', Ext K μ H μ' H' → RH K μ' H' st' → RV K μ' H' v d → Q v H') → r x y H Q
def UnD (K : PySem.W.Frag) (r : V → Hp → VK → Prop) (op : D → Sto → Option (D × Sto)) : Prop := ∀ μ H st x dx Q, RH K μ H st → RV K μ H x dx →
  OSat (op dx st) (fun d st' => ∀ v μ' H', Ext K μ H μ' H' → RH K μ' H' st' → RV K μ' H' v d → Q v H') → r x H Q
theorem two_conv {r : R2} {op} {a b : F} (hd : OpD X.K r op) : ∀ σ H Q μ ρ st, RH X.K μ H st → RE X.K μ H σ ρ → (e2 op a b ρ st).Sat (Eok X μ H Q) (Eex X W μ H σ) → tOp r (tE X W a) (tE X W b) σ H Q := by
  intro σ H Q μ ρ st rh re q
  refine tE.go rh re (R.sat_bd.mp q) fun dx s x μ1 H1 p1 x1 r1 re1 v1 => ?_
  refine tE.go (P := fun dy s2 => OSat (op dx dy s2) (Eok X μ H Q)) r1 re1 ((R.sat_bd.mp p1).mono (fun dy s2 h => sat_of.mp h) fun _ _ z => z.mono x1) fun dy s2 y μ2 H2 p2 x2 r2 re2 v2 => ?_
  refine hd μ2 H2 s2 x y dx dy Q r2 (v1.mono x2) v2 ?_
  have x12 := x1.trans x2
  cases ho : op dx dy s2 with
  | none => rw [ho] at p2; exact p2.elim
  | some ds => rw [ho] at p2; exact fun v μ' H' e r q => p2 v μ' H' (x12.trans e) r q
theorem se_op {o : Operator} {r : R2} {op} {a b : Expr} {fa fb : F} {pos : Pos} (hr : OpR X (binaryOp o) r) (hd : OpD X.K r op) (ha : SE X W a fa) (hb : SE X W b fb) : SE X W (.BinOp a o b pos) (e2 op fa fb) :=
  .mk' (pe_op hr ha.run hb.run) (two_conv hd)
theorem se_cmp {o : CmpOp} {r : R2} {op} {a b : Expr} {fa fb : F} {pos : Pos} (hr : OpR X (compareOp o) r) (hd : OpD X.K r op) (ha : SE X W a fa) (hb : SE X W b fb) (hm : behindInMarks o b = false) : SE X W (.Compare a [o] [b] pos) (e2 op fa fb) :=
  .mk' (pe_cmpR hr ha.run hb.run hm) (two_conv hd)
theorem se_un {o : UnaryOp} {r : V → Hp → VK → Prop} {op} {a : Expr} {fa : F} {pos : Pos} (hr : UnR X (unaryOp o) r) (hd : UnD X.K r op) (ha : SE X W a fa) : SE X W (.UnaryOp o a pos) (e1 op fa) :=
  .mk' (pe_un hr ha.run) fun σ H Q μ ρ st rh re q => tE.go rh re (R.sat_bd.mp q) fun dx s x μ1 H1 p1 x1 r1 re1 v1 => hd μ1 H1 s x dx Q r1 v1 (by
    have p2 := sat_of.mp p1
    cases ho : op dx s with
    | none => rw [ho] at p2; exact p2.elim
    | some ds => rw [ho] at p2; exact fun v μ' H' e r q => p2 v μ' H' (x1.trans e) r q)
theorem se_ix {r : R2} {op} {a b : Expr} {fa fb : F} {pos : Pos} (hr : IxR X r) (hd : OpD X.K r op) (ha : SE X W a fa) (hb : SE X W b fb) (hs : PlainIx b) : SE X W (.Subscript a b pos) (e2 op fa fb) :=
  .mk' (pe_ix hr ha.run hb.run hs) (two_conv hd)
end
end Rm

namespace Rm
open PySem PySem.Spec PyProof.Rows L2
open AutoSeq1 (wpAny_loadPart')
/-! ## A tuple taken once, or not at all -/
theorem mul_once (l : Addr) (its : Array Value) (n : Nat) (dc : Option Addr) (sl : Array (Option Value)) (u : PySem.Tok) :
    Meets (Builtin.«tuple.__mul__» ⟨[.ref l, .int 1 u], []⟩) (fun _ R s => s.heap.get? l = some { cls := .type "tuple", dict := dc, data := .seq its n, slots := sl } ∧ R (.ok (.ret (Value.ref l))) s) :=
  .of_wp fun prog w A R s hh => by
    obtain ⟨hp, g, d, tk, os⟩ := s
    obtain ⟨hl, hh⟩ := hh
    have f1 := AutoSeq1.idx_int
    have c0 : (decide ((1 : Int) < -(2 ^ 63)) || decide ((1 : Int) ≥ 2 ^ 63)) = false := by decide
    have c1 : (its.isEmpty || (1 : Int) == 1) = true := by rw [Bool.or_eq_true]; exact .inr rfl
    wp_walk using wpAny_loadPart' hl
    repeat (first
      | (refine wpAny_ite_false (decide_eq_false (by rw [c0]; exact Bool.false_ne_true)) ?_; wp_walk using wpAny_loadPart' hl)
      | (refine wpAny_ite_true (decide_eq_true c1) ?_; wp_walk using wpAny_loadPart' hl))
    exact ⟨_, rfl, hh⟩
theorem mul_none (l : Addr) (its : Array Value) (n : Nat) (dc : Option Addr) (sl : Array (Option Value)) (x : Int) (u : PySem.Tok) (c0 : (decide (x < -(2 ^ 63)) || decide (x ≥ 2 ^ 63)) = false) (c1 : (its.isEmpty || x == 1) = false) (c2 : (decide (x ≤ 0) || its.isEmpty) = true) :
    Meets (Builtin.«tuple.__mul__» ⟨[.ref l, .int x u], []⟩) (fun _ R s => s.heap.get? l = some { cls := .type "tuple", dict := dc, data := .seq its n, slots := sl } ∧
      R (.ok (.ret (Value.ref s.heap.objs.size))) { s with heap := s.heap.push { cls := Value.type "tuple", data := Data.seq #[] }, toks := s.toks }) :=
  .of_wp fun prog w A R s hh => by
    obtain ⟨hp, g, d, tk, os⟩ := s
    obtain ⟨hl, hh⟩ := hh
    have f1 := AutoSeq1.idx_int
    wp_walk using wpAny_loadPart' hl
    repeat (first
      | (refine wpAny_ite_false (decide_eq_false (by rw [c0]; exact Bool.false_ne_true)) ?_; wp_walk using wpAny_loadPart' hl)
      | (refine wpAny_ite_false (decide_eq_false (by rw [c1]; exact Bool.false_ne_true)) ?_; wp_walk using wpAny_loadPart' hl)
      | (refine wpAny_ite_true (decide_eq_true c2) ?_; wp_walk using wpAny_loadPart' hl))
    exact ⟨_, rfl, hh⟩
def rRep1 (K : PySem.W.Frag) : R2 := fun x y H Q => ∃ l k xs, x = .ref l ∧ y = .int k ∧ SqT K H l xs ∧ xs ≠ [] ∧ -(2 ^ 63) ≤ k ∧ ((k = 1 ∧ Q (.ref l) H) ∨ (k ≤ 0 ∧ ∀ p, H p = none → Q (.ref p) (upd H p (.tup []))))
theorem op_rep1 {X : Cx} : OpR X (binaryOp .Mult) (rRep1 X.K) := by
  intro pins s σ H x y v u Q I rx ry h
  obtain ⟨l, k, xs, rfl, rfl, hT, hne, hlo, q⟩ := h
  cases rx
  obtain ⟨t, rfl⟩ := ry
  obtain ⟨its, rr, ⟨⟨cl, dc, dt, sl⟩, ho, hc, n, hd⟩, _⟩ := I.tuple hT
  simp only at hc hd
  subst hc hd
  have e0 : its.toArray.isEmpty = false := by
    cases its with
    | nil => cases rr; exact absurd rfl hne
    | cons a b => rfl
  have c0 : (decide (k < -(2 ^ 63)) || decide (k ≥ 2 ^ 63)) = false := by
    have : k ≤ 1 := by rcases q with q | q <;> omega
    rw [decide_eq_false (by omega), decide_eq_false (by omega)] <;> rfl
  refine wpAny_binaryOp_repeat_ref (T := "tuple") (U := "int") (by decide) ⟨_, ho, rfl⟩ (fun s' => typeIs_int s' k t) noFill_tuple_mul F.fills_int_mul F.slot_int_rmul repeat_tuple F.slot_int_index.lookup
    (call_meets F.slot_int_rmul (typeIs_int s k t) F.entry_int_rmul (F.args_int_rmul_2 _ _) (int_rmul_tuple k t l its.toArray n dc sl) ⟨ho, rfl, ⟨_, ho, rfl⟩, ?_⟩)
  rcases q with ⟨rfl, q⟩ | ⟨hk, q⟩
  · exact call_meets F.slot_tuple_mul ⟨_, ho, rfl⟩ F.entry_tuple_mul (F.args_tuple_mul_2 _ _) (mul_once l its.toArray n dc sl t) ⟨ho, .ref l, H, I, rfl, q⟩
  · refine call_meets F.slot_tuple_mul ⟨_, ho, rfl⟩ F.entry_tuple_mul (F.args_tuple_mul_2 _ _) (mul_none l its.toArray n dc sl k t c0 (by rw [e0, Bool.false_or]; exact beq_eq_false_iff_ne.mpr (by omega)) (by rw [e0, Bool.or_false]; exact decide_eq_true hk)) ⟨ho, ?_⟩
    refine ⟨.ref s.heap.objs.size, _, I.laid (t' := s.toks) (o := .tup []) (fun b ob q => Heap.get?_push_of_some _ q) (Nat.le_refl _) ?_, rfl, q _ (I.hok.fresh (Nat.le_refl _))⟩
    exact ⟨Nat.zero_le _, [], .nil, IsTup.new _ _⟩
end Rm

namespace Rm
open PySem PySem.Spec PyProof.Rows L2

/-! ## What operators do, by outcome -/
def seqD : D → Sto → Option (List D)
  | .tup ds, _ => some ds
  | .kl ds, _ => some ds
  | .ref n, st => match st[n]? with
    | some (.lst ds) => some ds
    | _ => none
  | _, _ => none
def truthD : D → Sto → Option Bool
  | .non, _ => some false
  | .bl b, _ => some b
  | .int i, _ => some (i != 0)
  | .str x, _ => if x.length ≤ sizeLine then some ((x.length : Int) != 0) else none
  | d, st => (seqD d st).map fun ds => !ds.isEmpty
section
variable {K : PySem.W.Frag} {μ : List Addr} {H : Hp} {st : Sto}
theorem seq_at {d : D} {v : V} {ds : List D} (r : RH K μ H st) (rv : RV K μ H v d) (h : seqD d st = some ds) : ∃ a xs, v = .ref a ∧ RVs K μ H xs ds ∧ (SqL K H a xs ∨ SqT K H a xs) := by
  cases rv with
  | non => cases h
  | bl b => cases h
  | int i => cases h
  | str x => cases h
  | tup hs hv =>
    cases h
    exact ⟨_, _, rfl, hv, .inr hs⟩
  | kl hs hv =>
    cases h
    exact ⟨_, _, rfl, hv, .inl hs.sql⟩
  | ref hn =>
    rename_i n a
    simp only [seqD] at h
    cases hc : st[n]? with
    | none => rw [hc] at h; cases h
    | some c =>
      rw [hc] at h
      have q := r.cell _ _ _ hn hc
      cases c with
      | lst es => cases h; obtain ⟨xs, e, rs⟩ := q; exact ⟨a, xs, rfl, rs, .inl (.inl (.inl e))⟩
      | dct _ es => cases h
theorem seqL_at {n : Nat} {a : Addr} {ds : List D} (r : RH K μ H st) (hn : μ[n]? = some a) (h : seqD (.ref n) st = some ds) : ∃ xs, SqL K H a xs ∧ RVs K μ H xs ds := by
  simp only [seqD] at h
  cases hc : st[n]? with
  | none => rw [hc] at h; cases h
  | some c =>
    rw [hc] at h
    have q := r.cell _ _ _ hn hc
    cases c with
    | lst es => cases h; obtain ⟨xs, e, rs⟩ := q; exact ⟨xs, .inl (.inl e), rs⟩
    | dct _ es => cases h
theorem empty_iff {xs : List V} {ds : List D} (r : RVs K μ H xs ds) : xs.isEmpty = ds.isEmpty := by
  cases r <;> rfl
theorem truth_at {d : D} {v : V} {b : Bool} (r : RH K μ H st) (rv : RV K μ H v d) (h : truthD d st = some b) : TruV K v H b := by
  cases rv with
  | non => cases h; rfl
  | bl b => cases h; rfl
  | int i => cases h; rfl
  | str x =>
    simp only [truthD] at h
    split at h
    · cases h; exact ⟨by assumption, rfl⟩
    · cases h
  | tup hs hv =>
    cases h
    exact .inr (.inl ⟨_, hs, by rw [empty_iff hv]⟩)
  | kl hs hv =>
    cases h
    exact .inl ⟨_, hs.sql, by rw [empty_iff hv]⟩
  | ref hn =>
    rename_i n a
    simp only [truthD] at h
    obtain ⟨ds, hd, rfl⟩ := Option.map_eq_some_iff.mp h
    obtain ⟨a', xs, e, hv, hs⟩ := seq_at r (.ref hn) hd
    cases e
    rcases hs with hs | hs
    · exact .inl ⟨xs, hs, by rw [empty_iff hv]⟩
    · exact .inr (.inl ⟨xs, hs, by rw [empty_iff hv]⟩)
/-- new objects -/
theorem new_tup (r : RH K μ H st) {p : Addr} (hp : H p = none) {xs : List V} {ds : List D} (h : RVs K μ H xs ds) :
    Ext K μ H μ (upd H p (.tup xs)) ∧ RH K μ (upd H p (.tup xs)) st ∧ RV K μ (upd H p (.tup xs)) (.ref p) (.tup ds) :=
  ⟨Ext.alloc r hp, r.alloc hp, .tup (.inl (.inl upd_same)) (h.mono (Ext.alloc r hp))⟩
theorem new_cell (r : RH K μ H st) {p : Addr} (hp : H p = none) {o : HO} {c : Cell} (h : RC K μ (upd H p o) p c) :
    Ext K μ H (μ ++ [p]) (upd H p o) ∧ RH K (μ ++ [p]) (upd H p o) (st ++ [c]) ∧ RV K (μ ++ [p]) (upd H p o) (.ref p) (.ref st.length) := by
  have x : Ext K μ H μ (upd H p o) := Ext.alloc r hp
  have hn : p ∉ μ := r.notIn hp
  refine ⟨Ext.take hp x, (r.alloc hp).push hn h, .ref ?_⟩
  · rw [← r.len, List.getElem?_append_right (Nat.le_refl _)]; simp
theorem new_lst (r : RH K μ H st) {p : Addr} (hp : H p = none) {xs : List V} {ds : List D} (h : RVs K μ H xs ds) :
    Ext K μ H (μ ++ [p]) (upd H p (.lst xs)) ∧ RH K (μ ++ [p]) (upd H p (.lst xs)) (st ++ [.lst ds]) ∧ RV K (μ ++ [p]) (upd H p (.lst xs)) (.ref p) (.ref st.length) :=
  new_cell r hp ⟨xs, upd_same, h.mono (Ext.alloc r hp)⟩
/-- a list is changed -/
theorem put_lst (r : RH K μ H st) {n : Nat} {a : Addr} {xs ys : List V} {ds es : List D} (hn : μ[n]? = some a) (hc : st[n]? = some (.lst ds)) (h : H a = some (.lst xs)) (hv : RVs K μ H ys es) :
    Ext K μ H μ (upd H a (.lst ys)) ∧ RH K μ (upd H a (.lst ys)) (st.set n (.lst es)) := by
  have x : Ext K μ H μ (upd H a (.lst ys)) := Ext.write r hn ⟨_, h, (by intro _ z; cases z), (by intro _ _ z; cases z)⟩
  exact ⟨x, r.write hn x ⟨ys, upd_same, hv.mono x⟩⟩
theorem lst_at {n : Nat} {v : V} {ds : List D} (r : RH K μ H st) (rv : RV K μ H v (.ref n)) (h : st[n]? = some (.lst ds)) : ∃ a xs, v = .ref a ∧ μ[n]? = some a ∧ H a = some (.lst xs) ∧ RVs K μ H xs ds := by
  cases rv with
  | ref hn =>
    obtain ⟨xs, e, rs⟩ := r.cell _ _ _ hn h
    exact ⟨_, xs, rfl, hn, e, rs⟩
end
section
variable {X : Cx} {r r' : R2}
theorem opr_or {f : Value → Value → Sem Value} (h : OpR X f r) (h' : OpR X f r') : OpR X f (fun x y H Q => r x y H Q ∨ r' x y H Q) := by
  intro pins s σ H x y v u Q I rx ry q
  rcases q with q | q
  · exact h pins s σ H x y v u Q I rx ry q
  · exact h' pins s σ H x y v u Q I rx ry q
theorem calr_or {f : Value} {r r' : List V → Hp → VK → Prop} (h : CallR X f r) (h' : CallR X f r') : CallR X f (fun x H Q => r x H Q ∨ r' x H Q) := by
  intro pins s σ H x v Q I rx q
  rcases q with q | q
  · exact h pins s σ H x v Q I rx q
  · exact h' pins s σ H x v Q I rx q
end

def addD : D → D → Sto → Option (D × Sto)
  | .int i, .int j, st => some (.int (i + j), st)
  | .str x, .str y, st => if x.length + y.length ≤ sizeLine then some (.str (x ++ y), st) else none
  | .tup ds, .tup es, st => if ds.length + es.length ≤ sizeLine then some (.tup (ds ++ es), st) else none
  | .ref n, .ref m, st => match st[n]?, st[m]? with
    | some (.lst ds), some (.lst es) => if ds.length + es.length ≤ sizeLine then some (.ref st.length, st ++ [.lst (ds ++ es)]) else none
    | _, _ => none
  | _, _, _ => none
def rAdd (K : PySem.W.Frag) : R2 := fun x y H Q => rI0 (fun i j => .int (i + j)) x y H Q ∨ (∃ i j, x = .str i ∧ y = .str j ∧ i.length + j.length ≤ sizeLine ∧ Q (.str (i ++ j)) H) ∨ rCatA K x y H Q ∨ rCat x y H Q
theorem opAdd {X : Cx} : OpR X (binaryOp .Add) (rAdd X.K) := opr_or op_add (opr_or op_add_str (opr_or op_catA op_cat))
theorem dAdd {K : PySem.W.Frag} : OpD K (rAdd K) addD := by
  intro μ H st x y dx dy Q r rx ry h
  cases rx with
  | int i =>
    cases ry with
    | int j => exact .inl ⟨i, j, rfl, rfl, h _ _ _ .refl r (.int _)⟩
    | _ => exact h.elim
  | str i =>
    cases ry with
    | str j =>
      simp only [addD] at h
      split at h
      · exact .inr (.inl ⟨i, j, rfl, rfl, by assumption, h _ _ _ .refl r (.str _)⟩)
      · exact h.elim
    | _ => exact h.elim
  | tup hs hv =>
    cases ry with
    | tup ht hw =>
      rename_i a xs ds b ys es
      simp only [addD] at h
      split at h
      · refine .inr (.inr (.inl ⟨a, b, xs, ys, rfl, rfl, hs, ht, by rw [hv.length, hw.length]; assumption, fun e => ?_, fun e1 e2 => ?_, fun e1 e2 p hp => ?_⟩))
        · subst e
          cases hv
          exact h _ _ _ .refl r (.tup ht hw)
        · subst e2
          cases hw
          rw [List.append_nil] at h
          exact h _ _ _ .refl r (.tup hs hv)
        · obtain ⟨x1, r1, v1⟩ := new_tup r hp (hv.append hw)
          exact h _ _ _ x1 r1 v1
      · exact h.elim
    | _ => exact h.elim
  | ref hn =>
    rename_i n a
    cases ry with
    | ref hm =>
      rename_i m b
      simp only [addD] at h
      split at h
      · rename_i ds es h1 h2
        split at h
        · obtain ⟨xs, e1, rs1⟩ := r.cell _ _ _ hn h1
          obtain ⟨ys, e2, rs2⟩ := r.cell _ _ _ hm h2
          refine .inr (.inr (.inr ⟨a, b, xs, ys, rfl, rfl, e1, e2, by rw [rs1.length, rs2.length]; assumption, fun p hp => ?_⟩))
          obtain ⟨x1, r1, v1⟩ := new_lst r hp (rs1.append rs2)
          exact h _ _ _ x1 r1 v1
        · exact h.elim
      · exact h.elim
    | _ => exact h.elim
  | _ => exact h.elim
def i2 (g : Int → Int → Option D) : D → D → Sto → Option (D × Sto)
  | .int i, .int j, st => (g i j).map fun d => (d, st)
  | _, _, _ => none
theorem dI {K : PySem.W.Frag} {g : Int → Int → Option D} {C : Int → Int → Prop} {f : Int → Int → V} (h : ∀ i j d, g i j = some d → C i j ∧ ∀ μ H, RV K μ H (f i j) d) : OpD K (rI C f) (i2 g) := by
  intro μ H st x y dx dy Q r rx ry q
  cases rx with
  | int i =>
    cases ry with
    | int j =>
      cases hg : g i j with
      | none => simp [i2, hg, OSat] at q
      | some d =>
        simp [i2, hg, OSat] at q
        obtain ⟨h1, h2⟩ := h i j d hg
        exact ⟨i, j, rfl, rfl, h1, q _ _ _ .refl r (h2 _ _)⟩
    | _ => exact q.elim
  | _ => exact q.elim
theorem dI0 {K : PySem.W.Frag} {g : Int → Int → D} {f : Int → Int → V} (h : ∀ i j μ H, RV K μ H (f i j) (g i j)) : OpD K (rI0 f) (i2 fun i j => some (g i j)) := by
  intro μ H st x y dx dy Q r rx ry q
  cases rx with
  | int i =>
    cases ry with
    | int j => exact ⟨i, j, rfl, rfl, q _ _ _ .refl r (h i j _ _)⟩
    | _ => exact q.elim
  | _ => exact q.elim
def subD := i2 fun i j => some (.int (i - j))
theorem dSub {K : PySem.W.Frag} : OpD K (rI0 fun i j => .int (i - j)) subD := dI0 fun _ _ _ _ => .int _
def modD := i2 fun i j => if 0 < j then some (.int (i % j)) else none
theorem dMod {K : PySem.W.Frag} : OpD K (rI (fun _ j => 0 < j) fun i j => .int (i % j)) modD := dI fun i j d h => by
  split at h
  · cases h; exact ⟨by assumption, fun _ _ => .int _⟩
  · cases h
def fdivD := i2 fun i j => if 0 < j ∧ j < 1073741824 then some (.int (i / j)) else none
theorem dFdiv {K : PySem.W.Frag} : OpD K (rI CDiv fun i j => .int (i / j)) fdivD := dI fun i j d h => by
  split at h
  · rename_i hc; cases h; exact ⟨hc, fun _ _ => .int _⟩
  · cases h
def powD := i2 fun i j => if 0 ≤ j ∧ j ≤ 1000000 ∧ i.natAbs < 2 ^ 64 then some (.int (i ^ j.toNat)) else none
theorem dPow {K : PySem.W.Frag} : OpD K (rI CPow fun i j => .int (i ^ j.toNat)) powD := dI fun i j d h => by
  split at h
  · rename_i hc; cases h; exact ⟨hc, fun _ _ => .int _⟩
  · cases h
def ltD := i2 fun i j => some (.bl (decide (i < j)))
theorem dLt {K : PySem.W.Frag} : OpD K (rI0 fun i j => .bl (decide (i < j))) ltD := dI0 fun _ _ _ _ => .bl _
def leD := i2 fun i j => some (.bl (decide (i ≤ j)))
theorem dLe {K : PySem.W.Frag} : OpD K (rI0 fun i j => .bl (decide (i ≤ j))) leD := dI0 fun _ _ _ _ => .bl _
def gtD := i2 fun i j => some (.bl (decide (j < i)))
theorem dGt {K : PySem.W.Frag} : OpD K (rI0 fun i j => .bl (decide (j < i))) gtD := dI0 fun _ _ _ _ => .bl _
def geD := i2 fun i j => some (.bl (decide (j ≤ i)))
theorem dGe {K : PySem.W.Frag} : OpD K (rI0 fun i j => .bl (decide (j ≤ i))) geD := dI0 fun _ _ _ _ => .bl _
/-- products: of ints, of a list and an int -/
def mulD : D → D → Sto → Option (D × Sto)
  | .int i, .int j, st => if (-(2 ^ 64) < i ∧ i < 2 ^ 64) ∨ (-(2 ^ 64) < j ∧ j < 2 ^ 64) then some (.int (i * j), st) else none
  | .ref n, .int k, st => match st[n]? with
    | some (.lst ds) => if -(2 ^ 63) ≤ k ∧ k < 2 ^ 63 ∧ ds.length * k.toNat ≤ sizeLine then some (.ref st.length, st ++ [.lst (List.replicate k.toNat ds).flatten]) else none
    | _ => none
  | .tup ds, .int k, st => if ds ≠ [] ∧ -(2 ^ 63) ≤ k ∧ k ≤ 1000 ∧ ds.length ≤ 1000 then some (.tup (List.replicate k.toNat ds).flatten, st) else none
  | _, _, _ => none
def rMul (K : PySem.W.Frag) : R2 := fun x y H Q => rI CMul (fun i j => .int (i * j)) x y H Q ∨ rRep x y H Q ∨ rRepT K x y H Q ∨ rRep1 K x y H Q
theorem opMul {X : Cx} : OpR X (binaryOp .Mult) (rMul X.K) := opr_or op_mul (opr_or op_rep (opr_or op_repT op_rep1))
theorem RVs.flat {K : PySem.W.Frag} {μ : List Addr} {H : Hp} {xs : List V} {ds : List D} (h : RVs K μ H xs ds) : ∀ k, RVs K μ H (List.replicate k xs).flatten (List.replicate k ds).flatten
  | 0 => .nil
  | k + 1 => by
    rw [List.replicate_succ, List.replicate_succ, List.flatten_cons, List.flatten_cons]
    exact h.append (RVs.flat h k)
theorem dMul {K : PySem.W.Frag} : OpD K (rMul K) mulD := by
  intro μ H st x y dx dy Q r rx ry q
  cases rx with
  | int i =>
    cases ry with
    | int j =>
      simp only [mulD] at q
      split at q
      · exact .inl ⟨i, j, rfl, rfl, by assumption, q _ _ _ .refl r (.int _)⟩
      · exact q.elim
    | _ => exact q.elim
  | ref hn =>
    rename_i n a
    cases ry with
    | int k =>
      simp only [mulD] at q
      split at q
      · rename_i ds h1
        split at q
        · rename_i hc
          obtain ⟨xs, e1, rs1⟩ := r.cell _ _ _ hn h1
          refine .inr (.inl ⟨a, k, xs, rfl, rfl, e1, hc.1, hc.2.1, by rw [rs1.length]; exact hc.2.2, fun p hp => ?_⟩)
          obtain ⟨x1, r1, v1⟩ := new_lst r hp (rs1.flat k.toNat)
          exact q _ _ _ x1 r1 v1
        · exact q.elim
      · exact q.elim
    | _ => exact q.elim
  | tup hs hv =>
    cases ry with
    | int k =>
      rename_i a xs ds
      simp only [mulD] at q
      split at q
      · rename_i hc
        have hl := hv.length
        have ne : xs ≠ [] := fun e => by subst e; cases hv; exact hc.1 rfl
        by_cases h2 : 2 ≤ k
        · refine .inr (.inr (.inl ⟨a, k, xs, rfl, rfl, hs, ne, h2, hc.2.2.1, by rw [hl]; exact hc.2.2.2, fun p hp => ?_⟩))
          obtain ⟨x1, r1, v1⟩ := new_tup r hp (hv.flat k.toNat)
          exact q _ _ _ x1 r1 v1
        · by_cases h1 : k = 1
          · subst h1
            refine .inr (.inr (.inr ⟨a, 1, xs, rfl, rfl, hs, ne, hc.2.1, .inl ⟨rfl, ?_⟩⟩))
            exact q _ _ _ .refl r (by rw [show (List.replicate (1 : Int).toNat ds).flatten = ds by simp]; exact .tup hs hv)
          · refine .inr (.inr (.inr ⟨a, k, xs, rfl, rfl, hs, ne, hc.2.1, .inr ⟨by omega, fun p hp => ?_⟩⟩))
            obtain ⟨x1, r1, v1⟩ := new_tup r hp (hv.flat k.toNat)
            rw [show (List.replicate k.toNat xs).flatten = [] by rw [show k.toNat = 0 by omega]; rfl] at x1 r1 v1
            exact q _ _ _ x1 r1 v1
      · exact q.elim
    | _ => exact q.elim
  | _ => exact q.elim
/-! ### data, for == and repr -/
def mapO {α β : Type} (f : α → Option β) : List α → Option (List β)
  | [] => some []
  | d :: ds => (f d).bind fun p => (mapO f ds).map (p :: ·)
def toPy (st : Sto) : Nat → D → Option PyData
  | 0, _ => none
  | n + 1, d => match d with
    | .non => some .none
    | .bl b => some (.bool b)
    | .int i => some (.int i)
    | .str x => some (.str x)
    | .tup ds => (mapO (toPy st n) ds).map .tuple
    | .kl ds => (mapO (toPy st n) ds).map .list
    | .ref k => match st[k]? with
      | some (.lst ds) => (mapO (toPy st n) ds).map .list
      | some (.dct _ kvs) => (mapO (fun p => (toPy st n p.1).bind fun a => (toPy st n p.2).map (a, ·)) kvs).map .dict
      | none => none
theorem dps_of {K : PySem.W.Frag} {μ : List Addr} {H : Hp} {f : D → Option PyData} (h : ∀ d p v, f d = some p → p.hasDict = false → RV K μ H v d → Dp K H v p) : ∀ {ds : List D} {ps : List PyData} {vs : List V}, mapO f ds = some ps → PyData.hasDictAll ps = false → RVs K μ H vs ds → DpAll K H vs ps
  | [], ps, vs, e, _, r => by cases e; cases r; exact .nil
  | d :: ds, ps, vs, e, c, r => by
    simp only [mapO] at e
    obtain ⟨p, hp, e⟩ := Option.bind_eq_some_iff.mp e
    obtain ⟨qs, hq, rfl⟩ := Option.map_eq_some_iff.mp e
    cases r with
    | cons r1 r2 =>
      have c2 := Bool.or_eq_false_iff.mp (show (p.hasDict || PyData.hasDictAll qs) = false by simpa [PyData.hasDictAll] using c)
      exact .cons (h d p _ hp c2.1 r1) (dps_of h hq c2.2 r2)
theorem dp_of {K : PySem.W.Frag} {μ : List Addr} {H : Hp} {st : Sto} (r : RH K μ H st) : ∀ (n : Nat) (d : D) (p : PyData) (v : V), toPy st n d = some p → p.hasDict = false → RV K μ H v d → Dp K H v p := by
  intro n
  induction n with
  | zero => intro d p v h; cases h
  | succ n ih =>
    intro d p v h c rv
    cases rv with
    | non => cases h; exact .non
    | bl b => cases h; exact .bl b
    | int b => cases h; exact .int b
    | str b => cases h; exact .str b
    | tup hs hv =>
      simp only [toPy] at h
      obtain ⟨ps, hp, rfl⟩ := Option.map_eq_some_iff.mp h
      exact .tup hs (dps_of ih hp (by simpa [PyData.hasDict] using c) hv)
    | kl hs hv =>
      simp only [toPy] at h
      obtain ⟨ps, hp, rfl⟩ := Option.map_eq_some_iff.mp h
      exact .lst hs.sql (dps_of ih hp (by simpa [PyData.hasDict] using c) hv)
    | ref hn =>
      simp only [toPy] at h
      split at h
      · rename_i ds hc
        obtain ⟨ps, hp, rfl⟩ := Option.map_eq_some_iff.mp h
        obtain ⟨xs, e, rs⟩ := r.cell _ _ _ hn hc
        exact .lst (.inl (.inl e)) (dps_of ih hp (by simpa [PyData.hasDict] using c) rs)
      · obtain ⟨ps, hp, rfl⟩ := Option.map_eq_some_iff.mp h
        simp [PyData.hasDict] at c
      · cases h
/-- x == y, where it is known -/
def eqD (x y : D) (st : Sto) : Option Bool := match x, y with
  | .str a, .str b => some (decide (a = b))
  | x, y => (toPy st 60 x).bind fun p => (toPy st 60 y).bind fun q => if SeqAt.shaped p = true ∧ SeqAt.shaped q = true then some (PyData.eqv p q) else none
def eqO (x y : D) (st : Sto) : Option (D × Sto) := (eqD x y st).map fun b => (.bl b, st)
def neO (x y : D) (st : Sto) : Option (D × Sto) := (eqD x y st).map fun b => (.bl (!b), st)
def rEqA (K : PySem.W.Frag) : R2 := fun x y H Q => rEq x y H Q ∨ rEqD K x y H Q
def rNeA (K : PySem.W.Frag) : R2 := fun x y H Q => rNe x y H Q ∨ rNeD K x y H Q
theorem opEq {X : Cx} (hu : X.A.units + 64 < cLine) : OpR X (compareOp .Eq) (rEqA X.K) := opr_or op_eq (op_eqD hu)
theorem opNe {X : Cx} (hu : X.A.units + 64 < cLine) : OpR X (compareOp .NotEq) (rNeA X.K) := opr_or op_ne (op_neD hu)
theorem eq_core {K : PySem.W.Frag} {μ : List Addr} {H : Hp} {st : Sto} {x y : V} {dx dy : D} {b : Bool} (r : RH K μ H st) (rx : RV K μ H x dx) (ry : RV K μ H y dy) (h : eqD dx dy st = some b) :
    (scal x y = true ∧ decide (x = y) = b) ∨ ∃ p q, Dp K H x p ∧ Dp K H y q ∧ SeqAt.shaped p = true ∧ SeqAt.shaped q = true ∧ PyData.eqv p q = b := by
  have gen : ((toPy st 60 dx).bind fun p => (toPy st 60 dy).bind fun q => if SeqAt.shaped p = true ∧ SeqAt.shaped q = true then some (PyData.eqv p q) else none) = some b →
      ∃ p q, Dp K H x p ∧ Dp K H y q ∧ SeqAt.shaped p = true ∧ SeqAt.shaped q = true ∧ PyData.eqv p q = b := fun h => by
    obtain ⟨p, hp, h⟩ := Option.bind_eq_some_iff.mp h
    obtain ⟨q, hq, h⟩ := Option.bind_eq_some_iff.mp h
    split at h
    · rename_i hc
      cases h
      exact ⟨p, q, dp_of r 60 _ _ _ hp (PyData.hasDict_of_canLay _ (SeqAt.canLay_of_shaped hc.1)) rx, dp_of r 60 _ _ _ hq (PyData.hasDict_of_canLay _ (SeqAt.canLay_of_shaped hc.2)) ry, hc.1, hc.2, rfl⟩
    · cases h
  cases rx with
  | str i =>
    cases ry with
    | str j =>
      simp only [eqD] at h
      cases h
      refine .inl ⟨rfl, ?_⟩
      by_cases e : i = j
      · subst e; simp
      · rw [decide_eq_false e, decide_eq_false (fun z => e (V.str.inj z))]
    | _ => exact .inr (gen h)
  | _ => exact .inr (gen (by first | exact h | (cases ry <;> exact h)))
theorem dEq {K : PySem.W.Frag} : OpD K (rEqA K) eqO := by
  intro μ H st x y dx dy Q r rx ry q
  unfold eqO at q
  cases h : eqD dx dy st with
  | none => rw [h] at q; exact q.elim
  | some b =>
    rw [h] at q
    have q' : Q (.bl b) H := q _ _ _ .refl r (.bl b)
    rcases eq_core r rx ry h with ⟨h1, h2⟩ | ⟨p, e, h1, h2, h3, h4, h5⟩
    · exact .inl ⟨h1, by rw [h2]; exact q'⟩
    · exact .inr ⟨p, e, h1, h2, h3, h4, by rw [h5]; exact q'⟩
theorem dNe {K : PySem.W.Frag} : OpD K (rNeA K) neO := by
  intro μ H st x y dx dy Q r rx ry q
  unfold neO at q
  cases h : eqD dx dy st with
  | none => rw [h] at q; exact q.elim
  | some b =>
    rw [h] at q
    have q' : Q (.bl (!b)) H := q _ _ _ .refl r (.bl _)
    rcases eq_core r rx ry h with ⟨h1, h2⟩ | ⟨p, e, h1, h2, h3, h4, h5⟩
    · exact .inl ⟨h1, by rw [h2]; exact q'⟩
    · exact .inr ⟨p, e, h1, h2, h3, h4, by rw [h5]; exact q'⟩
/-- x is None -/
def isNonO (neg : Bool) (x y : D) (st : Sto) : Option (D × Sto) := match y with
  | .non => some (.bl (match x with | .non => !neg | _ => neg), st)
  | _ => none
theorem non_iff {K : PySem.W.Frag} {μ : List Addr} {H : Hp} {x : V} {dx : D} (rx : RV K μ H x dx) : decide (x = .non) = (match dx with | .non => true | _ => false) := by
  cases rx <;> simp
theorem dIsN {K : PySem.W.Frag} : OpD K (fun x y H Q => y = .non ∧ Q (.bl (decide (x = .non))) H) (isNonO false) := by
  intro μ H st x y dx dy Q r rx ry q
  cases ry with
  | non =>
    refine ⟨rfl, ?_⟩
    rw [non_iff rx]
    have q' := q (.bl _) _ _ .refl r (.bl _)
    cases rx <;> exact q'
  | _ => exact q.elim
theorem dNotN {K : PySem.W.Frag} : OpD K (fun x y H Q => y = .non ∧ Q (.bl (!decide (x = .non))) H) (isNonO true) := by
  intro μ H st x y dx dy Q r rx ry q
  cases ry with
  | non =>
    refine ⟨rfl, ?_⟩
    rw [non_iff rx]
    have q' := q (.bl _) _ _ .refl r (.bl _)
    cases rx <;> exact q'
  | _ => exact q.elim
/-- an item -/
def ixD : D → D → Sto → Option (D × Sto)
  | .str z, .int i, st => if z.length ≤ sizeLine then (atI z.cps.toList i).map fun c => (.str ⟨#[c]⟩, st) else none
  | d, .int i, st => (seqD d st).bind fun ds => (atI ds i).map fun x => (x, st)
  | _, _, _ => none
theorem at_rv {K : PySem.W.Frag} {μ : List Addr} {H : Hp} {xs : List V} {ds : List D} {i : Int} {d : D} (r : RVs K μ H xs ds) (h : atI ds i = some d) : ∃ v, atI xs i = some v ∧ RV K μ H v d := by
  unfold atI at h ⊢
  rw [r.length]
  obtain ⟨j, hj, h⟩ := Option.bind_eq_some_iff.mp h
  obtain ⟨v, hv, rv⟩ := r.get h
  exact ⟨v, by rw [hj]; exact hv, rv⟩
theorem dIx {K : PySem.W.Frag} : OpD K (rIx K) ixD := by
  intro μ H st x y dx dy Q r rx ry q
  have seqs : ∀ i : Int, y = .int i → OSat ((seqD dx st).bind fun ds => (atI ds i).map fun x => (x, st)) (fun d st' => ∀ v μ' H', Ext K μ H μ' H' → RH K μ' H' st' → RV K μ' H' v d → Q v H') → rIx K x y H Q := by
    intro i ey q
    cases h : seqD dx st with
    | none => rw [h] at q; exact q.elim
    | some ds =>
      rw [h] at q
      obtain ⟨a, xs, rfl, rs, hs⟩ := seq_at r rx h
      cases h2 : atI ds i with
      | none => simp [h2, OSat] at q
      | some d =>
        simp [h2, OSat] at q
        obtain ⟨v, hv, rv⟩ := at_rv rs h2
        rcases hs with hs | hs
        · exact .inl ⟨a, xs, i, v, rfl, ey, hs, hv, q _ _ _ .refl r rv⟩
        · exact .inr (.inl ⟨a, xs, i, v, rfl, ey, hs, hv, q _ _ _ .refl r rv⟩)
  cases ry with
  | int i =>
    cases rx with
    | str z =>
      simp only [ixD] at q
      split at q
      · rename_i hz
        cases h2 : atI z.cps.toList i with
        | none => rw [h2] at q; exact q.elim
        | some c =>
          rw [h2] at q
          exact .inr (.inr ⟨z, i, c, rfl, rfl, hz, h2, q _ _ _ .refl r (.str _)⟩)
      · exact q.elim
    | _ => exact seqs i rfl q
  | _ => cases rx <;> exact q.elim
end Rm

namespace Rm
open PySem PySem.Spec PyProof.Rows L2
/-! ### x in y -/
def rInT (K : PySem.W.Frag) (neg : Bool) : R2 := fun x y H Q => ∃ d ds, Dp K H x d ∧ Dp K H y (.tuple ds) ∧ SeqAt.shaped d = true ∧ SeqAt.shaped (.tuple ds) = true ∧ Q (.bl (if neg then !ds.any (fun z => PyData.eqv z d) else ds.any fun z => PyData.eqv z d)) H
theorem op_inT {X : Cx} (hu : X.A.units + 65 < cLine) : OpR X (compareOp .In) (rInT X.K false) := by
  intro pins s σ H x y v u Q I rx ry h
  obtain ⟨d, ds, hd, he, sd, se, q⟩ := h
  obtain ⟨as, r1⟩ := Dp.reads I d x v hd rx
  obtain ⟨bs, r2⟩ := Dp.reads I (.tuple ds) y u he ry
  exact SeqAt.in_tuple_reads r2 r1 (SeqAt.canLay_of_shaped se) (SeqAt.canLay_of_shaped sd) (room_in_shaped sd hu) ⟨.bl _, H, I, rfl, q⟩
theorem op_notInT {X : Cx} (hu : X.A.units + 65 < cLine) : OpR X (compareOp .NotIn) (rInT X.K true) := by
  intro pins s σ H x y v u Q I rx ry h
  obtain ⟨d, ds, hd, he, sd, se, q⟩ := h
  obtain ⟨as, r1⟩ := Dp.reads I d x v hd rx
  obtain ⟨bs, r2⟩ := Dp.reads I (.tuple ds) y u he ry
  exact SeqAt.notIn_tuple_reads r2 r1 (SeqAt.canLay_of_shaped se) (SeqAt.canLay_of_shaped sd) (room_in_shaped sd hu) ⟨.bl _, H, I, rfl, q⟩
def inD (x y : D) (st : Sto) : Option Bool := match x, y with
  | .str a, .str b => some (!(Builtin.Str.occurrences b a 0 b.length 1).isEmpty)
  | x, y => (toPy st 60 x).bind fun p => (toPy st 60 y).bind fun q => if SeqAt.shaped p = true ∧ SeqAt.shaped q = true then (match q with
    | .list ds => some (ds.any fun z => PyData.eqv z p)
    | .tuple ds => some (ds.any fun z => PyData.eqv z p)
    | _ => none) else none
def inO (x y : D) (st : Sto) : Option (D × Sto) := (inD x y st).map fun b => (.bl b, st)
def notInO (x y : D) (st : Sto) : Option (D × Sto) := (inD x y st).map fun b => (.bl (!b), st)
def rInA (K : PySem.W.Frag) : R2 := fun x y H Q => (∃ i j, x = .str i ∧ y = .str j ∧ Q (.bl (!(Builtin.Str.occurrences j i 0 j.length 1).isEmpty)) H) ∨ rInD K x y H Q ∨ rInT K false x y H Q
def rNotInA (K : PySem.W.Frag) : R2 := fun x y H Q => (∃ i j, x = .str i ∧ y = .str j ∧ Q (.bl (!(!(Builtin.Str.occurrences j i 0 j.length 1).isEmpty))) H) ∨ rNotInD K x y H Q ∨ rInT K true x y H Q
theorem opIn {X : Cx} (hu : X.A.units + 65 < cLine) : OpR X (compareOp .In) (rInA X.K) := opr_or op_in_str (opr_or (op_inD hu) (op_inT hu))
theorem opNotIn {X : Cx} (hu : X.A.units + 65 < cLine) : OpR X (compareOp .NotIn) (rNotInA X.K) := opr_or op_notin_str (opr_or (op_notInD hu) (op_notInT hu))
theorem in_core {K : PySem.W.Frag} {μ : List Addr} {H : Hp} {st : Sto} {x y : V} {dx dy : D} {b : Bool} (r : RH K μ H st) (rx : RV K μ H x dx) (ry : RV K μ H y dy) (h : inD dx dy st = some b) :
    (∃ i j, x = .str i ∧ y = .str j ∧ (!(Builtin.Str.occurrences j i 0 j.length 1).isEmpty) = b) ∨ ∃ p ds, Dp K H x p ∧ SeqAt.shaped p = true ∧ (ds.any fun z => PyData.eqv z p) = b ∧
      ((Dp K H y (.list ds) ∧ SeqAt.shaped (.list ds) = true) ∨ (Dp K H y (.tuple ds) ∧ SeqAt.shaped (.tuple ds) = true)) := by
  have gen : ((toPy st 60 dx).bind fun p => (toPy st 60 dy).bind fun q => if SeqAt.shaped p = true ∧ SeqAt.shaped q = true then (match q with
    | .list ds => some (ds.any fun z => PyData.eqv z p)
    | .tuple ds => some (ds.any fun z => PyData.eqv z p)
    | _ => none) else none) = some b → ∃ p ds, Dp K H x p ∧ SeqAt.shaped p = true ∧ (ds.any fun z => PyData.eqv z p) = b ∧
      ((Dp K H y (.list ds) ∧ SeqAt.shaped (.list ds) = true) ∨ (Dp K H y (.tuple ds) ∧ SeqAt.shaped (.tuple ds) = true)) := fun h => by
    obtain ⟨p, hp, h⟩ := Option.bind_eq_some_iff.mp h
    obtain ⟨q, hq, h⟩ := Option.bind_eq_some_iff.mp h
    split at h
    · rename_i hc
      have d1 := dp_of r 60 _ _ _ hp (PyData.hasDict_of_canLay _ (SeqAt.canLay_of_shaped hc.1)) rx
      have d2 := dp_of r 60 _ _ _ hq (PyData.hasDict_of_canLay _ (SeqAt.canLay_of_shaped hc.2)) ry
      split at h
      · cases h; exact ⟨p, _, d1, hc.1, rfl, .inl ⟨d2, hc.2⟩⟩
      · cases h; exact ⟨p, _, d1, hc.1, rfl, .inr ⟨d2, hc.2⟩⟩
      · cases h
    · cases h
  cases rx with
  | str i =>
    cases ry with
    | str j =>
      simp only [inD] at h
      cases h
      exact .inl ⟨i, j, rfl, rfl, rfl⟩
    | _ => exact .inr (gen h)
  | _ => exact .inr (gen (by first | exact h | (cases ry <;> exact h)))
theorem dIn {K : PySem.W.Frag} : OpD K (rInA K) inO := by
  intro μ H st x y dx dy Q r rx ry q
  unfold inO at q
  cases h : inD dx dy st with
  | none => rw [h] at q; exact q.elim
  | some b =>
    rw [h] at q
    have q' : Q (.bl b) H := q _ _ _ .refl r (.bl b)
    rcases in_core r rx ry h with ⟨i, j, e1, e2, e⟩ | ⟨p, ds, h1, h2, e, h3 | h3⟩
    · exact .inl ⟨i, j, e1, e2, by rw [e]; exact q'⟩
    · exact .inr (.inl ⟨p, ds, h1, h3.1, h2, h3.2, by rw [e]; exact q'⟩)
    · exact .inr (.inr ⟨p, ds, h1, h3.1, h2, h3.2, by rw [e]; exact q'⟩)
theorem dNotIn {K : PySem.W.Frag} : OpD K (rNotInA K) notInO := by
  intro μ H st x y dx dy Q r rx ry q
  unfold notInO at q
  cases h : inD dx dy st with
  | none => rw [h] at q; exact q.elim
  | some b =>
    rw [h] at q
    have q' : Q (.bl (!b)) H := q _ _ _ .refl r (.bl _)
    rcases in_core r rx ry h with ⟨i, j, e1, e2, e⟩ | ⟨p, ds, h1, h2, e, h3 | h3⟩
    · exact .inl ⟨i, j, e1, e2, by rw [e]; exact q'⟩
    · exact .inr (.inl ⟨p, ds, h1, h3.1, h2, h3.2, by rw [e]; exact q'⟩)
    · exact .inr (.inr ⟨p, ds, h1, h3.1, h2, h3.2, by
        show Q (.bl (!ds.any fun z => PyData.eqv z p)) H
        rw [e]; exact q'⟩)

section
variable {X : Cx} {W : WX}
/-! ### tests -/
def tb (f : F) : FT := fun ρ st => (f ρ st).bd fun d s => match truthD d s with
  | some b => .ok b s
  | none => .bad
def tbB (f : F) : FT := fun ρ st => (f ρ st).bd fun d s => match d with
  | .bl b => .ok b s
  | _ => .bad
def tAnd2 (f g : FT) : FT := fun ρ st => (f ρ st).bd fun b s => if b = true then g ρ s else .ok false s
def tOr2 (f g : FT) : FT := fun ρ st => (f ρ st).bd fun b s => if b = true then .ok true s else g ρ s
def tNot1 (f : FT) : FT := fun ρ st => (f ρ st).bd fun b s => .ok (!b) s
theorem st_truth {e : Expr} {f : F} (h : SE X W e f) (ht : ∀ whole : Sem Value, PySem.isTrue e X.env whole = (do let v ← whole; standAt e.pos; holding [v] (truthy v)) := by intro _; rfl) : ST X W e (tb f) :=
  .mk' (pt_truth h.run ht) fun σ H Q μ ρ st r re q => tE.go r re (R.sat_bd.mp q) fun d s v μ' H' p x r' re' rv => by
    cases ht : truthD d s with
    | none => rw [ht] at p; exact p.elim
    | some b => rw [ht] at p; exact ⟨b, truth_at r' rv ht, p μ' H' x r'⟩
theorem test_conv {t : TE} {f : F} (h : ∀ σ H Q μ ρ st, RH X.K μ H st → RE X.K μ H σ ρ → (f ρ st).Sat (Eok X μ H Q) (Eex X W μ H σ) → t σ H Q) :
    ∀ σ H Q μ ρ st, RH X.K μ H st → RE X.K μ H σ ρ → (tbB f ρ st).Sat (Tok X μ H Q) (Eex X W μ H σ) → tTest t σ H Q := by
  intro σ H Q μ ρ st r re q
  refine h σ H _ μ ρ st r re ((R.sat_bd.mp q).mono (fun d s p v μ' H' x r' rv => ?_) fun _ _ z => z)
  cases rv with
  | bl b => exact ⟨b, rfl, p μ' H' x r'⟩
  | _ => exact p.elim
theorem st_cmp {o : CmpOp} {r : R2} {op} {a b : Expr} {fa fb : F} {pos : Pos} (hr : OpR X (compareOp o) r) (hd : OpD X.K r op) (ha : SE X W a fa) (hb : SE X W b fb) (hm : behindInMarks o b = false) : ST X W (.Compare a [o] [b] pos) (tbB (e2 op fa fb)) :=
  .mk' (pt_cmpR hr ha.run hb.run hm) (test_conv (two_conv hd))
/-- a < b < c -/
def e3c (op op' : D → D → Sto → Option (D × Sto)) (fa fb fc : F) : F := fun ρ st => (fa ρ st).bd fun x s1 => (fb ρ s1).bd fun y s2 => (R.of (op x y s2)).bd fun z s3 => match z with
  | .bl true => (fc ρ s3).bd fun w s4 => R.of (op' y w s4)
  | .bl false => .ok (.bl false) s3
  | _ => .bad
theorem chain_conv {r r' : R2} {op op'} {a b c : F} (hd : OpD X.K r op) (hd' : OpD X.K r' op') : ∀ σ H Q μ ρ st, RH X.K μ H st → RE X.K μ H σ ρ → (e3c op op' a b c ρ st).Sat (Eok X μ H Q) (Eex X W μ H σ) → tChain r r' (tE X W a) (tE X W b) (tE X W c) σ H Q := by
  intro σ H Q μ ρ st rh re q
  refine tE.go rh re (R.sat_bd.mp q) fun dx s x μ1 H1 p1 x1 r1 re1 v1 => ?_
  refine tE.go r1 re1 ((R.sat_bd.mp p1).mono (fun dy s2 h => h) fun _ _ z => z.mono x1) fun dy s2 y μ2 H2 p2 x2 r2 re2 v2 => ?_
  refine hd μ2 H2 s2 x y dx dy _ r2 (v1.mono x2) v2 ?_
  have x12 := x1.trans x2
  have p3 := R.sat_bd.mp p2
  cases ho : op dx dy s2 with
  | none => rw [ho] at p3; exact p3.elim
  | some ds =>
    rw [ho] at p3
    obtain ⟨dz, s3⟩ := ds
    intro v μ3 H3 x3 r3 rv3
    have x123 := x12.trans x3
    cases rv3 with
    | bl k =>
      refine ⟨k, rfl, ?_⟩
      cases k with
      | false => exact iteF (p3 _ _ _ x123 r3 (.bl false))
      | true =>
        refine iteT (tE.go r3 (re2.mono x3) ((R.sat_bd.mp p3).mono (fun d s h => h) fun _ _ z => z.mono x123) fun dw s4 w' μ4 H4 p4 x4 r4 re4 v4 => ?_)
        refine hd' μ4 H4 s4 y w' dy dw Q r4 (v2.mono (x3.trans x4)) v4 ?_
        have p5 := sat_of.mp p4
        cases ho' : op' dy dw s4 with
        | none => rw [ho'] at p5; exact p5.elim
        | some ds' => rw [ho'] at p5; exact fun v μ' H' e r q => p5 v μ' H' ((x123.trans x4).trans e) r q
    | _ => exact p3.elim
theorem se_chain {o o' : CmpOp} {r r' : R2} {op op'} {a b c : Expr} {fa fb fc : F} {pos : Pos} (hr : OpR X (compareOp o) r) (hd : OpD X.K r op) (hr' : OpR X (compareOp o') r') (hd' : OpD X.K r' op') (ha : SE X W a fa) (hb : SE X W b fb) (hc : SE X W c fc)
    (hm : lastMarks [o, o'] [b, c] = false := by rfl) : SE X W (.Compare a [o, o'] [b, c] pos) (e3c op op' fa fb fc) := .mk' (pe_chain hr hr' ha.run hb.run hc.run hm) (chain_conv hd hd')
theorem st_chain {o o' : CmpOp} {r r' : R2} {op op'} {a b c : Expr} {fa fb fc : F} {pos : Pos} (hr : OpR X (compareOp o) r) (hd : OpD X.K r op) (hr' : OpR X (compareOp o') r') (hd' : OpD X.K r' op') (ha : SE X W a fa) (hb : SE X W b fb) (hc : SE X W c fc)
    (hm : lastMarks [o, o'] [b, c] = false := by rfl) : ST X W (.Compare a [o, o'] [b, c] pos) (tbB (e3c op op' fa fb fc)) := .mk' (pt_chain hr hr' ha.run hb.run hc.run hm) (test_conv (chain_conv hd hd'))
theorem sw_and {a b : Expr} {rest : List Expr} {pos : Pos} {f g : FT} (ha : ST X W a f) (hb : SWd X W (.BoolOp .And (b :: rest) pos) g) : SWd X W (.BoolOp .And (a :: b :: rest) pos) (tAnd2 f g) :=
  .mk' (pw_and ha.run hb.run) fun σ H Q μ ρ st r re q => tT.go r re (R.sat_bd.mp q) fun b s μ' H' p x r' re' => by
    cases b with
    | true => exact iteT (tT.go r' re' ((show R.Sat (g ρ s) _ _ from p).mono (fun d s h => h) fun _ _ z => z.mono x) fun d s μ2 H2 p2 x2 r2 _ => p2 μ2 H2 (x.trans x2) r2)
    | false => exact iteF (p μ' H' x r')
theorem sw_or {a b : Expr} {rest : List Expr} {pos : Pos} {f g : FT} (ha : ST X W a f) (hb : SWd X W (.BoolOp .Or (b :: rest) pos) g) : SWd X W (.BoolOp .Or (a :: b :: rest) pos) (tOr2 f g) :=
  .mk' (pw_or ha.run hb.run) fun σ H Q μ ρ st r re q => tT.go r re (R.sat_bd.mp q) fun b s μ' H' p x r' re' => by
    cases b with
    | false => exact iteF (tT.go r' re' ((show R.Sat (g ρ s) _ _ from p).mono (fun d s h => h) fun _ _ z => z.mono x) fun d s μ2 H2 p2 x2 r2 _ => p2 μ2 H2 (x.trans x2) r2)
    | true => exact iteT (p μ' H' x r')
theorem sw_and1 {a : Expr} {pos : Pos} {f : FT} (ha : ST X W a f) : SWd X W (.BoolOp .And [a] pos) f := ⟨pw_and1 ha.run⟩
theorem sw_or1 {a : Expr} {pos : Pos} {f : FT} (ha : ST X W a f) : SWd X W (.BoolOp .Or [a] pos) f := ⟨pw_or1 ha.run⟩
theorem st_w {a : Expr} {f : FT} (h : SWd X W a f) : ST X W a f := ⟨h.run.pt⟩
theorem st_not {a : Expr} {pos : Pos} {f : FT} (h : ST X W a f) : ST X W (.UnaryOp .Not a pos) (tNot1 f) :=
  .mk' (pt_not h.run) fun σ H Q μ ρ st r re q => tT.go r re (R.sat_bd.mp q) fun b s μ' H' p x r' re' => p μ' H' x r'
/-- as values -/
def eAnd (f g : F) : F := fun ρ st => (f ρ st).bd fun d s => match truthD d s with
  | some true => g ρ s
  | some false => .ok d s
  | none => .bad
def eOr (f g : F) : F := fun ρ st => (f ρ st).bd fun d s => match truthD d s with
  | some true => .ok d s
  | some false => g ρ s
  | none => .bad
def eNot (f : F) : F := fun ρ st => (f ρ st).bd fun d s => match truthD d s with
  | some b => .ok (.bl (!b)) s
  | none => .bad
def eIf (t : FT) (f g : F) : F := fun ρ st => (t ρ st).bd fun b s => if b = true then f ρ s else g ρ s
theorem se_and {a b : Expr} {rest : List Expr} {pos : Pos} {f g : F} (ha : SE X W a f) (hb : SE X W (.BoolOp .And (b :: rest) pos) g) : SE X W (.BoolOp .And (a :: b :: rest) pos) (eAnd f g) :=
  .mk' (pe_andT ha.run hb.run) fun σ H Q μ ρ st r re q => tE.go r re (R.sat_bd.mp q) fun d s v μ' H' p x r' re' rv => by
    cases ht : truthD d s with
    | none => rw [ht] at p; exact p.elim
    | some k =>
      rw [ht] at p
      refine ⟨k, truth_at r' rv ht, ?_⟩
      cases k with
      | true => exact iteT (tE.go r' re' ((show R.Sat (g ρ s) _ _ from p).mono (fun d s h => h) fun _ _ z => z.mono x) fun d s v2 μ2 H2 p2 x2 r2 _ rv2 => p2 v2 μ2 H2 (x.trans x2) r2 rv2)
      | false => exact iteF (p v μ' H' x r' rv)
theorem se_or {a b : Expr} {rest : List Expr} {pos : Pos} {f g : F} (ha : SE X W a f) (hb : SE X W (.BoolOp .Or (b :: rest) pos) g) : SE X W (.BoolOp .Or (a :: b :: rest) pos) (eOr f g) :=
  .mk' (pe_orT ha.run hb.run) fun σ H Q μ ρ st r re q => tE.go r re (R.sat_bd.mp q) fun d s v μ' H' p x r' re' rv => by
    cases ht : truthD d s with
    | none => rw [ht] at p; exact p.elim
    | some k =>
      rw [ht] at p
      refine ⟨k, truth_at r' rv ht, ?_⟩
      cases k with
      | false => exact iteF (tE.go r' re' ((show R.Sat (g ρ s) _ _ from p).mono (fun d s h => h) fun _ _ z => z.mono x) fun d s v2 μ2 H2 p2 x2 r2 _ rv2 => p2 v2 μ2 H2 (x.trans x2) r2 rv2)
      | true => exact iteT (p v μ' H' x r' rv)
theorem se_one {a : Expr} {pos : Pos} {o : BoolOp} {f : F} (h : SE X W a f) : SE X W (.BoolOp o [a] pos) f := ⟨pe_one h.run⟩
theorem se_not {a : Expr} {pos : Pos} {f : F} (h : SE X W a f) : SE X W (.UnaryOp .Not a pos) (eNot f) :=
  .mk' (pe_notT h.run) fun σ H Q μ ρ st r re q => tE.go r re (R.sat_bd.mp q) fun d s v μ' H' p x r' re' rv => by
    cases ht : truthD d s with
    | none => rw [ht] at p; exact p.elim
    | some k => rw [ht] at p; exact ⟨k, truth_at r' rv ht, p _ μ' H' x r' (.bl _)⟩
theorem se_if {c a b : Expr} {pos : Pos} {t : FT} {f g : F} (hc : ST X W c t) (ha : SE X W a f) (hb : SE X W b g) : SE X W (.IfExp c a b pos) (eIf t f g) :=
  .mk' (pe_ifExp hc.run ha.run hb.run) fun σ H Q μ ρ st r re q => tT.go r re (R.sat_bd.mp q) fun k s μ' H' p x r' re' => by
    cases k with
    | true => exact iteT (tE.go r' re' ((show R.Sat (f ρ s) _ _ from p).mono (fun d s h => h) fun _ _ z => z.mono x) fun d s v2 μ2 H2 p2 x2 r2 _ rv2 => p2 v2 μ2 H2 (x.trans x2) r2 rv2)
    | false => exact iteF (tE.go r' re' ((show R.Sat (g ρ s) _ _ from p).mono (fun d s h => h) fun _ _ z => z.mono x) fun d s v2 μ2 H2 p2 x2 r2 _ rv2 => p2 v2 μ2 H2 (x.trans x2) r2 rv2)

/-! ### argument lists, displays, slices -/
def aNil : FA := fun _ st => .ok [] st
def aCons (f : F) (g : FA) : FA := fun ρ st => (f ρ st).bd fun d s => (g ρ s).bd fun ds s2 => .ok (d :: ds) s2
theorem sa_nil : SA X W [] aNil := .mk' pa_nil fun σ H Q μ ρ st r re q => q _ _ _ .refl r .nil
theorem sa_cons {e : Expr} {es : List Expr} {f : F} {g : FA} (ha : SE X W e f) (hb : SA X W es g) (hs : starEach (e :: es) X.env = (false, eval e X.env) :: starEach es X.env := by rfl) : SA X W (e :: es) (aCons f g) :=
  .mk' (pa_cons ha.run hb.run hs) fun σ H Q μ ρ st r re q => tE.go r re (R.sat_bd.mp q) fun d s v μ' H' p x r' re' rv =>
    tA.go r' re' ((R.sat_bd.mp p).mono (fun d s h => h) fun _ _ z => z.mono x) fun ds s2 vs μ2 H2 p2 x2 r2 _ rv2 => p2 _ _ _ (x.trans x2) r2 (.cons (rv.mono x2) rv2)
def eTup (g : FA) : F := fun ρ st => (g ρ st).bd fun ds s => if ds.length ≤ sizeLine then .ok (.tup ds) s else .bad
def eLst (g : FA) : F := fun ρ st => (g ρ st).bd fun ds s => if ds.length ≤ sizeLine then .ok (.ref s.length) (s ++ [.lst ds]) else .bad
theorem se_tup {es : List Expr} {g : FA} {k : Nat} {pos : Pos} (h : SA X W es g) : SE X W (.Tuple es k pos) (eTup g) :=
  .mk' (pe_tup h.run) fun σ H Q μ ρ st r re q => tA.go r re (R.sat_bd.mp q) fun ds s vs μ' H' p x r' re' rv => by
    split at p
    · rename_i hl
      refine ⟨by rw [rv.length]; exact hl, fun a ha => ?_⟩
      obtain ⟨x1, r1, v1⟩ := new_tup r' ha rv
      exact p _ _ _ (x.trans x1) r1 v1
    · exact p.elim
theorem se_lst {es : List Expr} {g : FA} {pos : Pos} (h : SA X W es g) : SE X W (.List es pos) (eLst g) :=
  .mk' (pe_lst h.run) fun σ H Q μ ρ st r re q => tA.go r re (R.sat_bd.mp q) fun ds s vs μ' H' p x r' re' rv => by
    split at p
    · rename_i hl
      refine ⟨by rw [rv.length]; exact hl, fun a ha => ?_⟩
      obtain ⟨x1, r1, v1⟩ := new_lst r' ha rv
      exact p _ _ _ (x.trans x1) r1 v1
    · exact p.elim
def oNone : FO := fun _ st => .ok none st
def oSome (f : F) : FO := fun ρ st => (f ρ st).bd fun d s => match d with
  | .int i => .ok (some i) s
  | _ => .bad
theorem so_none : SO X W none oNone := ⟨⟨fun pins s σ H Q I ⟨μ, ρ, st, r, re, q⟩ => po_none.run pins s σ H Q I (q μ H .refl r)⟩⟩
theorem so_some {e : Expr} {f : F} (h : SE X W e f) : SO X W (some e) (oSome f) := ⟨⟨fun pins s σ H Q I ⟨μ, ρ, st, r, re, q⟩ => (po_some h.run).run pins s σ H Q I
  (tE.go r re (R.sat_bd.mp q) fun d s v μ' H' p x r' re' rv => by
    cases rv with
    | int i => exact ⟨i, rfl, p μ' H' x r'⟩
    | _ => exact p.elim)⟩⟩
/-- the items of a slice -/
def cutD {α : Type} (ds : List α) (lo hi : Option Int) : List α := (ds.drop (HT.sIx ds.length 0 lo)).take (HT.sIx ds.length ds.length hi - HT.sIx ds.length 0 lo)
def slD (d : D) (lo hi : Option Int) (st : Sto) : Option (D × Sto) := match d with
  | .tup ds => some (.tup (cutD ds lo hi), st)
  | d => (seqD d st).map fun ds => (.ref st.length, st ++ [.lst (cutD ds lo hi)])
def eSl (f : F) (l h : FO) : F := fun ρ st => (f ρ st).bd fun d s => (l ρ s).bd fun a s1 => (h ρ s1).bd fun b s2 => R.of (slD d a b s2)
theorem RVs.cut {K : PySem.W.Frag} {μ : List Addr} {H : Hp} {xs : List V} {ds : List D} (h : RVs K μ H xs ds) (lo hi : Option Int) : RVs K μ H (cutV xs lo hi) (cutD ds lo hi) := by
  unfold cutV cutD
  rw [h.length]
  exact (h.drop _).take _
def rSlAll (K : PySem.W.Frag) : V → Option Int → Option Int → Hp → VK → Prop := fun x lo hi H Q => rSlA K x lo hi H Q ∨ rSlL K x lo hi H Q
theorem cut_all {α : Type} (ds : List α) {lo hi : Option Int} (h : HT.sIx ds.length 0 lo = 0 ∧ HT.sIx ds.length ds.length hi = ds.length) : cutD ds lo hi = ds := by
  unfold cutD; rw [h.1, h.2]; simp
theorem se_slice {e : Expr} {lo hi : Option Expr} {f : F} {l h : FO} {pos p2 : Pos} (he : SE X W e f) (hl : SO X W lo l) (hh : SO X W hi h) : SE X W (.Subscript e (.Slice lo hi none p2) pos) (eSl f l h) :=
  .mk' (pe_slice (sl_tupA.or sl_list) he.run hl.run hh.run) fun σ H Q μ ρ st r re q => tE.go r re (R.sat_bd.mp q) fun d s v μ1 H1 p1 x1 r1 re1 rv =>
    tO.go r1 re1 ((R.sat_bd.mp p1).mono (fun _ _ h => h) fun _ _ z => z.mono x1) fun a s1 μ2 H2 p2 x2 r2 re2 =>
    tO.go r2 re2 ((R.sat_bd.mp p2).mono (fun _ _ h => h) fun _ _ z => z.mono (x1.trans x2)) fun b s2 μ3 H3 p3 x3 r3 re3 => by
      have x13 := (x1.trans x2).trans x3
      have rv3 := rv.mono (x2.trans x3)
      have p4 := sat_of.mp p3
      cases rv3 with
      | tup hs hv =>
        rename_i ad xs ds
        simp only [slD] at p4
        refine .inl ⟨ad, xs, rfl, hs, fun hc => ?_, fun hc p hp => ?_⟩
        · rw [hv.length] at hc
          rw [cut_all ds hc] at p4
          exact p4 _ _ _ x13 r3 (.tup hs hv)
        · obtain ⟨xx, rr, vv⟩ := new_tup r3 hp (hv.cut a b)
          exact p4 _ _ _ (x13.trans xx) rr vv
      | kl hs hv =>
        rename_i ad xs ds
        simp only [slD, seqD, Option.map_some] at p4
        exact .inr ⟨ad, xs, rfl, hs.sql, fun p hp => by
          obtain ⟨xx, rr, vv⟩ := new_lst r3 hp (hv.cut a b)
          exact p4 _ _ _ (x13.trans xx) rr vv⟩
      | ref hn =>
        rename_i n ad
        simp only [slD] at p4
        cases hsq : seqD (.ref n) s2 with
        | none => rw [hsq] at p4; exact p4.elim
        | some ds =>
          rw [hsq] at p4
          obtain ⟨xs, hsl, hv⟩ := seqL_at r3 hn hsq
          exact .inr ⟨ad, xs, rfl, hsl, fun p hp => by
            obtain ⟨xx, rr, vv⟩ := new_lst r3 hp (hv.cut a b)
            exact p4 _ _ _ (x13.trans xx) rr vv⟩
      | _ => exact p4.elim
end
end Rm

namespace Rm
open PySem PySem.Spec PyProof.Rows L2

/-! ## Defs -/
/-- a def keeps its promise wherever no repr is under way -/
structure FnG (P : Program) (w : World) (K : PySem.W.Frag) (mg : Str → Option Value) (base : Heap) (k : Nat) (f : Addr) (fd : FuncData) (ps : List Str) (sp : Sp) : Prop where
  len : ∀ vs H Q E, sp vs H Q E → vs.length = ps.length
  go : ∀ (A : Around) (outer : List PySem.Env) (s : Shared) (H : Hp) (args : Args) (us : List Value) (vs : List V) (Q : VK) (E : XK), A.guards = some [] → Room k A → Env0 P w K mg base A outer s H →
    BindsTo s fd args (ps.zip us) → Vals vs us → sp vs H Q E → codeAny (model P w) A (.call (.ref f) args) (CR (L2.CX P w) outer P w H s Q E) s
/-- the promise of an outcome -/
def spD (K : PySem.W.Frag) (mg : Str → Option Value) (n : Nat) (φ : List D → Sto → R D) : Sp := fun vs H Q E => ∃ μ st ds, RH K μ H st ∧ RVs K μ H vs ds ∧ ds.length = n ∧
  (φ ds st).Sat (fun d st' => ∀ v μ' H', Ext K μ H μ' H' → RH K μ' H' st' → RV K μ' H' v d → Q v H') (fun e st' => ∀ cls dx μ' H', Ext K μ H μ' H' → RH K μ' H' st' → RX K mg μ' H' e cls dx → E cls dx H')
/-- where a body stands -/
structure Go (X : Cx) (W : WX) (k : Nat) : Prop where
  gd : X.A.guards = some []
  calm : X.calm = true
  room : Room k X.A
  tk : Takes X W
  own : PassesOwn (model X.prog X.w) X.A X.env X.xe
/-- a def of the text that keeps φ -/
structure Cal (P : Program) (w : World) (K : PySem.W.Frag) (mg : Str → Option Value) (base : Heap) (k : Nat) (x : Str) (st : Stmt) (ps : List Str) (φ : List D → Sto → R D) : Prop where
  ex : ∃ f fd, FnG P w K mg base k f fd ps (spD K mg ps.length φ) ∧ mg x = some (.ref f) ∧ PySem.W.keepIn K (.ref f) = true ∧ Binds K fd ps [] ∧
    ∃ (kV doc pm : Value) (an : Option Addr) (cdv ct : Value), fd = PySem.W.fnOf x x (defArgs st) (defBody st) (defScope st) .none kV doc pm an cdv ct
section
variable {X : Cx} {W : WX} {k : Nat} {f : Addr} {fd : FuncData} {ps ks : List Str} {φ : List D → Sto → R D} {x : Str} {pos p : Pos} {def_ : Stmt}
theorem run_g {pins : List (Addr × Obj)} {σ : L2.St} {H : Hp} {s : Shared} {Q : VK} {us : List Value} {vs : List V} {args : Args} {sp : Sp} (F : FnG X.prog X.w X.K X.mg X.base k f fd ps sp) (g : Go X W k) (hb : vs.length = ps.length → BindsTo s fd args (ps.zip us))
    (I : Inv X pins σ H s) (r : Vals vs us) (h : sp vs H Q (WE W σ)) : wpAny (model X.prog X.w) X.A (call (.ref f) args.pos args.kw) (EP X pins σ Q) X.xe s := by
  refine wpAny_call (codeAny_mono (F.go X.A X.stack s H ⟨args.pos, args.kw⟩ us vs Q (WE W σ) g.gd g.room I.env0 (hb (F.len _ _ _ _ h)) r h) fun o s' ho => ?_)
  cases o with
  | error e => exact passAt g.tk σ pins H s e s' I ho
  | ok fl =>
    cases fl with
    | ret u => exact I.after ho
    | _ => exact False.elim ho
def eCall (φ : List D → Sto → R D) (n : Nat) (g : FA) : F := fun ρ st => (g ρ st).bd fun ds s => if ds.length = n then φ ds s else .bad
theorem sp_at {μ1 : List Addr} {H1 : Hp} {s1 : Sto} {ds : List D} {vs : List V} {μ : List Addr} {H : Hp} {σ : L2.St} {Q : VK} (r1 : RH X.K μ1 H1 s1) (rv : RVs X.K μ1 H1 vs ds) (hl : ds.length = ps.length) (x1 : Ext X.K μ H μ1 H1) (p : (φ ds s1).Sat (Eok X μ H Q) (Eex X W μ H σ)) :
    spD X.K X.mg ps.length φ vs H1 Q (WE W σ) :=
  ⟨μ1, s1, ds, r1, rv, hl, p.mono (fun d s' q v μ' H' y r rr => q v μ' H' (x1.trans y) r rr) fun e s' q c d μ' H' y r rr => q c d μ' H' (x1.trans y) r rr⟩
theorem se_call {e : Expr} {es : List Expr} {g : FA} (C : Cal X.prog X.w X.K X.mg X.base k x def_ ps φ) (go : Go X W k) (hg : Gl X x) (ha : SA X W (e :: es) g) (hdb : (x == ("__debug__" : Str)) = false := by decide)
    (he : starEach (e :: es) X.env = (false, eval e X.env) :: starEach es X.env := by rfl) (hpl : (backTo pos (starEach es X.env)).any (·.1) = false := by rfl) : SE X W (.Call (.Name x p) (e :: es) [] pos) (eCall φ ps.length g) := by
  obtain ⟨f, fd, F, hm, hk, hb, _⟩ := C.ex
  refine ⟨⟨fun pins s σ H Q I ⟨μ, ρ, st, r, re, q⟩ => ?_⟩⟩
  have h : tA X W g σ H (fun vs H1 => spD X.K X.mg ps.length φ vs H1 Q (WE W σ)) := tA.go r re (R.sat_bd.mp q) fun ds s1 vs μ1 H1 p1 x1 r1 _ rv => by
    split at p1
    · rename_i hl; exact sp_at r1 rv hl x1 p1
    · exact p1.elim
  refine wpAny_Call_Name_kw (ld_glob I hg hm ?_ hdb)
  refine PySem.W.callWith_K (h₀ := X.base) I.ok.mod.kin hk ?_ he hpl
  refine thn (ha.run.run pos pins s σ H _ I h) fun us s1 ⟨vs, H1, I1, rr, q1⟩ => ⟨I1.kIn, ?_⟩
  exact run_g (args := ⟨us, []⟩) F go (fun hl => by
    have b := hb s1 us I1.kIn (by rw [List.append_nil, ← rr.length]; exact hl)
    rw [List.append_nil] at b
    exact b) I1 rr q1
theorem se_call0 (C : Cal X.prog X.w X.K X.mg X.base k x def_ [] φ) (go : Go X W k) (hg : Gl X x) (hdb : (x == ("__debug__" : Str)) = false := by decide) : SE X W (.Call (.Name x p) [] [] pos) (eCall φ 0 aNil) := by
  obtain ⟨f, fd, F, hm, hk, hb, _⟩ := C.ex
  refine ⟨⟨fun pins s σ H Q I ⟨μ, ρ, st, r, re, q⟩ => ?_⟩⟩
  refine wpAny_Call_Name_kw (ld_glob I hg hm ?_ hdb)
  refine PySem.W.callWith_K0 I.kIn hk ?_
  have q' : (φ [] st).Sat (Eok X μ H Q) (Eex X W μ H σ) := q
  exact run_g (args := ⟨[], []⟩) (us := []) (vs := []) F go (fun _ => hb s [] I.kIn rfl) I .nil (sp_at (ps := []) r .nil rfl .refl q')

/-! ### keywords -/
structure SK (X : Cx) (W : WX) (kws : List Keyword) (g : FA) : Prop where run : PK X kws (tA X W g)
theorem sk_nil : SK X W [] aNil := ⟨⟨fun pos pins s σ H Q I ⟨μ, ρ, st, r, re, q⟩ => pk_nil.run pos pins s σ H Q I (q [] μ H .refl r .nil)⟩⟩
theorem sk_cons {e : Expr} {nm : Option Str} {kpos : Pos} {kws : List Keyword} {f : F} {g : FA} (ha : SE X W e f) (hb : SK X W kws g) : SK X W (⟨nm, e, kpos⟩ :: kws) (aCons f g) :=
  ⟨⟨fun pos pins s σ H Q I ⟨μ, ρ, st, r, re, q⟩ => (pk_cons ha.run hb.run).run pos pins s σ H Q I (tE.go r re (R.sat_bd.mp q) fun d s v μ' H' p x r' re' rv =>
    tA.go r' re' ((R.sat_bd.mp p).mono (fun d s h => h) fun _ _ z => z.mono x) fun ds s2 vs μ2 H2 p2 x2 r2 _ rv2 => p2 _ _ _ (x.trans x2) r2 (.cons (rv.mono x2) rv2))⟩⟩
/-- the keywords' values in the parameters' order -/
def permL {α : Type} (π : List Nat) (ws : List α) : List α := π.filterMap (ws[·]?)
def eCallK (φ : List D → Sto → R D) (n nu : Nat) (π : List Nat) (g gk : FA) : F := fun ρ st => (g ρ st).bd fun ds s => (gk ρ s).bd fun ws s2 => if ds.length = nu ∧ ws.length = π.length ∧ (ds ++ permL π ws).length = n then φ (ds ++ permL π ws) s2 else .bad
theorem RVs.perm {K : PySem.W.Frag} {μ : List Addr} {H : Hp} {xs : List V} {ds : List D} (h : RVs K μ H xs ds) : ∀ π, RVs K μ H (permL π xs) (permL π ds)
  | [] => .nil
  | i :: π => by
    unfold permL
    rw [List.filterMap_cons, List.filterMap_cons]
    cases e : ds[i]? with
    | none =>
      have : xs[i]? = none := by
        rw [List.getElem?_eq_none_iff] at e ⊢
        rw [h.length]; exact e
      rw [this]
      exact RVs.perm h π
    | some d =>
      obtain ⟨v, hv, rv⟩ := h.get e
      rw [hv]
      exact .cons rv (RVs.perm h π)
theorem vals_perm {xs : List V} {us : List Value} (h : Vals xs us) : ∀ π, Vals (permL π xs) (permL π us)
  | [] => .nil
  | i :: π => by
    unfold permL
    rw [List.filterMap_cons, List.filterMap_cons]
    cases e : xs[i]? with
    | none => rw [h.none_of e]; exact vals_perm h π
    | some d =>
      obtain ⟨v, hv, rv⟩ := h.get e
      rw [hv]
      exact .cons rv (vals_perm h π)
/-- how the call's keywords bind -/
def KwOk (x : Str) (def_ : Stmt) (ps ks : List Str) (nu : Nat) (π : List Nat) : Prop := ∀ (kV doc pm : Value) (an : Option Addr) (cdv ct : Value) (us ws : List Value), us.length = nu → ws.length = π.length →
  bindArgs (PySem.W.fnOf x x (defArgs def_) (defBody def_) (defScope def_) .none kV doc pm an cdv ct) ⟨us, ks.zip ws⟩ = pure (ps.zip (us ++ permL π ws))
theorem se_callK {es : List Expr} {e : Expr} {kws : List Keyword} {g gk : FA} {nu : Nat} {π : List Nat} (C : Cal X.prog X.w X.K X.mg X.base k x def_ ps φ) (go : Go X W k) (hg : Gl X x) (kb : KwOk x def_ ps ks nu π) (ha : SA X W (e :: es) g) (hkw : SK X W kws gk)
    (hall : (backToKw pos (keywordEach kws X.env)).all (·.1.isSome) = true := by rfl) (hks : (backToKw pos (keywordEach kws X.env)).filterMap (·.1) = ks := by rfl) (hdb : (x == ("__debug__" : Str)) = false := by decide)
    (he : starEach (e :: es) X.env = (false, eval e X.env) :: starEach es X.env := by rfl) (hpl : ((backTo pos (starEach (e :: es) X.env)).any (·.1) || (backToKw pos (keywordEach kws X.env)).any (·.1.isNone)) = false := by rfl) :
    SE X W (.Call (.Name x p) (e :: es) kws pos) (eCallK φ ps.length nu π g gk) := by
  obtain ⟨f, fd, F, hm, hk, _, kV, doc, pm, an, cdv, ct, efd⟩ := C.ex
  refine ⟨⟨fun pins s σ H Q I ⟨μ, ρ, st, r, re, q⟩ => ?_⟩⟩
  have h : tA X W g σ H (fun vs H1 => tA X W gk σ H1 fun zs H2 => vs.length = nu ∧ zs.length = π.length ∧ spD X.K X.mg ps.length φ (vs ++ permL π zs) H2 Q (WE W σ)) :=
    tA.go r re (R.sat_bd.mp q) fun ds s1 vs μ1 H1 p1 x1 r1 re1 rv => tA.go r1 re1 ((R.sat_bd.mp p1).mono (fun _ _ h => h) fun _ _ z => z.mono x1) fun ws s2 zs μ2 H2 p2 x2 r2 _ rz => by
      split at p2
      · rename_i hl
        exact ⟨rv.length.trans hl.1, rz.length.trans hl.2.1, sp_at r2 ((rv.mono x2).append (rz.perm π)) hl.2.2 (x1.trans x2) p2⟩
      · exact p2.elim
  refine wpAny_Call_Name_kw (ld_glob I hg hm ?_ hdb)
  refine PySem.W.callWith_KW (h₀ := X.base) I.ok.mod.kin hk hall ?_ hpl he
  refine thn (ha.run.run pos pins s σ H _ I h) fun us s1 ⟨vs, H1, I1, rr, q1⟩ => ?_
  refine thn (hkw.run.run pos pins s1 σ H1 _ I1 q1) fun ws s2 ⟨zs, H2, I2, rz, l1, l2, q2⟩ => ⟨I2.kIn, ?_⟩
  rw [hks]
  exact run_g (args := ⟨us, ks.zip ws⟩) F go (fun _ => by rw [efd]; exact .of_eq (kb kV doc pm an cdv ct us ws (rr.length.symm.trans l1) (rz.length.symm.trans l2))) I2 (rr.append (vals_perm rz π)) q2
theorem se_callK0 {kws : List Keyword} {gk : FA} {π : List Nat} (C : Cal X.prog X.w X.K X.mg X.base k x def_ ps φ) (go : Go X W k) (hg : Gl X x) (kb : KwOk x def_ ps ks 0 π) (hkw : SK X W kws gk)
    (hall : (backToKw pos (keywordEach kws X.env)).all (·.1.isSome) = true := by rfl) (hks : (backToKw pos (keywordEach kws X.env)).filterMap (·.1) = ks := by rfl) (hdb : (x == ("__debug__" : Str)) = false := by decide)
    (hpl : ((backTo pos (starEach [] X.env)).any (·.1) || (backToKw pos (keywordEach kws X.env)).any (·.1.isNone)) = false := by rfl) :
    SE X W (.Call (.Name x p) [] kws pos) (eCallK φ ps.length 0 π aNil gk) := by
  obtain ⟨f, fd, F, hm, hk, _, kV, doc, pm, an, cdv, ct, efd⟩ := C.ex
  refine ⟨⟨fun pins s σ H Q I ⟨μ, ρ, st, r, re, q⟩ => ?_⟩⟩
  have q' := R.sat_bd.mp (show R.Sat (R.bd (gk ρ st) fun ws s2 => if ([] : List D).length = 0 ∧ ws.length = π.length ∧ (([] : List D) ++ permL π ws).length = ps.length then φ ([] ++ permL π ws) s2 else .bad) (Eok X μ H Q) (Eex X W μ H σ) from q)
  have h : tA X W gk σ H (fun zs H2 => zs.length = π.length ∧ spD X.K X.mg ps.length φ (permL π zs) H2 Q (WE W σ)) :=
    tA.go r re q' fun ws s2 zs μ2 H2 p2 x2 r2 _ rz => by
      split at p2
      · rename_i hl
        exact ⟨rz.length.trans hl.2.1, sp_at r2 (rz.perm π) hl.2.2 x2 p2⟩
      · exact p2.elim
  refine wpAny_Call_Name_kw (ld_glob I hg hm ?_ hdb)
  refine PySem.W.callWith_KW0 (h₀ := X.base) I.ok.mod.kin hk hall ?_ hpl
  refine thn (hkw.run.run pos pins s σ H _ I h) fun ws s2 ⟨zs, H2, I2, rz, l2, q2⟩ => ⟨I2.kIn, ?_⟩
  rw [hks]
  exact run_g (args := ⟨[] ++ [], ks.zip ws⟩) F go (fun _ => by rw [efd]; exact .of_eq (kb kV doc pm an cdv ct [] ws rfl (rz.length.symm.trans l2))) I2 (vals_perm rz π) q2

/-! ### built-in calls and methods -/
/-- a call's reading by its outcome -/
def CaD (K : PySem.W.Frag) (r : List V → Hp → VK → Prop) (op : List D → Sto → Option (D × Sto)) : Prop := ∀ μ H st xs ds Q, RH K μ H st → RVs K μ H xs ds →
  OSat (op ds st) (fun d st' => ∀ v μ' H', Ext K μ H μ' H' → RH K μ' H' st' → RV K μ' H' v d → Q v H') → r xs H Q
def eB (op : List D → Sto → Option (D × Sto)) (g : FA) : F := fun ρ st => (g ρ st).bd fun ds s => R.of (op ds s)
theorem ca_conv {r : List V → Hp → VK → Prop} {op} {g : FA} (hd : CaD X.K r op) : ∀ σ H Q μ ρ st, RH X.K μ H st → RE X.K μ H σ ρ → (eB op g ρ st).Sat (Eok X μ H Q) (Eex X W μ H σ) → tCB r (tA X W g) σ H Q := by
  intro σ H Q μ ρ st rh re q
  refine tA.go rh re (R.sat_bd.mp q) fun ds s vs μ1 H1 p1 x1 r1 re1 v1 => hd μ1 H1 s vs ds Q r1 v1 ?_
  have p2 := sat_of.mp p1
  cases ho : op ds s with
  | none => rw [ho] at p2; exact p2.elim
  | some o => rw [ho] at p2; exact fun v μ' H' e r q => p2 v μ' H' (x1.trans e) r q
theorem se_B {id : String} {r : List V → Hp → VK → Prop} {op} {e : Expr} {es : List Expr} {g : FA} (hc : CallR X (.builtin id) r) (hd : CaD X.K r op) (hg : Gl X x) (hm : X.mg x = none) (hv : bootBuiltins x = some (.builtin id)) (ha : SA X W (e :: es) g)
    (hn : x ≠ "__name__" := by decide) (hdb : (x == ("__debug__" : Str)) = false := by decide) (he : starEach (e :: es) X.env = (false, eval e X.env) :: starEach es X.env := by rfl) (hpl : (backTo pos (starEach es X.env)).any (·.1) = false := by rfl) :
    SE X W (.Call (.Name x p) (e :: es) [] pos) (eB op g) := .mk' (pe_callB hc hg hm hv ha.run hn hdb he hpl) (ca_conv hd)
theorem se_T {T : String} {r : List V → Hp → VK → Prop} {op} {e : Expr} {es : List Expr} {g : FA} (hc : CallR X (.type T) r) (hd : CaD X.K r op) (hg : Gl X x) (hm : X.mg x = none) (hv : bootBuiltins x = some (.type T)) (ha : SA X W (e :: es) g)
    (hn : x ≠ "__name__" := by decide) (hdb : (x == ("__debug__" : Str)) = false := by decide) (he : starEach (e :: es) X.env = (false, eval e X.env) :: starEach es X.env := by rfl) (hpl : (backTo pos (starEach es X.env)).any (·.1) = false := by rfl) :
    SE X W (.Call (.Name x p) (e :: es) [] pos) (eB op g) := .mk' (pe_callTy hc hg hm hv ha.run hn hdb he hpl) (ca_conv hd)
/-- o.m(..): a list's, a text's -/
def tyD (T : String) (d : D) (st : Sto) : Bool := match d with
  | .str _ => T == "str"
  | .ref n => T == "list" && (seqD (.ref n) st).isSome
  | _ => false
theorem ty_at {K : PySem.W.Frag} {μ : List Addr} {H : Hp} {st : Sto} {T : String} {d : D} {v : V} (r : RH K μ H st) (rv : RV K μ H v d) (h : tyD T d st = true) : tyV K T v H := by
  cases rv with
  | str x => exact eq_of_beq h
  | ref hn =>
    obtain ⟨h1, h2⟩ := Bool.and_eq_true_iff.mp h
    obtain ⟨ds, hs⟩ := Option.isSome_iff_exists.mp h2
    obtain ⟨xs, hsl, _⟩ := seqL_at r hn hs
    exact .inl ⟨eq_of_beq h1, xs, hsl⟩
  | _ => cases h
def MeD (K : PySem.W.Frag) (r : V → List V → Hp → VK → Prop) (op : D → List D → Sto → Option (D × Sto)) : Prop := ∀ μ H st x d xs ds Q, RH K μ H st → RV K μ H x d → RVs K μ H xs ds →
  OSat (op d ds st) (fun d st' => ∀ v μ' H', Ext K μ H μ' H' → RH K μ' H' st' → RV K μ' H' v d → Q v H') → r x xs H Q
def eM (T : String) (op : D → List D → Sto → Option (D × Sto)) (f : F) (g : FA) : F := fun ρ st => (f ρ st).bd fun d s => if tyD T d s = true then (g ρ s).bd fun ds s2 => R.of (op d ds s2) else .bad
theorem me_conv {T : String} {r : V → List V → Hp → VK → Prop} {op} {f : F} {g : FA} (hd : MeD X.K r op) : ∀ σ H Q μ ρ st, RH X.K μ H st → RE X.K μ H σ ρ → (eM T op f g ρ st).Sat (Eok X μ H Q) (Eex X W μ H σ) → tBM X.K T r (tE X W f) (tA X W g) σ H Q := by
  intro σ H Q μ ρ st rh re q
  refine tE.go rh re (R.sat_bd.mp q) fun d s v μ1 H1 p1 x1 r1 re1 v1 => ?_
  split at p1
  · rename_i ht
    refine ⟨ty_at r1 v1 ht, tA.go r1 re1 ((R.sat_bd.mp p1).mono (fun _ _ h => h) fun _ _ z => z.mono x1) fun ds s2 vs μ2 H2 p2 x2 r2 re2 v2 => hd μ2 H2 s2 v d vs ds Q r2 (v1.mono x2) v2 ?_⟩
    have p3 := sat_of.mp p2
    cases ho : op d ds s2 with
    | none => rw [ho] at p3; exact p3.elim
    | some o => rw [ho] at p3; exact fun v μ' H' e r q => p3 v μ' H' ((x1.trans x2).trans e) r q
  · exact p1.elim
theorem se_M {T id : String} {name : Str} {r : V → List V → Hp → VK → Prop} {op} {o e : Expr} {es : List Expr} {f : F} {g : FA} {apos : Pos} (hp : PlainAttrs T) (hs : Slot T name id) (ht : typeOf (.builtin id) = pure (.type "method_descriptor")) (hm : MtR X id r) (hd : MeD X.K r op) (ho : SE X W o f) (ha : SA X W (e :: es) g)
    (h1 : attributeBase o name X.env (eval o X.env) = eval o X.env := by rfl)
    (h2 : (((((backTo pos (starEach (e :: es) X.env)).all fun x => !x.1) && (backToKw pos (keywordEach [] X.env)).all fun x => x.1.isSome) && decide (((e :: es).length + ([] : List Keyword).length + if ([] : List Keyword).isEmpty = true then 0 else 1) < 30)) = true) := by rfl)
    (h3 : (apos.endLine == pos.line) = true := by rfl) (h4 : starEach (e :: es) X.env = (false, eval e X.env) :: starEach es X.env := by rfl) (h5 : (backTo pos (starEach es X.env)).any (·.1) = false := by rfl) :
    SE X W (.Call (.Attribute o name apos) (e :: es) [] pos) (eM T op f g) := .mk' (pe_bm hp hs ht hm ho.run ha.run h1 h2 h3 h4 h5) (me_conv hd)
theorem se_M0 {T id : String} {name : Str} {r : V → List V → Hp → VK → Prop} {op} {o : Expr} {f : F} {apos : Pos} (hp : PlainAttrs T) (hs : Slot T name id) (ht : typeOf (.builtin id) = pure (.type "method_descriptor")) (hm : MtR X id r) (hd : MeD X.K r op) (ho : SE X W o f)
    (h1 : attributeBase o name X.env (eval o X.env) = eval o X.env := by rfl) (h3 : (apos.endLine == pos.line) = true := by rfl) :
    SE X W (.Call (.Attribute o name apos) [] [] pos) (eM T op f aNil) := .mk' (pe_bm0 hp hs ht hm ho.run h1 h3) fun σ H Q μ ρ st r re q => by
      have h := me_conv (W := W) hd σ H Q μ ρ st r re q
      obtain ⟨μ', ρ', st', r', re', q'⟩ := h
      exact tE.go r re (R.sat_bd.mp q) fun d s v μ1 H1 p1 x1 r1 re1 v1 => by
        split at p1
        · rename_i ht
          refine ⟨ty_at r1 v1 ht, hd μ1 H1 s v d [] [] Q r1 v1 .nil ?_⟩
          have p3 : OSat (op d [] s) (Eok X μ H Q) := sat_of.mp p1
          cases ho : op d [] s with
          | none => rw [ho] at p3; exact p3.elim
          | some o => rw [ho] at p3; exact fun v μ' H' e r q => p3 v μ' H' (x1.trans e) r q
        · exact p1.elim
end
end Rm

namespace Rm
open PySem PySem.Spec PyProof.Rows L2

/-! ## Statements -/
def RS.Sat (o : RS) (nx : Env → Sto → Prop) (rt : D → Sto → Prop) (bk ct : Env → Sto → Prop) (ex : Ex → Env → Sto → Prop) : Prop := match o with
  | .nx ρ s => nx ρ s
  | .rt d s => rt d s
  | .bk ρ s => bk ρ s
  | .ct ρ s => ct ρ s
  | .exc e ρ s => ex e ρ s
  | .bad => False
def R.bs {α : Type} (r : R α) (ρ : Env) (f : α → Sto → RS) : RS := match r with
  | .ok a s => f a s
  | .exc e s => .exc e ρ s
  | .bad => .bad
theorem R.sat_bs {α : Type} {r : R α} {ρ : Env} {f : α → Sto → RS} {nx rt bk ct ex} : (r.bs ρ f).Sat nx rt bk ct ex ↔ r.Sat (fun a s => (f a s).Sat nx rt bk ct ex) (fun e s => ex e ρ s) := by
  cases r <;> exact Iff.rfl
theorem RS.Sat.mono {o : RS} {nx rt bk ct ex nx' rt' bk' ct' ex'} (h : o.Sat nx rt bk ct ex) (h1 : ∀ a s, nx a s → nx' a s) (h2 : ∀ a s, rt a s → rt' a s) (h3 : ∀ a s, bk a s → bk' a s) (h4 : ∀ a s, ct a s → ct' a s) (h5 : ∀ e a s, ex e a s → ex' e a s) : o.Sat nx' rt' bk' ct' ex' := by
  cases o with
  | nx a s => exact h1 a s h
  | rt a s => exact h2 a s h
  | bk a s => exact h3 a s h
  | ct a s => exact h4 a s h
  | exc e a s => exact h5 e a s h
  | bad => exact h
section
variable (X : Cx) (W : WX)
def Nok (μ : List Addr) (H : Hp) (N : L2.St → Hp → Prop) : Env → Sto → Prop := fun ρ' st' => ∀ σ' μ' H', Ext X.K μ H μ' H' → RH X.K μ' H' st' → RE X.K μ' H' σ' ρ' → N σ' H'
def Xok (μ : List Addr) (H : Hp) : Ex → Env → Sto → Prop := fun e ρ' st' => ∀ σ' cls dx μ' H', Ext X.K μ H μ' H' → RH X.K μ' H' st' → RE X.K μ' H' σ' ρ' → RX X.K X.mg μ' H' e cls dx → W cls dx σ' H'
def SOk (μ : List Addr) (H : Hp) (E : Ends) (o : RS) : Prop := o.Sat (Nok X μ H E.nx) (Eok X μ H E.rt) (Nok X μ H E.bk) (Nok X μ H E.ct) (Xok X W μ H)
def tS (f : FS) : TS := fun E σ H => ∃ μ ρ st, RH X.K μ H st ∧ RE X.K μ H σ ρ ∧ SOk X W μ H E (f ρ st)
structure SS (s : Stmt) (f : FS) : Prop where run : PS X s (tS X W f)
structure SSs (s : List Stmt) (f : FS) : Prop where run : PSs X s (tS X W f)
end
section
variable {X : Cx} {W : WX} {μ μ1 μ2 : List Addr} {H H1 H2 : Hp} {st st1 : Sto} {σ : L2.St} {ρ : Env}
theorem Nok.mono {N : L2.St → Hp → Prop} {a : Env} {s : Sto} (h : Nok X μ H N a s) (x : Ext X.K μ H μ1 H1) : Nok X μ1 H1 N a s := fun σ' μ' H' e r q => h σ' μ' H' (x.trans e) r q
theorem Xok.mono {e : Ex} {a : Env} {s : Sto} (h : Xok X W μ H e a s) (x : Ext X.K μ H μ1 H1) : Xok X W μ1 H1 e a s := fun σ' c d μ' H' y r q => h σ' c d μ' H' (x.trans y) r q
theorem SOk.ext {E : Ends} {o : RS} (h : SOk X W μ H E o) (x : Ext X.K μ H μ1 H1) : SOk X W μ1 H1 E o :=
  RS.Sat.mono h (fun _ _ z => z.mono x) (fun _ _ z => z.mono x) (fun _ _ z => z.mono x) (fun _ _ z => z.mono x) fun _ _ _ z => z.mono x
theorem SS.mk' {s : Stmt} {t : TS} {f : FS} (h : PS X s t) (c : ∀ E σ H μ ρ st, RH X.K μ H st → RE X.K μ H σ ρ → SOk X W μ H E (f ρ st) → t E σ H) : SS X W s f :=
  ⟨⟨fun pins s σ H E I ⟨μ, ρ, st, r, e, q⟩ => h.run pins s σ H E I (c E σ H μ ρ st r e q)⟩⟩
theorem SSs.mk' {s : List Stmt} {t : TS} {f : FS} (h : PSs X s t) (c : ∀ E σ H μ ρ st, RH X.K μ H st → RE X.K μ H σ ρ → SOk X W μ H E (f ρ st) → t E σ H) : SSs X W s f :=
  ⟨⟨fun pins s σ H E I ⟨μ, ρ, st, r, e, q⟩ => h.run pins s σ H E I (c E σ H μ ρ st r e q)⟩⟩
/-- an expression ahead of the rest -/
theorem bs_go {α : Type} {r : R α} {ρ : Env} {k : α → Sto → RS} {E : Ends} (re : RE X.K μ H σ ρ) (h : SOk X W μ H E (r.bs ρ k)) : r.Sat (fun a s => SOk X W μ H E (k a s)) (Eex X W μ H σ) :=
  (R.sat_bs.mp h).mono (fun _ _ z => z) fun e s z cls dx μ' H' x r' q => z σ cls dx μ' H' x r' (re.mono x) q
def sPass : FS := fun ρ st => .nx ρ st
def sBrk : FS := fun ρ st => .bk ρ st
def sCnt : FS := fun ρ st => .ct ρ st
def sSeq (f g : FS) : FS := fun ρ st => match f ρ st with
  | .nx ρ' s' => g ρ' s'
  | o => o
def sExpr (f : F) : FS := fun ρ st => (f ρ st).bs ρ fun _ s => .nx ρ s
def sRet (f : F) : FS := fun ρ st => (f ρ st).bs ρ fun d s => .rt d s
def sRetN : FS := fun _ st => .rt .non st
def sIf (t : FT) (f g : FS) : FS := fun ρ st => (t ρ st).bs ρ fun b s => if b = true then f ρ s else g ρ s
theorem ss_nil : SSs X W [] sPass := .mk' pss_nil fun E σ H μ ρ st r re q => q σ μ H .refl r re
theorem ss_cons {s : Stmt} {ss : List Stmt} {f g : FS} (h : SS X W s f) (hs : SSs X W ss g) : SSs X W (s :: ss) (sSeq f g) :=
  .mk' (pss_cons h.run hs.run) fun E σ H μ ρ st r re q => ⟨μ, ρ, st, r, re, by
    unfold sSeq at q
    cases hf : f ρ st with
    | nx ρ' s' => rw [hf] at q; exact fun σ' μ' H' x r' re' => ⟨μ', ρ', s', r', re', q.ext x⟩
    | rt d s' => rw [hf] at q; exact q
    | bk d s' => rw [hf] at q; exact q
    | ct d s' => rw [hf] at q; exact q
    | exc e d s' => rw [hf] at q; exact q
    | bad => rw [hf] at q; exact q⟩
theorem ss_one {s : Stmt} {f : FS} (h : SS X W s f) : SSs X W [s] f := ⟨pss_one h.run⟩
theorem s_pass {pos} : SS X W (.Pass pos) sPass := .mk' ps_pass fun E σ H μ ρ st r re q => q σ μ H .refl r re
theorem s_brk {pos} : SS X W (.Break pos) sBrk := .mk' ps_break fun E σ H μ ρ st r re q => q σ μ H .refl r re
theorem s_cnt {pos} : SS X W (.Continue pos) sCnt := .mk' ps_continue fun E σ H μ ρ st r re q => q σ μ H .refl r re
theorem s_expr {e : Expr} {f : F} {pos : Pos} (h : SE X W e f) (hs : swapsWith e none pos.line X.env = pure false := by rfl) : SS X W (.Expr e pos) (sExpr f) :=
  .mk' (ps_expr h.run hs) fun E σ H μ ρ st r re q => tE.go r re (bs_go re q) fun d s v μ' H' p x r' re' _ => p σ μ' H' x r' re'
theorem s_ret {e : Expr} {f : F} {pos : Pos} (h : SE X W e f) : SS X W (.Return (some e) pos) (sRet f) :=
  .mk' (ps_ret h.run) fun E σ H μ ρ st r re q => tE.go r re (bs_go re q) fun d s v μ' H' p x r' re' rv => p v μ' H' x r' rv
theorem s_retN {pos : Pos} : SS X W (.Return none pos) sRetN := .mk' ps_retN fun E σ H μ ρ st r re q => q _ μ H .refl r .non
theorem s_if {c : Expr} {a b : List Stmt} {t : FT} {f g : FS} {pos : Pos} (hc : ST X W c t) (ha : SSs X W a f) (hb : SSs X W b g) : SS X W (.If c a b pos) (sIf t f g) :=
  .mk' (ps_if hc.run ha.run hb.run) fun E σ H μ ρ st r re q => tT.go r re (bs_go re q) fun k s μ' H' p x r' re' => by
    cases k with
    | true => exact iteT ⟨μ', ρ, s, r', re', (show SOk X W μ H E (f ρ s) from p).ext x⟩
    | false => exact iteF ⟨μ', ρ, s, r', re', (show SOk X W μ H E (g ρ s) from p).ext x⟩

/-! ### targets of names -/
/-- t stores names alone, at the slots vs -/
def GL (K : PySem.W.Frag) (t : TG) (g : D → Env → Option Env) (vs : List Nat) : Prop := ∀ μ H σ ρ v d ρ' Q, RE K μ H σ ρ → RV K μ H v d → g d ρ = some ρ' → (∀ σ', RE K μ H σ' ρ' → wipe σ' vs = wipe σ vs → Q σ' H) → t v σ H Q
def GLs (K : PySem.W.Frag) (t : TGs) (g : List D → Env → Option Env) (vs : List Nat) : Prop := ∀ μ H σ ρ v d ρ' Q, RE K μ H σ ρ → RVs K μ H v d → g d ρ = some ρ' → (∀ σ', RE K μ H σ' ρ' → wipe σ' vs = wipe σ vs → Q σ' H) → t v σ H Q
def gN (i : Nat) : D → Env → Option Env := fun d ρ => if i < ρ.length then some (ρ.set i (some d)) else none
def gT (n : Nat) (g : List D → Env → Option Env) : D → Env → Option Env := fun d ρ => match d with
  | .tup ds => if ds.length = n then g ds ρ else none
  | _ => none
def gsN : List D → Env → Option Env := fun ds ρ => match ds with
  | [] => some ρ
  | _ => none
def gsC (g : D → Env → Option Env) (h : List D → Env → Option Env) : List D → Env → Option Env := fun ds ρ => match ds with
  | d :: r => (g d ρ).bind fun ρ' => h r ρ'
  | [] => none
theorem wipe_out {v : Option V} : ∀ (vs : List Nat) (σ : L2.St) (i : Nat), i ∉ vs → wipe (σ.set i v) vs = (wipe σ vs).set i v := by
  intro vs
  induction vs with
  | nil => intro σ i h; rfl
  | cons j vs ih =>
    intro σ i h
    have h1 : i ≠ j := fun e => h (by rw [e]; exact List.mem_cons_self)
    have h2 : i ∉ vs := fun e => h (List.mem_cons_of_mem _ e)
    show (wipe (σ.set i v) vs).set j none = ((wipe σ vs).set j none).set i v
    rw [ih σ i h2, List.set_comm _ _ h1]
theorem wipe_set {v : Option V} : ∀ (vs : List Nat) (σ : L2.St) (i : Nat), i ∈ vs → wipe (σ.set i v) vs = wipe σ vs := by
  intro vs
  induction vs with
  | nil => intro σ i h; cases h
  | cons j vs ih =>
    intro σ i h
    show (wipe (σ.set i v) vs).set j none = (wipe σ vs).set j none
    by_cases h2 : i ∈ vs
    · rw [ih σ i h2]
    · have e : i = j := by
        rcases List.mem_cons.mp h with h | h
        · exact h
        · exact absurd h h2
      subst e
      rw [wipe_out vs σ i h2, List.set_set]
theorem gl_name {K : PySem.W.Frag} {i : Nat} {vs : List Nat} (h : i ∈ vs) : GL K (gName i) (gN i) vs := by
  intro μ H σ ρ v d ρ' Q re rv hg q
  unfold gN at hg
  split at hg
  · rename_i hi
    cases hg
    refine q _ ⟨by rw [List.length_set, List.length_set]; exact re.1, fun j e hj => ?_⟩ (wipe_set vs σ i h)
    by_cases hij : i = j
    · subst hij
      rw [List.getElem?_set_self hi] at hj
      cases hj
      exact ⟨v, List.getElem?_set_self (by rw [re.1]; exact hi), rv⟩
    · rw [List.getElem?_set_ne hij] at hj
      obtain ⟨u, hu, ru⟩ := re.2 j e hj
      exact ⟨u, by rw [List.getElem?_set_ne hij]; exact hu, ru⟩
  · cases hg
theorem gl_tup {K : PySem.W.Frag} {n : Nat} {t : TGs} {g} {vs : List Nat} (h : GLs K t g vs) : GL K (gTup K n t) (gT n g) vs := by
  intro μ H σ ρ v d ρ' Q re rv hg q
  cases rv with
  | tup hs hv =>
    rename_i a xs ds
    simp only [gT] at hg
    split at hg
    · rename_i hl
      exact ⟨a, xs, rfl, hs, hv.length.trans hl, h μ H σ ρ xs ds ρ' Q re hv hg q⟩
    · cases hg
  | _ => cases hg
theorem gl_nil {K : PySem.W.Frag} {vs : List Nat} : GLs K gNil gsN vs := by
  intro μ H σ ρ v d ρ' Q re rv hg q
  cases rv with
  | nil => cases hg; exact ⟨rfl, q σ re rfl⟩
  | cons _ _ => cases hg
theorem gl_cons {K : PySem.W.Frag} {t : TG} {ts : TGs} {g h} {vs : List Nat} (a : GL K t g vs) (b : GLs K ts h vs) : GLs K (gCons t ts) (gsC g h) vs := by
  intro μ H σ ρ v d ρ' Q re rv hg q
  cases rv with
  | nil => cases hg
  | cons r1 r2 =>
    rename_i v1 vr d1 dr
    obtain ⟨ρ1, h1, h2⟩ := Option.bind_eq_some_iff.mp hg
    exact ⟨v1, vr, rfl, a μ H σ ρ v1 d1 ρ1 _ re r1 h1 fun σ1 re1 w1 => b μ H σ1 ρ1 vr dr ρ' Q re1 r2 h2 fun σ2 re2 w2 => q σ2 re2 (w2.trans w1)⟩
def sAsgN (f : F) (g : D → Env → Option Env) : FS := fun ρ st => (f ρ st).bs ρ fun d s => match g d ρ with
  | some ρ' => .nx ρ' s
  | none => .bad
theorem asg_conv {te : TE} {t : TG} {f : F} {g} {vs : List Nat} (hl : GL X.K t g vs) (hte : ∀ σ H Q μ ρ st, RH X.K μ H st → RE X.K μ H σ ρ → (f ρ st).Sat (Eok X μ H Q) (Eex X W μ H σ) → te σ H Q) :
    ∀ E σ H μ ρ st, RH X.K μ H st → RE X.K μ H σ ρ → SOk X W μ H E (sAsgN f g ρ st) → tAsg te t E σ H := by
  intro E σ H μ ρ st r re q
  refine hte σ H _ μ ρ st r re ((bs_go re q).mono (fun d s p v μ' H' x r' rv => ?_) fun _ _ z => z)
  cases hg : g d ρ with
  | none => rw [hg] at p; exact p.elim
  | some ρ' => rw [hg] at p; exact hl μ' H' σ ρ v d ρ' _ (re.mono x) rv hg fun σ' re' _ => p σ' μ' H' x r' re'
theorem s_asg {e tg : Expr} {f : F} {t : TG} {g} {vs : List Nat} {pos : Pos} (he : SE X W e f) (hg : PG X tg t) (hl : GL X.K t g vs) (h1 : swapsWithSole [tg] e pos.line X.env = pure false := by rfl) (h2 : swappedStores [tg] e X.env = pure none := by rfl)
    (h3 : List.map (fun x => x.2) (assignEach [tg] X.env) = [assign tg X.env] := by rfl) : SS X W (.Assign [tg] e pos) (sAsgN f g) :=
  .mk' (ps_asg he.run hg h1 h2 h3) (asg_conv hl fun σ H Q μ ρ st r re q => ⟨μ, ρ, st, r, re, q⟩)

/-! ### what is walked -/
structure ITD where
  items : List D
  chk : Sto → Prop
/-- J walks it, from the store st on -/
def ItOk (K : PySem.W.Frag) (J : It) (μ1 : List Addr) (H1 : Hp) (it : ITD) : Prop := ∃ G Y, Walk J it.items.length G Y ∧ (∀ μ2 H2 st2, Sub K μ1 H1 μ2 H2 → RH K μ2 H2 st2 → it.chk st2 → G H2) ∧
  ∀ i x H2 H3 μ2 st2, i < it.items.length → Sub K μ1 H1 μ2 H2 → RH K μ2 H2 st2 → it.chk st2 → Y i H2 x H3 → Ext K μ2 H2 μ2 H3 ∧ RH K μ2 H3 st2 ∧ ∃ d, it.items[i]? = some d ∧ RV K μ2 H3 x d
abbrev FI := Env → Sto → R ITD
/-- what a for walks, by its outcome -/
def WiD (X : Cx) (W : WX) (wi : TI) (fi : FI) : Prop := ∀ σ H (Rr : It → Hp → Prop) μ ρ st, RH X.K μ H st → RE X.K μ H σ ρ →
  (fi ρ st).Sat (fun it st' => ∀ J μ1 H1, Ext X.K μ H μ1 H1 → RH X.K μ1 H1 st' → ItOk X.K J μ1 H1 it → Rr J H1) (Eex X W μ H σ) → wi σ H Rr
open Classical in
noncomputable def forGo (chk : Sto → Prop) (g : D → Env → Option Env) (b : FS) : List D → FS
  | [], ρ, st => if chk st then .nx ρ st else .bad
  | d :: ds, ρ, st => if chk st then (match g d ρ with
    | none => .bad
    | some ρ1 => match b ρ1 st with
      | .nx ρ2 s2 => forGo chk g b ds ρ2 s2
      | .ct ρ2 s2 => forGo chk g b ds ρ2 s2
      | .bk ρ2 s2 => .nx ρ2 s2
      | .rt d s2 => .rt d s2
      | .exc e ρ2 s2 => .exc e ρ2 s2
      | .bad => .bad) else .bad
noncomputable def sFor (fi : FI) (g : D → Env → Option Env) (b : FS) : FS := fun ρ st => (fi ρ st).bs ρ fun it s => forGo it.chk g b it.items ρ s
theorem forGo_chk {chk : Sto → Prop} {g} {b : FS} {ds : List D} {ρ : Env} {st : Sto} {nx rt bk ct ex} (h : (forGo chk g b ds ρ st).Sat nx rt bk ct ex) : chk st := by
  cases ds with
  | nil =>
    unfold forGo at h
    split at h
    · assumption
    · exact h.elim
  | cons d ds =>
    unfold forGo at h
    split at h
    · assumption
    · exact h.elim
theorem s_for {tg iter : Expr} {body : List Stmt} {wi : TI} {fi : FI} {t : TG} {g} {vs : List Nat} {b : FS} {pos : Pos} (hp : PassesOwn (model X.prog X.w) X.A X.env X.xe) (hc : X.calm = true) (hi : PI X tg iter wi) (hw : WiD X W wi fi) (hg : PG X tg t) (hl : GL X.K t g vs) (hb : SSs X W body b)
    (hs : ∀ x, foldedSetIterable iter X.env x = pure x := by intro _; rfl) : SS X W (.For tg iter body [] pos) (sFor fi g b) :=
  .mk' (ps_for hp hc hi hg hb.run hs) fun E σ H μ ρ st r re q => by
    refine hw σ H _ μ ρ st r re ((bs_go re q).mono (fun it s p J μ1 H1 x1 r1 ⟨G, Y, wk, l1, l2⟩ => ?_) fun _ _ z => z)
    refine for_it wk (fun i σ' H' => ∃ μ' ρ' st', Ext X.K μ1 H1 μ' H' ∧ RH X.K μ' H' st' ∧ RE X.K μ' H' σ' ρ' ∧ SOk X W μ H E (forGo it.chk g b (it.items.drop i) ρ' st')) ⟨μ1, ρ, s, .refl, r1, re.mono x1, p⟩ ?_ ?_ ?_
    · rintro i σ' H' _ ⟨μ', ρ', st', x', r', re', p'⟩
      exact l1 μ' H' st' x'.sub r' (forGo_chk p')
    · rintro i x σ' H2 H3 hi ⟨μ', ρ', st', x', r', re', p'⟩ y
      have hk := forGo_chk p'
      obtain ⟨x3, r3, d, hd, rv⟩ := l2 i x H2 H3 μ' st' hi x'.sub r' hk y
      have hdr : it.items.drop i = d :: it.items.drop (i + 1) := by
        rw [List.drop_eq_getElem_cons hi]
        congr 1
        rw [List.getElem?_eq_getElem hi] at hd
        exact Option.some.inj hd
      rw [hdr] at p'
      unfold forGo at p'
      rw [if_pos hk] at p'
      cases hgd : g d ρ' with
      | none => rw [hgd] at p'; exact p'.elim
      | some ρ1 =>
        rw [hgd] at p'
        refine hl μ' H3 σ' ρ' x d ρ1 _ (re'.mono x3) rv hgd fun σ1 re1 _ => ⟨μ', ρ1, st', r3, re1, ?_⟩
        have x13 := (x1.trans x').trans x3
        cases hbo : b ρ1 st' with
        | nx ρ2 s2 =>
          simp only [hbo] at p'
          exact fun σ4 μ4 H4 x4 r4 re4 => ⟨μ4, ρ2, s2, (x'.trans x3).trans x4, r4, re4, p'⟩
        | ct ρ2 s2 =>
          simp only [hbo] at p'
          exact fun σ4 μ4 H4 x4 r4 re4 => ⟨μ4, ρ2, s2, (x'.trans x3).trans x4, r4, re4, p'⟩
        | bk ρ2 s2 =>
          simp only [hbo] at p'
          exact Nok.mono (X := X) (N := E.nx) p' x13
        | rt d s2 =>
          simp only [hbo] at p'
          exact Eok.mono (X := X) (Q := E.rt) p' x13
        | exc e ρ2 s2 =>
          simp only [hbo] at p'
          exact Xok.mono p' x13
        | bad => simp only [hbo] at p'; exact p'.elim
    · rintro σ' H' ⟨μ', ρ', st', x', r', re', p'⟩
      rw [List.drop_length] at p'
      have hk := forGo_chk p'
      unfold forGo at p'
      rw [if_pos hk] at p'
      exact p' σ' μ' H' (x1.trans x') r' re'
end
end Rm

namespace Rm
open PySem PySem.Spec PyProof.Rows L2
section
variable {X : Cx} {W : WX} {μ μ1 μ2 : List Addr} {H H1 H2 : Hp} {st st1 : Sto} {σ : L2.St} {ρ : Env}
theorem pi_or {tg iter : Expr} {w1 w2 : TI} (h1 : PI X tg iter w1) (h2 : PI X tg iter w2) : PI X tg iter (fun σ H Rr => w1 σ H Rr ∨ w2 σ H Rr) :=
  ⟨fun pins s σ H Rr I h => h.elim (h1.run pins s σ H Rr I) (h2.run pins s σ H Rr I)⟩
def itD : D → Sto → Option ITD
  | .tup ds, _ => some ⟨ds, fun _ => True⟩
  | .kl ds, _ => some ⟨ds, fun _ => True⟩
  | .ref n, st => match st[n]? with
    | some (.lst ds) => some ⟨ds, fun s => s[n]? = some (.lst ds)⟩
    | _ => none
  | _, _ => none
theorem seq_of_cell {K : PySem.W.Frag} {n : Nat} {a : Addr} {ds : List D} (r : RH K μ H st) (hn : μ[n]? = some a) (h : st[n]? = some (.lst ds)) : ∃ xs, SqL K H a xs ∧ RVs K μ H xs ds := by
  refine seqL_at r hn ?_
  simp [seqD, h]
theorem itok_tup {K : PySem.W.Frag} {a : Addr} {xs : List V} {ds : List D} (hs : SqT K H1 a xs) (hv : RVs K μ1 H1 xs ds) : ItOk K (Itt K a) μ1 H1 ⟨ds, fun _ => True⟩ := by
  refine ⟨_, _, by show Walk _ ds.length _ _; rw [← hv.length]; exact walk_tup (xs := xs), fun μ2 H2 st2 x _ _ => x.sq _ _ hs, fun i x H2 H3 μ2 st2 hi x2 r2 _ y => ?_⟩
  obtain ⟨rfl, hx⟩ := y
  obtain ⟨d, hd, rv⟩ := hv.get' hx
  exact ⟨.refl, r2, d, hd, rv.monoS x2⟩
theorem walk_lstG {K : PySem.W.Frag} {a : Addr} {n : Nat} : Walk (Itl K a) n (fun H => ∃ ys, SqL K H a ys ∧ ys.length = n) (fun i H x H' => H' = H ∧ ∀ ys, SqL K H a ys → ys[i]? = some x) :=
  ⟨fun i H hi ⟨ys, q, l⟩ => ⟨ys, ys[i], q, by simp⟩, fun H ⟨ys, q, l⟩ => ⟨ys, q, by omega⟩, fun i H x H' hi ⟨ys, q, l⟩ y => y⟩
theorem itok_kl {K : PySem.W.Frag} {a : Addr} {xs : List V} {ds : List D} (hs : FzL K H1 a xs) (hv : RVs K μ1 H1 xs ds) : ItOk K (Itl K a) μ1 H1 ⟨ds, fun _ => True⟩ := by
  refine ⟨_, _, by show Walk _ ds.length _ _; rw [← hv.length]; exact walk_list (xs := xs), fun μ2 H2 st2 x _ _ => (x.fz _ _ hs).sql, fun i x H2 H3 μ2 st2 hi x2 r2 _ y => ?_⟩
  obtain ⟨rfl, hx⟩ := y
  obtain ⟨d, hd, rv⟩ := hv.get' hx
  exact ⟨.refl, r2, d, hd, rv.monoS x2⟩
theorem itok_lst {K : PySem.W.Frag} {n : Nat} {a : Addr} {ds : List D} (hn : μ1[n]? = some a) : ItOk K (Itl K a) μ1 H1 ⟨ds, fun s => s[n]? = some (.lst ds)⟩ := by
  have at_ : ∀ {μ2 H2 st2}, Sub K μ1 H1 μ2 H2 → RH K μ2 H2 st2 → st2[n]? = some (.lst ds) → ∃ xs, SqL K H2 a xs ∧ RVs K μ2 H2 xs ds := fun x r h => seq_of_cell r (x.get hn) h
  refine ⟨_, _, walk_lstG, fun μ2 H2 st2 x r h => ?_, fun i x H2 H3 μ2 st2 hi x2 r2 h y => ?_⟩
  · obtain ⟨xs, hs, hv⟩ := at_ x r h
    exact ⟨xs, hs, hv.length⟩
  · obtain ⟨rfl, hx⟩ := y
    obtain ⟨xs, hs, hv⟩ := at_ x2 r2 h
    obtain ⟨d, hd, rv⟩ := hv.get' (hx xs hs)
    exact ⟨.refl, r2, d, hd, rv⟩
def iSeq (f : F) : FI := fun ρ st => (f ρ st).bd fun d s => match itD d s with
  | some it => .ok it s
  | none => .bad
def wSeq (K : PySem.W.Frag) (te : TE) : TI := fun σ H Rr => iList K te σ H Rr ∨ iTup K te σ H Rr
theorem wi_seq {f : F} : WiD X W (wSeq X.K (tE X W f)) (iSeq f) := by
  intro σ H Rr μ ρ st r re q
  have q' := R.sat_bd.mp q
  cases hf : f ρ st with
  | bad => rw [hf] at q'; exact q'.elim
  | exc e s =>
    rw [hf] at q'
    exact .inl (tE.go (P := fun _ _ => False) r re (by rw [hf]; exact q') fun d s v μ' H' p => p.elim)
  | ok d s =>
    rw [hf] at q'
    have q3 : R.Sat (match itD d s with | some it => R.ok it s | none => R.bad) (fun it st' => ∀ J μ1 H1, Ext X.K μ H μ1 H1 → RH X.K μ1 H1 st' → ItOk X.K J μ1 H1 it → Rr J H1) (Eex X W μ H σ) := q'
    cases hi : itD d s with
    | none => rw [hi] at q3; exact q3.elim
    | some it =>
      rw [hi] at q3
      have q2 : ∀ J μ1 H1, Ext X.K μ H μ1 H1 → RH X.K μ1 H1 s → ItOk X.K J μ1 H1 it → Rr J H1 := q3
      have go : ∀ Q : VK, (∀ v μ' H', Ext X.K μ H μ' H' → RH X.K μ' H' s → RV X.K μ' H' v d → Q v H') → tE X W f σ H Q := fun Q h => ⟨μ, ρ, st, r, re, by rw [hf]; exact h⟩
      cases d with
      | tup ds =>
        cases hi
        refine .inr (go _ fun v μ' H' x r' rv => ?_)
        cases rv with
        | tup hs hv => exact ⟨_, rfl, ⟨_, hs⟩, q2 _ μ' H' x r' (itok_tup hs hv)⟩
      | kl ds =>
        cases hi
        refine .inl (go _ fun v μ' H' x r' rv => ?_)
        cases rv with
        | kl hs hv => exact ⟨_, rfl, ⟨_, hs.sql⟩, q2 _ μ' H' x r' (itok_kl hs hv)⟩
      | ref n =>
        refine .inl (go _ fun v μ' H' x r' rv => ?_)
        cases rv with
        | ref hn =>
          simp only [itD] at hi
          split at hi
          · rename_i ds hc
            cases hi
            obtain ⟨xs, hs, _⟩ := seq_of_cell r' hn hc
            exact ⟨_, rfl, ⟨xs, hs⟩, q2 _ μ' H' x r' (itok_lst hn)⟩
          · cases hi
      | _ => cases hi
theorem pi_seq {tg e : Expr} {f : F} (h : SE X W e f) : PI X tg e (wSeq X.K (tE X W f)) := pi_or (pi_list h.run) (pi_tup h.run)
/-! ranges -/
def rngD (lo : Int) (n : Nat) : ITD := ⟨(List.range n).map fun i => .int (lo + (i : Nat)), fun _ => True⟩
theorem itok_rng {K : PySem.W.Frag} {lo : Int} {n : Nat} : ItOk K (Itr lo n) μ1 H1 (rngD lo n) := by
  refine ⟨_, _, by show Walk _ (rngD lo n).items.length _ _; rw [show (rngD lo n).items.length = n by simp [rngD]]; exact walk_range, fun _ _ _ _ _ _ => trivial, fun i x H2 H3 μ2 st2 hi x2 r2 _ y => ?_⟩
  obtain ⟨rfl, rfl⟩ := y
  have hi' : i < n := by simpa [rngD] using hi
  exact ⟨.refl, r2, .int (lo + (i : Nat)), by simp [rngD, hi'], .int _⟩
def iR1 (g : FA) : FI := fun ρ st => (g ρ st).bd fun ds s => match ds with
  | [.int j] => if -(2 ^ 62) ≤ j ∧ j < 2 ^ 62 then .ok (rngD 0 j.toNat) s else .bad
  | _ => .bad
theorem wi_r1 {g : FA} : WiD X W (iRng1 (tA X W g)) (iR1 g) := by
  intro σ H Rr μ ρ st r re q
  refine tA.go r re (R.sat_bd.mp q) fun ds s vs μ' H' p x r' re' rv => ?_
  cases rv with
  | nil => exact p.elim
  | cons r1 r2 =>
    cases r1 with
    | int j =>
      cases r2 with
      | nil =>
        simp only at p
        split at p
        · rename_i hj
          exact ⟨j, rfl, hj.1, hj.2, p _ μ' H' x r' itok_rng⟩
        · exact p.elim
      | cons _ _ => exact p.elim
    | _ => exact p.elim
def iR2 (g : FA) : FI := fun ρ st => (g ρ st).bd fun ds s => match ds with
  | [.int i, .int j] => if -(2 ^ 62) ≤ i ∧ i < 2 ^ 62 ∧ -(2 ^ 62) ≤ j ∧ j < 2 ^ 62 then .ok (rngD i (j - i).toNat) s else .bad
  | _ => .bad
theorem wi_r2 {g : FA} : WiD X W (iRng2 (tA X W g)) (iR2 g) := by
  intro σ H Rr μ ρ st r re q
  refine tA.go r re (R.sat_bd.mp q) fun ds s vs μ' H' p x r' re' rv => ?_
  cases rv with
  | nil => exact p.elim
  | cons r1 r2 =>
    cases r1 with
    | int i =>
      cases r2 with
      | nil => exact p.elim
      | cons r3 r4 =>
        cases r3 with
        | int j =>
          cases r4 with
          | nil =>
            simp only at p
            split at p
            · rename_i hj
              exact ⟨i, j, rfl, hj, p _ μ' H' x r' itok_rng⟩
            · exact p.elim
          | cons _ _ => exact p.elim
        | _ => exact p.elim
    | _ => exact p.elim
/-! enumerate of a list -/
def enumD (it : ITD) : ITD := ⟨it.items.zipIdx.map fun p => .tup [.int (p.2 : Nat), p.1], it.chk⟩
theorem enum_get {it : ITD} {i : Nat} {d : D} (h : it.items[i]? = some d) : (enumD it).items[i]? = some (.tup [.int (i : Nat), d]) := by
  simp [enumD, h]
theorem walk_enumG {K : PySem.W.Frag} {a : Addr} {n : Nat} : Walk (Ite K a) n (fun H => ∃ ys, SqL K H a ys ∧ ys.length = n) (fun i H v H' => ∃ T x, v = .ref T ∧ H T = none ∧ H' = upd H T (.tup [.int (i : Nat), x]) ∧ ∀ ys, SqL K H a ys → ys[i]? = some x) :=
  ⟨fun i H hi ⟨ys, q, l⟩ => ⟨ys, ys[i], q, by simp⟩, fun H ⟨ys, q, l⟩ => ⟨ys, q, by omega⟩, fun i H x H' hi ⟨ys, q, l⟩ y => y⟩
theorem itok_enum {K : PySem.W.Frag} {n : Nat} {a : Addr} {ds : List D} (hn : μ1[n]? = some a) : ItOk K (Ite K a) μ1 H1 (enumD ⟨ds, fun s => s[n]? = some (.lst ds)⟩) := by
  have at_ : ∀ {μ2 H2 st2}, Sub K μ1 H1 μ2 H2 → RH K μ2 H2 st2 → st2[n]? = some (.lst ds) → ∃ xs, SqL K H2 a xs ∧ RVs K μ2 H2 xs ds := fun x r h => seq_of_cell r (x.get hn) h
  refine ⟨_, _, walk_enumG, fun μ2 H2 st2 x r h => ?_, fun i x H2 H3 μ2 st2 hi x2 r2 h y => ?_⟩
  · obtain ⟨xs, hs, hv⟩ := at_ x r h
    exact ⟨xs, hs, by simp [enumD, hv.length]⟩
  · obtain ⟨T, y, rfl, hT, rfl, hx⟩ := y
    obtain ⟨xs, hs, hv⟩ := at_ x2 r2 h
    obtain ⟨d, hd, rv⟩ := hv.get' (hx xs hs)
    obtain ⟨xx, rr, vv⟩ := new_tup r2 hT (xs := [.int (i : Nat), y]) (ds := [.int (i : Nat), d]) (.cons (.int _) (.cons rv .nil))
    exact ⟨xx, rr, _, enum_get hd, vv⟩
def iEn (g : FA) : FI := fun ρ st => (g ρ st).bd fun ds s => match ds with
  | [.ref n] => match itD (.ref n) s with
    | some it => .ok (enumD it) s
    | none => .bad
  | _ => .bad
theorem wi_enum {g : FA} : WiD X W (iEnum X.K (tA X W g)) (iEn g) := by
  intro σ H Rr μ ρ st r re q
  refine tA.go r re (R.sat_bd.mp q) fun ds s vs μ' H' p x r' re' rv => ?_
  cases rv with
  | nil => exact p.elim
  | cons r1 r2 =>
    cases r1 with
    | ref hn =>
      rename_i n a
      cases r2 with
      | nil =>
        simp only [itD] at p
        split at p
        · rename_i it hi
          split at hi
          · rename_i ds hc
            cases hi
            obtain ⟨xs, hs, _⟩ := seq_of_cell r' hn hc
            exact ⟨a, xs, rfl, hs, p _ μ' H' x r' (itok_enum hn)⟩
          · cases hi
        · exact p.elim
      | cons _ _ => exact p.elim
    | _ => exact p.elim

/-! ### comprehensions -/
def wipeD (ρ : Env) : List Nat → Env
  | [] => ρ
  | v :: vs => (wipeD ρ vs).set v none
theorem RE.wipe {K : PySem.W.Frag} (re : RE K μ H σ ρ) : ∀ vs, RE K μ H (L2.wipe σ vs) (wipeD ρ vs)
  | [] => re
  | v :: vs => by
    have ih := RE.wipe re vs
    refine ⟨by show ((L2.wipe σ vs).set v none).length = ((wipeD ρ vs).set v none).length; rw [List.length_set, List.length_set]; exact ih.1, fun i d h => ?_⟩
    have h' : ((wipeD ρ vs).set v none)[i]? = some (some d) := h
    by_cases e : v = i
    · subst e
      by_cases hl : v < (wipeD ρ vs).length
      · rw [List.getElem?_set_self hl] at h'; cases h'
      · rw [List.getElem?_eq_none (by simpa using hl)] at h'; cases h'
    · rw [List.getElem?_set_ne e] at h'
      obtain ⟨u, hu, rv⟩ := ih.2 i d h'
      exact ⟨u, by show ((L2.wipe σ vs).set v none)[i]? = _; rw [List.getElem?_set_ne e]; exact hu, rv⟩
abbrev W0 : WX := fun _ _ _ _ => False
def tYesD : FT := fun _ st => .ok true st
open Classical in
noncomputable def lcGo (chk : Sto → Prop) (g : D → Env → Option Env) (tt : FT) (te : F) (ρ : Env) : List D → List D → Sto → R (List D)
  | [], acc, st => if chk st then .ok acc st else .bad
  | d :: ds, acc, st => if chk st then (match g d ρ with
    | none => .bad
    | some ρ1 => match tt ρ1 st with
      | .ok true s2 => (match te ρ1 s2 with
        | .ok y s3 => if acc.length < sizeLine then lcGo chk g tt te ρ ds (acc ++ [y]) s3 else .bad
        | _ => .bad)
      | .ok false s2 => lcGo chk g tt te ρ ds acc s2
      | _ => .bad) else .bad
@[irreducible] noncomputable def eLc (fi : FI) (g : D → Env → Option Env) (tt : FT) (te : F) (vs : List Nat) : F := fun ρ st => (fi ρ st).bd fun it s => (lcGo it.chk g tt te (wipeD ρ vs) it.items [] s).bd fun acc s2 => .ok (.ref s2.length) (s2 ++ [.lst acc])
theorem lcGo_chk {chk : Sto → Prop} {g tt te ρ} {ds acc : List D} {st : Sto} {P E} (h : (lcGo chk g tt te ρ ds acc st).Sat P E) : chk st := by
  cases ds with
  | nil =>
    unfold lcGo at h
    split at h
    · assumption
    · exact h.elim
  | cons d ds =>
    unfold lcGo at h
    split at h
    · assumption
    · exact h.elim
theorem wipe_idem (σ : L2.St) (vs : List Nat) : L2.wipe (L2.wipe σ vs) vs = L2.wipe σ vs := by
  have aux : ∀ ws : List Nat, (∀ i ∈ ws, i ∈ vs) → L2.wipe (L2.wipe σ ws) vs = L2.wipe σ vs := by
    intro ws
    induction ws with
    | nil => intro _; rfl
    | cons i ws ih =>
      intro h
      show L2.wipe ((L2.wipe σ ws).set i none) vs = _
      rw [wipe_set vs _ i (h i List.mem_cons_self)]
      exact ih fun j hj => h j (List.mem_cons_of_mem _ hj)
  exact aux vs fun _ h => h
theorem lc_conv {wi : TI} {fi : FI} {t : TG} {g} {tt : FT} {te : F} {vs : List Nat} (hw : WiD X W wi fi) (hl : GL X.K t g vs) :
    ∀ σ H Q μ ρ st, RH X.K μ H st → RE X.K μ H σ ρ → (eLc fi g tt te vs ρ st).Sat (Eok X μ H Q) (Eex X W μ H σ) → tLc wi t (tT X W0 tt) (tE X W0 te) vs σ H Q := by
  intro σ H Q μ ρ st r re q
  refine hw σ H _ μ ρ st r re ((R.sat_bd.mp (by unfold eLc at q; exact q)).mono (fun it s p J μ1 H1 x1 r1 ⟨G, Y, wk, l1, l2⟩ => ?_) fun _ _ z => z)
  intro D hD
  have pD : D ∉ μ1 := r1.notIn hD
  have xD : Ext X.K μ1 H1 μ1 (upd H1 D (.lst [])) := Ext.alloc r1 hD
  refine lc_it (Qd := Q (.ref D)) wk (fun i H' => ∃ μ' st' acc xs, Ext X.K μ1 H1 μ' H' ∧ RH X.K μ' H' st' ∧ D ∉ μ' ∧ H' D = some (.lst xs) ∧ RVs X.K μ' H' xs acc ∧
    (R.bd (lcGo it.chk g tt te (wipeD ρ vs) (it.items.drop i) acc st') fun acc s2 => R.ok (Rm.D.ref s2.length) (s2 ++ [.lst acc])).Sat (Eok X μ H Q) (fun _ _ => False))
    ⟨μ1, s, [], [], xD, r1.alloc hD, pD, upd_same, .nil, ?_⟩ ?_ ?_ ?_
  · have p' := p
    cases hg : lcGo it.chk g tt te (wipeD ρ vs) it.items [] s with
    | ok a b => simp only [hg] at p'; show R.Sat (R.bd (lcGo it.chk g tt te (wipeD ρ vs) it.items [] s) _) _ _; rw [hg]; exact p'
    | bad => simp only [hg] at p'; exact p'.elim
    | exc e b =>
      exfalso
      have noexc : ∀ (ds acc : List Rm.D) (s : Sto), lcGo it.chk g tt te (wipeD ρ vs) ds acc s ≠ .exc e b := by
        intro ds
        induction ds with
        | nil => intro acc s h; unfold lcGo at h; split at h <;> cases h
        | cons d ds ih =>
          intro acc s h
          unfold lcGo at h
          split at h
          · split at h
            · cases h
            · split at h
              · split at h
                · split at h
                  · exact ih _ _ h
                  · cases h
                · cases h
              · exact ih _ _ h
              · cases h
          · cases h
      exact noexc _ _ _ hg
  · rintro i H' _ ⟨μ', st', acc, xs, x', r', _, _, _, p'⟩
    exact l1 μ' H' st' x'.sub r' (lcGo_chk (R.sat_bd.mp p'))
  · rintro i x H2 H3 hi ⟨μ', st', acc, xs, x', r', nD, eD, hv, p'⟩ y
    have hk := lcGo_chk (R.sat_bd.mp p')
    obtain ⟨x3, r3, d, hd, rv⟩ := l2 i x H2 H3 μ' st' hi x'.sub r' hk y
    have hdr : it.items.drop i = d :: it.items.drop (i + 1) := by
      rw [List.drop_eq_getElem_cons hi]
      congr 1
      rw [List.getElem?_eq_getElem hi] at hd
      exact Option.some.inj hd
    rw [hdr] at p'
    unfold lcGo at p'
    rw [if_pos hk] at p'
    cases hgd : g d (wipeD ρ vs) with
    | none => rw [hgd] at p'; exact p'.elim
    | some ρ1 =>
      rw [hgd] at p'
      have rew : RE X.K μ' H3 (L2.wipe σ vs) (wipeD ρ vs) := ((re.mono (x1.trans x')).mono x3).wipe vs
      refine hl μ' H3 _ _ x d ρ1 _ rew rv hgd fun σ1 re1 w1 => ⟨w1.trans ?_, ?_⟩
      · exact wipe_idem σ vs
      · have eD3 := x3.fr D _ eD nD
        cases htt : tt ρ1 st' with
        | bad => simp only [htt] at p'; exact p'.elim
        | exc e s2 => simp only [htt] at p'; exact p'.elim
        | ok b s2 =>
          refine ⟨μ', ρ1, st', r3, re1, ?_⟩
          rw [htt]
          intro μ4 H4 x4 r4
          have nD4 : D ∉ μ4 := fun h => by
            rcases x4.new D h with h | h
            · exact nD h
            · rw [eD3] at h; cases h
          have eD4 := x4.fr D _ eD3 nD
          have x14 := (x'.trans x3).trans x4
          cases b with
          | false =>
            simp only [htt] at p'
            refine iteF ⟨μ4, s2, acc, xs, x14, r4, nD4, eD4, (hv.mono x3).mono x4, p'⟩
          | true =>
            simp only [htt] at p'
            refine iteT ?_
            cases hte : te ρ1 s2 with
            | bad => simp only [hte] at p'; exact p'.elim
            | exc e s3 => simp only [hte] at p'; exact p'.elim
            | ok y s3 =>
              simp only [hte] at p'
              refine ⟨μ4, ρ1, s2, r4, re1.mono x4, ?_⟩
              rw [hte]
              intro v μ5 H5 x5 r5 rv5
              have nD5 : D ∉ μ5 := fun h => by
                rcases x5.new D h with h | h
                · exact nD4 h
                · rw [eD4] at h; cases h
              have eD5 := x5.fr D _ eD4 nD4
              have hv5 := ((hv.mono x3).mono x4).mono x5
              split at p'
              · rename_i hlen
                refine ⟨xs, eD5, by rw [hv.length]; exact hlen, ?_⟩
                have x15 := (x14.trans x5)
                have sw : Sub X.K μ5 H5 μ5 (upd H5 D (.lst (xs ++ [v]))) := by
                  refine ⟨⟨[], by simp⟩, fun b ys q => ?_, fun b ys q => ?_⟩
                  · rcases q with (q | ⟨ob, q⟩) | q
                    · exact .inl (.inl (by rw [upd_ne (fun z => by subst z; rw [eD5] at q; cases q)]; exact q))
                    · exact .inl (.inr ⟨ob, by rw [upd_ne (fun z => by subst z; rw [eD5] at q; cases q)]; exact q⟩)
                    · exact .inr q
                  · rcases q with ⟨ob, q⟩ | q
                    · exact .inl ⟨ob, by rw [upd_ne (fun z => by subst z; rw [eD5] at q; cases q)]; exact q⟩
                    · exact .inr q
                refine ⟨μ5, s3, acc ++ [y], xs ++ [v], ⟨x15.pre, fun b ys q => sw.sq b ys (x15.sq b ys q), fun b ys q => sw.fz b ys (x15.fz b ys q), fun b ob q hn => ?_, x15.new⟩, r5.side sw fun b hb => upd_ne fun z => nD5 (z ▸ hb), nD5, upd_same, (hv5.append (.cons rv5 .nil)).monoS sw, p'⟩
                rw [upd_ne (ne_of_none q hD)]
                exact x15.fr b ob q hn
              · exact p'.elim
  · rintro H' ⟨μ', st', acc, xs, x', r', nD, eD, hv, p'⟩
    rw [List.drop_length] at p'
    have hk := lcGo_chk (R.sat_bd.mp p')
    unfold lcGo at p'
    rw [if_pos hk] at p'
    exact p' (.ref D) (μ' ++ [D]) H' (x1.trans (Ext.take hD x')) (r'.push nD ⟨xs, eD, hv⟩) (.ref (by rw [← r'.len, List.getElem?_append_right (Nat.le_refl _)]; simp))
end
end Rm

namespace Rm
open PySem PySem.Spec PyProof.Rows L2
section
variable {X : Cx} {W : WX} {μ μ1 μ2 : List Addr} {H H1 H2 : Hp} {st st1 : Sto} {σ : L2.St} {ρ : Env} {k : Nat}
/-! ### comprehensions, by their parts -/
structure SP1 (X : Cx) (W : WX) (ifs : List Expr) (f : FT) : Prop where run : PTs X ifs (tT X W f)
theorem sp_nil : SP1 X W [] tYesD := ⟨⟨fun pins s σ H Q I ⟨μ, ρ, st, r, re, q⟩ => pts_nil.run pins s σ H Q I (q μ H .refl r)⟩⟩
theorem sp_one {c : Expr} {f : FT} (h : ST X W c f) : SP1 X W [c] f := ⟨pts_one h.run⟩
theorem go_blk {scope : Scope} {cenv : PySem.Env} {fp : List Addr} {s : Shared} (g : Go X W k) : Go (X.blk s H scope cenv fp) W0 k := ⟨g.gd, g.calm, g.room, takes0, PassesOwn.never⟩
theorem se_lc {elt tg iter : Expr} {ifs : List Expr} {scope : Scope} {pos : Pos} {wi : TI} {fi : FI} {t : TG} {g} {tt : FT} {te : F} (own : List (Str × Nat)) (hc : Go X W k) (hN : X.N.Nodup) (hi : PI X tg iter wi) (hw : WiD X W wi fi) (ok : BlkOk X.N X.env.scope scope own)
    (hg : ∀ (s : Shared) (H : Hp) (C : Addr) (cl : List (Str × Addr)) (fp : List Addr), PG (X.blk s H scope (compEnvC scope cl C X.env) fp) tg t) (hl : GL X.K t g (own.map (·.2)))
    (ht : ∀ (s : Shared) (H : Hp) (C : Addr) (cl : List (Str × Addr)) (fp : List Addr), SP1 (X.blk s H scope (compEnvC scope cl C X.env) fp) W0 ifs tt)
    (he : ∀ (s : Shared) (H : Hp) (C : Addr) (cl : List (Str × Addr)) (fp : List Addr), SE (X.blk s H scope (compEnvC scope cl C X.env) fp) W0 elt te) (hs : ∀ x, foldedSetIterable iter X.env x = pure x := by intro _; rfl) :
    SE X W (.ListComp elt [⟨tg, iter, ifs, 0⟩] scope pos) (eLc fi g tt te (own.map (·.2))) :=
  .mk' (pe_lc (own := own) (tt := tT X W0 tt) (te := tE X W0 te) hc.calm hN hi ok hg (fun s H C cl fp => (ht s H C cl fp).run) (fun s H C cl fp => (he s H C cl fp).run) hs) (lc_conv hw hl)
theorem s_setLc {i : Nat} {y : Str} {py : Pos} {elt tg iter : Expr} {ifs : List Expr} {scope : Scope} {pos spos : Pos} {wi : TI} {fi : FI} {t : TG} {g} {tt : FT} {te : F} (own : List (Str × Nat)) (hc : Go X W k) (hN : X.N.Nodup) (hy : X.N[i]? = some y) (hyl : X.env.scope.names.lookup y = some .local)
    (hsw : swapsWith (.ListComp elt [⟨tg, iter, ifs, 0⟩] scope pos) (some (.Name y py)) spos.line X.env = pure true) (hi : PI X tg iter wi) (hw : WiD X W wi fi) (ok : BlkOk X.N X.env.scope scope own)
    (hg : ∀ (s : Shared) (H : Hp) (C : Addr) (cl : List (Str × Addr)) (fp : List Addr), PG (X.blk s H scope (compEnvC scope cl C X.env) fp) tg t) (hl : GL X.K t g (own.map (·.2)))
    (ht : ∀ (s : Shared) (H : Hp) (C : Addr) (cl : List (Str × Addr)) (fp : List Addr), SP1 (X.blk s H scope (compEnvC scope cl C X.env) fp) W0 ifs tt)
    (he : ∀ (s : Shared) (H : Hp) (C : Addr) (cl : List (Str × Addr)) (fp : List Addr), SE (X.blk s H scope (compEnvC scope cl C X.env) fp) W0 elt te) (hs : ∀ x, foldedSetIterable iter X.env x = pure x := by intro _; rfl) :
    SS X W (.Assign [.Name y py] (.ListComp elt [⟨tg, iter, ifs, 0⟩] scope pos) spos) (sAsgN (eLc fi g tt te (own.map (·.2))) (gN i)) :=
  .mk' (ps_setLc (own := own) (tt := tT X W0 tt) (te := tE X W0 te) hc.calm hN hy hyl hsw hi ok hg (fun s H C cl fp => (ht s H C cl fp).run) (fun s H C cl fp => (he s H C cl fp).run) hs) (asg_conv (vs := [i]) (gl_name List.mem_cons_self) (lc_conv hw hl))

theorem bs_goX {α : Type} {r : R α} {ρ : Env} {k : α → Sto → RS} {E : Ends} (x : Ext X.K μ H μ1 H1) (re : RE X.K μ1 H1 σ ρ) (h : SOk X W μ H E (r.bs ρ k)) : r.Sat (fun a s => SOk X W μ H E (k a s)) (Eex X W μ1 H1 σ) :=
  (R.sat_bs.mp h).mono (fun _ _ z => z) fun e s z cls dx μ' H' y r' q => z σ cls dx μ' H' (x.trans y) r' (re.mono y) q
/-! ### while -/
def whGo (c : FT) (b : FS) : Nat → FS
  | 0, _, _ => .bad
  | n + 1, ρ, st => (c ρ st).bs ρ fun k s => if k = true then (match b ρ s with
    | .nx ρ2 s2 => whGo c b n ρ2 s2
    | .ct ρ2 s2 => whGo c b n ρ2 s2
    | .bk ρ2 s2 => .nx ρ2 s2
    | o => o) else .nx ρ s
theorem s_while {c : Expr} {body : List Stmt} {t : FT} {b : FS} {pos : Pos} (n : Nat) (hc : Go X W k) (ht : ST X W c t) (hb : SSs X W body b) : SS X W (.While c body [] pos) (whGo t b n) :=
  .mk' (ps_while hc.own ht.run hb.run) fun E σ H μ ρ st r re q => by
    refine ⟨fun m σ' H' => ∃ μ' ρ' st', Ext X.K μ H μ' H' ∧ RH X.K μ' H' st' ∧ RE X.K μ' H' σ' ρ' ∧ SOk X W μ H E (whGo t b m ρ' st'), ⟨n, μ, ρ, st, .refl, r, re, q⟩, ?_⟩
    rintro m σ' H' ⟨μ', ρ', st', x', r', re', q'⟩
    cases m with
    | zero => exact q'.elim
    | succ m =>
      refine tT.go r' re' (bs_goX x' re' q') fun d s μ2 H2 p x2 r2 re2 => ?_
      have x12 := x'.trans x2
      cases d with
      | false => exact iteF (p σ' μ2 H2 x12 r2 re2)
      | true =>
        refine iteT ⟨_, fun σ3 H3 h => ⟨m, Nat.lt_succ_self m, h⟩, μ2, ρ', s, r2, re2, ?_⟩
        rw [if_pos rfl] at p
        cases hb : b ρ' s with
        | nx ρ2 s2 =>
          rw [hb] at p
          exact fun σ3 μ3 H3 x3 r3 re3 => ⟨μ3, ρ2, s2, x12.trans x3, r3, re3, p⟩
        | ct ρ2 s2 =>
          rw [hb] at p
          exact fun σ3 μ3 H3 x3 r3 re3 => ⟨μ3, ρ2, s2, x12.trans x3, r3, re3, p⟩
        | bk ρ2 s2 => rw [hb] at p; exact Nok.mono (X := X) (N := E.nx) p x12
        | rt d2 s2 => rw [hb] at p; exact Eok.mono (X := X) (Q := E.rt) p x12
        | exc e ρ2 s2 => rw [hb] at p; exact Xok.mono p x12
        | bad => rw [hb] at p; exact p.elim

/-! ### stores of any form -/
abbrev FG' := D → Env → Sto → R Env
def tG (X : Cx) (W : WX) (g : FG') : TG := fun v σ H Q => ∃ μ ρ st d, RH X.K μ H st ∧ RE X.K μ H σ ρ ∧ RV X.K μ H v d ∧ (g d ρ st).Sat (Nok X μ H Q) (Eex X W μ H σ)
def tGs (X : Cx) (W : WX) (g : List D → Env → Sto → R Env) : TGs := fun v σ H Q => ∃ μ ρ st d, RH X.K μ H st ∧ RE X.K μ H σ ρ ∧ RVs X.K μ H v d ∧ (g d ρ st).Sat (Nok X μ H Q) (Eex X W μ H σ)
structure SG (X : Cx) (W : WX) (tg : Expr) (g : FG') : Prop where run : PG X tg (tG X W g)
structure SGs (X : Cx) (W : WX) (tg : List Expr) (g : List D → Env → Sto → R Env) : Prop where run : PGs X tg (tGs X W g)
theorem SG.mk' {tg : Expr} {t : TG} {g : FG'} (h : PG X tg t) (c : ∀ v σ H Q μ ρ st d, RH X.K μ H st → RE X.K μ H σ ρ → RV X.K μ H v d → (g d ρ st).Sat (Nok X μ H Q) (Eex X W μ H σ) → t v σ H Q) : SG X W tg g :=
  ⟨⟨fun pins s σ H v u Q I rv ⟨μ, ρ, st, d, r, re, rd, q⟩ => h.run pins s σ H v u Q I rv (c v σ H Q μ ρ st d r re rd q)⟩⟩
theorem SGs.mk' {tg : List Expr} {t : TGs} {g : List D → Env → Sto → R Env} (h : PGs X tg t) (c : ∀ v σ H Q μ ρ st d, RH X.K μ H st → RE X.K μ H σ ρ → RVs X.K μ H v d → (g d ρ st).Sat (Nok X μ H Q) (Eex X W μ H σ) → t v σ H Q) : SGs X W tg g :=
  ⟨⟨fun pins s σ H v u Q I rv ⟨μ, ρ, st, d, r, re, rd, q⟩ => h.run pins s σ H v u Q I rv (c v σ H Q μ ρ st d r re rd q)⟩⟩
def gName' (g : D → Env → Option Env) : FG' := fun d ρ st => match g d ρ with
  | some ρ' => .ok ρ' st
  | none => .bad
theorem sg_pure {tg : Expr} {t : TG} {g} {vs : List Nat} (h : PG X tg t) (hl : GL X.K t g vs) : SG X W tg (gName' g) := .mk' h fun v σ H Q μ ρ st d r re rd q => by
  unfold gName' at q
  cases hg : g d ρ with
  | none => rw [hg] at q; exact q.elim
  | some ρ' => rw [hg] at q; exact hl μ H σ ρ v d ρ' Q re rd hg fun σ' re' _ => q σ' μ H .refl r re'
/-- d[i] = v -/
def keyEq : D → D → Bool
  | .int a, .int b => a == b
  | .str a, .str b => a == b
  | .tup as, .tup bs => decide (keysOf as = keysOf bs) && (keysOf as).isSome
  | _, _ => false
def putD (kds : List (D × D)) (k d : D) : List (D × D) := if kds.any (fun p => keyEq p.1 k) = true then kds.map (fun p => if keyEq p.1 k = true then (p.1, d) else p) else kds ++ [(k, d)]
def setD (o i v : D) (st : Sto) : Option Sto := match o, i with
  | .ref n, .int k => match st[n]? with
    | some (.lst ds) => (ixN ds.length k).map fun j => st.set n (.lst (ds.set j v))
    | _ => none
  | _, _ => none
def gSubD (fo fi : F) : FG' := fun d ρ st => (fo ρ st).bd fun o s => (fi ρ s).bd fun i s2 => match setD o i d s2 with
  | some s3 => .ok ρ s3
  | none => .bad
theorem set_at {K : PySem.W.Frag} {o i v : V} {do_ di dv : D} {st' : Sto} {Q : Hp → Prop} (r : RH K μ H st) (ro : RV K μ H o do_) (ri : RV K μ H i di) (rv : RV K μ H v dv) (h : setD do_ di dv st = some st') (q : ∀ H', Ext K μ H μ H' → RH K μ H' st' → Q H') : rSetL o i v H Q := by
  cases ro with
  | ref hn =>
    rename_i n a
    cases ri with
    | int k =>
      simp only [setD] at h
      split at h
      · rename_i ds hc
        obtain ⟨j, hj, rfl⟩ := Option.map_eq_some_iff.mp h
        obtain ⟨xs, e, rs⟩ := r.cell _ _ _ hn hc
        obtain ⟨x, r'⟩ := put_lst r hn hc e (rs.set rv j)
        exact ⟨a, xs, k, j, rfl, rfl, e, by rw [rs.length]; exact hj, q _ x r'⟩
      · cases h
    | _ => cases h
  | _ => cases h
theorem sg_sub {o i : Expr} {fo fi : F} {pos : Pos} (ho : SE X W o fo) (hi : SE X W i fi) (hs : ∀ v : Value, assign (.Subscript o i pos) X.env v = (do
      let ov ← holding [v] (eval o X.env)
      let iv ← holding [v, ov] (eval i X.env)
      standAt pos
      holding [v, ov, iv] (setItem ov iv v)
      release [v, ov, iv] []) := by intro _; rfl) : SG X W (.Subscript o i pos) (gSubD fo fi) :=
  .mk' (pg_sub ho.run hi.run set_list hs) fun v σ H Q μ ρ st d r re rd q => tE.go r re (R.sat_bd.mp q) fun d1 s1 v1 μ1 H1 p1 x1 r1 re1 rv1 =>
    tE.go r1 re1 ((R.sat_bd.mp p1).mono (fun _ _ z => z) fun _ _ z => z.mono x1) fun d2 s2 v2 μ2 H2 p2 x2 r2 re2 rv2 => by
      cases hset : setD d1 d2 d s2 with
      | none => simp only [hset] at p2; exact p2.elim
      | some s3 =>
        simp only [hset] at p2
        exact set_at r2 (rv1.mono x2) rv2 (rd.mono (x1.trans x2)) hset fun H' x' r' => p2 σ μ2 H' ((x1.trans x2).trans x') r' (re2.mono x')
def sAsgG (f : F) (g : FG') : FS := fun ρ st => (f ρ st).bs ρ fun d s => (g d ρ s).bs ρ fun ρ' s2 => .nx ρ' s2
theorem s_asgG {e tg : Expr} {f : F} {g : FG'} {pos : Pos} (he : SE X W e f) (hg : SG X W tg g) (h1 : swapsWithSole [tg] e pos.line X.env = pure false := by rfl) (h2 : swappedStores [tg] e X.env = pure none := by rfl)
    (h3 : List.map (fun x => x.2) (assignEach [tg] X.env) = [assign tg X.env] := by rfl) : SS X W (.Assign [tg] e pos) (sAsgG f g) :=
  .mk' (ps_asg he.run hg.run h1 h2 h3) fun E σ H μ ρ st r re q => tE.go r re (bs_go re q) fun d s v μ' H' p x r' re' rv =>
    ⟨μ', ρ, s, d, r', re', rv, (bs_goX x re' p).mono (fun ρ' s' z σ2 μ2 H2 x2 r2 re2 => z σ2 μ2 H2 (x.trans x2) r2 re2) fun _ _ z => z⟩

/-! ### a def's body -/
def startD (n : Nat) (ds : List D) : Env := ds.map some ++ List.replicate (n - ds.length) none
/-- a def by its body: n slots -/
@[irreducible] def bodyD (n : Nat) (b : FS) : List D → Sto → R D := fun ds st => match b (startD n ds) st with
  | .nx _ s => .ok .non s
  | .rt d s => .ok d s
  | .exc e _ s => .exc e s
  | _ => .bad
theorem re_start {K : PySem.W.Frag} {N : List Str} {vs : List V} {ds : List D} (h : RVs K μ H vs ds) : RE K μ H (L2.start N vs) (startD N.length ds) := by
  have hl := h.length
  refine ⟨by unfold L2.start startD; simp [hl], fun i d e => ?_⟩
  unfold startD at e
  by_cases hi : i < ds.length
  · rw [List.getElem?_append_left (by simpa using hi), List.getElem?_map] at e
    obtain ⟨d', h1, h2⟩ := Option.map_eq_some_iff.mp e
    cases h2
    obtain ⟨v, hv, rv⟩ := h.get h1
    refine ⟨v, ?_, rv⟩
    unfold L2.start
    rw [List.getElem?_append_left (by rw [List.length_map, hl]; exact hi), List.getElem?_map, hv]
    rfl
  · rw [List.getElem?_append_right (by simpa using hi), List.getElem?_replicate] at e
    split at e <;> cases e
end
section
variable {P : Program} {w : World} {K : PySem.W.Frag} {mg : Str → Option Value} {base : Heap} {k : Nat} {f : Addr} {fd : FuncData} {N ps : List Str} {x : Str} {s_ : Stmt} {b : FS}
abbrev WD (E : XK) : WX := fun cls d _ H => E cls d H
theorem body_sat {μ : List Addr} {H : Hp} {X : Cx} {E : XK} {Q : VK} {ds : List D} {st : Sto}
    (h : (bodyD N.length b ds st).Sat (fun d st' => ∀ v μ' H', Ext X.K μ H μ' H' → RH X.K μ' H' st' → RV X.K μ' H' v d → Q v H') (fun e st' => ∀ cls dx μ' H', Ext X.K μ H μ' H' → RH X.K μ' H' st' → RX X.K X.mg μ' H' e cls dx → E cls dx H')) :
    SOk X (WD E) μ H { nx := fun _ H' => Q .non H', rt := Q } (b (startD N.length ds) st) := by
  unfold bodyD at h
  cases hb : b (startD N.length ds) st with
  | nx ρ s => rw [hb] at h; exact fun σ' μ' H' x r _ => h .non μ' H' x r .non
  | rt d s => rw [hb] at h; exact h
  | exc e ρ s => rw [hb] at h; exact fun σ' cls dx μ' H' x r _ q => h cls dx μ' H' x r q
  | bk ρ s => rw [hb] at h; exact h.elim
  | ct ρ s => rw [hb] at h; exact h.elim
  | bad => rw [hb] at h; exact h.elim
theorem ok_def (F : FunD K x x (defArgs s_) (defBody s_) (defScope s_) [] [] f fd) (S : FnScope N ps (defScope s_)) (hm : mg x = some (.ref f))
    (hbind : ∀ (kV doc pm : Value) (an : Option Addr) (cdv ct : Value) (us : List Value), us.length = ps.length → bindArgs (PySem.W.fnOf x x (defArgs s_) (defBody s_) (defScope s_) .none kV doc pm an cdv ct) ⟨us, []⟩ = pure (ps.zip us))
    (hb : ∀ (cdv : Value) (A : Around) (outer : List PySem.Env) (s : Shared) (H : Hp) (E : XK), Go (cxOf (L2.CX P w) P w K mg base N x (defScope s_) f cdv A outer s H E) (WD E) k → SSs (cxOf (L2.CX P w) P w K mg base N x (defScope s_) f cdv A outer s H E) (WD E) (defBody s_) b) :
    Cal P w K mg base (k + 1) x s_ ps (bodyD N.length b) := by
  have bN := F.bindsN hbind
  obtain ⟨oc, od, dV, kV, doc, pm, an, cdv, ct, osl, rfl, lk, hcd, hD, hK⟩ := F.ex
  obtain rfl : dV = Value.none := by
    rcases hD with ⟨_, e⟩ | ⟨e, _⟩
    · exact e
    · exact absurd rfl e
  refine ⟨⟨f, _, ⟨fun vs H Q E h => ?_, fun A outer s H args us vs Q E hg hr e0 hbd r hsp => ?_⟩, hm, F.kp, bN, kV, doc, pm, an, cdv, ct, rfl⟩⟩
  · obtain ⟨μ, st, ds, _, rv, hl, _⟩ := h
    exact rv.length.trans hl
  · obtain ⟨μ, st, ds, rh, rv, hl, sat⟩ := hsp
    have hlen : vs.length = ps.length := rv.length.trans hl
    have inK : K.In s.heap := e0.mod.kin.keeps fun b o e => (e0.bs b o e).1
    have noLim : s.heap.NoLimit := e0.mod.nolimit.keeps fun b o e => (e0.bs b o e).1
    have kinds : ∀ y ∈ ps.zip us, (defScope s_).names.lookup y.1 = some .local ∨ ((defScope s_).names.lookup y.1 = some .cell ∧ ((cellsFrom (s.heap.objs.size + 1) (defScope s_).names []).lookup y.1).isSome = true) := by
      intro y hy
      obtain ⟨n, v⟩ := y
      rcases S.par n (List.of_mem_zip hy).1 with q | q
      · exact Or.inl q
      · exact Or.inr ⟨q, PySem.W.cellsFrom_some _ _ _ (Or.inl q)⟩
    refine codeAny_call_function hr.depth (inK _ _ lk) rfl S.co S.gen rfl (PySem.W.codeRec_of inK hcd) (hbd _ _ _ _ ?_)
    refine wpAny_newFunctionEnv_cells S.kind kinds fun env he s1 entered => ?_
    subst he
    refine ⟨noLim.keeps entered.toInCall.keep, codeAny_func ?_⟩
    have I := inv_start (CX := L2.CX P w) (P := P) (w := w) (K := K) (mg := mg) (base := base) (qual := x) (f := f) (cd := cdv) (E := E) S hr.hd e0 hlen r entered
    have go : Go (cxOf (L2.CX P w) P w K mg base N x (defScope s_) f cdv A outer s H E) (WD E) k :=
      ⟨hg, rfl, hr.deeper _, takes_of rfl rfl rfl rfl, passes_of rfl⟩
    have run := (hb cdv A outer s H E go).run.run [] s1 (L2.start N vs) H { nx := fun _ H' => Q .non H', rt := Q } I ⟨μ, startD N.length ds, st, rh, re_start rv, body_sat (X := cxOf (L2.CX P w) P w K mg base N x (defScope s_) f cdv A outer s H E) sat⟩
    refine wpAny_mono run (fun fl s' hs => ?_) fun e s' hs => hs
    cases fl with
    | ret u =>
      obtain ⟨v, σ', H', J, rv', q⟩ := hs
      exact ⟨v, H', J.os, J.bare, J.base, J.hok, rv', q⟩
    | next =>
      obtain ⟨σ', H', J, q⟩ := hs
      exact ⟨V.non, H', J.os, J.bare, J.base, J.hok, rfl, q⟩
    | brk => obtain ⟨_, _, _, q⟩ := hs; exact q.elim
    | cont => obtain ⟨_, _, _, q⟩ := hs; exact q.elim
end
end Rm

namespace Rm
open PySem PySem.Spec PyProof.Rows L2

/-! ## The end: the law's own def, called with the script -/
theorem cx_false {P : Program} {w : World} {H : Hp} {s s' : Shared} {e : Value} (h : L2.CX P w [] H s (fun _ _ _ => False) e s') : False := by
  obtain ⟨_, _, _, _, _, _, _, _, _, _, _, _, z⟩ := h
  exact z
section
variable {P : Program} {w : World} {K : PySem.W.Frag} {mg mb : Str → Option Value} {k : Nat} {fa a : Addr} {x : Str} {φ : List D → Sto → R D} {s1 : Shared} {vs : List Value} {ns : List Int}
theorem ints_rvs {μ : List Addr} {H : Hp} : ∀ l : List Int, RVs K μ H (l.map V.int) (l.map D.int)
  | [] => .nil
  | i :: l => .cons (.int i) (ints_rvs l)
/-- from a heap in which nothing is tracked but, perhaps, the script -/
theorem law_from {H : Hp} (inK : K.In s1.heap) (names : s1.heap.Ns mainGlobals mg) (bnames : s1.heap.Ns builtinsNs mb) (boots : ∀ y : Str, y ≠ "__name__" → mb y = bootBuiltins y) (noLim : s1.heap.NoLimit) (noGen : s1.gens = #[])
    (at_a : s1.heap.get? a = some { cls := .type "list", data := .seq vs.toArray }) (room : Room k callerA)
    (F : ∀ base : Heap, K.In base → base.Ns mainGlobals mg → ∃ fd, FnG P w K mg base k fa fd [x] (spD K mg 1 φ) ∧ ∀ (s : Shared) (u : Value), BindsTo s fd ⟨[u], []⟩ [(x, u)])
    (run : ∃ s', φ [.kl (ns.map .int)] [] = .ok (.bl true) s') (only : Only H) (fz : FzL K H a (ns.map V.int)) (ok : HOk P w H s1.heap) (just : ∀ b, H b ≠ none → b = a) (out : H a ≠ none → K.lookup a = none) :
    codeAny (model P w) callerA (.call (.ref fa) ⟨[.ref a], []⟩) (fun r s' => r = .ok (.ret (.bool true)) ∧ OldK s1.heap s'.heap ∧ s'.os = s1.os ∧ AllBare s'.gens) s1 := by
  have dictFree : ∀ {b : Addr} {o : Obj} {es : Array DictEntry} {ep : Nat}, s1.heap.get? b = some o → o.data = .dict es ep → H b = none := by
    intro b o es ep ho hd
    cases hb : H b with
    | none => rfl
    | some u =>
      have eq := just b (by rw [hb]; simp)
      subst eq
      rw [at_a] at ho
      cases ho
      exact absurd (show Data.seq vs.toArray _ = Data.dict es ep from hd) (by intro z; cases z)
  have nsStay : ∀ {b : Addr} {m : Str → Option Value}, s1.heap.Ns b m → (hidT s1.heap H).Ns b m := by
    rintro b m ⟨o, es, ep, ho, hd, rest⟩
    exact ⟨o, es, ep, hidT_get ho (dictFree ho hd), hd, rest⟩
  have inB : K.In (hidT s1.heap H) := by
    intro b o ho
    refine hidT_get (inK b o ho) ?_
    cases hb : H b with
    | none => rfl
    | some u =>
      have eq := just b (by rw [hb]; simp)
      subst eq
      have := out (by rw [hb]; simp)
      rw [this] at ho
      cases ho
  have md : Mod K mg (hidT s1.heap H) := by
    refine ⟨inB, nsStay names, ⟨mb, nsStay bnames, boots⟩, ?_⟩
    obtain ⟨mc, c1, c2⟩ := noLim
    exact ⟨mc, nsStay c1, c2⟩
  have env : Env0 P w K mg (hidT s1.heap H) callerA [] s1 H := by
    refine ⟨rfl, md, fun b o ho => of_hidT ho, Nat.le_of_eq (hidT_size _ _), trivial, fun b hb => ?_, ok, .of_eq noGen⟩
    cases hb
  obtain ⟨s', hrun⟩ := run
  have promise : spD K mg 1 φ [.ref a] H (fun v _ => v = .bl true) (fun _ _ _ => False) := by
    refine ⟨[], [], [.kl (ns.map .int)], ⟨rfl, List.nodup_nil, fun n b c h => by simp at h⟩, .cons (.kl fz (ints_rvs ns)) .nil, rfl, ?_⟩
    rw [hrun]
    intro v μ' H' _ _ rv
    cases rv
    rfl
  obtain ⟨fd, G, bind⟩ := F _ inB (nsStay names)
  refine codeAny_mono (G.go callerA [] s1 H ⟨[.ref a], []⟩ [.ref a] [.ref a] _ _ rfl room env (bind s1 (.ref a)) (.cons rfl .nil) promise) fun r s2 h => ?_
  cases r with
  | error e => exact (cx_false h).elim
  | ok fl =>
    cases fl with
    | ret u =>
      obtain ⟨v, H', os, bare, un, ok', rel, q⟩ := h
      have q' : v = .bl true := q
      subst q'
      obtain rfl : u = Value.bool true := rel
      refine ⟨rfl, OldK.of_keep fun b o ho => ?_, os, bare⟩
      cases hb : H b with
      | none => exact un.keep b o ho hb (by intro z; cases z) (by intro z; cases z)
      | some u =>
        rcases only b with z | ⟨ob, xs, z⟩
        · rw [hb] at z; cases z
        · obtain ⟨e1, _⟩ := ok b _ z
          obtain ⟨e2, _⟩ := ok' b _ (un.frzs b ob _ z)
          rw [ho] at e1
          cases e1
          exact e2
    | _ => exact False.elim h
theorem law_end (inK : K.In s1.heap) (names : s1.heap.Ns mainGlobals mg) (bnames : s1.heap.Ns builtinsNs mb) (boots : ∀ y : Str, y ≠ "__name__" → mb y = bootBuiltins y) (noLim : s1.heap.NoLimit) (noGen : s1.gens = #[])
    (at_a : s1.heap.get? a = some { cls := .type "list", data := .seq vs.toArray }) (areInts : IntsAre vs ns) (few : ns.length ≤ sizeLine) (room : Room k callerA)
    (F : ∀ base : Heap, K.In base → base.Ns mainGlobals mg → ∃ fd, FnG P w K mg base k fa fd [x] (spD K mg 1 φ) ∧ ∀ (s : Shared) (u : Value), BindsTo s fd ⟨[u], []⟩ [(x, u)])
    (run : ∃ s', φ [.kl (ns.map .int)] [] = .ok (.bl true) s') :
    codeAny (model P w) callerA (.call (.ref fa) ⟨[.ref a], []⟩) (fun r s' => r = .ok (.ret (.bool true)) ∧ OldK s1.heap s'.heap ∧ s'.os = s1.os ∧ AllBare s'.gens) s1 := by
  have rel := vals_ints areInts
  cases look : K.lookup a with
  | some o =>
    have there := inK a o look
    rw [at_a] at there
    cases there
    exact law_from (H := fun _ => none) inK names bnames boots noLim noGen at_a room F run (fun _ => .inl rfl) (.inr ⟨_, vs.toArray, _, look, rfl, rfl, rfl, by rw [List.size_toArray, areInts.length]; exact few, by simpa using rel⟩)
      (fun b u z => by cases (show (none : Option HO) = some u from z)) (fun b z => absurd rfl z) fun z => absurd rfl z
  | none =>
    have here : ∀ {b : Addr} {u : HO}, (if b = a then some (HO.frz { cls := .type "list", data := .seq vs.toArray } (.lst (ns.map V.int))) else none) = some u → b = a ∧ u = .frz { cls := .type "list", data := .seq vs.toArray } (.lst (ns.map V.int)) := by
      intro b u h
      split at h
      · cases h; exact ⟨by assumption, rfl⟩
      · cases h
    refine law_from (H := fun b => if b = a then some (.frz { cls := .type "list", data := .seq vs.toArray } (.lst (ns.map V.int))) else none) inK names bnames boots noLim noGen at_a room F run (fun b => ?_) (.inl ⟨{ cls := .type "list", data := .seq vs.toArray }, if_pos rfl⟩) (fun b u z => ?_) (fun b z => ?_) fun _ => look
    · by_cases e : b = a
      · exact .inr ⟨_, _, if_pos e⟩
      · exact .inl (if_neg e)
    · obtain ⟨e1, e2⟩ := here z
      subst e1 e2
      exact ⟨at_a, by rw [List.length_map]; exact few, vs, _, rel, at_a⟩
    · by_cases e : b = a
      · exact e
      · exact absurd (if_neg e) z
end
/-- the row, from the law's def -/
theorem row_end {l : PySem.W.OpenLaw} {n k : Nat} {q : Program} {loose : List Str} {XP : (Str → Option Value) → Heap → Prop} {YP : World → Heap → Prop} {d : DefRec} {x : Str} {φ : List D → Sto → R D}
    (most : l.most = some n) (few : n ≤ sizeLine) (noDef : d.params.defaults = []) (room : Room k callerA)
    (F : ∀ (w : World) (mg : Str → Option Value) (fa : Addr) (h : Heap), YP w h → h.Ns mainGlobals mg → mg d.name = some (.ref fa) →
      ∃ (K : PySem.W.Frag), K.In h ∧ ∀ base : Heap, K.In base → base.Ns mainGlobals mg → ∃ fd, FnG l.prog w K mg base k fa fd [x] (spD K mg 1 φ) ∧ ∀ (s : Shared) (u : Value), BindsTo s fd ⟨[u], []⟩ [(x, u)])
    (run : ∀ ns : List Int, ns.length ≤ n → ∃ s', φ [.kl (ns.map .int)] [] = .ok (.bl true) s') : PySem.W.WalkO q loose XP YP l.row.toRowW d [] (fun f vs => PySem.call f vs) := by
  refine Att.attach_call most noDef fun w s0 s1 mg mb fa o pm cd doc a vs ns G Y ho hd hcd hmg hobj hints hlen hg => ?_
  obtain ⟨K, inK, keeps⟩ := F w mg fa _ Y G.T.g hmg
  exact law_end inK G.T.g G.T.b G.T.builtins G.T.nolimit hg hobj hints (Nat.le_trans hlen few) room keeps (run ns hlen)
/-- a def that is kept, at the law's own address -/
theorem Cal.at {P : Program} {w : World} {K : PySem.W.Frag} {mg : Str → Option Value} {base : Heap} {k : Nat} {x : Str} {s_ : Stmt} {p : Str} {φ : List D → Sto → R D} {fa : Addr} (C : Cal P w K mg base k x s_ [p] φ) (h : mg x = some (.ref fa))
    (hb : ∀ (kV doc pm : Value) (an : Option Addr) (cdv ct u : Value), bindArgs (PySem.W.fnOf x x (defArgs s_) (defBody s_) (defScope s_) .none kV doc pm an cdv ct) ⟨[u], []⟩ = pure [(p, u)]) :
    ∃ fd, FnG P w K mg base k fa fd [p] (spD K mg 1 φ) ∧ ∀ (s : Shared) (u : Value), BindsTo s fd ⟨[u], []⟩ [(p, u)] := by
  obtain ⟨f, fd, F, hm, _, _, kV, doc, pm, an, cdv, ct, e⟩ := C.ex
  rw [hm] at h
  cases h
  exact ⟨fd, F, fun s u => by rw [e]; exact .of_eq (hb kV doc pm an cdv ct u)⟩
end Rm

namespace Rm
open PySem PySem.Spec PyProof.Rows L2
section
variable {K : PySem.W.Frag} {X : Cx} {W : WX} {μ : List Addr} {H : Hp} {st : Sto}
/-! ## Built-ins -/
theorem one_rv {xs : List V} {d : D} (h : RVs K μ H xs [d]) : ∃ v, xs = [v] ∧ RV K μ H v d := by
  cases h with
  | cons r t => cases t; exact ⟨_, rfl, r⟩
theorem two_rv {xs : List V} {d e : D} (h : RVs K μ H xs [d, e]) : ∃ v u, xs = [v, u] ∧ RV K μ H v d ∧ RV K μ H u e := by
  cases h with
  | cons r t =>
    obtain ⟨u, rfl, ru⟩ := one_rv t
    exact ⟨_, u, rfl, r, ru⟩
def lenO : List D → Sto → Option (D × Sto)
  | [.str x], st => if x.length ≤ sizeLine then some (.int x.length, st) else none
  | [d], st => (seqD d st).map fun ds => (.int ds.length, st)
  | _, _ => none
theorem dLen : CaD K (fun xs H Q => ∃ x n, xs = [x] ∧ LenV K x H n ∧ Q (V.int (n : Nat)) H) lenO := by
  intro μ H st xs ds Q r rs q
  match ds, rs, q with
  | [d], rs, q =>
    obtain ⟨v, rfl, rv⟩ := one_rv rs
    have gen : OSat ((seqD d st).map fun ds => (D.int ds.length, st)) (fun d st' => ∀ v μ' H', Ext K μ H μ' H' → RH K μ' H' st' → RV K μ' H' v d → Q v H') → ∃ x n, [v] = [x] ∧ LenV K x H n ∧ Q (V.int (n : Nat)) H := by
      intro q
      cases h : seqD d st with
      | none => rw [h] at q; exact q.elim
      | some es =>
        rw [h] at q
        obtain ⟨a, ys, rfl, rys, hs⟩ := seq_at r rv h
        have q' := q (.int es.length) μ H .refl r (.int _)
        rw [← rys.length] at q'
        rcases hs with hs | hs
        · exact ⟨_, ys.length, rfl, .inl ⟨ys, hs, rfl⟩, q'⟩
        · exact ⟨_, ys.length, rfl, .inr ⟨ys, hs, rfl⟩, q'⟩
    cases rv with
    | str x =>
      simp only [lenO] at q
      split at q
      · exact ⟨_, x.length, rfl, ⟨by assumption, rfl⟩, q _ _ _ .refl r (.int _)⟩
      · exact q.elim
    | _ => exact gen q
  | [], _, q => exact q.elim
  | _ :: _ :: _, _, q => exact absurd q (by simp [lenO, OSat])
def absO : List D → Sto → Option (D × Sto)
  | [.int i], st => some (.int (if i < 0 then -i else i), st)
  | _, _ => none
theorem dAbs : CaD K (fun xs H Q => ∃ i, xs = [.int i] ∧ Q (.int (if i < 0 then -i else i)) H) absO := by
  intro μ H st xs ds Q r rs q
  unfold absO at q
  split at q
  · obtain ⟨v, rfl, rv⟩ := one_rv rs
    cases rv
    exact ⟨_, rfl, q _ _ _ .refl r (.int _)⟩
  · exact q.elim
def intO : List D → Sto → Option (D × Sto)
  | [.int i], st => some (.int i, st)
  | [.bl b], st => some (.int (if b then 1 else 0), st)
  | _, _ => none
theorem dInt : CaD K (fun xs H Q => (∃ i, xs = [.int i] ∧ Q (.int i) H) ∨ ∃ k, xs = [.bl k] ∧ Q (.int (if k then 1 else 0)) H) intO := by
  intro μ H st xs ds Q r rs q
  unfold intO at q
  split at q
  · obtain ⟨v, rfl, rv⟩ := one_rv rs
    cases rv
    exact .inl ⟨_, rfl, q _ _ _ .refl r (.int _)⟩
  · obtain ⟨v, rfl, rv⟩ := one_rv rs
    cases rv
    exact .inr ⟨_, rfl, q _ _ _ .refl r (.int _)⟩
  · exact q.elim
def tupO : List D → Sto → Option (D × Sto)
  | [d], st => (seqD d st).map fun ds => (.tup ds, st)
  | _, _ => none
theorem dTup : CaD K (fun xs H Q => ∃ p ys, xs = [V.ref p] ∧ ((SqL K H p ys ∧ ∀ (l : Addr), H l = none → Q (V.ref l) (upd H l (HO.tup ys))) ∨ SqT K H p ys ∧ Q (V.ref p) H)) tupO := by
  intro μ H st xs ds Q r rs q
  match ds, rs, q with
  | [d], rs, q =>
    obtain ⟨v, rfl, rv⟩ := one_rv rs
    simp only [tupO] at q
    cases h : seqD d st with
    | none => rw [h] at q; exact q.elim
    | some es =>
      rw [h] at q
      obtain ⟨a, ys, rfl, rys, hs⟩ := seq_at r rv h
      rcases hs with hs | hs
      · refine ⟨a, ys, rfl, .inl ⟨hs, fun l hl => ?_⟩⟩
        obtain ⟨x1, r1, v1⟩ := new_tup r hl rys
        exact q _ _ _ x1 r1 v1
      · exact ⟨a, ys, rfl, .inr ⟨hs, q _ _ _ .refl r (.tup hs rys)⟩⟩
  | [], _, q => exact q.elim
  | _ :: _ :: _, _, q => exact q.elim
def lstO : List D → Sto → Option (D × Sto)
  | [d], st => (seqD d st).map fun ds => (.ref st.length, st ++ [.lst ds])
  | _, _ => none
theorem dLst : CaD K (fun xs H Q => ∃ p ys, xs = [.ref p] ∧ (SqL K H p ys ∨ SqT K H p ys) ∧ ∀ l, H l = none → Q (.ref l) (upd H l (.lst ys))) lstO := by
  intro μ H st xs ds Q r rs q
  match ds, rs, q with
  | [d], rs, q =>
    obtain ⟨v, rfl, rv⟩ := one_rv rs
    simp only [lstO] at q
    cases h : seqD d st with
    | none => rw [h] at q; exact q.elim
    | some es =>
      rw [h] at q
      obtain ⟨a, ys, rfl, rys, hs⟩ := seq_at r rv h
      refine ⟨a, ys, rfl, hs, fun l hl => ?_⟩
      obtain ⟨x1, r1, v1⟩ := new_lst r hl rys
      exact q _ _ _ x1 r1 v1
  | [], _, q => exact q.elim
  | _ :: _ :: _, _, q => exact q.elim
def intsD (ds : List D) : Option (List Int) := mapO (fun | .int i => some i | _ => none) ds
theorem ints_of : ∀ {ds : List D} {ns : List Int}, intsD ds = some ns → ds = ns.map D.int
  | [], ns, h => by cases h; rfl
  | d :: ds, ns, h => by
    simp only [intsD, mapO] at h
    obtain ⟨i, hi, h⟩ := Option.bind_eq_some_iff.mp h
    obtain ⟨ms, hm, rfl⟩ := Option.map_eq_some_iff.mp h
    have e := ints_of (ds := ds) (ns := ms) hm
    cases d with
    | int j => cases hi; rw [e]; rfl
    | _ => cases hi
theorem rvs_ints : ∀ {xs : List V} (ns : List Int), RVs K μ H xs (ns.map D.int) → xs = ns.map V.int
  | _, [], h => by cases h; rfl
  | _, n :: ns, h => by
    cases h with
    | cons r t => cases r; rw [rvs_ints ns t]; rfl
theorem ints_rv : ∀ l : List Int, RVs K μ H (l.map V.int) (l.map D.int)
  | [] => .nil
  | i :: l => .cons (.int i) (ints_rv l)
/-- the list of a list (not of a tuple) -/
def lstD : D → Sto → Option (List D)
  | .kl ds, _ => some ds
  | .ref n, st => seqD (.ref n) st
  | _, _ => none
theorem lstD_at {d : D} {v : V} {ds : List D} (r : RH K μ H st) (rv : RV K μ H v d) (h : lstD d st = some ds) : ∃ a xs, v = .ref a ∧ RVs K μ H xs ds ∧ SqL K H a xs := by
  cases rv with
  | kl hs hv => cases h; exact ⟨_, _, rfl, hv, hs.sql⟩
  | ref hn =>
    obtain ⟨xs, hs, hv⟩ := seqL_at r hn h
    exact ⟨_, xs, rfl, hv, hs⟩
  | _ => cases h
def isort (ns : List Int) : List Int := ns.mergeSort (fun a b => decide (a ≤ b))
theorem isort_perm (ns : List Int) : (isort ns).Perm ns := List.mergeSort_perm ns _
theorem isort_sorted (ns : List Int) : (isort ns).Pairwise (· ≤ ·) := by
  have h := List.pairwise_mergeSort (le := fun (a b : Int) => decide (a ≤ b)) (fun a b c h1 h2 => by simp at *; omega) (fun a b => by simp; omega) ns
  exact h.imp fun h => by simpa using h
def sortO : List D → Sto → Option (D × Sto)
  | [d], st => (lstD d st).bind fun ds => (intsD ds).map fun ns => (.ref st.length, st ++ [.lst ((isort ns).map .int)])
  | _, _ => none
theorem dSort : CaD K (rSortedI K) sortO := by
  intro μ H st xs ds Q r rs q
  match ds, rs, q with
  | [d], rs, q =>
    obtain ⟨v, rfl, rv⟩ := one_rv rs
    simp only [sortO] at q
    cases h : lstD d st with
    | none => rw [h] at q; exact q.elim
    | some es =>
      rw [h] at q
      obtain ⟨a, ys, rfl, rys, hs⟩ := lstD_at r rv h
      cases h2 : intsD es with
      | none => simp only [Option.bind_some, h2, Option.map_none] at q; exact q.elim
      | some ns =>
        simp only [Option.bind_some, h2, Option.map_some] at q
        have e := ints_of h2
        subst e
        have e2 := rvs_ints ns rys
        subst e2
        refine ⟨a, ns, rfl, hs, fun ns' p hp hsort hn => ?_⟩
        have e3 : ns' = isort ns := PySem.W.ksm_same (hp.trans (isort_perm ns).symm) hsort (isort_sorted ns)
        subst e3
        obtain ⟨x1, r1, v1⟩ := new_lst r hn (ints_rv (isort ns))
        exact q _ _ _ x1 r1 v1
  | [], _, q => exact q.elim
  | _ :: _ :: _, _, q => exact q.elim
def sumO : List D → Sto → Option (D × Sto)
  | [d], st => (lstD d st).bind fun ds => (intsD ds).map fun ns => (.int ns.sum, st)
  | _, _ => none
theorem dSum : CaD K (rSum K) sumO := by
  intro μ H st xs ds Q r rs q
  match ds, rs, q with
  | [d], rs, q =>
    obtain ⟨v, rfl, rv⟩ := one_rv rs
    simp only [sumO] at q
    cases h : lstD d st with
    | none => rw [h] at q; exact q.elim
    | some es =>
      rw [h] at q
      obtain ⟨a, ys, rfl, rys, hs⟩ := lstD_at r rv h
      cases h2 : intsD es with
      | none => simp only [Option.bind_some, h2, Option.map_none] at q; exact q.elim
      | some ns =>
        simp only [Option.bind_some, h2, Option.map_some] at q
        have e := ints_of h2
        subst e
        have e2 := rvs_ints ns rys
        subst e2
        exact ⟨a, ns, rfl, hs, q _ _ _ .refl r (.int _)⟩
  | [], _, q => exact q.elim
  | _ :: _ :: _, _, q => exact q.elim
/-! ### repr -/
theorem call_repr (hg : X.A.guards = some []) (hu : X.A.units + 64 < cLine) : CallR X (.builtin "repr") (fun xs H Q => ∃ x d, xs = [x] ∧ Dp X.K H x d ∧ d.hasDict = false ∧ d.showable = true ∧ d.depth ≤ 60 ∧ d.shown.length ≤ sizeLine ∧ Q (.str d.shown) H) := by
  intro pins s σ H xs us Q I rs h
  obtain ⟨x, d, rfl, hd, nd, hs, hdep, hz, q⟩ := h
  obtain ⟨u, rfl, ru⟩ := rs.one
  cases hd with
  | non => cases ru; exact PySem.P.repr_of_none ⟨.str _, H, I.tok _, ⟨_, rfl⟩, q⟩
  | bl b => cases ru; exact PySem.P.repr_of_bool ⟨.str _, H, I.tok _, ⟨_, rfl⟩, q⟩
  | int i =>
    obtain ⟨t, rfl⟩ := ru
    exact PySem.P.repr_of_int (by simpa [PyData.showable] using hs) ⟨.str _, H, I.tok _, ⟨_, rfl⟩, q⟩
  | str y =>
    obtain ⟨t, rfl⟩ := ru
    exact PySem.P.repr_of_str ⟨.str _, H, I.tok _, ⟨_, rfl⟩, q⟩ hz
  | lst h1 h2 =>
    obtain ⟨as, rd⟩ := Dp.reads I _ _ u (.lst h1 h2) ru
    cases ru
    exact repr_of_reads' rd hs (PyData.noDict_hsm nd) hg (by omega) (fun _ _ z => z) (fun h' t tk hk => ⟨.str _, H, I.kept (t' := tk) hk, ⟨_, rfl⟩, q⟩) hz
  | tup h1 h2 =>
    obtain ⟨as, rd⟩ := Dp.reads I _ _ u (.tup h1 h2) ru
    cases ru
    exact repr_of_reads' rd hs (PyData.noDict_hsm nd) hg (by omega) (fun _ _ z => z) (fun h' t tk hk => ⟨.str _, H, I.kept (t' := tk) hk, ⟨_, rfl⟩, q⟩) hz
def shownOk (p : PyData) : Prop := p.hasDict = false ∧ p.showable = true ∧ p.depth ≤ 60 ∧ p.shown.length ≤ sizeLine
instance (p : PyData) : Decidable (shownOk p) := by unfold shownOk; exact inferInstance
def reprO : List D → Sto → Option (D × Sto)
  | [d], st => (toPy st 60 d).bind fun p => if shownOk p then some (.str p.shown, st) else none
  | _, _ => none
theorem dRepr : CaD K (fun xs H Q => ∃ x d, xs = [x] ∧ Dp K H x d ∧ d.hasDict = false ∧ d.showable = true ∧ d.depth ≤ 60 ∧ d.shown.length ≤ sizeLine ∧ Q (.str d.shown) H) reprO := by
  intro μ H st xs ds Q r rs q
  match ds, rs, q with
  | [d], rs, q =>
    obtain ⟨v, rfl, rv⟩ := one_rv rs
    simp only [reprO] at q
    cases h : toPy st 60 d with
    | none => rw [h] at q; exact q.elim
    | some p =>
      rw [h] at q
      simp only [Option.bind_some] at q
      split at q
      · rename_i hp
        exact ⟨v, p, rfl, dp_of r 60 _ _ _ h hp.1 rv, hp.1, hp.2.1, hp.2.2.1, hp.2.2.2, q _ _ _ .refl r (.str _)⟩
      · exact q.elim
  | [], _, q => exact q.elim
  | _ :: _ :: _, _, q => exact q.elim
/-! ### lists' methods -/
def appO : D → List D → Sto → Option (D × Sto)
  | .ref n, [d], st => match st[n]? with
    | some (.lst ds) => if ds.length < sizeLine then some (.non, st.set n (.lst (ds ++ [d]))) else none
    | _ => none
  | _, _, _ => none
theorem dApp : MeD K rAppend appO := by
  intro μ H st x d xs ds Q r rv rs q
  unfold appO at q
  split at q
  · rename_i n e
    obtain ⟨v, rfl, rv2⟩ := one_rv rs
    split at q
    · rename_i es hc
      split at q
      · rename_i hl
        obtain ⟨a, ys, rfl, hn, ha, rys⟩ := lst_at r rv hc
        obtain ⟨x1, r1⟩ := put_lst r hn hc ha (rys.append (.cons rv2 .nil))
        exact ⟨a, ys, v, rfl, rfl, ha, by rw [rys.length]; exact hl, q _ _ _ x1 r1 .non⟩
      · exact q.elim
    · exact q.elim
  · exact q.elim
def popO : D → List D → Sto → Option (D × Sto)
  | .ref n, [.int i], st => match st[n]? with
    | some (.lst ds) => if ds.length ≤ sizeLine then (ixN ds.length i).bind fun k => (ds[k]?).map fun y => (y, st.set n (.lst (ds.eraseIdx k))) else none
    | _ => none
  | _, _, _ => none
theorem RVs.erase {xs : List V} {ds : List D} : ∀ (n : Nat), RVs K μ H xs ds → RVs K μ H (xs.eraseIdx n) (ds.eraseIdx n)
  | _, .nil => .nil
  | 0, .cons _ t => t
  | n + 1, .cons r t => .cons r (RVs.erase n t)
theorem ixN_lt {n : Nat} {i : Int} {k : Nat} (h : ixN n i = some k) (hn : n ≤ 2 ^ 24) : -(2 ^ 63) ≤ i ∧ i < 2 ^ 63 := by
  obtain ⟨_, _, h3, h4⟩ := ixN_seq h
  omega
theorem dPop : MeD K rPopAt popO := by
  intro μ H st x d xs ds Q r rv rs q
  unfold popO at q
  split at q
  · rename_i n i
    obtain ⟨v, rfl, rv2⟩ := one_rv rs
    cases rv2
    split at q
    · rename_i es hc
      split at q
      · rename_i hl
        obtain ⟨a, ys, rfl, hn, ha, rys⟩ := lst_at r rv hc
        cases hk : ixN es.length i with
        | none => rw [hk] at q; exact q.elim
        | some k =>
          rw [hk] at q
          simp only [Option.bind_some] at q
          cases hy : es[k]? with
          | none => rw [hy] at q; exact q.elim
          | some y =>
            rw [hy] at q
            obtain ⟨u, hu, ru⟩ := rys.get hy
            obtain ⟨x1, r1⟩ := put_lst r hn hc ha (rys.erase k)
            obtain ⟨b1, b2⟩ := ixN_lt hk (by simpa [sizeLine] using hl)
            exact ⟨a, ys, i, k, u, rfl, rfl, ha, b1, b2, by rw [rys.length]; exact (ixN_seq hk).1, hu, q _ _ _ x1 r1 (ru.mono x1)⟩
      · exact q.elim
    · exact q.elim
  · exact q.elim
def insO : D → List D → Sto → Option (D × Sto)
  | .ref n, [.int i, d], st => match st[n]? with
    | some (.lst ds) => if ds.length < sizeLine ∧ 0 ≤ i ∧ i < 2 ^ 63 then some (.non, st.set n (.lst (ds.take i.toNat ++ [d] ++ ds.drop i.toNat))) else none
    | _ => none
  | _, _, _ => none
theorem dIns : MeD K (fun x vs H Q => ∃ (l : Addr) (xs : List V) (i : Int) (y : V), x = .ref l ∧ vs = [.int i, y] ∧ H l = some (.lst xs) ∧ xs.length < sizeLine ∧ 0 ≤ i ∧ i < 2 ^ 63 ∧
    Q .non (upd H l (.lst (xs.take i.toNat ++ [y] ++ xs.drop i.toNat)))) insO := by
  intro μ H st x d xs ds Q r rv rs q
  unfold insO at q
  split at q
  · rename_i n i e
    obtain ⟨v, u, rfl, rv2, rv3⟩ := two_rv rs
    cases rv2
    split at q
    · rename_i es hc
      split at q
      · rename_i hl
        obtain ⟨a, ys, rfl, hn, ha, rys⟩ := lst_at r rv hc
        obtain ⟨x1, r1⟩ := put_lst r hn hc ha (((rys.take i.toNat).append (.cons rv3 .nil)).append (rys.drop i.toNat))
        exact ⟨a, ys, i, u, rfl, rfl, ha, by rw [rys.length]; exact hl.1, hl.2.1, hl.2.2, q _ _ _ x1 r1 .non⟩
      · exact q.elim
    · exact q.elim
  · exact q.elim
end
section
variable {X : Cx} {W : WX}
/-! ### list(range(..)) -/
def rgL (a b : Int) : List D := (List.range (b - a).toNat).map fun (i : Nat) => D.int (a + (i : Nat))
def eRg1 (f : F) : F := fun ρ st => (f ρ st).bd fun d s => match d with
  | .int n => if -(2 ^ 62) ≤ n ∧ n < 2 ^ 24 then .ok (.ref s.length) (s ++ [.lst (rgL 0 n)]) else .bad
  | _ => .bad
theorem rv_rg {K : PySem.W.Frag} {μ : List Addr} {H : Hp} (a b : Int) : RVs K μ H (rgV a b) (rgL a b) := by
  unfold rgV rgL
  generalize (b - a).toNat = n
  have aux : ∀ l : List Nat, RVs K μ H (l.map fun (i : Nat) => V.int (a + (i : Nat))) (l.map fun (i : Nat) => D.int (a + (i : Nat))) := by
    intro l
    induction l with
    | nil => exact .nil
    | cons x l ih => exact .cons (.int _) ih
  exact aux _
theorem se_lrg1 {e : Expr} {f : F} {p p2 pos pos2 : Pos} (hc : X.calm = true) (hg : Gl X "list") (hm : X.mg "list" = none) (hg2 : Gl X "range") (hm2 : X.mg "range" = none) (he : SE X W e f)
    (n1 : starEach [e] X.env = (false, eval e X.env) :: starEach [] X.env := by rfl)
    (n2 : starEach [.Call (.Name "range" p2) [e] [] pos2] X.env = (false, eval (.Call (.Name "range" p2) [e] [] pos2) X.env) :: starEach [] X.env := by rfl) : SE X W (.Call (.Name "list" p) [.Call (.Name "range" p2) [e] [] pos2] [] pos) (eRg1 f) :=
  .mk' (pe_listRg hc hg hm (prg_1 hg2 hm2 he.run n1) n2) fun σ H Q μ ρ st r re q => tE.go r re (R.sat_bd.mp q) fun d s v μ1 H1 p1 x1 r1 re1 rv => by
    cases rv with
    | int n =>
      simp only at p1
      split at p1
      · rename_i hn
        refine ⟨n, rfl, ⟨by omega, by omega, hn.1, by omega, by omega⟩, fun a ha => ?_⟩
        obtain ⟨x2, r2, v2⟩ := new_lst r1 ha (rv_rg 0 n)
        exact p1 _ _ _ (x1.trans x2) r2 v2
      · exact p1.elim
    | _ => exact p1.elim
end
end Rm

namespace Rm
open PySem PySem.Spec PyProof.Rows L2
section
variable {X : Cx} {W : WX} {K : PySem.W.Frag} {μ : List Addr} {H : Hp} {st : Sto} {σ : L2.St} {ρ : Env}
theorem RE.set {i : Nat} {v : V} {d : D} (re : RE K μ H σ ρ) (hi : i < ρ.length) (rv : RV K μ H v d) : RE K μ H (σ.set i (some v)) (ρ.set i (some d)) := by
  refine ⟨by rw [List.length_set, List.length_set]; exact re.1, fun j e hj => ?_⟩
  by_cases hij : i = j
  · subst hij
    rw [List.getElem?_set_self hi] at hj
    cases hj
    exact ⟨v, List.getElem?_set_self (by rw [re.1]; exact hi), rv⟩
  · rw [List.getElem?_set_ne hij] at hj
    obtain ⟨u, hu, ru⟩ := re.2 j e hj
    exact ⟨u, by rw [List.getElem?_set_ne hij]; exact hu, ru⟩
/-- x, y = a, b; three likewise -/
def sPar (is : List Nat) (g : FA) : FS := fun ρ st => (g ρ st).bs ρ fun ds s => match is, ds with
  | [i, j], [d, e] => if i < ρ.length ∧ j < ρ.length then .nx ((ρ.set i (some d)).set j (some e)) s else .bad
  | [i, j, l], [d, e, f] => if i < ρ.length ∧ j < ρ.length ∧ l < ρ.length then .nx (((ρ.set i (some d)).set j (some e)).set l (some f)) s else .bad
  | _, _ => .bad
theorem s_par2 {pos : Pos} {i j : Nat} {x y : Str} {a b : Expr} {g : FA} {px py pt : Pos} {kt k2 : Nat} {pt2 : Pos} (hc : X.calm = true) (hN : X.N.Nodup) (hi : X.N[i]? = some x) (hj : X.N[j]? = some y) (hij : i ≠ j)
    (lx : List.lookup x X.env.scope.names = some NameKind.local) (ly : List.lookup y X.env.scope.names = some NameKind.local) (ha : SA X W [a, b] g)
    (h1 : swappedStores [Expr.Tuple [Expr.Name x px, Expr.Name y py] kt pt] (Expr.Tuple [a, b] k2 pt2) X.env = pure (some [x, y]) := by rfl)
    (h2 : swapsWithSole [Expr.Tuple [Expr.Name x px, Expr.Name y py] kt pt] (Expr.Tuple [a, b] k2 pt2) pos.line X.env = pure false := by rfl) :
    SS X W (Stmt.Assign [Expr.Tuple [Expr.Name x px, Expr.Name y py] kt pt] (Expr.Tuple [a, b] k2 pt2) pos) (sPar [i, j] g) :=
  .mk' (ps_par hc hN hi hj hij lx ly ha.run h1 h2) fun E σ H μ ρ st r re q => tA.go r re (bs_go re q) fun ds s vs μ' H' p x r' re' rv => by
    match ds, rv, p with
    | [], _, p => exact p.elim
    | [_], _, p => exact p.elim
    | [d, e], rv, p =>
      obtain ⟨v, u, rfl, r1, r2⟩ := two_rv rv
      simp only at p
      split at p
      · rename_i hl
        exact ⟨v, u, rfl, p _ μ' H' x r' ((re'.set hl.1 r1).set (by rw [List.length_set]; exact hl.2) r2)⟩
      · exact p.elim
    | _ :: _ :: _ :: _, _, p => exact p.elim
theorem three_rv {xs : List V} {d e f : D} (h : RVs K μ H xs [d, e, f]) : ∃ v u w, xs = [v, u, w] ∧ RV K μ H v d ∧ RV K μ H u e ∧ RV K μ H w f := by
  cases h with
  | cons r t =>
    obtain ⟨u, w, rfl, ru, rw⟩ := two_rv t
    exact ⟨_, u, w, rfl, r, ru, rw⟩
theorem s_par3 {pos : Pos} {i j l : Nat} {x y z : Str} {a b c : Expr} {g : FA} {px py pz pt : Pos} {kt k2 : Nat} {pt2 : Pos} (hc : X.calm = true) (hN : X.N.Nodup) (hi : X.N[i]? = some x) (hj : X.N[j]? = some y) (hl : X.N[l]? = some z) (hij : i ≠ j) (hil : i ≠ l) (hjl : j ≠ l)
    (lx : List.lookup x X.env.scope.names = some NameKind.local) (ly : List.lookup y X.env.scope.names = some NameKind.local) (lz : List.lookup z X.env.scope.names = some NameKind.local) (ha : SA X W [a, b, c] g)
    (h1 : swappedStores [Expr.Tuple [Expr.Name x px, Expr.Name y py, Expr.Name z pz] kt pt] (Expr.Tuple [a, b, c] k2 pt2) X.env = pure (some [x, y, z]) := by rfl)
    (h2 : swapsWithSole [Expr.Tuple [Expr.Name x px, Expr.Name y py, Expr.Name z pz] kt pt] (Expr.Tuple [a, b, c] k2 pt2) pos.line X.env = pure false := by rfl) :
    SS X W (Stmt.Assign [Expr.Tuple [Expr.Name x px, Expr.Name y py, Expr.Name z pz] kt pt] (Expr.Tuple [a, b, c] k2 pt2) pos) (sPar [i, j, l] g) :=
  .mk' (ps_par3 hc hN hi hj hl hij hil hjl lx ly lz ha.run h1 h2) fun E σ H μ ρ st r re q => tA.go r re (bs_go re q) fun ds s vs μ' H' p x r' re' rv => by
    match ds, rv, p with
    | [], _, p => exact p.elim
    | [_], _, p => exact p.elim
    | [_, _], _, p => exact p.elim
    | [d, e, f], rv, p =>
      obtain ⟨v, u, w', rfl, r1, r2, r3⟩ := three_rv rv
      simp only at p
      split at p
      · rename_i hl
        exact ⟨v, u, w', rfl, p _ μ' H' x r' (((re'.set hl.1 r1).set (by rw [List.length_set]; exact hl.2.1) r2).set (by rw [List.length_set, List.length_set]; exact hl.2.2) r3)⟩
      · exact p.elim
    | _ :: _ :: _ :: _ :: _, _, p => exact p.elim
def negO : D → Sto → Option (D × Sto)
  | .int i, st => some (.int (-i), st)
  | _, _ => none
theorem dNeg : UnD K (rU fun i => .int (-i)) negO := by
  intro μ H st x dx Q r rx q
  cases rx with
  | int i => exact ⟨i, rfl, q _ _ _ .refl r (.int _)⟩
  | _ => exact q.elim
theorem Go.low {k j : Nat} (g : Go X W k) (h : j ≤ k) : Go X W j := ⟨g.gd, g.calm, g.room.mono h, g.tk, g.own⟩
theorem Go.hu {k : Nat} (g : Go X W k) : X.A.units + 64 < cLine := g.room.units
theorem Go.hu65 {k : Nat} (g : Go X W k) : X.A.units + 65 < cLine := by have := g.room.un; omega
theorem cal_mono {P : Program} {w : World} {mg : Str → Option Value} {base : Heap} {k j : Nat} {x : Str} {s_ : Stmt} {ps : List Str} {φ : List D → Sto → R D} (C : Cal P w K mg base j x s_ ps φ) (h : j ≤ k) : Cal P w K mg base k x s_ ps φ := by
  obtain ⟨f, fd, F, rest⟩ := C.ex
  exact ⟨f, fd, ⟨F.len, fun A outer s H args us vs Q E hg hr => F.go A outer s H args us vs Q E hg (hr.mono h)⟩, rest⟩
end
end Rm

namespace Rm
open PySem PySem.Spec PyProof.Rows L2
open AutoSeq1 (wpAny_loadPart')
/-! ## Numbering a tuple -/
section
variable {prog : Program} {w : World} {A : Around} {E : Value → Shared → Prop} {s : Shared}
/-- what the heap holds once the numbering is made -/
def numHeap (h : Heap) (l : Addr) : Heap := (h.push { cls := .type "tuple_iterator", data := .fields #[.ref l, .int 0 0] }).push { cls := .type "enumerate", data := .fields #[.none, .bool false, .ref h.objs.size, rawInt 0, .none, .none] }
theorem num_new (l : Addr) (its : Array Value) (n : Nat) (dc : Option Addr) (sl : Array (Option Value)) :
    Meets (Builtin.«enumerate.__new__» ⟨[.type "enumerate", .ref l], []⟩) (fun _ R s => s.heap.get? l = some { cls := .type "tuple", dict := dc, data := .seq its n, slots := sl } ∧
      R (.ok (.ret (.ref (s.heap.objs.size + 1)))) { s with heap := numHeap s.heap l }) :=
  .of_wp fun prog w A R s hh => by
    obtain ⟨hp, g, d, tk, os⟩ := s
    obtain ⟨hl, hh⟩ := hh
    have hsub := sub_enumerate
    have hT : Heap.IsTuple (Shared.heap ⟨hp, g, d, tk, os⟩) l its := ⟨_, hl, rfl, n, rfl⟩
    have sz : (hp.push { cls := .type "tuple_iterator", data := .fields #[.ref l, .int 0 0] }).objs.size = hp.objs.size + 1 := Heap.size_push ..
    have fin : R (.ok (.ret (.ref (hp.push { cls := .type "tuple_iterator", data := .fields #[.ref l, .int 0 0] }).objs.size))) ⟨numHeap hp l, g, d, tk, os⟩ := by rw [sz]; exact hh
    wp_walk using wpAny_loadPart' hl
    refine wpAny_stack_any fun sk => wpAny_pure ?_
    split
    · rename_i cc _ _ _ _ _
      cases (cc == Value.type "enumerate")
      · wp_walk using wpAny_loadPart' hl, wpAny_pyIter_tuple hT; exact ⟨_, rfl, fin⟩
      · wp_walk using wpAny_loadPart' hl, wpAny_pyIter_tuple hT; exact ⟨_, rfl, fin⟩
    · wp_walk using wpAny_loadPart' hl, wpAny_pyIter_tuple hT; exact ⟨_, rfl, fin⟩
theorem num_call {l : Addr} {its : Array Value} {Q : Value → Shared → Prop} (hT : s.heap.IsTuple l its)
    (k : ∀ h', IsEnum h' (s.heap.objs.size + 1) s.heap.objs.size 0 .none → h'.IsTupleIter s.heap.objs.size l 0 → (∀ b o, s.heap.get? b = some o → h'.get? b = some o) → Q (.ref (s.heap.objs.size + 1)) { s with heap := h' }) :
    wpAny (model prog w) A (call (.type "enumerate") [.ref l]) Q E s := by
  obtain ⟨⟨c, dc, dt, sl⟩, hl, hc, n, hd⟩ := hT
  simp only at hc hd
  subst hc hd
  have sz : (s.heap.push { cls := .type "tuple_iterator", data := .fields #[.ref l, .int 0 0] }).objs.size = s.heap.objs.size + 1 := Heap.size_push ..
  have ge : IsEnum (numHeap s.heap l) (s.heap.objs.size + 1) s.heap.objs.size 0 .none := by
    have q := Heap.get?_push_size (s.heap.push { cls := .type "tuple_iterator", data := .fields #[.ref l, .int 0 0] }) (o := { cls := .type "enumerate", data := .fields #[.none, .bool false, .ref s.heap.objs.size, rawInt 0, .none, .none] }) rfl
    rw [sz] at q; exact q
  refine callType_new F.called_enumerate (by decide) (F.typeCall_enumerate_1 _) (F.newCall_enumerate_1 _) (fun ob => F.args_object_init_2 ob _) F.entry_enumerate_new (num_new l its n dc sl) ⟨hl, ?_⟩
  exact ⟨⟨_, ge, rfl⟩, k _ ge ⟨_, Heap.get?_push_of_some _ (Heap.get?_push_size _ rfl), rfl, rfl⟩ fun b o x => Heap.get?_push_of_some _ (Heap.get?_push_of_some _ x)⟩
end
end Rm

namespace Rm
open PySem PySem.Spec PyProof.Rows L2
section
variable {prog : Program} {w : World} {A : Around} {E : Value → Shared → Prop} {s : Shared}
/-- the pair that a turn makes -/
abbrev numPair (n : Int) (t : Nat) (x : Value) : Obj := { cls := .type "tuple", data := .seq #[.int n t, x] }
theorem num_step {c t l : Addr} {n : Nat} {its : Array Value} {x z : Value} {Q : Value → Shared → Prop} (gc : IsEnum s.heap c t n z) (gt : s.heap.IsTupleIter t l n) (gl : s.heap.IsTuple l its) (gx : its[n]? = some x) (ct : c ≠ t)
    (k : ∀ h', IsEnumOut h' c t ((n : Int) + 1) x s.heap.objs.size → h'.IsTupleIter t l (n + 1) → h'.get? s.heap.objs.size = some (numPair n s.toks x) →
      (∀ b o, b ≠ c → b ≠ t → s.heap.get? b = some o → h'.get? b = some o) → Q (.ref s.heap.objs.size) { s with heap := h', toks := s.toks + 1 }) :
    wpAny (model prog w) A (Builtin.«enumerate.__next__» ⟨[.ref c], []⟩) (fun fin s' => ∃ v, fin = .done (.ret v) ∧ Q v s') E s := by
  obtain ⟨hp, g, d, tk, os⟩ := s
  have cl : c < hp.objs.size := Heap.lt_size gc
  show wpAny _ _ (field (.ref c) 2 >>= _) _ _ _
  refine wpAny_bind (wpAny_field gc rfl (x := .ref t) rfl (wpAny_bind (RZ.nextOf_tuple_item gt gl gx fun a1 ta1 b1 => ?_)))
  have b1 : Heap.SameBut t hp a1 := b1
  have ga1 : IsEnum a1 c t n z := (b1.2 c ct).trans gc
  show wpAny _ _ (field (.ref c) 3 >>= _) _ _ ⟨a1, g, d, tk, os⟩
  refine wpAny_bind (wpAny_field ga1 rfl (x := rawInt n) rfl ?_)
  show wpAny _ _ (field (.ref c) 4 >>= _) _ _ ⟨a1, g, d, tk, os⟩
  refine wpAny_bind (wpAny_field ga1 rfl (x := .none) rfl ?_)
  show wpAny _ _ (mkInt n >>= _) _ _ ⟨a1, g, d, tk, os⟩
  refine wpAny_bind (wpAny_mkInt ?_)
  show wpAny _ _ (setField (.ref c) 3 (rawInt ((n : Int) + 1)) >>= _) _ _ ⟨a1, g, d, tk + 1, os⟩
  refine wpAny_bind (wpAny_setField_rec ga1 (by simp) fun a2 ga2 b2 => ?_)
  have b2 : Heap.SameBut c a1 a2 := b2
  have ga2 : IsEnum a2 c t ((n : Int) + 1) z := ga2
  show wpAny _ _ (setField (.ref c) 4 .none >>= _) _ _ ⟨a2, g, d, tk + 1, os⟩
  refine wpAny_bind (wpAny_setField_rec ga2 (by simp) fun a3 ga3 b3 => ?_)
  have b3 : Heap.SameBut c a2 a3 := b3
  have ga3 : IsEnum a3 c t ((n : Int) + 1) z := ga3
  have sz : a3.objs.size = hp.objs.size := by rw [b3.1, b2.1, b1.1]
  show wpAny _ _ (newTuple [.int n tk, x] >>= _) _ _ ⟨a3, g, d, tk + 1, os⟩
  refine wpAny_bind (wpAny_newTuple ?_)
  rw [sz]
  have ga4 : IsEnum (a3.push (numPair n tk x)) c t ((n : Int) + 1) z := Heap.get?_push_of_some _ ga3
  have pa4 : (a3.push (numPair n tk x)).get? hp.objs.size = some (numPair n tk x) := by rw [← sz]; exact Heap.get?_push_size _ rfl
  have ka4 : ∀ b o, b ≠ c → b ≠ t → hp.get? b = some o → (a3.push (numPair n tk x)).get? b = some o := fun b o bc bt hb => Heap.get?_push_of_some _ (b3.extBut b o bc (b2.extBut b o bc (b1.extBut b o bt hb)))
  have ta4 : (a3.push (numPair n tk x)).IsTupleIter t l (n + 1) := by
    obtain ⟨o, ho, r⟩ := (ta1.extBut b2.extBut (Ne.symm ct)).extBut b3.extBut (Ne.symm ct)
    exact ⟨o, Heap.get?_push_of_some _ ho, r⟩
  show wpAny _ _ (Builtin.SmallTypes.ownedTupleIsFree (.ref c) >>= _) _ _ ⟨a3.push (numPair n tk x), g, d, tk + 1, os⟩
  generalize a3.push (numPair n tk x) = a4 at *
  refine wpAny_bind ?_
  unfold Builtin.SmallTypes.ownedTupleIsFree
  refine wpAny_bind (wpAny_field ga4 rfl (x := .none) rfl (wpAny_pure ?_))
  simp only [if_true]
  refine wpAny_bind (wpAny_rule (wpAny_bind (wpAny_field ga4 rfl (x := z) rfl (wpAny_bind (wpAny_setField_rec ga4 (by simp) fun a5 ga5 b5 => ?_)))))
  have b5 : Heap.SameBut c a4 a5 := b5
  have ga5 : IsEnum a5 c t ((n : Int) + 1) x := ga5
  show wpAny _ _ (Builtin.SmallTypes.ownedTupleHandOut (.ref c) (.ref hp.objs.size) >>= _) _ _ ⟨a5, g, d, tk + 1, os⟩
  refine wpAny_bind ?_
  unfold Builtin.SmallTypes.ownedTupleHandOut
  refine wpAny_bind (wpAny_setField_rec ga5 (by simp) fun a6 ga6 b6 => ?_)
  have b6 : Heap.SameBut c a5 a6 := b6
  have ga6 : IsEnumOut a6 c t ((n : Int) + 1) x hp.objs.size := ga6
  refine wpAny_setField_rec ga6 (by simp) fun a7 ga7 b7 => ?_
  have b7 : Heap.SameBut c a6 a7 := b7
  have up : ∀ b o, b ≠ c → a4.get? b = some o → a7.get? b = some o := fun b o bc hb => b7.extBut b o bc (b6.extBut b o bc (b5.extBut b o bc hb))
  exact wpAny_bind (wpAny_letGo (wpAny_pure ⟨_, rfl, k a7 ga7 (ta4.at fun o q => up t o (Ne.symm ct) q) (up _ _ (Nat.ne_of_gt cl) pa4) fun b o bc bt hb => up b o bc (ka4 b o bc bt hb)⟩))
theorem num_next {c t l : Addr} {n : Nat} {its : Array Value} {x z : Value} {Q : Option Value → Shared → Prop} (gc : IsEnum s.heap c t n z) (gt : s.heap.IsTupleIter t l n) (gl : s.heap.IsTuple l its) (gx : its[n]? = some x) (ct : c ≠ t)
    (k : ∀ h', IsEnumOut h' c t ((n : Int) + 1) x s.heap.objs.size → h'.IsTupleIter t l (n + 1) → h'.get? s.heap.objs.size = some (numPair n s.toks x) →
      (∀ b o, b ≠ c → b ≠ t → s.heap.get? b = some o → h'.get? b = some o) → Q (some (.ref s.heap.objs.size)) { s with heap := h', toks := s.toks + 1 }) :
    wpAny (model prog w) A (pyNext (.ref c)) Q E s := by
  have ty : s.TypeIs (.ref c) "enumerate" := ⟨_, gc, rfl⟩
  unfold pyNext
  refine wpAny_bind (wpAny_attempt (wpAny_callSpecial?_slot (name := Str.ofString "__next__") ty F.slot_enumerate_next (wpAny_call_entry F.slot_enumerate_next ty F.entry_enumerate_next ?_ (F.args_enumerate_next_1 _))))
  exact num_step gc gt gl gx ct fun h' a b cc d => wpAny_pure (k h' a b cc d)
theorem num_end {c t l : Addr} {n : Nat} {its : Array Value} {z : Value} {Q : Option Value → Shared → Prop} (hh : A.handled = none) (gc : IsEnum s.heap c t n z) (gt : s.heap.IsTupleIter t l n) (gl : s.heap.IsTuple l its) (gx : its[n]? = none)
    (k : ∀ h', Heap.ExtBut t s.heap h' → Q none { s with heap := h' }) : wpAny (model prog w) A (pyNext (.ref c)) Q E s := by
  have ty : s.TypeIs (.ref c) "enumerate" := ⟨_, gc, rfl⟩
  unfold pyNext
  refine wpAny_bind (wpAny_attempt (wpAny_callSpecial?_slot (name := Str.ofString "__next__") ty F.slot_enumerate_next (wpAny_call_entry F.slot_enumerate_next ty F.entry_enumerate_next ?_ (F.args_enumerate_next_1 _))))
  show wpAny _ _ (field (.ref c) 2 >>= _) _ _ _
  refine wpAny_bind (wpAny_field gc rfl (x := .ref t) rfl (wpAny_bind (RZ.nextOf_tuple_end hh gt gl gx fun h' e eb oe => ?_)))
  obtain ⟨o, ho, hc⟩ := oe
  exact wpAny_bind (wpAny_isInstance (T := "StopIteration") (b := true) ⟨o, ho, hc⟩ isSubtype_stop (wpAny_pure (k _ eb)))
/-- the tuple at a, item by item, each in a new pair with its number -/
def Iten (K : PySem.W.Frag) (a : Addr) : It :=
  ⟨fun i H => ∃ (xs : List V) (x : V), SqT K H a xs ∧ xs[i]? = some x, fun i H v H' => ∃ T x, v = .ref T ∧ H T = none ∧ H' = upd H T (.tup [.int (i : Nat), x]) ∧ ∀ xs, SqT K H a xs → xs[i]? = some x, fun i H => ∃ xs : List V, SqT K H a xs ∧ xs.length ≤ i⟩
theorem turn_num {P : Program} {w : World} {K : PySem.W.Frag} {es : List Expr} {kk : Nat} {ep : Pos} (a c t : Addr) :
    Turn P w K (.Tuple es kk ep) (Iten K a) [c, t] c (fun i h => (∃ z, IsEnum h c t ((i : Nat) : Int) z) ∧ h.IsTupleIter t a i ∧ c ≠ t) where
  mem := by simp
  obj := fun i h st b hb => by
    obtain ⟨⟨z, gc⟩, ⟨o, ho, _, hd⟩, _⟩ := st
    rcases (show b = c ∨ b = t by simpa using hb) with q | q
    · rw [q]; exact ⟨_, gc, fun v y => nomatch y⟩
    · rw [q]; exact ⟨o, ho, fun v y => by rw [hd] at y; cases y⟩
  keep := fun i h h' st k => let ⟨⟨z, gc⟩, gt, ct⟩ := st; ⟨⟨z, k c (by simp) _ gc⟩, gt.at fun o q => k t (by simp) o q, ct⟩
  item := by
    intro X hP hw hK hc i pins s σ H E I hf st hg
    subst hP hw hK
    obtain ⟨⟨z, gc⟩, gt, ct⟩ := st
    obtain ⟨xs, x, hq, hx⟩ := hg
    obtain ⟨its, rv, p, _⟩ := I.tuple hq
    obtain ⟨u, hu, ru⟩ := rv.get hx
    have cl : c < s.heap.objs.size := Heap.lt_size gc
    have tl : t < s.heap.objs.size := by obtain ⟨_, q, _⟩ := gt; exact Heap.lt_size q
    refine num_next gc gt p (x := u) (by simpa using hu) ct fun h1 go gt1 gp gk => ⟨_, rfl, wpAny_letOwnedTupleGo_enum (s := { s with heap := h1, toks := s.toks + 1 }) go fun h2 ge sb => ?_⟩
    have gp2 : h2.get? s.heap.objs.size = some (numPair i s.toks u) := (sb.2 _ (Nat.ne_of_gt cl)).trans gp
    have nw : ObjOk X.prog X.w (upd H s.heap.objs.size (.tup [.int (i : Nat), x])) h2 s.heap.objs.size (.tup [.int (i : Nat), x]) :=
      ⟨by show 2 ≤ sizeLine; decide, [.int i s.toks, u], .cons ⟨_, rfl⟩ (.cons ru .nil), ⟨_, gp2, rfl, _, rfl⟩⟩
    have I1 : Inv X pins σ (upd H s.heap.objs.size (.tup [.int (i : Nat), x])) { s with heap := h2, toks := s.toks + 1 } :=
      I.turnedNew (ch := [c, t]) (fun b ob hb q => (sb.2 b (fun y => hb (by simp [y]))).trans (gk b ob (fun y => hb (by simp [y])) (fun y => hb (by simp [y])) q)) hf (Nat.le_refl _) nw
    refine ⟨.ref s.heap.objs.size, _, I1, rfl, ⟨_, x, rfl, I.hok.fresh (Nat.le_refl _), rfl, fun ys hy => by rw [I.tuple_inj hy hq]; exact hx⟩, ⟨⟨u, ?_⟩, gt1.at fun o q => (sb.2 t (Ne.symm ct)).trans q, ct⟩, fun b hb => ?_⟩
    · rw [show ((i + 1 : Nat) : Int) = (i : Int) + 1 by omega]; exact ge
    · have bl : b < s.heap.objs.size := by rcases (show b = c ∨ b = t by simpa using hb) with q | q <;> rw [q] <;> assumption
      rw [upd_ne (Nat.ne_of_lt bl)]
      exact (hf b hb).1
  done := by
    intro X hP hw hK hc i pins s σ H E I hf st hg
    subst hP hw hK
    obtain ⟨⟨z, gc⟩, gt, ct⟩ := st
    obtain ⟨xs, hq, hx⟩ := hg
    obtain ⟨its, rv, p, _⟩ := I.tuple hq
    have ln := rv.length
    obtain ⟨f0, f1, f2, f3, f4, f5⟩ := hf t (by simp)
    exact num_end (I.ok.hd hc) gc gt p (by simp; omega) fun h1 eb => ⟨rfl, I.turned (t' := s.toks) (fun b o hb q => eb b o hb q) f0 f1 f3 f4 f5⟩
  self := fun A i s Q E st h => let ⟨⟨_, gc⟩, _⟩ := st; wpAny_pyIter_enum gc h
end
def iNum (K : PySem.W.Frag) (ta : TA) : TI := fun σ H R => ta σ H fun vs H1 => ∃ a xs, vs = [.ref a] ∧ SqT K H1 a xs ∧ R (Iten K a) H1
theorem pi_num {X : Cx} {e : Expr} {ta : TA} {p pos ep : Pos} {es : List Expr} {kk : Nat} (hg : Gl X "enumerate") (hm : X.mg "enumerate" = none) (ha : PA X [e] ta) (hs : starEach [e] X.env = [(false, eval e X.env)] := by rfl) :
    PI X (.Tuple es kk ep) (.Call (.Name "enumerate" p) [e] [] pos) (iNum X.K ta) := by
  refine ⟨fun pins s σ H R I h => Call_ (ld_blt I hg hm boot_enumerate (PyProof.Rows.callWith_type1 (thn (ha.run pos pins s σ H _ I h) fun us s1 ⟨vs, H1, I1, r1, q1⟩ => ?_) hs rfl))⟩
  obtain ⟨a, xs, rfl, hq, q⟩ := q1
  cases r1 with
  | cons r rr =>
    cases rr; cases r
    obtain ⟨its, rv, p', _⟩ := I1.tuple hq
    refine num_call p' fun h1 gc gt gk => wpAny_pyIter_enum gc ?_
    refine ⟨s1.heap.objs.size + 1, [s1.heap.objs.size + 1, s1.heap.objs.size], _, _, H1, rfl, I1.kept (t' := s1.toks) gk, turn_num a (s1.heap.objs.size + 1) s1.heap.objs.size, ⟨⟨.none, gc⟩, gt, Nat.succ_ne_self _⟩, fun b hb => ?_, q⟩
    have bl : s1.heap.objs.size ≤ b := by
      rcases (show b = s1.heap.objs.size + 1 ∨ b = s1.heap.objs.size by simpa using hb) with q | q
      · rw [q]; exact Nat.le_add_right _ _
      · rw [q]; exact Nat.le_refl _
    exact I1.fpOk bl (I1.hok.fresh bl)
end Rm

namespace Rm
open PySem PySem.Spec PyProof.Rows L2
section
variable {X : Cx} {W : WX} {μ1 : List Addr} {H1 : Hp}
theorem itok_num {K : PySem.W.Frag} {a : Addr} {xs : List V} {ds : List D} (hs : SqT K H1 a xs) (hv : RVs K μ1 H1 xs ds) : ItOk K (Iten K a) μ1 H1 (enumD ⟨ds, fun _ => True⟩) := by
  refine ⟨fun H => SqT K H a xs, fun i H v H' => ∃ T x, v = .ref T ∧ H T = none ∧ H' = upd H T (.tup [.int (i : Nat), x]) ∧ xs[i]? = some x, ?_, fun μ2 H2 st2 x _ _ => x.sq _ _ hs, fun i x H2 H3 μ2 st2 hi x2 r2 _ y => ?_⟩
  · have ln : (enumD ⟨ds, fun _ => True⟩).items.length = xs.length := by simp [enumD, hv.length]
    rw [ln]
    refine ⟨fun i _ hi q => ⟨xs, xs[i], q, by simp [hi]⟩, fun _ q => ⟨xs, q, Nat.le_refl _⟩, fun i H v H' _ q y => ?_⟩
    obtain ⟨T, x, e1, e2, e3, e4⟩ := y
    exact ⟨T, x, e1, e2, e3, e4 xs q⟩
  · obtain ⟨T, y, rfl, hT, rfl, hx⟩ := y
    obtain ⟨d, hd, rv⟩ := hv.get' hx
    obtain ⟨xx, rr, vv⟩ := new_tup r2 hT (xs := [.int (i : Nat), y]) (ds := [.int (i : Nat), d]) (.cons (.int _) (.cons (rv.monoS x2) .nil))
    exact ⟨xx, rr, _, enum_get hd, vv⟩
theorem itok_enK {K : PySem.W.Frag} {a : Addr} {xs : List V} {ds : List D} (hs : FzL K H1 a xs) (hv : RVs K μ1 H1 xs ds) : ItOk K (Ite K a) μ1 H1 (enumD ⟨ds, fun _ => True⟩) := by
  have ln : (enumD ⟨ds, fun _ => True⟩).items.length = xs.length := by simp [enumD, hv.length]
  refine ⟨_, _, by rw [ln]; exact walk_enum (xs := xs), fun μ2 H2 st2 x _ _ => (x.fz _ _ hs).sql, fun i x H2 H3 μ2 st2 hi x2 r2 _ y => ?_⟩
  obtain ⟨T, n, y, rfl, hT, rfl, hn, hx⟩ := y
  cases hn
  obtain ⟨d, hd, rv⟩ := hv.get' hx
  obtain ⟨xx, rr, vv⟩ := new_tup r2 hT (xs := [.int (i : Nat), y]) (ds := [.int (i : Nat), d]) (.cons (.int _) (.cons (rv.monoS x2) .nil))
  exact ⟨xx, rr, _, enum_get hd, vv⟩
/-- numbering what is handed in -/
def iEn2 (g : FA) : FI := fun ρ st => (g ρ st).bd fun ds s => match ds with
  | [d] => match itD d s with
    | some it => .ok (enumD it) s
    | none => .bad
  | _ => .bad
def wEn2 (K : PySem.W.Frag) (ta : TA) : TI := fun σ H Rr => iEnum K ta σ H Rr ∨ iNum K ta σ H Rr
theorem pi_en2 {e : Expr} {ta : TA} {p pos ep : Pos} {es : List Expr} {kk : Nat} (hg : Gl X "enumerate") (hm : X.mg "enumerate" = none) (ha : PA X [e] ta) (hs : starEach [e] X.env = [(false, eval e X.env)] := by rfl) :
    PI X (.Tuple es kk ep) (.Call (.Name "enumerate" p) [e] [] pos) (wEn2 X.K ta) :=
  ⟨fun pins s σ H R I h => h.elim (fun h => (pi_enum hg hm ha hs).run pins s σ H R I h) fun h => (pi_num hg hm ha hs).run pins s σ H R I h⟩
theorem wi_en2 {g : FA} : WiD X W (wEn2 X.K (tA X W g)) (iEn2 g) := by
  intro σ H Rr μ ρ st r re q
  have q' := R.sat_bd.mp q
  have go : ∀ Q : List V → Hp → Prop, R.Sat (g ρ st) (fun ds s => ∀ vs μ' H', Ext X.K μ H μ' H' → RH X.K μ' H' s → RVs X.K μ' H' vs ds → Q vs H') (Eex X W μ H σ) → tA X W g σ H Q := fun Q h =>
    tA.go (P := fun ds s => ∀ vs μ' H', Ext X.K μ H μ' H' → RH X.K μ' H' s → RVs X.K μ' H' vs ds → Q vs H') r re h fun ds s vs μ' H' p x r' _ rv => p vs μ' H' x r' rv
  cases hf : g ρ st with
  | bad => rw [hf] at q'; exact q'.elim
  | exc e s =>
    rw [hf] at q'
    exact .inl (go _ (by rw [hf]; exact q'))
  | ok ds s =>
    rw [hf] at q'
    have q3 : R.Sat (match ds with | [d] => (match itD d s with | some it => R.ok (enumD it) s | none => .bad) | _ => .bad) (fun it st' => ∀ J μ1 H1, Ext X.K μ H μ1 H1 → RH X.K μ1 H1 st' → ItOk X.K J μ1 H1 it → Rr J H1) (Eex X W μ H σ) := q'
    match ds, hf, q3 with
    | [], _, q3 => exact q3.elim
    | _ :: _ :: _, _, q3 => exact q3.elim
    | [d], hf, q3 =>
      simp only at q3
      cases hi : itD d s with
      | none => rw [hi] at q3; exact q3.elim
      | some it =>
        rw [hi] at q3
        have q2 : ∀ J μ1 H1, Ext X.K μ H μ1 H1 → RH X.K μ1 H1 s → ItOk X.K J μ1 H1 (enumD it) → Rr J H1 := q3
        cases d with
        | tup ds =>
          cases hi
          refine .inr (go _ ?_)
          rw [hf]
          intro vs μ' H' x r' rv
          cases rv with
          | cons r1 r2 => cases r2; cases r1 with | tup hs hv => exact ⟨_, _, rfl, hs, q2 _ μ' H' x r' (itok_num hs hv)⟩
        | kl ds =>
          cases hi
          refine .inl (go _ ?_)
          rw [hf]
          intro vs μ' H' x r' rv
          cases rv with
          | cons r1 r2 => cases r2; cases r1 with | kl hs hv => exact ⟨_, _, rfl, hs.sql, q2 _ μ' H' x r' (itok_enK hs hv)⟩
        | ref n =>
          refine .inl (go _ ?_)
          rw [hf]
          intro vs μ' H' x r' rv
          cases rv with
          | cons r1 r2 =>
            cases r2
            cases r1 with
            | ref hn =>
              simp only [itD] at hi
              split at hi
              · rename_i ds hc
                cases hi
                obtain ⟨xs, hs, _⟩ := seq_of_cell r' hn hc
                exact ⟨_, _, rfl, hs, q2 _ μ' H' x r' (itok_enum hn)⟩
              · cases hi
        | _ => simp [itD] at hi
end
end Rm

namespace Rm
open PySem PySem.Spec PyProof.Rows L2
section
variable {X : Cx} {W : WX} {K : PySem.W.Frag} {μ μ' μ1 μ2 μ0 μ4 : List Addr} {H H' H1 H2 H0 H4 : Hp} {st st' : Sto} {σ σ2 : L2.St} {ρ ρ1 : Env} {k : Nat}
theorem Sub.trans (x : Sub K μ H μ1 H1) (y : Sub K μ1 H1 μ2 H2) : Sub K μ H μ2 H2 := by
  obtain ⟨l, e⟩ := x.pre
  obtain ⟨l2, e2⟩ := y.pre
  exact ⟨⟨l ++ l2, by rw [e2, e, List.append_assoc]⟩, fun a xs h => y.sq a xs (x.sq a xs h), fun a xs h => y.fz a xs (x.fz a xs h)⟩
/-- writing the new list keeps what descriptions lean on -/
theorem Sub.write {D : Addr} {xs ys : List V} (e : H D = some (.lst xs)) : Sub K μ H μ (upd H D (.lst ys)) := by
  refine ⟨⟨[], by simp⟩, fun b zs q => ?_, fun b zs q => ?_⟩
  · rcases q with (q | ⟨ob, q⟩) | q
    · exact .inl (.inl (by rw [upd_ne (fun z => by subst z; rw [e] at q; cases q)]; exact q))
    · exact .inl (.inr ⟨ob, by rw [upd_ne (fun z => by subst z; rw [e] at q; cases q)]; exact q⟩)
    · exact .inr q
  · rcases q with ⟨ob, q⟩ | q
    · exact .inl ⟨ob, by rw [upd_ne (fun z => by subst z; rw [e] at q; cases q)]; exact q⟩
    · exact .inr q
/-- the new list and what stands by it -/
structure Acc (K : PySem.W.Frag) (μ0 : List Addr) (H0 : Hp) (D : Addr) (μ' : List Addr) (H' : Hp) (st' : Sto) (acc : List Rm.D) : Prop where
  ext : Ext K μ0 H0 μ' H'
  rh : RH K μ' H' st'
  out : D ∉ μ'
  cell : ∃ xs, H' D = some (.lst xs) ∧ RVs K μ' H' xs acc
theorem Acc.step {D : Addr} {acc : List Rm.D} {s : Sto} (a : Acc K μ0 H0 D μ' H' st' acc) (x : Ext K μ' H' μ1 H1) (r : RH K μ1 H1 s) : Acc K μ0 H0 D μ1 H1 s acc := by
  obtain ⟨xs, e, v⟩ := a.cell
  refine ⟨a.ext.trans x, r, fun h => ?_, xs, x.fr D _ e a.out, v.mono x⟩
  rcases x.new D h with h | h
  · exact a.out h
  · rw [e] at h; cases h
theorem Acc.add {D : Addr} {acc : List Rm.D} {s : Sto} {v : V} {y : Rm.D} (hD : H0 D = none) (a : Acc K μ0 H0 D μ' H' s acc) (rv : RV K μ' H' v y) : ∃ xs, H' D = some (.lst xs) ∧ xs.length = acc.length ∧ Sub K μ' H' μ' (upd H' D (.lst (xs ++ [v]))) ∧ Acc K μ0 H0 D μ' (upd H' D (.lst (xs ++ [v]))) s (acc ++ [y]) := by
  obtain ⟨xs, e, hv⟩ := a.cell
  have sw : Sub K μ' H' μ' (upd H' D (.lst (xs ++ [v]))) := Sub.write e
  refine ⟨xs, e, hv.length, sw, ⟨⟨a.ext.pre, fun b ys q => sw.sq b ys (a.ext.sq b ys q), fun b ys q => sw.fz b ys (a.ext.fz b ys q), fun b ob q hn => ?_, a.ext.new⟩, a.rh.side sw fun b hb => upd_ne fun z => a.out (z ▸ hb), a.out, _, upd_same, (hv.append (.cons rv .nil)).monoS sw⟩⟩
  rw [upd_ne (ne_of_none q hD)]
  exact a.ext.fr b ob q hn
/-- a comprehension's inner loop -/
theorem lc_inner {it : ITD} {J : It} {G : Hp → Prop} {Y : Nat → Hp → V → Hp → Prop} {t : TG} {g : D → Env → Option Env} {tt : FT} {te : F} {vs : List Nat} {D : Addr} {acc : List Rm.D} {s4 : Sto} {Nx : Hp → Prop} {C : List Rm.D → Sto → Prop}
    (wk : Walk J it.items.length G Y) (l1 : ∀ μ2 H2 st2, Sub X.K μ4 H4 μ2 H2 → RH X.K μ2 H2 st2 → it.chk st2 → G H2)
    (l2 : ∀ i x H2 H3 μ2 st2, i < it.items.length → Sub X.K μ4 H4 μ2 H2 → RH X.K μ2 H2 st2 → it.chk st2 → Y i H2 x H3 → Ext X.K μ2 H2 μ2 H3 ∧ RH X.K μ2 H3 st2 ∧ ∃ d, it.items[i]? = some d ∧ RV X.K μ2 H3 x d)
    (hl : GL X.K t g vs) (re : ∀ {μ' H'}, Sub X.K μ4 H4 μ' H' → RE X.K μ' H' (L2.wipe σ2 vs) (wipeD ρ1 vs)) (hD : H0 D = none) (a0 : Acc X.K μ0 H0 D μ4 H4 s4 acc)
    (fin : ∀ μ' H' s acc, Acc X.K μ0 H0 D μ' H' s acc → C acc s → Nx H')
    (p : (lcGo it.chk g tt te (wipeD ρ1 vs) it.items acc s4).Sat C fun _ _ => False) :
    ∃ W1 : Nat → Nat → Hp → Prop, (∃ m, W1 0 m H4) ∧ ∀ j k H, W1 j k H → (J.stop j H ∧ Nx H) ∨ (J.go j H ∧ ∃ Nx1 : Hp → Prop, (∀ H', Nx1 H' → ∃ k', k' < k ∧ W1 (j + 1) k' H') ∧
      ∀ x H', J.yld j H x H' → t x (L2.wipe σ2 vs) H' fun σ3 H5 => L2.wipe σ3 vs = L2.wipe σ2 vs ∧ tT X W0 tt σ3 H5 fun b H6 => if b = true then tE X W0 te σ3 H6 fun y H7 => ∃ acc, H7 D = some (.lst acc) ∧ acc.length < sizeLine ∧ Nx1 (upd H7 D (.lst (acc ++ [y]))) else Nx1 H6) := by
  refine ⟨fun j k H' => k = it.items.length - j ∧ j ≤ it.items.length ∧ ∃ μ' s acc, Acc X.K μ0 H0 D μ' H' s acc ∧ Sub X.K μ4 H4 μ' H' ∧ (lcGo it.chk g tt te (wipeD ρ1 vs) (it.items.drop j) acc s).Sat C fun _ _ => False, ⟨_, rfl, Nat.zero_le _, μ4, s4, acc, a0, ⟨⟨[], by simp⟩, fun _ _ h => h, fun _ _ h => h⟩, p⟩, ?_⟩
  rintro j k H' ⟨rfl, hj, μ', s, acc, a, sb, p⟩
  have hk := lcGo_chk p
  have hg := l1 μ' H' s sb a.rh hk
  by_cases hlt : j < it.items.length
  · refine .inr ⟨wk.goes j H' hlt hg, fun H'' => ∃ μ' s acc, Acc X.K μ0 H0 D μ' H'' s acc ∧ Sub X.K μ4 H4 μ' H'' ∧ (lcGo it.chk g tt te (wipeD ρ1 vs) (it.items.drop (j + 1)) acc s).Sat C fun _ _ => False, fun H'' ⟨μ', s, acc, h⟩ => ⟨_, by omega, rfl, hlt, μ', s, acc, h⟩, fun x H3 y => ?_⟩
    obtain ⟨x3, r3, d, hd, rv⟩ := l2 j x H' H3 μ' s hlt sb a.rh hk (wk.yields j H' x H3 hlt hg y)
    have hdr : it.items.drop j = d :: it.items.drop (j + 1) := by
      rw [List.drop_eq_getElem_cons hlt]
      congr 1
      rw [List.getElem?_eq_getElem hlt] at hd
      exact Option.some.inj hd
    rw [hdr] at p
    unfold lcGo at p
    rw [if_pos hk] at p
    cases hgd : g d (wipeD ρ1 vs) with
    | none => rw [hgd] at p; exact p.elim
    | some ρ2 =>
      rw [hgd] at p
      have a3 := a.step x3 r3
      have sb3 := sb.trans x3.sub
      refine hl μ' H3 _ _ x d ρ2 _ (re sb3) rv hgd fun σ1 re1 w1 => ⟨w1.trans (wipe_idem σ2 vs), ?_⟩
      cases htt : tt ρ2 s with
      | bad => simp only [htt] at p; exact p.elim
      | exc e s2 => simp only [htt] at p; exact p.elim
      | ok b s2 =>
        refine ⟨μ', ρ2, s, r3, re1, ?_⟩
        rw [htt]
        intro μ5 H5 x5 r5
        have a5 := a3.step x5 r5
        have sb5 := sb3.trans x5.sub
        cases b with
        | false =>
          simp only [htt] at p
          exact iteF ⟨μ5, s2, acc, a5, sb5, p⟩
        | true =>
          simp only [htt] at p
          refine iteT ?_
          cases hte : te ρ2 s2 with
          | bad => simp only [hte] at p; exact p.elim
          | exc e s3 => simp only [hte] at p; exact p.elim
          | ok y s3 =>
            simp only [hte] at p
            refine ⟨μ5, ρ2, s2, r5, re1.mono x5, ?_⟩
            rw [hte]
            intro v μ6 H6 x6 r6 rv6
            obtain ⟨xs, e, ln, sw, a7⟩ := Acc.add hD (a5.step x6 r6) rv6
            split at p
            · rename_i hlen
              exact ⟨xs, e, by rw [ln]; exact hlen, μ6, s3, acc ++ [y], a7, (sb5.trans x6.sub).trans sw, p⟩
            · exact p.elim
  · have e : j = it.items.length := by omega
    subst e
    rw [List.drop_length] at p
    unfold lcGo at p
    rw [if_pos hk] at p
    exact .inl ⟨wk.stops H' hg, fin μ' H' s acc a p⟩
end
end Rm

namespace Rm
open PySem PySem.Spec PyProof.Rows L2
section
variable {X : Cx} {W : WX} {μ μ' μ1 : List Addr} {H H' H1 : Hp} {st st' : Sto} {σ : L2.St} {ρ : Env} {k : Nat}
open Classical in
noncomputable def lcGo2 (chk : Sto → Prop) (g : D → Env → Option Env) (tt : FT) (fi1 : FI) (g1 : D → Env → Option Env) (tt1 : FT) (te : F) (vs1 : List Nat) (ρ : Env) : List D → List D → Sto → R (List D)
  | [], acc, st => if chk st then .ok acc st else .bad
  | d :: ds, acc, st => if chk st then (match g d ρ with
    | none => .bad
    | some ρ1 => match tt ρ1 st with
      | .ok true s2 => (match fi1 ρ1 s2 with
        | .ok it1 s3 => (match lcGo it1.chk g1 tt1 te (wipeD ρ1 vs1) it1.items acc s3 with
          | .ok acc2 s4 => lcGo2 chk g tt fi1 g1 tt1 te vs1 ρ ds acc2 s4
          | _ => .bad)
        | _ => .bad)
      | .ok false s2 => lcGo2 chk g tt fi1 g1 tt1 te vs1 ρ ds acc s2
      | _ => .bad) else .bad
/-- a comprehension of two clauses -/
@[irreducible] noncomputable def eLc2 (fi : FI) (g : D → Env → Option Env) (tt : FT) (fi1 : FI) (g1 : D → Env → Option Env) (tt1 : FT) (te : F) (vs vs1 : List Nat) : F := fun ρ st => (fi ρ st).bd fun it s =>
  (lcGo2 it.chk g tt fi1 g1 tt1 te vs1 (wipeD ρ vs) it.items [] s).bd fun acc s2 => .ok (.ref s2.length) (s2 ++ [.lst acc])
theorem lcGo2_chk {chk : Sto → Prop} {g tt fi1 g1 tt1 te vs1 ρ} {ds acc : List D} {st : Sto} {P E} (h : (lcGo2 chk g tt fi1 g1 tt1 te vs1 ρ ds acc st).Sat P E) : chk st := by
  cases ds <;> (unfold lcGo2 at h; split at h; (first | assumption | exact h.elim); first | assumption | exact h.elim)
theorem lcGo2_exc {chk : Sto → Prop} {g tt fi1 g1 tt1 te vs1 ρ} {e b} : ∀ (ds acc : List D) (s : Sto), lcGo2 chk g tt fi1 g1 tt1 te vs1 ρ ds acc s ≠ .exc e b := by
  intro ds
  induction ds with
  | nil => intro acc s h; unfold lcGo2 at h; split at h <;> cases h
  | cons d ds ih =>
    intro acc s h
    unfold lcGo2 at h
    split at h
    · split at h
      · cases h
      · split at h
        · split at h
          · split at h
            · exact ih _ _ h
            · cases h
          · cases h
        · exact ih _ _ h
        · cases h
    · cases h
theorem lc2_conv {wi wi1 : TI} {fi fi1 : FI} {t t1 : TG} {g g1} {tt tt1 : FT} {te : F} {vs vs1 : List Nat} (hw : WiD X W wi fi) (hl : GL X.K t g vs) (hw1 : WiD X W0 wi1 fi1) (hl1 : GL X.K t1 g1 vs1) :
    ∀ σ H Q μ ρ st, RH X.K μ H st → RE X.K μ H σ ρ → (eLc2 fi g tt fi1 g1 tt1 te vs vs1 ρ st).Sat (Eok X μ H Q) (Eex X W μ H σ) → tLc2 wi t (tT X W0 tt) wi1 t1 (tT X W0 tt1) (tE X W0 te) vs vs1 σ H Q := by
  intro σ H Q μ ρ st r re q
  refine hw σ H _ μ ρ st r re ((R.sat_bd.mp (by unfold eLc2 at q; exact q)).mono (fun it s p J μ1 H1 x1 r1 ⟨G, Y, wk, l1, l2⟩ => ?_) fun _ _ z => z)
  intro D hD
  have pD : D ∉ μ1 := r1.notIn hD
  have a0 : Acc X.K μ1 H1 D μ1 (upd H1 D (.lst [])) s [] := ⟨Ext.alloc r1 hD, r1.alloc hD, pD, [], upd_same, .nil⟩
  have p0 : (lcGo2 it.chk g tt fi1 g1 tt1 te vs1 (wipeD ρ vs) it.items [] s).Sat (fun (acc : List Rm.D) (s2 : Sto) => Eok X μ H Q (Rm.D.ref s2.length) (s2 ++ [Cell.lst acc])) (fun _ _ => False) := by
    have p' := p
    cases hg : lcGo2 it.chk g tt fi1 g1 tt1 te vs1 (wipeD ρ vs) it.items [] s with
    | ok a b => simp only [hg] at p'; exact p'
    | bad => simp only [hg] at p'; exact p'.elim
    | exc e b => exact absurd hg (lcGo2_exc _ _ _)
  refine ⟨fun i m H' => m = it.items.length - i ∧ i ≤ it.items.length ∧ ∃ μ' s acc, Acc X.K μ1 H1 D μ' H' s acc ∧ (lcGo2 it.chk g tt fi1 g1 tt1 te vs1 (wipeD ρ vs) (it.items.drop i) acc s).Sat (fun (acc : List Rm.D) (s2 : Sto) => Eok X μ H Q (Rm.D.ref s2.length) (s2 ++ [Cell.lst acc])) (fun _ _ => False),
    ⟨_, rfl, Nat.zero_le _, μ1, s, [], a0, p0⟩, ?_⟩
  rintro i m H' ⟨rfl, hi, μ', s, acc, a, p⟩
  have hk := lcGo2_chk p
  have hg := l1 μ' H' s a.ext.sub a.rh hk
  by_cases hlt : i < it.items.length
  · refine .inr ⟨wk.goes i H' hlt hg, fun H'' => ∃ μ' s acc, Acc X.K μ1 H1 D μ' H'' s acc ∧ (lcGo2 it.chk g tt fi1 g1 tt1 te vs1 (wipeD ρ vs) (it.items.drop (i + 1)) acc s).Sat (fun (acc : List Rm.D) (s2 : Sto) => Eok X μ H Q (Rm.D.ref s2.length) (s2 ++ [Cell.lst acc])) (fun _ _ => False), fun H'' ⟨μ', s, acc, h⟩ => ⟨_, by omega, rfl, hlt, μ', s, acc, h⟩, fun x H3 y => ?_⟩
    obtain ⟨x3, r3, d, hd, rv⟩ := l2 i x H' H3 μ' s hlt a.ext.sub a.rh hk (wk.yields i H' x H3 hlt hg y)
    have hdr : it.items.drop i = d :: it.items.drop (i + 1) := by
      rw [List.drop_eq_getElem_cons hlt]
      congr 1
      rw [List.getElem?_eq_getElem hlt] at hd
      exact Option.some.inj hd
    rw [hdr] at p
    unfold lcGo2 at p
    rw [if_pos hk] at p
    cases hgd : g d (wipeD ρ vs) with
    | none => rw [hgd] at p; exact p.elim
    | some ρ1 =>
      rw [hgd] at p
      have a3 := a.step x3 r3
      refine hl μ' H3 _ _ x d ρ1 _ (((re.mono (x1.trans a.ext)).mono x3).wipe vs) rv hgd fun σ1 re1 w1 => ⟨w1.trans (wipe_idem σ vs), ?_⟩
      cases htt : tt ρ1 s with
      | bad => simp only [htt] at p; exact p.elim
      | exc e s2 => simp only [htt] at p; exact p.elim
      | ok b s2 =>
        refine ⟨μ', ρ1, s, r3, re1, ?_⟩
        rw [htt]
        intro μ4 H4 x4 r4
        have a4 := a3.step x4 r4
        cases b with
        | false =>
          simp only [htt] at p
          exact iteF ⟨μ4, s2, acc, a4, p⟩
        | true =>
          simp only [htt] at p
          refine iteT ?_
          cases hfi : fi1 ρ1 s2 with
          | bad => simp only [hfi] at p; exact p.elim
          | exc e s3 => simp only [hfi] at p; exact p.elim
          | ok it1 s3 =>
            simp only [hfi] at p
            refine hw1 σ1 H4 _ μ4 ρ1 s2 r4 (re1.mono x4) ?_
            rw [hfi]
            rintro J1 μ5 H5 x5 r5 ⟨G1, Y1, wk1, k1, k2⟩
            refine lc_inner (ρ1 := ρ1) (C := fun acc2 s4 => (lcGo2 it.chk g tt fi1 g1 tt1 te vs1 (wipeD ρ vs) (it.items.drop (i + 1)) acc2 s4).Sat (fun (acc : List Rm.D) (s2 : Sto) => Eok X μ H Q (Rm.D.ref s2.length) (s2 ++ [Cell.lst acc])) (fun _ _ => False)) wk1 k1 k2 hl1 (fun {μ' H'} sb => ?_) hD (a4.step x5 r5) (fun μ' H' s acc a h => ⟨μ', s, acc, a, h⟩) ?_
            · have re5 := (re1.mono x4).mono x5
              exact RE.wipe (⟨re5.1, fun n d h => let ⟨v, e, q⟩ := re5.2 n d h; ⟨v, e, q.monoS sb⟩⟩ : RE X.K μ' H' σ1 ρ1) vs1
            · cases hgo : lcGo it1.chk g1 tt1 te (wipeD ρ1 vs1) it1.items acc s3 with
              | ok a b => simp only [hgo] at p; exact p
              | bad => simp only [hgo] at p; exact p.elim
              | exc e b => simp only [hgo] at p; exact p.elim
  · have e : i = it.items.length := by omega
    subst e
    rw [List.drop_length] at p
    unfold lcGo2 at p
    rw [if_pos hk] at p
    obtain ⟨xs, eD, hv⟩ := a.cell
    exact .inl ⟨wk.stops H' hg, p (.ref D) (μ' ++ [D]) H' (x1.trans (Ext.take hD a.ext)) (a.rh.push a.out ⟨xs, eD, hv⟩) (.ref (by rw [← a.rh.len, List.getElem?_append_right (Nat.le_refl _)]; simp))⟩
theorem se_lc2 {elt tg iter tg1 iter1 : Expr} {ifs ifs1 : List Expr} {scope : Scope} {pos : Pos} {wi wi1 : TI} {fi fi1 : FI} {t t1 : TG} {g g1} {tt tt1 : FT} {te : F} (own : List (Str × Nat)) (vs1 : List Nat) (hv : ∀ i ∈ vs1, i ∈ own.map (·.2)) (hc : Go X W k) (hN : X.N.Nodup) (hi : PI X tg iter wi) (hw : WiD X W wi fi) (ok : BlkOk X.N X.env.scope scope own)
    (hg : ∀ (s : Shared) (H : Hp) (C : Addr) (cl : List (Str × Addr)) (fp : List Addr), PG (X.blk s H scope (compEnvC scope cl C X.env) fp) tg t) (hl : GL X.K t g (own.map (·.2)))
    (ht : ∀ (s : Shared) (H : Hp) (C : Addr) (cl : List (Str × Addr)) (fp : List Addr), SP1 (X.blk s H scope (compEnvC scope cl C X.env) fp) W0 ifs tt)
    (hi1 : ∀ (s : Shared) (H : Hp) (C : Addr) (cl : List (Str × Addr)) (fp : List Addr), PI (X.blk s H scope (compEnvC scope cl C X.env) fp) tg1 iter1 wi1) (hw1 : WiD X W0 wi1 fi1)
    (hg1 : ∀ (s : Shared) (H : Hp) (C : Addr) (cl : List (Str × Addr)) (fp : List Addr), PG (X.blk s H scope (compEnvC scope cl C X.env) fp) tg1 t1) (hl1 : GL X.K t1 g1 vs1)
    (ht1 : ∀ (s : Shared) (H : Hp) (C : Addr) (cl : List (Str × Addr)) (fp : List Addr), SP1 (X.blk s H scope (compEnvC scope cl C X.env) fp) W0 ifs1 tt1)
    (he : ∀ (s : Shared) (H : Hp) (C : Addr) (cl : List (Str × Addr)) (fp : List Addr), SE (X.blk s H scope (compEnvC scope cl C X.env) fp) W0 elt te) (hs : ∀ x, foldedSetIterable iter X.env x = pure x := by intro _; rfl) (hs1 : ∀ env x, foldedSetIterable iter1 env x = pure x := by intro _ _; rfl) :
    SE X W (.ListComp elt [⟨tg, iter, ifs, 0⟩, ⟨tg1, iter1, ifs1, 0⟩] scope pos) (eLc2 fi g tt fi1 g1 tt1 te (own.map (·.2)) vs1) :=
  .mk' (pe_lc2 (own := own) (tt := tT X W0 tt) (tt1 := tT X W0 tt1) (te := tE X W0 te) hc.calm hN hi ok hv hg (fun s H C cl fp => (ht s H C cl fp).run) hi1 hg1 (fun s H C cl fp => (ht1 s H C cl fp).run) (fun s H C cl fp => (he s H C cl fp).run) hs hs1) (lc2_conv hw hl hw1 hl1)
theorem s_setLc2 {i : Nat} {y : Str} {py : Pos} {elt tg iter tg1 iter1 : Expr} {ifs ifs1 : List Expr} {scope : Scope} {pos spos : Pos} {wi wi1 : TI} {fi fi1 : FI} {t t1 : TG} {g g1} {tt tt1 : FT} {te : F} (own : List (Str × Nat)) (vs1 : List Nat) (hv : ∀ i ∈ vs1, i ∈ own.map (·.2)) (hc : Go X W k) (hN : X.N.Nodup) (hy : X.N[i]? = some y) (hyl : X.env.scope.names.lookup y = some .local)
    (hsw : swapsWith (.ListComp elt [⟨tg, iter, ifs, 0⟩, ⟨tg1, iter1, ifs1, 0⟩] scope pos) (some (.Name y py)) spos.line X.env = pure true) (hi : PI X tg iter wi) (hw : WiD X W wi fi) (ok : BlkOk X.N X.env.scope scope own)
    (hg : ∀ (s : Shared) (H : Hp) (C : Addr) (cl : List (Str × Addr)) (fp : List Addr), PG (X.blk s H scope (compEnvC scope cl C X.env) fp) tg t) (hl : GL X.K t g (own.map (·.2)))
    (ht : ∀ (s : Shared) (H : Hp) (C : Addr) (cl : List (Str × Addr)) (fp : List Addr), SP1 (X.blk s H scope (compEnvC scope cl C X.env) fp) W0 ifs tt)
    (hi1 : ∀ (s : Shared) (H : Hp) (C : Addr) (cl : List (Str × Addr)) (fp : List Addr), PI (X.blk s H scope (compEnvC scope cl C X.env) fp) tg1 iter1 wi1) (hw1 : WiD X W0 wi1 fi1)
    (hg1 : ∀ (s : Shared) (H : Hp) (C : Addr) (cl : List (Str × Addr)) (fp : List Addr), PG (X.blk s H scope (compEnvC scope cl C X.env) fp) tg1 t1) (hl1 : GL X.K t1 g1 vs1)
    (ht1 : ∀ (s : Shared) (H : Hp) (C : Addr) (cl : List (Str × Addr)) (fp : List Addr), SP1 (X.blk s H scope (compEnvC scope cl C X.env) fp) W0 ifs1 tt1)
    (he : ∀ (s : Shared) (H : Hp) (C : Addr) (cl : List (Str × Addr)) (fp : List Addr), SE (X.blk s H scope (compEnvC scope cl C X.env) fp) W0 elt te) (hs : ∀ x, foldedSetIterable iter X.env x = pure x := by intro _; rfl) (hs1 : ∀ env x, foldedSetIterable iter1 env x = pure x := by intro _ _; rfl) :
    SS X W (.Assign [.Name y py] (.ListComp elt [⟨tg, iter, ifs, 0⟩, ⟨tg1, iter1, ifs1, 0⟩] scope pos) spos) (sAsgN (eLc2 fi g tt fi1 g1 tt1 te (own.map (·.2)) vs1) (gN i)) :=
  .mk' (ps_setLc2 (own := own) (tt := tT X W0 tt) (tt1 := tT X W0 tt1) (te := tE X W0 te) hc.calm hN hy hyl hsw hi ok hv hg (fun s H C cl fp => (ht s H C cl fp).run) hi1 hg1 (fun s H C cl fp => (ht1 s H C cl fp).run) (fun s H C cl fp => (he s H C cl fp).run) hs hs1) (asg_conv (vs := [i]) (gl_name List.mem_cons_self) (lc2_conv hw hl hw1 hl1))
end
end Rm

namespace Rm
open PySem PySem.Spec PyProof.Rows L2
/-! ## Turned round: xs[::-1] -/
section
variable {prog : Program} {w : World} {A : Around} {E : Value → Shared → Prop} {s : Shared}
theorem places_rev (n : Nat) : Builtin.Slice.slicePlaces ((n : Int) - 1) (-1) (-1) = n := by
  unfold Builtin.Slice.slicePlaces
  rw [if_neg (by decide)]
  split
  · rw [show (- -1 : Int) = 1 by decide, Int.ediv_one]; omega
  · omega
theorem fm_congr {α β : Type} {f g : α → Option β} : ∀ {l : List α}, (∀ x ∈ l, f x = g x) → l.filterMap f = l.filterMap g
  | [], _ => rfl
  | x :: l, h => by rw [List.filterMap_cons, List.filterMap_cons, h x List.mem_cons_self, fm_congr fun y hy => h y (List.mem_cons_of_mem _ hy)]
theorem pick_rev (xs : Array Value) : (List.range xs.size).filterMap (fun (k : Nat) => xs[((xs.size : Int) - 1 + (k : Int) * (-1)).toNat]?) = xs.toList.reverse := by
  have q := PySem.W.krv_pick xs
  unfold slicePick at q
  rw [PySem.W.krv_bounds] at q
  simp only at q
  rw [PySem.W.krv_sliceRange, List.filterMap_map] at q
  have q := congrArg Array.toList q
  rw [List.toList_toArray, List.toList_toArray] at q
  rw [← q]
  refine fm_congr fun k hk => ?_
  have hk' := List.mem_range.mp hk
  show xs[((xs.size : Int) - 1 + (k : Int) * (-1)).toNat]? = xs[xs.size - 1 - k]?
  congr 1; omega
theorem apply_rev {sl : Addr} {vl vu vs : Value} {n : Nat} {Q : Int × Int × Nat → Shared → Prop} (hs : s.heap.IsSliceOf sl vl vu vs) (pl : IsPart vl none) (pu : IsPart vu none) (ps : IsPart vs (some (-1)))
    (k : Q ((n : Int) - 1, -1, n) s) : wpAny (model prog w) A (Builtin.Slice.sliceApplied (.ref sl) (pure (n : Int))) Q E s := by
  obtain ⟨ob, o1, _, o3⟩ := hs
  cases pl; cases pu
  cases ps with
  | int _ t =>
    unfold Builtin.Slice.sliceApplied; unfold Builtin.Slice.sliceFields
    refine wpAny_bind (wpAny_bind (wpAny_field o1 o3 (x := .none) rfl (wpAny_bind (wpAny_field o1 o3 (x := .none) rfl (wpAny_bind (wpAny_field o1 o3 (x := .int (-1) t) rfl (wpAny_pure ?_)))))))
    refine wpAny_bind (slicePart_int ?_)
    show wpAny _ _ (if ((-1 : Int) == 0) = true then _ else _) _ _ s
    rw [if_neg (by decide)]
    refine wpAny_bind (slicePart_none (wpAny_bind (slicePart_none (wpAny_bind (wpAny_pure ?_)))))
    show wpAny _ _ (pure ((n : Int) - 1, (-1 : Int), Builtin.Slice.slicePlaces ((n : Int) - 1) (-1) (-1))) _ _ s
    rw [places_rev]
    exact wpAny_pure k
theorem tup_rev {t sl : Addr} {its : Array Value} {vl vu vs : Value} {Q : Value → Shared → Prop} (ht : IsTup s.heap t its) (hs : s.heap.IsSliceOf sl vl vu vs) (pl : IsPart vl none) (pu : IsPart vu none) (ps : IsPart vs (some (-1)))
    (k : Q (.ref s.heap.objs.size) { s with heap := s.heap.push { cls := .type "tuple", data := .seq its.toList.reverse.toArray } }) (hz : its.size ≤ sizeLine) : wpAny (model prog w) A (getItem (.ref t) (.ref sl)) Q E s := by
  have fits : sizeOk (.seq its.toList.reverse.toArray) := by show its.toList.reverse.toArray.size ≤ sizeLine; simpa using hz
  have ts : s.TypeIs (.ref sl) "slice" := by obtain ⟨ob, o1, o2, _⟩ := hs; exact ⟨ob, o1, o2⟩
  unfold getItem; try with_reducible refine wpAny_holding ?_
  first | refine wpAny_bind (wpAny_pure ?_) | skip
  refine wpAny_bind (wpAny_sequenceKey ht.typeIs (by decide) (wpAny_bind (wpAny_callSpecial?_slot (name := Str.ofString "__getitem__") ht.typeIs PyProof.Rows.slot_tuple_getitem
    (wpAny_call_entry PyProof.Rows.slot_tuple_getitem ht.typeIs entry_tuple_getitem ?_ (args_tuple_getitem _ _)))))
  show wpAny _ _ (Builtin.Tuple.tupleItemsOf (.ref t) >>= _) _ _ s
  refine wpAny_bind (tupleItemsOf_ ht (wpAny_bind (wpAny_typeOf ts ?_)))
  rw [if_pos (by decide)]
  refine wpAny_bind (apply_rev hs pl pu ps ?_)
  show wpAny _ _ (if (((its.size : Int) - 1) == 0 && (-1 : Int) == 1 && its.size == its.size) = true then _ else _) _ _ s
  rw [if_neg (by simp), pick_rev]
  first
    | exact wpAny_bind (m := Builtin.Tuple.tupleExact _) (wpAny_newObj_type (wpAny_pure ⟨_, rfl, wpAny_pure k⟩) fits)
    | exact wpAny_bind (wpAny_bind (m := Builtin.Tuple.tupleExact _) (wpAny_newObj_type (wpAny_pure (wpAny_pure ⟨_, rfl, wpAny_pure k⟩)) fits))
    | exact wpAny_bind (wpAny_bind (m := Builtin.Tuple.tupleExact _) (wpAny_newObj_type (wpAny_pure ⟨_, rfl, wpAny_pure k⟩) fits))
end
section
variable {X : Cx} {W : WX} {μ : List Addr} {H : Hp} {st : Sto} {σ : L2.St} {ρ : Env}
def tRevA (K : PySem.W.Frag) (te : TE) : TE := fun σ H Q => tRevL K te σ H Q ∨ te σ H fun x H1 => ∃ a xs, x = .ref a ∧ SqT K H1 a xs ∧ ∀ p, H1 p = none → Q (.ref p) (upd H1 p (.tup xs.reverse))
theorem pe_revA {e : Expr} {te : TE} {k : Nat} {p1 p2 p3 pos : Pos} (he : PE X e te) : PE X (.Subscript e (.Slice none none (some (.UnaryOp .USub (.Constant (.int 1) k p1) p2)) p3) pos) (tRevA X.K te) := by
  refine ⟨fun pins s σ H Q I h => h.elim (fun h => (pe_revL he).run pins s σ H Q I h) fun h => ?_⟩
  refine Subscript_ (thn (he.run pins s σ H _ I h) fun v s1 ⟨x, H1, I1, r1, a, xs, ex, hx, q⟩ => ?_)
  subst ex; cases r1
  have hst : PO X (some (.UnaryOp .USub (.Constant (.int 1) k p1) p2)) (tPart (tUn (rU fun i => .int (-i)) (tC (.int 1)))) := po_some (pe_un un_neg pe_int)
  refine wpAny_Slice (thn (po_none.run pins s1 σ H1 (fun o H2 => o = none ∧ H2 = H1) I1 ⟨rfl, rfl⟩) fun vl s2 ⟨l, H2, I2, pl, el, e2⟩ => thn (po_none.run pins s2 σ H2 (fun o H3 => o = none ∧ H3 = H2) I2 ⟨rfl, rfl⟩) fun vu s3 ⟨u, H3, I3, pu, eu, e3⟩ => ?_)
  subst el e2 eu e3
  refine thn (hst.run pins s3 σ H3 (fun o H4 => o = some (-1) ∧ H4 = H3) I3 ⟨1, rfl, -1, rfl, rfl, rfl⟩) fun vs s4 ⟨o, H4, I4, ps, eo, e4⟩ => ?_
  subst eo e4
  have I5 : Inv X pins σ H4 { s4 with heap := s4.heap.push { cls := .type "slice", data := .fields #[vl, vu, vs] } } := I4.kept (t' := s4.toks) fun b ob q => Heap.get?_push_of_some _ q
  obtain ⟨its, rr, ht, hz⟩ := I5.tuple hx
  have ln := rr.length
  show wpAny (model X.prog X.w) X.A (subscriptTail e (.Slice none none (some (.UnaryOp .USub (.Constant (.int 1) k p1) p2)) p3) (.ref a) (.ref s4.heap.objs.size)) (EP X pins σ Q) X.xe { s4 with heap := s4.heap.push { cls := .type "slice", data := .fields #[vl, vu, vs] } }
  refine tail_any (ops := [.ref a, .ref s4.heap.objs.size]) ht.typeIs (PyProof.Rows.slot_tuple_getitem.lookup) ?_ (by with_unfolding_all rfl)
  refine tup_rev ht (Heap.IsSliceOf.new _ vl vu vs) pl pu ps ?_ (by rw [List.size_toArray]; omega)
  refine ⟨.ref _, _, I5.laid (t' := s4.toks) (o := .tup xs.reverse) (fun b ob q => Heap.get?_push_of_some _ q) (Nat.le_refl _) ?_, rfl, q _ (I5.hok.fresh (Nat.le_refl _))⟩
  exact ⟨by rw [List.length_reverse]; exact hz, _, rr.reverse, ⟨_, Heap.get?_push_size _ rfl, rfl, _, rfl⟩⟩
/-- turned round -/
def revD (d : D) (st : Sto) : Option (D × Sto) := match d with
  | .tup ds => some (.tup ds.reverse, st)
  | d => (seqD d st).map fun ds => (.ref st.length, st ++ [.lst ds.reverse])
theorem RVs.rev {K : PySem.W.Frag} : ∀ {xs : List V} {ds : List D}, RVs K μ H xs ds → RVs K μ H xs.reverse ds.reverse
  | _, _, .nil => .nil
  | _, _, .cons r t => by rw [List.reverse_cons, List.reverse_cons]; exact (RVs.rev t).append (.cons r .nil)
theorem se_rev {e : Expr} {f : F} {k : Nat} {p1 p2 p3 pos : Pos} (he : SE X W e f) : SE X W (.Subscript e (.Slice none none (some (.UnaryOp .USub (.Constant (.int 1) k p1) p2)) p3) pos) (e1 revD f) :=
  .mk' (pe_revA he.run) fun σ H Q μ ρ st r re q => by
    have q' := R.sat_bd.mp q
    cases hf : f ρ st with
    | bad => rw [hf] at q'; exact q'.elim
    | exc e s =>
      rw [hf] at q'
      exact .inl (tE.go (P := fun _ _ => False) r re (by rw [hf]; exact q') fun d s v μ' H' p => p.elim)
    | ok d s =>
      rw [hf] at q'
      have p4 := sat_of.mp q'
      have go : ∀ Q : VK, (∀ v μ' H', Ext X.K μ H μ' H' → RH X.K μ' H' s → RV X.K μ' H' v d → Q v H') → tE X W f σ H Q := fun Q h => ⟨μ, ρ, st, r, re, by rw [hf]; exact h⟩
      cases d with
      | tup ds =>
        refine .inr (go _ fun v μ1 H1 x1 r1 rv => ?_)
        cases rv with
        | tup hs hv =>
          refine ⟨_, _, rfl, hs, fun p hp => ?_⟩
          obtain ⟨xx, rr, vv⟩ := new_tup r1 hp hv.rev
          exact p4 _ _ _ (x1.trans xx) rr vv
      | kl ds =>
        refine .inl (go _ fun v μ1 H1 x1 r1 rv => ?_)
        cases rv with
        | kl hs hv =>
          refine ⟨_, _, rfl, hs.sql, fun p hp => ?_⟩
          obtain ⟨xx, rr, vv⟩ := new_lst r1 hp hv.rev
          exact p4 _ _ _ (x1.trans xx) rr vv
      | ref n =>
        cases hsq : seqD (.ref n) s with
        | none => simp only [revD, hsq] at p4; exact p4.elim
        | some ds =>
          simp only [revD, hsq] at p4
          refine .inl (go _ fun v μ1 H1 x1 r1 rv => ?_)
          cases rv with
          | ref hn =>
            obtain ⟨xs, hsl, hv⟩ := seqL_at r1 hn hsq
            refine ⟨_, _, rfl, hsl, fun p hp => ?_⟩
            obtain ⟨xx, rr, vv⟩ := new_lst r1 hp hv.rev
            exact p4 _ _ _ (x1.trans xx) rr vv
      | _ => exact p4.elim
end
end Rm

namespace Rm
open PySem L2
/-! ## Reasoning about outcomes -/
/-- it ends, without an exception -/
def Ev {α : Type} (r : R α) (P : α → Sto → Prop) : Prop := r.Sat P fun _ _ => False
/-- a statement ends, without an exception -/
def EvS (o : RS) (N : Env → Sto → Prop) (T : D → Sto → Prop) (B C : Env → Sto → Prop) : Prop := o.Sat N T B C fun _ _ _ => False
abbrev no2 : Env → Sto → Prop := fun _ _ => False
section
variable {α β : Type} {P : α → Sto → Prop} {N B C : Env → Sto → Prop} {T : D → Sto → Prop} {ρ : Env} {st s : Sto}
@[simp] theorem ev_ok {a : α} : Ev (.ok a s) P ↔ P a s := Iff.rfl
@[simp] theorem ev_bad : Ev (.bad : R α) P ↔ False := Iff.rfl
@[simp] theorem ev_exc {e : Ex} : Ev (.exc e s : R α) P ↔ False := Iff.rfl
@[simp] theorem ev_bd {r : R β} {f : β → Sto → R α} : Ev (r.bd f) P ↔ Ev r (fun a s => Ev (f a s) P) := R.sat_bd
theorem Ev.mono {r : R α} {Q : α → Sto → Prop} (h : Ev r P) (hQ : ∀ a s, P a s → Q a s) : Ev r Q := R.Sat.mono h hQ fun _ _ z => z
theorem Ev.eq {r : R α} (h : Ev r P) : ∃ a s, r = .ok a s ∧ P a s := by
  cases r with
  | ok a s => exact ⟨a, s, rfl, h⟩
  | exc e s => exact h.elim
  | bad => exact h.elim
@[simp] theorem evs_nx {ρ' : Env} : EvS (.nx ρ' s) N T B C ↔ N ρ' s := Iff.rfl
@[simp] theorem evs_rt {d : D} : EvS (.rt d s) N T B C ↔ T d s := Iff.rfl
@[simp] theorem evs_bk {ρ' : Env} : EvS (.bk ρ' s) N T B C ↔ B ρ' s := Iff.rfl
@[simp] theorem evs_ct {ρ' : Env} : EvS (.ct ρ' s) N T B C ↔ C ρ' s := Iff.rfl
@[simp] theorem evs_bad : EvS .bad N T B C ↔ False := Iff.rfl
@[simp] theorem evs_exc {e : Ex} {ρ' : Env} : EvS (.exc e ρ' s) N T B C ↔ False := Iff.rfl
@[simp] theorem evs_bs {r : R β} {f : β → Sto → RS} : EvS (r.bs ρ f) N T B C ↔ Ev r (fun a s => EvS (f a s) N T B C) := by
  cases r <;> exact Iff.rfl
@[simp] theorem evs_seq {f g : FS} : EvS (sSeq f g ρ st) N T B C ↔ EvS (f ρ st) (fun ρ' s' => EvS (g ρ' s') N T B C) T B C := by
  unfold sSeq
  cases f ρ st <;> exact Iff.rfl
theorem EvS.mono {o : RS} {N' B' C' : Env → Sto → Prop} {T' : D → Sto → Prop} (h : EvS o N T B C) (h1 : ∀ a s, N a s → N' a s) (h2 : ∀ a s, T a s → T' a s) (h3 : ∀ a s, B a s → B' a s) (h4 : ∀ a s, C a s → C' a s) : EvS o N' T' B' C' :=
  RS.Sat.mono h h1 h2 h3 h4 fun _ _ _ z => z
theorem ev_body {n : Nat} {b : FS} {ds : List D} {P : D → Sto → Prop} : Ev (bodyD n b ds st) P ↔ EvS (b (startD n ds) st) (fun _ s => P .non s) P no2 no2 := by
  unfold bodyD
  cases b (startD n ds) st <;> exact Iff.rfl
/-! the parts -/
@[simp] theorem ev_of {o : Option (α × Sto)} : Ev (R.of o) P ↔ OSat o P := sat_of
@[simp] theorem osat_some {a : α} : OSat (some (a, s)) P ↔ P a s := Iff.rfl
@[simp] theorem osat_none : OSat (none : Option (α × Sto)) P ↔ False := Iff.rfl
@[simp] theorem ev_eC {d : D} {P : D → Sto → Prop} : Ev (eC d ρ st) P ↔ P d st := Iff.rfl
theorem ev_var {i : Nat} {d : D} {P : D → Sto → Prop} (h : ρ[i]? = some (some d)) : Ev (eVar i ρ st) P ↔ P d st := by
  unfold eVar; rw [h]; exact Iff.rfl
@[simp] theorem ev_e1 {op} {f : F} {P : D → Sto → Prop} : Ev (e1 op f ρ st) P ↔ Ev (f ρ st) (fun x s => OSat (op x s) P) := by
  unfold e1; rw [ev_bd]; simp
@[simp] theorem ev_e2 {op} {f g : F} {P : D → Sto → Prop} : Ev (e2 op f g ρ st) P ↔ Ev (f ρ st) (fun x s => Ev (g ρ s) (fun y s2 => OSat (op x y s2) P)) := by
  unfold e2; simp
@[simp] theorem ev_aNil {P : List D → Sto → Prop} : Ev (aNil ρ st) P ↔ P [] st := Iff.rfl
@[simp] theorem ev_aCons {f : F} {g : FA} {P : List D → Sto → Prop} : Ev (aCons f g ρ st) P ↔ Ev (f ρ st) (fun x s => Ev (g ρ s) (fun xs s2 => P (x :: xs) s2)) := by
  unfold aCons; simp
@[simp] theorem ev_eB {op} {g : FA} {P : D → Sto → Prop} : Ev (eB op g ρ st) P ↔ Ev (g ρ st) (fun xs s => OSat (op xs s) P) := by
  unfold eB; simp
@[simp] theorem ev_eCall {φ : List D → Sto → R D} {n : Nat} {g : FA} {P : D → Sto → Prop} : Ev (eCall φ n g ρ st) P ↔ Ev (g ρ st) (fun xs s => xs.length = n ∧ Ev (φ xs s) P) := by
  unfold eCall
  rw [ev_bd]
  constructor <;> intro h <;> refine h.mono fun xs s h => ?_
  · split at h
    · exact ⟨by assumption, h⟩
    · exact h.elim
  · rw [if_pos h.1]; exact h.2
@[simp] theorem ev_eTup {g : FA} {P : D → Sto → Prop} : Ev (eTup g ρ st) P ↔ Ev (g ρ st) (fun xs s => xs.length ≤ sizeLine ∧ P (.tup xs) s) := by
  unfold eTup
  rw [ev_bd]
  constructor <;> intro h <;> refine h.mono fun xs s h => ?_
  · split at h
    · exact ⟨by assumption, h⟩
    · exact h.elim
  · rw [if_pos h.1]; exact h.2
@[simp] theorem ev_eLst {g : FA} {P : D → Sto → Prop} : Ev (eLst g ρ st) P ↔ Ev (g ρ st) (fun xs s => xs.length ≤ sizeLine ∧ P (.ref s.length) (s ++ [.lst xs])) := by
  unfold eLst
  rw [ev_bd]
  constructor <;> intro h <;> refine h.mono fun xs s h => ?_
  · split at h
    · exact ⟨by assumption, h⟩
    · exact h.elim
  · rw [if_pos h.1]; exact h.2
@[simp] theorem ev_eIf {t : FT} {f g : F} {P : D → Sto → Prop} : Ev (eIf t f g ρ st) P ↔ Ev (t ρ st) (fun b s => if b = true then Ev (f ρ s) P else Ev (g ρ s) P) := by
  unfold eIf
  rw [ev_bd]
  constructor <;> intro h <;> refine h.mono fun b s h => ?_ <;> cases b <;> simpa using h
@[simp] theorem ev_tb {f : F} {P : Bool → Sto → Prop} : Ev (tb f ρ st) P ↔ Ev (f ρ st) (fun d s => ∃ b, truthD d s = some b ∧ P b s) := by
  unfold tb
  rw [ev_bd]
  constructor <;> intro h <;> refine h.mono fun d s h => ?_
  · cases ht : truthD d s with
    | none => rw [ht] at h; exact h.elim
    | some b => rw [ht] at h; exact ⟨b, rfl, h⟩
  · obtain ⟨b, hb, h⟩ := h
    rw [hb]; exact h
@[simp] theorem ev_tbB {f : F} {P : Bool → Sto → Prop} : Ev (tbB f ρ st) P ↔ Ev (f ρ st) (fun d s => ∃ b, d = .bl b ∧ P b s) := by
  unfold tbB
  rw [ev_bd]
  constructor <;> intro h <;> refine h.mono fun d s h => ?_
  · cases d with
    | bl b => exact ⟨b, rfl, h⟩
    | _ => exact h.elim
  · obtain ⟨b, rfl, h⟩ := h
    exact h
@[simp] theorem ev_and2 {f g : FT} {P : Bool → Sto → Prop} : Ev (tAnd2 f g ρ st) P ↔ Ev (f ρ st) (fun b s => if b = true then Ev (g ρ s) P else P false s) := by
  unfold tAnd2
  rw [ev_bd]
  constructor <;> intro h <;> refine h.mono fun b s h => ?_ <;> cases b <;> simpa using h
@[simp] theorem ev_or2 {f g : FT} {P : Bool → Sto → Prop} : Ev (tOr2 f g ρ st) P ↔ Ev (f ρ st) (fun b s => if b = true then P true s else Ev (g ρ s) P) := by
  unfold tOr2
  rw [ev_bd]
  constructor <;> intro h <;> refine h.mono fun b s h => ?_ <;> cases b <;> simpa using h
@[simp] theorem ev_not1 {f : FT} {P : Bool → Sto → Prop} : Ev (tNot1 f ρ st) P ↔ Ev (f ρ st) (fun b s => P (!b) s) := by
  unfold tNot1
  rw [ev_bd]; exact Iff.rfl
@[simp] theorem ev_yes {P : Bool → Sto → Prop} : Ev (tYesD ρ st) P ↔ P true st := Iff.rfl
@[simp] theorem ev_eNot {f : F} {P : D → Sto → Prop} : Ev (eNot f ρ st) P ↔ Ev (f ρ st) (fun d s => ∃ b, truthD d s = some b ∧ P (.bl (!b)) s) := by
  unfold eNot
  rw [ev_bd]
  constructor <;> intro h <;> refine h.mono fun d s h => ?_
  · cases ht : truthD d s with
    | none => rw [ht] at h; exact h.elim
    | some b => rw [ht] at h; exact ⟨b, rfl, h⟩
  · obtain ⟨b, hb, h⟩ := h
    rw [hb]; exact h
@[simp] theorem ev_eAnd {f g : F} {P : D → Sto → Prop} : Ev (eAnd f g ρ st) P ↔ Ev (f ρ st) (fun d s => ∃ b, truthD d s = some b ∧ if b = true then Ev (g ρ s) P else P d s) := by
  unfold eAnd
  rw [ev_bd]
  constructor <;> intro h <;> refine h.mono fun d s h => ?_
  · cases ht : truthD d s with
    | none => rw [ht] at h; exact h.elim
    | some b => rw [ht] at h; refine ⟨b, rfl, ?_⟩; cases b <;> simpa using h
  · obtain ⟨b, hb, h⟩ := h
    rw [hb]; cases b <;> simpa using h
@[simp] theorem ev_eOr {f g : F} {P : D → Sto → Prop} : Ev (eOr f g ρ st) P ↔ Ev (f ρ st) (fun d s => ∃ b, truthD d s = some b ∧ if b = true then P d s else Ev (g ρ s) P) := by
  unfold eOr
  rw [ev_bd]
  constructor <;> intro h <;> refine h.mono fun d s h => ?_
  · cases ht : truthD d s with
    | none => rw [ht] at h; exact h.elim
    | some b => rw [ht] at h; refine ⟨b, rfl, ?_⟩; cases b <;> simpa using h
  · obtain ⟨b, hb, h⟩ := h
    rw [hb]; cases b <;> simpa using h
@[simp] theorem ev_oNone {P : Option Int → Sto → Prop} : Ev (oNone ρ st) P ↔ P none st := Iff.rfl
@[simp] theorem ev_oSome {f : F} {P : Option Int → Sto → Prop} : Ev (oSome f ρ st) P ↔ Ev (f ρ st) (fun d s => ∃ i, d = .int i ∧ P (some i) s) := by
  unfold oSome
  rw [ev_bd]
  constructor <;> intro h <;> refine h.mono fun d s h => ?_
  · cases d with
    | int b => exact ⟨b, rfl, h⟩
    | _ => exact h.elim
  · obtain ⟨b, rfl, h⟩ := h
    exact h
@[simp] theorem ev_eSl {f : F} {l h : FO} {P : D → Sto → Prop} : Ev (eSl f l h ρ st) P ↔ Ev (f ρ st) (fun d s => Ev (l ρ s) (fun a s1 => Ev (h ρ s1) (fun b s2 => OSat (slD d a b s2) P))) := by
  unfold eSl; simp
@[simp] theorem ev_eM {T : String} {op} {f : F} {g : FA} {P : D → Sto → Prop} : Ev (eM T op f g ρ st) P ↔ Ev (f ρ st) (fun d s => tyD T d s = true ∧ Ev (g ρ s) (fun ds s2 => OSat (op d ds s2) P)) := by
  unfold eM
  rw [ev_bd]
  constructor <;> intro h <;> refine h.mono fun d s h => ?_
  · split at h
    · exact ⟨by assumption, by simpa using h⟩
    · exact h.elim
  · rw [if_pos h.1]; simpa using h.2
@[simp] theorem ev_callK {φ : List D → Sto → R D} {n nu : Nat} {π : List Nat} {g gk : FA} {P : D → Sto → Prop} : Ev (eCallK φ n nu π g gk ρ st) P ↔
    Ev (g ρ st) (fun ds s => Ev (gk ρ s) (fun ws s2 => (ds.length = nu ∧ ws.length = π.length ∧ (ds ++ permL π ws).length = n) ∧ Ev (φ (ds ++ permL π ws) s2) P)) := by
  unfold eCallK
  rw [ev_bd]
  constructor <;> intro h <;> refine h.mono fun d s h => ?_
  · rw [ev_bd] at h
    refine h.mono fun ws s2 h => ?_
    split at h
    · exact ⟨by assumption, h⟩
    · exact h.elim
  · rw [ev_bd]
    refine h.mono fun ws s2 h => ?_
    rw [if_pos h.1]; exact h.2
@[simp] theorem ev_rg1 {f : F} {P : D → Sto → Prop} : Ev (eRg1 f ρ st) P ↔ Ev (f ρ st) (fun d s => ∃ n, d = .int n ∧ (-(2 ^ 62) ≤ n ∧ n < 2 ^ 24) ∧ P (.ref s.length) (s ++ [.lst (rgL 0 n)])) := by
  unfold eRg1
  rw [ev_bd]
  constructor <;> intro h <;> refine h.mono fun d s h => ?_
  · cases d with
    | int n =>
      simp only at h
      split at h
      · exact ⟨n, rfl, by assumption, h⟩
      · exact h.elim
    | _ => exact h.elim
  · obtain ⟨n, rfl, h1, h2⟩ := h
    simp only
    rw [if_pos h1]; exact h2
@[simp] theorem ev_c3 {op op'} {f g h : F} {P : D → Sto → Prop} : Ev (e3c op op' f g h ρ st) P ↔ Ev (f ρ st) (fun x s => Ev (g ρ s) (fun y s2 => OSat (op x y s2) (fun z s3 => ∃ b, z = .bl b ∧ if b = true then Ev (h ρ s3) (fun w s4 => OSat (op' y w s4) P) else P (.bl false) s3))) := by
  unfold e3c
  simp only [ev_bd, ev_of]
  constructor <;> intro h <;> refine h.mono fun x s h => h.mono fun y s2 h => ?_
  · cases ho : op x y s2 with
    | none => rw [ho] at h; exact h.elim
    | some o =>
      rw [ho] at h
      obtain ⟨z, s3⟩ := o
      simp only [osat_some] at h ⊢
      cases z with
      | bl b => refine ⟨b, rfl, ?_⟩; cases b <;> simpa using h
      | _ => exact h.elim
  · cases ho : op x y s2 with
    | none => rw [ho] at h; exact h.elim
    | some o =>
      rw [ho] at h
      obtain ⟨z, s3⟩ := o
      simp only [osat_some] at h ⊢
      obtain ⟨b, rfl, h⟩ := h
      cases b <;> simpa using h
/-! statements -/
@[simp] theorem evs_pass : EvS (sPass ρ st) N T B C ↔ N ρ st := Iff.rfl
@[simp] theorem evs_brk : EvS (sBrk ρ st) N T B C ↔ B ρ st := Iff.rfl
@[simp] theorem evs_cnt : EvS (sCnt ρ st) N T B C ↔ C ρ st := Iff.rfl
@[simp] theorem evs_expr {f : F} : EvS (sExpr f ρ st) N T B C ↔ Ev (f ρ st) (fun _ s => N ρ s) := by unfold sExpr; simp
@[simp] theorem evs_ret {f : F} : EvS (sRet f ρ st) N T B C ↔ Ev (f ρ st) T := by unfold sRet; simp
@[simp] theorem evs_retN : EvS (sRetN ρ st) N T B C ↔ T .non st := Iff.rfl
@[simp] theorem evs_if {t : FT} {f g : FS} : EvS (sIf t f g ρ st) N T B C ↔ Ev (t ρ st) (fun b s => if b = true then EvS (f ρ s) N T B C else EvS (g ρ s) N T B C) := by
  unfold sIf
  rw [evs_bs]
  constructor <;> intro h <;> refine h.mono fun b s h => ?_ <;> cases b <;> simpa using h
@[simp] theorem evs_asgN {f : F} {g} : EvS (sAsgN f g ρ st) N T B C ↔ Ev (f ρ st) (fun d s => ∃ ρ', g d ρ = some ρ' ∧ N ρ' s) := by
  unfold sAsgN
  rw [evs_bs]
  constructor <;> intro h <;> refine h.mono fun d s h => ?_
  · cases hg : g d ρ with
    | none => rw [hg] at h; exact h.elim
    | some ρ' => rw [hg] at h; exact ⟨ρ', rfl, h⟩
  · obtain ⟨ρ', hg, h⟩ := h
    rw [hg]; exact h
@[simp] theorem evs_asgG {f : F} {g : FG'} : EvS (sAsgG f g ρ st) N T B C ↔ Ev (f ρ st) (fun d s => Ev (g d ρ s) N) := by unfold sAsgG; simp
@[simp] theorem ev_gSub {f g : F} {d : D} : Ev (gSubD f g d ρ st) N ↔ Ev (f ρ st) (fun o s => Ev (g ρ s) (fun i s2 => ∃ s3, setD o i d s2 = some s3 ∧ N ρ s3)) := by
  unfold gSubD
  simp only [ev_bd]
  constructor <;> intro h <;> refine h.mono fun x s h => h.mono fun y s2 h => ?_
  · cases hs : setD x y d s2 with
    | none => rw [hs] at h; exact h.elim
    | some s3 => rw [hs] at h; exact ⟨s3, rfl, h⟩
  · obtain ⟨s3, hs, h⟩ := h
    rw [hs]; exact h
@[simp] theorem evs_par2 {i j : Nat} {g : FA} : EvS (sPar [i, j] g ρ st) N T B C ↔ Ev (g ρ st) (fun ds s => ∃ d e, ds = [d, e] ∧ (i < ρ.length ∧ j < ρ.length) ∧ N ((ρ.set i (some d)).set j (some e)) s) := by
  unfold sPar
  rw [evs_bs]
  constructor <;> intro h <;> refine h.mono fun ds s h => ?_
  · match ds, h with
    | [d, e], h =>
      simp only at h
      split at h
      · exact ⟨d, e, rfl, by assumption, h⟩
      · exact h.elim
    | [], h => exact h.elim
    | [_], h => exact h.elim
    | _ :: _ :: _ :: _, h => exact h.elim
  · obtain ⟨d, e, rfl, h1, h2⟩ := h
    simp only
    rw [if_pos h1]; exact h2
@[simp] theorem evs_par3 {i j l : Nat} {g : FA} : EvS (sPar [i, j, l] g ρ st) N T B C ↔ Ev (g ρ st) (fun ds s => ∃ d e f, ds = [d, e, f] ∧ (i < ρ.length ∧ j < ρ.length ∧ l < ρ.length) ∧ N (((ρ.set i (some d)).set j (some e)).set l (some f)) s) := by
  unfold sPar
  rw [evs_bs]
  constructor <;> intro h <;> refine h.mono fun ds s h => ?_
  · match ds, h with
    | [d, e, f], h =>
      simp only at h
      split at h
      · exact ⟨d, e, f, rfl, by assumption, h⟩
      · exact h.elim
    | [], h => exact h.elim
    | [_], h => exact h.elim
    | [_, _], h => exact h.elim
    | _ :: _ :: _ :: _ :: _, h => exact h.elim
  · obtain ⟨d, e, f, rfl, h1, h2⟩ := h
    simp only
    rw [if_pos h1]; exact h2
/-! walks -/
@[simp] theorem ev_iSeq {f : F} {P : ITD → Sto → Prop} : Ev (iSeq f ρ st) P ↔ Ev (f ρ st) (fun d s => ∃ it, itD d s = some it ∧ P it s) := by
  unfold iSeq
  rw [ev_bd]
  constructor <;> intro h <;> refine h.mono fun d s h => ?_
  · cases hi : itD d s with
    | none => rw [hi] at h; exact h.elim
    | some it => rw [hi] at h; exact ⟨it, rfl, h⟩
  · obtain ⟨it, hi, h⟩ := h
    rw [hi]; exact h
@[simp] theorem ev_iR1 {g : FA} {P : ITD → Sto → Prop} : Ev (iR1 g ρ st) P ↔ Ev (g ρ st) (fun ds s => ∃ j, ds = [.int j] ∧ (-(2 ^ 62) ≤ j ∧ j < 2 ^ 62) ∧ P (rngD 0 j.toNat) s) := by
  unfold iR1
  rw [ev_bd]
  constructor <;> intro h <;> refine h.mono fun ds s h => ?_
  · split at h
    · split at h
      · exact ⟨_, rfl, by assumption, h⟩
      · exact h.elim
    · exact h.elim
  · obtain ⟨j, rfl, h1, h2⟩ := h
    simp only
    rw [if_pos h1]; exact h2
@[simp] theorem ev_iR2 {g : FA} {P : ITD → Sto → Prop} : Ev (iR2 g ρ st) P ↔ Ev (g ρ st) (fun ds s => ∃ i j, ds = [.int i, .int j] ∧ (-(2 ^ 62) ≤ i ∧ i < 2 ^ 62 ∧ -(2 ^ 62) ≤ j ∧ j < 2 ^ 62) ∧ P (rngD i (j - i).toNat) s) := by
  unfold iR2
  rw [ev_bd]
  constructor <;> intro h <;> refine h.mono fun ds s h => ?_
  · split at h
    · split at h
      · exact ⟨_, _, rfl, by assumption, h⟩
      · exact h.elim
    · exact h.elim
  · obtain ⟨i, j, rfl, h1, h2⟩ := h
    simp only
    rw [if_pos h1]; exact h2
@[simp] theorem ev_iEn2 {g : FA} {P : ITD → Sto → Prop} : Ev (iEn2 g ρ st) P ↔ Ev (g ρ st) (fun ds s => ∃ d, ds = [d] ∧ ∃ it, itD d s = some it ∧ P (enumD it) s) := by
  unfold iEn2
  rw [ev_bd]
  constructor <;> intro h <;> refine h.mono fun ds s h => ?_
  · split at h
    · split at h
      · exact ⟨_, rfl, _, by assumption, h⟩
      · exact h.elim
    · exact h.elim
  · obtain ⟨d, rfl, it, e, h⟩ := h
    simp only [e]
    exact h
@[simp] theorem ev_iEn {g : FA} {P : ITD → Sto → Prop} : Ev (iEn g ρ st) P ↔ Ev (g ρ st) (fun ds s => ∃ n it, ds = [.ref n] ∧ itD (.ref n) s = some it ∧ P (enumD it) s) := by
  unfold iEn
  rw [ev_bd]
  constructor <;> intro h <;> refine h.mono fun ds s h => ?_
  · split at h
    · split at h
      · exact ⟨_, _, rfl, by assumption, h⟩
      · exact h.elim
    · exact h.elim
  · obtain ⟨n, it, rfl, h1, h2⟩ := h
    simp only [h1]; exact h2
/-- a for by what holds ahead of each turn -/
theorem evs_for {fi : FI} {g} {b : FS} (h : Ev (fi ρ st) (fun it s => ∃ I : Nat → Env → Sto → Prop, I 0 ρ s ∧
    (∀ i d ρ1 s1, it.items[i]? = some d → I i ρ1 s1 → it.chk s1 ∧ ∃ ρ2, g d ρ1 = some ρ2 ∧ EvS (b ρ2 s1) (I (i + 1)) T N (I (i + 1))) ∧
    ∀ ρ1 s1, I it.items.length ρ1 s1 → it.chk s1 ∧ N ρ1 s1)) : EvS (sFor fi g b ρ st) N T B C := by
  unfold sFor
  rw [evs_bs]
  refine h.mono fun it s ⟨I, h0, hs, he⟩ => ?_
  have go : ∀ (ds : List D) (i : Nat) (ρ1 : Env) (s1 : Sto), it.items.drop i = ds → i + ds.length = it.items.length → I i ρ1 s1 → EvS (forGo it.chk g b ds ρ1 s1) N T B C := by
    intro ds
    induction ds with
    | nil =>
      intro i ρ1 s1 hd hl hI
      have hi : i = it.items.length := by simpa using hl
      subst hi
      obtain ⟨h1, h2⟩ := he ρ1 s1 hI
      unfold forGo
      rw [if_pos h1]; exact h2
    | cons d ds ih =>
      intro i ρ1 s1 hd hl hI
      have hi : i < it.items.length := by rw [List.length_cons] at hl; omega
      have hd' := hd
      rw [List.drop_eq_getElem_cons hi] at hd'
      injection hd' with e1 e2
      obtain ⟨h1, ρ2, hg, hb⟩ := hs i d ρ1 s1 (by rw [List.getElem?_eq_getElem hi, e1]) hI
      unfold forGo
      rw [if_pos h1, hg]
      have nxt : ∀ ρ3 s3, I (i + 1) ρ3 s3 → EvS (forGo it.chk g b ds ρ3 s3) N T B C := fun ρ3 s3 hI => ih (i + 1) ρ3 s3 e2 (by rw [List.length_cons] at hl; omega) hI
      simp only
      cases hbo : b ρ2 s1 with
      | nx ρ3 s3 => rw [hbo] at hb; exact nxt ρ3 s3 hb
      | ct ρ3 s3 => rw [hbo] at hb; exact nxt ρ3 s3 hb
      | bk ρ3 s3 => rw [hbo] at hb; exact hb
      | rt d s3 => rw [hbo] at hb; exact hb
      | exc e ρ3 s3 => rw [hbo] at hb; exact hb.elim
      | bad => rw [hbo] at hb; exact hb.elim
  exact go it.items 0 ρ s (by simp) (by simp) h0
theorem ev_lc {fi : FI} {g} {tt : FT} {te : F} {vs : List Nat} {P : D → Sto → Prop} (h : Ev (fi ρ st) (fun it s => ∃ I : Nat → List D → Sto → Prop, I 0 [] s ∧
    (∀ i d acc s1, it.items[i]? = some d → I i acc s1 → it.chk s1 ∧ ∃ ρ2, g d (wipeD ρ vs) = some ρ2 ∧ Ev (tt ρ2 s1) (fun k s2 => if k = true then Ev (te ρ2 s2) (fun y s3 => acc.length < sizeLine ∧ I (i + 1) (acc ++ [y]) s3) else I (i + 1) acc s2)) ∧
    ∀ acc s1, I it.items.length acc s1 → it.chk s1 ∧ P (.ref s1.length) (s1 ++ [.lst acc]))) : Ev (eLc fi g tt te vs ρ st) P := by
  unfold eLc
  rw [ev_bd]
  refine h.mono fun it s ⟨I, h0, hs, he⟩ => ?_
  rw [ev_bd]
  have go : ∀ (ds : List D) (i : Nat) (acc : List D) (s1 : Sto), it.items.drop i = ds → i + ds.length = it.items.length → I i acc s1 → Ev (lcGo it.chk g tt te (wipeD ρ vs) ds acc s1) (fun acc s1 => P (.ref s1.length) (s1 ++ [.lst acc])) := by
    intro ds
    induction ds with
    | nil =>
      intro i acc s1 hd hl hI
      have hi : i = it.items.length := by simpa using hl
      subst hi
      obtain ⟨h1, h2⟩ := he acc s1 hI
      unfold lcGo
      rw [if_pos h1]; exact h2
    | cons d ds ih =>
      intro i acc s1 hd hl hI
      have hi : i < it.items.length := by rw [List.length_cons] at hl; omega
      have hd' := hd
      rw [List.drop_eq_getElem_cons hi] at hd'
      injection hd' with e1 e2
      obtain ⟨h1, ρ2, hg, hb⟩ := hs i d acc s1 (by rw [List.getElem?_eq_getElem hi, e1]) hI
      have nxt : ∀ acc s3, I (i + 1) acc s3 → _ := fun acc s3 hI => ih (i + 1) acc s3 e2 (by rw [List.length_cons] at hl; omega) hI
      unfold lcGo
      rw [if_pos h1, hg]
      simp only
      obtain ⟨k, s2, htt, hk⟩ := hb.eq
      rw [htt]
      cases k with
      | false => exact nxt acc s2 (by simpa using hk)
      | true =>
        obtain ⟨y, s3, hte, hlen, hI3⟩ := Ev.eq (show Ev (te ρ2 s2) _ by simpa using hk)
        simp only [hte]
        rw [if_pos hlen]
        exact nxt _ s3 hI3
  exact go it.items 0 [] s (by simp) (by simp) h0
theorem evs_while {c : FT} {b : FS} (I : Nat → Env → Sto → Prop) (hs : ∀ m ρ1 s1, I m ρ1 s1 → Ev (c ρ1 s1) (fun k s2 => if k = true then ∃ m', m = m' + 1 ∧ EvS (b ρ1 s2) (I m') T N (I m') else N ρ1 s2)) :
    ∀ (m n : Nat) (ρ : Env) (st : Sto), m < n → I m ρ st → EvS (whGo c b n ρ st) N T B C := by
  intro m
  induction m with
  | zero =>
    intro n ρ st hn hI
    cases n with
    | zero => omega
    | succ n =>
      unfold whGo
      rw [evs_bs]
      refine (hs 0 ρ st hI).mono fun k s2 h => ?_
      cases k with
      | false => simpa using h
      | true =>
        obtain ⟨m', e, _⟩ := (show ∃ m', 0 = m' + 1 ∧ EvS (b ρ s2) (I m') T N (I m') by simpa using h)
        omega
  | succ m ih =>
    intro n ρ st hn hI
    cases n with
    | zero => omega
    | succ n =>
      unfold whGo
      rw [evs_bs]
      refine (hs (m + 1) ρ st hI).mono fun k s2 h => ?_
      cases k with
      | false => simpa using h
      | true =>
        obtain ⟨m', e, hb⟩ := (show ∃ m', m + 1 = m' + 1 ∧ EvS (b ρ s2) (I m') T N (I m') by simpa using h)
        obtain rfl : m' = m := by omega
        rw [if_pos rfl]
        cases hbo : b ρ s2 with
        | nx ρ3 s3 => rw [hbo] at hb; exact ih n ρ3 s3 (by omega) hb
        | ct ρ3 s3 => rw [hbo] at hb; exact ih n ρ3 s3 (by omega) hb
        | bk ρ3 s3 => rw [hbo] at hb; exact hb
        | rt d s3 => rw [hbo] at hb; exact hb
        | exc e ρ3 s3 => rw [hbo] at hb; exact hb.elim
        | bad => rw [hbo] at hb; exact hb.elim
end
end Rm

namespace Rm
open PySem L2
abbrev whN : Nat := 100000
/-! ## The law's own draws -/
noncomputable def b_law_deck : FS := (sSeq (sPar [1, 2] (aCons (eLc (iSeq (eSl (eVar 0) oNone (oSome (eC (.int 63))))) (gN 3) tYesD (e2 addD (e2 mulD (eC (.int 2)) (eB absO (aCons (eVar 3) aNil))) (eB intO (aCons (e2 ltD (eVar 3) (eC (.int 0))) aNil))) [3]) (aCons (e2 addD (eC (.int 90533)) (eB lenO (aCons (eVar 0) aNil))) aNil)))
  (sSeq (sFor (iSeq (eVar 1)) (gN 3) (sAsgN (e2 modD (eB intO (aCons (e2 addD (e2 addD (e2 mulD (eVar 2) (eC (.int 16807))) (eVar 3)) (eC (.int 11))) aNil)) (eC (.int 4294967291))) (gN 2)))
  (sRet (eLst (aCons (eLc (iSeq (eVar 1)) (gN 3) (tbB (e2 gtD (eVar 3) (e2 powD (eC (.int 10)) (eC (.int 15))))) (eVar 3) [3]) (aCons (eVar 2) (aCons (eC (.int 0)) aNil)))))))
noncomputable def f_law_deck : List D → Sto → R D := bodyD 4 b_law_deck
noncomputable def b_law_draw : FS := (sSeq (sIf (tAnd2 (tbB (e2 neO (e2 ixD (eVar 0) (eC (.int 0))) (eLst aNil))) (tbB (e2 gtD (eVar 1) (eC (.int 1))))) (sSeq (sAsgN (eM "list" popO (e2 ixD (eVar 0) (eC (.int 0))) (aCons (eC (.int 0)) aNil)) (gN 2))
  (sSeq (sIf (tbB (e2 geD (eVar 2) (eVar 1))) (sExpr (eM "list" insO (e2 ixD (eVar 0) (eC (.int 0))) (aCons (eC (.int 0)) (aCons (e2 fdivD (eVar 2) (eVar 1)) aNil)))) sPass)
  (sRet (e2 modD (eB intO (aCons (eVar 2) aNil)) (eVar 1))))) sPass)
  (sSeq (sAsgG (e2 addD (e2 ixD (eVar 0) (eC (.int 2))) (eC (.int 1))) (gSubD (eVar 0) (eC (.int 2))))
  (sSeq (sAsgN (e2 modD (eB intO (aCons (e2 addD (e2 ixD (eVar 0) (eC (.int 1))) (e2 mulD (eC (.int 2654435761)) (e2 ixD (eVar 0) (eC (.int 2))))) aNil)) (eC (.int 4294967291))) (gN 3))
  (sSeq (sFor (iR1 (aCons (eC (.int 2)) aNil)) (gN 4) (sAsgN (e2 modD (eB intO (aCons (e2 addD (e2 addD (e2 addD (e2 mulD (eVar 3) (eVar 3)) (e2 mulD (eC (.int 48271)) (e2 ixD (eVar 0) (eC (.int 2))))) (eC (.int 29))) (eVar 4)) aNil)) (eC (.int 4294967279))) (gN 3)))
  (sRet (e2 modD (eB intO (aCons (e2 fdivD (eVar 3) (eC (.int 512))) aNil)) (eVar 1)))))))
noncomputable def f_law_draw : List D → Sto → R D := bodyD 5 b_law_draw
noncomputable def b_law_pick : FS := (sRet (e2 ixD (eVar 1) (eCall f_law_draw 2 (aCons (eVar 0) (aCons (eB lenO (aCons (eVar 1) aNil)) aNil)))))
noncomputable def f_law_pick : List D → Sto → R D := bodyD 2 b_law_pick
noncomputable def b_law_mixed : FS := (sSeq (sPar [2, 3] (aCons (eB lstO (aCons (eVar 1) aNil)) (aCons (eLst aNil) aNil)))
  (sSeq (whGo (tbB (e2 neO (eVar 2) (eLst aNil))) (sExpr (eM "list" appO (eVar 3) (aCons (eM "list" popO (eVar 2) (aCons (eCall f_law_draw 2 (aCons (eVar 0) (aCons (eB lenO (aCons (eVar 2) aNil)) aNil))) aNil)) aNil))) whN)
  (sRet (eVar 3))))
noncomputable def f_law_mixed : List D → Sto → R D := bodyD 4 b_law_mixed
noncomputable def b_law_entry : FS := (sSeq (sAsgN (eCall f_law_mixed 2 (aCons (eVar 0) (aCons (eLc (iEn2 (aCons (eVar 1) aNil)) (gT 2 (gsC (gN 5) (gsC (gN 6) gsN))) (tbB (e2 eqO (e2 ixD (eVar 6) (eC (.int 0))) (eVar 2))) (eVar 5) [5, 6]) aNil))) (gN 3))
  (sSeq (sAsgN (eCall f_law_pick 2 (aCons (eVar 0) (aCons (eLst (aCons (eC (.int 1)) (aCons (eC (.int 1)) (aCons (eC (.int 1)) (aCons (eC (.int 1)) (aCons (eC (.int 2)) (aCons (eC (.int 2)) (aCons (eB lenO (aCons (eVar 3) aNil)) (aCons (eC (.int 0)) aNil))))))))) aNil))) (gN 4))
  (sRet (eB tupO (aCons (eB sortO (aCons (eSl (eVar 3) oNone (oSome (eVar 4))) aNil)) aNil)))))
noncomputable def f_law_entry : List D → Sto → R D := bodyD 7 b_law_entry
noncomputable def b_law_cut : FS := (sRet (eB tupO (aCons (eLc (iSeq (eVar 0)) (gN 2) tYesD (eB tupO (aCons (eLc (iSeq (eVar 2)) (gN 3) tYesD (eB tupO (aCons (eLc (iSeq (eVar 3)) (gN 4) (tbB (e2 ltD (eVar 4) (eVar 1))) (eVar 4) [4]) aNil)) [3]) aNil)) [2]) aNil)))
noncomputable def f_law_cut : List D → Sto → R D := bodyD 5 b_law_cut
noncomputable def b_law_net : FS := (sSeq (sAsgN (eLst aNil) (gN 4))
  (sSeq (sFor (iR1 (aCons (eIf (tbB (e2 gtD (eVar 1) (eC (.int 1)))) (e2 addD (eVar 3) (eCall f_law_draw 2 (aCons (eVar 0) (aCons (e2 addD (e2 subD (eVar 2) (eVar 3)) (eC (.int 1))) aNil)))) (eC (.int 0))) aNil)) (gN 5) (sSeq (sAsgN (eCall f_law_draw 2 (aCons (eVar 0) (aCons (eVar 1) aNil))) (gN 6))
  (sSeq (sAsgN (e2 modD (eB intO (aCons (e2 addD (e2 addD (eVar 6) (eC (.int 1))) (eCall f_law_draw 2 (aCons (eVar 0) (aCons (e2 subD (eVar 1) (eC (.int 1))) aNil)))) aNil)) (eVar 1)) (gN 7))
  (sSeq (sExpr (eM "list" appO (eVar 4) (aCons (eTup (aCons (eVar 6) (aCons (eVar 7) (aCons (eCall f_law_pick 2 (aCons (eVar 0) (aCons (eLst (aCons (eC (.int 1)) (aCons (eC (.int 1)) (aCons (eC (.int 2)) (aCons (eC (.int 3)) (aCons (eC (.int 4)) aNil)))))) aNil))) aNil)))) aNil)))
  (sIf (tAnd2 (tbB (e2 ltD (eB lenO (aCons (eVar 4) aNil)) (eVar 2))) (tbB (e2 eqO (eCall f_law_draw 2 (aCons (eVar 0) (aCons (eC (.int 3)) aNil))) (eC (.int 0))))) (sExpr (eM "list" appO (eVar 4) (aCons (eTup (aCons (eVar 7) (aCons (eVar 6) (aCons (eCall f_law_pick 2 (aCons (eVar 0) (aCons (eLst (aCons (eC (.int 1)) (aCons (eC (.int 2)) (aCons (eC (.int 4)) aNil)))) aNil))) aNil)))) aNil))) sPass)))))
  (sSeq (sAsgN (eLst aNil) (gN 8))
  (sSeq (sFor (iR1 (aCons (eVar 1) aNil)) (gN 9) (sExpr (eM "list" appO (eVar 8) (aCons (eB tupO (aCons (eLc (iR1 (aCons (eVar 1) aNil)) (gN 10) tYesD (eIf (tbB (e2 neO (eVar 10) (eVar 9))) (eCall f_law_entry 3 (aCons (eVar 0) (aCons (eVar 4) (aCons (eVar 9) aNil)))) (eTup aNil)) [10]) aNil)) aNil))))
  (sRet (eTup (aCons (eVar 1) (aCons (eB tupO (aCons (eSl (eVar 4) oNone (oSome (eVar 2))) aNil)) (aCons (eIf (tbB (e2 leD (eB lenO (aCons (eVar 4) aNil)) (eVar 2))) (eB tupO (aCons (eVar 8) aNil)) (eCall f_law_cut 2 (aCons (eVar 8) (aCons (eVar 2) aNil)))) aNil)))))))))
noncomputable def f_law_net : List D → Sto → R D := bodyD 11 b_law_net
end Rm

namespace Rm
open PySem L2
section
variable {α : Type} {P : D → Sto → Prop} {ρ : Env} {st s st' : Sto}
@[simp] theorem ev_eVar {i : Nat} : Ev (eVar i ρ st) P ↔ ∃ d, ρ[i]? = some (some d) ∧ P d st := by
  unfold eVar
  split
  · rename_i d h; simp [h]
  · rename_i h; constructor
    · intro z; exact z.elim
    · rintro ⟨d, e, _⟩; exact (h d e).elim
@[simp] theorem startD_1 {a : D} {n : Nat} : startD (n + 1) [a] = some a :: List.replicate n none := rfl
@[simp] theorem startD_2 {a b : D} {n : Nat} : startD (n + 2) [a, b] = some a :: some b :: List.replicate n none := rfl
@[simp] theorem startD_3 {a b c : D} {n : Nat} : startD (n + 3) [a, b, c] = some a :: some b :: some c :: List.replicate n none := by simp [startD]
@[simp] theorem startD_4 {a b c d : D} {n : Nat} : startD (n + 4) [a, b, c, d] = some a :: some b :: some c :: some d :: List.replicate n none := by simp [startD]
@[simp] theorem gN_at {i : Nat} {d : D} {ρ' : Env} : gN i d ρ = some ρ' ↔ i < ρ.length ∧ ρ.set i (some d) = ρ' := by unfold gN; simp
/-- what is kept -/
def Kp (fr : Nat → Prop) (st st' : Sto) : Prop := st.length ≤ st'.length ∧ ∀ n, n < st.length → fr n → st'[n]? = st[n]?
abbrev any : Nat → Prop := fun _ => True
def off (r c : Nat) : Nat → Prop := fun n => n ≠ r ∧ n ≠ c
theorem Kp.refl {fr} (st : Sto) : Kp fr st st := ⟨Nat.le_refl _, fun _ _ _ => rfl⟩
theorem Kp.trans {fr} {s1 s2 s3 : Sto} (a : Kp fr s1 s2) (b : Kp fr s2 s3) : Kp fr s1 s3 := ⟨Nat.le_trans a.1 b.1, fun n h f => (b.2 n (Nat.lt_of_lt_of_le h a.1) f).trans (a.2 n h f)⟩
theorem Kp.mono {fr fr' : Nat → Prop} {s1 s2 : Sto} (a : Kp fr s1 s2) (h : ∀ n, n < s1.length → fr' n → fr n) : Kp fr' s1 s2 := ⟨a.1, fun n hn f => a.2 n hn (h n hn f)⟩
theorem Kp.push {fr} (st : Sto) (c : Cell) : Kp fr st (st ++ [c]) := ⟨by simp, fun n h _ => by rw [List.getElem?_append_left h]⟩
theorem Kp.set {fr : Nat → Prop} {n : Nat} (st : Sto) (c : Cell) (h : ¬ fr n) : Kp fr st (st.set n c) := ⟨by simp, fun m hm f => by rw [List.getElem?_set_ne (by intro e; subst e; exact h f)]⟩
theorem Kp.at {fr} {s1 s2 : Sto} (a : Kp fr s1 s2) {n : Nat} {c : Cell} (h : s1[n]? = some c) (f : fr n) : s2[n]? = some c := (a.2 n (List.getElem?_eq_some_iff.mp h).1 f).trans h
theorem lt_of_at {n : Nat} {c : Cell} (h : st[n]? = some c) : n < st.length := (List.getElem?_eq_some_iff.mp h).1
/-- the deck at r, its cells at c -/
def Deck (st : Sto) (r c : Nat) : Prop := r ≠ c ∧ ∃ (xs : List Int) (m n : Int), st[r]? = some (.lst [.ref c, .int m, .int n]) ∧ st[c]? = some (.lst (xs.map .int)) ∧ xs.length ≤ 63
theorem Deck.keep {fr : Nat → Prop} {r c : Nat} (d : Deck st r c) (k : Kp fr st st') (h1 : fr r) (h2 : fr c) : Deck st' r c := by
  obtain ⟨ne, xs, m, n, a, b, l⟩ := d
  exact ⟨ne, xs, m, n, k.at a h1, k.at b h2, l⟩
theorem atI_0 {xs : List α} {x : α} (h : xs[0]? = some x) : atI xs 0 = some x := atI_nat (j := 0) h
/-- d is the data p (from k levels on) -/
def Py (st : Sto) (k : Nat) (d : D) (p : PyData) : Prop := ∀ n, k ≤ n → toPy st n d = some p
def Pys (st : Sto) (k : Nat) (ds : List D) (ps : List PyData) : Prop := ∀ n, k ≤ n → mapO (toPy st n) ds = some ps
theorem Py.at {k : Nat} {d : D} {p : PyData} (h : Py st k d p) (hk : k ≤ 60 := by decide) : toPy st 60 d = some p := h 60 hk
theorem Py.mono {k k' : Nat} {d : D} {p : PyData} (h : Py st k d p) (hk : k ≤ k') : Py st k' d p := fun n hn => h n (Nat.le_trans hk hn)
theorem Pys.mono {k k' : Nat} {d : List D} {p : List PyData} (h : Pys st k d p) (hk : k ≤ k') : Pys st k' d p := fun n hn => h n (Nat.le_trans hk hn)
theorem py_non : Py st 1 .non .none := fun n hn => by obtain ⟨m, rfl⟩ := Nat.exists_eq_add_of_lt (show 0 < n from hn); simp [toPy]
theorem py_bl (b : Bool) : Py st 1 (.bl b) (.bool b) := fun n hn => by obtain ⟨m, rfl⟩ := Nat.exists_eq_add_of_lt (show 0 < n from hn); simp [toPy]
theorem py_int (i : Int) : Py st 1 (.int i) (.int i) := fun n hn => by obtain ⟨m, rfl⟩ := Nat.exists_eq_add_of_lt (show 0 < n from hn); simp [toPy]
theorem py_str (x : Str) : Py st 1 (.str x) (.str x) := fun n hn => by obtain ⟨m, rfl⟩ := Nat.exists_eq_add_of_lt (show 0 < n from hn); simp [toPy]
theorem py_tup {k : Nat} {ds : List D} {ps : List PyData} (h : Pys st k ds ps) : Py st (k + 1) (.tup ds) (.tuple ps) := fun n hn => by
  obtain ⟨m, rfl⟩ : ∃ m, n = m + 1 := ⟨n - 1, by omega⟩
  simp only [toPy]; rw [h m (by omega)]; rfl
theorem py_kl {k : Nat} {ds : List D} {ps : List PyData} (h : Pys st k ds ps) : Py st (k + 1) (.kl ds) (.list ps) := fun n hn => by
  obtain ⟨m, rfl⟩ : ∃ m, n = m + 1 := ⟨n - 1, by omega⟩
  simp only [toPy]; rw [h m (by omega)]; rfl
theorem py_lst {k r : Nat} {ds : List D} {ps : List PyData} (hr : st[r]? = some (.lst ds)) (h : Pys st k ds ps) : Py st (k + 1) (.ref r) (.list ps) := fun n hn => by
  obtain ⟨m, rfl⟩ : ∃ m, n = m + 1 := ⟨n - 1, by omega⟩
  simp only [toPy]; rw [hr]; simp only; rw [h m (by omega)]; rfl
theorem pys_nil {k : Nat} : Pys st k [] [] := fun n _ => rfl
theorem pys_cons {k : Nat} {d : D} {ds : List D} {p : PyData} {ps : List PyData} (h : Py st k d p) (t : Pys st k ds ps) : Pys st k (d :: ds) (p :: ps) := fun n hn => by
  simp only [mapO]; rw [h n hn, t n hn]; rfl
theorem pys_map {β : Type} {k : Nat} {f : β → D} {g : β → PyData} : ∀ xs : List β, (∀ x ∈ xs, Py st k (f x) (g x)) → Pys st k (xs.map f) (xs.map g)
  | [], _ => pys_nil
  | x :: xs, h => pys_cons (h x List.mem_cons_self) (pys_map xs fun y hy => h y (List.mem_cons_of_mem _ hy))
theorem pys_ints (xs : List Int) : Pys st 1 (xs.map D.int) (xs.map .int) := pys_map xs fun x _ => py_int x
theorem lay_ints : ∀ xs : List Int, PyData.canLayAll0 (xs.map PyData.int) = true
  | [] => rfl
  | x :: xs => by simp [PyData.canLayAll0, PyData.canLay0, lay_ints xs]
theorem depth_ints : ∀ xs : List Int, PyData.depthAll (xs.map PyData.int) = 0
  | [] => rfl
  | x :: xs => by simp [PyData.depthAll, PyData.depth, depth_ints xs]
theorem shaped_ints (xs : List Int) : SeqAt.shaped (.list (xs.map .int)) = true := by
  simp [SeqAt.shaped, PyData.canLay0, PyData.depth, lay_ints, depth_ints]
theorem eqvAll_nil (xs : List PyData) : PyData.eqvAll xs [] = xs.isEmpty := by cases xs <;> simp [PyData.eqvAll]
/-- a list of ints against [] -/
theorem ne_nil {c k : Nat} {xs : List Int} {st : Sto} (h : st[c]? = some (.lst (xs.map .int))) (h2 : st[k]? = some (.lst [])) : neO (.ref c) (.ref k) st = some (.bl (!xs.isEmpty), st) := by
  have e1 : toPy st 60 (.ref c) = some (.list (xs.map .int)) := (py_lst h (pys_ints xs)).at
  have e2 : toPy st 60 (.ref k) = some (.list []) := (py_lst h2 (pys_ints [])).at
  simp only [neO, eqD, e1, e2, Option.bind_some, shaped_ints, true_and]
  rw [if_pos (by exact shaped_ints [])]
  simp [PyData.eqv, eqvAll_nil]
/-! what operators come to -/
theorem osat_ite {c : Prop} [Decidable c] {a : D} : OSat (if c then some (a, s) else none) P ↔ c ∧ P a s := by
  by_cases h : c
  · rw [if_pos h]; exact ⟨fun z => ⟨h, z⟩, fun z => z.2⟩
  · rw [if_neg h]; exact ⟨fun z => z.elim, fun z => (h z.1).elim⟩
theorem osat_imap {c : Prop} [Decidable c] {a : D} : OSat ((if c then some a else none).map fun d => (d, s)) P ↔ c ∧ P a s := by
  by_cases h : c
  · rw [if_pos h]; exact ⟨fun z => ⟨h, z⟩, fun z => z.2⟩
  · rw [if_neg h]; exact ⟨fun z => z.elim, fun z => (h z.1).elim⟩
section
variable {i j : Int} {x y : Str} {ds es : List D} {n : Nat} {d v : D}
@[simp] theorem os_add : OSat (addD (.int i) (.int j) s) P ↔ P (.int (i + j)) s := Iff.rfl
@[simp] theorem os_addS : OSat (addD (.str x) (.str y) s) P ↔ x.length + y.length ≤ sizeLine ∧ P (.str (x ++ y)) s := osat_ite
@[simp] theorem os_addT : OSat (addD (.tup ds) (.tup es) s) P ↔ ds.length + es.length ≤ sizeLine ∧ P (.tup (ds ++ es)) s := osat_ite
@[simp] theorem os_sub : OSat (subD (.int i) (.int j) s) P ↔ P (.int (i - j)) s := Iff.rfl
@[simp] theorem os_mul : OSat (mulD (.int i) (.int j) s) P ↔ ((-(2 ^ 64) < i ∧ i < 2 ^ 64) ∨ (-(2 ^ 64) < j ∧ j < 2 ^ 64)) ∧ P (.int (i * j)) s := osat_ite
@[simp] theorem os_mod : OSat (modD (.int i) (.int j) s) P ↔ 0 < j ∧ P (.int (i % j)) s := osat_imap
@[simp] theorem os_fdiv : OSat (fdivD (.int i) (.int j) s) P ↔ (0 < j ∧ j < 1073741824) ∧ P (.int (i / j)) s := osat_imap
@[simp] theorem os_pow : OSat (powD (.int i) (.int j) s) P ↔ (0 ≤ j ∧ j ≤ 1000000 ∧ i.natAbs < 2 ^ 64) ∧ P (.int (i ^ j.toNat)) s := osat_imap
@[simp] theorem os_lt : OSat (ltD (.int i) (.int j) s) P ↔ P (.bl (decide (i < j))) s := Iff.rfl
@[simp] theorem os_le : OSat (leD (.int i) (.int j) s) P ↔ P (.bl (decide (i ≤ j))) s := Iff.rfl
@[simp] theorem os_gt : OSat (gtD (.int i) (.int j) s) P ↔ P (.bl (decide (j < i))) s := Iff.rfl
@[simp] theorem os_ge : OSat (geD (.int i) (.int j) s) P ↔ P (.bl (decide (j ≤ i))) s := Iff.rfl
@[simp] theorem os_neg : OSat (negO (.int i) s) P ↔ P (.int (-i)) s := Iff.rfl
@[simp] theorem os_ixT : OSat (ixD (.tup ds) (.int i) s) P ↔ ∃ d, atI ds i = some d ∧ P d s := by
  simp only [ixD, seqD, Option.bind_some]; cases atI ds i <;> simp
@[simp] theorem os_ixK : OSat (ixD (.kl ds) (.int i) s) P ↔ ∃ d, atI ds i = some d ∧ P d s := by
  simp only [ixD, seqD, Option.bind_some]; cases atI ds i <;> simp
@[simp] theorem os_ixL : OSat (ixD (.ref n) (.int i) s) P ↔ ∃ ds, s[n]? = some (.lst ds) ∧ ∃ d, atI ds i = some d ∧ P d s := by
  simp only [ixD, seqD]
  split
  · rename_i ds h
    simp only [Option.bind_some]
    cases h2 : atI ds i <;> simp [h, h2]
  · rename_i h
    simp only [Option.bind_none, osat_none, false_iff]
    rintro ⟨ds, e, _⟩; exact h ds e
@[simp] theorem os_int : OSat (intO [.int i] s) P ↔ P (.int i) s := Iff.rfl
@[simp] theorem os_intB {b : Bool} : OSat (intO [.bl b] s) P ↔ P (.int (if b then 1 else 0)) s := Iff.rfl
@[simp] theorem os_abs : OSat (absO [.int i] s) P ↔ P (.int (if i < 0 then -i else i)) s := Iff.rfl
@[simp] theorem os_lenT : OSat (lenO [.tup ds] s) P ↔ P (.int ds.length) s := Iff.rfl
@[simp] theorem os_lenK : OSat (lenO [.kl ds] s) P ↔ P (.int ds.length) s := Iff.rfl
@[simp] theorem os_lenS : OSat (lenO [.str x] s) P ↔ x.length ≤ sizeLine ∧ P (.int x.length) s := osat_ite
theorem seqD_ref : seqD (.ref n) s = some ds ↔ s[n]? = some (.lst ds) := by
  simp only [seqD]
  split
  · rename_i es h; rw [h]; simp
  · rename_i h; simp; exact fun e => h ds e
@[simp] theorem os_lenL : OSat (lenO [.ref n] s) P ↔ ∃ ds, s[n]? = some (.lst ds) ∧ P (.int ds.length) s := by
  simp only [lenO]
  cases h : seqD (.ref n) s with
  | none =>
    simp only [Option.map_none, osat_none, false_iff]
    rintro ⟨ds, e, _⟩; rw [seqD_ref.mpr e] at h; cases h
  | some es => rw [seqD_ref] at h; simp [h]
@[simp] theorem os_tupT : OSat (tupO [.tup ds] s) P ↔ P (.tup ds) s := Iff.rfl
@[simp] theorem os_tupL : OSat (tupO [.ref n] s) P ↔ ∃ ds, s[n]? = some (.lst ds) ∧ P (.tup ds) s := by
  simp only [tupO]
  cases h : seqD (.ref n) s with
  | none =>
    simp only [Option.map_none, osat_none, false_iff]
    rintro ⟨ds, e, _⟩; rw [seqD_ref.mpr e] at h; cases h
  | some es => rw [seqD_ref] at h; simp [h]
@[simp] theorem os_lstT : OSat (lstO [.tup ds] s) P ↔ P (.ref s.length) (s ++ [.lst ds]) := Iff.rfl
@[simp] theorem os_lstK : OSat (lstO [.kl ds] s) P ↔ P (.ref s.length) (s ++ [.lst ds]) := Iff.rfl
@[simp] theorem os_lstL : OSat (lstO [.ref n] s) P ↔ ∃ ds, s[n]? = some (.lst ds) ∧ P (.ref s.length) (s ++ [.lst ds]) := by
  simp only [lstO]
  cases h : seqD (.ref n) s with
  | none =>
    simp only [Option.map_none, osat_none, false_iff]
    rintro ⟨ds, e, _⟩; rw [seqD_ref.mpr e] at h; cases h
  | some es => rw [seqD_ref] at h; simp [h]
@[simp] theorem os_set {t : Sto} {k : Int} : setD (.ref n) (.int k) v s = some t ↔ ∃ ds, s[n]? = some (.lst ds) ∧ ∃ j, ixN ds.length k = some j ∧ s.set n (.lst (ds.set j v)) = t := by
  simp only [setD]
  split
  · rename_i ds h; simp [h, Option.map_eq_some_iff]
  · rename_i h; simp only [reduceCtorEq, false_iff]; rintro ⟨ds, e, _⟩; exact h ds e
@[simp] theorem ty_ref {T : String} : tyD T (.ref n) s = true ↔ T = "list" ∧ ∃ ds, s[n]? = some (.lst ds) := by
  simp only [tyD, Bool.and_eq_true, beq_iff_eq, Option.isSome_iff_exists]
  constructor
  · rintro ⟨h1, ds, h⟩; exact ⟨h1, ds, seqD_ref.mp h⟩
  · rintro ⟨h1, ds, h⟩; exact ⟨h1, ds, seqD_ref.mpr h⟩
@[simp] theorem os_app : OSat (appO (.ref n) [d] s) P ↔ ∃ ds, s[n]? = some (.lst ds) ∧ ds.length < sizeLine ∧ P .non (s.set n (.lst (ds ++ [d]))) := by
  simp only [appO]
  split
  · rename_i ds h
    rw [osat_ite]
    constructor
    · intro z; exact ⟨ds, h, z⟩
    · rintro ⟨es, e, z⟩; rw [h] at e; cases e; exact z
  · rename_i h; simp only [osat_none, false_iff]; rintro ⟨ds, e, _⟩; exact h ds e
@[simp] theorem os_pop : OSat (popO (.ref n) [.int i] s) P ↔ ∃ ds, s[n]? = some (.lst ds) ∧ ds.length ≤ sizeLine ∧ ∃ k, ixN ds.length i = some k ∧ ∃ y, ds[k]? = some y ∧ P y (s.set n (.lst (ds.eraseIdx k))) := by
  simp only [popO]
  split
  · rename_i ds h
    split
    · rename_i hl
      cases hk : ixN ds.length i with
      | none => simp [h, hk]
      | some k => cases hy : ds[k]? <;> simp [h, hk, hy, hl]
    · rename_i hl; simp [h, hl]
  · rename_i h; simp only [osat_none, false_iff]; rintro ⟨ds, e, _⟩; exact h ds e
@[simp] theorem os_ins : OSat (insO (.ref n) [.int i, d] s) P ↔ ∃ ds, s[n]? = some (.lst ds) ∧ (ds.length < sizeLine ∧ 0 ≤ i ∧ i < 2 ^ 63) ∧ P .non (s.set n (.lst (ds.take i.toNat ++ [d] ++ ds.drop i.toNat))) := by
  simp only [insO]
  split
  · rename_i ds h
    rw [osat_ite]
    constructor
    · intro z; exact ⟨ds, h, z⟩
    · rintro ⟨es, e, z⟩; rw [h] at e; cases e; exact z
  · rename_i h; simp only [osat_none, false_iff]; rintro ⟨ds, e, _⟩; exact h ds e
end
theorem ixN_nat {n k : Nat} (h : k < n) : ixN n (k : Int) = some k := by unfold ixN; rw [if_pos (by omega), if_pos (by omega)]; simp
theorem sizeLine_val : sizeLine = 16777216 := rfl
abbrev drawn (st : Sto) (r c : Nat) (many : Int) : D → Sto → Prop := fun d st' => ∃ k, d = .int k ∧ (0 ≤ k ∧ k < many) ∧ Deck st' r c ∧ Kp (off r c) st st'
noncomputable def draw_tail : FS := (sSeq (sAsgG (e2 addD (e2 ixD (eVar 0) (eC (.int 2))) (eC (.int 1))) (gSubD (eVar 0) (eC (.int 2))))
  (sSeq (sAsgN (e2 modD (eB intO (aCons (e2 addD (e2 ixD (eVar 0) (eC (.int 1))) (e2 mulD (eC (.int 2654435761)) (e2 ixD (eVar 0) (eC (.int 2))))) aNil)) (eC (.int 4294967291))) (gN 3))
  (sSeq (sFor (iR1 (aCons (eC (.int 2)) aNil)) (gN 4) (sAsgN (e2 modD (eB intO (aCons (e2 addD (e2 addD (e2 addD (e2 mulD (eVar 3) (eVar 3)) (e2 mulD (eC (.int 48271)) (e2 ixD (eVar 0) (eC (.int 2))))) (eC (.int 29))) (eVar 4)) aNil)) (eC (.int 4294967279))) (gN 3)))
  (sRet (e2 modD (eB intO (aCons (e2 fdivD (eVar 3) (eC (.int 512))) aNil)) (eVar 1))))))
theorem draw_tail_ev {r c : Nat} {many : Int} {st s1 : Sto} {N : Env → Sto → Prop} {d2 : Option D} (dk : Deck s1 r c) (k0 : Kp (off r c) st s1) (h1 : 1 ≤ many) : EvS (draw_tail [some (.ref r), some (.int many), d2, none, none] s1) N (drawn st r c many) no2 no2 := by
  obtain ⟨ne, xs, m, n, a, b, l⟩ := dk
  have lr := lt_of_at a
  have lc := lt_of_at b
  have i2 : ixN 3 2 = some 2 := by decide
  unfold draw_tail
  simp only [evs_seq, evs_asgG, ev_gSub, ev_e2, ev_eVar, ev_eC, List.getElem?_cons_zero, Option.some.injEq, exists_eq_left', os_ixL, a, Cell.lst.injEq, List.length_cons, List.length_nil, os_set, os_add, show atI [D.ref c, D.int m, D.int n] 2 = some (.int n) from rfl, i2,
    evs_asgN, gN_at, os_mul, os_mod, ev_eB, ev_aCons, ev_aNil, os_int]
  generalize hs2 : s1.set r (.lst ([D.ref c, D.int m, D.int n].set 2 (.int (n + 1)))) = s2
  have a2 : s2[r]? = some (.lst [.ref c, .int m, .int (n + 1)]) := by rw [← hs2, List.getElem?_set_self lr]; rfl
  have b2 : s2[c]? = some (.lst (xs.map .int)) := by rw [← hs2, List.getElem?_set_ne ne]; exact b
  have dk2 : Deck s2 r c := ⟨ne, xs, m, n + 1, a2, b2, l⟩
  have k2 : Kp (off r c) st s2 := k0.trans (by rw [← hs2]; exact Kp.set _ _ (fun h => h.1 rfl))
  simp only [a2, Option.some.injEq, Cell.lst.injEq, exists_eq_left', show atI [D.ref c, D.int m, D.int (n + 1)] 1 = some (.int m) from rfl, show atI [D.ref c, D.int m, D.int (n + 1)] 2 = some (.int (n + 1)) from rfl, os_mul, os_add, os_int, os_mod]
  refine ⟨by omega, by omega, _, ⟨by simp, rfl⟩, ?_⟩
  refine evs_for ?_
  simp only [ev_iR1, ev_aCons, ev_eC, ev_aNil, List.cons.injEq, and_true, D.int.injEq, exists_eq_left']
  refine ⟨by omega, fun i ρ s => s = s2 ∧ ∃ (x : Int) (y : Option D), ρ = [some (.ref r), some (.int many), d2, some (.int x), y] ∧ 0 ≤ x ∧ x < 4294967296, ⟨rfl, _, none, rfl, Int.emod_nonneg _ (by omega), Int.lt_trans (Int.emod_lt_of_pos _ (by omega)) (by omega)⟩, ?_, ?_⟩
  · rintro i d ρ1 _ hi ⟨rfl, x, y, rfl, x0, x1⟩
    obtain ⟨q, rfl⟩ : ∃ q : Int, d = .int q := by
      simp [rngD] at hi
      obtain ⟨z, _, rfl⟩ := hi
      exact ⟨_, rfl⟩
    refine ⟨trivial, _, gN_at.mpr ⟨by simp, rfl⟩, ?_⟩
    simp only [evs_asgN, gN_at, ev_e2, ev_eVar, ev_eC, ev_eB, ev_aCons, ev_aNil, List.set_cons_succ, List.set_cons_zero, List.getElem?_cons_zero, List.getElem?_cons_succ, Option.some.injEq, exists_eq_left', os_ixL, os_int, a2, Cell.lst.injEq, os_mul, os_add, show atI [D.ref c, D.int m, D.int (n + 1)] 2 = some (.int (n + 1)) from rfl, os_mod]
    refine ⟨by omega, by omega, by omega, _, ⟨by simp, rfl⟩, trivial, _, _, rfl, Int.emod_nonneg _ (by omega), Int.lt_trans (Int.emod_lt_of_pos _ (by omega)) (by omega)⟩
  · rintro ρ1 _ ⟨rfl, x, y, rfl, x0, x1⟩
    refine ⟨trivial, ?_⟩
    simp only [evs_ret, ev_e2, ev_eVar, ev_eC, ev_eB, ev_aCons, ev_aNil, List.getElem?_cons_zero, List.getElem?_cons_succ, Option.some.injEq, exists_eq_left', os_fdiv, os_int, os_mod]
    exact ⟨by omega, by omega, _, rfl, ⟨Int.emod_nonneg _ (by omega), Int.emod_lt_of_pos _ (by omega)⟩, dk2, k2⟩
/-- THE DRAW: some number below many; the deck stays one -/
theorem draw_ev {r c : Nat} {many : Int} (dk : Deck st r c) (h1 : 1 ≤ many) (h2 : many < 1073741824) : Ev (f_law_draw [.ref r, .int many] st) (drawn st r c many) := by
  have dk' := dk
  obtain ⟨ne, xs, m, n, a, b, l⟩ := dk
  have lr := lt_of_at a
  have lc := lt_of_at b
  unfold f_law_draw b_law_draw
  rw [ev_body, evs_seq, evs_if]
  have k0 : Kp (off r c) st (st ++ [Cell.lst []]) := Kp.push _ _
  have k1 : Kp any st (st ++ [Cell.lst []]) := Kp.push _ _
  have a' := k1.at a trivial
  have b' := k1.at b trivial
  have dk1 : Deck (st ++ [Cell.lst []]) r c := dk'.keep k1 trivial trivial
  have e0 : (st ++ [Cell.lst []])[st.length]? = some (.lst []) := by simp
  generalize hs1 : st ++ [Cell.lst []] = s1 at *
  have e1 : neO (.ref c) (.ref st.length) s1 = some (.bl (!xs.isEmpty), s1) := ne_nil b' e0
  have tl : EvS (draw_tail [some (.ref r), some (.int many), none, none, none] s1) (fun _ s => drawn st r c many .non s) (drawn st r c many) no2 no2 := draw_tail_ev dk1 k0 h1
  simp only [ev_and2, ev_tbB, ev_e2, ev_eVar, ev_eC, ev_eLst, ev_aNil, startD_2, List.getElem?_cons_zero, Option.some.injEq, exists_eq_left', os_ixL, a, List.length_nil, Nat.zero_le, true_and, hs1, Cell.lst.injEq, atI_0, e1, osat_some, D.bl.injEq]
  split
  · rename_i hx
    simp only [List.getElem?_cons_succ, List.getElem?_cons_zero, Option.some.injEq, exists_eq_left', os_gt, D.bl.injEq, decide_eq_true_eq]
    split
    · rename_i hm
      cases xs with
      | nil => simp at hx
      | cons x xs =>
        simp only [evs_seq, evs_asgN, ev_eM, ev_e2, ev_eVar, ev_eC, ev_aCons, ev_aNil, List.getElem?_cons_zero, Option.some.injEq, exists_eq_left', os_ixL, a', b', Cell.lst.injEq, atI_0, ty_ref, true_and, os_pop, List.map_cons, List.length_cons,
          show ∀ k : Nat, ixN (k + 1) 0 = some 0 from fun k => ixN_nat (k := 0) (by omega), List.eraseIdx_cons_zero, gN_at, exists_eq_left, exists_eq', List.length_map]
        generalize hs2 : s1.set c (.lst (xs.map .int)) = s2
        have hl1 : c < s1.length := lt_of_at b'
        have a2 : s2[r]? = some (.lst [.ref c, .int m, .int n]) := by rw [← hs2, List.getElem?_set_ne (Ne.symm ne)]; exact a'
        have b2 : s2[c]? = some (.lst (xs.map .int)) := by rw [← hs2, List.getElem?_set_self hl1]
        have k2 : Kp (off r c) st s2 := k0.trans (by rw [← hs2]; exact Kp.set _ _ (fun h => h.2 rfl))
        refine ⟨by rw [sizeLine_val]; simp at l; omega, _, ⟨by simp, rfl⟩, ?_⟩
        have fin : ∀ (N : Env → Sto → Prop) s3, Deck s3 r c → Kp (off r c) st s3 → EvS (sRet (e2 modD (eB intO (aCons (eVar 2) aNil)) (eVar 1)) [some (.ref r), some (.int many), some (.int x), none, none] s3) N (drawn st r c many) no2 no2 := by
          intro N s3 d3 k3
          simp only [evs_ret, ev_e2, ev_eVar, ev_eB, ev_aCons, ev_aNil, List.getElem?_cons_zero, List.getElem?_cons_succ, Option.some.injEq, exists_eq_left', os_int, os_mod]
          exact ⟨by omega, _, rfl, ⟨Int.emod_nonneg _ (by omega), Int.emod_lt_of_pos _ (by omega)⟩, d3, k3⟩
        simp only [evs_seq, evs_if, ev_tbB, ev_e2, ev_eVar, List.replicate, List.set_cons_succ, List.set_cons_zero, List.getElem?_cons_zero, List.getElem?_cons_succ, Option.some.injEq, exists_eq_left', os_ge, D.bl.injEq, decide_eq_true_eq]
        split
        · simp only [evs_expr, ev_eM, ev_e2, ev_eVar, ev_eC, ev_aCons, ev_aNil, List.getElem?_cons_zero, List.getElem?_cons_succ, Option.some.injEq, exists_eq_left', os_ixL, a2, b2, Cell.lst.injEq, atI_0, ty_ref, true_and, os_fdiv, os_ins, List.length_map, exists_eq_left, exists_eq', show Int.toNat 0 = 0 from rfl, List.take_zero, List.drop_zero, List.nil_append]
          refine ⟨by omega, ⟨by rw [sizeLine_val]; simp at l; omega, by omega, by omega⟩, fin _ _ ⟨ne, (x / many) :: xs, m, n, ?_, ?_, ?_⟩ (k2.trans (Kp.set _ _ (fun h => h.2 rfl)))⟩
          · rw [List.getElem?_set_ne (Ne.symm ne)]; exact a2
          · rw [List.getElem?_set_self (lt_of_at b2)]; rfl
          · simpa using l
        · exact fin _ s2 ⟨ne, xs, m, n, a2, b2, by simp at l; omega⟩ k2
    · exact tl
  · exact tl
end
end Rm

namespace Rm
open PySem L2
section
variable {P : D → Sto → Prop} {ρ : Env} {st s st' : Sto} {r c : Nat}
/-- what a draw leaves -/
structure Dk (st : Sto) (r c : Nat) (st' : Sto) : Prop where
  deck : Deck st' r c
  keep : Kp (off r c) st st'
theorem Dk.refl (d : Deck st r c) : Dk st r c st := ⟨d, Kp.refl _⟩
theorem Dk.trans {s1 s2 : Sto} (a : Dk st r c s1) (b : Dk s1 r c s2) : Dk st r c s2 := ⟨b.deck, a.keep.trans b.keep⟩
theorem Dk.push (a : Dk st r c s) (x : Cell) : Dk st r c (s ++ [x]) := ⟨a.deck.keep (Kp.push s x) (fr := any) trivial trivial, a.keep.trans (Kp.push _ _)⟩
theorem Dk.set (a : Dk st r c s) {n : Nat} (x : Cell) (hn : st.length ≤ n) (hr : r < st.length) (hc : c < st.length) : Dk st r c (s.set n x) := by
  have nr : n ≠ r := by omega
  have nc : n ≠ c := by omega
  have k : Kp (fun m => m ≠ n) s (s.set n x) := Kp.set s x (fun h => h rfl)
  refine ⟨a.deck.keep k (Ne.symm nr) (Ne.symm nc), ?_⟩
  refine ⟨Nat.le_trans a.keep.1 k.1, fun m hm f => (k.2 m (Nat.lt_of_lt_of_le hm a.keep.1) (by show m ≠ n; omega)).trans (a.keep.2 m hm f)⟩
theorem Deck.lt_r (d : Deck st r c) : r < st.length := by obtain ⟨_, _, _, _, a, _, _⟩ := d; exact lt_of_at a
theorem Deck.lt_c (d : Deck st r c) : c < st.length := by obtain ⟨_, _, _, _, _, b, _⟩ := d; exact lt_of_at b
theorem Dk.lt (a : Dk st r c s) {n : Nat} (h : n < st.length) : n < s.length := Nat.lt_of_lt_of_le h a.keep.1
theorem Dk.at (a : Dk st r c s) {n : Nat} {x : Cell} (h : st[n]? = some x) (h1 : n ≠ r) (h2 : n ≠ c) : s[n]? = some x := a.keep.at h ⟨h1, h2⟩
/-- a draw, as a step -/
theorem draw_ev' {many : Int} (dk : Deck st r c) (h1 : 1 ≤ many) (h2 : many < 1073741824) (h : ∀ (k : Nat) s', (k : Int) < many → Dk st r c s' → P (.int k) s') : Ev (f_law_draw [.ref r, .int many] st) P :=
  (draw_ev dk h1 h2).mono fun d s ⟨k, e, ⟨k0, k1⟩, dk, kp⟩ => by
    obtain ⟨n, rfl⟩ := Int.eq_ofNat_of_zero_le k0
    rw [e]; exact h n s k1 ⟨dk, kp⟩
/-- the list (or tuple) v holds ds, out of the deck's reach -/
def Held (st : Sto) (r c : Nat) (v : D) (ds : List D) : Prop := v = .tup ds ∨ ∃ n, v = .ref n ∧ n ≠ r ∧ n ≠ c ∧ st[n]? = some (.lst ds)
theorem Held.keep {v : D} {ds : List D} (h : Held st r c v ds) (k : Kp (off r c) st s) : Held s r c v ds := by
  rcases h with h | ⟨n, e, h1, h2, h3⟩
  · exact .inl h
  · exact .inr ⟨n, e, h1, h2, k.at h3 ⟨h1, h2⟩⟩
theorem Held.len {v : D} {ds : List D} (h : Held st r c v ds) : OSat (lenO [v] st) P ↔ P (.int ds.length) st := by
  rcases h with rfl | ⟨n, rfl, _, _, h3⟩
  · simp
  · simp [h3]
theorem Held.ix {v : D} {ds : List D} {i : Int} (h : Held st r c v ds) : OSat (ixD v (.int i) st) P ↔ ∃ d, atI ds i = some d ∧ P d st := by
  rcases h with rfl | ⟨n, rfl, _, _, h3⟩
  · simp
  · simp [h3]
theorem Held.lst {v : D} {ds : List D} (h : Held st r c v ds) : OSat (lstO [v] st) P ↔ P (.ref st.length) (st ++ [.lst ds]) := by
  rcases h with rfl | ⟨n, rfl, _, _, h3⟩
  · simp
  · simp [h3]
theorem pick_ev {v : D} {ds : List D} (dk : Deck st r c) (hv : Held st r c v ds) (h1 : ds ≠ []) (h2 : ds.length < 1073741824) (h : ∀ (k : Nat) d s', ds[k]? = some d → Dk st r c s' → P d s') : Ev (f_law_pick [.ref r, v] st) P := by
  unfold f_law_pick b_law_pick
  have hl : 0 < ds.length := by
    cases ds with
    | nil => exact absurd rfl h1
    | cons _ _ => simp
  simp only [ev_body, evs_ret, ev_e2, ev_eVar, startD_2, ev_eCall, ev_aCons, ev_aNil, ev_eB, List.getElem?_cons_zero, List.getElem?_cons_succ, Option.some.injEq, exists_eq_left', hv.len, List.length_cons, List.length_nil, true_and]
  refine draw_ev' dk (by omega) (by omega) fun k s' hk d' => ?_
  rw [(hv.keep d'.keep).ix]
  have hk' : k < ds.length := by omega
  exact ⟨ds[k], atI_nat (List.getElem?_eq_getElem hk'), h k _ s' (List.getElem?_eq_getElem hk') d'⟩
/-- left != [] can be asked of these items -/
def Asks (st : Sto) (r c : Nat) (ds : List D) : Prop := ∀ (es : List D) s l e, (∀ x ∈ es, x ∈ ds) → Kp (off r c) st s → s[l]? = some (.lst es) → s[e]? = some (.lst []) → neO (.ref l) (.ref e) s = some (.bl (!es.isEmpty), s)
theorem ne_nilP {k n : Nat} {es : List D} {ps : List PyData} (h : s[n]? = some (.lst es)) (h2 : s[k]? = some (.lst [])) (hp : Pys s 50 es ps) (hs : SeqAt.shaped (.list ps) = true) : neO (.ref n) (.ref k) s = some (.bl (!es.isEmpty), s) := by
  have e1 : toPy s 60 (.ref n) = some (.list ps) := (py_lst h hp).at
  have e2 : toPy s 60 (.ref k) = some (.list []) := (py_lst h2 (pys_nil (k := 1))).at
  have hl : ps.isEmpty = es.isEmpty := by
    have := hp 50 (Nat.le_refl _)
    cases es with
    | nil => simp [mapO] at this; rw [this]; rfl
    | cons d ds =>
      simp only [mapO] at this
      obtain ⟨p, _, h3⟩ := Option.bind_eq_some_iff.mp this
      obtain ⟨q, _, rfl⟩ := Option.map_eq_some_iff.mp h3
      rfl
  simp only [neO, eqD, e1, e2, Option.bind_some, hs, true_and]
  rw [if_pos (by exact shaped_ints [])]
  simp [PyData.eqv, eqvAll_nil, hl]
theorem asks_ints {xs : List Int} : Asks st r c (xs.map .int) := by
  intro es s l e hs k h1 h2
  have : ∃ ys : List Int, es = ys.map .int := by
    clear h1
    induction es with
    | nil => exact ⟨[], rfl⟩
    | cons d es ih =>
      obtain ⟨ys, rfl⟩ := ih fun x hx => hs x (List.mem_cons_of_mem _ hx)
      obtain ⟨y, _, e⟩ := List.mem_map.mp (hs d List.mem_cons_self)
      exact ⟨y :: ys, by rw [← e]; rfl⟩
  obtain ⟨ys, rfl⟩ := this
  exact ne_nilP h1 h2 ((pys_ints ys).mono (by decide)) (shaped_ints ys)
theorem erase_perm {α : Type} {l : List α} {k : Nat} (h : k < l.length) : (l[k] :: l.eraseIdx k).Perm l := by
  have e : l.take k ++ l[k] :: l.drop (k + 1) = l := by
    rw [← List.drop_eq_getElem_cons h]; exact List.take_append_drop k l
  rw [List.eraseIdx_eq_take_drop_succ]
  refine List.Perm.trans ?_ (List.Perm.of_eq e)
  exact List.perm_middle.symm
theorem mixed_ev {v : D} {ds : List D} (dk : Deck st r c) (hv : Held st r c v ds) (ha : Asks st r c ds) (hl : ds.length ≤ 1000) (h : ∀ (q : Nat) es s', st.length ≤ q → s'[q]? = some (.lst es) → es.Perm ds → Dk st r c s' → P (.ref q) s') : Ev (f_law_mixed [.ref r, v] st) P := by
  unfold f_law_mixed b_law_mixed
  simp only [ev_body, evs_seq, evs_par2, ev_aCons, ev_aNil, ev_eB, ev_eVar, ev_eLst, startD_2, List.getElem?_cons_zero, List.getElem?_cons_succ, Option.some.injEq, exists_eq_left', hv.lst, List.length_nil, Nat.zero_le, true_and]
  refine ⟨_, _, rfl, ⟨by simp, by simp⟩, ?_⟩
  generalize hs1 : st ++ [Cell.lst ds] = s1
  have d1 : Dk st r c s1 := by rw [← hs1]; exact (Dk.refl dk).push _
  have l1 : s1.length = st.length + 1 := by rw [← hs1]; simp
  have a1 : s1[st.length]? = some (.lst ds) := by rw [← hs1]; simp
  have d2 : Dk st r c (s1 ++ [Cell.lst []]) := d1.push _
  generalize ha0 : st.length = a0 at *
  generalize hb0 : s1.length = b0 at *
  have l2 : (s1 ++ [Cell.lst []]).length = b0 + 1 := by simp [hb0]
  have lr := dk.lt_r
  have lc := dk.lt_c
  refine evs_while (fun m ρ s => ∃ es fs, ρ = [some (.ref r), some v, some (.ref a0), some (.ref b0)] ∧ s[a0]? = some (.lst es) ∧ s[b0]? = some (.lst fs) ∧ m = es.length ∧ (es ++ fs).Perm ds ∧ Dk st r c s) ?_ ds.length whN _ _ (by show _ < 100000; omega) ⟨ds, [], rfl, ?_, ?_, rfl, by simp, d2⟩
  · rintro m ρ s ⟨es, fs, rfl, ea, eb, rfl, hp, d⟩
    simp only [ev_tbB, ev_e2, ev_eVar, ev_eLst, ev_aNil, List.getElem?_cons_zero, List.getElem?_cons_succ, Option.some.injEq, exists_eq_left', List.length_nil, Nat.zero_le, true_and]
    have d' := d.push (.lst [])
    have ea' : (s ++ [Cell.lst []])[a0]? = some (.lst es) := by rw [List.getElem?_append_left (lt_of_at ea)]; exact ea
    have eb' : (s ++ [Cell.lst []])[b0]? = some (.lst fs) := by rw [List.getElem?_append_left (lt_of_at eb)]; exact eb
    have en : (s ++ [Cell.lst []])[s.length]? = some (.lst []) := by simp
    generalize s ++ [Cell.lst []] = t at *
    rw [ha es t a0 _ (fun x hx => hp.subset (List.mem_append_left _ hx)) d'.keep ea' en]
    simp only [osat_some, D.bl.injEq, exists_eq_left']
    cases es with
    | nil =>
      rw [if_neg (by simp)]
      simp only [evs_ret, ev_eVar, List.getElem?_cons_succ, List.getElem?_cons_zero, Option.some.injEq, exists_eq_left']
      exact h b0 fs t (by omega) eb' (by simpa using hp) d'
    | cons y ys =>
      rw [if_pos (by simp)]
      refine ⟨ys.length, by simp, ?_⟩
      simp only [evs_expr, ev_eM, ev_eVar, ev_aCons, ev_aNil, ev_eCall, ev_eB, List.getElem?_cons_zero, List.getElem?_cons_succ, Option.some.injEq, exists_eq_left', ty_ref, ea', eb', Cell.lst.injEq, exists_eq', true_and, os_lenL, List.length_cons, List.length_nil]
      have hlen : ys.length + 1 ≤ 1000 := by
        have := hp.length_eq
        simp at this; omega
      refine draw_ev' d'.deck (by omega) (by omega) fun k t2 hk e2 => ?_
      have d2' := d'.trans e2
      have ea2 := e2.at ea' (by omega) (by omega)
      have eb2 := e2.at eb' (by omega) (by omega)
      have hk' : k < (y :: ys).length := by simp at hk ⊢; omega
      simp only [os_pop, ea2, Option.some.injEq, Cell.lst.injEq, exists_eq_left', ixN_nat hk', List.getElem?_eq_getElem hk']
      refine ⟨by rw [sizeLine_val]; simp; omega, ?_⟩
      have eb3 : (t2.set a0 (.lst ((y :: ys).eraseIdx k)))[b0]? = some (.lst fs) := by rw [List.getElem?_set_ne (by omega)]; exact eb2
      have d3 : Dk st r c (t2.set a0 (.lst ((y :: ys).eraseIdx k))) := d2'.set _ (by omega) lr lc
      have ea3 : (t2.set a0 (.lst ((y :: ys).eraseIdx k)))[a0]? = some (.lst ((y :: ys).eraseIdx k)) := List.getElem?_set_self (lt_of_at ea2)
      generalize t2.set a0 (.lst ((y :: ys).eraseIdx k)) = t3 at *
      simp only [os_app, eb3, Option.some.injEq, Cell.lst.injEq, exists_eq_left']
      have hfl : fs.length ≤ 1000 := by
        have := hp.length_eq
        simp at this; omega
      refine ⟨by rw [sizeLine_val]; omega, (y :: ys).eraseIdx k, fs ++ [(y :: ys)[k]], ?_, ?_, ?_, ?_, d3.set _ (by omega) lr lc⟩
      · rw [List.getElem?_set_ne (by omega)]; exact ea3
      · exact List.getElem?_set_self (lt_of_at eb3)
      · rw [List.length_eraseIdx_of_lt hk']; simp
      · have p1 := erase_perm hk'
        have : ((y :: ys).eraseIdx k ++ (fs ++ [(y :: ys)[k]])).Perm ((y :: ys) ++ fs) := by
          refine List.Perm.trans ?_ (p1.append_right fs)
          rw [← List.append_assoc]
          refine (List.perm_append_comm).trans ?_
          simp
        exact this.trans hp
  · rw [List.getElem?_append_left (by omega)]; exact a1
  · rw [List.getElem?_append_right (by omega)]; simp [hb0]
end
end Rm

namespace Rm
open PySem L2
section
variable {P : D → Sto → Prop} {ρ : Env} {st s st' : Sto} {r c : Nat}
inductive All2 {α β : Type} (Y : α → β → Prop) : List α → List β → Prop
  | nil : All2 Y [] []
  | cons {a b as bs} : Y a b → All2 Y as bs → All2 Y (a :: as) (b :: bs)
theorem All2.length {α β : Type} {Y : α → β → Prop} : ∀ {as : List α} {bs : List β}, All2 Y as bs → as.length = bs.length
  | _, _, .nil => rfl
  | _, _, .cons _ t => congrArg (· + 1) t.length
theorem All2.snoc {α β : Type} {Y : α → β → Prop} {a : α} {b : β} : ∀ {as : List α} {bs : List β}, All2 Y as bs → Y a b → All2 Y (as ++ [a]) (bs ++ [b])
  | _, _, .nil, h => .cons h .nil
  | _, _, .cons q t, h => .cons q (t.snoc h)
theorem All2.map {α β : Type} {f : α → β} : ∀ {as : List α} {bs : List β}, All2 (fun a b => b = f a) as bs → bs = as.map f
  | _, _, .nil => rfl
  | _, _, .cons h t => by rw [h, t.map]; rfl
/-- a comprehension, item by item -/
theorem ev_lcR {fi : FI} {g} {tt : FT} {te : F} {vs : List Nat} (h : Ev (fi ρ st) (fun it s => ∃ (R : Sto → Prop) (keep : D → Bool) (Y : D → D → Prop), R s ∧ it.items.length ≤ 1000000 ∧ (∀ s1, R s1 → it.chk s1) ∧
    (∀ d ∈ it.items, ∀ s1, R s1 → ∃ ρ2, g d (wipeD ρ vs) = some ρ2 ∧ Ev (tt ρ2 s1) (fun k s2 => R s2 ∧ k = keep d ∧ (k = true → Ev (te ρ2 s2) (fun y s3 => R s3 ∧ Y d y)))) ∧
    ∀ ys s1, R s1 → All2 Y (it.items.filter keep) ys → P (.ref s1.length) (s1 ++ [.lst ys]))) : Ev (eLc fi g tt te vs ρ st) P := by
  refine ev_lc (h.mono fun it s ⟨R, keep, Y, h0, hl, hc, hs, he⟩ => ?_)
  refine ⟨fun i acc s1 => R s1 ∧ All2 Y ((it.items.take i).filter keep) acc, ⟨h0, .nil⟩, ?_, ?_⟩
  · rintro i d acc s1 hd ⟨hR, hA⟩
    have hi : i < it.items.length := (List.getElem?_eq_some_iff.mp hd).1
    have e : it.items[i] = d := (List.getElem?_eq_some_iff.mp hd).2
    obtain ⟨ρ2, hg, hb⟩ := hs d (e ▸ List.getElem_mem hi) s1 hR
    have hlen : acc.length ≤ i := by
      rw [← hA.length]
      exact Nat.le_trans (List.length_filter_le _ _) (by rw [List.length_take]; exact Nat.min_le_left _ _)
    refine ⟨hc s1 hR, ρ2, hg, hb.mono fun k s2 ⟨hR2, hk, ht⟩ => ?_⟩
    have tk : it.items.take (i + 1) = it.items.take i ++ [d] := by rw [List.take_succ, hd]; rfl
    cases k with
    | true =>
      rw [if_pos rfl]
      refine (ht rfl).mono fun y s3 ⟨hR3, hY⟩ => ⟨by rw [sizeLine_val]; omega, hR3, ?_⟩
      rw [tk, List.filter_append]
      rw [show [d].filter keep = [d] by simp [← hk]]
      exact hA.snoc hY
    | false =>
      rw [if_neg (by simp)]
      refine ⟨hR2, ?_⟩
      rw [tk, List.filter_append]
      rw [show [d].filter keep = [] by simp [← hk], List.append_nil]
      exact hA
  · rintro acc s1 ⟨hR, hA⟩
    rw [List.take_length] at hA
    exact ⟨hc s1 hR, he acc s1 hR hA⟩
theorem itD_ref {n : Nat} {it : ITD} : itD (.ref n) s = some it ↔ ∃ ds, s[n]? = some (.lst ds) ∧ (⟨ds, fun s => s[n]? = some (.lst ds)⟩ : ITD) = it := by
  simp only [itD]
  split
  · rename_i ds h; simp [h]
  · rename_i h; simp only [reduceCtorEq, false_iff]; rintro ⟨ds, e, _⟩; exact h ds e
theorem itD_tup {ds : List D} {it : ITD} : itD (.tup ds) s = some it ↔ (⟨ds, fun _ => True⟩ : ITD) = it := by simp [itD]
theorem itD_kl {ds : List D} {it : ITD} : itD (.kl ds) s = some it ↔ (⟨ds, fun _ => True⟩ : ITD) = it := by simp [itD]
/-! comparisons of data -/
theorem eq_py {x y : D} {p q : PyData} (hx : Py s 50 x p) (hy : Py s 50 y q) (sp : SeqAt.shaped p = true) (sq : SeqAt.shaped q = true) (hns : ∀ a b, ¬ (x = .str a ∧ y = .str b)) : eqD x y s = some (PyData.eqv p q) := by
  have e1 := hx.at
  have e2 := hy.at
  unfold eqD
  split
  · rename_i a b; exact absurd ⟨rfl, rfl⟩ (hns a b)
  · rw [e1, e2]; simp [sp, sq]
theorem sh_int (i : Int) : SeqAt.shaped (.int i) = true := by simp [SeqAt.shaped, PyData.canLay0, PyData.depth]
@[simp] theorem os_eqI {i j : Int} : OSat (eqO (.int i) (.int j) s) P ↔ P (.bl (i == j)) s := by
  unfold eqO
  rw [eq_py ((py_int i).mono (by decide)) ((py_int j).mono (by decide)) (sh_int i) (sh_int j) (by simp)]
  simp [PyData.eqv]
@[simp] theorem os_neI {i j : Int} : OSat (neO (.int i) (.int j) s) P ↔ P (.bl (!(i == j))) s := by
  unfold neO
  rw [eq_py ((py_int i).mono (by decide)) ((py_int j).mono (by decide)) (sh_int i) (sh_int j) (by simp)]
  simp [PyData.eqv]
def intOf : D → Int
  | .int i => i
  | _ => 0
theorem map_intOf : ∀ ns : List Int, (ns.map D.int).map intOf = ns
  | [] => rfl
  | n :: ns => by rw [List.map_cons, List.map_cons, map_intOf ns]; rfl
/-! slices, sorts -/
theorem cut_take {α : Type} (ds : List α) (k : Nat) : cutD ds none (some (k : Int)) = ds.take k := by
  unfold cutD
  rw [HT.sIx_none, show HT.sIx ds.length ds.length (some (k : Int)) = min k ds.length from HT.sIx_nat ds.length ds.length k]
  simp only [List.drop_zero, Nat.sub_zero]
  by_cases h : k ≤ ds.length
  · rw [Nat.min_eq_left h]
  · rw [Nat.min_eq_right (by omega), List.take_length, List.take_of_length_le (by omega)]
theorem cut_drop {α : Type} (ds : List α) (k : Nat) : cutD ds (some (k : Int)) none = ds.drop k := by
  unfold cutD
  rw [HT.sIx_none, show HT.sIx ds.length 0 (some (k : Int)) = min k ds.length from HT.sIx_nat ds.length 0 k]
  by_cases h : k ≤ ds.length
  · rw [Nat.min_eq_left h]; exact List.take_of_length_le (by simp)
  · rw [Nat.min_eq_right (by omega)]; simp; omega
@[simp] theorem os_slL {n : Nat} {lo hi : Option Int} : OSat (slD (.ref n) lo hi s) P ↔ ∃ ds, s[n]? = some (.lst ds) ∧ P (.ref s.length) (s ++ [.lst (cutD ds lo hi)]) := by
  simp only [slD]
  cases h : seqD (.ref n) s with
  | none =>
    simp only [Option.map_none, osat_none, false_iff]
    rintro ⟨ds, e, _⟩; rw [seqD_ref.mpr e] at h; cases h
  | some es => rw [seqD_ref] at h; simp [h]
@[simp] theorem os_slT {ds : List D} {lo hi : Option Int} : OSat (slD (.tup ds) lo hi s) P ↔ P (.tup (cutD ds lo hi)) s := Iff.rfl
@[simp] theorem os_slK {ds : List D} {lo hi : Option Int} : OSat (slD (.kl ds) lo hi s) P ↔ P (.ref s.length) (s ++ [.lst (cutD ds lo hi)]) := Iff.rfl
theorem intsD_map : ∀ ns : List Int, intsD (ns.map D.int) = some ns
  | [] => rfl
  | n :: ns => by
    have := intsD_map ns
    simp only [intsD] at this
    simp [intsD, mapO, this]
theorem os_sort {n : Nat} {ns : List Int} (h : s[n]? = some (.lst (ns.map .int))) : OSat (sortO [.ref n] s) P ↔ P (.ref s.length) (s ++ [.lst ((isort ns).map .int)]) := by
  simp only [sortO, lstD, seqD_ref.mpr h, Option.bind_some, intsD_map, Option.map_some, osat_some]
theorem os_sum {n : Nat} {ns : List Int} (h : s[n]? = some (.lst (ns.map .int))) : OSat (sumO [.ref n] s) P ↔ P (.int ns.sum) s := by
  simp only [sumO, lstD, seqD_ref.mpr h, Option.bind_some, intsD_map, Option.map_some, osat_some]
/-! ## Nets as data -/
abbrev nat (k : Nat) : D := .int (k : Int)
def nats (ks : List Nat) : List D := ks.map nat
structure Lane where
  s : Nat
  e : Nat
  m : Nat
def Lane.enc (l : Lane) : D := .tup [nat l.s, nat l.e, nat l.m]
structure Net where
  h : Nat
  lanes : List Lane
  tab : List (List (List Nat))
def encRow (row : List (List Nat)) : D := .tup (row.map fun e => .tup (nats e))
def Net.enc (N : Net) : D := .tup [nat N.h, .tup (N.lanes.map Lane.enc), .tup (N.tab.map encRow)]
/-- the entry of the table of u for d -/
def Net.at (N : Net) (u d : Nat) : List Nat := (N.tab.getD u []).getD d []
/-- an entry of the table of u: ascending lanes that start there -/
def EntOk (L : List Lane) (u : Nat) (e : List Nat) : Prop := e.Pairwise (· < ·) ∧ ∀ k ∈ e, ∃ l, L[k]? = some l ∧ l.s = u
structure Net.Ok (N : Net) : Prop where
  h1 : 1 ≤ N.h
  h6 : N.h ≤ 6
  few : N.lanes.length ≤ 16
  lane : ∀ l ∈ N.lanes, l.s < N.h ∧ l.e < N.h ∧ l.s ≠ l.e ∧ 1 ≤ l.m ∧ l.m ≤ 4
  rows : N.tab.length = N.h
  cols : ∀ row ∈ N.tab, row.length = N.h
  ent : ∀ u d, u < N.h → d < N.h → EntOk N.lanes u (N.at u d)
  own : ∀ u, u < N.h → N.at u u = []
/-- the lanes that start at u -/
def starts (L : List Lane) (u : Nat) : List Nat := (List.range L.length).filter fun i => (L[i]?.map Lane.s) == some u
theorem nat_sort {ns : List Int} {ks : List Nat} (hp : ∀ i ∈ ns, ∃ k ∈ ks, i = (k : Int)) (nd : ns.Nodup) : ∃ e : List Nat, (isort ns).map D.int = nats e ∧ e.Pairwise (· < ·) ∧ ∀ k ∈ e, k ∈ ks := by
  refine ⟨(isort ns).map Int.toNat, ?_, ?_, ?_⟩
  · unfold nats
    rw [List.map_map]
    refine List.map_congr_left fun i hi => ?_
    obtain ⟨k, _, rfl⟩ := hp i ((isort_perm ns).mem_iff.mp hi)
    simp
  · have h1 := isort_sorted ns
    have h2 : (isort ns).Nodup := (isort_perm ns).nodup_iff.mpr nd
    rw [List.pairwise_map]
    have h3 := h1.and h2
    refine h3.imp_of_mem ?_
    rintro a b ha hb ⟨h4, h5⟩
    obtain ⟨k, _, rfl⟩ := hp a ((isort_perm ns).mem_iff.mp ha)
    obtain ⟨j, _, rfl⟩ := hp b ((isort_perm ns).mem_iff.mp hb)
    have : (k : Int) ≠ j := h5
    simp
    omega
  · intro k hk
    obtain ⟨i, hi, rfl⟩ := List.mem_map.mp hk
    obtain ⟨j, hj, rfl⟩ := hp i ((isort_perm ns).mem_iff.mp hi)
    simpa using hj
theorem wipeD_nil {vs : List Nat} : wipeD ρ [] = ρ := rfl
theorem entry_ev {q u : Nat} {L : List Lane} (dk : Deck st r c) (hq : st[q]? = some (.lst (L.map Lane.enc))) (h1 : q ≠ r) (h2 : q ≠ c) (hl : L.length ≤ 1000)
    (h : ∀ e s', EntOk L u e → Dk st r c s' → P (.tup (nats e)) s') : Ev (f_law_entry [.ref r, .ref q, nat u] st) P := by
  unfold f_law_entry b_law_entry
  simp only [ev_body, evs_seq, evs_asgN, gN_at, ev_eCall, ev_aCons, ev_aNil, ev_eVar, startD_3, List.getElem?_cons_zero, List.getElem?_cons_succ, Option.some.injEq, exists_eq_left', List.length_cons, List.length_nil, true_and]
  refine ev_lc ?_
  simp only [ev_iEn2, ev_aCons, ev_aNil, ev_eVar, List.getElem?_cons_zero, List.getElem?_cons_succ, Option.some.injEq, exists_eq_left', itD_ref, List.cons.injEq, D.ref.injEq, and_true]
  have len : (enumD ⟨L.map Lane.enc, fun s => s[q]? = some (.lst (L.map Lane.enc))⟩).items.length = L.length := by simp [enumD]
  refine ⟨_, ⟨_, hq, rfl⟩, fun i acc s => st = s ∧ acc = nats ((List.range i).filter fun i => (L[i]?.map Lane.s) == some u), ⟨rfl, rfl⟩, ?_, ?_⟩
  · rintro i d acc _ hd ⟨rfl, rfl⟩
    have hi : i < L.length := by rw [← len]; exact (List.getElem?_eq_some_iff.mp hd).1
    have ed : d = .tup [.int (i : Nat), (L[i]).enc] := by
      rw [enum_get (d := L[i].enc) (by simp [hi])] at hd
      exact (Option.some.inj hd).symm
    subst ed
    refine ⟨hq, _, by simp [gT, gsC, gsN, gN, wipeD, List.replicate]; rfl, ?_⟩
    simp only [List.replicate, List.set_cons_succ, List.set_cons_zero, ev_tbB, ev_e2, ev_eVar, ev_eC, List.getElem?_cons_succ, List.getElem?_cons_zero, Option.some.injEq, exists_eq_left', Lane.enc, os_ixT, show ∀ a b c : D, atI [a, b, c] 0 = some a from fun _ _ _ => rfl, os_eqI, D.bl.injEq]
    rw [List.range_succ, List.filter_append]
    have hs : (L[i]?.map Lane.s) = some L[i].s := by simp [hi]
    split
    · rename_i hu
      have hu' : L[i].s = u := by simp at hu; omega
      refine ⟨?_, trivial, ?_⟩
      · rw [sizeLine_val]
        unfold nats
        rw [List.length_map]
        exact Nat.lt_of_le_of_lt (List.length_filter_le _ _) (by simp; omega)
      · rw [show [i].filter (fun i => (L[i]?.map Lane.s) == some u) = [i] by simp [hs, hu']]
        simp [nats]
    · rename_i hu
      have hu' : ¬ L[i].s = u := by simp at hu; omega
      refine ⟨trivial, ?_⟩
      rw [show [i].filter (fun i => (L[i]?.map Lane.s) == some u) = [] by simp [hs, hu'], List.append_nil]
  · rintro acc _ ⟨rfl, rfl⟩
    refine ⟨hq, ?_⟩
    rw [len, show (List.range L.length).filter (fun i => (L[i]?.map Lane.s) == some u) = starts L u from rfl]
    have d1 := (Dk.refl dk).push (.lst (nats (starts L u)))
    have e0 : (st ++ [Cell.lst (nats (starts L u))])[st.length]? = some (.lst (nats (starts L u))) := by simp
    have l1 : (st ++ [Cell.lst (nats (starts L u))]).length = st.length + 1 := by simp
    generalize hs1 : st ++ [Cell.lst (nats (starts L u))] = s1 at *
    have lr := dk.lt_r
    have lc := dk.lt_c
    have slen : (starts L u).length ≤ 1000 := Nat.le_trans (List.length_filter_le _ _) (by simpa using hl)
    have asI : nats (starts L u) = ((starts L u).map fun (k : Nat) => (k : Int)).map D.int := by unfold nats; rw [List.map_map]; rfl
    refine mixed_ev d1.deck (.inr ⟨st.length, rfl, by omega, by omega, e0⟩) (by rw [asI]; exact asks_ints) (by simpa [nats] using slen) fun q2 es s2 hq2 eq2 hp d2 => ?_
    have d12 := d1.trans d2
    obtain ⟨ns, rfl⟩ : ∃ ns : List Int, es = ns.map .int := by
      rw [asI] at hp
      have : ∀ x ∈ es, ∃ i : Int, x = .int i := fun x hx => by
        obtain ⟨i, _, e⟩ := List.mem_map.mp (hp.mem_iff.mp hx)
        exact ⟨i, e.symm⟩
      clear hp eq2 h
      induction es with
      | nil => exact ⟨[], rfl⟩
      | cons x xs ih =>
        obtain ⟨ys, rfl⟩ := ih fun y hy => this y (List.mem_cons_of_mem _ hy)
        obtain ⟨i, rfl⟩ := this x List.mem_cons_self
        exact ⟨i :: ys, rfl⟩
    have hp' : ns.Perm ((starts L u).map fun (k : Nat) => (k : Int)) := by
      rw [asI] at hp
      have h3 := hp.map intOf
      rw [map_intOf, map_intOf] at h3
      exact h3
    refine ⟨_, ⟨by simp, rfl⟩, ?_⟩
    simp only [List.replicate, List.set_cons_succ, List.set_cons_zero, ev_eLst, ev_eB, ev_aCons, ev_aNil, ev_eC, ev_eVar, List.getElem?_cons_succ, List.getElem?_cons_zero, Option.some.injEq, exists_eq_left', os_lenL, eq2, Cell.lst.injEq, List.length_cons, List.length_nil]
    refine ⟨by decide, ?_⟩
    have d3 := d12.push (.lst [.int 1, .int 1, .int 1, .int 1, .int 2, .int 2, .int ↑(ns.map D.int).length, .int 0])
    have e3 : (s2 ++ [Cell.lst [D.int 1, .int 1, .int 1, .int 1, .int 2, .int 2, .int ↑(ns.map D.int).length, .int 0]])[s2.length]? = some (.lst [D.int 1, .int 1, .int 1, .int 1, .int 2, .int 2, .int ↑(ns.map D.int).length, .int 0]) := by simp
    have eq3 : (s2 ++ [Cell.lst [D.int 1, .int 1, .int 1, .int 1, .int 2, .int 2, .int ↑(ns.map D.int).length, .int 0]])[q2]? = some (.lst (ns.map .int)) := by rw [List.getElem?_append_left (lt_of_at eq2)]; exact eq2
    have l2 := d12.keep.1
    generalize s2 ++ [Cell.lst [D.int 1, .int 1, .int 1, .int 1, .int 2, .int 2, .int ↑(ns.map D.int).length, .int 0]] = s3 at *
    refine pick_ev d3.deck (.inr ⟨s2.length, rfl, by omega, by omega, e3⟩) (by simp) (by simp) fun k m s4 hm d4 => ?_
    have d34 := d3.trans d4
    obtain ⟨m', rfl⟩ : ∃ m' : Nat, m = nat m' := by
      have : m ∈ [D.int 1, .int 1, .int 1, .int 1, .int 2, .int 2, .int ↑(ns.map D.int).length, .int 0] := List.mem_of_getElem? hm
      simp only [List.mem_cons, List.not_mem_nil, or_false] at this
      rcases this with rfl | rfl | rfl | rfl | rfl | rfl | rfl | rfl
      · exact ⟨1, rfl⟩
      · exact ⟨1, rfl⟩
      · exact ⟨1, rfl⟩
      · exact ⟨1, rfl⟩
      · exact ⟨2, rfl⟩
      · exact ⟨2, rfl⟩
      · exact ⟨_, rfl⟩
      · exact ⟨0, rfl⟩
    have eq4 := d4.at eq3 (by omega) (by omega)
    refine ⟨_, ⟨by simp, rfl⟩, ?_⟩
    simp only [List.set_cons_succ, List.set_cons_zero, evs_ret, ev_eB, ev_aCons, ev_aNil, ev_eSl, ev_oNone, ev_oSome, ev_eVar, List.getElem?_cons_succ, List.getElem?_cons_zero, Option.some.injEq, exists_eq_left', D.int.injEq, os_slL, eq4, Cell.lst.injEq, cut_take]
    rw [← List.map_take]
    have e5 : (s4 ++ [Cell.lst (List.map D.int (ns.take m'))])[s4.length]? = some (.lst ((ns.take m').map .int)) := by simp
    have d5 := d34.push (.lst ((ns.take m').map .int))
    generalize s4 ++ [Cell.lst (List.map D.int (ns.take m'))] = s5 at *
    rw [os_sort e5]
    have e6 : (s5 ++ [Cell.lst ((isort (ns.take m')).map D.int)])[s5.length]? = some (.lst ((isort (ns.take m')).map D.int)) := by simp
    have d6 := d5.push (.lst ((isort (ns.take m')).map D.int))
    generalize s5 ++ [Cell.lst ((isort (ns.take m')).map D.int)] = s6 at *
    simp only [os_tupL, e6, Option.some.injEq, Cell.lst.injEq, exists_eq_left']
    have nds : (starts L u).Nodup := List.nodup_range.filter _
    have nd : ns.Nodup := hp'.nodup_iff.mpr (List.Pairwise.map _ (fun a b hab hne => hab (by omega)) nds)
    obtain ⟨e, he, hlt, hmem⟩ := nat_sort (ns := ns.take m') (ks := starts L u) (fun i hi => by
      obtain ⟨k, hk, rfl⟩ := List.mem_map.mp (hp'.mem_iff.mp (List.mem_of_mem_take hi))
      exact ⟨k, hk, rfl⟩) (nd.sublist (List.take_sublist _ _))
    rw [he]
    refine h e s6 ⟨hlt, fun k hk => ?_⟩ d6
    have := (List.mem_filter.mp (hmem k hk)).2
    have h7 : L[k]?.map Lane.s = some u := by simpa using this
    obtain ⟨l, hl, hu⟩ := Option.map_eq_some_iff.mp h7
    exact ⟨l, hl, hu⟩
end
end Rm

namespace Rm
open PySem L2
section
variable {P : D → Sto → Prop} {ρ : Env} {st s st' : Sto} {r c : Nat}
theorem at_push {x : Cell} : (st ++ [x])[st.length]? = some x := by simp
theorem All2.of_map {α β γ : Type} {Y : β → γ → Prop} {f : α → β} : ∀ {as : List α} {bs : List γ}, All2 Y (as.map f) bs → All2 (fun a b => Y (f a) b) as bs
  | [], _, h => by cases h; exact .nil
  | a :: as, _, h => by cases h with | cons h1 h2 => exact .cons h1 (All2.of_map h2)
/-- a comprehension over things that are encoded -/
theorem ev_lcM {β : Type} {fi : FI} {g} {tt : FT} {te : F} {vs : List Nat} (xs : List β) (enc : β → D) (h : Ev (fi ρ st) (fun it s => ∃ (R : Sto → Prop) (keep : β → Bool) (Y : β → D → Prop), it.items = xs.map enc ∧ R s ∧ xs.length ≤ 1000000 ∧ (∀ s1, R s1 → it.chk s1) ∧
    (∀ x ∈ xs, ∀ s1, R s1 → ∃ ρ2, g (enc x) (wipeD ρ vs) = some ρ2 ∧ Ev (tt ρ2 s1) (fun k s2 => R s2 ∧ k = keep x ∧ (k = true → Ev (te ρ2 s2) (fun y s3 => R s3 ∧ Y x y)))) ∧
    ∀ ys s1, R s1 → All2 Y (xs.filter keep) ys → P (.ref s1.length) (s1 ++ [.lst ys]))) : Ev (eLc fi g tt te vs ρ st) P := by
  refine ev_lc (h.mono fun it s ⟨R, keep, Y, hx, h0, hl, hc, hs, he⟩ => ?_)
  refine ⟨fun i acc s1 => R s1 ∧ All2 Y ((xs.take i).filter keep) acc, ⟨h0, .nil⟩, ?_, ?_⟩
  · rintro i d acc s1 hd ⟨hR, hA⟩
    rw [hx, List.getElem?_map] at hd
    obtain ⟨x, hxi, rfl⟩ := Option.map_eq_some_iff.mp hd
    have hi : i < xs.length := (List.getElem?_eq_some_iff.mp hxi).1
    obtain ⟨ρ2, hg, hb⟩ := hs x (List.mem_of_getElem? hxi) s1 hR
    have hlen : acc.length ≤ i := by
      rw [← hA.length]
      exact Nat.le_trans (List.length_filter_le _ _) (by rw [List.length_take]; exact Nat.min_le_left _ _)
    refine ⟨hc s1 hR, ρ2, hg, hb.mono fun k s2 ⟨hR2, hk, ht⟩ => ?_⟩
    have tk : xs.take (i + 1) = xs.take i ++ [x] := by rw [List.take_succ, hxi]; rfl
    cases k with
    | true =>
      rw [if_pos rfl]
      refine (ht rfl).mono fun y s3 ⟨hR3, hY⟩ => ⟨by rw [sizeLine_val]; omega, hR3, ?_⟩
      rw [tk, List.filter_append, show [x].filter keep = [x] by simp [← hk]]
      exact hA.snoc hY
    | false =>
      rw [if_neg (by simp)]
      refine ⟨hR2, ?_⟩
      rw [tk, List.filter_append, show [x].filter keep = [] by simp [← hk], List.append_nil]
      exact hA
  · rintro acc s1 ⟨hR, hA⟩
    rw [hx, List.length_map, List.take_length] at hA
    exact ⟨hc s1 hR, he acc s1 hR hA⟩
/-- .. each giving one thing -/
theorem ev_lcF {β : Type} {fi : FI} {g} {tt : FT} {te : F} {vs : List Nat} (xs : List β) (enc : β → D) (f : β → D) (keep : β → Bool) (R : Sto → Prop) (h : Ev (fi ρ st) (fun it s => it.items = xs.map enc ∧ R s ∧ xs.length ≤ 1000000 ∧ (∀ s1, R s1 → it.chk s1) ∧
    (∀ x ∈ xs, ∀ s1, R s1 → ∃ ρ2, g (enc x) (wipeD ρ vs) = some ρ2 ∧ Ev (tt ρ2 s1) (fun k s2 => R s2 ∧ k = keep x ∧ (k = true → Ev (te ρ2 s2) (fun y s3 => R s3 ∧ y = f x)))) ∧
    ∀ s1, R s1 → P (.ref s1.length) (s1 ++ [.lst ((xs.filter keep).map f)]))) : Ev (eLc fi g tt te vs ρ st) P :=
  ev_lcM xs enc (h.mono fun it s ⟨h1, h2, h3, h4, h5, h6⟩ => ⟨R, keep, fun x y => y = f x, h1, h2, h3, h4, h5, fun ys s1 hR hA => by rw [hA.map]; exact h6 s1 hR⟩)
theorem rng_items (n : Nat) : (rngD 0 n).items = (List.range n).map nat := by
  unfold rngD
  simp only [nat]
  exact List.map_congr_left fun i _ => by simp
theorem filter_true {β : Type} (xs : List β) : xs.filter (fun _ => true) = xs := List.filter_eq_self.mpr fun _ _ => rfl
/-! ### entries cut -/
def cutE (most : Nat) (e : List Nat) : List Nat := e.filter fun k => decide (k < most)
def cutT (most : Nat) (T : List (List (List Nat))) : List (List (List Nat)) := T.map fun row => row.map (cutE most)
theorem cut_ev {q most : Nat} {T : List (List (List Nat))} (hq : st[q]? = some (.lst (T.map encRow))) (hl : T.length ≤ 1000) (hr : ∀ row ∈ T, row.length ≤ 1000) (he : ∀ row ∈ T, ∀ e ∈ row, e.length ≤ 1000)
    (h : ∀ s', Kp any st s' → P (.tup ((cutT most T).map encRow)) s') : Ev (f_law_cut [.ref q, nat most] st) P := by
  unfold f_law_cut b_law_cut
  simp only [ev_body, evs_ret, ev_eB, ev_aCons, ev_aNil, startD_2]
  refine ev_lcF T encRow (fun row => encRow (row.map (cutE most))) (fun _ => true) (fun s => Kp any st s) ?_
  simp only [ev_iSeq, ev_eVar, List.getElem?_cons_zero, Option.some.injEq, exists_eq_left', itD_ref]
  refine ⟨_, ⟨_, hq, rfl⟩, rfl, Kp.refl _, by omega, fun s1 k => k.at hq trivial, fun row hrow s1 k1 => ⟨_, gN_at.mpr ⟨by simp [wipeD], rfl⟩, ?_⟩, ?_⟩
  · simp only [wipeD, List.replicate, List.set_cons_succ, List.set_cons_zero, ev_yes, ev_eB, ev_aCons, ev_aNil]
    refine ⟨k1, trivial, fun _ => ?_⟩
    refine ev_lcF row (fun e => .tup (nats e)) (fun e => .tup (nats (cutE most e))) (fun _ => true) (fun s => Kp any st s) ?_
    simp only [ev_iSeq, ev_eVar, List.getElem?_cons_zero, List.getElem?_cons_succ, Option.some.injEq, exists_eq_left', encRow, itD_tup]
    refine ⟨trivial, k1, Nat.le_trans (hr row hrow) (by decide), fun _ _ => trivial, fun e hee s2 k2 => ⟨_, gN_at.mpr ⟨by simp [wipeD], rfl⟩, ?_⟩, ?_⟩
    · simp only [wipeD, List.set_cons_succ, List.set_cons_zero, ev_yes, ev_eB, ev_aCons, ev_aNil]
      refine ⟨k2, trivial, fun _ => ?_⟩
      refine ev_lcF e nat nat (fun k => decide (k < most)) (fun s => Kp any st s) ?_
      simp only [ev_iSeq, ev_eVar, List.getElem?_cons_zero, List.getElem?_cons_succ, Option.some.injEq, exists_eq_left', itD_tup]
      refine ⟨rfl, k2, Nat.le_trans (he row hrow e hee) (by decide), fun _ _ => trivial, fun k hk s3 k3 => ⟨_, gN_at.mpr ⟨by simp [wipeD], rfl⟩, ?_⟩, ?_⟩
      · simp only [wipeD, List.set_cons_succ, List.set_cons_zero, ev_tbB, ev_e2, ev_eVar, List.getElem?_cons_zero, List.getElem?_cons_succ, Option.some.injEq, exists_eq_left', os_lt, D.bl.injEq]
        exact ⟨k3, by simp, fun _ => ⟨k3, trivial⟩⟩
      · intro s3 k3
        simp only [os_tupL, List.getElem?_append_right (Nat.le_refl _), Nat.sub_self, List.getElem?_cons_zero, Option.some.injEq, Cell.lst.injEq, exists_eq_left']
        exact ⟨k3.trans (Kp.push _ _), rfl⟩
    · intro s2 k2
      simp only [os_tupL, List.getElem?_append_right (Nat.le_refl _), Nat.sub_self, List.getElem?_cons_zero, Option.some.injEq, Cell.lst.injEq, exists_eq_left', filter_true]
      refine ⟨k2.trans (Kp.push _ _), ?_⟩
      simp only [List.map_map, D.tup.injEq]
      exact List.map_congr_left fun e _ => rfl
  · intro s1 k1
    simp only [os_tupL, List.getElem?_append_right (Nat.le_refl _), Nat.sub_self, List.getElem?_cons_zero, Option.some.injEq, Cell.lst.injEq, exists_eq_left', filter_true]
    have e : (T.map fun row => encRow (row.map (cutE most))) = (cutT most T).map encRow := by unfold cutT; rw [List.map_map]; rfl
    rw [e]
    exact h _ (k1.trans (Kp.push _ _))
/-! ### the deck -/
theorem deck_ev {ns : List Int} (hl : ns.length ≤ 63) (h : ∀ (r c : Nat) s', Deck s' r c → Kp any st s' → st.length ≤ r → st.length ≤ c → P (.ref r) s') : Ev (f_law_deck [.kl (ns.map .int)] st) P := by
  unfold f_law_deck b_law_deck
  simp only [ev_body, evs_seq, evs_par2, ev_aCons, ev_aNil, startD_1]
  refine ev_lcF (ns.take 63) D.int (fun i => .int (2 * (if i < 0 then -i else i) + (if decide (i < 0) = true then 1 else 0))) (fun _ => true) (fun s => s = st ++ [.lst ((ns.take 63).map .int)]) ?_
  simp only [ev_iSeq, ev_eSl, ev_oNone, ev_oSome, ev_eC, ev_eVar, List.getElem?_cons_zero, Option.some.injEq, exists_eq_left', D.int.injEq, os_slK, itD_ref, show (63 : Int) = ((63 : Nat) : Int) from rfl, cut_take, List.map_take]
  refine ⟨_, ⟨_, at_push, rfl⟩, rfl, trivial, by simp; omega, ?_, fun i hi s1 hs1 => ⟨_, gN_at.mpr ⟨by simp [wipeD], rfl⟩, ?_⟩, ?_⟩
  · rintro s1 rfl; simp
  · subst hs1
    simp only [wipeD, List.replicate, List.set_cons_succ, List.set_cons_zero, ev_yes, ev_e2, ev_eC, ev_eB, ev_aCons, ev_aNil, ev_eVar, List.getElem?_cons_zero, List.getElem?_cons_succ, Option.some.injEq, exists_eq_left', os_abs, os_mul, os_lt, os_intB, os_add]
    exact ⟨trivial, trivial, fun _ => ⟨by omega, trivial, trivial⟩⟩
  · rintro s1 rfl
    simp only [filter_true, ev_e2, ev_eC, ev_eB, ev_aCons, ev_aNil, ev_eVar, List.getElem?_cons_zero, Option.some.injEq, exists_eq_left', os_lenK, os_add]
    refine ⟨_, _, rfl, ⟨by simp, by simp⟩, ?_⟩
    simp only [List.replicate, List.set_cons_succ, List.set_cons_zero]
    have asI : ((ns.map D.int).take 63) = (ns.take 63).map D.int := by rw [List.map_take]
    generalize hxs : (ns.take 63).map (fun i : Int => (2 * (if i < 0 then -i else i) + (if decide (i < 0) = true then 1 else 0) : Int)) = xs
    have hmap : (ns.take 63).map (fun i : Int => D.int (2 * (if i < 0 then -i else i) + (if decide (i < 0) = true then 1 else 0))) = xs.map D.int := by rw [← hxs, List.map_map]; rfl
    rw [hmap]
    have xl : xs.length ≤ 63 := by rw [← hxs]; simp; omega
    generalize ht : st ++ [Cell.lst ((ns.map D.int).take 63)] ++ [Cell.lst (xs.map D.int)] = t
    have kt : Kp any st t := by rw [← ht]; exact (Kp.push _ _).trans (Kp.push _ _)
    have el : (st ++ [Cell.lst ((ns.map D.int).take 63)]).length = st.length + 1 := by simp
    have et : t[(st ++ [Cell.lst ((ns.map D.int).take 63)]).length]? = some (.lst (xs.map .int)) := by rw [← ht]; simp
    rw [el] at et ⊢
    refine evs_for ?_
    simp only [ev_iSeq, ev_eVar, List.getElem?_cons_zero, List.getElem?_cons_succ, Option.some.injEq, exists_eq_left', itD_ref]
    refine ⟨_, ⟨_, et, rfl⟩, fun i ρ s => t = s ∧ ∃ (m : Int) (y : Option D), ρ = [some (.kl (ns.map .int)), some (.ref (st.length + 1)), some (.int m), y], ⟨rfl, _, _, rfl⟩, ?_, ?_⟩
    · rintro i d ρ1 _ hd ⟨rfl, m, y, rfl⟩
      obtain ⟨x, _, rfl⟩ := List.mem_map.mp (List.mem_of_getElem? hd)
      refine ⟨et, _, gN_at.mpr ⟨by simp, rfl⟩, ?_⟩
      simp only [List.set_cons_succ, List.set_cons_zero, evs_asgN, gN_at, ev_e2, ev_eB, ev_aCons, ev_aNil, ev_eVar, ev_eC, List.getElem?_cons_zero, List.getElem?_cons_succ, Option.some.injEq, exists_eq_left', os_mul, os_add, os_int, os_mod]
      exact ⟨by omega, by omega, _, ⟨by simp, rfl⟩, trivial, _, _, rfl⟩
    · rintro ρ1 _ ⟨rfl, m, y, rfl⟩
      refine ⟨et, ?_⟩
      simp only [evs_ret, ev_eLst, ev_aCons, ev_aNil]
      refine ev_lcF xs D.int D.int (fun i => decide (10 ^ 15 < i)) (fun s => t = s) ?_
      simp only [ev_iSeq, ev_eVar, List.getElem?_cons_zero, List.getElem?_cons_succ, Option.some.injEq, exists_eq_left', itD_ref]
      refine ⟨_, ⟨_, et, rfl⟩, rfl, trivial, by omega, ?_, fun i hi s1 hs1 => ⟨_, gN_at.mpr ⟨by simp [wipeD], rfl⟩, ?_⟩, ?_⟩
      · rintro s1 rfl; exact et
      · subst hs1
        simp only [wipeD, List.set_cons_succ, List.set_cons_zero, ev_tbB, ev_e2, ev_eC, ev_eVar, List.getElem?_cons_zero, List.getElem?_cons_succ, Option.some.injEq, exists_eq_left', os_pow, os_gt, D.bl.injEq]
        exact ⟨by decide, trivial, by simp, fun _ => ⟨trivial, trivial⟩⟩
      · rintro s1 rfl
        simp only [ev_eVar, ev_eC, List.getElem?_cons_succ, List.getElem?_cons_zero, Option.some.injEq, exists_eq_left']
        refine ⟨by rw [sizeLine_val]; simp, ?_⟩
        have l2 : (t ++ [Cell.lst (List.map D.int (xs.filter fun i => decide (10 ^ 15 < i)))]).length = t.length + 1 := by simp
        refine h _ _ _ ⟨?_, xs.filter (fun i => decide (10 ^ 15 < i)), m, 0, ?_, ?_, ?_⟩ (kt.trans ((Kp.push _ _).trans (Kp.push _ _))) (by simp; have := kt.1; omega) kt.1
        · rw [l2]; omega
        · simp
        · rw [List.getElem?_append_left (by rw [l2]; omega)]; simp
        · exact Nat.le_trans (List.length_filter_le _ _) xl
end
end Rm

namespace Rm
open PySem L2
section
variable {P : D → Sto → Prop} {ρ : Env} {st s st' : Sto} {r c : Nat}
def LaneOk (h : Nat) (l : Lane) : Prop := l.s < h ∧ l.e < h ∧ l.s ≠ l.e ∧ 1 ≤ l.m ∧ l.m ≤ 4
theorem other_house {k j h : Nat} (hk : k < h) (hj : j + 1 < h) : (k + 1 + j) % h < h ∧ (k + 1 + j) % h ≠ k := by
  refine ⟨Nat.mod_lt _ (by omega), ?_⟩
  by_cases hlt : k + 1 + j < h
  · rw [Nat.mod_eq_of_lt hlt]; omega
  · rw [Nat.mod_eq_sub_mod (by omega), Nat.mod_eq_of_lt (by omega)]; omega
/-- picking one of some written rooms -/
theorem pick_room {xs : List Nat} {N : Nat} (dk : Deck st r c) (hx : xs ≠ []) (hl : xs.length ≤ 10) (ha : ∀ x ∈ xs, 1 ≤ x ∧ x ≤ 4) (h : ∀ (m : Nat) s', 1 ≤ m → m ≤ 4 → Dk st r c s' → P (nat m) s') :
    Ev (f_law_pick [.ref r, .ref st.length] (st ++ [.lst (nats xs)])) P := by
  have lr := dk.lt_r
  have lc := dk.lt_c
  have d1 := (Dk.refl dk).push (.lst (nats xs))
  refine pick_ev d1.deck (.inr ⟨st.length, rfl, by omega, by omega, at_push⟩) (by simpa [nats] using hx) (by simp [nats]; omega) fun k d s' hk d' => ?_
  obtain ⟨m, hm, rfl⟩ := List.mem_map.mp (List.mem_of_getElem? hk)
  exact h m s' (ha m hm).1 (ha m hm).2 (d1.trans d')
def RowOk (L : List Lane) (h u : Nat) (row : List (List Nat)) : Prop := row.length = h ∧ (∀ (d : Nat) (e : List Nat), row[d]? = some e → EntOk L u e) ∧ ∀ e : List Nat, row[u]? = some e → e = []
theorem ent_len {L : List Lane} {u : Nat} {e : List Nat} (h : EntOk L u e) : e.length ≤ L.length := by
  have nd : e.Nodup := h.1.imp fun h => Nat.ne_of_lt h
  have sub : e ⊆ List.range L.length := fun k hk => by
    obtain ⟨l, hl, _⟩ := h.2 k hk
    exact List.mem_range.mpr (List.getElem?_eq_some_iff.mp hl).1
  have := nd.length_le_of_subset sub
  simpa using this
/-- the lanes so far -/
def netI (st : Sto) (r c a0 h most least n i : Nat) (ρ : Env) (s : Sto) : Prop := ∃ (L : List Lane) (t5 t6 t7 : Option D), ρ = [some (.ref r), some (nat h), some (nat most), some (nat least), some (.ref a0), t5, t6, t7, none, none, none] ∧
  s[a0]? = some (.lst (L.map Lane.enc)) ∧ (∀ l ∈ L, LaneOk h l) ∧ i ≤ L.length ∧ L.length ≤ 2 * i ∧ i ≤ n ∧ Dk st r c s
/-- the rows so far -/
def rowI (st : Sto) (r c a0 b0 h most least : Nat) (L : List Lane) (t5 t6 t7 : Option D) (i : Nat) (ρ : Env) (s : Sto) : Prop := ∃ (T : List (List (List Nat))) (t9 : Option D), ρ = [some (.ref r), some (nat h), some (nat most), some (nat least), some (.ref a0), t5, t6, t7, some (.ref b0), t9, none] ∧
  s[a0]? = some (.lst (L.map Lane.enc)) ∧ s[b0]? = some (.lst (T.map encRow)) ∧ T.length = i ∧ (∀ (u : Nat) (row : List (List Nat)), T[u]? = some row → RowOk L h u row) ∧ i ≤ h ∧ Dk st r c s
theorem rows_of {ys : List D} {Y : Nat → D → Prop} {L : List Lane} {h u : Nat} (hY : ∀ d y, Y d y ↔ ∃ e, y = .tup (nats e) ∧ EntOk L u e ∧ (d = u → e = [])) (hA : All2 Y (List.range h) ys) : ∃ row : List (List Nat), ys = row.map (fun e => D.tup (nats e)) ∧ RowOk L h u row := by
  have aux : ∀ (ds : List Nat) (ys : List D), All2 Y ds ys → ∃ row : List (List Nat), ys = row.map (fun e => D.tup (nats e)) ∧ row.length = ds.length ∧ ∀ (j d : Nat) (e : List Nat), ds[j]? = some d → row[j]? = some e → EntOk L u e ∧ (d = u → e = []) := by
    intro ds
    induction ds with
    | nil => intro ys hA; cases hA; exact ⟨[], rfl, rfl, fun j d e h => by simp at h⟩
    | cons d ds ih =>
      intro ys hA
      cases hA with
      | cons h1 h2 =>
        obtain ⟨e, rfl, he⟩ := (hY _ _).mp h1
        obtain ⟨row, rfl, hl, hr⟩ := ih _ h2
        refine ⟨e :: row, rfl, by simp [hl], fun j d' e' h3 h4 => ?_⟩
        cases j with
        | zero => simp at h3 h4; subst h3 h4; exact he
        | succ j => exact hr j d' e' (by simpa using h3) (by simpa using h4)
  obtain ⟨row, e1, e2, e3⟩ := aux _ _ hA
  have hl : row.length = h := by simpa using e2
  have get : ∀ (d : Nat) (e : List Nat), row[d]? = some e → EntOk L u e ∧ (d = u → e = []) := fun d e hd => by
    have hd' : d < h := by rw [← hl]; exact (List.getElem?_eq_some_iff.mp hd).1
    exact e3 d d e (by simp [hd']) hd
  exact ⟨row, e1, hl, fun d e hd => (get d e hd).1, fun e hd => (get u e hd).2 rfl⟩
/-- one row -/
theorem row_ev' {s5 : Sto} {ρ : Env} {h a0 b0 i : Nat} {x2 x3 t5 t6 t7 x10 : Option D} {L : List Lane} {T : List (List (List Nat))} (hρ : [some (.ref r), some (nat h), x2, x3, some (.ref a0), t5, t6, t7, some (.ref b0), some (nat i), x10] = ρ) (d5 : Dk st r c s5) (eL5 : s5[a0]? = some (.lst (L.map Lane.enc))) (eT5 : s5[b0]? = some (.lst (T.map encRow)))
    (h6 : h ≤ 6) (hi : i < h) (hL : L.length ≤ 32) (ha : a0 ≠ c) (hb : b0 ≠ c) (har : a0 ≠ r) (hbr : b0 ≠ r) (ha0 : st.length ≤ a0) (hb0 : st.length ≤ b0)
    (H : ∀ row s6, RowOk L h i row → Dk st r c s6 → s6[a0]? = some (.lst (L.map Lane.enc)) → s6[b0]? = some (.lst (T.map encRow)) → P (.ref s6.length) (s6 ++ [.lst (row.map fun e => D.tup (nats e))])) :
    Ev (eLc (iR1 (aCons (eVar 1) aNil)) (gN 10) tYesD (eIf (tbB (e2 neO (eVar 10) (eVar 9))) (eCall f_law_entry 3 (aCons (eVar 0) (aCons (eVar 4) (aCons (eVar 9) aNil)))) (eTup aNil)) [10] ρ s5) P := by
  have lr := d5.deck.lt_r
  have lc := d5.deck.lt_c
  refine ev_lcM (List.range h) nat ?_
  subst hρ
  simp only [ev_iR1, ev_aCons, ev_aNil, ev_eVar, List.getElem?_cons_zero, List.getElem?_cons_succ, Option.some.injEq, exists_eq_left']
  refine ⟨h, rfl, by omega, fun s => Dk st r c s ∧ s[a0]? = some (.lst (L.map Lane.enc)) ∧ s[b0]? = some (.lst (T.map encRow)), fun _ => true, fun d y => ∃ e, y = .tup (nats e) ∧ EntOk L i e ∧ (d = i → e = []), ?_, ⟨d5, eL5, eT5⟩, by simp; omega, fun _ _ => trivial, ?_, ?_⟩
  · rw [show ((h : Int)).toNat = h by simp]; exact rng_items h
  · rintro d hd s6 ⟨d6, eL6, eT6⟩
    refine ⟨_, gN_at.mpr ⟨by simp [wipeD], rfl⟩, ?_⟩
    simp only [wipeD, List.set_cons_succ, List.set_cons_zero, ev_yes, ev_eIf, ev_tbB, ev_e2, ev_eVar, List.getElem?_cons_zero, List.getElem?_cons_succ, Option.some.injEq, exists_eq_left', os_neI, D.bl.injEq]
    refine ⟨⟨d6, eL6, eT6⟩, trivial, fun _ => ?_⟩
    split
    · rename_i hne
      simp only [ev_eCall, ev_aCons, ev_aNil, ev_eVar, List.getElem?_cons_zero, List.getElem?_cons_succ, Option.some.injEq, exists_eq_left', List.length_cons, List.length_nil, true_and]
      refine entry_ev d6.deck eL6 (by omega) (by omega) (by omega) fun e s7 he d7 => ?_
      exact ⟨⟨d6.trans d7, d7.at eL6 (by omega) (by omega), d7.at eT6 (by omega) (by omega)⟩, e, rfl, he, fun hdi => by subst hdi; simp at hne⟩
    · simp only [ev_eTup, ev_aNil, List.length_nil, Nat.zero_le, true_and]
      exact ⟨⟨d6, eL6, eT6⟩, [], rfl, ⟨List.Pairwise.nil, fun _ h => by cases h⟩, fun _ => rfl⟩
  · rintro ys s6 ⟨d6, eL6, eT6⟩ hA
    rw [filter_true] at hA
    obtain ⟨row, rfl, okR⟩ := rows_of (L := L) (u := i) (fun d y => Iff.rfl) hA
    exact H row s6 okR d6 eL6 eT6
theorem net_ok {h : Nat} {L : List Lane} {T : List (List (List Nat))} (h1 : 1 ≤ h) (h6 : h ≤ 6) (okL : ∀ l ∈ L, LaneOk h l) (hT : T.length = h) (okT : ∀ (u : Nat) (row : List (List Nat)), T[u]? = some row → RowOk L h u row) (hL : L.length ≤ 16) : Net.Ok ⟨h, L, T⟩ := by
  have get : ∀ u, u < h → ∃ row, T[u]? = some row ∧ RowOk L h u row := fun u hu => by
    have : u < T.length := by omega
    exact ⟨T[u], List.getElem?_eq_getElem this, okT u _ (List.getElem?_eq_getElem this)⟩
  refine ⟨h1, h6, hL, okL, hT, fun row hr => ?_, fun u d hu hd => ?_, fun u hu => ?_⟩
  · obtain ⟨u, hu⟩ := List.mem_iff_getElem?.mp hr
    exact (okT u row hu).1
  · obtain ⟨row, hr, ok⟩ := get u hu
    have hd' : d < row.length := by rw [ok.1]; exact hd
    have hg := List.getElem?_eq_getElem hd'
    have : Net.at ⟨h, L, T⟩ u d = row[d] := by simp [Net.at, List.getD_eq_getElem?_getD, hr, hg]
    rw [this]
    exact ok.2.1 d _ hg
  · obtain ⟨row, hr, ok⟩ := get u hu
    have hd' : u < row.length := by rw [ok.1]; exact hu
    have hg := List.getElem?_eq_getElem hd'
    have : Net.at ⟨h, L, T⟩ u u = row[u] := by simp [Net.at, List.getD_eq_getElem?_getD, hr, hg]
    rw [this]
    exact ok.2.2 _ hg
theorem row_cut {h most : Nat} {L : List Lane} {T : List (List (List Nat))} (okT : ∀ (u : Nat) (row : List (List Nat)), T[u]? = some row → RowOk L h u row) : ∀ (u : Nat) (row : List (List Nat)), (cutT most T)[u]? = some row → RowOk (L.take most) h u row := by
  intro u row hu
  simp only [cutT, List.getElem?_map, Option.map_eq_some_iff] at hu
  obtain ⟨row0, h0, rfl⟩ := hu
  have ok := okT u row0 h0
  refine ⟨by simpa using ok.1, fun d e hd => ?_, fun e hd => ?_⟩
  · simp only [List.getElem?_map, Option.map_eq_some_iff] at hd
    obtain ⟨e0, h1, rfl⟩ := hd
    have := ok.2.1 d e0 h1
    refine ⟨this.1.filter _, fun k hk => ?_⟩
    simp only [cutE, List.mem_filter, decide_eq_true_eq] at hk
    obtain ⟨l, hl, hs⟩ := this.2 k hk.1
    exact ⟨l, by rw [List.getElem?_take_of_lt hk.2]; exact hl, hs⟩
  · simp only [List.getElem?_map, Option.map_eq_some_iff] at hd
    obtain ⟨e0, h1, rfl⟩ := hd
    rw [ok.2.2 e0 h1]; rfl
theorem net_ev {h most least : Nat} (dk : Deck st r c) (h1 : 1 ≤ h) (h6 : h ≤ 6) (hm : most ≤ 16) (hl : least ≤ most)
    (H : ∀ (N : Net) s', N.Ok → N.h = h → N.lanes.length ≤ most → (1 < h → least ≤ N.lanes.length) → Dk st r c s' → P N.enc s') : Ev (f_law_net [.ref r, nat h, nat most, nat least] st) P := by
  have lr := dk.lt_r
  have lc := dk.lt_c
  unfold f_law_net b_law_net
  rw [ev_body, evs_seq, evs_asgN]
  simp only [ev_eLst, ev_aNil, gN_at, startD_4]
  refine ⟨by decide, _, ⟨by simp, rfl⟩, ?_⟩
  simp only [List.replicate, List.set_cons_succ, List.set_cons_zero]
  rw [evs_seq]
  have d1 : Dk st r c (st ++ [.lst []]) := (Dk.refl dk).push _
  have e1 : (st ++ [Cell.lst []])[st.length]? = some (.lst []) := at_push
  have l1 : (st ++ [Cell.lst []]).length = st.length + 1 := by simp
  generalize ha0 : st.length = a0 at *
  generalize st ++ [Cell.lst []] = s1 at *
  refine evs_for ?_
  -- how many turns
  have turns : Ev (aCons (eIf (tbB (e2 gtD (eVar 1) (eC (.int 1)))) (e2 addD (eVar 3) (eCall f_law_draw 2 (aCons (eVar 0) (aCons (e2 addD (e2 subD (eVar 2) (eVar 3)) (eC (.int 1))) aNil)))) (eC (.int 0))) aNil
      [some (.ref r), some (nat h), some (nat most), some (nat least), some (.ref a0), none, none, none, none, none, none] s1) (fun ds s2 => ∃ n : Nat, ds = [nat n] ∧ n ≤ most ∧ (1 < h → least ≤ n) ∧ (0 < n → 1 < h) ∧ Dk s1 r c s2) := by
    simp only [ev_aCons, ev_aNil, ev_eIf, ev_tbB, ev_e2, ev_eVar, ev_eC, List.getElem?_cons_zero, List.getElem?_cons_succ, Option.some.injEq, exists_eq_left', os_gt, D.bl.injEq, decide_eq_true_eq, ev_eCall, os_sub, os_add, List.length_cons, List.length_nil, true_and]
    split
    · rename_i hh
      refine draw_ev' d1.deck (by omega) (by omega) fun k s' hk d' => ?_
      simp only [os_add]
      exact ⟨least + k, by simp [nat], by omega, fun _ => by omega, fun _ => by omega, d'⟩
    · rename_i hh
      exact ⟨0, rfl, by omega, fun q => absurd q (by omega), fun q => absurd q (by omega), Dk.refl d1.deck⟩
  simp only [ev_iR1]
  refine turns.mono fun ds s2 ⟨n, hds, hn, hleast, hpos, d2⟩ => ?_
  have e2 := d2.at e1 (by omega) (by omega)
  have d12 := d1.trans d2
  have l2 := d2.keep.1
  refine ⟨n, hds, by omega, ?_⟩
  rw [show ((n : Int)).toNat = n by simp]
  refine ⟨netI st r c a0 h most least n, ⟨[], _, _, _, rfl, e2, (fun _ h => by cases h), Nat.zero_le _, Nat.zero_le _, Nat.zero_le _, d12⟩, ?_, ?_⟩
  · rintro i d ρ1 s3 hd ⟨L, t5, t6, t7, rfl, eL, okL, li, ui, hin, d3⟩
    have hi : i < n := by
      have := (List.getElem?_eq_some_iff.mp hd).1
      simpa [rngD] using this
    have hh : 1 < h := hpos (by omega)
    refine ⟨trivial, _, gN_at.mpr ⟨by simp, rfl⟩, ?_⟩
    simp only [List.set_cons_succ, List.set_cons_zero, evs_seq, evs_asgN, ev_eCall, ev_aCons, ev_aNil, ev_eVar, List.getElem?_cons_zero, List.getElem?_cons_succ, Option.some.injEq, exists_eq_left', List.length_cons, List.length_nil, true_and, gN_at]
    refine draw_ev' d3.deck (by omega) (by omega) fun k s4 hk d4 => ?_
    refine ⟨_, ⟨by omega, rfl⟩, ?_⟩
    simp only [List.set_cons_succ, List.set_cons_zero, ev_e2, ev_eB, ev_eVar, ev_eC, ev_eCall, ev_aCons, ev_aNil, List.getElem?_cons_zero, List.getElem?_cons_succ, Option.some.injEq, exists_eq_left', os_add, os_sub, List.length_cons, List.length_nil, true_and]
    refine draw_ev' d4.deck (by omega) (by omega) fun j s5 hj d5 => ?_
    obtain ⟨o1, o2⟩ := other_house (k := k) (j := j) (h := h) (by omega) (by omega)
    simp only [os_add, os_int, os_mod]
    refine ⟨by omega, _, ⟨by omega, rfl⟩, ?_⟩
    rw [show ((k : Int) + 1 + j) % h = (((k + 1 + j) % h : Nat) : Int) by simp]
    generalize (k + 1 + j) % h = e at *
    have d35 := (d3.trans d4).trans d5
    have eL5 := (d4.trans d5).at eL (by omega) (by omega)
    simp only [List.set_cons_succ, List.set_cons_zero, evs_expr, ev_eM, ev_eVar, ev_aCons, ev_aNil, ev_eTup, ev_eCall, ev_eLst, ev_eC, List.getElem?_cons_zero, List.getElem?_cons_succ, Option.some.injEq, exists_eq_left', ty_ref, eL5, Cell.lst.injEq, exists_eq', true_and, List.length_cons, List.length_nil]
    refine ⟨by decide, ?_⟩
    rw [show [D.int 1, .int 1, .int 2, .int 3, .int 4] = nats [1, 1, 2, 3, 4] from rfl]
    refine pick_room (N := 0) d35.deck (by simp) (by simp) (by decide) fun m s6 hm1 hm4 d6 => ?_
    have d36 := d35.trans d6
    have eL6 := d6.at eL5 (by omega) (by omega)
    simp only [os_app, eL6, Option.some.injEq, Cell.lst.injEq, exists_eq_left', List.length_map]
    refine ⟨by decide, by rw [sizeLine_val]; omega, ?_⟩
    have ok1 : LaneOk h ⟨k, e, m⟩ := ⟨by show k < h; omega, o1, Ne.symm o2, hm1, hm4⟩
    have eL7 : (s6.set a0 (.lst (L.map Lane.enc ++ [.tup [.int ↑k, .int ↑e, nat m]])))[a0]? = some (.lst ((L ++ [(⟨k, e, m⟩ : Lane)]).map Lane.enc)) := by rw [List.getElem?_set_self (lt_of_at eL6)]; simp [Lane.enc]
    have d7 : Dk st r c (s6.set a0 (.lst (L.map Lane.enc ++ [.tup [.int ↑k, .int ↑e, nat m]]))) := d36.set _ (by omega) (by omega) (by omega)
    generalize s6.set a0 (.lst (L.map Lane.enc ++ [.tup [.int ↑k, .int ↑e, nat m]])) = s7 at *
    have ok' : ∀ l ∈ L ++ [(⟨k, e, m⟩ : Lane)], LaneOk h l := fun l hl => by
      rcases List.mem_append.mp hl with hl | hl
      · exact okL l hl
      · rw [List.mem_singleton] at hl; rw [hl]; exact ok1
    have len' : (L ++ [(⟨k, e, m⟩ : Lane)]).length = L.length + 1 := by simp
    generalize L ++ [(⟨k, e, m⟩ : Lane)] = L' at *
    rw [evs_if, ev_and2]
    have skip : ∀ s8, Dk s7 r c s8 → EvS (sPass [some (.ref r), some (nat h), some (nat most), some (nat least), some (.ref a0), some d, some (.int ↑k), some (.int ↑e), none, none, none] s8) (netI st r c a0 h most least n (i + 1)) P no2 no2 := by
      intro s8 d8
      exact ⟨L', _, _, _, rfl, d8.at eL7 (by omega) (by omega), ok', by omega, by omega, by omega, d7.trans d8⟩
    simp only [ev_tbB, ev_e2, ev_eB, ev_aCons, ev_aNil, ev_eVar, ev_eC, List.getElem?_cons_zero, List.getElem?_cons_succ, Option.some.injEq, exists_eq_left', os_lenL, eL7, Cell.lst.injEq, os_lt, D.bl.injEq, List.length_map, decide_eq_true_eq]
    split
    · simp only [List.length_cons, List.length_nil, ev_eCall, ev_aCons, ev_aNil, ev_eVar, ev_eC, List.getElem?_cons_zero, Option.some.injEq, exists_eq_left', true_and]
      refine draw_ev' d7.deck (by decide) (by decide) fun k2 s8 hk2 d8 => ?_
      simp only [os_eqI, D.bl.injEq, exists_eq_left']
      split
      · have eL8 := d8.at eL7 (by omega) (by omega)
        simp only [evs_expr, ev_eM, ev_eVar, ev_aCons, ev_aNil, ev_eTup, ev_eCall, ev_eLst, ev_eC, List.getElem?_cons_zero, List.getElem?_cons_succ, Option.some.injEq, exists_eq_left', ty_ref, eL8, Cell.lst.injEq, exists_eq', true_and, List.length_cons, List.length_nil]
        refine ⟨by decide, ?_⟩
        rw [show [D.int 1, .int 2, .int 4] = nats [1, 2, 4] from rfl]
        refine pick_room (N := 0) d8.deck (by simp) (by simp) (by decide) fun m2 s9 hm21 hm24 d9 => ?_
        have eL9 := d9.at eL8 (by omega) (by omega)
        simp only [os_app, eL9, Option.some.injEq, Cell.lst.injEq, exists_eq_left', List.length_map]
        refine ⟨by decide, by rw [sizeLine_val]; omega, ?_⟩
        have ok2 : LaneOk h ⟨e, k, m2⟩ := ⟨o1, by show k < h; omega, o2, hm21, hm24⟩
        refine ⟨L' ++ [(⟨e, k, m2⟩ : Lane)], _, _, _, rfl, ?_, ?_, ?_, ?_, ?_, ((d7.trans d8).trans d9).set _ (by omega) (by omega) (by omega)⟩
        · rw [List.getElem?_set_self (lt_of_at eL9)]; simp [Lane.enc]
        · intro l hl
          rcases List.mem_append.mp hl with hl | hl
          · exact ok' l hl
          · rw [List.mem_singleton] at hl; rw [hl]; exact ok2
        · simp; omega
        · simp; omega
        · omega
      · exact skip s8 d8
    · exact skip s7 (Dk.refl d7.deck)
  · rintro ρ1 s3 ⟨L, t5, t6, t7, rfl, eL, okL, li, ui, hin, d3⟩
    have hln : (rngD 0 n).items.length = n := by simp [rngD]
    rw [hln] at li ui hin
    refine ⟨trivial, ?_⟩
    rw [evs_seq, evs_asgN]
    simp only [ev_eLst, ev_aNil, gN_at]
    refine ⟨by decide, _, ⟨by simp, rfl⟩, ?_⟩
    simp only [List.set_cons_succ, List.set_cons_zero]
    rw [evs_seq]
    have hlt : a0 < s3.length := lt_of_at eL
    have d4 : Dk st r c (s3 ++ [.lst []]) := d3.push _
    have eL4 : (s3 ++ [Cell.lst []])[a0]? = some (.lst (L.map Lane.enc)) := by rw [List.getElem?_append_left hlt]; exact eL
    have eT4 : (s3 ++ [Cell.lst []])[s3.length]? = some (.lst []) := at_push
    generalize hb0 : s3.length = b0 at *
    generalize s3 ++ [Cell.lst []] = s4 at *
    have hL : L.length ≤ 32 := by omega
    refine evs_for ?_
    simp only [ev_iR1, ev_aCons, ev_aNil, ev_eVar, List.getElem?_cons_zero, List.getElem?_cons_succ, Option.some.injEq, exists_eq_left']
    refine ⟨h, rfl, by omega, ?_⟩
    rw [show ((h : Int)).toNat = h by simp]
    refine ⟨rowI st r c a0 b0 h most least L t5 t6 t7, ⟨[], none, rfl, eL4, eT4, rfl, (fun u row h => by simp at h), Nat.zero_le _, d4⟩, ?_, ?_⟩
    · rintro i d ρ1 s5 hd ⟨T, t9, rfl, eL5, eT5, hT, okT, hih, d5⟩
      have hi : i < h := by
        have := (List.getElem?_eq_some_iff.mp hd).1
        simpa [rngD] using this
      have ed : d = nat i := by
        rw [rng_items, List.getElem?_map, List.getElem?_range hi] at hd
        simpa using hd.symm
      subst ed
      refine ⟨trivial, _, gN_at.mpr ⟨by simp, rfl⟩, ?_⟩
      simp only [List.set_cons_succ, List.set_cons_zero, evs_expr, ev_eM, ev_eVar, ev_aCons, ev_aNil, ev_eB, List.getElem?_cons_zero, List.getElem?_cons_succ, Option.some.injEq, exists_eq_left', ty_ref, eT5, Cell.lst.injEq, exists_eq', true_and]
      generalize hρ : [some (D.ref r), some (nat h), some (nat most), some (nat least), some (D.ref a0), t5, t6, t7, some (D.ref b0), some (nat i), none] = ρ0
      refine row_ev' hρ d5 eL5 eT5 h6 hi hL (by omega) (by omega) (by omega) (by omega) (by omega) (by omega) fun row s6 okR d6 eL6 eT6 => ?_
      simp only [os_tupL, at_push, Option.some.injEq, Cell.lst.injEq, exists_eq_left']
      have d7 := d6.push (.lst (row.map fun e => .tup (nats e)))
      have eL7 : (s6 ++ [Cell.lst (row.map fun e => D.tup (nats e))])[a0]? = some (.lst (L.map Lane.enc)) := by rw [List.getElem?_append_left (lt_of_at eL6)]; exact eL6
      have eT7 : (s6 ++ [Cell.lst (row.map fun e => D.tup (nats e))])[b0]? = some (.lst (T.map encRow)) := by rw [List.getElem?_append_left (lt_of_at eT6)]; exact eT6
      generalize s6 ++ [Cell.lst (row.map fun e => D.tup (nats e))] = s7 at *
      simp only [os_app, eT7, Option.some.injEq, Cell.lst.injEq, exists_eq_left', List.length_map]
      refine ⟨by rw [sizeLine_val]; omega, T ++ [row], _, hρ.symm, ?_, ?_, by simp [hT], ?_, by omega, d7.set _ (by omega) (by omega) (by omega)⟩
      · rw [List.getElem?_set_ne (by omega)]; exact eL7
      · rw [List.getElem?_set_self (lt_of_at eT7)]; simp [encRow]
      · intro u row' hu
        by_cases hlu : u < T.length
        · rw [List.getElem?_append_left hlu] at hu; exact okT u row' hu
        · have hu2 := (List.getElem?_eq_some_iff.mp hu).1
          simp at hu2
          have : u = T.length := by omega
          subst this
          rw [List.getElem?_append_right (Nat.le_refl _)] at hu
          simp at hu
          rw [← hu, hT]; exact okR
    · rintro ρ1 s5 ⟨T, t9, rfl, eL5, eT5, hT, okT, hih, d5⟩
      have hln2 : n ≤ n := Nat.le_refl _
      have hT2 : T.length = h := by rw [hT]; show (rngD 0 h).items.length = h; unfold rngD; rw [List.length_map, List.length_range]
      have hL2 : L.length ≤ 32 := hL
      have row_ok : ∀ row ∈ T, ∃ u, RowOk L h u row := fun row hr => by
        obtain ⟨u, hu⟩ := List.mem_iff_getElem?.mp hr
        exact ⟨u, okT u row hu⟩
      have hd6 := d5.push (.lst (cutD (L.map Lane.enc) none (some (most : Int))))
      simp only [evs_ret, ev_eTup, ev_aCons, ev_aNil, ev_eVar, ev_eB, ev_eSl, ev_oNone, ev_oSome, List.getElem?_cons_zero, List.getElem?_cons_succ, Option.some.injEq, exists_eq_left', D.int.injEq, os_slL, os_tupL, eL5, Cell.lst.injEq, at_push]
      refine ⟨trivial, ?_⟩
      rw [cut_take]
      have eL6 : (s5 ++ [Cell.lst ((L.map Lane.enc).take most)])[a0]? = some (.lst (L.map Lane.enc)) := by rw [List.getElem?_append_left (lt_of_at eL5)]; exact eL5
      have eT6 : (s5 ++ [Cell.lst ((L.map Lane.enc).take most)])[b0]? = some (.lst (T.map encRow)) := by rw [List.getElem?_append_left (lt_of_at eT5)]; exact eT5
      have d6 := d5.push (.lst ((L.map Lane.enc).take most))
      generalize s5 ++ [Cell.lst ((L.map Lane.enc).take most)] = s6 at *
      simp only [ev_eIf, ev_tbB, ev_e2, ev_eB, ev_aCons, ev_aNil, ev_eVar, List.getElem?_cons_zero, List.getElem?_cons_succ, Option.some.injEq, exists_eq_left', os_lenL, eL6, Cell.lst.injEq, os_le, D.bl.injEq, decide_eq_true_eq, List.length_map]
      split
      · rename_i hle
        have hle' : L.length ≤ most := by omega
        simp only [os_tupL, eT6, Option.some.injEq, Cell.lst.injEq, exists_eq_left']
        refine ⟨by rw [sizeLine_val]; simp, ?_⟩
        rw [List.take_of_length_le (by simpa using hle')]
        exact H ⟨h, L, T⟩ s6 (net_ok h1 h6 okL hT2 okT (by omega)) rfl hle' (fun q => by have := hleast q; show least ≤ L.length; omega) d6
      · rename_i hle
        simp only [ev_eCall, ev_aCons, ev_aNil, ev_eVar, List.getElem?_cons_zero, List.getElem?_cons_succ, Option.some.injEq, exists_eq_left', List.length_cons, List.length_nil, true_and]
        refine cut_ev eT6 (by omega) (fun row hr => ?_) (fun row hr e he => ?_) fun s7 k7 => ?_
        · obtain ⟨u, hu⟩ := row_ok row hr
          have := hu.1; omega
        · obtain ⟨u, hu⟩ := row_ok row hr
          obtain ⟨d, hd⟩ := List.mem_iff_getElem?.mp he
          have := ent_len (hu.2.1 d e hd); omega
        · refine ⟨by rw [sizeLine_val]; simp, ?_⟩
          have okc := net_ok (L := L.take most) (T := cutT most T) h1 h6 (fun l hl => okL l (List.mem_of_mem_take hl)) (by simpa [cutT] using hT2) (row_cut okT) (by rw [List.length_take]; omega)
          have := H ⟨h, L.take most, cutT most T⟩ s7 okc rfl (by show (L.take most).length ≤ most; rw [List.length_take]; omega) (fun q => by have := hleast q; show least ≤ (L.take most).length; rw [List.length_take]; omega) (⟨d6.deck.keep k7 (fr := any) trivial trivial, d6.keep.trans (k7.mono fun _ _ _ => trivial)⟩)
          simpa [Net.enc, List.map_take] using this
end
end Rm

namespace Rm
open PySem L2
section
variable {P : D → Sto → Prop} {ρ : Env} {st s s' : Sto} {r c : Nat}
/-- the same, under a name that is not looked through -/
@[irreducible] def Evi {α : Type} (r : R α) (P : α → Sto → Prop) : Prop := Ev r P
theorem evi {α : Type} {r : R α} {P : α → Sto → Prop} : Ev r P = Evi r P := by unfold Evi; rfl
theorem evi_lcF {β : Type} {fi : FI} {g} {tt : FT} {te : F} {vs : List Nat} (xs : List β) (enc : β → D) (f : β → D) (keep : β → Bool) (R : Sto → Prop) (h : Ev (fi ρ st) (fun it s => it.items = xs.map enc ∧ R s ∧ xs.length ≤ 1000000 ∧ (∀ s1, R s1 → it.chk s1) ∧
    (∀ x ∈ xs, ∀ s1, R s1 → ∃ ρ2, g (enc x) (wipeD ρ vs) = some ρ2 ∧ Ev (tt ρ2 s1) (fun k s2 => R s2 ∧ k = keep x ∧ (k = true → Ev (te ρ2 s2) (fun y s3 => R s3 ∧ y = f x)))) ∧
    ∀ s1, R s1 → P (.ref s1.length) (s1 ++ [.lst ((xs.filter keep).map f)]))) : Evi (eLc fi g tt te vs ρ st) P := evi ▸ ev_lcF xs enc f keep R h
theorem evi_lcM {β : Type} {fi : FI} {g} {tt : FT} {te : F} {vs : List Nat} (xs : List β) (enc : β → D) (h : Ev (fi ρ st) (fun it s => ∃ (R : Sto → Prop) (keep : β → Bool) (Y : β → D → Prop), it.items = xs.map enc ∧ R s ∧ xs.length ≤ 1000000 ∧ (∀ s1, R s1 → it.chk s1) ∧
    (∀ x ∈ xs, ∀ s1, R s1 → ∃ ρ2, g (enc x) (wipeD ρ vs) = some ρ2 ∧ Ev (tt ρ2 s1) (fun k s2 => R s2 ∧ k = keep x ∧ (k = true → Ev (te ρ2 s2) (fun y s3 => R s3 ∧ Y x y)))) ∧
    ∀ ys s1, R s1 → All2 Y (xs.filter keep) ys → P (.ref s1.length) (s1 ++ [.lst ys]))) : Evi (eLc fi g tt te vs ρ st) P := evi ▸ ev_lcM xs enc h
/-- texts: what can be shown, how deep, how long -/
structure Sh (n k : Nat) (p : PyData) : Prop where
  dict : p.hasDict = false
  shows : p.showable = true
  deep : p.depth ≤ k
  len : p.shown.length ≤ n
theorem Sh.mono {n k n' k' : Nat} {p : PyData} (h : Sh n k p) (hn : n ≤ n') (hk : k ≤ k') : Sh n' k' p := ⟨h.dict, h.shows, Nat.le_trans h.deep hk, Nat.le_trans h.len hn⟩
theorem shw_int {i : Int} (h1 : -999999999999 ≤ i) (h2 : i ≤ 999999999999) : Sh 13 0 (.int i) := by
  refine ⟨rfl, ?_, Nat.le_refl _, PyData.shown_int_le2 h1 h2⟩
  simp only [PyData.showable, decide_eq_true_eq]
  rcases Nat.eq_zero_or_pos i.natAbs with h | h
  · rw [h]; decide
  · exact (Nat.log2_lt (by omega)).mpr (Nat.lt_of_le_of_lt (show i.natAbs ≤ 999999999999 by omega) (Nat.lt_of_lt_of_le (show 999999999999 < 2 ^ 40 by decide) (Nat.pow_le_pow_right (by decide) (by decide))))
theorem sh_bool (b : Bool) : Sh 13 0 (.bool b) := ⟨rfl, rfl, Nat.le_refl _, by cases b <;> decide⟩
theorem sh_non : Sh 13 0 .none := ⟨rfl, rfl, Nat.le_refl _, by decide⟩
theorem join_le {n : Nat} : ∀ ts : List Str, (∀ t ∈ ts, t.length ≤ n) → (Str.join ", " ts).length ≤ ts.length * (n + 2)
  | [], _ => by show 0 ≤ _; omega
  | t :: ts, h => by
    have e := join_length_add (t :: ts) (by simp)
    have aux : ∀ us : List Str, (∀ t ∈ us, t.length ≤ n) → piled us ≤ us.length * (n + 2) := by
      intro us
      induction us with
      | nil => intro _; simp [piled_nil]
      | cons u us ih =>
        intro h
        rw [piled_cons, List.length_cons, Nat.succ_mul]
        have := ih fun t ht => h t (List.mem_cons_of_mem _ ht)
        have := h u List.mem_cons_self
        omega
    have := aux (t :: ts) h
    omega
theorem shs {n k : Nat} : ∀ {ps : List PyData}, (∀ p ∈ ps, Sh n k p) → PyData.hasDictAll ps = false ∧ PyData.showableAll ps = true ∧ PyData.depthAll ps ≤ k ∧ ∀ t ∈ PyData.shownAll ps, t.length ≤ n
  | [], _ => ⟨rfl, rfl, Nat.zero_le _, fun _ h => by simp [PyData.shownAll] at h⟩
  | p :: ps, h => by
    obtain ⟨a, b, c, d⟩ := shs fun q hq => h q (List.mem_cons_of_mem _ hq)
    have hp := h p List.mem_cons_self
    refine ⟨by simp only [PyData.hasDictAll, hp.dict, a, Bool.or_self], by simp only [PyData.showableAll, hp.shows, b, Bool.and_self], ?_, ?_⟩
    · simp only [PyData.depthAll]; exact Nat.max_le.mpr ⟨hp.deep, c⟩
    · intro t ht
      simp only [PyData.shownAll, List.mem_cons] at ht
      rcases ht with rfl | ht
      · exact hp.len
      · exact d t ht
theorem sh_tup {n k m N : Nat} {ps : List PyData} (h : ∀ p ∈ ps, Sh n k p) (hm : ps.length ≤ m) (hN : m * (n + 2) + 3 ≤ N) : Sh N (k + 1) (.tuple ps) := by
  obtain ⟨a, b, c, d⟩ := shs h
  refine ⟨by simpa only [PyData.hasDict] using a, by simpa only [PyData.showable] using b, by simp only [PyData.depth]; omega, ?_⟩
  have l := join_le _ d
  rw [PyData.shownAll_length] at l
  rw [PyData.shown_tuple]
  have l2 : ps.length * (n + 2) ≤ m * (n + 2) := Nat.mul_le_mul_right _ hm
  rw [Str.length_append, Str.length_append]
  have e1 : (("(" : Str)).length = 1 := by decide
  have e2 : (((if ps.length == 1 then ",)" else ")" : String) : Str)).length ≤ 2 := by split <;> decide
  omega
theorem sh_lst {n k m N : Nat} {ps : List PyData} (h : ∀ p ∈ ps, Sh n k p) (hm : ps.length ≤ m) (hN : m * (n + 2) + 3 ≤ N) : Sh N (k + 1) (.list ps) := by
  obtain ⟨a, b, c, d⟩ := shs h
  refine ⟨by simpa only [PyData.hasDict] using a, by simpa only [PyData.showable] using b, by simp only [PyData.depth]; omega, ?_⟩
  have l := join_le _ d
  rw [PyData.shownAll_length] at l
  rw [PyData.shown_list]
  have l2 : ps.length * (n + 2) ≤ m * (n + 2) := Nat.mul_le_mul_right _ hm
  rw [Str.length_append, Str.length_append]
  have e1 : (("[" : Str)).length = 1 := by decide
  have e2 : (("]" : Str)).length = 1 := by decide
  omega
/-- the text of a value that is known -/
theorem os_repr {d : D} {p : PyData} {n k : Nat} (h : Py s 60 d p) (hs : Sh n k p) (hn : n ≤ 16777216 := by decide) (hk : k ≤ 60 := by decide) : OSat (reprO [d] s) P ↔ P (.str p.shown) s := by
  have ok : shownOk p := ⟨hs.dict, hs.shows, Nat.le_trans hs.deep hk, by rw [sizeLine_val]; exact Nat.le_trans hs.len hn⟩
  simp only [reprO]
  rw [h.at (Nat.le_refl _)]
  simp only [Option.bind_some, if_pos ok]
  exact Iff.rfl
-- nets as data
def pyE (e : List Nat) : PyData := .tuple (e.map fun k : Nat => .int (k : Int))
def pyLane (l : Lane) : PyData := .tuple [.int (l.s : Int), .int (l.e : Int), .int (l.m : Int)]
def pyRow (row : List (List Nat)) : PyData := .tuple (row.map pyE)
def pyNet (N : Net) : PyData := .tuple [.int (N.h : Int), .tuple (N.lanes.map pyLane), .tuple (N.tab.map pyRow)]
theorem py_ent (e : List Nat) : Py s 2 (.tup (nats e)) (pyE e) := py_tup (pys_map e fun (k : Nat) _ => py_int (k : Int))
theorem py_lane (l : Lane) : Py s 2 l.enc (pyLane l) := py_tup (pys_cons (py_int _) (pys_cons (py_int _) (pys_cons (py_int _) pys_nil)))
theorem py_row (row : List (List Nat)) : Py s 3 (encRow row) (pyRow row) := py_tup (pys_map row fun e _ => py_ent e)
theorem py_net (N : Net) : Py s 5 N.enc (pyNet N) := py_tup (pys_cons ((py_int _).mono (by decide)) (pys_cons ((py_tup (pys_map N.lanes fun l _ => py_lane l)).mono (by decide)) (pys_cons (py_tup (pys_map N.tab fun r _ => py_row r)) pys_nil)))
theorem sh_nat {k : Nat} (h : k ≤ 999999999999) : Sh 13 0 (.int (k : Int)) := shw_int (by omega) (by omega)
theorem sh_nats {e : List Nat} {m N : Nat} (h : ∀ k ∈ e, k ≤ 999999999999) (hm : e.length ≤ m) (hN : m * 15 + 3 ≤ N) : Sh N 1 (pyE e) := by
  refine sh_tup (n := 13) (m := m) (fun p hp => ?_) (by simpa using hm) hN
  obtain ⟨k, hk, rfl⟩ := List.mem_map.mp hp
  exact sh_nat (h k hk)
theorem Net.Ok.row {N : Net} (ok : N.Ok) {u : Nat} (hu : u < N.h) : ∃ row, N.tab[u]? = some row ∧ row.length = N.h := by
  have h : u < N.tab.length := by rw [ok.rows]; exact hu
  exact ⟨N.tab[u], List.getElem?_eq_getElem h, ok.cols _ (List.getElem_mem h)⟩
theorem Net.Ok.getE {N : Net} (ok : N.Ok) {u d : Nat} (hu : u < N.h) (hd : d < N.h) : ∃ row, N.tab[u]? = some row ∧ row[d]? = some (N.at u d) := by
  obtain ⟨row, h1, h2⟩ := ok.row hu
  have hd' : d < row.length := by rw [h2]; exact hd
  refine ⟨row, h1, ?_⟩
  unfold Net.at
  rw [List.getD_eq_getElem?_getD, List.getD_eq_getElem?_getD, h1]
  simp [List.getElem?_eq_getElem hd']
theorem Net.Ok.mem {N : Net} (ok : N.Ok) {row : List (List Nat)} {e : List Nat} (hr : row ∈ N.tab) (he : e ∈ row) : ∃ u d, u < N.h ∧ d < N.h ∧ e = N.at u d := by
  obtain ⟨u, hu⟩ := List.mem_iff_getElem?.mp hr
  obtain ⟨d, hd⟩ := List.mem_iff_getElem?.mp he
  have h1 : u < N.h := by rw [← ok.rows]; exact (List.getElem?_eq_some_iff.mp hu).1
  have h2 : d < N.h := by rw [← ok.cols row hr]; exact (List.getElem?_eq_some_iff.mp hd).1
  refine ⟨u, d, h1, h2, ?_⟩
  unfold Net.at
  rw [List.getD_eq_getElem?_getD, List.getD_eq_getElem?_getD, hu]
  simp [hd]
theorem EntOk.lt {L : List Lane} {u : Nat} {e : List Nat} (h : EntOk L u e) {k : Nat} (hk : k ∈ e) : k < L.length := by
  obtain ⟨l, hl, _⟩ := h.2 k hk
  exact (List.getElem?_eq_some_iff.mp hl).1
theorem EntOk.sh {N : Net} (ok : N.Ok) {u d : Nat} (hu : u < N.h) (hd : d < N.h) : Sh 300 1 (pyE (N.at u d)) := by
  have e := ok.ent u d hu hd
  have := ok.few
  exact sh_nats (m := 16) (fun k hk => by have := e.lt hk; omega) (Nat.le_trans (ent_len e) ok.few) (by decide)
theorem Net.Ok.sh {N : Net} (ok : N.Ok) : Sh 40000 4 (pyNet N) := by
  have h6 := ok.h6
  refine sh_tup (n := 12000) (k := 3) (m := 3) (fun p hp => ?_) (by simp) (by decide)
  simp only [List.mem_cons, List.not_mem_nil, or_false] at hp
  rcases hp with rfl | rfl | rfl
  · exact (sh_nat (by omega)).mono (by decide) (by decide)
  · refine (sh_tup (n := 100) (m := 16) (N := 12000) (k := 1) (fun p hp => ?_) (by simpa using ok.few) (by decide)).mono (by decide) (by decide)
    obtain ⟨l, hl, rfl⟩ := List.mem_map.mp hp
    have := ok.lane l hl
    refine sh_tup (n := 13) (m := 3) (fun p hp => ?_) (by simp) (by decide)
    simp only [List.mem_cons, List.not_mem_nil, or_false] at hp
    rcases hp with rfl | rfl | rfl <;> exact sh_nat (by omega)
  · refine sh_tup (n := 1900) (k := 2) (m := 6) (fun p hp => ?_) (by simp [ok.rows]; omega) (by decide)
    obtain ⟨row, hr, rfl⟩ := List.mem_map.mp hp
    refine sh_tup (n := 300) (m := 6) (fun p hp => ?_) (by simp [ok.cols row hr]; omega) (by decide)
    obtain ⟨e, he, rfl⟩ := List.mem_map.mp hp
    obtain ⟨u, d, hu, hd, rfl⟩ := ok.mem hr he
    exact EntOk.sh ok hu hd
-- reading nets
theorem atI_map {α β : Type} {f : α → β} {xs : List α} {k : Nat} {x : α} (h : xs[k]? = some x) : atI (xs.map f) (k : Int) = some (f x) := atI_nat (by rw [List.getElem?_map, h]; rfl)
end
end Rm

namespace Rm
open PySem L2
section
variable {P : D → Sto → Prop} {ρ : Env} {st s s' : Sto} {r c : Nat}
/-- data without dicts, of a depth -/
def Sha (k : Nat) (p : PyData) : Prop := p.canLay0 = true ∧ p.depth ≤ k
theorem Sha.mono {k k' : Nat} {p : PyData} (h : Sha k p) (hk : k ≤ k') : Sha k' p := ⟨h.1, Nat.le_trans h.2 hk⟩
theorem Sha.ok {k : Nat} {p : PyData} (h : Sha k p) (hk : k ≤ 64 := by decide) : SeqAt.shaped p = true := by
  simp only [SeqAt.shaped, h.1, Bool.true_and, decide_eq_true_eq]
  exact Nat.le_trans h.2 hk
theorem sha_int (i : Int) : Sha 0 (.int i) := ⟨rfl, Nat.le_refl _⟩
theorem sha_bl (b : Bool) : Sha 0 (.bool b) := ⟨rfl, Nat.le_refl _⟩
theorem sha_non : Sha 0 .none := ⟨rfl, Nat.le_refl _⟩
theorem shas {k : Nat} : ∀ {ps : List PyData}, (∀ p ∈ ps, Sha k p) → PyData.canLayAll0 ps = true ∧ PyData.depthAll ps ≤ k
  | [], _ => ⟨rfl, Nat.zero_le _⟩
  | p :: ps, h => by
    obtain ⟨a, b⟩ := shas fun q hq => h q (List.mem_cons_of_mem _ hq)
    have hp := h p List.mem_cons_self
    exact ⟨by simp only [PyData.canLayAll0, hp.1, a, Bool.and_self], by simp only [PyData.depthAll]; exact Nat.max_le.mpr ⟨hp.2, b⟩⟩
theorem sha_tup {k : Nat} {ps : List PyData} (h : ∀ p ∈ ps, Sha k p) : Sha (k + 1) (.tuple ps) :=
  ⟨by simpa only [PyData.canLay0] using (shas h).1, by simp only [PyData.depth]; have := (shas h).2; omega⟩
theorem sha_lst {k : Nat} {ps : List PyData} (h : ∀ p ∈ ps, Sha k p) : Sha (k + 1) (.list ps) :=
  ⟨by simpa only [PyData.canLay0] using (shas h).1, by simp only [PyData.depth]; have := (shas h).2; omega⟩
theorem sha_ent (e : List Nat) : Sha 1 (pyE e) := sha_tup fun p hp => by obtain ⟨k, _, rfl⟩ := List.mem_map.mp hp; exact sha_int _
theorem sha_lane (l : Lane) : Sha 1 (pyLane l) := sha_tup fun p hp => by
  simp only [List.mem_cons, List.not_mem_nil, or_false] at hp
  rcases hp with rfl | rfl | rfl <;> exact sha_int _
theorem sha_row (row : List (List Nat)) : Sha 2 (pyRow row) := sha_tup fun p hp => by obtain ⟨k, _, rfl⟩ := List.mem_map.mp hp; exact sha_ent _
theorem sha_net (N : Net) : Sha 4 (pyNet N) := sha_tup fun p hp => by
  simp only [List.mem_cons, List.not_mem_nil, or_false] at hp
  rcases hp with rfl | rfl | rfl
  · exact (sha_int _).mono (by decide)
  · exact (sha_tup (k := 1) fun p hp => by obtain ⟨k, _, rfl⟩ := List.mem_map.mp hp; exact sha_lane _).mono (by decide)
  · exact sha_tup fun p hp => by obtain ⟨k, _, rfl⟩ := List.mem_map.mp hp; exact sha_row _
theorem in_tup {x y : D} {p : PyData} {qs : List PyData} {k j : Nat} (hx : Py s 50 x p) (hy : Py s 50 y (.tuple qs)) (sp : Sha k p) (sq : Sha j (.tuple qs)) (hk : k ≤ 64 := by decide) (hj : j ≤ 64 := by decide) (hns : ∀ a b, ¬ (x = .str a ∧ y = .str b) := by simp) : inD x y s = some (qs.any fun z => PyData.eqv z p) := by
  have e1 := hx.at
  have e2 := hy.at
  unfold inD
  split
  · rename_i a b; exact absurd ⟨rfl, rfl⟩ (hns a b)
  · rw [e1, e2]; simp [sp.ok hk, sq.ok hj]
theorem in_lst {x y : D} {p : PyData} {qs : List PyData} {k j : Nat} (hx : Py s 50 x p) (hy : Py s 50 y (.list qs)) (sp : Sha k p) (sq : Sha j (.list qs)) (hk : k ≤ 64 := by decide) (hj : j ≤ 64 := by decide) (hns : ∀ a b, ¬ (x = .str a ∧ y = .str b) := by simp) : inD x y s = some (qs.any fun z => PyData.eqv z p) := by
  have e1 := hx.at
  have e2 := hy.at
  unfold inD
  split
  · rename_i a b; exact absurd ⟨rfl, rfl⟩ (hns a b)
  · rw [e1, e2]; simp [sp.ok hk, sq.ok hj]
theorem any_nat (e : List Nat) (k : Nat) : ((e.map fun k : Nat => PyData.int (k : Int)).any fun z => PyData.eqv z (.int (k : Int))) = decide (k ∈ e) := by
  induction e with
  | nil => rfl
  | cons x e ih =>
    rw [List.map_cons, List.any_cons, ih]
    simp only [PyData.eqv, List.mem_cons]
    by_cases h : k = x
    · subst h; simp
    · have : ¬ x = k := fun q => h q.symm
      have h2 : ((x : Int) == (k : Int)) = false := by simp; omega
      simp [h, h2]
@[simp] theorem os_inN {k : Nat} {e : List Nat} : OSat (inO (nat k) (.tup (nats e)) s) P ↔ P (.bl (decide (k ∈ e))) s := by
  unfold inO
  rw [in_tup ((py_int (k : Int)).mono (by decide)) ((py_ent e).mono (by decide)) (sha_int _) (sha_ent e), any_nat]
  exact Iff.rfl
theorem py_natL {n : Nat} {e : List Nat} (h : s[n]? = some (.lst (nats e))) : Py s 2 (.ref n) (.list (e.map fun k : Nat => .int (k : Int))) := py_lst h (pys_map e fun (k : Nat) _ => py_int (k : Int))
theorem sha_natL (e : List Nat) : Sha 1 (.list (e.map fun k : Nat => .int (k : Int))) := sha_lst fun p hp => by obtain ⟨k, _, rfl⟩ := List.mem_map.mp hp; exact sha_int _
theorem os_inNL {k n : Nat} {e : List Nat} (h : s[n]? = some (.lst (nats e))) : OSat (inO (nat k) (.ref n) s) P ↔ P (.bl (decide (k ∈ e))) s := by
  unfold inO
  rw [in_lst ((py_int (k : Int)).mono (by decide)) ((py_natL h).mono (by decide)) (sha_int _) (sha_natL e), any_nat]
  exact Iff.rfl
-- targets
@[simp] theorem gT_tup {n : Nat} {g : List D → Env → Option Env} {ds : List D} {ρ2 : Env} : gT n g (.tup ds) ρ = some ρ2 ↔ ds.length = n ∧ g ds ρ = some ρ2 := by simp [gT]
@[simp] theorem gsC_cons {g : D → Env → Option Env} {h : List D → Env → Option Env} {d : D} {ds : List D} {ρ2 : Env} : gsC g h (d :: ds) ρ = some ρ2 ↔ ∃ ρ1, g d ρ = some ρ1 ∧ h ds ρ1 = some ρ2 := by simp [gsC, Option.bind_eq_some_iff]
@[simp] theorem gsN_nil {ρ2 : Env} : gsN [] ρ = some ρ2 ↔ ρ = ρ2 := by simp [gsN]
-- calls by name
@[simp] theorem ev_eCallK {φ : List D → Sto → R D} {n nu : Nat} {π : List Nat} {g gk : FA} : Ev (eCallK φ n nu π g gk ρ st) P ↔ Ev (g ρ st) (fun ds s => Ev (gk ρ s) (fun ws s2 => (ds.length = nu ∧ ws.length = π.length ∧ (ds ++ permL π ws).length = n) ∧ Ev (φ (ds ++ permL π ws) s2) P)) := by
  unfold eCallK
  rw [ev_bd]
  constructor <;> intro h <;> refine h.mono fun ds s h => ?_
  · rw [ev_bd] at h
    refine h.mono fun ws s2 h => ?_
    split at h
    · exact ⟨by assumption, h⟩
    · exact h.elim
  · rw [ev_bd]
    refine h.mono fun ws s2 h => ?_
    rw [if_pos h.1]; exact h.2
-- looking up in nets
theorem at0 {a : D} {ds : List D} : atI (a :: ds) 0 = some a := atI_nat (j := 0) rfl
theorem at1 {a b : D} {ds : List D} : atI (a :: b :: ds) 1 = some b := atI_nat (j := 1) rfl
theorem at2 {a b c : D} {ds : List D} : atI (a :: b :: c :: ds) 2 = some c := atI_nat (j := 2) rfl
@[simp] theorem ix_net0 {N : Net} : OSat (ixD N.enc (.int 0) s) P ↔ P (nat N.h) s := by simp only [Net.enc, os_ixT, at0, Option.some.injEq, exists_eq_left']
@[simp] theorem ix_net1 {N : Net} : OSat (ixD N.enc (.int 1) s) P ↔ P (.tup (N.lanes.map Lane.enc)) s := by simp only [Net.enc, os_ixT, at1, Option.some.injEq, exists_eq_left']
@[simp] theorem ix_net2 {N : Net} : OSat (ixD N.enc (.int 2) s) P ↔ P (.tup (N.tab.map encRow)) s := by simp only [Net.enc, os_ixT, at2, Option.some.injEq, exists_eq_left']
theorem ix_lane {N : Net} {k : Nat} {l : Lane} (hl : N.lanes[k]? = some l) : OSat (ixD (.tup (N.lanes.map Lane.enc)) (nat k) s) P ↔ P l.enc s := by simp only [os_ixT, show atI (N.lanes.map Lane.enc) (k : Int) = some l.enc from atI_map hl, Option.some.injEq, exists_eq_left']
theorem ix_row {N : Net} {u : Nat} {row : List (List Nat)} (h : N.tab[u]? = some row) : OSat (ixD (.tup (N.tab.map encRow)) (nat u) s) P ↔ P (encRow row) s := by simp only [os_ixT, show atI (N.tab.map encRow) (u : Int) = some (encRow row) from atI_map h, Option.some.injEq, exists_eq_left']
theorem ix_ent {row : List (List Nat)} {d : Nat} {e : List Nat} (h : row[d]? = some e) : OSat (ixD (encRow row) (nat d) s) P ↔ P (.tup (nats e)) s := by simp only [encRow, os_ixT, show atI (row.map fun e => D.tup (nats e)) (d : Int) = some (.tup (nats e)) from atI_map h, Option.some.injEq, exists_eq_left']
@[simp] theorem ix_lane0 {l : Lane} : OSat (ixD l.enc (.int 0) s) P ↔ P (nat l.s) s := by simp only [Lane.enc, os_ixT, at0, Option.some.injEq, exists_eq_left']
@[simp] theorem ix_lane1 {l : Lane} : OSat (ixD l.enc (.int 1) s) P ↔ P (nat l.e) s := by simp only [Lane.enc, os_ixT, at1, Option.some.injEq, exists_eq_left']
@[simp] theorem ix_lane2 {l : Lane} : OSat (ixD l.enc (.int 2) s) P ↔ P (nat l.m) s := by simp only [Lane.enc, os_ixT, at2, Option.some.injEq, exists_eq_left']
@[simp] theorem gT_net {N : Net} {a b c : D → Rm.Env → Option Rm.Env} {ρ2 : Rm.Env} : gT 3 (gsC a (gsC b (gsC c gsN))) N.enc ρ = some ρ2 ↔ ∃ ρ1, a (nat N.h) ρ = some ρ1 ∧ ∃ ρ3, b (.tup (N.lanes.map Lane.enc)) ρ1 = some ρ3 ∧ c (.tup (N.tab.map encRow)) ρ3 = some ρ2 := by
  simp [Net.enc]
@[simp] theorem gT_lane {l : Lane} {a b c : D → Rm.Env → Option Rm.Env} {ρ2 : Rm.Env} : gT 3 (gsC a (gsC b (gsC c gsN))) l.enc ρ = some ρ2 ↔ ∃ ρ1, a (nat l.s) ρ = some ρ1 ∧ ∃ ρ3, b (nat l.e) ρ1 = some ρ3 ∧ c (nat l.m) ρ3 = some ρ2 := by
  simp [Lane.enc]
@[simp] theorem os_eqS {x y : Str} : OSat (eqO (.str x) (.str y) s) P ↔ P (.bl (decide (x = y))) s := Iff.rfl
@[simp] theorem os_neS {x y : Str} : OSat (neO (.str x) (.str y) s) P ↔ P (.bl (!decide (x = y))) s := Iff.rfl
/-- equality of data -/
theorem os_eqP {x y : D} {p q : PyData} {k j : Nat} (hx : Py s 50 x p) (hy : Py s 50 y q) (sp : Sha k p) (sq : Sha j q) (hk : k ≤ 64 := by decide) (hj : j ≤ 64 := by decide) (hns : ∀ a b, ¬ (x = .str a ∧ y = .str b) := by simp) : OSat (eqO x y s) P ↔ P (.bl (PyData.eqv p q)) s := by
  unfold eqO
  rw [eq_py hx hy (sp.ok hk) (sq.ok hj) hns]; exact Iff.rfl
theorem os_neP {x y : D} {p q : PyData} {k j : Nat} (hx : Py s 50 x p) (hy : Py s 50 y q) (sp : Sha k p) (sq : Sha j q) (hk : k ≤ 64 := by decide) (hj : j ≤ 64 := by decide) (hns : ∀ a b, ¬ (x = .str a ∧ y = .str b) := by simp) : OSat (neO x y s) P ↔ P (.bl (!PyData.eqv p q)) s := by
  unfold neO
  rw [eq_py hx hy (sp.ok hk) (sq.ok hj) hns]; exact Iff.rfl
theorem starts_own {N : Net} {k u : Nat} (ok : N.Ok) (hu : u < N.h) : k ∉ N.at u u := by rw [ok.own u hu]; simp
theorem ex_asg {α : Sort _} {p : Prop} {b : α} {q : α → Prop} : (∃ a, (p ∧ b = a) ∧ q a) ↔ p ∧ q b := ⟨fun ⟨_, ⟨h, e⟩, k⟩ => e ▸ ⟨h, k⟩, fun ⟨h, k⟩ => ⟨_, ⟨h, rfl⟩, k⟩⟩
theorem size0 : (0 ≤ sizeLine) = True := by rw [sizeLine_val]; simp
theorem size1 : (1 ≤ sizeLine) = True := by rw [sizeLine_val]; simp
theorem size2 : (2 ≤ sizeLine) = True := by rw [sizeLine_val]; simp
theorem size3 : (3 ≤ sizeLine) = True := by rw [sizeLine_val]; simp
theorem size4 : (4 ≤ sizeLine) = True := by rw [sizeLine_val]; simp
theorem py_two {x : D} {p : PyData} {n k : Nat} (h : Py s k x p) (hn : s[n]? = some (.lst [x, x])) : Py s (k + 1) (.ref n) (.list [p, p]) := py_lst hn (pys_cons h (pys_cons h pys_nil))
theorem sh_two {p : PyData} {n k N : Nat} (h : Sh n k p) (hN : 2 * (n + 2) + 3 ≤ N) : Sh N (k + 1) (.list [p, p]) := sh_lst (m := 2) (fun q hq => by simp only [List.mem_cons, List.not_mem_nil, or_false, or_self] at hq; rw [hq]; exact h) (by simp) hN
theorem at_app {n : Nat} {x y : Cell} (h : s[n]? = some x) : (s ++ [y])[n]? = some x := by rw [List.getElem?_append_left (lt_of_at h)]; exact h
theorem rng_at {n i : Nat} {d : D} (h : (rngD 0 ((n : Nat) : Int).toNat).items[i]? = some d) : d = nat i ∧ i < n := by
  rw [show ((n : Int)).toNat = n by simp, rng_items, List.getElem?_map] at h
  obtain ⟨e, he, rfl⟩ := Option.map_eq_some_iff.mp h
  obtain ⟨h1, h2⟩ := List.getElem?_eq_some_iff.mp he
  rw [List.getElem_range] at h2
  exact ⟨by rw [← h2], by simpa using h1⟩
theorem rgL_nat (n : Nat) : rgL 0 (n : Int) = nats (List.range n) := by
  unfold rgL nats
  rw [show ((n : Int) - 0).toNat = n by simp]
  exact List.map_congr_left fun i _ => by simp
theorem asks_of {ds : List D} {k : Nat} (h : ∀ x ∈ ds, ∀ s : Sto, ∃ p, Py s 50 x p ∧ Sha k p) (hk : k ≤ 63 := by decide) : Asks st r c ds := by
  intro es s l e hx hkp hl he
  have : ∃ ps, Pys s 50 es ps ∧ ∀ p ∈ ps, Sha k p := by
    clear hl
    induction es with
    | nil => exact ⟨[], pys_nil, fun _ h => by cases h⟩
    | cons x es ih =>
      obtain ⟨ps, h1, h2⟩ := ih fun y hy => hx y (List.mem_cons_of_mem _ hy)
      obtain ⟨p, h3, h4⟩ := h x (hx x List.mem_cons_self) s
      exact ⟨p :: ps, pys_cons h3 h1, fun q hq => (List.mem_cons.mp hq).elim (fun e => e ▸ h4) (h2 q)⟩
  obtain ⟨ps, h1, h2⟩ := this
  exact ne_nilP hl he h1 ((sha_lst h2).ok (by omega))
theorem asks_nats (e : List Nat) : Asks st r c (nats e) := asks_of (k := 0) fun x hx s => by
  obtain ⟨k, _, rfl⟩ := List.mem_map.mp hx
  exact ⟨_, (py_int (k : Int)).mono (by decide), sha_int _⟩
/-! sums -/
def sumN {α : Type} (f : α → Nat) (xs : List α) : Nat := (xs.map f).sum
theorem sumN_nil {α : Type} {f : α → Nat} : sumN f [] = 0 := rfl
theorem sumN_cons {α : Type} {f : α → Nat} {x : α} {xs : List α} : sumN f (x :: xs) = f x + sumN f xs := by simp [sumN]
theorem sumN_add {α : Type} {f g : α → Nat} (xs : List α) : sumN (fun x => f x + g x) xs = sumN f xs + sumN g xs := by
  induction xs with
  | nil => rfl
  | cons x xs ih => simp only [sumN_cons, ih]; omega
theorem sumN_congr {α : Type} {f g : α → Nat} {xs : List α} (h : ∀ x ∈ xs, f x = g x) : sumN f xs = sumN g xs := by
  unfold sumN; rw [List.map_congr_left h]
theorem sumN_zero {α : Type} (xs : List α) : sumN (fun _ => 0) xs = 0 := by
  induction xs with
  | nil => rfl
  | cons x xs ih => simp only [sumN_cons, ih]
theorem sumN_comm {α β : Type} (f : α → β → Nat) (xs : List α) (ys : List β) : sumN (fun x => sumN (f x) ys) xs = sumN (fun y => sumN (fun x => f x y) xs) ys := by
  induction xs with
  | nil => simp only [sumN_nil]; exact (sumN_zero ys).symm
  | cons x xs ih => simp only [sumN_cons, ih, sumN_add]
theorem sumN_le {α : Type} {f : α → Nat} {m : Nat} {xs : List α} (h : ∀ x ∈ xs, f x ≤ m) : sumN f xs ≤ xs.length * m := by
  induction xs with
  | nil => exact Nat.zero_le _
  | cons x xs ih =>
    rw [sumN_cons, List.length_cons, Nat.succ_mul]
    have := ih fun y hy => h y (List.mem_cons_of_mem _ hy)
    have := h x List.mem_cons_self
    omega
theorem len_filter {α : Type} (p : α → Bool) (xs : List α) : (xs.filter p).length = sumN (fun x => if p x then 1 else 0) xs := by
  induction xs with
  | nil => rfl
  | cons x xs ih =>
    rw [List.filter_cons, sumN_cons]
    split
    · rename_i h; rw [List.length_cons, ih]; omega
    · rename_i h; rw [ih]; omega
theorem sumN_one {xs : List Nat} {a : Nat} {v : Nat} (nd : xs.Nodup) : sumN (fun x => if x = a then v else 0) xs = if a ∈ xs then v else 0 := by
  induction xs with
  | nil => rfl
  | cons x xs ih =>
    rw [sumN_cons, ih (List.nodup_cons.mp nd).2]
    have hx := (List.nodup_cons.mp nd).1
    by_cases h : x = a
    · subst h; simp [hx]
    · have : ¬ a = x := fun q => h q.symm
      simp [h, this]
theorem len_nodup {e : List Nat} {n : Nat} (nd : e.Nodup) (h : ∀ k ∈ e, k < n) : e.length = sumN (fun k => if k ∈ e then 1 else 0) (List.range n) := by
  have : e.length = sumN (fun x => sumN (fun k => if k = x then 1 else 0) (List.range n)) e := by
    rw [show sumN (fun x => sumN (fun k => if k = x then 1 else 0) (List.range n)) e = sumN (fun _ => 1) e from sumN_congr fun x hx => by rw [sumN_one List.nodup_range]; simp [h x hx]]
    clear nd h
    induction e with
    | nil => rfl
    | cons x e ih => rw [sumN_cons, List.length_cons, ih]; omega
  rw [this, sumN_comm]
  refine sumN_congr fun k hk => ?_
  rw [show sumN (fun x => if k = x then 1 else 0) e = sumN (fun x => if x = k then 1 else 0) e from sumN_congr fun x _ => by simp only [eq_comm]]
  exact sumN_one nd
theorem sumN_range {α : Type} (f : α → Nat) (xs : List α) (d : α) : sumN f xs = sumN (fun i => f (xs.getD i d)) (List.range xs.length) := by
  unfold sumN
  congr 1
  refine List.ext_getElem? fun i => ?_
  by_cases h : i < xs.length
  · simp [h, List.getD_eq_getElem?_getD]
  · simp [h]
theorem sum_cast {α : Type} (f : α → Nat) (xs : List α) : ((xs.map fun x => ((f x : Nat) : Int)).sum) = ((sumN f xs : Nat) : Int) := by
  induction xs with
  | nil => rfl
  | cons x xs ih => rw [List.map_cons, List.sum_cons, ih, sumN_cons]; simp
theorem os_sumN {α : Type} {n : Nat} {f : α → Nat} {xs : List α} (h : s[n]? = some (.lst (xs.map fun x => nat (f x)))) : OSat (sumO [.ref n] s) P ↔ P (nat (sumN f xs)) s := by
  rw [os_sum (ns := xs.map fun x => ((f x : Nat) : Int)) (by rw [h, List.map_map]; rfl), sum_cast]
@[simp] theorem truth_bl {b : Bool} : truthD (.bl b) s = some b := rfl
@[simp] theorem itD_row {row : List (List Nat)} {it : ITD} : itD (encRow row) s = some it ↔ (⟨row.map fun e => .tup (nats e), fun _ => True⟩ : ITD) = it := itD_tup
theorem eq_natB {x y : Nat} : ((x : Int) == (y : Int)) = decide (x = y) := by
  by_cases h : x = y
  · subst h; simp
  · have h2 : ((x : Int) == (y : Int)) = false := by simp; omega
    rw [h2]; simp [h]
theorem ne_natB {x y : Nat} : (!((x : Int) == (y : Int))) = decide (x ≠ y) := by rw [eq_natB]; by_cases h : x = y <;> simp [h]
theorem os_addL {n m : Nat} {ds es : List D} (h1 : s[n]? = some (.lst ds)) (h2 : s[m]? = some (.lst es)) : OSat (addD (.ref n) (.ref m) s) P ↔ ds.length + es.length ≤ sizeLine ∧ P (.ref s.length) (s ++ [.lst (ds ++ es)]) := by
  simp only [addD, h1, h2]
  exact osat_ite
@[simp] theorem os_mulT {ds : List D} {k : Int} : OSat (mulD (.tup ds) (.int k) s) P ↔ (ds ≠ [] ∧ -(2 ^ 63) ≤ k ∧ k ≤ 1000 ∧ ds.length ≤ 1000) ∧ P (.tup (List.replicate k.toNat ds).flatten) s := osat_ite
end
end Rm

namespace Rm
open PySem L2
section
variable {ρ ρw : Rm.Env} {st s s' : Sto}
theorem ev_lcGo {β : Type} {chk : Sto → Prop} {g : D → Rm.Env → Option Rm.Env} {tt : FT} {te : F} (enc : β → D) (keep : β → Bool) (f : β → D) (R : Sto → Prop) (hchk : ∀ s, R s → chk s) {C : List D → Sto → Prop} :
    ∀ (xs : List β) (acc : List D) (s : Sto), (∀ x ∈ xs, ∀ s1, R s1 → ∃ ρ2, g (enc x) ρw = some ρ2 ∧ Ev (tt ρ2 s1) (fun k s2 => R s2 ∧ k = keep x ∧ (k = true → Ev (te ρ2 s2) (fun y s3 => R s3 ∧ y = f x)))) →
      acc.length + xs.length ≤ 1000000 → R s → (∀ s', R s' → C (acc ++ (xs.filter keep).map f) s') → Ev (lcGo chk g tt te ρw (xs.map enc) acc s) C := by
  intro xs
  induction xs with
  | nil =>
    intro acc s _ _ hR hC
    unfold lcGo
    rw [List.map_nil]
    simp only
    rw [if_pos (hchk s hR)]
    exact hC s hR |> fun h => by simpa using h
  | cons x xs ih =>
    intro acc s hs hl hR hC
    obtain ⟨ρ2, hg, hb⟩ := hs x List.mem_cons_self s hR
    rw [List.length_cons] at hl
    rw [List.map_cons]
    unfold lcGo
    rw [if_pos (hchk s hR), hg]
    simp only
    obtain ⟨k, s2, htt, h2, hk, hy⟩ := hb.eq
    rw [htt]
    cases k with
    | false =>
      refine ih acc s2 (fun y h => hs y (List.mem_cons_of_mem _ h)) (by omega) h2 fun s' hR' => ?_
      have := hC s' hR'
      rw [List.filter_cons, ← hk] at this
      simpa using this
    | true =>
      obtain ⟨y, s3, hte, h3, rfl⟩ := (hy rfl).eq
      simp only [hte]
      rw [if_pos (by rw [sizeLine_val]; omega)]
      refine ih _ s3 (fun y h => hs y (List.mem_cons_of_mem _ h)) (by rw [List.length_append]; simp; omega) h3 fun s' hR' => ?_
      have := hC s' hR'
      rw [List.filter_cons, ← hk] at this
      simpa using this
theorem ev_lcGo2 {β γ : Type} {chk : Sto → Prop} {g g1 : D → Rm.Env → Option Rm.Env} {tt tt1 : FT} {fi1 : FI} {te : F} {vs1 : List Nat} (enc : β → D) (keep : β → Bool) (ys : β → List γ) (enc1 : γ → D) (keep1 : β → γ → Bool) (f : β → γ → D) (R : Sto → Prop) (hchk : ∀ s, R s → chk s) {C : List D → Sto → Prop} :
    ∀ (xs : List β) (acc : List D) (s : Sto), (∀ x ∈ xs, ∀ s1, R s1 → ∃ ρ2, g (enc x) ρw = some ρ2 ∧ Ev (tt ρ2 s1) (fun k s2 => R s2 ∧ k = keep x ∧ (k = true → Ev (fi1 ρ2 s2) (fun it1 s3 => it1.items = (ys x).map enc1 ∧ ∃ R1 : Sto → Prop, R1 s3 ∧ (∀ s, R1 s → R s ∧ it1.chk s) ∧
        ∀ y ∈ ys x, ∀ s4, R1 s4 → ∃ ρ3, g1 (enc1 y) (wipeD ρ2 vs1) = some ρ3 ∧ Ev (tt1 ρ3 s4) (fun k1 s5 => R1 s5 ∧ k1 = keep1 x y ∧ (k1 = true → Ev (te ρ3 s5) (fun z s6 => R1 s6 ∧ z = f x y))))))) →
      acc.length + (xs.flatMap ys).length ≤ 1000000 → R s → (∀ s', R s' → C (acc ++ (xs.filter keep).flatMap fun x => ((ys x).filter (keep1 x)).map (f x)) s') → Ev (lcGo2 chk g tt fi1 g1 tt1 te vs1 ρw (xs.map enc) acc s) C := by
  intro xs
  induction xs with
  | nil =>
    intro acc s _ _ hR hC
    unfold lcGo2
    rw [List.map_nil]
    simp only
    rw [if_pos (hchk s hR)]
    exact hC s hR |> fun h => by simpa using h
  | cons x xs ih =>
    intro acc s hs hl hR hC
    obtain ⟨ρ2, hg, hb⟩ := hs x List.mem_cons_self s hR
    rw [List.flatMap_cons, List.length_append] at hl
    rw [List.map_cons]
    unfold lcGo2
    rw [if_pos (hchk s hR), hg]
    simp only
    obtain ⟨k, s2, htt, h2, hk, hy⟩ := hb.eq
    rw [htt]
    cases k with
    | false =>
      refine ih acc s2 (fun y h => hs y (List.mem_cons_of_mem _ h)) (by omega) h2 fun s' hR' => ?_
      have := hC s' hR'
      rw [List.filter_cons, ← hk] at this
      simpa using this
    | true =>
      obtain ⟨it1, s3, hfi, hit, R1, h3, hR1, hs1⟩ := (hy rfl).eq
      simp only [hfi]
      have inner := ev_lcGo (chk := it1.chk) (g := g1) (tt := tt1) (te := te) (ρw := wipeD ρ2 vs1) enc1 (keep1 x) (f x) R1 (fun s h => (hR1 s h).2) (C := fun acc2 s4 => acc2 = acc ++ ((ys x).filter (keep1 x)).map (f x) ∧ R1 s4) (ys x) acc s3 hs1 (by omega) h3 fun s' h => ⟨rfl, h⟩
      rw [← hit] at inner
      obtain ⟨acc2, s4, hgo, rfl, h4⟩ := inner.eq
      simp only [hgo]
      refine ih _ s4 (fun y h => hs y (List.mem_cons_of_mem _ h)) ?_ (hR1 s4 h4).1 fun s' hR' => ?_
      · have : (((ys x).filter (keep1 x)).map (f x)).length ≤ (ys x).length := by rw [List.length_map]; exact List.length_filter_le _ _
        rw [List.length_append]; omega
      · have := hC s' hR'
        rw [List.filter_cons, ← hk] at this
        simpa [List.append_assoc] using this
/-- a comprehension of two clauses -/
theorem ev_lc2F {β γ : Type} {fi : FI} {g g1 : D → Rm.Env → Option Rm.Env} {tt tt1 : FT} {fi1 : FI} {te : F} {vs vs1 : List Nat} {P : D → Sto → Prop} (xs : List β) (enc : β → D) (keep : β → Bool) (ys : β → List γ) (enc1 : γ → D) (keep1 : β → γ → Bool) (f : β → γ → D) (R : Sto → Prop)
    (h : Ev (fi ρ st) (fun it s => it.items = xs.map enc ∧ R s ∧ (xs.flatMap ys).length ≤ 1000000 ∧ (∀ s1, R s1 → it.chk s1) ∧
      (∀ x ∈ xs, ∀ s1, R s1 → ∃ ρ2, g (enc x) (wipeD ρ vs) = some ρ2 ∧ Ev (tt ρ2 s1) (fun k s2 => R s2 ∧ k = keep x ∧ (k = true → Ev (fi1 ρ2 s2) (fun it1 s3 => it1.items = (ys x).map enc1 ∧ ∃ R1 : Sto → Prop, R1 s3 ∧ (∀ s, R1 s → R s ∧ it1.chk s) ∧
        ∀ y ∈ ys x, ∀ s4, R1 s4 → ∃ ρ3, g1 (enc1 y) (wipeD ρ2 vs1) = some ρ3 ∧ Ev (tt1 ρ3 s4) (fun k1 s5 => R1 s5 ∧ k1 = keep1 x y ∧ (k1 = true → Ev (te ρ3 s5) (fun z s6 => R1 s6 ∧ z = f x y))))))) ∧
      ∀ s1, R s1 → P (.ref s1.length) (s1 ++ [.lst ((xs.filter keep).flatMap fun x => ((ys x).filter (keep1 x)).map (f x))]))) : Ev (eLc2 fi g tt fi1 g1 tt1 te vs vs1 ρ st) P := by
  unfold eLc2
  rw [ev_bd]
  refine h.mono fun it s ⟨h1, h2, h3, h4, h5, h6⟩ => ?_
  rw [ev_bd, h1]
  refine ev_lcGo2 enc keep ys enc1 keep1 f R h4 xs [] s h5 (by simpa using h3) h2 fun s' hR => ?_
  exact h6 s' hR
end
end Rm

namespace Rm
open PySem L2
/-! ## Reading nets: the program's own -/
noncomputable def b_serves : FS := (sSeq (sAsgN (eVar 0) (gT 3 (gsC (gN 3) (gsC (gN 4) (gsC (gN 5) gsN)))))
  (sSeq (sAsgN (e2 ixD (e2 ixD (eVar 4) (eVar 1)) (eC (.int 0))) (gN 6))
  (sRet (e2 inO (eVar 1) (e2 ixD (e2 ixD (eVar 5) (eVar 6)) (eVar 2))))))
noncomputable def f_serves : List D → Sto → R D := bodyD 7 b_serves
noncomputable def b_aims : FS := (sRet (eB tupO (aCons (eLc (iR1 (aCons (e2 ixD (eVar 0) (eC (.int 0))) aNil)) (gN 2) (tb (eCall f_serves 3 (aCons (eVar 0) (aCons (eVar 1) (aCons (eVar 2) aNil))))) (eVar 2) [2]) aNil)))
noncomputable def f_aims : List D → Sto → R D := bodyD 3 b_aims
noncomputable def b_ahead : FS := (sSeq (sAsgN (eVar 0) (gT 3 (gsC (gN 3) (gsC (gN 4) (gsC (gN 5) gsN)))))
  (sSeq (sAsgN (e2 ixD (e2 ixD (eVar 4) (eVar 1)) (eC (.int 1))) (gN 6))
  (sRet (e2 ixD (e2 ixD (eVar 5) (eVar 6)) (eVar 2)))))
noncomputable def f_ahead : List D → Sto → R D := bodyD 7 b_ahead
section
variable {P : D → Sto → Prop} {ρ : Env} {st s s' : Sto} {r c : Nat}
theorem Net.Ok.at_lane {N : Net} {k : Nat} {l : Lane} (hl : N.lanes[k]? = some l) : atI (N.lanes.map Lane.enc) (k : Int) = some l.enc := atI_map hl
theorem Net.Ok.at_row {N : Net} {u : Nat} {row : List (List Nat)} (h : N.tab[u]? = some row) : atI (N.tab.map encRow) (u : Int) = some (encRow row) := atI_map h
theorem at_ent {row : List (List Nat)} {d : Nat} {e : List Nat} (h : row[d]? = some e) : atI (row.map fun e => D.tup (nats e)) (d : Int) = some (.tup (nats e)) := atI_map h
theorem serves_ev {N : Net} {k d : Nat} {l : Lane} (ok : N.Ok) (hl : N.lanes[k]? = some l) (hd : d < N.h) (H : P (.bl (decide (k ∈ N.at l.s d))) st) : Ev (f_serves [N.enc, nat k, nat d] st) P := by
  have ln := ok.lane l (List.mem_of_getElem? hl)
  obtain ⟨row, h1, h2⟩ := ok.getE ln.1 hd
  unfold f_serves b_serves
  simp only [ev_body, evs_seq, evs_asgN, evs_ret, ev_eVar, ev_e2, ev_eC, Net.enc, gT_tup, gsC_cons, gsN_nil, gN_at, startD_3, List.replicate, List.getElem?_cons_zero, List.getElem?_cons_succ, List.set_cons_zero, List.set_cons_succ, Option.some.injEq, exists_eq_left', exists_eq_left, List.length_cons, List.length_nil, true_and, os_ixT, Net.Ok.at_lane hl, Lane.enc, at0]
  refine ⟨_, ⟨_, ⟨by simp, rfl⟩, _, ⟨by simp, rfl⟩, _, ⟨by simp, rfl⟩, rfl⟩, ?_⟩
  simp only [List.set_cons_succ, List.set_cons_zero, List.getElem?_cons_zero, List.getElem?_cons_succ, Option.some.injEq, exists_eq_left', os_ixT, Net.Ok.at_lane hl, Lane.enc, at0]
  refine ⟨_, ⟨by simp, rfl⟩, ?_⟩
  simp only [List.set_cons_succ, List.set_cons_zero, List.getElem?_cons_zero, List.getElem?_cons_succ, Option.some.injEq, exists_eq_left', os_ixT, Net.Ok.at_row h1, encRow, at_ent h2, os_inN]
  exact H
theorem ahead_ev {N : Net} {k d : Nat} {l : Lane} (ok : N.Ok) (hl : N.lanes[k]? = some l) (hd : d < N.h) (H : P (.tup (nats (N.at l.e d))) st) : Ev (f_ahead [N.enc, nat k, nat d] st) P := by
  have ln := ok.lane l (List.mem_of_getElem? hl)
  obtain ⟨row, h1, h2⟩ := ok.getE ln.2.1 hd
  unfold f_ahead b_ahead
  simp only [ev_body, evs_seq, evs_asgN, evs_ret, ev_eVar, ev_e2, ev_eC, Net.enc, gT_tup, gsC_cons, gsN_nil, gN_at, startD_3, List.replicate, List.getElem?_cons_zero, List.getElem?_cons_succ, List.set_cons_zero, List.set_cons_succ, Option.some.injEq, exists_eq_left', exists_eq_left, List.length_cons, List.length_nil, true_and, os_ixT, Net.Ok.at_lane hl, Lane.enc, at0]
  refine ⟨_, ⟨_, ⟨by simp, rfl⟩, _, ⟨by simp, rfl⟩, _, ⟨by simp, rfl⟩, rfl⟩, ?_⟩
  simp only [List.set_cons_succ, List.set_cons_zero, List.getElem?_cons_zero, List.getElem?_cons_succ, Option.some.injEq, exists_eq_left', os_ixT, Net.Ok.at_lane hl, Lane.enc, at1]
  refine ⟨_, ⟨by simp, rfl⟩, ?_⟩
  simp only [List.set_cons_succ, List.set_cons_zero, List.getElem?_cons_zero, List.getElem?_cons_succ, Option.some.injEq, exists_eq_left', os_ixT, Net.Ok.at_row h1, encRow, at_ent h2]
  exact H
/-- the aims that a lane serves -/
def Net.aims (N : Net) (k : Nat) (u : Nat) : List Nat := (List.range N.h).filter fun d => decide (k ∈ N.at u d)

theorem aims_ev {N : Net} {k : Nat} {l : Lane} (ok : N.Ok) (hl : N.lanes[k]? = some l) (H : ∀ s', Kp any st s' → P (.tup (nats (N.aims k l.s))) s') : Ev (f_aims [N.enc, nat k] st) P := by
  unfold f_aims b_aims
  have h6 := ok.h6
  simp only [ev_body, evs_ret, ev_eB, ev_aCons, ev_aNil, startD_2]
  rw [evi]
  refine evi_lcF (List.range N.h) nat nat (fun d => decide (k ∈ N.at l.s d)) (fun s => Kp any st s) ?_
  simp only [ev_iR1, ev_aCons, ev_aNil, ev_e2, ev_eVar, ev_eC, Net.enc, List.getElem?_cons_zero, List.getElem?_cons_succ, Option.some.injEq, exists_eq_left', os_ixT, at0]
  refine ⟨N.h, rfl, by omega, ?_, Kp.refl _, by simp; omega, fun _ _ => trivial, ?_, ?_⟩
  · rw [show ((N.h : Int)).toNat = N.h by simp]; exact rng_items N.h
  · intro d hd s1 k1
    have hd' : d < N.h := List.mem_range.mp hd
    refine ⟨_, gN_at.mpr ⟨by simp [wipeD, List.replicate], rfl⟩, ?_⟩
    simp only [wipeD, List.replicate, List.set_cons_succ, List.set_cons_zero, ev_tb, ev_eCall, ev_aCons, ev_aNil, ev_eVar, List.getElem?_cons_zero, List.getElem?_cons_succ, Option.some.injEq, exists_eq_left', List.length_cons, List.length_nil, true_and]
    refine serves_ev ok hl hd' ?_
    exact ⟨_, rfl, k1, rfl, fun _ => ⟨k1, trivial⟩⟩
  · intro s1 k1
    simp only [os_tupL, at_push, Option.some.injEq, Cell.lst.injEq, exists_eq_left']
    exact H _ (k1.trans (Kp.push _ _))
end
end Rm

namespace Rm
open PySem L2
/-! ## Stands: the law's own -/
noncomputable def b_law_served : FS := (sRet (eLc (iR1 (aCons (e2 ixD (eVar 0) (eC (.int 0))) aNil)) (gN 2) (tbB (e2 inO (eVar 1) (e2 ixD (e2 ixD (e2 ixD (eVar 0) (eC (.int 2))) (e2 ixD (e2 ixD (e2 ixD (eVar 0) (eC (.int 1))) (eVar 1)) (eC (.int 0)))) (eVar 2)))) (eVar 2) [2]))
noncomputable def f_law_served : List D → Sto → R D := bodyD 3 b_law_served
noncomputable def b_law_stand : FS := (sSeq (sAsgN (eLst aNil) (gN 3))
  (sSeq (sFor (iEn2 (aCons (e2 ixD (eVar 1) (eC (.int 1))) aNil)) (gT 2 (gsC (gN 4) (gsC (gT 3 (gsC (gN 5) (gsC (gN 6) (gsC (gN 7) gsN)))) gsN))) (sSeq (sAsgN (eCall f_law_served 2 (aCons (eVar 1) (aCons (eVar 4) aNil))) (gN 8))
  (sSeq (sAsgN (eIf (tAnd2 (tbB (e2 eqO (eVar 2) (eC (.int 1)))) (tbB (e2 gtD (eCall f_law_draw 2 (aCons (eVar 0) (aCons (eC (.int 6)) aNil))) (eC (.int 0))))) (eVar 7) (eCall f_law_draw 2 (aCons (eVar 0) (aCons (e2 addD (eVar 7) (eC (.int 1))) aNil)))) (gN 9))
  (sSeq (sAsgN (eLc (iSeq (eVar 8)) (gN 11) (tbB (e2 neO (eVar 11) (eVar 6))) (eVar 11) [11]) (gN 10))
  (sSeq (sAsgN (eIf (tAnd2 (tbB (e2 eqO (eVar 2) (eC (.int 1)))) (tAnd2 (tbB (e2 neO (eVar 10) (eLst aNil))) (tbB (e2 gtD (eCall f_law_draw 2 (aCons (eVar 0) (aCons (eC (.int 5)) aNil))) (eC (.int 0)))))) (eVar 10) (eVar 8)) (gN 8))
  (sExpr (eM "list" appO (eVar 3) (aCons (eIf (tbB (e2 neO (eVar 8) (eLst aNil))) (eB tupO (aCons (eLc (iR1 (aCons (eVar 9) aNil)) (gN 12) tYesD (eCall f_law_pick 2 (aCons (eVar 0) (aCons (eVar 8) aNil))) [12]) aNil)) (eTup aNil)) aNil))))))))
  (sRet (eB tupO (aCons (eVar 3) aNil)))))
noncomputable def f_law_stand : List D → Sto → R D := bodyD 13 b_law_stand
noncomputable def b_empty : FS := (sRet (e2 mulD (eTup (aCons (eTup aNil) aNil)) (eB lenO (aCons (e2 ixD (eVar 0) (eC (.int 1))) aNil))))
noncomputable def f_empty : List D → Sto → R D := bodyD 1 b_empty
noncomputable def b_has_room : FS := (sRet (e2 ltD (eB lenO (aCons (e2 ixD (eVar 1) (eVar 2)) aNil)) (e2 ixD (e2 ixD (e2 ixD (eVar 0) (eC (.int 1))) (eVar 2)) (eC (.int 2)))))
noncomputable def f_has_room : List D → Sto → R D := bodyD 3 b_has_room
noncomputable def b_is_home : FS := (sRet (e2 eqO (e2 ixD (e2 ixD (e2 ixD (eVar 0) (eC (.int 1))) (eVar 1)) (eC (.int 1))) (eVar 2)))
noncomputable def f_is_home : List D → Sto → R D := bodyD 3 b_is_home
noncomputable def b_lanes_open : FS := (sRet (eLc (iSeq (eCall f_ahead 3 (aCons (eVar 0) (aCons (eVar 2) (aCons (eVar 3) aNil))))) (gN 4) (tb (eCall f_has_room 3 (aCons (eVar 0) (aCons (eVar 1) (aCons (eVar 4) aNil))))) (eVar 4) [4]))
noncomputable def f_lanes_open : List D → Sto → R D := bodyD 5 b_lanes_open
noncomputable def b_moves : FS := (sSeq (sAsgN (eLc (iEn2 (aCons (eVar 1) aNil)) (gT 2 (gsC (gN 5) (gsC (gN 6) gsN))) (tbB (e2 gtD (eB lenO (aCons (eVar 6) aNil)) (eC (.int 0)))) (eTup (aCons (eVar 5) (aCons (e2 ixD (eVar 6) (eC (.int 0))) aNil))) [5, 6]) (gN 2))
  (sSeq (sAsgN (eLc2 (iSeq (eVar 2)) (gT 2 (gsC (gN 5) (gsC (gN 7) gsN))) tYesD (iSeq (eCall f_lanes_open 4 (aCons (eVar 0) (aCons (eVar 1) (aCons (eVar 5) (aCons (eVar 7) aNil)))))) (gN 8) tYesD (eTup (aCons (eC (.str "on")) (aCons (eVar 5) (aCons (eVar 8) aNil)))) [5, 7, 8] [8]) (gN 3))
  (sSeq (sAsgN (eLc (iSeq (eVar 2)) (gT 2 (gsC (gN 5) (gsC (gN 7) gsN))) (tb (eCall f_is_home 3 (aCons (eVar 0) (aCons (eVar 5) (aCons (eVar 7) aNil))))) (eTup (aCons (eC (.str "out")) (aCons (eVar 5) aNil))) [5, 7]) (gN 4))
  (sRet (eB tupO (aCons (e2 addD (eVar 3) (eVar 4)) aNil))))))
noncomputable def f_moves : List D → Sto → R D := bodyD 9 b_moves
noncomputable def b_stuck : FS := (sRet (eAnd (e2 neO (eVar 1) (eCall f_empty 1 (aCons (eVar 0) aNil))) (e2 eqO (eCall f_moves 2 (aCons (eVar 0) (aCons (eVar 1) aNil))) (eTup aNil))))
noncomputable def f_stuck : List D → Sto → R D := bodyD 2 b_stuck
noncomputable def b_held_fast : FS := (sSeq (sAsgN (eLc2 (iEn2 (aCons (eVar 1) aNil)) (gT 2 (gsC (gN 4) (gsC (gN 5) gsN))) tYesD (iSeq (eVar 5)) (gN 6) tYesD (eTup (aCons (eVar 4) (aCons (eVar 6) aNil))) [4, 5, 6] [6]) (gN 2))
  (sSeq (sAsgN (eLc (iSeq (eVar 2)) (gT 2 (gsC (gN 4) (gsC (gN 6) gsN))) (tOr2 (tb (eCall f_is_home 3 (aCons (eVar 0) (aCons (eVar 4) (aCons (eVar 6) aNil))))) (tbB (e2 gtD (eB lenO (aCons (eCall f_lanes_open 4 (aCons (eVar 0) (aCons (eVar 1) (aCons (eVar 4) (aCons (eVar 6) aNil))))) aNil)) (eC (.int 0))))) (eTup (aCons (eVar 4) (aCons (eVar 6) aNil))) [4, 6]) (gN 3))
  (sRet (eAnd (e2 gtD (eB lenO (aCons (eVar 2) aNil)) (eC (.int 0))) (e2 eqO (eB lenO (aCons (eVar 3) aNil)) (eC (.int 0)))))))
noncomputable def f_held_fast : List D → Sto → R D := bodyD 7 b_held_fast
end Rm

namespace Rm
open PySem L2
section
variable {P : D → Sto → Prop} {ρ : Rm.Env} {st s s' : Sto} {r c : Nat}
/-- a stand: for each lane its letters, first in front, at most its room, each of an aim that the lane serves -/
structure StOk (N : Net) (S : List (List Nat)) : Prop where
  len : S.length = N.lanes.length
  fit : ∀ (k : Nat) (own : List Nat) (l : Lane), S[k]? = some own → N.lanes[k]? = some l → own.length ≤ l.m ∧ ∀ d ∈ own, d ∈ N.aims k l.s
@[simp] theorem os_lenRow {row : List (List Nat)} : OSat (lenO [encRow row] s) P ↔ P (nat row.length) s := by
  simp only [encRow, os_lenT, List.length_map]
@[simp] theorem os_lenN {e : List Nat} : OSat (lenO [.tup (nats e)] s) P ↔ P (nat e.length) s := by
  simp only [os_lenT, nats, List.length_map]
theorem en_at {α : Type} {f : α → D} {xs : List α} {chk : Sto → Prop} {i : Nat} {d : D} (h : (enumD ⟨xs.map f, chk⟩).items[i]? = some d) : ∃ x, xs[i]? = some x ∧ d = .tup [.int (i : Nat), f x] := by
  have ln : (enumD ⟨xs.map f, chk⟩).items.length = xs.length := by simp [enumD]
  have hi : i < xs.length := by rw [← ln]; exact (List.getElem?_eq_some_iff.mp h).1
  refine ⟨xs[i], List.getElem?_eq_getElem hi, ?_⟩
  rw [enum_get (d := f xs[i]) (by simp [hi])] at h
  exact (Option.some.inj h).symm
theorem en_len {α : Type} {f : α → D} {xs : List α} {chk : Sto → Prop} : (enumD ⟨xs.map f, chk⟩).items.length = xs.length := by simp [enumD]
theorem eqvAll_nil' (ps : List PyData) : PyData.eqvAll [] ps = ps.isEmpty := by cases ps <;> simp [PyData.eqvAll]
@[simp] theorem eq_tupNil {e : List Nat} : OSat (eqO (.tup (nats e)) (.tup []) s) P ↔ P (.bl (decide (e = []))) s := by
  show OSat (eqO (.tup (nats e)) (.tup (nats [])) s) P ↔ _
  rw [os_eqP ((py_ent e).mono (by decide)) ((py_ent []).mono (by decide)) (sha_ent _) (sha_ent _)]
  show P (.bl (PyData.eqvAll _ [])) s ↔ _
  rw [eqvAll_nil]
  cases e <;> simp
@[simp] theorem ne_tupNil {e : List Nat} : OSat (neO (.tup (nats e)) (.tup []) s) P ↔ P (.bl (!decide (e = []))) s := by
  show OSat (neO (.tup (nats e)) (.tup (nats [])) s) P ↔ _
  rw [os_neP ((py_ent e).mono (by decide)) ((py_ent []).mono (by decide)) (sha_ent _) (sha_ent _)]
  show P (.bl (!PyData.eqvAll _ [])) s ↔ _
  rw [eqvAll_nil]
  cases e <;> simp
/-- is a list empty: items that are data -/
theorem eq_lstNil {n m : Nat} {ds : List D} {ps : List PyData} {k : Nat} (h : s[n]? = some (.lst ds)) (h2 : s[m]? = some (.lst [])) (hp : Pys s 49 ds ps) (hs : ∀ p ∈ ps, Sha k p) (hk : k ≤ 63 := by decide) : OSat (eqO (.ref n) (.ref m) s) P ↔ P (.bl (decide (ds = []))) s := by
  have hl : ps.isEmpty = decide (ds = []) := by
    have q := hp 49 (Nat.le_refl _)
    cases ds with
    | nil => cases (Option.some.inj q); rfl
    | cons d ds =>
      cases ps with
      | nil =>
        simp only [mapO] at q
        rcases hx : toPy s 49 d with _ | x <;> rw [hx] at q
        · simp at q
        · rcases hy : mapO (toPy s 49) ds with _ | y <;> rw [hy] at q <;> simp at q
      | cons p ps => rfl
  rw [os_eqP (k := 64) (j := 64) (py_lst h hp) (py_lst (k := 49) h2 pys_nil) ((sha_lst hs).mono (by omega)) ((sha_lst (k := 0) (ps := []) fun _ h => by cases h).mono (by decide)) (by decide) (by decide)]
  rw [← hl, ← eqvAll_nil]
  exact Iff.rfl
theorem ne_lstNil {n m : Nat} {ds : List D} {ps : List PyData} {k : Nat} (h : s[n]? = some (.lst ds)) (h2 : s[m]? = some (.lst [])) (hp : Pys s 49 ds ps) (hs : ∀ p ∈ ps, Sha k p) (hk : k ≤ 63 := by decide) : OSat (neO (.ref n) (.ref m) s) P ↔ P (.bl (!decide (ds = []))) s := by
  have hl : ps.isEmpty = decide (ds = []) := by
    have q := hp 49 (Nat.le_refl _)
    cases ds with
    | nil => cases (Option.some.inj q); rfl
    | cons d ds =>
      cases ps with
      | nil =>
        simp only [mapO] at q
        rcases hx : toPy s 49 d with _ | x <;> rw [hx] at q
        · simp at q
        · rcases hy : mapO (toPy s 49) ds with _ | y <;> rw [hy] at q <;> simp at q
      | cons p ps => rfl
  rw [os_neP (k := 64) (j := 64) (py_lst h hp) (py_lst (k := 49) h2 pys_nil) ((sha_lst hs).mono (by omega)) ((sha_lst (k := 0) (ps := []) fun _ h => by cases h).mono (by decide)) (by decide) (by decide)]
  rw [← hl, ← eqvAll_nil]
  exact Iff.rfl
theorem pys_nats (e : List Nat) : Pys s 49 (nats e) (e.map fun k : Nat => .int (k : Int)) := (pys_map e fun (k : Nat) _ => py_int (k : Int)).mono (by decide)
theorem sha_nats' (e : List Nat) : ∀ p ∈ (e.map fun k : Nat => PyData.int (k : Int)), Sha 0 p := fun p hp => by obtain ⟨k, _, rfl⟩ := List.mem_map.mp hp; exact sha_int _
theorem nats_nil {e : List Nat} : decide (nats e = []) = decide (e = []) := by cases e <;> simp [nats]
theorem served_ev {N : Net} {k : Nat} {l : Lane} (ok : N.Ok) (hl : N.lanes[k]? = some l) (H : ∀ s' q, Kp any st s' → st.length ≤ q → s'[q]? = some (.lst (nats (N.aims k l.s))) → P (.ref q) s') : Ev (f_law_served [N.enc, nat k] st) P := by
  have ln := ok.lane l (List.mem_of_getElem? hl)
  have h6 := ok.h6
  unfold f_law_served b_law_served
  simp only [ev_body, evs_ret, startD_2]
  refine ev_lcF (List.range N.h) nat nat (fun d => decide (k ∈ N.at l.s d)) (fun s => Kp any st s) ?_
  simp only [ev_body, evs_seq, evs_asgN, evs_ret, evs_expr, evs_if, evs_pass, evs_brk, evs_cnt, evs_par2, evs_par3, ev_eVar, ev_e2, ev_e1, ev_eC, ev_eB, ev_eM, ev_eTup, ev_eLst, ev_eIf, ev_tb, ev_tbB, ev_and2, ev_or2, ev_not1, ev_eCall, ev_eCallK, ev_aCons, ev_aNil, ev_eSl, ev_oNone, ev_oSome, ev_iR1, ev_iSeq, ev_yes, ev_rg1, gN_at, gT_net, gT_lane, gT_tup, gsC_cons, gsN_nil, ex_asg, startD_1, startD_2, startD_3, startD_4, List.replicate, List.getElem?_cons_zero, List.getElem?_cons_succ, List.set_cons_zero, List.set_cons_succ, Option.some.injEq, exists_eq_left', exists_eq_left, exists_eq', List.length_cons, List.length_nil, true_and, and_true, List.cons.injEq, D.int.injEq, D.bl.injEq, D.ref.injEq, D.tup.injEq, Cell.lst.injEq, ix_net0, ix_net1, ix_net2, ix_lane0, ix_lane1, ix_lane2, os_lenT, os_lenL, os_tupL, os_tupT, os_lstT, os_lstL, os_ixT, at0, at1, at2, os_eqI, os_neI, os_eqS, os_neS, os_add, os_sub, os_mul, os_lt, os_le, os_gt, os_ge, os_int, os_intB, os_inN, permL, List.filterMap_cons, List.filterMap_nil, List.nil_append, List.cons_append, wipeD, decide_eq_true_eq, at_push, itD_ref, itD_tup, itD_kl, Nat.reduceAdd, Nat.reduceLT, and_self, Nat.zero_add, if_true, if_false, Bool.false_eq_true, size2, size3, size4, size1, size0, truth_bl, itD_row, Bool.not_true, Bool.not_false, ev_iEn2]
  refine ⟨by omega, rng_items N.h, Kp.refl _, by simp; omega, fun _ _ => trivial, ?_, ?_⟩
  · intro d hd s1 k1
    obtain ⟨row, h1, h2⟩ := ok.getE ln.1 (List.mem_range.mp hd)
    simp only [ev_body, evs_seq, evs_asgN, evs_ret, evs_expr, evs_if, evs_pass, evs_brk, evs_cnt, evs_par2, evs_par3, ev_eVar, ev_e2, ev_e1, ev_eC, ev_eB, ev_eM, ev_eTup, ev_eLst, ev_eIf, ev_tb, ev_tbB, ev_and2, ev_or2, ev_not1, ev_eCall, ev_eCallK, ev_aCons, ev_aNil, ev_eSl, ev_oNone, ev_oSome, ev_iR1, ev_iSeq, ev_yes, ev_rg1, gN_at, gT_net, gT_lane, gT_tup, gsC_cons, gsN_nil, ex_asg, startD_1, startD_2, startD_3, startD_4, List.replicate, List.getElem?_cons_zero, List.getElem?_cons_succ, List.set_cons_zero, List.set_cons_succ, Option.some.injEq, exists_eq_left', exists_eq_left, exists_eq', List.length_cons, List.length_nil, true_and, and_true, List.cons.injEq, D.int.injEq, D.bl.injEq, D.ref.injEq, D.tup.injEq, Cell.lst.injEq, ix_net0, ix_net1, ix_net2, ix_lane0, ix_lane1, ix_lane2, os_lenT, os_lenL, os_tupL, os_tupT, os_lstT, os_lstL, os_ixT, at0, at1, at2, os_eqI, os_neI, os_eqS, os_neS, os_add, os_sub, os_mul, os_lt, os_le, os_gt, os_ge, os_int, os_intB, os_inN, permL, List.filterMap_cons, List.filterMap_nil, List.nil_append, List.cons_append, wipeD, decide_eq_true_eq, at_push, itD_ref, itD_tup, itD_kl, Nat.reduceAdd, Nat.reduceLT, and_self, Nat.zero_add, if_true, if_false, Bool.false_eq_true, size2, size3, size4, size1, size0, truth_bl, itD_row, Bool.not_true, Bool.not_false, ev_iEn2, Net.Ok.at_lane hl, Net.Ok.at_row h1, ix_ent h2]
    exact ⟨k1, fun _ => k1⟩
  · intro s1 k1
    exact H _ _ (k1.trans (Kp.push _ _)) k1.1 at_push
theorem aims_lt {N : Net} {k u d : Nat} (h : d ∈ N.aims k u) : d < N.h := List.mem_range.mp (List.mem_filter.mp h).1
theorem aims_len (N : Net) (k u : Nat) : (N.aims k u).length ≤ N.h := Nat.le_trans (List.length_filter_le _ _) (by simp)
end
end Rm

namespace Rm
open PySem L2
section
variable {P : D → Sto → Prop} {ρ : Rm.Env} {st s s' : Sto} {r c : Nat}
theorem Dk.kp (a : Dk st r c s) (k : Kp any s s') : Dk st r c s' := ⟨a.deck.keep k (fr := any) trivial trivial, a.keep.trans (k.mono fun _ _ _ => trivial)⟩
theorem all2_nats {α : Type} {B : List Nat} : ∀ {xs : List α} {ys : List D}, All2 (fun _ y => ∃ d, y = nat d ∧ d ∈ B) xs ys → ∃ own : List Nat, ys = nats own ∧ ∀ d ∈ own, d ∈ B
  | _, _, .nil => ⟨[], rfl, fun _ h => by cases h⟩
  | _, _, .cons ⟨d, e, hd⟩ t => by
    obtain ⟨own, rfl, h⟩ := all2_nats t
    exact ⟨d :: own, by rw [e]; rfl, fun x hx => (List.mem_cons.mp hx).elim (fun q => q ▸ hd) (h x)⟩
theorem stand_ev {N : Net} {w : Nat} (dk : Deck st r c) (ok : N.Ok) (H : ∀ S s', StOk N S → Dk st r c s' → P (encRow S) s') : Ev (f_law_stand [.ref r, N.enc, nat w] st) P := by
  have lr := dk.lt_r
  have lc := dk.lt_c
  have h6 := ok.h6
  have hfew := ok.few
  unfold f_law_stand b_law_stand
  rw [ev_body, evs_seq]
  simp only [evs_asgN, ev_eLst, ev_aNil, ev_eVar, ev_e2, ev_e1, ev_eC, ev_eB, ev_eM, ev_eTup, ev_eLst, ev_eIf, ev_tb, ev_tbB, ev_and2, ev_or2, ev_not1, ev_eCall, ev_eCallK, ev_aCons, ev_aNil, ev_eSl, ev_oNone, ev_oSome, ev_iR1, ev_iSeq, ev_yes, ev_rg1, gN_at, gT_net, gT_lane, gT_tup, gsC_cons, gsN_nil, ex_asg, startD_1, startD_2, startD_3, startD_4, List.replicate, List.getElem?_cons_zero, List.getElem?_cons_succ, List.set_cons_zero, List.set_cons_succ, Option.some.injEq, exists_eq_left', exists_eq_left, exists_eq', List.length_cons, List.length_nil, true_and, and_true, List.cons.injEq, D.int.injEq, D.bl.injEq, D.ref.injEq, D.tup.injEq, Cell.lst.injEq, ix_net0, ix_net1, ix_net2, ix_lane0, ix_lane1, ix_lane2, os_lenT, os_lenL, os_tupL, os_tupT, os_lstT, os_lstL, os_ixT, at0, at1, at2, os_eqI, os_neI, os_eqS, os_neS, os_add, os_sub, os_mul, os_lt, os_le, os_gt, os_ge, os_int, os_intB, os_inN, permL, List.filterMap_cons, List.filterMap_nil, List.nil_append, List.cons_append, wipeD, decide_eq_true_eq, at_push, itD_ref, itD_tup, itD_kl, Nat.reduceAdd, Nat.reduceLT, and_self, Nat.zero_add, if_true, if_false, Bool.false_eq_true, size2, size3, size4, size1, size0, truth_bl, itD_row, Bool.not_true, Bool.not_false, ev_iEn2, os_lenRow, os_lenN, eq_tupNil, ne_tupNil]
  have d1 : Dk st r c (st ++ [.lst []]) := (Dk.refl dk).push _
  have e1 : (st ++ [Cell.lst []])[st.length]? = some (.lst []) := at_push
  generalize ha : st.length = a at *
  generalize st ++ [Cell.lst []] = s1 at *
  rw [evs_seq]
  refine evs_for ?_
  simp only [ev_eVar, ev_e2, ev_e1, ev_eC, ev_eB, ev_eM, ev_eTup, ev_eLst, ev_eIf, ev_tb, ev_tbB, ev_and2, ev_or2, ev_not1, ev_eCall, ev_eCallK, ev_aCons, ev_aNil, ev_eSl, ev_oNone, ev_oSome, ev_iR1, ev_iSeq, ev_yes, ev_rg1, gN_at, gT_net, gT_lane, gT_tup, gsC_cons, gsN_nil, ex_asg, startD_1, startD_2, startD_3, startD_4, List.replicate, List.getElem?_cons_zero, List.getElem?_cons_succ, List.set_cons_zero, List.set_cons_succ, Option.some.injEq, exists_eq_left', exists_eq_left, exists_eq', List.length_cons, List.length_nil, true_and, and_true, List.cons.injEq, D.int.injEq, D.bl.injEq, D.ref.injEq, D.tup.injEq, Cell.lst.injEq, ix_net0, ix_net1, ix_net2, ix_lane0, ix_lane1, ix_lane2, os_lenT, os_lenL, os_tupL, os_tupT, os_lstT, os_lstL, os_ixT, at0, at1, at2, os_eqI, os_neI, os_eqS, os_neS, os_add, os_sub, os_mul, os_lt, os_le, os_gt, os_ge, os_int, os_intB, os_inN, permL, List.filterMap_cons, List.filterMap_nil, List.nil_append, List.cons_append, wipeD, decide_eq_true_eq, at_push, itD_ref, itD_tup, itD_kl, Nat.reduceAdd, Nat.reduceLT, and_self, Nat.zero_add, if_true, if_false, Bool.false_eq_true, size2, size3, size4, size1, size0, truth_bl, itD_row, Bool.not_true, Bool.not_false, ev_iEn2, os_lenRow, os_lenN, eq_tupNil, ne_tupNil]
  refine ⟨fun i ρ s => ∃ (S : List (List Nat)) (t4 t5 t6 t7 t8 t9 t10 t11 t12 : Option D), ρ = [some (.ref r), some N.enc, some (nat w), some (.ref a), t4, t5, t6, t7, t8, t9, t10, t11, t12] ∧ S.length = i ∧ s[a]? = some (.lst (S.map fun own => .tup (nats own))) ∧
    (∀ (k : Nat) (own : List Nat) (l : Lane), S[k]? = some own → N.lanes[k]? = some l → own.length ≤ l.m ∧ ∀ d ∈ own, d ∈ N.aims k l.s) ∧ Dk st r c s, ⟨[], _, _, _, _, _, _, _, _, _, rfl, rfl, e1, fun k own l h => by simp at h, d1⟩, ?_, ?_⟩
  · rintro i d ρ1 s2 hd ⟨S, t4, t5, t6, t7, t8, t9, t10, t11, t12, rfl, hS, eS, fit, d2⟩
    obtain ⟨l, hl, rfl⟩ := en_at hd
    have ln := ok.lane l (List.mem_of_getElem? hl)
    have hi : i < N.lanes.length := (List.getElem?_eq_some_iff.mp hl).1
    refine ⟨trivial, ?_⟩
    simp only [ev_eVar, ev_e2, ev_e1, ev_eC, ev_eB, ev_eM, ev_eTup, ev_eLst, ev_eIf, ev_tb, ev_tbB, ev_and2, ev_or2, ev_not1, ev_eCall, ev_eCallK, ev_aCons, ev_aNil, ev_eSl, ev_oNone, ev_oSome, ev_iR1, ev_iSeq, ev_yes, ev_rg1, gN_at, gT_net, gT_lane, gT_tup, gsC_cons, gsN_nil, ex_asg, startD_1, startD_2, startD_3, startD_4, List.replicate, List.getElem?_cons_zero, List.getElem?_cons_succ, List.set_cons_zero, List.set_cons_succ, Option.some.injEq, exists_eq_left', exists_eq_left, exists_eq', List.length_cons, List.length_nil, true_and, and_true, List.cons.injEq, D.int.injEq, D.bl.injEq, D.ref.injEq, D.tup.injEq, Cell.lst.injEq, ix_net0, ix_net1, ix_net2, ix_lane0, ix_lane1, ix_lane2, os_lenT, os_lenL, os_tupL, os_tupT, os_lstT, os_lstL, os_ixT, at0, at1, at2, os_eqI, os_neI, os_eqS, os_neS, os_add, os_sub, os_mul, os_lt, os_le, os_gt, os_ge, os_int, os_intB, os_inN, permL, List.filterMap_cons, List.filterMap_nil, List.nil_append, List.cons_append, wipeD, decide_eq_true_eq, at_push, itD_ref, itD_tup, itD_kl, Nat.reduceAdd, Nat.reduceLT, and_self, Nat.zero_add, if_true, if_false, Bool.false_eq_true, size2, size3, size4, size1, size0, truth_bl, itD_row, Bool.not_true, Bool.not_false, ev_iEn2, os_lenRow, os_lenN, eq_tupNil, ne_tupNil]
    rw [evs_seq, evs_asgN]
    simp only [ev_eVar, ev_e2, ev_e1, ev_eC, ev_eB, ev_eM, ev_eTup, ev_eLst, ev_eIf, ev_tb, ev_tbB, ev_and2, ev_or2, ev_not1, ev_eCall, ev_eCallK, ev_aCons, ev_aNil, ev_eSl, ev_oNone, ev_oSome, ev_iR1, ev_iSeq, ev_yes, ev_rg1, gN_at, gT_net, gT_lane, gT_tup, gsC_cons, gsN_nil, ex_asg, startD_1, startD_2, startD_3, startD_4, List.replicate, List.getElem?_cons_zero, List.getElem?_cons_succ, List.set_cons_zero, List.set_cons_succ, Option.some.injEq, exists_eq_left', exists_eq_left, exists_eq', List.length_cons, List.length_nil, true_and, and_true, List.cons.injEq, D.int.injEq, D.bl.injEq, D.ref.injEq, D.tup.injEq, Cell.lst.injEq, ix_net0, ix_net1, ix_net2, ix_lane0, ix_lane1, ix_lane2, os_lenT, os_lenL, os_tupL, os_tupT, os_lstT, os_lstL, os_ixT, at0, at1, at2, os_eqI, os_neI, os_eqS, os_neS, os_add, os_sub, os_mul, os_lt, os_le, os_gt, os_ge, os_int, os_intB, os_inN, permL, List.filterMap_cons, List.filterMap_nil, List.nil_append, List.cons_append, wipeD, decide_eq_true_eq, at_push, itD_ref, itD_tup, itD_kl, Nat.reduceAdd, Nat.reduceLT, and_self, Nat.zero_add, if_true, if_false, Bool.false_eq_true, size2, size3, size4, size1, size0, truth_bl, itD_row, Bool.not_true, Bool.not_false, ev_iEn2, os_lenRow, os_lenN, eq_tupNil, ne_tupNil]
    refine served_ev ok hl fun s3 q k3 hq e3 => ?_
    have d3 := d2.kp k3
    have eS3 := k3.at eS trivial
    rw [evs_seq, evs_asgN]
    refine Ev.mono (P := fun d s' => ∃ m : Nat, d = nat m ∧ m ≤ l.m ∧ Dk s3 r c s') ?_ ?_
    · simp only [ev_body, evs_seq, evs_asgN, evs_ret, evs_expr, evs_if, evs_pass, evs_brk, evs_cnt, evs_par2, evs_par3, ev_eVar, ev_e2, ev_e1, ev_eC, ev_eB, ev_eM, ev_eTup, ev_eLst, ev_eIf, ev_tb, ev_tbB, ev_and2, ev_or2, ev_not1, ev_eCall, ev_eCallK, ev_aCons, ev_aNil, ev_eSl, ev_oNone, ev_oSome, ev_iR1, ev_iSeq, ev_yes, ev_rg1, gN_at, gT_net, gT_lane, gT_tup, gsC_cons, gsN_nil, ex_asg, startD_1, startD_2, startD_3, startD_4, List.replicate, List.getElem?_cons_zero, List.getElem?_cons_succ, List.set_cons_zero, List.set_cons_succ, Option.some.injEq, exists_eq_left', exists_eq_left, exists_eq', List.length_cons, List.length_nil, true_and, and_true, List.cons.injEq, D.int.injEq, D.bl.injEq, D.ref.injEq, D.tup.injEq, Cell.lst.injEq, ix_net0, ix_net1, ix_net2, ix_lane0, ix_lane1, ix_lane2, os_lenT, os_lenL, os_tupL, os_tupT, os_lstT, os_lstL, os_ixT, at0, at1, at2, os_eqI, os_neI, os_eqS, os_neS, os_add, os_sub, os_mul, os_lt, os_le, os_gt, os_ge, os_int, os_intB, os_inN, permL, List.filterMap_cons, List.filterMap_nil, List.nil_append, List.cons_append, wipeD, decide_eq_true_eq, at_push, itD_ref, itD_tup, itD_kl, Nat.reduceAdd, Nat.reduceLT, and_self, Nat.zero_add, if_true, if_false, Bool.false_eq_true, size2, size3, size4, size1, size0, truth_bl, itD_row, Bool.not_true, Bool.not_false, ev_iEn2, os_lenRow, os_lenN, eq_tupNil, ne_tupNil]
      split
      · refine draw_ev' d3.deck (by decide) (by decide) fun k1 s4 _ d4 => ?_
        simp only [ev_body, evs_seq, evs_asgN, evs_ret, evs_expr, evs_if, evs_pass, evs_brk, evs_cnt, evs_par2, evs_par3, ev_eVar, ev_e2, ev_e1, ev_eC, ev_eB, ev_eM, ev_eTup, ev_eLst, ev_eIf, ev_tb, ev_tbB, ev_and2, ev_or2, ev_not1, ev_eCall, ev_eCallK, ev_aCons, ev_aNil, ev_eSl, ev_oNone, ev_oSome, ev_iR1, ev_iSeq, ev_yes, ev_rg1, gN_at, gT_net, gT_lane, gT_tup, gsC_cons, gsN_nil, ex_asg, startD_1, startD_2, startD_3, startD_4, List.replicate, List.getElem?_cons_zero, List.getElem?_cons_succ, List.set_cons_zero, List.set_cons_succ, Option.some.injEq, exists_eq_left', exists_eq_left, exists_eq', List.length_cons, List.length_nil, true_and, and_true, List.cons.injEq, D.int.injEq, D.bl.injEq, D.ref.injEq, D.tup.injEq, Cell.lst.injEq, ix_net0, ix_net1, ix_net2, ix_lane0, ix_lane1, ix_lane2, os_lenT, os_lenL, os_tupL, os_tupT, os_lstT, os_lstL, os_ixT, at0, at1, at2, os_eqI, os_neI, os_eqS, os_neS, os_add, os_sub, os_mul, os_lt, os_le, os_gt, os_ge, os_int, os_intB, os_inN, permL, List.filterMap_cons, List.filterMap_nil, List.nil_append, List.cons_append, wipeD, decide_eq_true_eq, at_push, itD_ref, itD_tup, itD_kl, Nat.reduceAdd, Nat.reduceLT, and_self, Nat.zero_add, if_true, if_false, Bool.false_eq_true, size2, size3, size4, size1, size0, truth_bl, itD_row, Bool.not_true, Bool.not_false, ev_iEn2, os_lenRow, os_lenN, eq_tupNil, ne_tupNil]
        split
        · exact ⟨l.m, rfl, Nat.le_refl _, d4⟩
        · refine draw_ev' d4.deck (by omega) (by omega) fun k2 s5 hk2 d5 => ?_
          exact ⟨k2, rfl, by omega, d4.trans d5⟩
      · refine draw_ev' d3.deck (by omega) (by omega) fun k2 s5 hk2 d5 => ?_
        exact ⟨k2, rfl, by omega, d5⟩
    rintro _ s4 ⟨m, rfl, hm, d4⟩
    have ql : q ≠ r ∧ q ≠ c := by have := d2.keep.1; omega
    have e4 := d4.at e3 ql.1 ql.2
    have eS4 := d4.at eS3 (by omega) (by omega)
    have d24 := d3.trans d4
    simp only [ev_eVar, ev_e2, ev_e1, ev_eC, ev_eB, ev_eM, ev_eTup, ev_eLst, ev_eIf, ev_tb, ev_tbB, ev_and2, ev_or2, ev_not1, ev_eCall, ev_eCallK, ev_aCons, ev_aNil, ev_eSl, ev_oNone, ev_oSome, ev_iR1, ev_iSeq, ev_yes, ev_rg1, gN_at, gT_net, gT_lane, gT_tup, gsC_cons, gsN_nil, ex_asg, startD_1, startD_2, startD_3, startD_4, List.replicate, List.getElem?_cons_zero, List.getElem?_cons_succ, List.set_cons_zero, List.set_cons_succ, Option.some.injEq, exists_eq_left', exists_eq_left, exists_eq', List.length_cons, List.length_nil, true_and, and_true, List.cons.injEq, D.int.injEq, D.bl.injEq, D.ref.injEq, D.tup.injEq, Cell.lst.injEq, ix_net0, ix_net1, ix_net2, ix_lane0, ix_lane1, ix_lane2, os_lenT, os_lenL, os_tupL, os_tupT, os_lstT, os_lstL, os_ixT, at0, at1, at2, os_eqI, os_neI, os_eqS, os_neS, os_add, os_sub, os_mul, os_lt, os_le, os_gt, os_ge, os_int, os_intB, os_inN, permL, List.filterMap_cons, List.filterMap_nil, List.nil_append, List.cons_append, wipeD, decide_eq_true_eq, at_push, itD_ref, itD_tup, itD_kl, Nat.reduceAdd, Nat.reduceLT, and_self, Nat.zero_add, if_true, if_false, Bool.false_eq_true, size2, size3, size4, size1, size0, truth_bl, itD_row, Bool.not_true, Bool.not_false, ev_iEn2, os_lenRow, os_lenN, eq_tupNil, ne_tupNil]
    rw [evs_seq, evs_asgN]
    -- those that end elsewhere
    generalize hA : N.aims i l.s = A at *
    have hA6 : A.length ≤ 6 := by rw [← hA]; exact Nat.le_trans (aims_len _ _ _) h6
    refine ev_lcF A nat nat (fun d => decide (d ≠ l.e)) (fun s => Kp any s4 s) ?_
    simp only [ev_eVar, ev_e2, ev_e1, ev_eC, ev_eB, ev_eM, ev_eTup, ev_eLst, ev_eIf, ev_tb, ev_tbB, ev_and2, ev_or2, ev_not1, ev_eCall, ev_eCallK, ev_aCons, ev_aNil, ev_eSl, ev_oNone, ev_oSome, ev_iR1, ev_iSeq, ev_yes, ev_rg1, gN_at, gT_net, gT_lane, gT_tup, gsC_cons, gsN_nil, ex_asg, startD_1, startD_2, startD_3, startD_4, List.replicate, List.getElem?_cons_zero, List.getElem?_cons_succ, List.set_cons_zero, List.set_cons_succ, Option.some.injEq, exists_eq_left', exists_eq_left, exists_eq', List.length_cons, List.length_nil, true_and, and_true, List.cons.injEq, D.int.injEq, D.bl.injEq, D.ref.injEq, D.tup.injEq, Cell.lst.injEq, ix_net0, ix_net1, ix_net2, ix_lane0, ix_lane1, ix_lane2, os_lenT, os_lenL, os_tupL, os_tupT, os_lstT, os_lstL, os_ixT, at0, at1, at2, os_eqI, os_neI, os_eqS, os_neS, os_add, os_sub, os_mul, os_lt, os_le, os_gt, os_ge, os_int, os_intB, os_inN, permL, List.filterMap_cons, List.filterMap_nil, List.nil_append, List.cons_append, wipeD, decide_eq_true_eq, at_push, itD_ref, itD_tup, itD_kl, Nat.reduceAdd, Nat.reduceLT, and_self, Nat.zero_add, if_true, if_false, Bool.false_eq_true, size2, size3, size4, size1, size0, truth_bl, itD_row, Bool.not_true, Bool.not_false, ev_iEn2, os_lenRow, os_lenN, eq_tupNil, ne_tupNil]
    refine ⟨_, ⟨_, e4, rfl⟩, rfl, Kp.refl _, by omega, fun s k => k.at e4 trivial, ?_, ?_⟩
    · intro x hx s5 k5
      exact ⟨k5, ne_natB, fun _ => k5⟩
    intro s5 k5
    have d5 := d24.kp k5
    have e5 := k5.at e4 trivial
    have eS5 := k5.at eS4 trivial
    have f5 : s5.length ≠ r ∧ s5.length ≠ c := by have := d5.keep.1; omega
    have sub : ∀ x ∈ A.filter (fun d => decide (d ≠ l.e)), x ∈ A := fun x hx => (List.mem_filter.mp hx).1
    have len6 : (A.filter fun d => decide (d ≠ l.e)).length ≤ 6 := Nat.le_trans (List.length_filter_le _ _) hA6
    have e6 : (s5 ++ [Cell.lst ((A.filter fun d => decide (d ≠ l.e)).map nat)])[s5.length]? = some (.lst (nats (A.filter fun d => decide (d ≠ l.e)))) := at_push
    have e6' := at_app e5 (y := Cell.lst ((A.filter fun d => decide (d ≠ l.e)).map nat))
    have eS6 := at_app eS5 (y := Cell.lst ((A.filter fun d => decide (d ≠ l.e)).map nat))
    have d6 := d5.push (.lst ((A.filter fun d => decide (d ≠ l.e)).map nat))
    generalize (A.filter fun d => decide (d ≠ l.e)) = F at *
    generalize s5.length = f at *
    generalize s5 ++ [Cell.lst (F.map nat)] = s6 at *
    rw [evs_seq, evs_asgN]
    refine Ev.mono (P := fun d s' => ∃ (q' : Nat) (B : List Nat), d = .ref q' ∧ B.length ≤ 6 ∧ (∀ x ∈ B, x ∈ A) ∧ s'[q']? = some (.lst (nats B)) ∧ (q' ≠ r ∧ q' ≠ c) ∧ Dk st r c s' ∧ s'[a]? = some (.lst (S.map fun own => .tup (nats own)))) ?_ ?_
    · have keepA : ∀ s', Dk s6 r c s' → ∃ (q' : Nat) (B : List Nat), D.ref q = .ref q' ∧ B.length ≤ 6 ∧ (∀ x ∈ B, x ∈ A) ∧ s'[q']? = some (.lst (nats B)) ∧ (q' ≠ r ∧ q' ≠ c) ∧ Dk st r c s' ∧ s'[a]? = some (.lst (S.map fun own => .tup (nats own))) := fun s' d' =>
        ⟨q, A, rfl, hA6, fun _ h => h, d'.at e6' ql.1 ql.2, ql, d6.trans d', d'.at eS6 (by omega) (by omega)⟩
      simp only [ev_eIf, ev_and2, ev_tbB, ev_e2, ev_eVar, ev_eC, ev_eLst, ev_aNil, List.getElem?_cons_zero, List.getElem?_cons_succ, Option.some.injEq, exists_eq_left', os_eqI, D.bl.injEq]
      split
      · refine ⟨Nat.zero_le _, ?_⟩
        rw [ne_lstNil (at_app e6) at_push (pys_nats F) (sha_nats' F)]
        refine ⟨_, rfl, ?_⟩
        have d7 := d6.push (.lst [])
        have d67 := (Dk.refl d6.deck).push (.lst [])
        have e7 := at_app e6 (y := Cell.lst [])
        have eS7 := at_app eS6 (y := Cell.lst [])
        split
        · simp only [ev_body, evs_seq, evs_asgN, evs_ret, evs_expr, evs_if, evs_pass, evs_brk, evs_cnt, evs_par2, evs_par3, ev_eVar, ev_e2, ev_e1, ev_eC, ev_eB, ev_eM, ev_eTup, ev_eLst, ev_eIf, ev_tb, ev_tbB, ev_and2, ev_or2, ev_not1, ev_eCall, ev_eCallK, ev_aCons, ev_aNil, ev_eSl, ev_oNone, ev_oSome, ev_iR1, ev_iSeq, ev_yes, ev_rg1, gN_at, gT_net, gT_lane, gT_tup, gsC_cons, gsN_nil, ex_asg, startD_1, startD_2, startD_3, startD_4, List.replicate, List.getElem?_cons_zero, List.getElem?_cons_succ, List.set_cons_zero, List.set_cons_succ, Option.some.injEq, exists_eq_left', exists_eq_left, exists_eq', List.length_cons, List.length_nil, true_and, and_true, List.cons.injEq, D.int.injEq, D.bl.injEq, D.ref.injEq, D.tup.injEq, Cell.lst.injEq, ix_net0, ix_net1, ix_net2, ix_lane0, ix_lane1, ix_lane2, os_lenT, os_lenL, os_tupL, os_tupT, os_lstT, os_lstL, os_ixT, at0, at1, at2, os_eqI, os_neI, os_eqS, os_neS, os_add, os_sub, os_mul, os_lt, os_le, os_gt, os_ge, os_int, os_intB, os_inN, permL, List.filterMap_cons, List.filterMap_nil, List.nil_append, List.cons_append, wipeD, decide_eq_true_eq, at_push, itD_ref, itD_tup, itD_kl, Nat.reduceAdd, Nat.reduceLT, and_self, Nat.zero_add, if_true, if_false, Bool.false_eq_true, size2, size3, size4, size1, size0, truth_bl, itD_row, Bool.not_true, Bool.not_false, ev_iEn2, os_lenRow, os_lenN, eq_tupNil, ne_tupNil]
          refine draw_ev' d7.deck (by decide) (by decide) fun k7 s8 _ d8 => ?_
          simp only [ev_body, evs_seq, evs_asgN, evs_ret, evs_expr, evs_if, evs_pass, evs_brk, evs_cnt, evs_par2, evs_par3, ev_eVar, ev_e2, ev_e1, ev_eC, ev_eB, ev_eM, ev_eTup, ev_eLst, ev_eIf, ev_tb, ev_tbB, ev_and2, ev_or2, ev_not1, ev_eCall, ev_eCallK, ev_aCons, ev_aNil, ev_eSl, ev_oNone, ev_oSome, ev_iR1, ev_iSeq, ev_yes, ev_rg1, gN_at, gT_net, gT_lane, gT_tup, gsC_cons, gsN_nil, ex_asg, startD_1, startD_2, startD_3, startD_4, List.replicate, List.getElem?_cons_zero, List.getElem?_cons_succ, List.set_cons_zero, List.set_cons_succ, Option.some.injEq, exists_eq_left', exists_eq_left, exists_eq', List.length_cons, List.length_nil, true_and, and_true, List.cons.injEq, D.int.injEq, D.bl.injEq, D.ref.injEq, D.tup.injEq, Cell.lst.injEq, ix_net0, ix_net1, ix_net2, ix_lane0, ix_lane1, ix_lane2, os_lenT, os_lenL, os_tupL, os_tupT, os_lstT, os_lstL, os_ixT, at0, at1, at2, os_eqI, os_neI, os_eqS, os_neS, os_add, os_sub, os_mul, os_lt, os_le, os_gt, os_ge, os_int, os_intB, os_inN, permL, List.filterMap_cons, List.filterMap_nil, List.nil_append, List.cons_append, wipeD, decide_eq_true_eq, at_push, itD_ref, itD_tup, itD_kl, Nat.reduceAdd, Nat.reduceLT, and_self, Nat.zero_add, if_true, if_false, Bool.false_eq_true, size2, size3, size4, size1, size0, truth_bl, itD_row, Bool.not_true, Bool.not_false, ev_iEn2, os_lenRow, os_lenN, eq_tupNil, ne_tupNil]
          split
          · exact ⟨f, F, rfl, len6, sub, d8.at e7 f5.1 f5.2, f5, d7.trans d8, d8.at eS7 (by omega) (by omega)⟩
          · obtain ⟨q', B, h1, h2⟩ := keepA _ (d67.trans d8)
            exact ⟨q', B, D.ref.inj h1, h2⟩
        · exact keepA _ d67
      · exact keepA _ (Dk.refl d6.deck)
    rintro _ s7 ⟨q', B, rfl, hB6, hBA, e7, q7, d7, eS7⟩
    simp only [ev_eVar, ev_e2, ev_e1, ev_eC, ev_eB, ev_eM, ev_eTup, ev_eLst, ev_eIf, ev_tb, ev_tbB, ev_and2, ev_or2, ev_not1, ev_eCall, ev_eCallK, ev_aCons, ev_aNil, ev_eSl, ev_oNone, ev_oSome, ev_iR1, ev_iSeq, ev_yes, ev_rg1, gN_at, gT_net, gT_lane, gT_tup, gsC_cons, gsN_nil, ex_asg, startD_1, startD_2, startD_3, startD_4, List.replicate, List.getElem?_cons_zero, List.getElem?_cons_succ, List.set_cons_zero, List.set_cons_succ, Option.some.injEq, exists_eq_left', exists_eq_left, exists_eq', List.length_cons, List.length_nil, true_and, and_true, List.cons.injEq, D.int.injEq, D.bl.injEq, D.ref.injEq, D.tup.injEq, Cell.lst.injEq, ix_net0, ix_net1, ix_net2, ix_lane0, ix_lane1, ix_lane2, os_lenT, os_lenL, os_tupL, os_tupT, os_lstT, os_lstL, os_ixT, at0, at1, at2, os_eqI, os_neI, os_eqS, os_neS, os_add, os_sub, os_mul, os_lt, os_le, os_gt, os_ge, os_int, os_intB, os_inN, permL, List.filterMap_cons, List.filterMap_nil, List.nil_append, List.cons_append, wipeD, decide_eq_true_eq, at_push, itD_ref, itD_tup, itD_kl, Nat.reduceAdd, Nat.reduceLT, and_self, Nat.zero_add, if_true, if_false, Bool.false_eq_true, size2, size3, size4, size1, size0, truth_bl, itD_row, Bool.not_true, Bool.not_false, ev_iEn2, os_lenRow, os_lenN, eq_tupNil, ne_tupNil]
    simp only [evs_expr, ev_eM, ev_eVar, ev_aCons, ev_aNil, List.getElem?_cons_zero, List.getElem?_cons_succ, Option.some.injEq, exists_eq_left', ty_ref, eS7, Cell.lst.injEq, exists_eq', true_and]
    refine Ev.mono (P := fun d s' => ∃ own : List Nat, d = .tup (nats own) ∧ own.length ≤ l.m ∧ (∀ x ∈ own, x ∈ A) ∧ Dk st r c s' ∧ s'[a]? = some (.lst (S.map fun own => .tup (nats own)))) ?_ ?_
    · simp only [ev_eIf, ev_tbB, ev_e2, ev_eVar, ev_eC, ev_eLst, ev_aNil, ev_eTup, ev_eB, ev_aCons, List.getElem?_cons_zero, List.getElem?_cons_succ, Option.some.injEq, exists_eq_left', List.length_nil, Nat.zero_le, true_and]
      rw [ne_lstNil (at_app e7) at_push (pys_nats B) (sha_nats' B), nats_nil]
      refine ⟨_, rfl, ?_⟩
      have d8 := d7.push (.lst [])
      have e8 := at_app e7 (y := Cell.lst [])
      have eS8 := at_app eS7 (y := Cell.lst [])
      generalize s7 ++ [Cell.lst []] = s8 at *
      split
      · rename_i hne
        have hne : B ≠ [] := by simpa using hne
        refine ev_lcM (List.range m) nat ?_
        simp only [ev_eVar, ev_e2, ev_e1, ev_eC, ev_eB, ev_eM, ev_eTup, ev_eLst, ev_eIf, ev_tb, ev_tbB, ev_and2, ev_or2, ev_not1, ev_eCall, ev_eCallK, ev_aCons, ev_aNil, ev_eSl, ev_oNone, ev_oSome, ev_iR1, ev_iSeq, ev_yes, ev_rg1, gN_at, gT_net, gT_lane, gT_tup, gsC_cons, gsN_nil, ex_asg, startD_1, startD_2, startD_3, startD_4, List.replicate, List.getElem?_cons_zero, List.getElem?_cons_succ, List.set_cons_zero, List.set_cons_succ, Option.some.injEq, exists_eq_left', exists_eq_left, exists_eq', List.length_cons, List.length_nil, true_and, and_true, List.cons.injEq, D.int.injEq, D.bl.injEq, D.ref.injEq, D.tup.injEq, Cell.lst.injEq, ix_net0, ix_net1, ix_net2, ix_lane0, ix_lane1, ix_lane2, os_lenT, os_lenL, os_tupL, os_tupT, os_lstT, os_lstL, os_ixT, at0, at1, at2, os_eqI, os_neI, os_eqS, os_neS, os_add, os_sub, os_mul, os_lt, os_le, os_gt, os_ge, os_int, os_intB, os_inN, permL, List.filterMap_cons, List.filterMap_nil, List.nil_append, List.cons_append, wipeD, decide_eq_true_eq, at_push, itD_ref, itD_tup, itD_kl, Nat.reduceAdd, Nat.reduceLT, and_self, Nat.zero_add, if_true, if_false, Bool.false_eq_true, size2, size3, size4, size1, size0, truth_bl, itD_row, Bool.not_true, Bool.not_false, ev_iEn2, os_lenRow, os_lenN, eq_tupNil, ne_tupNil]
        refine ⟨by omega, fun s => Dk s8 r c s, fun _ => true, fun x y => ∃ d, y = nat d ∧ d ∈ B, rng_items m, Dk.refl d8.deck, by simp; omega, fun _ _ => trivial, ?_, ?_⟩
        · intro x hx s9 d9
          refine ⟨d9, rfl, fun _ => ?_⟩
          refine pick_ev d9.deck (.inr ⟨q', rfl, q7.1, q7.2, d9.at e8 q7.1 q7.2⟩) (by simpa [nats] using hne) (by simp [nats]; omega) fun k y s10 hk d10 => ?_
          obtain ⟨d, hd, rfl⟩ := List.mem_map.mp (List.mem_of_getElem? hk)
          exact ⟨d9.trans d10, d, rfl, hd⟩
        · intro ys s9 d9 hA2
          rw [filter_true] at hA2
          obtain ⟨own, rfl, hown⟩ := all2_nats hA2
          have len9 : own.length = m := by have := hA2.length; simp [nats] at this; omega
          exact ⟨own, rfl, by omega, fun x hx => hBA x (hown x hx), (d8.trans d9).push _, at_app (d9.at eS8 (by omega) (by omega))⟩
      · exact ⟨[], rfl, by simp, (fun _ h => by cases h), d8, eS8⟩
    rintro _ s8 ⟨own, rfl, hl8, hm8, d8, eS8⟩
    simp only [os_app, eS8, Option.some.injEq, Cell.lst.injEq, exists_eq_left']
    refine ⟨by rw [sizeLine_val, List.length_map]; omega, S ++ [own], _, _, _, _, _, _, _, _, _, rfl, by simp [hS], ?_, ?_, d8.set _ (by omega) (by omega) (by omega)⟩
    · rw [List.getElem?_set_self (lt_of_at eS8)]; simp
    · intro k own' l' hk hl'
      by_cases hlt : k < S.length
      · rw [List.getElem?_append_left hlt] at hk; exact fit k own' l' hk hl'
      · have hk2 := (List.getElem?_eq_some_iff.mp hk).1
        simp at hk2
        have : k = S.length := by omega
        subst this
        rw [List.getElem?_append_right (Nat.le_refl _)] at hk
        simp at hk
        subst hk
        rw [hS, hl] at hl'
        cases hl'
        rw [hS, hA]
        exact ⟨hl8, hm8⟩
  · rintro ρ1 s2 ⟨S, t4, t5, t6, t7, t8, t9, t10, t11, t12, rfl, hS, eS, fit, d2⟩
    refine ⟨trivial, ?_⟩
    simp only [ev_body, evs_seq, evs_asgN, evs_ret, evs_expr, evs_if, evs_pass, evs_brk, evs_cnt, evs_par2, evs_par3, ev_eVar, ev_e2, ev_e1, ev_eC, ev_eB, ev_eM, ev_eTup, ev_eLst, ev_eIf, ev_tb, ev_tbB, ev_and2, ev_or2, ev_not1, ev_eCall, ev_eCallK, ev_aCons, ev_aNil, ev_eSl, ev_oNone, ev_oSome, ev_iR1, ev_iSeq, ev_yes, ev_rg1, gN_at, gT_net, gT_lane, gT_tup, gsC_cons, gsN_nil, ex_asg, startD_1, startD_2, startD_3, startD_4, List.replicate, List.getElem?_cons_zero, List.getElem?_cons_succ, List.set_cons_zero, List.set_cons_succ, Option.some.injEq, exists_eq_left', exists_eq_left, exists_eq', List.length_cons, List.length_nil, true_and, and_true, List.cons.injEq, D.int.injEq, D.bl.injEq, D.ref.injEq, D.tup.injEq, Cell.lst.injEq, ix_net0, ix_net1, ix_net2, ix_lane0, ix_lane1, ix_lane2, os_lenT, os_lenL, os_tupL, os_tupT, os_lstT, os_lstL, os_ixT, at0, at1, at2, os_eqI, os_neI, os_eqS, os_neS, os_add, os_sub, os_mul, os_lt, os_le, os_gt, os_ge, os_int, os_intB, os_inN, permL, List.filterMap_cons, List.filterMap_nil, List.nil_append, List.cons_append, wipeD, decide_eq_true_eq, at_push, itD_ref, itD_tup, itD_kl, Nat.reduceAdd, Nat.reduceLT, and_self, Nat.zero_add, if_true, if_false, Bool.false_eq_true, size2, size3, size4, size1, size0, truth_bl, itD_row, Bool.not_true, Bool.not_false, ev_iEn2, os_lenRow, os_lenN, eq_tupNil, ne_tupNil, eS]
    exact H S s2 ⟨by rw [hS, en_len], fit⟩ d2
end
end Rm

namespace Rm
open PySem L2
/-! ## What can be done on a stand -/
def Net.lane (N : Net) (k : Nat) : Lane := N.lanes.getD k ⟨0, 0, 0⟩
def ownOf (S : List (List Nat)) (k : Nat) : List Nat := S.getD k []
def roomB (N : Net) (S : List (List Nat)) (j : Nat) : Bool := decide ((ownOf S j).length < (N.lane j).m)
def opens (N : Net) (S : List (List Nat)) (k a : Nat) : List Nat := (N.at (N.lane k).e a).filter (roomB N S)
def pairD (p : Nat × Nat) : D := .tup [nat p.1, nat p.2]
def onD (p : Nat × Nat) : D := .tup [.str "on", nat p.1, nat p.2]
def outD (p : Nat × Nat) : D := .tup [.str "out", nat p.1]
/-- lanes with letters, and the letter in front -/
def firsts (S : List (List Nat)) : List (Nat × Nat) := (S.zipIdx.filter fun p => decide (0 < p.1.length)).map fun p => (p.2, p.1.headD 0)
def onsOf (N : Net) (S : List (List Nat)) : List (Nat × Nat) := (firsts S).flatMap fun p => (opens N S p.1 p.2).map fun j => (p.1, j)
def outsOf (N : Net) (S : List (List Nat)) : List (Nat × Nat) := (firsts S).filter fun p => decide ((N.lane p.1).e = p.2)
section
variable {P : D → Sto → Prop} {ρ : Rm.Env} {st s s' : Sto} {r c : Nat} {N : Net} {S : List (List Nat)}
theorem Net.get (N : Net) {k : Nat} (hk : k < N.lanes.length) : N.lanes[k]? = some (N.lane k) := by
  unfold Net.lane; rw [List.getD_eq_getElem?_getD, List.getElem?_eq_getElem hk]; rfl
theorem own_get {k : Nat} (hk : k < S.length) : S[k]? = some (ownOf S k) := by
  unfold ownOf; rw [List.getD_eq_getElem?_getD, List.getElem?_eq_getElem hk]; rfl
theorem at_lanes {k : Nat} (hk : k < N.lanes.length) : atI (N.lanes.map Lane.enc) (k : Int) = some (N.lane k).enc := atI_map (N.get hk)
theorem ix_own {k : Nat} (hk : k < S.length) : OSat (ixD (encRow S) (nat k) s) P ↔ P (.tup (nats (ownOf S k))) s := ix_ent (own_get hk)
theorem room_ev {j : Nat} (hj : j < N.lanes.length) (hS : S.length = N.lanes.length) (H : P (.bl (roomB N S j)) st) : Ev (f_has_room [N.enc, encRow S, nat j] st) P := by
  unfold f_has_room b_has_room
  simp only [ev_body, evs_seq, evs_asgN, evs_ret, evs_expr, evs_if, evs_pass, evs_brk, evs_cnt, evs_par2, evs_par3, ev_eVar, ev_e2, ev_e1, ev_eC, ev_eB, ev_eM, ev_eTup, ev_eLst, ev_eIf, ev_tb, ev_tbB, ev_and2, ev_or2, ev_not1, ev_eCall, ev_eCallK, ev_aCons, ev_aNil, ev_eSl, ev_oNone, ev_oSome, ev_iR1, ev_iSeq, ev_yes, ev_rg1, gN_at, gT_net, gT_lane, gT_tup, gsC_cons, gsN_nil, ex_asg, startD_1, startD_2, startD_3, startD_4, List.replicate, List.getElem?_cons_zero, List.getElem?_cons_succ, List.set_cons_zero, List.set_cons_succ, Option.some.injEq, exists_eq_left', exists_eq_left, exists_eq', List.length_cons, List.length_nil, true_and, and_true, List.cons.injEq, D.int.injEq, D.bl.injEq, D.ref.injEq, D.tup.injEq, Cell.lst.injEq, ix_net0, ix_net1, ix_net2, ix_lane0, ix_lane1, ix_lane2, os_lenT, os_lenL, os_tupL, os_tupT, os_lstT, os_lstL, os_ixT, at0, at1, at2, os_eqI, os_neI, os_eqS, os_neS, os_add, os_sub, os_mul, os_lt, os_le, os_gt, os_ge, os_int, os_intB, os_inN, permL, List.filterMap_cons, List.filterMap_nil, List.nil_append, List.cons_append, wipeD, decide_eq_true_eq, at_push, itD_ref, itD_tup, itD_kl, Nat.reduceAdd, Nat.reduceLT, and_self, Nat.zero_add, if_true, if_false, Bool.false_eq_true, size2, size3, size4, size1, size0, truth_bl, itD_row, Bool.not_true, Bool.not_false, ev_iEn2, os_lenRow, os_lenN, eq_tupNil, ne_tupNil, ix_own (show j < S.length by omega), at_lanes hj]
  simpa [roomB, nats] using H
theorem home_ev {k a : Nat} (hk : k < N.lanes.length) (H : P (.bl (decide ((N.lane k).e = a))) st) : Ev (f_is_home [N.enc, nat k, nat a] st) P := by
  unfold f_is_home b_is_home
  simp only [ev_body, evs_seq, evs_asgN, evs_ret, evs_expr, evs_if, evs_pass, evs_brk, evs_cnt, evs_par2, evs_par3, ev_eVar, ev_e2, ev_e1, ev_eC, ev_eB, ev_eM, ev_eTup, ev_eLst, ev_eIf, ev_tb, ev_tbB, ev_and2, ev_or2, ev_not1, ev_eCall, ev_eCallK, ev_aCons, ev_aNil, ev_eSl, ev_oNone, ev_oSome, ev_iR1, ev_iSeq, ev_yes, ev_rg1, gN_at, gT_net, gT_lane, gT_tup, gsC_cons, gsN_nil, ex_asg, startD_1, startD_2, startD_3, startD_4, List.replicate, List.getElem?_cons_zero, List.getElem?_cons_succ, List.set_cons_zero, List.set_cons_succ, Option.some.injEq, exists_eq_left', exists_eq_left, exists_eq', List.length_cons, List.length_nil, true_and, and_true, List.cons.injEq, D.int.injEq, D.bl.injEq, D.ref.injEq, D.tup.injEq, Cell.lst.injEq, ix_net0, ix_net1, ix_net2, ix_lane0, ix_lane1, ix_lane2, os_lenT, os_lenL, os_tupL, os_tupT, os_lstT, os_lstL, os_ixT, at0, at1, at2, os_eqI, os_neI, os_eqS, os_neS, os_add, os_sub, os_mul, os_lt, os_le, os_gt, os_ge, os_int, os_intB, os_inN, permL, List.filterMap_cons, List.filterMap_nil, List.nil_append, List.cons_append, wipeD, decide_eq_true_eq, at_push, itD_ref, itD_tup, itD_kl, Nat.reduceAdd, Nat.reduceLT, and_self, Nat.zero_add, if_true, if_false, Bool.false_eq_true, size2, size3, size4, size1, size0, truth_bl, itD_row, Bool.not_true, Bool.not_false, ev_iEn2, os_lenRow, os_lenN, eq_tupNil, ne_tupNil, at_lanes hk, eq_natB]
  exact H
theorem at_lt (ok : N.Ok) {u d j : Nat} (hu : u < N.h) (hd : d < N.h) (hj : j ∈ N.at u d) : j < N.lanes.length := (ok.ent u d hu hd).lt hj
theorem ent_few (ok : N.Ok) {u d : Nat} (hu : u < N.h) (hd : d < N.h) : (N.at u d).length ≤ 16 := Nat.le_trans (ent_len (ok.ent u d hu hd)) ok.few
theorem Net.Ok.lane_ok (ok : N.Ok) {k : Nat} (hk : k < N.lanes.length) : (N.lane k).s < N.h ∧ (N.lane k).e < N.h ∧ (N.lane k).s ≠ (N.lane k).e ∧ 1 ≤ (N.lane k).m ∧ (N.lane k).m ≤ 4 := ok.lane _ (List.mem_of_getElem? (N.get hk))
theorem opens_ev (ok : N.Ok) (hS : S.length = N.lanes.length) {k a : Nat} (hk : k < N.lanes.length) (ha : a < N.h) (H : ∀ s' q, Kp any st s' → st.length ≤ q → s'[q]? = some (.lst (nats (opens N S k a))) → P (.ref q) s') : Ev (f_lanes_open [N.enc, encRow S, nat k, nat a] st) P := by
  have ln := ok.lane_ok hk
  unfold f_lanes_open b_lanes_open
  simp only [ev_body, evs_ret, startD_4]
  refine ev_lcF (N.at (N.lane k).e a) nat nat (roomB N S) (fun s => Kp any st s) ?_
  simp only [ev_body, evs_seq, evs_asgN, evs_ret, evs_expr, evs_if, evs_pass, evs_brk, evs_cnt, evs_par2, evs_par3, ev_eVar, ev_e2, ev_e1, ev_eC, ev_eB, ev_eM, ev_eTup, ev_eLst, ev_eIf, ev_tb, ev_tbB, ev_and2, ev_or2, ev_not1, ev_eCall, ev_eCallK, ev_aCons, ev_aNil, ev_eSl, ev_oNone, ev_oSome, ev_iR1, ev_iSeq, ev_yes, ev_rg1, gN_at, gT_net, gT_lane, gT_tup, gsC_cons, gsN_nil, ex_asg, startD_1, startD_2, startD_3, startD_4, List.replicate, List.getElem?_cons_zero, List.getElem?_cons_succ, List.set_cons_zero, List.set_cons_succ, Option.some.injEq, exists_eq_left', exists_eq_left, exists_eq', List.length_cons, List.length_nil, true_and, and_true, List.cons.injEq, D.int.injEq, D.bl.injEq, D.ref.injEq, D.tup.injEq, Cell.lst.injEq, ix_net0, ix_net1, ix_net2, ix_lane0, ix_lane1, ix_lane2, os_lenT, os_lenL, os_tupL, os_tupT, os_lstT, os_lstL, os_ixT, at0, at1, at2, os_eqI, os_neI, os_eqS, os_neS, os_add, os_sub, os_mul, os_lt, os_le, os_gt, os_ge, os_int, os_intB, os_inN, permL, List.filterMap_cons, List.filterMap_nil, List.nil_append, List.cons_append, wipeD, decide_eq_true_eq, at_push, itD_ref, itD_tup, itD_kl, Nat.reduceAdd, Nat.reduceLT, and_self, Nat.zero_add, if_true, if_false, Bool.false_eq_true, size2, size3, size4, size1, size0, truth_bl, itD_row, Bool.not_true, Bool.not_false, ev_iEn2, os_lenRow, os_lenN, eq_tupNil, ne_tupNil]
  refine ahead_ev ok (N.get hk) ha ?_
  refine ⟨_, rfl, rfl, Kp.refl _, by have := ent_few ok ln.2.1 ha; omega, fun _ _ => trivial, ?_, ?_⟩
  · intro j hj s1 k1
    refine room_ev (at_lt ok ln.2.1 ha hj) hS ?_
    simp only [ev_body, evs_seq, evs_asgN, evs_ret, evs_expr, evs_if, evs_pass, evs_brk, evs_cnt, evs_par2, evs_par3, ev_eVar, ev_e2, ev_e1, ev_eC, ev_eB, ev_eM, ev_eTup, ev_eLst, ev_eIf, ev_tb, ev_tbB, ev_and2, ev_or2, ev_not1, ev_eCall, ev_eCallK, ev_aCons, ev_aNil, ev_eSl, ev_oNone, ev_oSome, ev_iR1, ev_iSeq, ev_yes, ev_rg1, gN_at, gT_net, gT_lane, gT_tup, gsC_cons, gsN_nil, ex_asg, startD_1, startD_2, startD_3, startD_4, List.replicate, List.getElem?_cons_zero, List.getElem?_cons_succ, List.set_cons_zero, List.set_cons_succ, Option.some.injEq, exists_eq_left', exists_eq_left, exists_eq', List.length_cons, List.length_nil, true_and, and_true, List.cons.injEq, D.int.injEq, D.bl.injEq, D.ref.injEq, D.tup.injEq, Cell.lst.injEq, ix_net0, ix_net1, ix_net2, ix_lane0, ix_lane1, ix_lane2, os_lenT, os_lenL, os_tupL, os_tupT, os_lstT, os_lstL, os_ixT, at0, at1, at2, os_eqI, os_neI, os_eqS, os_neS, os_add, os_sub, os_mul, os_lt, os_le, os_gt, os_ge, os_int, os_intB, os_inN, permL, List.filterMap_cons, List.filterMap_nil, List.nil_append, List.cons_append, wipeD, decide_eq_true_eq, at_push, itD_ref, itD_tup, itD_kl, Nat.reduceAdd, Nat.reduceLT, and_self, Nat.zero_add, if_true, if_false, Bool.false_eq_true, size2, size3, size4, size1, size0, truth_bl, itD_row, Bool.not_true, Bool.not_false, ev_iEn2, os_lenRow, os_lenN, eq_tupNil, ne_tupNil]
    exact ⟨k1, fun _ => k1⟩
  · intro s1 k1
    exact H _ _ (k1.trans (Kp.push _ _)) k1.1 at_push
/-- numbered letters -/
def encP (p : List Nat × Nat) : D := .tup [nat p.2, .tup (nats p.1)]
theorem en_items {chk : Sto → Prop} : (enumD ⟨S.map fun own => .tup (nats own), chk⟩).items = S.zipIdx.map encP := by
  unfold enumD
  rw [List.zipIdx_map, List.map_map]
  rfl
theorem zip_mem {p : List Nat × Nat} (h : p ∈ S.zipIdx) : S[p.2]? = some p.1 := List.mem_zipIdx_iff_getElem?.mp h
theorem firsts_mem {p : Nat × Nat} (h : p ∈ firsts S) : p.1 < S.length ∧ ∃ r, ownOf S p.1 = p.2 :: r := by
  obtain ⟨x, hx, rfl⟩ := List.mem_map.mp h
  obtain ⟨h1, h2⟩ := List.mem_filter.mp hx
  have h3 := zip_mem h1
  have hk := (List.getElem?_eq_some_iff.mp h3).1
  refine ⟨hk, ?_⟩
  rw [own_get hk] at h3
  rw [Option.some.inj h3]
  obtain ⟨own, k⟩ := x
  cases own with
  | nil => simp at h2
  | cons y ys => exact ⟨ys, rfl⟩
theorem own_lt (ok : N.Ok) (so : StOk N S) {k d : Nat} (hk : k < S.length) (h : d ∈ ownOf S k) : d < N.h := aims_lt ((so.fit k _ _ (own_get hk) (N.get (by rw [← so.len]; exact hk))).2 d h)
theorem own_len (ok : N.Ok) (so : StOk N S) {k : Nat} (hk : k < S.length) : (ownOf S k).length ≤ 4 := by
  have h := N.get (k := k) (by rw [← so.len]; exact hk)
  have := (so.fit k _ _ (own_get hk) h).1
  have := (ok.lane _ (List.mem_of_getElem? h)).2.2.2.2
  omega
theorem firsts_len : (firsts S).length ≤ S.length := by
  unfold firsts
  rw [List.length_map]
  refine Nat.le_trans (List.length_filter_le _ _) (by simp)
end
end Rm

namespace Rm
open PySem L2
section
variable {P : D → Sto → Prop} {ρ : Rm.Env} {st s s' : Sto} {r c : Nat} {N : Net} {S : List (List Nat)}
theorem opens_few (ok : N.Ok) (hS : S.length = N.lanes.length) {k a : Nat} (hk : k < N.lanes.length) (ha : a < N.h) : (opens N S k a).length ≤ 16 :=
  Nat.le_trans (List.length_filter_le _ _) (ent_few ok (ok.lane_ok hk).2.1 ha)
theorem flat_le {α β : Type} {f : α → List β} {m : Nat} : ∀ {xs : List α}, (∀ x ∈ xs, (f x).length ≤ m) → (xs.flatMap f).length ≤ xs.length * m
  | [], _ => by simp
  | x :: xs, h => by
    rw [List.flatMap_cons, List.length_append, List.length_cons, Nat.succ_mul]
    have := flat_le fun y hy => h y (List.mem_cons_of_mem _ hy)
    have := h x List.mem_cons_self
    omega
theorem firsts_ok (ok : N.Ok) (so : StOk N S) {p : Nat × Nat} (h : p ∈ firsts S) : p.1 < N.lanes.length ∧ p.2 < N.h := by
  obtain ⟨h1, r, h2⟩ := firsts_mem h
  exact ⟨by rw [← so.len]; exact h1, own_lt ok so h1 (by rw [h2]; exact List.mem_cons_self)⟩
theorem moves_ev (ok : N.Ok) (so : StOk N S) (H : ∀ s', Kp any st s' → P (.tup ((onsOf N S).map onD ++ (outsOf N S).map outD)) s') : Ev (f_moves [N.enc, encRow S] st) P := by
  have hfew := ok.few
  have hlen := so.len
  unfold f_moves b_moves
  simp only [ev_body, evs_seq, evs_asgN, startD_2]
  refine ev_lcF S.zipIdx encP (fun p => pairD (p.2, p.1.headD 0)) (fun p => decide (0 < p.1.length)) (fun s => Kp any st s) ?_
  simp only [ev_eVar, ev_e2, ev_e1, ev_eC, ev_eB, ev_eM, ev_eTup, ev_eLst, ev_eIf, ev_tb, ev_tbB, ev_and2, ev_or2, ev_not1, ev_eCall, ev_eCallK, ev_aCons, ev_aNil, ev_eSl, ev_oNone, ev_oSome, ev_iR1, ev_iSeq, ev_yes, ev_rg1, gN_at, gT_net, gT_lane, gT_tup, gsC_cons, gsN_nil, ex_asg, startD_1, startD_2, startD_3, startD_4, List.replicate, List.getElem?_cons_zero, List.getElem?_cons_succ, List.set_cons_zero, List.set_cons_succ, Option.some.injEq, exists_eq_left', exists_eq_left, exists_eq', List.length_cons, List.length_nil, true_and, and_true, List.cons.injEq, D.int.injEq, D.bl.injEq, D.ref.injEq, D.tup.injEq, Cell.lst.injEq, ix_net0, ix_net1, ix_net2, ix_lane0, ix_lane1, ix_lane2, os_lenT, os_lenL, os_tupL, os_tupT, os_lstT, os_lstL, os_ixT, at0, at1, at2, os_eqI, os_neI, os_eqS, os_neS, os_add, os_sub, os_mul, os_lt, os_le, os_gt, os_ge, os_int, os_intB, os_inN, permL, List.filterMap_cons, List.filterMap_nil, List.nil_append, List.cons_append, wipeD, decide_eq_true_eq, at_push, itD_ref, itD_tup, itD_kl, Nat.reduceAdd, Nat.reduceLT, and_self, Nat.zero_add, if_true, if_false, Bool.false_eq_true, size2, size3, size4, size1, size0, truth_bl, itD_row, Bool.not_true, Bool.not_false, ev_iEn2, os_lenRow, os_lenN, eq_tupNil, ne_tupNil, ev_eAnd, ev_eOr, ev_eNot]
  refine ⟨en_items, Kp.refl _, by simp; omega, fun _ _ => trivial, ?_, ?_⟩
  · rintro ⟨own, k⟩ hp s1 k1
    simp only [encP, ev_body, evs_seq, evs_asgN, evs_ret, evs_expr, evs_if, evs_pass, evs_brk, evs_cnt, evs_par2, evs_par3, ev_eVar, ev_e2, ev_e1, ev_eC, ev_eB, ev_eM, ev_eTup, ev_eLst, ev_eIf, ev_tb, ev_tbB, ev_and2, ev_or2, ev_not1, ev_eCall, ev_eCallK, ev_aCons, ev_aNil, ev_eSl, ev_oNone, ev_oSome, ev_iR1, ev_iSeq, ev_yes, ev_rg1, gN_at, gT_net, gT_lane, gT_tup, gsC_cons, gsN_nil, ex_asg, startD_1, startD_2, startD_3, startD_4, List.replicate, List.getElem?_cons_zero, List.getElem?_cons_succ, List.set_cons_zero, List.set_cons_succ, Option.some.injEq, exists_eq_left', exists_eq_left, exists_eq', List.length_cons, List.length_nil, true_and, and_true, List.cons.injEq, D.int.injEq, D.bl.injEq, D.ref.injEq, D.tup.injEq, Cell.lst.injEq, ix_net0, ix_net1, ix_net2, ix_lane0, ix_lane1, ix_lane2, os_lenT, os_lenL, os_tupL, os_tupT, os_lstT, os_lstL, os_ixT, at0, at1, at2, os_eqI, os_neI, os_eqS, os_neS, os_add, os_sub, os_mul, os_lt, os_le, os_gt, os_ge, os_int, os_intB, os_inN, permL, List.filterMap_cons, List.filterMap_nil, List.nil_append, List.cons_append, wipeD, decide_eq_true_eq, at_push, itD_ref, itD_tup, itD_kl, Nat.reduceAdd, Nat.reduceLT, and_self, Nat.zero_add, if_true, if_false, Bool.false_eq_true, size2, size3, size4, size1, size0, truth_bl, itD_row, Bool.not_true, Bool.not_false, ev_iEn2, os_lenRow, os_lenN, eq_tupNil, ne_tupNil, ev_eAnd, ev_eOr, ev_eNot]
    refine ⟨k1, by simp [nats], fun h => ?_⟩
    cases own with
    | nil => simp [nats] at h
    | cons y ys => exact ⟨_, atI_0 rfl, k1, rfl⟩
  intro s1 k1
  have e2 : (s1 ++ [Cell.lst ((S.zipIdx.filter fun p => decide (0 < p.1.length)).map fun p => pairD (p.2, p.1.headD 0))])[s1.length]? = some (.lst ((firsts S).map pairD)) := by
    rw [at_push]; simp [firsts, List.map_map]
  have k2 := k1.trans (Kp.push s1 (.lst ((S.zipIdx.filter fun p => decide (0 < p.1.length)).map fun p => pairD (p.2, p.1.headD 0))) (fr := any))
  generalize s1 ++ [Cell.lst ((S.zipIdx.filter fun p => decide (0 < p.1.length)).map fun p => pairD (p.2, p.1.headD 0))] = s2 at *
  generalize s1.length = q at *
  have fl : (firsts S).length ≤ 16 := Nat.le_trans firsts_len (by omega)
  refine ev_lc2F (firsts S) pairD (fun _ => true) (fun p => opens N S p.1 p.2) nat (fun _ _ => true) (fun p j => onD (p.1, j)) (fun s => Kp any s2 s) ?_
  simp only [ev_eVar, ev_e2, ev_e1, ev_eC, ev_eB, ev_eM, ev_eTup, ev_eLst, ev_eIf, ev_tb, ev_tbB, ev_and2, ev_or2, ev_not1, ev_eCall, ev_eCallK, ev_aCons, ev_aNil, ev_eSl, ev_oNone, ev_oSome, ev_iR1, ev_iSeq, ev_yes, ev_rg1, gN_at, gT_net, gT_lane, gT_tup, gsC_cons, gsN_nil, ex_asg, startD_1, startD_2, startD_3, startD_4, List.replicate, List.getElem?_cons_zero, List.getElem?_cons_succ, List.set_cons_zero, List.set_cons_succ, Option.some.injEq, exists_eq_left', exists_eq_left, exists_eq', List.length_cons, List.length_nil, true_and, and_true, List.cons.injEq, D.int.injEq, D.bl.injEq, D.ref.injEq, D.tup.injEq, Cell.lst.injEq, ix_net0, ix_net1, ix_net2, ix_lane0, ix_lane1, ix_lane2, os_lenT, os_lenL, os_tupL, os_tupT, os_lstT, os_lstL, os_ixT, at0, at1, at2, os_eqI, os_neI, os_eqS, os_neS, os_add, os_sub, os_mul, os_lt, os_le, os_gt, os_ge, os_int, os_intB, os_inN, permL, List.filterMap_cons, List.filterMap_nil, List.nil_append, List.cons_append, wipeD, decide_eq_true_eq, at_push, itD_ref, itD_tup, itD_kl, Nat.reduceAdd, Nat.reduceLT, and_self, Nat.zero_add, if_true, if_false, Bool.false_eq_true, size2, size3, size4, size1, size0, truth_bl, itD_row, Bool.not_true, Bool.not_false, ev_iEn2, os_lenRow, os_lenN, eq_tupNil, ne_tupNil, ev_eAnd, ev_eOr, ev_eNot]
  refine ⟨_, ⟨_, e2, rfl⟩, rfl, Kp.refl _, ?_, fun s k => k.at e2 trivial, ?_, ?_⟩
  · have := flat_le (f := fun p => opens N S p.1 p.2) (m := 16) (xs := firsts S) fun p hp => opens_few ok so.len (firsts_ok ok so hp).1 (firsts_ok ok so hp).2
    omega
  · intro p hp s3 k3
    obtain ⟨h1, h2⟩ := firsts_ok ok so hp
    simp only [pairD, ev_body, evs_seq, evs_asgN, evs_ret, evs_expr, evs_if, evs_pass, evs_brk, evs_cnt, evs_par2, evs_par3, ev_eVar, ev_e2, ev_e1, ev_eC, ev_eB, ev_eM, ev_eTup, ev_eLst, ev_eIf, ev_tb, ev_tbB, ev_and2, ev_or2, ev_not1, ev_eCall, ev_eCallK, ev_aCons, ev_aNil, ev_eSl, ev_oNone, ev_oSome, ev_iR1, ev_iSeq, ev_yes, ev_rg1, gN_at, gT_net, gT_lane, gT_tup, gsC_cons, gsN_nil, ex_asg, startD_1, startD_2, startD_3, startD_4, List.replicate, List.getElem?_cons_zero, List.getElem?_cons_succ, List.set_cons_zero, List.set_cons_succ, Option.some.injEq, exists_eq_left', exists_eq_left, exists_eq', List.length_cons, List.length_nil, true_and, and_true, List.cons.injEq, D.int.injEq, D.bl.injEq, D.ref.injEq, D.tup.injEq, Cell.lst.injEq, ix_net0, ix_net1, ix_net2, ix_lane0, ix_lane1, ix_lane2, os_lenT, os_lenL, os_tupL, os_tupT, os_lstT, os_lstL, os_ixT, at0, at1, at2, os_eqI, os_neI, os_eqS, os_neS, os_add, os_sub, os_mul, os_lt, os_le, os_gt, os_ge, os_int, os_intB, os_inN, permL, List.filterMap_cons, List.filterMap_nil, List.nil_append, List.cons_append, wipeD, decide_eq_true_eq, at_push, itD_ref, itD_tup, itD_kl, Nat.reduceAdd, Nat.reduceLT, and_self, Nat.zero_add, if_true, if_false, Bool.false_eq_true, size2, size3, size4, size1, size0, truth_bl, itD_row, Bool.not_true, Bool.not_false, ev_iEn2, os_lenRow, os_lenN, eq_tupNil, ne_tupNil, ev_eAnd, ev_eOr, ev_eNot]
    refine ⟨k3, fun _ => opens_ev ok so.len h1 h2 fun s4 q4 k4 _ e4 => ?_⟩
    refine ⟨_, itD_ref.mpr ⟨_, e4, rfl⟩, rfl, fun s => Kp any s4 s, Kp.refl _, fun s k => ⟨(k3.trans k4).trans k, k.at e4 trivial⟩, fun j hj s5 k5 => ?_⟩
    simp only [ev_body, evs_seq, evs_asgN, evs_ret, evs_expr, evs_if, evs_pass, evs_brk, evs_cnt, evs_par2, evs_par3, ev_eVar, ev_e2, ev_e1, ev_eC, ev_eB, ev_eM, ev_eTup, ev_eLst, ev_eIf, ev_tb, ev_tbB, ev_and2, ev_or2, ev_not1, ev_eCall, ev_eCallK, ev_aCons, ev_aNil, ev_eSl, ev_oNone, ev_oSome, ev_iR1, ev_iSeq, ev_yes, ev_rg1, gN_at, gT_net, gT_lane, gT_tup, gsC_cons, gsN_nil, ex_asg, startD_1, startD_2, startD_3, startD_4, List.replicate, List.getElem?_cons_zero, List.getElem?_cons_succ, List.set_cons_zero, List.set_cons_succ, Option.some.injEq, exists_eq_left', exists_eq_left, exists_eq', List.length_cons, List.length_nil, true_and, and_true, List.cons.injEq, D.int.injEq, D.bl.injEq, D.ref.injEq, D.tup.injEq, Cell.lst.injEq, ix_net0, ix_net1, ix_net2, ix_lane0, ix_lane1, ix_lane2, os_lenT, os_lenL, os_tupL, os_tupT, os_lstT, os_lstL, os_ixT, at0, at1, at2, os_eqI, os_neI, os_eqS, os_neS, os_add, os_sub, os_mul, os_lt, os_le, os_gt, os_ge, os_int, os_intB, os_inN, permL, List.filterMap_cons, List.filterMap_nil, List.nil_append, List.cons_append, wipeD, decide_eq_true_eq, at_push, itD_ref, itD_tup, itD_kl, Nat.reduceAdd, Nat.reduceLT, and_self, Nat.zero_add, if_true, if_false, Bool.false_eq_true, size2, size3, size4, size1, size0, truth_bl, itD_row, Bool.not_true, Bool.not_false, ev_iEn2, os_lenRow, os_lenN, eq_tupNil, ne_tupNil, ev_eAnd, ev_eOr, ev_eNot]
    exact ⟨k5, fun _ => ⟨k5, rfl⟩⟩
  intro s3 k3
  have e3 : (s3 ++ [Cell.lst (((firsts S).filter fun _ => true).flatMap fun p => ((opens N S p.1 p.2).filter fun _ => true).map fun j => onD (p.1, j))])[s3.length]? = some (.lst ((onsOf N S).map onD)) := by
    rw [at_push, filter_true]
    congr 2
    unfold onsOf
    rw [List.map_flatMap]
    congr 1
    funext p
    rw [filter_true, List.map_map]
    rfl
  have e2' := at_app (k3.at e2 trivial) (y := Cell.lst (((firsts S).filter fun _ => true).flatMap fun p => ((opens N S p.1 p.2).filter fun _ => true).map fun j => onD (p.1, j)))
  have k3' := k3.trans (Kp.push s3 (Cell.lst (((firsts S).filter fun _ => true).flatMap fun p => ((opens N S p.1 p.2).filter fun _ => true).map fun j => onD (p.1, j))) (fr := any))
  generalize s3 ++ [Cell.lst (((firsts S).filter fun _ => true).flatMap fun p => ((opens N S p.1 p.2).filter fun _ => true).map fun j => onD (p.1, j))] = s4 at *
  generalize s3.length = q3 at *
  refine ev_lcF (firsts S) pairD outD (fun p => decide ((N.lane p.1).e = p.2)) (fun s => Kp any s4 s) ?_
  simp only [ev_eVar, ev_e2, ev_e1, ev_eC, ev_eB, ev_eM, ev_eTup, ev_eLst, ev_eIf, ev_tb, ev_tbB, ev_and2, ev_or2, ev_not1, ev_eCall, ev_eCallK, ev_aCons, ev_aNil, ev_eSl, ev_oNone, ev_oSome, ev_iR1, ev_iSeq, ev_yes, ev_rg1, gN_at, gT_net, gT_lane, gT_tup, gsC_cons, gsN_nil, ex_asg, startD_1, startD_2, startD_3, startD_4, List.replicate, List.getElem?_cons_zero, List.getElem?_cons_succ, List.set_cons_zero, List.set_cons_succ, Option.some.injEq, exists_eq_left', exists_eq_left, exists_eq', List.length_cons, List.length_nil, true_and, and_true, List.cons.injEq, D.int.injEq, D.bl.injEq, D.ref.injEq, D.tup.injEq, Cell.lst.injEq, ix_net0, ix_net1, ix_net2, ix_lane0, ix_lane1, ix_lane2, os_lenT, os_lenL, os_tupL, os_tupT, os_lstT, os_lstL, os_ixT, at0, at1, at2, os_eqI, os_neI, os_eqS, os_neS, os_add, os_sub, os_mul, os_lt, os_le, os_gt, os_ge, os_int, os_intB, os_inN, permL, List.filterMap_cons, List.filterMap_nil, List.nil_append, List.cons_append, wipeD, decide_eq_true_eq, at_push, itD_ref, itD_tup, itD_kl, Nat.reduceAdd, Nat.reduceLT, and_self, Nat.zero_add, if_true, if_false, Bool.false_eq_true, size2, size3, size4, size1, size0, truth_bl, itD_row, Bool.not_true, Bool.not_false, ev_iEn2, os_lenRow, os_lenN, eq_tupNil, ne_tupNil, ev_eAnd, ev_eOr, ev_eNot]
  refine ⟨_, ⟨_, e2', rfl⟩, rfl, Kp.refl _, by omega, fun s k => k.at e2' trivial, ?_, ?_⟩
  · intro p hp s5 k5
    obtain ⟨h1, h2⟩ := firsts_ok ok so hp
    simp only [pairD, ev_body, evs_seq, evs_asgN, evs_ret, evs_expr, evs_if, evs_pass, evs_brk, evs_cnt, evs_par2, evs_par3, ev_eVar, ev_e2, ev_e1, ev_eC, ev_eB, ev_eM, ev_eTup, ev_eLst, ev_eIf, ev_tb, ev_tbB, ev_and2, ev_or2, ev_not1, ev_eCall, ev_eCallK, ev_aCons, ev_aNil, ev_eSl, ev_oNone, ev_oSome, ev_iR1, ev_iSeq, ev_yes, ev_rg1, gN_at, gT_net, gT_lane, gT_tup, gsC_cons, gsN_nil, ex_asg, startD_1, startD_2, startD_3, startD_4, List.replicate, List.getElem?_cons_zero, List.getElem?_cons_succ, List.set_cons_zero, List.set_cons_succ, Option.some.injEq, exists_eq_left', exists_eq_left, exists_eq', List.length_cons, List.length_nil, true_and, and_true, List.cons.injEq, D.int.injEq, D.bl.injEq, D.ref.injEq, D.tup.injEq, Cell.lst.injEq, ix_net0, ix_net1, ix_net2, ix_lane0, ix_lane1, ix_lane2, os_lenT, os_lenL, os_tupL, os_tupT, os_lstT, os_lstL, os_ixT, at0, at1, at2, os_eqI, os_neI, os_eqS, os_neS, os_add, os_sub, os_mul, os_lt, os_le, os_gt, os_ge, os_int, os_intB, os_inN, permL, List.filterMap_cons, List.filterMap_nil, List.nil_append, List.cons_append, wipeD, decide_eq_true_eq, at_push, itD_ref, itD_tup, itD_kl, Nat.reduceAdd, Nat.reduceLT, and_self, Nat.zero_add, if_true, if_false, Bool.false_eq_true, size2, size3, size4, size1, size0, truth_bl, itD_row, Bool.not_true, Bool.not_false, ev_iEn2, os_lenRow, os_lenN, eq_tupNil, ne_tupNil, ev_eAnd, ev_eOr, ev_eNot]
    refine home_ev h1 ?_
    simp only [ev_body, evs_seq, evs_asgN, evs_ret, evs_expr, evs_if, evs_pass, evs_brk, evs_cnt, evs_par2, evs_par3, ev_eVar, ev_e2, ev_e1, ev_eC, ev_eB, ev_eM, ev_eTup, ev_eLst, ev_eIf, ev_tb, ev_tbB, ev_and2, ev_or2, ev_not1, ev_eCall, ev_eCallK, ev_aCons, ev_aNil, ev_eSl, ev_oNone, ev_oSome, ev_iR1, ev_iSeq, ev_yes, ev_rg1, gN_at, gT_net, gT_lane, gT_tup, gsC_cons, gsN_nil, ex_asg, startD_1, startD_2, startD_3, startD_4, List.replicate, List.getElem?_cons_zero, List.getElem?_cons_succ, List.set_cons_zero, List.set_cons_succ, Option.some.injEq, exists_eq_left', exists_eq_left, exists_eq', List.length_cons, List.length_nil, true_and, and_true, List.cons.injEq, D.int.injEq, D.bl.injEq, D.ref.injEq, D.tup.injEq, Cell.lst.injEq, ix_net0, ix_net1, ix_net2, ix_lane0, ix_lane1, ix_lane2, os_lenT, os_lenL, os_tupL, os_tupT, os_lstT, os_lstL, os_ixT, at0, at1, at2, os_eqI, os_neI, os_eqS, os_neS, os_add, os_sub, os_mul, os_lt, os_le, os_gt, os_ge, os_int, os_intB, os_inN, permL, List.filterMap_cons, List.filterMap_nil, List.nil_append, List.cons_append, wipeD, decide_eq_true_eq, at_push, itD_ref, itD_tup, itD_kl, Nat.reduceAdd, Nat.reduceLT, and_self, Nat.zero_add, if_true, if_false, Bool.false_eq_true, size2, size3, size4, size1, size0, truth_bl, itD_row, Bool.not_true, Bool.not_false, ev_iEn2, os_lenRow, os_lenN, eq_tupNil, ne_tupNil, ev_eAnd, ev_eOr, ev_eNot]
    exact ⟨k5, fun _ => ⟨k5, rfl⟩⟩
  intro s5 k5
  have e5 : (s5 ++ [Cell.lst (((firsts S).filter fun p => decide ((N.lane p.1).e = p.2)).map outD)])[s5.length]? = some (.lst ((outsOf N S).map outD)) := at_push
  have e3' := at_app (k5.at e3 trivial) (y := Cell.lst (((firsts S).filter fun p => decide ((N.lane p.1).e = p.2)).map outD))
  have k5' := k5.trans (Kp.push s5 (Cell.lst (((firsts S).filter fun p => decide ((N.lane p.1).e = p.2)).map outD)) (fr := any))
  generalize s5 ++ [Cell.lst (((firsts S).filter fun p => decide ((N.lane p.1).e = p.2)).map outD)] = s6 at *
  generalize s5.length = q5 at *
  simp only [ev_body, evs_seq, evs_asgN, evs_ret, evs_expr, evs_if, evs_pass, evs_brk, evs_cnt, evs_par2, evs_par3, ev_eVar, ev_e2, ev_e1, ev_eC, ev_eB, ev_eM, ev_eTup, ev_eLst, ev_eIf, ev_tb, ev_tbB, ev_and2, ev_or2, ev_not1, ev_eCall, ev_eCallK, ev_aCons, ev_aNil, ev_eSl, ev_oNone, ev_oSome, ev_iR1, ev_iSeq, ev_yes, ev_rg1, gN_at, gT_net, gT_lane, gT_tup, gsC_cons, gsN_nil, ex_asg, startD_1, startD_2, startD_3, startD_4, List.replicate, List.getElem?_cons_zero, List.getElem?_cons_succ, List.set_cons_zero, List.set_cons_succ, Option.some.injEq, exists_eq_left', exists_eq_left, exists_eq', List.length_cons, List.length_nil, true_and, and_true, List.cons.injEq, D.int.injEq, D.bl.injEq, D.ref.injEq, D.tup.injEq, Cell.lst.injEq, ix_net0, ix_net1, ix_net2, ix_lane0, ix_lane1, ix_lane2, os_lenT, os_lenL, os_tupL, os_tupT, os_lstT, os_lstL, os_ixT, at0, at1, at2, os_eqI, os_neI, os_eqS, os_neS, os_add, os_sub, os_mul, os_lt, os_le, os_gt, os_ge, os_int, os_intB, os_inN, permL, List.filterMap_cons, List.filterMap_nil, List.nil_append, List.cons_append, wipeD, decide_eq_true_eq, at_push, itD_ref, itD_tup, itD_kl, Nat.reduceAdd, Nat.reduceLT, and_self, Nat.zero_add, if_true, if_false, Bool.false_eq_true, size2, size3, size4, size1, size0, truth_bl, itD_row, Bool.not_true, Bool.not_false, ev_iEn2, os_lenRow, os_lenN, eq_tupNil, ne_tupNil, ev_eAnd, ev_eOr, ev_eNot]
  have ol : (onsOf N S).length ≤ 256 := by
    unfold onsOf
    have := flat_le (f := fun p : Nat × Nat => (opens N S p.1 p.2).map fun j => (p.1, j)) (m := 16) (xs := firsts S) fun p hp => by rw [List.length_map]; exact opens_few ok so.len (firsts_ok ok so hp).1 (firsts_ok ok so hp).2
    omega
  have ul : (outsOf N S).length ≤ 16 := Nat.le_trans (List.length_filter_le _ _) fl
  rw [os_addL e3' e5]
  refine ⟨by rw [sizeLine_val, List.length_map, List.length_map]; omega, ?_⟩
  simp only [ev_body, evs_seq, evs_asgN, evs_ret, evs_expr, evs_if, evs_pass, evs_brk, evs_cnt, evs_par2, evs_par3, ev_eVar, ev_e2, ev_e1, ev_eC, ev_eB, ev_eM, ev_eTup, ev_eLst, ev_eIf, ev_tb, ev_tbB, ev_and2, ev_or2, ev_not1, ev_eCall, ev_eCallK, ev_aCons, ev_aNil, ev_eSl, ev_oNone, ev_oSome, ev_iR1, ev_iSeq, ev_yes, ev_rg1, gN_at, gT_net, gT_lane, gT_tup, gsC_cons, gsN_nil, ex_asg, startD_1, startD_2, startD_3, startD_4, List.replicate, List.getElem?_cons_zero, List.getElem?_cons_succ, List.set_cons_zero, List.set_cons_succ, Option.some.injEq, exists_eq_left', exists_eq_left, exists_eq', List.length_cons, List.length_nil, true_and, and_true, List.cons.injEq, D.int.injEq, D.bl.injEq, D.ref.injEq, D.tup.injEq, Cell.lst.injEq, ix_net0, ix_net1, ix_net2, ix_lane0, ix_lane1, ix_lane2, os_lenT, os_lenL, os_tupL, os_tupT, os_lstT, os_lstL, os_ixT, at0, at1, at2, os_eqI, os_neI, os_eqS, os_neS, os_add, os_sub, os_mul, os_lt, os_le, os_gt, os_ge, os_int, os_intB, os_inN, permL, List.filterMap_cons, List.filterMap_nil, List.nil_append, List.cons_append, wipeD, decide_eq_true_eq, at_push, itD_ref, itD_tup, itD_kl, Nat.reduceAdd, Nat.reduceLT, and_self, Nat.zero_add, if_true, if_false, Bool.false_eq_true, size2, size3, size4, size1, size0, truth_bl, itD_row, Bool.not_true, Bool.not_false, ev_iEn2, os_lenRow, os_lenN, eq_tupNil, ne_tupNil, ev_eAnd, ev_eOr, ev_eNot]
  exact H _ (((k2.trans k3').trans k5').trans (Kp.push _ _))
theorem eqvAll_map {α : Type} [DecidableEq α] {f : α → PyData} (h : ∀ x y, PyData.eqv (f x) (f y) = decide (x = y)) : ∀ xs ys : List α, PyData.eqvAll (xs.map f) (ys.map f) = decide (xs = ys)
  | [], [] => rfl
  | [], _ :: _ => rfl
  | _ :: _, [] => rfl
  | x :: xs, y :: ys => by
    simp only [List.map_cons, PyData.eqvAll]
    rw [h, eqvAll_map h xs ys]
    by_cases h1 : x = y <;> by_cases h2 : xs = ys <;> simp [h1, h2]
theorem eqv_nat (x y : Nat) : PyData.eqv (.int (x : Int)) (.int (y : Int)) = decide (x = y) := by simp only [PyData.eqv]; exact eq_natB
theorem eqv_ent (a b : List Nat) : PyData.eqv (pyE a) (pyE b) = decide (a = b) := by
  unfold pyE; simp only [PyData.eqv]; exact eqvAll_map eqv_nat a b
theorem eqv_row (a b : List (List Nat)) : PyData.eqv (pyRow a) (pyRow b) = decide (a = b) := by
  unfold pyRow; simp only [PyData.eqv]; exact eqvAll_map eqv_ent a b
@[simp] theorem os_neRow {a b : List (List Nat)} : OSat (neO (encRow a) (encRow b) s) P ↔ P (.bl (!decide (a = b))) s := by
  rw [os_neP ((py_row a).mono (by decide)) ((py_row b).mono (by decide)) (sha_row a) (sha_row b) (by decide) (by decide) (by simp [encRow]), eqv_row]
@[simp] theorem os_eqRow {a b : List (List Nat)} : OSat (eqO (encRow a) (encRow b) s) P ↔ P (.bl (decide (a = b))) s := by
  rw [os_eqP ((py_row a).mono (by decide)) ((py_row b).mono (by decide)) (sha_row a) (sha_row b) (by decide) (by decide) (by simp [encRow]), eqv_row]
theorem pys_nilB {ds : List D} {ps : List PyData} (hp : Pys s 49 ds ps) : ps.isEmpty = decide (ds = []) := by
  have q := hp 49 (Nat.le_refl _)
  cases ds with
  | nil => cases (Option.some.inj q); rfl
  | cons d ds =>
    cases ps with
    | nil =>
      simp only [mapO] at q
      rcases hx : toPy s 49 d with _ | x <;> rw [hx] at q
      · simp at q
      · rcases hy : mapO (toPy s 49) ds with _ | y <;> rw [hy] at q <;> simp at q
    | cons p ps => rfl
/-- is a tuple empty: items that are data -/
theorem eq_tupNilG {ds : List D} {ps : List PyData} {k : Nat} (hp : Pys s 49 ds ps) (hs : ∀ p ∈ ps, Sha k p) (hk : k ≤ 63 := by decide) : OSat (eqO (.tup ds) (.tup []) s) P ↔ P (.bl (decide (ds = []))) s := by
  rw [os_eqP (k := 64) (j := 64) (py_tup hp) (py_tup (k := 49) pys_nil) ((sha_tup hs).mono (by omega)) ((sha_tup (k := 0) (ps := []) fun _ h => by cases h).mono (by decide)) (by decide) (by decide)]
  rw [← pys_nilB hp, ← eqvAll_nil]
  exact Iff.rfl
def pyOn (p : Nat × Nat) : PyData := .tuple [.str "on", .int (p.1 : Int), .int (p.2 : Int)]
def pyOut (p : Nat × Nat) : PyData := .tuple [.str "out", .int (p.1 : Int)]
theorem py_on (p : Nat × Nat) : Py s 2 (onD p) (pyOn p) := py_tup (pys_cons (py_str _) (pys_cons (py_int _) (pys_cons (py_int _) pys_nil)))
theorem py_out (p : Nat × Nat) : Py s 2 (outD p) (pyOut p) := py_tup (pys_cons (py_str _) (pys_cons (py_int _) pys_nil))
theorem sha_on (p : Nat × Nat) : Sha 1 (pyOn p) := sha_tup fun q hq => by
  simp only [List.mem_cons, List.not_mem_nil, or_false] at hq
  rcases hq with rfl | rfl | rfl
  · exact ⟨by decide +kernel, by decide⟩
  · exact sha_int _
  · exact sha_int _
theorem sha_out (p : Nat × Nat) : Sha 1 (pyOut p) := sha_tup fun q hq => by
  simp only [List.mem_cons, List.not_mem_nil, or_false] at hq
  rcases hq with rfl | rfl
  · exact ⟨by decide +kernel, by decide⟩
  · exact sha_int _
theorem pys_append {k : Nat} : ∀ {ds es : List D} {ps qs : List PyData}, Pys s k ds ps → Pys s k es qs → Pys s k (ds ++ es) (ps ++ qs) := by
  intro ds
  induction ds with
  | nil =>
    intro es ps qs h1 h2 n hn
    have := h1 n hn
    simp only [mapO, Option.some.injEq] at this
    subst this
    exact h2 n hn
  | cons d ds ih =>
    intro es ps qs h1 h2 n hn
    have q := h1 n hn
    simp only [mapO] at q
    rcases hx : toPy s n d with _ | x <;> rw [hx] at q
    · simp at q
    · rcases hy : mapO (toPy s n) ds with _ | y <;> rw [hy] at q
      · simp at q
      · simp at q
        subst q
        have h3 : mapO (toPy s n) (ds ++ es) = some (y ++ qs) := by
          have : ∀ {ds : List D} {y : List PyData}, mapO (toPy s n) ds = some y → mapO (toPy s n) (ds ++ es) = some (y ++ qs) := by
            intro ds
            induction ds with
            | nil => intro y h; simp only [mapO, Option.some.injEq] at h; subst h; exact h2 n hn
            | cons e ds ih2 =>
              intro y h
              simp only [mapO] at h
              rcases ha : toPy s n e with _ | a <;> rw [ha] at h
              · simp at h
              · rcases hb : mapO (toPy s n) ds with _ | b <;> rw [hb] at h
                · simp at h
                · simp at h
                  subst h
                  simp only [List.cons_append, mapO, ha, ih2 hb]; rfl
          exact this hy
        simp only [List.cons_append, mapO, hx, h3]; rfl
end
end Rm

namespace Rm
open PySem L2
section
variable {P : D → Sto → Prop} {ρ : Rm.Env} {st s s' : Sto} {r c : Nat} {N : Net} {S : List (List Nat)}
/-- no letter lies there -/
def bareB (S : List (List Nat)) : Bool := decide (∀ own ∈ S, own = [])
theorem bare_iff (hS : S.length = N.lanes.length) : decide (S = List.replicate N.lanes.length []) = bareB S := by
  unfold bareB
  have : (S = List.replicate N.lanes.length []) ↔ ∀ own ∈ S, own = [] := by
    rw [← hS, List.eq_replicate_iff]; simp
  simp only [this]
def stuckB (N : Net) (S : List (List Nat)) : Bool := !bareB S && (decide (onsOf N S = []) && decide (outsOf N S = []))
theorem flat_one {α : Type} (a : α) (n : Nat) : (List.replicate n [a]).flatten = List.replicate n a := by
  induction n with
  | zero => rfl
  | succ n ih => rw [List.replicate_succ, List.flatten_cons, ih]; rfl
theorem empty_ev (ok : N.Ok) (H : P (encRow (List.replicate N.lanes.length [])) st) : Ev (f_empty [N.enc] st) P := by
  have := ok.few
  unfold f_empty b_empty
  simp only [ev_body, evs_seq, evs_asgN, evs_ret, evs_expr, evs_if, evs_pass, evs_brk, evs_cnt, evs_par2, evs_par3, ev_eVar, ev_e2, ev_e1, ev_eC, ev_eB, ev_eM, ev_eTup, ev_eLst, ev_eIf, ev_tb, ev_tbB, ev_and2, ev_or2, ev_not1, ev_eCall, ev_eCallK, ev_aCons, ev_aNil, ev_eSl, ev_oNone, ev_oSome, ev_iR1, ev_iSeq, ev_yes, ev_rg1, gN_at, gT_net, gT_lane, gT_tup, gsC_cons, gsN_nil, ex_asg, startD_1, startD_2, startD_3, startD_4, List.replicate, List.getElem?_cons_zero, List.getElem?_cons_succ, List.set_cons_zero, List.set_cons_succ, Option.some.injEq, exists_eq_left', exists_eq_left, exists_eq', List.length_cons, List.length_nil, true_and, and_true, List.cons.injEq, D.int.injEq, D.bl.injEq, D.ref.injEq, D.tup.injEq, Cell.lst.injEq, ix_net0, ix_net1, ix_net2, ix_lane0, ix_lane1, ix_lane2, os_lenT, os_lenL, os_tupL, os_tupT, os_lstT, os_lstL, os_ixT, at0, at1, at2, os_eqI, os_neI, os_eqS, os_neS, os_add, os_sub, os_mul, os_lt, os_le, os_gt, os_ge, os_int, os_intB, os_inN, permL, List.filterMap_cons, List.filterMap_nil, List.nil_append, List.cons_append, wipeD, decide_eq_true_eq, at_push, itD_ref, itD_tup, itD_kl, Nat.reduceAdd, Nat.reduceLT, and_self, Nat.zero_add, if_true, if_false, Bool.false_eq_true, size2, size3, size4, size1, size0, truth_bl, itD_row, Bool.not_true, Bool.not_false, ev_iEn2, os_lenRow, os_lenN, eq_tupNil, ne_tupNil, ev_eAnd, ev_eOr, ev_eNot, List.length_map, os_mulT, Nat.zero_le]
  refine ⟨⟨by simp, by omega, by omega, by simp⟩, ?_⟩
  rw [show ((N.lanes.length : Int)).toNat = N.lanes.length by simp, flat_one]
  have e : encRow (List.replicate N.lanes.length []) = D.tup (List.replicate N.lanes.length (D.tup [])) := by simp [encRow, nats]
  rw [← e]; exact H
theorem stuck_ev (ok : N.Ok) (so : StOk N S) (H : ∀ s', Kp any st s' → P (.bl (stuckB N S)) s') : Ev (f_stuck [N.enc, encRow S] st) P := by
  unfold f_stuck b_stuck
  simp only [ev_body, evs_seq, evs_asgN, evs_ret, evs_expr, evs_if, evs_pass, evs_brk, evs_cnt, evs_par2, evs_par3, ev_eVar, ev_e2, ev_e1, ev_eC, ev_eB, ev_eM, ev_eTup, ev_eLst, ev_eIf, ev_tb, ev_tbB, ev_and2, ev_or2, ev_not1, ev_eCall, ev_eCallK, ev_aCons, ev_aNil, ev_eSl, ev_oNone, ev_oSome, ev_iR1, ev_iSeq, ev_yes, ev_rg1, gN_at, gT_net, gT_lane, gT_tup, gsC_cons, gsN_nil, ex_asg, startD_1, startD_2, startD_3, startD_4, List.replicate, List.getElem?_cons_zero, List.getElem?_cons_succ, List.set_cons_zero, List.set_cons_succ, Option.some.injEq, exists_eq_left', exists_eq_left, exists_eq', List.length_cons, List.length_nil, true_and, and_true, List.cons.injEq, D.int.injEq, D.bl.injEq, D.ref.injEq, D.tup.injEq, Cell.lst.injEq, ix_net0, ix_net1, ix_net2, ix_lane0, ix_lane1, ix_lane2, os_lenT, os_lenL, os_tupL, os_tupT, os_lstT, os_lstL, os_ixT, at0, at1, at2, os_eqI, os_neI, os_eqS, os_neS, os_add, os_sub, os_mul, os_lt, os_le, os_gt, os_ge, os_int, os_intB, os_inN, permL, List.filterMap_cons, List.filterMap_nil, List.nil_append, List.cons_append, wipeD, decide_eq_true_eq, at_push, itD_ref, itD_tup, itD_kl, Nat.reduceAdd, Nat.reduceLT, and_self, Nat.zero_add, if_true, if_false, Bool.false_eq_true, size2, size3, size4, size1, size0, truth_bl, itD_row, Bool.not_true, Bool.not_false, ev_iEn2, os_lenRow, os_lenN, eq_tupNil, ne_tupNil, ev_eAnd, ev_eOr, ev_eNot]
  refine empty_ev ok ?_
  rw [os_neRow, bare_iff so.len]
  refine ⟨_, rfl, ?_⟩
  unfold stuckB at H
  cases hb : bareB S with
  | true =>
    rw [if_neg (by simp)]
    rw [hb] at H
    exact H st (Kp.refl _)
  | false =>
    rw [if_pos (by simp)]
    rw [hb] at H
    refine moves_ev ok so fun s1 k1 => ?_
    rw [eq_tupNilG (k := 1) (pys_append (ps := (onsOf N S).map pyOn) (qs := (outsOf N S).map pyOut) ((pys_map _ fun p _ => py_on p).mono (by decide)) ((pys_map _ fun p _ => py_out p).mono (by decide))) (fun p hp => by
      rcases List.mem_append.mp hp with h | h
      · obtain ⟨x, _, rfl⟩ := List.mem_map.mp h; exact sha_on x
      · obtain ⟨x, _, rfl⟩ := List.mem_map.mp h; exact sha_out x)]
    have e : decide ((onsOf N S).map onD ++ (outsOf N S).map outD = []) = (!false && (decide (onsOf N S = []) && decide (outsOf N S = []))) := by
      simp [List.append_eq_nil_iff, Bool.decide_and]
    rw [e]
    exact H s1 k1
/-- each letter that lies there, with its lane -/
def lettersOf (S : List (List Nat)) : List (Nat × Nat) := S.zipIdx.flatMap fun p => p.1.map fun d => (p.2, d)
def looseB (N : Net) (S : List (List Nat)) (p : Nat × Nat) : Bool := decide ((N.lane p.1).e = p.2) || decide (0 < (opens N S p.1 p.2).length)
def fastB (N : Net) (S : List (List Nat)) : Bool := decide (0 < (lettersOf S).length) && decide ((lettersOf S).filter (looseB N S) = [])
theorem letters_mem {p : Nat × Nat} (h : p ∈ lettersOf S) : p.1 < S.length ∧ p.2 ∈ ownOf S p.1 := by
  obtain ⟨x, hx, hp⟩ := List.mem_flatMap.mp h
  obtain ⟨d, hd, rfl⟩ := List.mem_map.mp hp
  have h3 := zip_mem hx
  have hk := (List.getElem?_eq_some_iff.mp h3).1
  rw [own_get hk] at h3
  exact ⟨hk, by rw [Option.some.inj h3]; exact hd⟩
theorem letters_ok (ok : N.Ok) (so : StOk N S) {p : Nat × Nat} (h : p ∈ lettersOf S) : p.1 < N.lanes.length ∧ p.2 < N.h :=
  ⟨by rw [← so.len]; exact (letters_mem h).1, own_lt ok so (letters_mem h).1 (letters_mem h).2⟩
theorem zip_len (ok : N.Ok) (so : StOk N S) {p : List Nat × Nat} (h : p ∈ S.zipIdx) : p.1.length ≤ 4 := by
  have h3 := zip_mem h
  have hk := (List.getElem?_eq_some_iff.mp h3).1
  rw [own_get hk] at h3
  have := own_len ok so hk
  rw [Option.some.inj h3] at this
  exact this
theorem letters_len (ok : N.Ok) (so : StOk N S) : (lettersOf S).length ≤ 64 := by
  have := flat_le (f := fun p : List Nat × Nat => p.1.map fun d => (p.2, d)) (m := 4) (xs := S.zipIdx) fun p hp => by rw [List.length_map]; exact zip_len ok so hp
  have h2 : S.zipIdx.length ≤ 16 := by rw [List.length_zipIdx, so.len]; exact ok.few
  unfold lettersOf
  omega
theorem fast_ev (ok : N.Ok) (so : StOk N S) (H : ∀ s', Kp any st s' → P (.bl (fastB N S)) s') : Ev (f_held_fast [N.enc, encRow S] st) P := by
  unfold f_held_fast b_held_fast
  have hfew := ok.few
  have hlen := so.len
  simp only [ev_body, evs_seq, evs_asgN, startD_2]
  refine ev_lc2F S.zipIdx encP (fun _ => true) (fun p => p.1) nat (fun _ _ => true) (fun p d => pairD (p.2, d)) (fun s => Kp any st s) ?_
  simp only [ev_eVar, ev_e2, ev_e1, ev_eC, ev_eB, ev_eM, ev_eTup, ev_eLst, ev_eIf, ev_tb, ev_tbB, ev_and2, ev_or2, ev_not1, ev_eCall, ev_eCallK, ev_aCons, ev_aNil, ev_eSl, ev_oNone, ev_oSome, ev_iR1, ev_iSeq, ev_yes, ev_rg1, gN_at, gT_net, gT_lane, gT_tup, gsC_cons, gsN_nil, ex_asg, startD_1, startD_2, startD_3, startD_4, List.replicate, List.getElem?_cons_zero, List.getElem?_cons_succ, List.set_cons_zero, List.set_cons_succ, Option.some.injEq, exists_eq_left', exists_eq_left, exists_eq', List.length_cons, List.length_nil, true_and, and_true, List.cons.injEq, D.int.injEq, D.bl.injEq, D.ref.injEq, D.tup.injEq, Cell.lst.injEq, ix_net0, ix_net1, ix_net2, ix_lane0, ix_lane1, ix_lane2, os_lenT, os_lenL, os_tupL, os_tupT, os_lstT, os_lstL, os_ixT, at0, at1, at2, os_eqI, os_neI, os_eqS, os_neS, os_add, os_sub, os_mul, os_lt, os_le, os_gt, os_ge, os_int, os_intB, os_inN, permL, List.filterMap_cons, List.filterMap_nil, List.nil_append, List.cons_append, wipeD, decide_eq_true_eq, at_push, itD_ref, itD_tup, itD_kl, Nat.reduceAdd, Nat.reduceLT, and_self, Nat.zero_add, if_true, if_false, Bool.false_eq_true, size2, size3, size4, size1, size0, truth_bl, itD_row, Bool.not_true, Bool.not_false, ev_iEn2, os_lenRow, os_lenN, eq_tupNil, ne_tupNil, ev_eAnd, ev_eOr, ev_eNot]
  refine ⟨en_items, Kp.refl _, ?_, fun _ _ => trivial, ?_, ?_⟩
  · have := flat_le (f := fun p : List Nat × Nat => p.1) (m := 4) (xs := S.zipIdx) fun p hp => zip_len ok so hp
    have h2 : S.zipIdx.length ≤ 16 := by rw [List.length_zipIdx, so.len]; exact ok.few
    omega
  · rintro ⟨own, k⟩ hp s1 k1
    simp only [encP, ev_body, evs_seq, evs_asgN, evs_ret, evs_expr, evs_if, evs_pass, evs_brk, evs_cnt, evs_par2, evs_par3, ev_eVar, ev_e2, ev_e1, ev_eC, ev_eB, ev_eM, ev_eTup, ev_eLst, ev_eIf, ev_tb, ev_tbB, ev_and2, ev_or2, ev_not1, ev_eCall, ev_eCallK, ev_aCons, ev_aNil, ev_eSl, ev_oNone, ev_oSome, ev_iR1, ev_iSeq, ev_yes, ev_rg1, gN_at, gT_net, gT_lane, gT_tup, gsC_cons, gsN_nil, ex_asg, startD_1, startD_2, startD_3, startD_4, List.replicate, List.getElem?_cons_zero, List.getElem?_cons_succ, List.set_cons_zero, List.set_cons_succ, Option.some.injEq, exists_eq_left', exists_eq_left, exists_eq', List.length_cons, List.length_nil, true_and, and_true, List.cons.injEq, D.int.injEq, D.bl.injEq, D.ref.injEq, D.tup.injEq, Cell.lst.injEq, ix_net0, ix_net1, ix_net2, ix_lane0, ix_lane1, ix_lane2, os_lenT, os_lenL, os_tupL, os_tupT, os_lstT, os_lstL, os_ixT, at0, at1, at2, os_eqI, os_neI, os_eqS, os_neS, os_add, os_sub, os_mul, os_lt, os_le, os_gt, os_ge, os_int, os_intB, os_inN, permL, List.filterMap_cons, List.filterMap_nil, List.nil_append, List.cons_append, wipeD, decide_eq_true_eq, at_push, itD_ref, itD_tup, itD_kl, Nat.reduceAdd, Nat.reduceLT, and_self, Nat.zero_add, if_true, if_false, Bool.false_eq_true, size2, size3, size4, size1, size0, truth_bl, itD_row, Bool.not_true, Bool.not_false, ev_iEn2, os_lenRow, os_lenN, eq_tupNil, ne_tupNil, ev_eAnd, ev_eOr, ev_eNot]
    refine ⟨k1, fun _ => ⟨rfl, fun s => Kp any st s, k1, fun s k => k, fun d hd s2 k2 => ?_⟩⟩
    simp only [ev_body, evs_seq, evs_asgN, evs_ret, evs_expr, evs_if, evs_pass, evs_brk, evs_cnt, evs_par2, evs_par3, ev_eVar, ev_e2, ev_e1, ev_eC, ev_eB, ev_eM, ev_eTup, ev_eLst, ev_eIf, ev_tb, ev_tbB, ev_and2, ev_or2, ev_not1, ev_eCall, ev_eCallK, ev_aCons, ev_aNil, ev_eSl, ev_oNone, ev_oSome, ev_iR1, ev_iSeq, ev_yes, ev_rg1, gN_at, gT_net, gT_lane, gT_tup, gsC_cons, gsN_nil, ex_asg, startD_1, startD_2, startD_3, startD_4, List.replicate, List.getElem?_cons_zero, List.getElem?_cons_succ, List.set_cons_zero, List.set_cons_succ, Option.some.injEq, exists_eq_left', exists_eq_left, exists_eq', List.length_cons, List.length_nil, true_and, and_true, List.cons.injEq, D.int.injEq, D.bl.injEq, D.ref.injEq, D.tup.injEq, Cell.lst.injEq, ix_net0, ix_net1, ix_net2, ix_lane0, ix_lane1, ix_lane2, os_lenT, os_lenL, os_tupL, os_tupT, os_lstT, os_lstL, os_ixT, at0, at1, at2, os_eqI, os_neI, os_eqS, os_neS, os_add, os_sub, os_mul, os_lt, os_le, os_gt, os_ge, os_int, os_intB, os_inN, permL, List.filterMap_cons, List.filterMap_nil, List.nil_append, List.cons_append, wipeD, decide_eq_true_eq, at_push, itD_ref, itD_tup, itD_kl, Nat.reduceAdd, Nat.reduceLT, and_self, Nat.zero_add, if_true, if_false, Bool.false_eq_true, size2, size3, size4, size1, size0, truth_bl, itD_row, Bool.not_true, Bool.not_false, ev_iEn2, os_lenRow, os_lenN, eq_tupNil, ne_tupNil, ev_eAnd, ev_eOr, ev_eNot]
    exact ⟨k2, fun _ => ⟨k2, rfl⟩⟩
  intro s1 k1
  have e2 : (s1 ++ [Cell.lst ((S.zipIdx.filter fun _ => true).flatMap fun p => (p.1.filter fun _ => true).map fun d => pairD (p.2, d))])[s1.length]? = some (.lst ((lettersOf S).map pairD)) := by
    rw [at_push, filter_true]
    congr 2
    unfold lettersOf
    rw [List.map_flatMap]
    congr 1
    funext p
    rw [filter_true, List.map_map]
    rfl
  have k2 := k1.trans (Kp.push s1 (Cell.lst ((S.zipIdx.filter fun _ => true).flatMap fun p => (p.1.filter fun _ => true).map fun d => pairD (p.2, d))) (fr := any))
  generalize s1 ++ [Cell.lst ((S.zipIdx.filter fun _ => true).flatMap fun p => (p.1.filter fun _ => true).map fun d => pairD (p.2, d))] = s2 at *
  generalize s1.length = q at *
  have fl := letters_len ok so
  refine ev_lcF (lettersOf S) pairD pairD (looseB N S) (fun s => Kp any s2 s) ?_
  simp only [ev_eVar, ev_e2, ev_e1, ev_eC, ev_eB, ev_eM, ev_eTup, ev_eLst, ev_eIf, ev_tb, ev_tbB, ev_and2, ev_or2, ev_not1, ev_eCall, ev_eCallK, ev_aCons, ev_aNil, ev_eSl, ev_oNone, ev_oSome, ev_iR1, ev_iSeq, ev_yes, ev_rg1, gN_at, gT_net, gT_lane, gT_tup, gsC_cons, gsN_nil, ex_asg, startD_1, startD_2, startD_3, startD_4, List.replicate, List.getElem?_cons_zero, List.getElem?_cons_succ, List.set_cons_zero, List.set_cons_succ, Option.some.injEq, exists_eq_left', exists_eq_left, exists_eq', List.length_cons, List.length_nil, true_and, and_true, List.cons.injEq, D.int.injEq, D.bl.injEq, D.ref.injEq, D.tup.injEq, Cell.lst.injEq, ix_net0, ix_net1, ix_net2, ix_lane0, ix_lane1, ix_lane2, os_lenT, os_lenL, os_tupL, os_tupT, os_lstT, os_lstL, os_ixT, at0, at1, at2, os_eqI, os_neI, os_eqS, os_neS, os_add, os_sub, os_mul, os_lt, os_le, os_gt, os_ge, os_int, os_intB, os_inN, permL, List.filterMap_cons, List.filterMap_nil, List.nil_append, List.cons_append, wipeD, decide_eq_true_eq, at_push, itD_ref, itD_tup, itD_kl, Nat.reduceAdd, Nat.reduceLT, and_self, Nat.zero_add, if_true, if_false, Bool.false_eq_true, size2, size3, size4, size1, size0, truth_bl, itD_row, Bool.not_true, Bool.not_false, ev_iEn2, os_lenRow, os_lenN, eq_tupNil, ne_tupNil, ev_eAnd, ev_eOr, ev_eNot]
  refine ⟨_, ⟨_, e2, rfl⟩, rfl, Kp.refl _, by omega, fun s k => k.at e2 trivial, ?_, ?_⟩
  · intro p hp s3 k3
    obtain ⟨h1, h2⟩ := letters_ok ok so hp
    simp only [pairD, ev_body, evs_seq, evs_asgN, evs_ret, evs_expr, evs_if, evs_pass, evs_brk, evs_cnt, evs_par2, evs_par3, ev_eVar, ev_e2, ev_e1, ev_eC, ev_eB, ev_eM, ev_eTup, ev_eLst, ev_eIf, ev_tb, ev_tbB, ev_and2, ev_or2, ev_not1, ev_eCall, ev_eCallK, ev_aCons, ev_aNil, ev_eSl, ev_oNone, ev_oSome, ev_iR1, ev_iSeq, ev_yes, ev_rg1, gN_at, gT_net, gT_lane, gT_tup, gsC_cons, gsN_nil, ex_asg, startD_1, startD_2, startD_3, startD_4, List.replicate, List.getElem?_cons_zero, List.getElem?_cons_succ, List.set_cons_zero, List.set_cons_succ, Option.some.injEq, exists_eq_left', exists_eq_left, exists_eq', List.length_cons, List.length_nil, true_and, and_true, List.cons.injEq, D.int.injEq, D.bl.injEq, D.ref.injEq, D.tup.injEq, Cell.lst.injEq, ix_net0, ix_net1, ix_net2, ix_lane0, ix_lane1, ix_lane2, os_lenT, os_lenL, os_tupL, os_tupT, os_lstT, os_lstL, os_ixT, at0, at1, at2, os_eqI, os_neI, os_eqS, os_neS, os_add, os_sub, os_mul, os_lt, os_le, os_gt, os_ge, os_int, os_intB, os_inN, permL, List.filterMap_cons, List.filterMap_nil, List.nil_append, List.cons_append, wipeD, decide_eq_true_eq, at_push, itD_ref, itD_tup, itD_kl, Nat.reduceAdd, Nat.reduceLT, and_self, Nat.zero_add, if_true, if_false, Bool.false_eq_true, size2, size3, size4, size1, size0, truth_bl, itD_row, Bool.not_true, Bool.not_false, ev_iEn2, os_lenRow, os_lenN, eq_tupNil, ne_tupNil, ev_eAnd, ev_eOr, ev_eNot]
    refine home_ev h1 ?_
    refine ⟨_, rfl, ?_⟩
    unfold looseB
    cases hh : decide ((N.lane p.1).e = p.2) with
    | true =>
      rw [if_pos rfl]
      exact ⟨k3, rfl, fun _ => k3⟩
    | false =>
      rw [if_neg (by simp)]
      refine opens_ev ok so.len h1 h2 fun s4 q4 k4 _ e4 => ?_
      simp only [ev_body, evs_seq, evs_asgN, evs_ret, evs_expr, evs_if, evs_pass, evs_brk, evs_cnt, evs_par2, evs_par3, ev_eVar, ev_e2, ev_e1, ev_eC, ev_eB, ev_eM, ev_eTup, ev_eLst, ev_eIf, ev_tb, ev_tbB, ev_and2, ev_or2, ev_not1, ev_eCall, ev_eCallK, ev_aCons, ev_aNil, ev_eSl, ev_oNone, ev_oSome, ev_iR1, ev_iSeq, ev_yes, ev_rg1, gN_at, gT_net, gT_lane, gT_tup, gsC_cons, gsN_nil, ex_asg, startD_1, startD_2, startD_3, startD_4, List.replicate, List.getElem?_cons_zero, List.getElem?_cons_succ, List.set_cons_zero, List.set_cons_succ, Option.some.injEq, exists_eq_left', exists_eq_left, exists_eq', List.length_cons, List.length_nil, true_and, and_true, List.cons.injEq, D.int.injEq, D.bl.injEq, D.ref.injEq, D.tup.injEq, Cell.lst.injEq, ix_net0, ix_net1, ix_net2, ix_lane0, ix_lane1, ix_lane2, os_lenT, os_lenL, os_tupL, os_tupT, os_lstT, os_lstL, os_ixT, at0, at1, at2, os_eqI, os_neI, os_eqS, os_neS, os_add, os_sub, os_mul, os_lt, os_le, os_gt, os_ge, os_int, os_intB, os_inN, permL, List.filterMap_cons, List.filterMap_nil, List.nil_append, List.cons_append, wipeD, decide_eq_true_eq, at_push, itD_ref, itD_tup, itD_kl, Nat.reduceAdd, Nat.reduceLT, and_self, Nat.zero_add, if_true, if_false, Bool.false_eq_true, size2, size3, size4, size1, size0, truth_bl, itD_row, Bool.not_true, Bool.not_false, ev_iEn2, os_lenRow, os_lenN, eq_tupNil, ne_tupNil, ev_eAnd, ev_eOr, ev_eNot, e4]
      exact ⟨k3.trans k4, by simp [nats], fun _ => k3.trans k4⟩
  intro s3 k3
  have e3 : (s3 ++ [Cell.lst (((lettersOf S).filter (looseB N S)).map pairD)])[s3.length]? = some (.lst (((lettersOf S).filter (looseB N S)).map pairD)) := at_push
  have e2' := at_app (k3.at e2 trivial) (y := Cell.lst (((lettersOf S).filter (looseB N S)).map pairD))
  have k3' := (k2.trans k3).trans (Kp.push s3 (Cell.lst (((lettersOf S).filter (looseB N S)).map pairD)) (fr := any))
  generalize s3 ++ [Cell.lst (((lettersOf S).filter (looseB N S)).map pairD)] = s4 at *
  generalize s3.length = q3 at *
  simp only [ev_body, evs_seq, evs_asgN, evs_ret, evs_expr, evs_if, evs_pass, evs_brk, evs_cnt, evs_par2, evs_par3, ev_eVar, ev_e2, ev_e1, ev_eC, ev_eB, ev_eM, ev_eTup, ev_eLst, ev_eIf, ev_tb, ev_tbB, ev_and2, ev_or2, ev_not1, ev_eCall, ev_eCallK, ev_aCons, ev_aNil, ev_eSl, ev_oNone, ev_oSome, ev_iR1, ev_iSeq, ev_yes, ev_rg1, gN_at, gT_net, gT_lane, gT_tup, gsC_cons, gsN_nil, ex_asg, startD_1, startD_2, startD_3, startD_4, List.replicate, List.getElem?_cons_zero, List.getElem?_cons_succ, List.set_cons_zero, List.set_cons_succ, Option.some.injEq, exists_eq_left', exists_eq_left, exists_eq', List.length_cons, List.length_nil, true_and, and_true, List.cons.injEq, D.int.injEq, D.bl.injEq, D.ref.injEq, D.tup.injEq, Cell.lst.injEq, ix_net0, ix_net1, ix_net2, ix_lane0, ix_lane1, ix_lane2, os_lenT, os_lenL, os_tupL, os_tupT, os_lstT, os_lstL, os_ixT, at0, at1, at2, os_eqI, os_neI, os_eqS, os_neS, os_add, os_sub, os_mul, os_lt, os_le, os_gt, os_ge, os_int, os_intB, os_inN, permL, List.filterMap_cons, List.filterMap_nil, List.nil_append, List.cons_append, wipeD, decide_eq_true_eq, at_push, itD_ref, itD_tup, itD_kl, Nat.reduceAdd, Nat.reduceLT, and_self, Nat.zero_add, if_true, if_false, Bool.false_eq_true, size2, size3, size4, size1, size0, truth_bl, itD_row, Bool.not_true, Bool.not_false, ev_iEn2, os_lenRow, os_lenN, eq_tupNil, ne_tupNil, ev_eAnd, ev_eOr, ev_eNot, e2', List.length_map]
  have hh := H s4 k3'
  unfold fastB at hh
  cases hb : decide (0 < (lettersOf S).length) with
  | false =>
    rw [hb] at hh
    have : ¬ (0 : Int) < ((lettersOf S).length : Int) := by simp at hb; simp [hb]
    rw [if_neg this]
    have e0 : decide ((0 : Int) < ((lettersOf S).length : Int)) = false := by simpa using this
    rw [e0]
    exact hh
  | true =>
    rw [hb] at hh
    have : (0 : Int) < ((lettersOf S).length : Int) := by have := of_decide_eq_true hb; omega
    rw [if_pos this]
    simp only [e3, ev_body, evs_seq, evs_asgN, evs_ret, evs_expr, evs_if, evs_pass, evs_brk, evs_cnt, evs_par2, evs_par3, ev_eVar, ev_e2, ev_e1, ev_eC, ev_eB, ev_eM, ev_eTup, ev_eLst, ev_eIf, ev_tb, ev_tbB, ev_and2, ev_or2, ev_not1, ev_eCall, ev_eCallK, ev_aCons, ev_aNil, ev_eSl, ev_oNone, ev_oSome, ev_iR1, ev_iSeq, ev_yes, ev_rg1, gN_at, gT_net, gT_lane, gT_tup, gsC_cons, gsN_nil, ex_asg, startD_1, startD_2, startD_3, startD_4, List.replicate, List.getElem?_cons_zero, List.getElem?_cons_succ, List.set_cons_zero, List.set_cons_succ, Option.some.injEq, exists_eq_left', exists_eq_left, exists_eq', List.length_cons, List.length_nil, true_and, and_true, List.cons.injEq, D.int.injEq, D.bl.injEq, D.ref.injEq, D.tup.injEq, Cell.lst.injEq, ix_net0, ix_net1, ix_net2, ix_lane0, ix_lane1, ix_lane2, os_lenT, os_lenL, os_tupL, os_tupT, os_lstT, os_lstL, os_ixT, at0, at1, at2, os_eqI, os_neI, os_eqS, os_neS, os_add, os_sub, os_mul, os_lt, os_le, os_gt, os_ge, os_int, os_intB, os_inN, permL, List.filterMap_cons, List.filterMap_nil, List.nil_append, List.cons_append, wipeD, decide_eq_true_eq, at_push, itD_ref, itD_tup, itD_kl, Nat.reduceAdd, Nat.reduceLT, and_self, Nat.zero_add, if_true, if_false, Bool.false_eq_true, size2, size3, size4, size1, size0, truth_bl, itD_row, Bool.not_true, Bool.not_false, ev_iEn2, os_lenRow, os_lenN, eq_tupNil, ne_tupNil, ev_eAnd, ev_eOr, ev_eNot, List.length_map]
    have e0 : ((((lettersOf S).filter (looseB N S)).length : Int) == 0) = decide ((lettersOf S).filter (looseB N S) = []) := by
      cases (lettersOf S).filter (looseB N S) with
      | nil => rfl
      | cons a b => simp; omega
    rw [e0]
    exact hh
end
end Rm

namespace Rm
open PySem L2
/-! ## Deeds: the law's own -/
noncomputable def b_law_can : FS := (sSeq (sAsgN (e2 ixD (e2 ixD (eVar 0) (eC (.int 1))) (e2 ixD (eVar 2) (eC (.int 1)))) (gT 3 (gsC (gN 3) (gsC (gN 4) (gsC (gN 5) gsN)))))
  (sSeq (sAsgN (e2 ixD (eVar 1) (e2 ixD (eVar 2) (eC (.int 1)))) (gN 6))
  (sSeq (sIf (tbB (e2 eqO (e2 ixD (eVar 2) (eC (.int 0))) (eC (.str "in")))) (sRet (eAnd (e2 inO (e2 ixD (eVar 2) (eC (.int 1))) (e2 ixD (e2 ixD (e2 ixD (eVar 0) (eC (.int 2))) (eVar 3)) (e2 ixD (eVar 2) (eC (.int 2))))) (e2 ltD (eB lenO (aCons (eVar 6) aNil)) (eVar 5)))) sPass)
  (sSeq (sIf (tbB (e2 eqO (eVar 6) (eTup aNil))) (sRet (eC (.bl false))) sPass)
  (sSeq (sIf (tbB (e2 eqO (e2 ixD (eVar 2) (eC (.int 0))) (eC (.str "out")))) (sRet (e2 eqO (e2 ixD (eVar 6) (eC (.int 0))) (eVar 4))) sPass)
  (sRet (eAnd (e2 inO (e2 ixD (eVar 2) (eC (.int 2))) (e2 ixD (e2 ixD (e2 ixD (eVar 0) (eC (.int 2))) (eVar 4)) (e2 ixD (eVar 6) (eC (.int 0))))) (e2 ltD (eB lenO (aCons (e2 ixD (eVar 1) (e2 ixD (eVar 2) (eC (.int 2)))) aNil)) (e2 ixD (e2 ixD (e2 ixD (eVar 0) (eC (.int 1))) (e2 ixD (eVar 2) (eC (.int 2)))) (eC (.int 2)))))))))))
noncomputable def f_law_can : List D → Sto → R D := bodyD 7 b_law_can
noncomputable def b_law_all_deeds : FS := (sSeq (sPar [1, 2] (aCons (eLst aNil) (aCons (eB lenO (aCons (e2 ixD (eVar 0) (eC (.int 1))) aNil)) aNil)))
  (sSeq (sFor (iR1 (aCons (eVar 2) aNil)) (gN 3) (sAsgN (e2 addD (eVar 1) (eLc (iR1 (aCons (e2 ixD (eVar 0) (eC (.int 0))) aNil)) (gN 4) tYesD (eTup (aCons (eC (.str "in")) (aCons (eVar 3) (aCons (eVar 4) aNil)))) [4])) (gN 1)))
  (sSeq (sFor (iR1 (aCons (eVar 2) aNil)) (gN 3) (sAsgN (e2 addD (eVar 1) (eLc (iR1 (aCons (eVar 2) aNil)) (gN 5) tYesD (eTup (aCons (eC (.str "on")) (aCons (eVar 3) (aCons (eVar 5) aNil)))) [5])) (gN 1)))
  (sRet (e2 addD (eVar 1) (eLc (iR1 (aCons (eVar 2) aNil)) (gN 3) tYesD (eTup (aCons (eC (.str "out")) (aCons (eVar 3) aNil))) [3]))))))
noncomputable def f_law_all_deeds : List D → Sto → R D := bodyD 6 b_law_all_deeds
end Rm

namespace Rm
open PySem L2
section
variable {P : D → Sto → Prop} {ρ : Rm.Env} {st s s' : Sto} {r c : Nat} {N : Net} {S : List (List Nat)}
/-- a deed: its kind (0 in, 1 on, 2 out), its lane, its second number -/
abbrev Dd := Nat × Nat × Nat
def ddD : Dd → D
  | (0, k, d) => .tup [.str "in", nat k, nat d]
  | (1, k, j) => onD (k, j)
  | (_, k, _) => outD (k, 0)
def allDeeds (N : Net) : List Dd := ((List.range N.lanes.length).flatMap fun k => (List.range N.h).map fun d => (0, k, d)) ++ ((List.range N.lanes.length).flatMap fun k => (List.range N.lanes.length).map fun j => (1, k, j)) ++ (List.range N.lanes.length).map fun k => (2, k, 0)
/-- lanes and aims that are there -/
def DdOk (N : Net) : Dd → Prop
  | (0, k, d) => k < N.lanes.length ∧ d < N.h
  | (1, k, j) => k < N.lanes.length ∧ j < N.lanes.length
  | (n, k, j) => n = 2 ∧ k < N.lanes.length ∧ j = 0
def canB (N : Net) (S : List (List Nat)) : Dd → Bool
  | (0, k, d) => decide (k ∈ N.at (N.lane k).s d) && roomB N S k
  | (1, k, j) => !decide (ownOf S k = []) && (decide (j ∈ N.at (N.lane k).e ((ownOf S k).headD 0)) && roomB N S j)
  | (_, k, _) => !decide (ownOf S k = []) && decide ((ownOf S k).headD 0 = (N.lane k).e)
theorem all_ok {x : Dd} (h : x ∈ allDeeds N) : DdOk N x := by
  unfold allDeeds at h
  simp only [List.mem_append, List.mem_flatMap, List.mem_map, List.mem_range] at h
  rcases h with (⟨k, hk, d, hd, rfl⟩ | ⟨k, hk, d, hd, rfl⟩) | ⟨k, hk, rfl⟩
  · exact ⟨hk, hd⟩
  · exact ⟨hk, hd⟩
  · exact ⟨rfl, hk, rfl⟩
theorem head_at {own : List Nat} (h : own ≠ []) : atI (nats own) 0 = some (nat (own.headD 0)) := by
  cases own with
  | nil => exact absurd rfl h
  | cons y ys => exact atI_0 rfl
theorem w1 : decide (("in" : Str) = "in") = true := by decide
theorem w2 : decide (("on" : Str) = "in") = false := by decide
theorem w3 : decide (("out" : Str) = "in") = false := by decide
theorem w4 : decide (("on" : Str) = "out") = false := by decide
theorem w5 : decide (("out" : Str) = "out") = true := by decide
theorem room_nat {k : Nat} : decide (((nats (ownOf S k)).length : Int) < ((N.lane k).m : Int)) = roomB N S k := by
  unfold roomB; simp [nats]
theorem can_ev (ok : N.Ok) (so : StOk N S) {x : Dd} (hx : DdOk N x) (H : P (.bl (canB N S x)) st) : Ev (f_law_can [N.enc, encRow S, ddD x] st) P := by
  have hlen := so.len
  unfold f_law_can b_law_can
  match x, hx, H with
  | (0, k, d), ⟨hk, hd⟩, H =>
    have ln := ok.lane_ok hk
    obtain ⟨row, h1, h2⟩ := ok.getE ln.1 hd
    simp only [ddD, ev_body, evs_seq, evs_asgN, evs_ret, evs_expr, evs_if, evs_pass, evs_brk, evs_cnt, evs_par2, evs_par3, ev_eVar, ev_e2, ev_e1, ev_eC, ev_eB, ev_eM, ev_eTup, ev_eLst, ev_eIf, ev_tb, ev_tbB, ev_and2, ev_or2, ev_not1, ev_eCall, ev_eCallK, ev_aCons, ev_aNil, ev_eSl, ev_oNone, ev_oSome, ev_iR1, ev_iSeq, ev_yes, ev_rg1, gN_at, gT_net, gT_lane, gT_tup, gsC_cons, gsN_nil, ex_asg, startD_1, startD_2, startD_3, startD_4, List.replicate, List.getElem?_cons_zero, List.getElem?_cons_succ, List.set_cons_zero, List.set_cons_succ, Option.some.injEq, exists_eq_left', exists_eq_left, exists_eq', List.length_cons, List.length_nil, true_and, and_true, List.cons.injEq, D.int.injEq, D.bl.injEq, D.ref.injEq, D.tup.injEq, Cell.lst.injEq, ix_net0, ix_net1, ix_net2, ix_lane0, ix_lane1, ix_lane2, os_lenT, os_lenL, os_tupL, os_tupT, os_lstT, os_lstL, os_ixT, at0, at1, at2, os_eqI, os_neI, os_eqS, os_neS, os_add, os_sub, os_mul, os_lt, os_le, os_gt, os_ge, os_int, os_intB, os_inN, permL, List.filterMap_cons, List.filterMap_nil, List.nil_append, List.cons_append, wipeD, decide_eq_true_eq, at_push, itD_ref, itD_tup, itD_kl, Nat.reduceAdd, Nat.reduceLT, and_self, Nat.zero_add, if_true, if_false, Bool.false_eq_true, size2, size3, size4, size1, size0, truth_bl, itD_row, Bool.not_true, Bool.not_false, ev_iEn2, os_lenRow, os_lenN, eq_tupNil, ne_tupNil, ev_eAnd, ev_eOr, ev_eNot, at_lanes hk, ix_own (show k < S.length by omega), w1, Net.Ok.at_row h1, ix_ent h2]
    rw [room_nat]
    have H : P (.bl (decide (k ∈ N.at (N.lane k).s d) && roomB N S k)) st := H
    by_cases hm : k ∈ N.at (N.lane k).s d
    · rw [if_pos hm]; simpa [hm] using H
    · rw [if_neg hm]; simpa [hm] using H
  | (1, k, j), ⟨hk, hj⟩, H =>
    have ln := ok.lane_ok hk
    have H : P (.bl (!decide (ownOf S k = []) && (decide (j ∈ N.at (N.lane k).e ((ownOf S k).headD 0)) && roomB N S j))) st := H
    simp only [ddD, onD, ev_body, evs_seq, evs_asgN, evs_ret, evs_expr, evs_if, evs_pass, evs_brk, evs_cnt, evs_par2, evs_par3, ev_eVar, ev_e2, ev_e1, ev_eC, ev_eB, ev_eM, ev_eTup, ev_eLst, ev_eIf, ev_tb, ev_tbB, ev_and2, ev_or2, ev_not1, ev_eCall, ev_eCallK, ev_aCons, ev_aNil, ev_eSl, ev_oNone, ev_oSome, ev_iR1, ev_iSeq, ev_yes, ev_rg1, gN_at, gT_net, gT_lane, gT_tup, gsC_cons, gsN_nil, ex_asg, startD_1, startD_2, startD_3, startD_4, List.replicate, List.getElem?_cons_zero, List.getElem?_cons_succ, List.set_cons_zero, List.set_cons_succ, Option.some.injEq, exists_eq_left', exists_eq_left, exists_eq', List.length_cons, List.length_nil, true_and, and_true, List.cons.injEq, D.int.injEq, D.bl.injEq, D.ref.injEq, D.tup.injEq, Cell.lst.injEq, ix_net0, ix_net1, ix_net2, ix_lane0, ix_lane1, ix_lane2, os_lenT, os_lenL, os_tupL, os_tupT, os_lstT, os_lstL, os_ixT, at0, at1, at2, os_eqI, os_neI, os_eqS, os_neS, os_add, os_sub, os_mul, os_lt, os_le, os_gt, os_ge, os_int, os_intB, os_inN, permL, List.filterMap_cons, List.filterMap_nil, List.nil_append, List.cons_append, wipeD, decide_eq_true_eq, at_push, itD_ref, itD_tup, itD_kl, Nat.reduceAdd, Nat.reduceLT, and_self, Nat.zero_add, if_true, if_false, Bool.false_eq_true, size2, size3, size4, size1, size0, truth_bl, itD_row, Bool.not_true, Bool.not_false, ev_iEn2, os_lenRow, os_lenN, eq_tupNil, ne_tupNil, ev_eAnd, ev_eOr, ev_eNot, at_lanes hk, ix_own (show k < S.length by omega), w2, w4]
    by_cases hne : ownOf S k = []
    · rw [if_pos hne]; simpa [hne] using H
    · rw [if_neg hne]
      have hd : (ownOf S k).headD 0 < N.h := by
        refine own_lt ok so (k := k) (by omega) ?_
        cases ho : ownOf S k with
        | nil => exact absurd ho hne
        | cons y ys => exact List.mem_cons_self
      obtain ⟨row, h1, h2⟩ := ok.getE ln.2.1 hd
      simp only [ev_body, evs_seq, evs_asgN, evs_ret, evs_expr, evs_if, evs_pass, evs_brk, evs_cnt, evs_par2, evs_par3, ev_eVar, ev_e2, ev_e1, ev_eC, ev_eB, ev_eM, ev_eTup, ev_eLst, ev_eIf, ev_tb, ev_tbB, ev_and2, ev_or2, ev_not1, ev_eCall, ev_eCallK, ev_aCons, ev_aNil, ev_eSl, ev_oNone, ev_oSome, ev_iR1, ev_iSeq, ev_yes, ev_rg1, gN_at, gT_net, gT_lane, gT_tup, gsC_cons, gsN_nil, ex_asg, startD_1, startD_2, startD_3, startD_4, List.replicate, List.getElem?_cons_zero, List.getElem?_cons_succ, List.set_cons_zero, List.set_cons_succ, Option.some.injEq, exists_eq_left', exists_eq_left, exists_eq', List.length_cons, List.length_nil, true_and, and_true, List.cons.injEq, D.int.injEq, D.bl.injEq, D.ref.injEq, D.tup.injEq, Cell.lst.injEq, ix_net0, ix_net1, ix_net2, ix_lane0, ix_lane1, ix_lane2, os_lenT, os_lenL, os_tupL, os_tupT, os_lstT, os_lstL, os_ixT, at0, at1, at2, os_eqI, os_neI, os_eqS, os_neS, os_add, os_sub, os_mul, os_lt, os_le, os_gt, os_ge, os_int, os_intB, os_inN, permL, List.filterMap_cons, List.filterMap_nil, List.nil_append, List.cons_append, wipeD, decide_eq_true_eq, at_push, itD_ref, itD_tup, itD_kl, Nat.reduceAdd, Nat.reduceLT, and_self, Nat.zero_add, if_true, if_false, Bool.false_eq_true, size2, size3, size4, size1, size0, truth_bl, itD_row, Bool.not_true, Bool.not_false, ev_iEn2, os_lenRow, os_lenN, eq_tupNil, ne_tupNil, ev_eAnd, ev_eOr, ev_eNot, head_at hne, Net.Ok.at_row h1, ix_ent h2, ix_own (show j < S.length by omega), at_lanes hj, room_nat]
      by_cases hm : j ∈ N.at (N.lane k).e ((ownOf S k).headD 0)
      · rw [if_pos hm]; simp only [hm, hne, decide_true, decide_false, Bool.not_false, Bool.true_and] at H; exact H
      · rw [if_neg hm]; simp only [hm, hne, decide_false, Bool.not_false, Bool.true_and, Bool.false_and] at H ⊢; exact H
  | (n + 2, k, j), ⟨hn, hk, hj⟩, H =>
    have ln := ok.lane_ok hk
    have H : P (.bl (!decide (ownOf S k = []) && decide ((ownOf S k).headD 0 = (N.lane k).e))) st := H
    simp only [ddD, outD, ev_body, evs_seq, evs_asgN, evs_ret, evs_expr, evs_if, evs_pass, evs_brk, evs_cnt, evs_par2, evs_par3, ev_eVar, ev_e2, ev_e1, ev_eC, ev_eB, ev_eM, ev_eTup, ev_eLst, ev_eIf, ev_tb, ev_tbB, ev_and2, ev_or2, ev_not1, ev_eCall, ev_eCallK, ev_aCons, ev_aNil, ev_eSl, ev_oNone, ev_oSome, ev_iR1, ev_iSeq, ev_yes, ev_rg1, gN_at, gT_net, gT_lane, gT_tup, gsC_cons, gsN_nil, ex_asg, startD_1, startD_2, startD_3, startD_4, List.replicate, List.getElem?_cons_zero, List.getElem?_cons_succ, List.set_cons_zero, List.set_cons_succ, Option.some.injEq, exists_eq_left', exists_eq_left, exists_eq', List.length_cons, List.length_nil, true_and, and_true, List.cons.injEq, D.int.injEq, D.bl.injEq, D.ref.injEq, D.tup.injEq, Cell.lst.injEq, ix_net0, ix_net1, ix_net2, ix_lane0, ix_lane1, ix_lane2, os_lenT, os_lenL, os_tupL, os_tupT, os_lstT, os_lstL, os_ixT, at0, at1, at2, os_eqI, os_neI, os_eqS, os_neS, os_add, os_sub, os_mul, os_lt, os_le, os_gt, os_ge, os_int, os_intB, os_inN, permL, List.filterMap_cons, List.filterMap_nil, List.nil_append, List.cons_append, wipeD, decide_eq_true_eq, at_push, itD_ref, itD_tup, itD_kl, Nat.reduceAdd, Nat.reduceLT, and_self, Nat.zero_add, if_true, if_false, Bool.false_eq_true, size2, size3, size4, size1, size0, truth_bl, itD_row, Bool.not_true, Bool.not_false, ev_iEn2, os_lenRow, os_lenN, eq_tupNil, ne_tupNil, ev_eAnd, ev_eOr, ev_eNot, at_lanes hk, ix_own (show k < S.length by omega), w3, w5]
    by_cases hne : ownOf S k = []
    · rw [if_pos hne]; simpa [hne] using H
    · rw [if_neg hne]
      simp only [ev_body, evs_seq, evs_asgN, evs_ret, evs_expr, evs_if, evs_pass, evs_brk, evs_cnt, evs_par2, evs_par3, ev_eVar, ev_e2, ev_e1, ev_eC, ev_eB, ev_eM, ev_eTup, ev_eLst, ev_eIf, ev_tb, ev_tbB, ev_and2, ev_or2, ev_not1, ev_eCall, ev_eCallK, ev_aCons, ev_aNil, ev_eSl, ev_oNone, ev_oSome, ev_iR1, ev_iSeq, ev_yes, ev_rg1, gN_at, gT_net, gT_lane, gT_tup, gsC_cons, gsN_nil, ex_asg, startD_1, startD_2, startD_3, startD_4, List.replicate, List.getElem?_cons_zero, List.getElem?_cons_succ, List.set_cons_zero, List.set_cons_succ, Option.some.injEq, exists_eq_left', exists_eq_left, exists_eq', List.length_cons, List.length_nil, true_and, and_true, List.cons.injEq, D.int.injEq, D.bl.injEq, D.ref.injEq, D.tup.injEq, Cell.lst.injEq, ix_net0, ix_net1, ix_net2, ix_lane0, ix_lane1, ix_lane2, os_lenT, os_lenL, os_tupL, os_tupT, os_lstT, os_lstL, os_ixT, at0, at1, at2, os_eqI, os_neI, os_eqS, os_neS, os_add, os_sub, os_mul, os_lt, os_le, os_gt, os_ge, os_int, os_intB, os_inN, permL, List.filterMap_cons, List.filterMap_nil, List.nil_append, List.cons_append, wipeD, decide_eq_true_eq, at_push, itD_ref, itD_tup, itD_kl, Nat.reduceAdd, Nat.reduceLT, and_self, Nat.zero_add, if_true, if_false, Bool.false_eq_true, size2, size3, size4, size1, size0, truth_bl, itD_row, Bool.not_true, Bool.not_false, ev_iEn2, os_lenRow, os_lenN, eq_tupNil, ne_tupNil, ev_eAnd, ev_eOr, ev_eNot, head_at hne, eq_natB]
      simpa [hne] using H
theorem deeds_ev (ok : N.Ok) (H : ∀ s' q, Kp any st s' → st.length ≤ q → s'[q]? = some (.lst ((allDeeds N).map ddD)) → P (.ref q) s') : Ev (f_law_all_deeds [N.enc] st) P := by
  have hfew := ok.few
  have h6 := ok.h6
  generalize hn : N.lanes.length = n at *
  unfold f_law_all_deeds b_law_all_deeds
  simp only [ev_body, evs_seq, startD_1, evs_par2, ev_eVar, ev_e2, ev_e1, ev_eC, ev_eB, ev_eM, ev_eTup, ev_eLst, ev_eIf, ev_tb, ev_tbB, ev_and2, ev_or2, ev_not1, ev_eCall, ev_eCallK, ev_aCons, ev_aNil, ev_eSl, ev_oNone, ev_oSome, ev_iR1, ev_iSeq, ev_yes, ev_rg1, gN_at, gT_net, gT_lane, gT_tup, gsC_cons, gsN_nil, ex_asg, startD_1, startD_2, startD_3, startD_4, List.replicate, List.getElem?_cons_zero, List.getElem?_cons_succ, List.set_cons_zero, List.set_cons_succ, Option.some.injEq, exists_eq_left', exists_eq_left, exists_eq', List.length_cons, List.length_nil, true_and, and_true, List.cons.injEq, D.int.injEq, D.bl.injEq, D.ref.injEq, D.tup.injEq, Cell.lst.injEq, ix_net0, ix_net1, ix_net2, ix_lane0, ix_lane1, ix_lane2, os_lenT, os_lenL, os_tupL, os_tupT, os_lstT, os_lstL, os_ixT, at0, at1, at2, os_eqI, os_neI, os_eqS, os_neS, os_add, os_sub, os_mul, os_lt, os_le, os_gt, os_ge, os_int, os_intB, os_inN, permL, List.filterMap_cons, List.filterMap_nil, List.nil_append, List.cons_append, wipeD, decide_eq_true_eq, at_push, itD_ref, itD_tup, itD_kl, Nat.reduceAdd, Nat.reduceLT, and_self, Nat.zero_add, if_true, if_false, Bool.false_eq_true, size2, size3, size4, size1, size0, truth_bl, itD_row, Bool.not_true, Bool.not_false, ev_iEn2, os_lenRow, os_lenN, eq_tupNil, ne_tupNil, ev_eAnd, ev_eOr, ev_eNot, List.length_map, hn]
  have ln1 : ∀ i, ((List.range i).flatMap fun k => (List.range N.h).map fun d => ((0, k, d) : Dd)).length ≤ i * 6 := fun i => by
    have := flat_le (f := fun k => (List.range N.h).map fun d => ((0, k, d) : Dd)) (m := 6) (xs := List.range i) fun k _ => by simpa using h6
    simpa using this
  have ln2 : ∀ i, ((List.range i).flatMap fun k => (List.range n).map fun j => ((1, k, j) : Dd)).length ≤ i * 16 := fun i => by
    have := flat_le (f := fun k => (List.range n).map fun j => ((1, k, j) : Dd)) (m := 16) (xs := List.range i) fun k _ => by simpa using hfew
    simpa using this
  have k0 : Kp any st (st ++ [.lst []]) := Kp.push _ _
  have e0 : (st ++ [Cell.lst []])[st.length]? = some (.lst (([] : List Dd).map ddD)) := at_push
  have l0 : st.length ≤ st.length := Nat.le_refl _
  generalize hq0 : st.length = q0 at e0 ⊢
  generalize st ++ [Cell.lst []] = s0 at *
  refine evs_for ?_
  simp only [ev_eVar, ev_e2, ev_e1, ev_eC, ev_eB, ev_eM, ev_eTup, ev_eLst, ev_eIf, ev_tb, ev_tbB, ev_and2, ev_or2, ev_not1, ev_eCall, ev_eCallK, ev_aCons, ev_aNil, ev_eSl, ev_oNone, ev_oSome, ev_iR1, ev_iSeq, ev_yes, ev_rg1, gN_at, gT_net, gT_lane, gT_tup, gsC_cons, gsN_nil, ex_asg, startD_1, startD_2, startD_3, startD_4, List.replicate, List.getElem?_cons_zero, List.getElem?_cons_succ, List.set_cons_zero, List.set_cons_succ, Option.some.injEq, exists_eq_left', exists_eq_left, exists_eq', List.length_cons, List.length_nil, true_and, and_true, List.cons.injEq, D.int.injEq, D.bl.injEq, D.ref.injEq, D.tup.injEq, Cell.lst.injEq, ix_net0, ix_net1, ix_net2, ix_lane0, ix_lane1, ix_lane2, os_lenT, os_lenL, os_tupL, os_tupT, os_lstT, os_lstL, os_ixT, at0, at1, at2, os_eqI, os_neI, os_eqS, os_neS, os_add, os_sub, os_mul, os_lt, os_le, os_gt, os_ge, os_int, os_intB, os_inN, permL, List.filterMap_cons, List.filterMap_nil, List.nil_append, List.cons_append, wipeD, decide_eq_true_eq, at_push, itD_ref, itD_tup, itD_kl, Nat.reduceAdd, Nat.reduceLT, and_self, Nat.zero_add, if_true, if_false, Bool.false_eq_true, size2, size3, size4, size1, size0, truth_bl, itD_row, Bool.not_true, Bool.not_false, ev_iEn2, os_lenRow, os_lenN, eq_tupNil, ne_tupNil, ev_eAnd, ev_eOr, ev_eNot]
  refine ⟨by omega, fun i ρ s => ∃ (q : Nat) (t3 t4 t5 : Option D), ρ = [some N.enc, some (.ref q), some (.int (n : Int)), t3, t4, t5] ∧ Kp any st s ∧ st.length ≤ q ∧ s[q]? = some (.lst (((List.range i).flatMap fun k => (List.range N.h).map fun d => ((0, k, d) : Dd)).map ddD)), ⟨q0, none, none, none, rfl, k0, by omega, e0⟩, ?_, ?_⟩
  · rintro i d ρ1 s1 hd ⟨q, t3, t4, t5, rfl, k1, l1, e1⟩
    obtain ⟨rfl, hi⟩ := rng_at hd
    refine ⟨trivial, ?_⟩
    simp only [ev_eVar, ev_e2, ev_e1, ev_eC, ev_eB, ev_eM, ev_eTup, ev_eLst, ev_eIf, ev_tb, ev_tbB, ev_and2, ev_or2, ev_not1, ev_eCall, ev_eCallK, ev_aCons, ev_aNil, ev_eSl, ev_oNone, ev_oSome, ev_iR1, ev_iSeq, ev_yes, ev_rg1, gN_at, gT_net, gT_lane, gT_tup, gsC_cons, gsN_nil, ex_asg, startD_1, startD_2, startD_3, startD_4, List.replicate, List.getElem?_cons_zero, List.getElem?_cons_succ, List.set_cons_zero, List.set_cons_succ, Option.some.injEq, exists_eq_left', exists_eq_left, exists_eq', List.length_cons, List.length_nil, true_and, and_true, List.cons.injEq, D.int.injEq, D.bl.injEq, D.ref.injEq, D.tup.injEq, Cell.lst.injEq, ix_net0, ix_net1, ix_net2, ix_lane0, ix_lane1, ix_lane2, os_lenT, os_lenL, os_tupL, os_tupT, os_lstT, os_lstL, os_ixT, at0, at1, at2, os_eqI, os_neI, os_eqS, os_neS, os_add, os_sub, os_mul, os_lt, os_le, os_gt, os_ge, os_int, os_intB, os_inN, permL, List.filterMap_cons, List.filterMap_nil, List.nil_append, List.cons_append, wipeD, decide_eq_true_eq, at_push, itD_ref, itD_tup, itD_kl, Nat.reduceAdd, Nat.reduceLT, and_self, Nat.zero_add, if_true, if_false, Bool.false_eq_true, size2, size3, size4, size1, size0, truth_bl, itD_row, Bool.not_true, Bool.not_false, ev_iEn2, os_lenRow, os_lenN, eq_tupNil, ne_tupNil, ev_eAnd, ev_eOr, ev_eNot, evs_asgN]
    refine ev_lcF (List.range N.h) nat (fun d => ddD (0, i, d)) (fun _ => true) (fun s => Kp any s1 s) ?_
    simp only [ev_eVar, ev_e2, ev_e1, ev_eC, ev_eB, ev_eM, ev_eTup, ev_eLst, ev_eIf, ev_tb, ev_tbB, ev_and2, ev_or2, ev_not1, ev_eCall, ev_eCallK, ev_aCons, ev_aNil, ev_eSl, ev_oNone, ev_oSome, ev_iR1, ev_iSeq, ev_yes, ev_rg1, gN_at, gT_net, gT_lane, gT_tup, gsC_cons, gsN_nil, ex_asg, startD_1, startD_2, startD_3, startD_4, List.replicate, List.getElem?_cons_zero, List.getElem?_cons_succ, List.set_cons_zero, List.set_cons_succ, Option.some.injEq, exists_eq_left', exists_eq_left, exists_eq', List.length_cons, List.length_nil, true_and, and_true, List.cons.injEq, D.int.injEq, D.bl.injEq, D.ref.injEq, D.tup.injEq, Cell.lst.injEq, ix_net0, ix_net1, ix_net2, ix_lane0, ix_lane1, ix_lane2, os_lenT, os_lenL, os_tupL, os_tupT, os_lstT, os_lstL, os_ixT, at0, at1, at2, os_eqI, os_neI, os_eqS, os_neS, os_add, os_sub, os_mul, os_lt, os_le, os_gt, os_ge, os_int, os_intB, os_inN, permL, List.filterMap_cons, List.filterMap_nil, List.nil_append, List.cons_append, wipeD, decide_eq_true_eq, at_push, itD_ref, itD_tup, itD_kl, Nat.reduceAdd, Nat.reduceLT, and_self, Nat.zero_add, if_true, if_false, Bool.false_eq_true, size2, size3, size4, size1, size0, truth_bl, itD_row, Bool.not_true, Bool.not_false, ev_iEn2, os_lenRow, os_lenN, eq_tupNil, ne_tupNil, ev_eAnd, ev_eOr, ev_eNot]
    refine ⟨by omega, rng_items _, Kp.refl _, by simp; omega, fun _ _ => trivial, ?_, ?_⟩
    · intro x hx s2 k2
      exact ⟨k2, fun _ => ⟨k2, rfl⟩⟩
    intro s2 k2
    have e1' := at_app (k2.at e1 trivial) (y := Cell.lst (((List.range N.h).filter fun _ => true).map fun d => ddD (0, i, d)))
    rw [os_addL e1' at_push]
    refine ⟨?_, ?_⟩
    · have := ln1 i
      rw [filter_true, List.length_map, List.length_map, List.length_range, sizeLine_val]; omega
    · refine ⟨_, _, _, _, ⟨rfl, rfl, rfl, rfl⟩, ((k1.trans k2).trans (Kp.push _ _)).trans (Kp.push _ _), ?_, ?_⟩
      · have := (k1.trans k2).1
        simp; omega
      · rw [at_push, filter_true, List.range_succ, List.flatMap_append, List.map_append]
        simp [List.map_map]
  · rintro ρ1 s1 ⟨q, t3, t4, t5, rfl, k1, l1, e1⟩
    refine ⟨trivial, ?_⟩
    rw [show (rngD 0 ((n : Int)).toNat).items.length = n by rw [show ((n : Int)).toNat = n by simp]; simp [rngD]] at e1
    generalize hI : ((List.range n).flatMap fun k => (List.range N.h).map fun d => ((0, k, d) : Dd)) = I1 at e1
    have lI : I1.length ≤ n * 6 := by rw [← hI]; exact ln1 n
    refine evs_for ?_
    simp only [ev_eVar, ev_e2, ev_e1, ev_eC, ev_eB, ev_eM, ev_eTup, ev_eLst, ev_eIf, ev_tb, ev_tbB, ev_and2, ev_or2, ev_not1, ev_eCall, ev_eCallK, ev_aCons, ev_aNil, ev_eSl, ev_oNone, ev_oSome, ev_iR1, ev_iSeq, ev_yes, ev_rg1, gN_at, gT_net, gT_lane, gT_tup, gsC_cons, gsN_nil, ex_asg, startD_1, startD_2, startD_3, startD_4, List.replicate, List.getElem?_cons_zero, List.getElem?_cons_succ, List.set_cons_zero, List.set_cons_succ, Option.some.injEq, exists_eq_left', exists_eq_left, exists_eq', List.length_cons, List.length_nil, true_and, and_true, List.cons.injEq, D.int.injEq, D.bl.injEq, D.ref.injEq, D.tup.injEq, Cell.lst.injEq, ix_net0, ix_net1, ix_net2, ix_lane0, ix_lane1, ix_lane2, os_lenT, os_lenL, os_tupL, os_tupT, os_lstT, os_lstL, os_ixT, at0, at1, at2, os_eqI, os_neI, os_eqS, os_neS, os_add, os_sub, os_mul, os_lt, os_le, os_gt, os_ge, os_int, os_intB, os_inN, permL, List.filterMap_cons, List.filterMap_nil, List.nil_append, List.cons_append, wipeD, decide_eq_true_eq, at_push, itD_ref, itD_tup, itD_kl, Nat.reduceAdd, Nat.reduceLT, and_self, Nat.zero_add, if_true, if_false, Bool.false_eq_true, size2, size3, size4, size1, size0, truth_bl, itD_row, Bool.not_true, Bool.not_false, ev_iEn2, os_lenRow, os_lenN, eq_tupNil, ne_tupNil, ev_eAnd, ev_eOr, ev_eNot]
    refine ⟨by omega, fun i ρ s => ∃ (q : Nat) (t3 t4 t5 : Option D), ρ = [some N.enc, some (.ref q), some (.int (n : Int)), t3, t4, t5] ∧ Kp any st s ∧ st.length ≤ q ∧ s[q]? = some (.lst ((I1 ++ (List.range i).flatMap fun k => (List.range n).map fun j => ((1, k, j) : Dd)).map ddD)), ⟨q, t3, t4, t5, rfl, k1, l1, by simpa using e1⟩, ?_, ?_⟩
    · rintro i d ρ1 s1 hd ⟨q, t3, t4, t5, rfl, k1, l1, e1⟩
      obtain ⟨rfl, hi⟩ := rng_at hd
      refine ⟨trivial, ?_⟩
      simp only [ev_eVar, ev_e2, ev_e1, ev_eC, ev_eB, ev_eM, ev_eTup, ev_eLst, ev_eIf, ev_tb, ev_tbB, ev_and2, ev_or2, ev_not1, ev_eCall, ev_eCallK, ev_aCons, ev_aNil, ev_eSl, ev_oNone, ev_oSome, ev_iR1, ev_iSeq, ev_yes, ev_rg1, gN_at, gT_net, gT_lane, gT_tup, gsC_cons, gsN_nil, ex_asg, startD_1, startD_2, startD_3, startD_4, List.replicate, List.getElem?_cons_zero, List.getElem?_cons_succ, List.set_cons_zero, List.set_cons_succ, Option.some.injEq, exists_eq_left', exists_eq_left, exists_eq', List.length_cons, List.length_nil, true_and, and_true, List.cons.injEq, D.int.injEq, D.bl.injEq, D.ref.injEq, D.tup.injEq, Cell.lst.injEq, ix_net0, ix_net1, ix_net2, ix_lane0, ix_lane1, ix_lane2, os_lenT, os_lenL, os_tupL, os_tupT, os_lstT, os_lstL, os_ixT, at0, at1, at2, os_eqI, os_neI, os_eqS, os_neS, os_add, os_sub, os_mul, os_lt, os_le, os_gt, os_ge, os_int, os_intB, os_inN, permL, List.filterMap_cons, List.filterMap_nil, List.nil_append, List.cons_append, wipeD, decide_eq_true_eq, at_push, itD_ref, itD_tup, itD_kl, Nat.reduceAdd, Nat.reduceLT, and_self, Nat.zero_add, if_true, if_false, Bool.false_eq_true, size2, size3, size4, size1, size0, truth_bl, itD_row, Bool.not_true, Bool.not_false, ev_iEn2, os_lenRow, os_lenN, eq_tupNil, ne_tupNil, ev_eAnd, ev_eOr, ev_eNot, evs_asgN]
      refine ev_lcF (List.range n) nat (fun j => ddD (1, i, j)) (fun _ => true) (fun s => Kp any s1 s) ?_
      simp only [ev_eVar, ev_e2, ev_e1, ev_eC, ev_eB, ev_eM, ev_eTup, ev_eLst, ev_eIf, ev_tb, ev_tbB, ev_and2, ev_or2, ev_not1, ev_eCall, ev_eCallK, ev_aCons, ev_aNil, ev_eSl, ev_oNone, ev_oSome, ev_iR1, ev_iSeq, ev_yes, ev_rg1, gN_at, gT_net, gT_lane, gT_tup, gsC_cons, gsN_nil, ex_asg, startD_1, startD_2, startD_3, startD_4, List.replicate, List.getElem?_cons_zero, List.getElem?_cons_succ, List.set_cons_zero, List.set_cons_succ, Option.some.injEq, exists_eq_left', exists_eq_left, exists_eq', List.length_cons, List.length_nil, true_and, and_true, List.cons.injEq, D.int.injEq, D.bl.injEq, D.ref.injEq, D.tup.injEq, Cell.lst.injEq, ix_net0, ix_net1, ix_net2, ix_lane0, ix_lane1, ix_lane2, os_lenT, os_lenL, os_tupL, os_tupT, os_lstT, os_lstL, os_ixT, at0, at1, at2, os_eqI, os_neI, os_eqS, os_neS, os_add, os_sub, os_mul, os_lt, os_le, os_gt, os_ge, os_int, os_intB, os_inN, permL, List.filterMap_cons, List.filterMap_nil, List.nil_append, List.cons_append, wipeD, decide_eq_true_eq, at_push, itD_ref, itD_tup, itD_kl, Nat.reduceAdd, Nat.reduceLT, and_self, Nat.zero_add, if_true, if_false, Bool.false_eq_true, size2, size3, size4, size1, size0, truth_bl, itD_row, Bool.not_true, Bool.not_false, ev_iEn2, os_lenRow, os_lenN, eq_tupNil, ne_tupNil, ev_eAnd, ev_eOr, ev_eNot]
      refine ⟨by omega, rng_items _, Kp.refl _, by simp; omega, fun _ _ => trivial, ?_, ?_⟩
      · intro x hx s2 k2
        exact ⟨k2, fun _ => ⟨k2, rfl⟩⟩
      intro s2 k2
      have e1' := at_app (k2.at e1 trivial) (y := Cell.lst (((List.range n).filter fun _ => true).map fun j => ddD (1, i, j)))
      rw [os_addL e1' at_push]
      refine ⟨?_, ?_⟩
      · have := ln2 i
        rw [filter_true, List.length_map, List.length_map, List.length_append, List.length_range, sizeLine_val]; omega
      · refine ⟨_, _, _, _, ⟨rfl, rfl, rfl, rfl⟩, ((k1.trans k2).trans (Kp.push _ _)).trans (Kp.push _ _), ?_, ?_⟩
        · have := (k1.trans k2).1
          simp; omega
        · rw [at_push, filter_true, List.range_succ, List.flatMap_append, ← List.append_assoc, List.map_append (l₂ := List.flatMap _ [i])]
          simp [List.map_map]
    · rintro ρ1 s1 ⟨q, t3, t4, t5, rfl, k1, l1, e1⟩
      refine ⟨trivial, ?_⟩
      rw [show (rngD 0 ((n : Int)).toNat).items.length = n by rw [show ((n : Int)).toNat = n by simp]; simp [rngD]] at e1
      have l2 := ln2 n
      simp only [ev_body, evs_seq, evs_asgN, evs_ret, evs_expr, evs_if, evs_pass, evs_brk, evs_cnt, evs_par2, evs_par3, ev_eVar, ev_e2, ev_e1, ev_eC, ev_eB, ev_eM, ev_eTup, ev_eLst, ev_eIf, ev_tb, ev_tbB, ev_and2, ev_or2, ev_not1, ev_eCall, ev_eCallK, ev_aCons, ev_aNil, ev_eSl, ev_oNone, ev_oSome, ev_iR1, ev_iSeq, ev_yes, ev_rg1, gN_at, gT_net, gT_lane, gT_tup, gsC_cons, gsN_nil, ex_asg, startD_1, startD_2, startD_3, startD_4, List.replicate, List.getElem?_cons_zero, List.getElem?_cons_succ, List.set_cons_zero, List.set_cons_succ, Option.some.injEq, exists_eq_left', exists_eq_left, exists_eq', List.length_cons, List.length_nil, true_and, and_true, List.cons.injEq, D.int.injEq, D.bl.injEq, D.ref.injEq, D.tup.injEq, Cell.lst.injEq, ix_net0, ix_net1, ix_net2, ix_lane0, ix_lane1, ix_lane2, os_lenT, os_lenL, os_tupL, os_tupT, os_lstT, os_lstL, os_ixT, at0, at1, at2, os_eqI, os_neI, os_eqS, os_neS, os_add, os_sub, os_mul, os_lt, os_le, os_gt, os_ge, os_int, os_intB, os_inN, permL, List.filterMap_cons, List.filterMap_nil, List.nil_append, List.cons_append, wipeD, decide_eq_true_eq, at_push, itD_ref, itD_tup, itD_kl, Nat.reduceAdd, Nat.reduceLT, and_self, Nat.zero_add, if_true, if_false, Bool.false_eq_true, size2, size3, size4, size1, size0, truth_bl, itD_row, Bool.not_true, Bool.not_false, ev_iEn2, os_lenRow, os_lenN, eq_tupNil, ne_tupNil, ev_eAnd, ev_eOr, ev_eNot]
      refine ev_lcF (List.range n) nat (fun k => ddD (2, k, 0)) (fun _ => true) (fun s => Kp any s1 s) ?_
      simp only [ev_eVar, ev_e2, ev_e1, ev_eC, ev_eB, ev_eM, ev_eTup, ev_eLst, ev_eIf, ev_tb, ev_tbB, ev_and2, ev_or2, ev_not1, ev_eCall, ev_eCallK, ev_aCons, ev_aNil, ev_eSl, ev_oNone, ev_oSome, ev_iR1, ev_iSeq, ev_yes, ev_rg1, gN_at, gT_net, gT_lane, gT_tup, gsC_cons, gsN_nil, ex_asg, startD_1, startD_2, startD_3, startD_4, List.replicate, List.getElem?_cons_zero, List.getElem?_cons_succ, List.set_cons_zero, List.set_cons_succ, Option.some.injEq, exists_eq_left', exists_eq_left, exists_eq', List.length_cons, List.length_nil, true_and, and_true, List.cons.injEq, D.int.injEq, D.bl.injEq, D.ref.injEq, D.tup.injEq, Cell.lst.injEq, ix_net0, ix_net1, ix_net2, ix_lane0, ix_lane1, ix_lane2, os_lenT, os_lenL, os_tupL, os_tupT, os_lstT, os_lstL, os_ixT, at0, at1, at2, os_eqI, os_neI, os_eqS, os_neS, os_add, os_sub, os_mul, os_lt, os_le, os_gt, os_ge, os_int, os_intB, os_inN, permL, List.filterMap_cons, List.filterMap_nil, List.nil_append, List.cons_append, wipeD, decide_eq_true_eq, at_push, itD_ref, itD_tup, itD_kl, Nat.reduceAdd, Nat.reduceLT, and_self, Nat.zero_add, if_true, if_false, Bool.false_eq_true, size2, size3, size4, size1, size0, truth_bl, itD_row, Bool.not_true, Bool.not_false, ev_iEn2, os_lenRow, os_lenN, eq_tupNil, ne_tupNil, ev_eAnd, ev_eOr, ev_eNot]
      refine ⟨by omega, rng_items _, Kp.refl _, by simp; omega, fun _ _ => trivial, ?_, ?_⟩
      · intro x hx s2 k2
        exact ⟨k2, fun _ => ⟨k2, rfl⟩⟩
      intro s2 k2
      have e1' := at_app (k2.at e1 trivial) (y := Cell.lst (((List.range n).filter fun _ => true).map fun k => ddD (2, k, 0)))
      rw [os_addL e1' at_push]
      refine ⟨?_, ?_⟩
      · rw [filter_true, List.length_map, List.length_map, List.length_append, List.length_range, sizeLine_val]; omega
      · refine H _ _ (((k1.trans k2).trans (Kp.push _ _)).trans (Kp.push _ _)) ?_ ?_
        · have := (k1.trans k2).1
          simp; omega
        · rw [at_push, filter_true, ← hI]
          unfold allDeeds
          rw [hn]
          simp [List.map_map]
/-- as ev_lcF, what is kept named once the walk has begun -/
theorem ev_lcG {β : Type} {fi : FI} {g} {tt : FT} {te : F} {vs : List Nat} (xs : List β) (enc : β → D) (f : β → D) (keep : β → Bool) (h : Ev (fi ρ st) (fun it s => ∃ R : Sto → Prop, it.items = xs.map enc ∧ R s ∧ xs.length ≤ 1000000 ∧ (∀ s1, R s1 → it.chk s1) ∧
    (∀ x ∈ xs, ∀ s1, R s1 → ∃ ρ2, g (enc x) (wipeD ρ vs) = some ρ2 ∧ Ev (tt ρ2 s1) (fun k s2 => R s2 ∧ k = keep x ∧ (k = true → Ev (te ρ2 s2) (fun y s3 => R s3 ∧ y = f x)))) ∧
    ∀ s1, R s1 → P (.ref s1.length) (s1 ++ [.lst ((xs.filter keep).map f)]))) : Ev (eLc fi g tt te vs ρ st) P :=
  ev_lcM xs enc (h.mono fun it s ⟨R, h1, h2, h3, h4, h5, h6⟩ => ⟨R, keep, fun x y => y = f x, h1, h2, h3, h4, h5, fun ys s1 hR hA => by rw [hA.map]; exact h6 s1 hR⟩)
end
end Rm

namespace K10
open PySem PySem.Spec PyProof.Rows L2 Rm
def top_ (i : Nat) : Stmt := PySem.Challenge.pw_roomahead_k10_whole_stuck_and_held_fast.main.body.getD i (.Pass ⟨0, 0, 0, 0⟩)
/-- the names of the module that the defs lean on -/
structure MG (mg : PySem.Str → Option Value) : Prop where
  n_abs : mg "abs" = none
  n_enumerate : mg "enumerate" = none
  n_int : mg "int" = none
  n_len : mg "len" = none
  n_list : mg "list" = none
  n_range : mg "range" = none
  n_repr : mg "repr" = none
  n_sorted : mg "sorted" = none
  n_tuple : mg "tuple" = none
section
variable {P : Program} {w : World} {K : PySem.W.Frag} {mg : PySem.Str → Option Value} {base : Heap}
/-! ### ahead -/
abbrev s_ahead : Stmt := top_ 1
abbrev N_ahead : List PySem.Str := ["net", "lane", "aim", "_", "lanes", "tables", "end"]
theorem sc_ahead : FnScope N_ahead ["net", "lane", "aim"] (defScope s_ahead) := ⟨rfl, rfl, rfl, by decide +kernel, rfl, by decide +kernel, by decide +kernel⟩
abbrev Keeps_ahead (P : Program) (w : World) (K : PySem.W.Frag) (mg : PySem.Str → Option Value) (base : Heap) : Prop := Cal P w K mg base 1 "ahead" s_ahead ["net", "lane", "aim"] f_ahead
set_option maxHeartbeats 0 in
theorem ok_ahead (M : MG mg) {f : Addr} {fd : FuncData} (F : FunD K "ahead" "ahead" (defArgs s_ahead) (defBody s_ahead) (defScope s_ahead) [] [] f fd) (hm : mg "ahead" = some (.ref f))  : Keeps_ahead P w K mg base :=
  ok_def F sc_ahead hm (fun _ _ _ _ _ _ us hl => match us, hl with | [_, _, _], _ => rfl) fun cdv A outer s H E go => (show SSs _ _ _ b_ahead from ((ss_cons (s_asg (vs := [3, 4, 5]) (se_var 0) (pg_tup rfl (pgs_cons (pg_name (i := 3) sc_ahead.nd rfl (by first | exact Or.inl rfl | exact Or.inr rfl)) (pgs_cons (pg_name (i := 4) sc_ahead.nd rfl (by first | exact Or.inl rfl | exact Or.inr rfl)) (pgs_cons (pg_name (i := 5) sc_ahead.nd rfl (by first | exact Or.inl rfl | exact Or.inr rfl)) pgs_nil)))) (gl_tup (gl_cons (gl_name (i := 3) (by simp)) (gl_cons (gl_name (i := 4) (by simp)) (gl_cons (gl_name (i := 5) (by simp)) gl_nil)))))
  (ss_cons (s_asg (vs := [6]) (se_ix ix_seq dIx (se_ix ix_seq dIx (se_var 4) (se_var 1) (fun _ _ => rfl)) se_int (fun _ _ => rfl)) (pg_name (i := 6) sc_ahead.nd rfl (by first | exact Or.inl rfl | exact Or.inr rfl)) (gl_name (i := 6) (by simp)))
  (ss_one (s_ret (se_ix ix_seq dIx (se_ix ix_seq dIx (se_var 5) (se_var 6) (fun _ _ => rfl)) (se_var 2) (fun _ _ => rfl))))))))
/-! ### empty -/
abbrev s_empty : Stmt := top_ 3
abbrev N_empty : List PySem.Str := ["net"]
theorem sc_empty : FnScope N_empty ["net"] (defScope s_empty) := ⟨rfl, rfl, rfl, by decide +kernel, rfl, by decide +kernel, by decide +kernel⟩
abbrev Keeps_empty (P : Program) (w : World) (K : PySem.W.Frag) (mg : PySem.Str → Option Value) (base : Heap) : Prop := Cal P w K mg base 1 "empty" s_empty ["net"] f_empty
set_option maxHeartbeats 0 in
theorem ok_empty (M : MG mg) {f : Addr} {fd : FuncData} (F : FunD K "empty" "empty" (defArgs s_empty) (defBody s_empty) (defScope s_empty) [] [] f fd) (hm : mg "empty" = some (.ref f))  : Keeps_empty P w K mg base :=
  ok_def F sc_empty hm (fun _ _ _ _ _ _ us hl => match us, hl with | [_], _ => rfl) fun cdv A outer s H E go => (show SSs _ _ _ b_empty from ((ss_one (s_ret (se_op opMul dMul (se_tup (sa_cons (se_tup sa_nil) sa_nil)) (se_B call_len dLen (by rfl) M.n_len (by decide +kernel) (sa_cons (se_ix ix_seq dIx (se_var 0) se_int (fun _ _ => rfl)) sa_nil)))))))
/-! ### has_room -/
abbrev s_has_room : Stmt := top_ 4
abbrev N_has_room : List PySem.Str := ["net", "stand", "lane"]
theorem sc_has_room : FnScope N_has_room ["net", "stand", "lane"] (defScope s_has_room) := ⟨rfl, rfl, rfl, by decide +kernel, rfl, by decide +kernel, by decide +kernel⟩
abbrev Keeps_has_room (P : Program) (w : World) (K : PySem.W.Frag) (mg : PySem.Str → Option Value) (base : Heap) : Prop := Cal P w K mg base 1 "has_room" s_has_room ["net", "stand", "lane"] f_has_room
set_option maxHeartbeats 0 in
theorem ok_has_room (M : MG mg) {f : Addr} {fd : FuncData} (F : FunD K "has_room" "has_room" (defArgs s_has_room) (defBody s_has_room) (defScope s_has_room) [] [] f fd) (hm : mg "has_room" = some (.ref f))  : Keeps_has_room P w K mg base :=
  ok_def F sc_has_room hm (fun _ _ _ _ _ _ us hl => match us, hl with | [_, _, _], _ => rfl) fun cdv A outer s H E go => (show SSs _ _ _ b_has_room from ((ss_one (s_ret (se_cmp op_lt dLt (se_B call_len dLen (by rfl) M.n_len (by decide +kernel) (sa_cons (se_ix ix_seq dIx (se_var 1) (se_var 2) (fun _ _ => rfl)) sa_nil)) (se_ix ix_seq dIx (se_ix ix_seq dIx (se_ix ix_seq dIx (se_var 0) se_int (fun _ _ => rfl)) (se_var 2) (fun _ _ => rfl)) se_int (fun _ _ => rfl)) (nomark _))))))
/-! ### _is_home -/
abbrev s_is_home : Stmt := top_ 6
abbrev N_is_home : List PySem.Str := ["net", "lane", "aim"]
theorem sc_is_home : FnScope N_is_home ["net", "lane", "aim"] (defScope s_is_home) := ⟨rfl, rfl, rfl, by decide +kernel, rfl, by decide +kernel, by decide +kernel⟩
abbrev Keeps_is_home (P : Program) (w : World) (K : PySem.W.Frag) (mg : PySem.Str → Option Value) (base : Heap) : Prop := Cal P w K mg base 1 "_is_home" s_is_home ["net", "lane", "aim"] f_is_home
set_option maxHeartbeats 0 in
theorem ok_is_home (M : MG mg) {f : Addr} {fd : FuncData} (F : FunD K "_is_home" "_is_home" (defArgs s_is_home) (defBody s_is_home) (defScope s_is_home) [] [] f fd) (hm : mg "_is_home" = some (.ref f))  : Keeps_is_home P w K mg base :=
  ok_def F sc_is_home hm (fun _ _ _ _ _ _ us hl => match us, hl with | [_, _, _], _ => rfl) fun cdv A outer s H E go => (show SSs _ _ _ b_is_home from ((ss_one (s_ret (se_cmp (opEq go.hu) dEq (se_ix ix_seq dIx (se_ix ix_seq dIx (se_ix ix_seq dIx (se_var 0) se_int (fun _ _ => rfl)) (se_var 1) (fun _ _ => rfl)) se_int (fun _ _ => rfl)) (se_var 2) (nomark _))))))
/-! ### _lanes_open -/
abbrev s_lanes_open : Stmt := top_ 8
abbrev N_lanes_open : List PySem.Str := ["net", "stand", "lane", "aim", "other"]
theorem sc_lanes_open : FnScope N_lanes_open ["net", "stand", "lane", "aim"] (defScope s_lanes_open) := ⟨rfl, rfl, rfl, by decide +kernel, rfl, by decide +kernel, by decide +kernel⟩
abbrev Keeps_lanes_open (P : Program) (w : World) (K : PySem.W.Frag) (mg : PySem.Str → Option Value) (base : Heap) : Prop := Cal P w K mg base 2 "_lanes_open" s_lanes_open ["net", "stand", "lane", "aim"] f_lanes_open
set_option maxHeartbeats 0 in
theorem ok_lanes_open (M : MG mg) {f : Addr} {fd : FuncData} (F : FunD K "_lanes_open" "_lanes_open" (defArgs s_lanes_open) (defBody s_lanes_open) (defScope s_lanes_open) [] [] f fd) (hm : mg "_lanes_open" = some (.ref f)) (C_ahead : Keeps_ahead P w K mg base) (C_has_room : Keeps_has_room P w K mg base) : Keeps_lanes_open P w K mg base :=
  ok_def F sc_lanes_open hm (fun _ _ _ _ _ _ us hl => match us, hl with | [_, _, _, _], _ => rfl) fun cdv A outer s H E go => (show SSs _ _ _ b_lanes_open from ((ss_one (s_ret (se_lc [("other", 4)] go sc_lanes_open.nd (pi_seq (se_call C_ahead (go.low (by decide)) (by rfl) (sa_cons (se_var 0) (sa_cons (se_var 2) (sa_cons (se_var 3) sa_nil))))) wi_seq (blkOk_by (own := [("other", 4)]) (by kernel_rfl)) (fun _ _ _ _ _ => (pg_name (i := 4) sc_lanes_open.nd rfl (by first | exact Or.inl rfl | exact Or.inr rfl))) (gl_name (i := 4) (by simp)) (fun _ _ _ _ _ => (sp_one (st_truth (se_call C_has_room ((go_blk go).low (by decide)) (by rfl) (sa_cons (se_var 0) (sa_cons (se_var 1) (sa_cons (se_var 4) sa_nil))))))) (fun _ _ _ _ _ => (se_var 4)))))))
/-! ### moves -/
abbrev s_moves : Stmt := top_ 7
abbrev N_moves : List PySem.Str := ["net", "stand", "firsts", "ons", "outs", "lane", "letters", "aim", "other"]
theorem sc_moves : FnScope N_moves ["net", "stand"] (defScope s_moves) := ⟨rfl, rfl, rfl, by decide +kernel, rfl, by decide +kernel, by decide +kernel⟩
abbrev Keeps_moves (P : Program) (w : World) (K : PySem.W.Frag) (mg : PySem.Str → Option Value) (base : Heap) : Prop := Cal P w K mg base 3 "moves" s_moves ["net", "stand"] f_moves
set_option maxHeartbeats 0 in
theorem ok_moves (M : MG mg) {f : Addr} {fd : FuncData} (F : FunD K "moves" "moves" (defArgs s_moves) (defBody s_moves) (defScope s_moves) [] [] f fd) (hm : mg "moves" = some (.ref f)) (C_lanes_open : Keeps_lanes_open P w K mg base) (C_is_home : Keeps_is_home P w K mg base) : Keeps_moves P w K mg base :=
  ok_def F sc_moves hm (fun _ _ _ _ _ _ us hl => match us, hl with | [_, _], _ => rfl) fun cdv A outer s H E go => (show SSs _ _ _ b_moves from ((ss_cons (s_setLc (i := 2) [("lane", 5), ("letters", 6)] go sc_moves.nd rfl rfl (sw_true rfl rfl rfl (by decide +kernel)) (pi_en2 (by rfl) M.n_enumerate (sa_cons (se_var 1) sa_nil).run) wi_en2 (blkOk_by (own := [("lane", 5), ("letters", 6)]) (by kernel_rfl)) (fun _ _ _ _ _ => (pg_tup rfl (pgs_cons (pg_name (i := 5) sc_moves.nd rfl (by first | exact Or.inl rfl | exact Or.inr rfl)) (pgs_cons (pg_name (i := 6) sc_moves.nd rfl (by first | exact Or.inl rfl | exact Or.inr rfl)) pgs_nil)))) (gl_tup (gl_cons (gl_name (i := 5) (by simp)) (gl_cons (gl_name (i := 6) (by simp)) gl_nil))) (fun _ _ _ _ _ => (sp_one (st_cmp op_gt dGt (se_B call_len dLen (by rfl) M.n_len (by decide +kernel) (sa_cons (se_var 6) sa_nil)) se_int (nomark _)))) (fun _ _ _ _ _ => (se_tup (sa_cons (se_var 5) (sa_cons (se_ix ix_seq dIx (se_var 6) se_int (fun _ _ => rfl)) sa_nil)))))
  (ss_cons (s_setLc2 (i := 3) [("lane", 5), ("aim", 7), ("other", 8)] [8] (by decide) go sc_moves.nd rfl rfl (sw_true rfl rfl rfl (by decide +kernel)) (pi_seq (se_var 2)) wi_seq (blkOk_by (own := [("lane", 5), ("aim", 7), ("other", 8)]) (by kernel_rfl)) (fun _ _ _ _ _ => (pg_tup rfl (pgs_cons (pg_name (i := 5) sc_moves.nd rfl (by first | exact Or.inl rfl | exact Or.inr rfl)) (pgs_cons (pg_name (i := 7) sc_moves.nd rfl (by first | exact Or.inl rfl | exact Or.inr rfl)) pgs_nil)))) (gl_tup (gl_cons (gl_name (i := 5) (by simp)) (gl_cons (gl_name (i := 7) (by simp)) gl_nil))) (fun _ _ _ _ _ => sp_nil) (fun _ _ _ _ _ => (pi_seq (se_call C_lanes_open ((go_blk go).low (by decide)) (by rfl) (sa_cons (se_var 0) (sa_cons (se_var 1) (sa_cons (se_var 5) (sa_cons (se_var 7) sa_nil))))))) wi_seq (fun _ _ _ _ _ => (pg_name (i := 8) sc_moves.nd rfl (by first | exact Or.inl rfl | exact Or.inr rfl))) (gl_name (i := 8) (by simp)) (fun _ _ _ _ _ => sp_nil) (fun _ _ _ _ _ => (se_tup (sa_cons se_str (sa_cons (se_var 5) (sa_cons (se_var 8) sa_nil))))))
  (ss_cons (s_setLc (i := 4) [("lane", 5), ("aim", 7)] go sc_moves.nd rfl rfl (sw_true rfl rfl rfl (by decide +kernel)) (pi_seq (se_var 2)) wi_seq (blkOk_by (own := [("lane", 5), ("aim", 7)]) (by kernel_rfl)) (fun _ _ _ _ _ => (pg_tup rfl (pgs_cons (pg_name (i := 5) sc_moves.nd rfl (by first | exact Or.inl rfl | exact Or.inr rfl)) (pgs_cons (pg_name (i := 7) sc_moves.nd rfl (by first | exact Or.inl rfl | exact Or.inr rfl)) pgs_nil)))) (gl_tup (gl_cons (gl_name (i := 5) (by simp)) (gl_cons (gl_name (i := 7) (by simp)) gl_nil))) (fun _ _ _ _ _ => (sp_one (st_truth (se_call C_is_home ((go_blk go).low (by decide)) (by rfl) (sa_cons (se_var 0) (sa_cons (se_var 5) (sa_cons (se_var 7) sa_nil))))))) (fun _ _ _ _ _ => (se_tup (sa_cons se_str (sa_cons (se_var 5) sa_nil)))))
  (ss_one (s_ret (se_T call_tuple_of dTup (by rfl) M.n_tuple (by decide +kernel) (sa_cons (se_op opAdd dAdd (se_var 3) (se_var 4)) sa_nil)))))))))
/-! ### stuck -/
abbrev s_stuck : Stmt := top_ 9
abbrev N_stuck : List PySem.Str := ["net", "stand"]
theorem sc_stuck : FnScope N_stuck ["net", "stand"] (defScope s_stuck) := ⟨rfl, rfl, rfl, by decide +kernel, rfl, by decide +kernel, by decide +kernel⟩
abbrev Keeps_stuck (P : Program) (w : World) (K : PySem.W.Frag) (mg : PySem.Str → Option Value) (base : Heap) : Prop := Cal P w K mg base 4 "stuck" s_stuck ["net", "stand"] f_stuck
set_option maxHeartbeats 0 in
theorem ok_stuck (M : MG mg) {f : Addr} {fd : FuncData} (F : FunD K "stuck" "stuck" (defArgs s_stuck) (defBody s_stuck) (defScope s_stuck) [] [] f fd) (hm : mg "stuck" = some (.ref f)) (C_empty : Keeps_empty P w K mg base) (C_moves : Keeps_moves P w K mg base) : Keeps_stuck P w K mg base :=
  ok_def F sc_stuck hm (fun _ _ _ _ _ _ us hl => match us, hl with | [_, _], _ => rfl) fun cdv A outer s H E go => (show SSs _ _ _ b_stuck from ((ss_one (s_ret (se_and (se_cmp (opNe go.hu) dNe (se_var 1) (se_call C_empty (go.low (by decide)) (by rfl) (sa_cons (se_var 0) sa_nil)) (nomark _)) (se_one (se_cmp (opEq go.hu) dEq (se_call C_moves (go.low (by decide)) (by rfl) (sa_cons (se_var 0) (sa_cons (se_var 1) sa_nil))) (se_tup sa_nil) (nomark _))))))))
/-! ### held_fast -/
abbrev s_held_fast : Stmt := top_ 10
abbrev N_held_fast : List PySem.Str := ["net", "stand", "letters", "loose", "lane", "lying", "aim"]
theorem sc_held_fast : FnScope N_held_fast ["net", "stand"] (defScope s_held_fast) := ⟨rfl, rfl, rfl, by decide +kernel, rfl, by decide +kernel, by decide +kernel⟩
abbrev Keeps_held_fast (P : Program) (w : World) (K : PySem.W.Frag) (mg : PySem.Str → Option Value) (base : Heap) : Prop := Cal P w K mg base 3 "held_fast" s_held_fast ["net", "stand"] f_held_fast
set_option maxHeartbeats 0 in
theorem ok_held_fast (M : MG mg) {f : Addr} {fd : FuncData} (F : FunD K "held_fast" "held_fast" (defArgs s_held_fast) (defBody s_held_fast) (defScope s_held_fast) [] [] f fd) (hm : mg "held_fast" = some (.ref f)) (C_is_home : Keeps_is_home P w K mg base) (C_lanes_open : Keeps_lanes_open P w K mg base) : Keeps_held_fast P w K mg base :=
  ok_def F sc_held_fast hm (fun _ _ _ _ _ _ us hl => match us, hl with | [_, _], _ => rfl) fun cdv A outer s H E go => (show SSs _ _ _ b_held_fast from ((ss_cons (s_setLc2 (i := 2) [("lane", 4), ("lying", 5), ("aim", 6)] [6] (by decide) go sc_held_fast.nd rfl rfl (sw_true rfl rfl rfl (by decide +kernel)) (pi_en2 (by rfl) M.n_enumerate (sa_cons (se_var 1) sa_nil).run) wi_en2 (blkOk_by (own := [("lane", 4), ("lying", 5), ("aim", 6)]) (by kernel_rfl)) (fun _ _ _ _ _ => (pg_tup rfl (pgs_cons (pg_name (i := 4) sc_held_fast.nd rfl (by first | exact Or.inl rfl | exact Or.inr rfl)) (pgs_cons (pg_name (i := 5) sc_held_fast.nd rfl (by first | exact Or.inl rfl | exact Or.inr rfl)) pgs_nil)))) (gl_tup (gl_cons (gl_name (i := 4) (by simp)) (gl_cons (gl_name (i := 5) (by simp)) gl_nil))) (fun _ _ _ _ _ => sp_nil) (fun _ _ _ _ _ => (pi_seq (se_var 5))) wi_seq (fun _ _ _ _ _ => (pg_name (i := 6) sc_held_fast.nd rfl (by first | exact Or.inl rfl | exact Or.inr rfl))) (gl_name (i := 6) (by simp)) (fun _ _ _ _ _ => sp_nil) (fun _ _ _ _ _ => (se_tup (sa_cons (se_var 4) (sa_cons (se_var 6) sa_nil)))))
  (ss_cons (s_setLc (i := 3) [("lane", 4), ("aim", 6)] go sc_held_fast.nd rfl rfl (sw_true rfl rfl rfl (by decide +kernel)) (pi_seq (se_var 2)) wi_seq (blkOk_by (own := [("lane", 4), ("aim", 6)]) (by kernel_rfl)) (fun _ _ _ _ _ => (pg_tup rfl (pgs_cons (pg_name (i := 4) sc_held_fast.nd rfl (by first | exact Or.inl rfl | exact Or.inr rfl)) (pgs_cons (pg_name (i := 6) sc_held_fast.nd rfl (by first | exact Or.inl rfl | exact Or.inr rfl)) pgs_nil)))) (gl_tup (gl_cons (gl_name (i := 4) (by simp)) (gl_cons (gl_name (i := 6) (by simp)) gl_nil))) (fun _ _ _ _ _ => (sp_one (st_w (sw_or (st_truth (se_call C_is_home ((go_blk go).low (by decide)) (by rfl) (sa_cons (se_var 0) (sa_cons (se_var 4) (sa_cons (se_var 6) sa_nil))))) (sw_or1 (st_cmp op_gt dGt (se_B call_len dLen (by rfl) M.n_len (by decide +kernel) (sa_cons (se_call C_lanes_open ((go_blk go).low (by decide)) (by rfl) (sa_cons (se_var 0) (sa_cons (se_var 1) (sa_cons (se_var 4) (sa_cons (se_var 6) sa_nil))))) sa_nil)) se_int (nomark _))))))) (fun _ _ _ _ _ => (se_tup (sa_cons (se_var 4) (sa_cons (se_var 6) sa_nil)))))
  (ss_one (s_ret (se_and (se_cmp op_gt dGt (se_B call_len dLen (by rfl) M.n_len (by decide +kernel) (sa_cons (se_var 2) sa_nil)) se_int (nomark _)) (se_one (se_cmp (opEq go.hu) dEq (se_B call_len dLen (by rfl) M.n_len (by decide +kernel) (sa_cons (se_var 3) sa_nil)) se_int (nomark _))))))))))
/-! ### _law_deck -/
abbrev s_law_deck : Stmt := top_ 12
abbrev N_law_deck : List PySem.Str := ["script", "cells", "mixed", "cell"]
theorem sc_law_deck : FnScope N_law_deck ["script"] (defScope s_law_deck) := ⟨rfl, rfl, rfl, by decide +kernel, rfl, by decide +kernel, by decide +kernel⟩
abbrev Keeps_law_deck (P : Program) (w : World) (K : PySem.W.Frag) (mg : PySem.Str → Option Value) (base : Heap) : Prop := Cal P w K mg base 1 "_law_deck" s_law_deck ["script"] f_law_deck
set_option maxHeartbeats 0 in
theorem ok_law_deck (M : MG mg) {f : Addr} {fd : FuncData} (F : FunD K "_law_deck" "_law_deck" (defArgs s_law_deck) (defBody s_law_deck) (defScope s_law_deck) [] [] f fd) (hm : mg "_law_deck" = some (.ref f))  : Keeps_law_deck P w K mg base :=
  ok_def F sc_law_deck hm (fun _ _ _ _ _ _ us hl => match us, hl with | [_], _ => rfl) fun cdv A outer s H E go => (show SSs _ _ _ b_law_deck from ((ss_cons (s_par2 (i := 1) (j := 2) go.calm sc_law_deck.nd rfl rfl (by decide) rfl rfl (sa_cons (se_lc [("cell", 3)] go sc_law_deck.nd (pi_seq (se_slice (se_var 0) so_none (so_some se_int))) wi_seq (blkOk_by (own := [("cell", 3)]) (by kernel_rfl)) (fun _ _ _ _ _ => (pg_name (i := 3) sc_law_deck.nd rfl (by first | exact Or.inl rfl | exact Or.inr rfl))) (gl_name (i := 3) (by simp)) (fun _ _ _ _ _ => sp_nil) (fun _ _ _ _ _ => (se_op opAdd dAdd (se_op opMul dMul se_int (se_B call_abs dAbs (by rfl) M.n_abs (by decide +kernel) (sa_cons (se_var 3) sa_nil))) (se_T call_int1 dInt (by rfl) M.n_int (by decide +kernel) (sa_cons (se_cmp op_lt dLt (se_var 3) se_int (nomark _)) sa_nil))))) (sa_cons (se_op opAdd dAdd se_int (se_B call_len dLen (by rfl) M.n_len (by decide +kernel) (sa_cons (se_var 0) sa_nil))) sa_nil)))
  (ss_cons (s_for (vs := [3]) go.own go.calm (pi_seq (se_var 1)) wi_seq (pg_name (i := 3) sc_law_deck.nd rfl (by first | exact Or.inl rfl | exact Or.inr rfl)) (gl_name (i := 3) (by simp)) (ss_one (s_asg (vs := [2]) (se_op op_mod dMod (se_T call_int1 dInt (by rfl) M.n_int (by decide +kernel) (sa_cons (se_op opAdd dAdd (se_op opAdd dAdd (se_op opMul dMul (se_var 2) se_int) (se_var 3)) se_int) sa_nil)) se_int) (pg_name (i := 2) sc_law_deck.nd rfl (by first | exact Or.inl rfl | exact Or.inr rfl)) (gl_name (i := 2) (by simp)))))
  (ss_one (s_ret (se_lst (sa_cons (se_lc [("cell", 3)] go sc_law_deck.nd (pi_seq (se_var 1)) wi_seq (blkOk_by (own := [("cell", 3)]) (by kernel_rfl)) (fun _ _ _ _ _ => (pg_name (i := 3) sc_law_deck.nd rfl (by first | exact Or.inl rfl | exact Or.inr rfl))) (gl_name (i := 3) (by simp)) (fun _ _ _ _ _ => (sp_one (st_cmp op_gt dGt (se_var 3) (se_op op_pow dPow se_int se_int) (nomark _)))) (fun _ _ _ _ _ => (se_var 3))) (sa_cons (se_var 2) (sa_cons se_int sa_nil))))))))))
/-! ### _law_draw -/
abbrev s_law_draw : Stmt := top_ 13
abbrev N_law_draw : List PySem.Str := ["deck", "many", "cell", "found", "turn"]
theorem sc_law_draw : FnScope N_law_draw ["deck", "many"] (defScope s_law_draw) := ⟨rfl, rfl, rfl, by decide +kernel, rfl, by decide +kernel, by decide +kernel⟩
abbrev Keeps_law_draw (P : Program) (w : World) (K : PySem.W.Frag) (mg : PySem.Str → Option Value) (base : Heap) : Prop := Cal P w K mg base 1 "_law_draw" s_law_draw ["deck", "many"] f_law_draw
set_option maxHeartbeats 0 in
theorem ok_law_draw (M : MG mg) {f : Addr} {fd : FuncData} (F : FunD K "_law_draw" "_law_draw" (defArgs s_law_draw) (defBody s_law_draw) (defScope s_law_draw) [] [] f fd) (hm : mg "_law_draw" = some (.ref f))  : Keeps_law_draw P w K mg base :=
  ok_def F sc_law_draw hm (fun _ _ _ _ _ _ us hl => match us, hl with | [_, _], _ => rfl) fun cdv A outer s H E go => (show SSs _ _ _ b_law_draw from ((ss_cons (s_if (st_w (sw_and (st_cmp (opNe go.hu) dNe (se_ix ix_seq dIx (se_var 0) se_int (fun _ _ => rfl)) (se_lst sa_nil) (nomark _)) (sw_and1 (st_cmp op_gt dGt (se_var 1) se_int (nomark _))))) (ss_cons (s_asg (vs := [2]) (se_M PySem.F.plainAttrs_list PySem.F.slot_list_pop PySem.F.type_list_pop mt_popAt dPop (se_ix ix_seq dIx (se_var 0) se_int (fun _ _ => rfl)) (sa_cons se_int sa_nil)) (pg_name (i := 2) sc_law_draw.nd rfl (by first | exact Or.inl rfl | exact Or.inr rfl)) (gl_name (i := 2) (by simp)))
  (ss_cons (s_if (st_cmp op_ge dGe (se_var 2) (se_var 1) (nomark _)) (ss_one (s_expr (se_M PySem.F.plainAttrs_list PySem.F.slot_list_insert PySem.F.type_list_insert mt_insert dIns (se_ix ix_seq dIx (se_var 0) se_int (fun _ _ => rfl)) (sa_cons se_int (sa_cons (se_op op_fdiv dFdiv (se_var 2) (se_var 1)) sa_nil))))) ss_nil)
  (ss_one (s_ret (se_op op_mod dMod (se_T call_int1 dInt (by rfl) M.n_int (by decide +kernel) (sa_cons (se_var 2) sa_nil)) (se_var 1)))))) ss_nil)
  (ss_cons (s_asgG (se_op opAdd dAdd (se_ix ix_seq dIx (se_var 0) se_int (fun _ _ => rfl)) se_int) (sg_sub (se_var 0) se_int))
  (ss_cons (s_asg (vs := [3]) (se_op op_mod dMod (se_T call_int1 dInt (by rfl) M.n_int (by decide +kernel) (sa_cons (se_op opAdd dAdd (se_ix ix_seq dIx (se_var 0) se_int (fun _ _ => rfl)) (se_op opMul dMul se_int (se_ix ix_seq dIx (se_var 0) se_int (fun _ _ => rfl)))) sa_nil)) se_int) (pg_name (i := 3) sc_law_draw.nd rfl (by first | exact Or.inl rfl | exact Or.inr rfl)) (gl_name (i := 3) (by simp)))
  (ss_cons (s_for (vs := [4]) go.own go.calm (pi_range1 (by rfl) M.n_range (sa_cons se_int sa_nil).run) wi_r1 (pg_name (i := 4) sc_law_draw.nd rfl (by first | exact Or.inl rfl | exact Or.inr rfl)) (gl_name (i := 4) (by simp)) (ss_one (s_asg (vs := [3]) (se_op op_mod dMod (se_T call_int1 dInt (by rfl) M.n_int (by decide +kernel) (sa_cons (se_op opAdd dAdd (se_op opAdd dAdd (se_op opAdd dAdd (se_op opMul dMul (se_var 3) (se_var 3)) (se_op opMul dMul se_int (se_ix ix_seq dIx (se_var 0) se_int (fun _ _ => rfl)))) se_int) (se_var 4)) sa_nil)) se_int) (pg_name (i := 3) sc_law_draw.nd rfl (by first | exact Or.inl rfl | exact Or.inr rfl)) (gl_name (i := 3) (by simp)))))
  (ss_one (s_ret (se_op op_mod dMod (se_T call_int1 dInt (by rfl) M.n_int (by decide +kernel) (sa_cons (se_op op_fdiv dFdiv (se_var 3) se_int) sa_nil)) (se_var 1))))))))))
/-! ### _law_pick -/
abbrev s_law_pick : Stmt := top_ 14
abbrev N_law_pick : List PySem.Str := ["deck", "items"]
theorem sc_law_pick : FnScope N_law_pick ["deck", "items"] (defScope s_law_pick) := ⟨rfl, rfl, rfl, by decide +kernel, rfl, by decide +kernel, by decide +kernel⟩
abbrev Keeps_law_pick (P : Program) (w : World) (K : PySem.W.Frag) (mg : PySem.Str → Option Value) (base : Heap) : Prop := Cal P w K mg base 2 "_law_pick" s_law_pick ["deck", "items"] f_law_pick
set_option maxHeartbeats 0 in
theorem ok_law_pick (M : MG mg) {f : Addr} {fd : FuncData} (F : FunD K "_law_pick" "_law_pick" (defArgs s_law_pick) (defBody s_law_pick) (defScope s_law_pick) [] [] f fd) (hm : mg "_law_pick" = some (.ref f)) (C_law_draw : Keeps_law_draw P w K mg base) : Keeps_law_pick P w K mg base :=
  ok_def F sc_law_pick hm (fun _ _ _ _ _ _ us hl => match us, hl with | [_, _], _ => rfl) fun cdv A outer s H E go => (show SSs _ _ _ b_law_pick from ((ss_one (s_ret (se_ix ix_seq dIx (se_var 1) (se_call C_law_draw (go.low (by decide)) (by rfl) (sa_cons (se_var 0) (sa_cons (se_B call_len dLen (by rfl) M.n_len (by decide +kernel) (sa_cons (se_var 1) sa_nil)) sa_nil))) (fun _ _ => rfl))))))
/-! ### _law_mixed -/
abbrev s_law_mixed : Stmt := top_ 15
abbrev N_law_mixed : List PySem.Str := ["deck", "items", "left", "found"]
theorem sc_law_mixed : FnScope N_law_mixed ["deck", "items"] (defScope s_law_mixed) := ⟨rfl, rfl, rfl, by decide +kernel, rfl, by decide +kernel, by decide +kernel⟩
abbrev Keeps_law_mixed (P : Program) (w : World) (K : PySem.W.Frag) (mg : PySem.Str → Option Value) (base : Heap) : Prop := Cal P w K mg base 2 "_law_mixed" s_law_mixed ["deck", "items"] f_law_mixed
set_option maxHeartbeats 0 in
theorem ok_law_mixed (M : MG mg) {f : Addr} {fd : FuncData} (F : FunD K "_law_mixed" "_law_mixed" (defArgs s_law_mixed) (defBody s_law_mixed) (defScope s_law_mixed) [] [] f fd) (hm : mg "_law_mixed" = some (.ref f)) (C_law_draw : Keeps_law_draw P w K mg base) : Keeps_law_mixed P w K mg base :=
  ok_def F sc_law_mixed hm (fun _ _ _ _ _ _ us hl => match us, hl with | [_, _], _ => rfl) fun cdv A outer s H E go => (show SSs _ _ _ b_law_mixed from ((ss_cons (s_par2 (i := 2) (j := 3) go.calm sc_law_mixed.nd rfl rfl (by decide) rfl rfl (sa_cons (se_T call_list_of dLst (by rfl) M.n_list (by decide +kernel) (sa_cons (se_var 1) sa_nil)) (sa_cons (se_lst sa_nil) sa_nil)))
  (ss_cons (s_while whN go (st_cmp (opNe go.hu) dNe (se_var 2) (se_lst sa_nil) (nomark _)) (ss_one (s_expr (se_M PySem.F.plainAttrs_list PySem.F.slot_list_append PySem.F.type_list_append mt_append dApp (se_var 3) (sa_cons (se_M PySem.F.plainAttrs_list PySem.F.slot_list_pop PySem.F.type_list_pop mt_popAt dPop (se_var 2) (sa_cons (se_call C_law_draw (go.low (by decide)) (by rfl) (sa_cons (se_var 0) (sa_cons (se_B call_len dLen (by rfl) M.n_len (by decide +kernel) (sa_cons (se_var 2) sa_nil)) sa_nil))) sa_nil)) sa_nil)))))
  (ss_one (s_ret (se_var 3)))))))
/-! ### _law_entry -/
abbrev s_law_entry : Stmt := top_ 17
abbrev N_law_entry : List PySem.Str := ["deck", "lanes", "u", "here", "many", "k", "lane"]
theorem sc_law_entry : FnScope N_law_entry ["deck", "lanes", "u"] (defScope s_law_entry) := ⟨rfl, rfl, rfl, by decide +kernel, rfl, by decide +kernel, by decide +kernel⟩
abbrev Keeps_law_entry (P : Program) (w : World) (K : PySem.W.Frag) (mg : PySem.Str → Option Value) (base : Heap) : Prop := Cal P w K mg base 3 "_law_entry" s_law_entry ["deck", "lanes", "u"] f_law_entry
set_option maxHeartbeats 0 in
theorem ok_law_entry (M : MG mg) {f : Addr} {fd : FuncData} (F : FunD K "_law_entry" "_law_entry" (defArgs s_law_entry) (defBody s_law_entry) (defScope s_law_entry) [] [] f fd) (hm : mg "_law_entry" = some (.ref f)) (C_law_mixed : Keeps_law_mixed P w K mg base) (C_law_pick : Keeps_law_pick P w K mg base) : Keeps_law_entry P w K mg base :=
  ok_def F sc_law_entry hm (fun _ _ _ _ _ _ us hl => match us, hl with | [_, _, _], _ => rfl) fun cdv A outer s H E go => (show SSs _ _ _ b_law_entry from ((ss_cons (s_asg (vs := [3]) (se_call C_law_mixed (go.low (by decide)) (by rfl) (sa_cons (se_var 0) (sa_cons (se_lc [("k", 5), ("lane", 6)] go sc_law_entry.nd (pi_en2 (by rfl) M.n_enumerate (sa_cons (se_var 1) sa_nil).run) wi_en2 (blkOk_by (own := [("k", 5), ("lane", 6)]) (by kernel_rfl)) (fun _ _ _ _ _ => (pg_tup rfl (pgs_cons (pg_name (i := 5) sc_law_entry.nd rfl (by first | exact Or.inl rfl | exact Or.inr rfl)) (pgs_cons (pg_name (i := 6) sc_law_entry.nd rfl (by first | exact Or.inl rfl | exact Or.inr rfl)) pgs_nil)))) (gl_tup (gl_cons (gl_name (i := 5) (by simp)) (gl_cons (gl_name (i := 6) (by simp)) gl_nil))) (fun _ _ _ _ _ => (sp_one (st_cmp (opEq (go_blk go).hu) dEq (se_ix ix_seq dIx (se_var 6) se_int (fun _ _ => rfl)) (se_var 2) (nomark _)))) (fun _ _ _ _ _ => (se_var 5))) sa_nil))) (pg_name (i := 3) sc_law_entry.nd rfl (by first | exact Or.inl rfl | exact Or.inr rfl)) (gl_name (i := 3) (by simp)))
  (ss_cons (s_asg (vs := [4]) (se_call C_law_pick (go.low (by decide)) (by rfl) (sa_cons (se_var 0) (sa_cons (se_lst (sa_cons se_int (sa_cons se_int (sa_cons se_int (sa_cons se_int (sa_cons se_int (sa_cons se_int (sa_cons (se_B call_len dLen (by rfl) M.n_len (by decide +kernel) (sa_cons (se_var 3) sa_nil)) (sa_cons se_int sa_nil))))))))) sa_nil))) (pg_name (i := 4) sc_law_entry.nd rfl (by first | exact Or.inl rfl | exact Or.inr rfl)) (gl_name (i := 4) (by simp)))
  (ss_one (s_ret (se_T call_tuple_of dTup (by rfl) M.n_tuple (by decide +kernel) (sa_cons (se_B cr_sortedI dSort (by rfl) M.n_sorted (by decide +kernel) (sa_cons (se_slice (se_var 3) so_none (so_some (se_var 4))) sa_nil)) sa_nil))))))))
/-! ### _law_cut -/
abbrev s_law_cut : Stmt := top_ 18
abbrev N_law_cut : List PySem.Str := ["rows", "most", "row", "own", "k"]
theorem sc_law_cut : FnScope N_law_cut ["rows", "most"] (defScope s_law_cut) := ⟨rfl, rfl, rfl, by decide +kernel, rfl, by decide +kernel, by decide +kernel⟩
abbrev Keeps_law_cut (P : Program) (w : World) (K : PySem.W.Frag) (mg : PySem.Str → Option Value) (base : Heap) : Prop := Cal P w K mg base 1 "_law_cut" s_law_cut ["rows", "most"] f_law_cut
set_option maxHeartbeats 0 in
theorem ok_law_cut (M : MG mg) {f : Addr} {fd : FuncData} (F : FunD K "_law_cut" "_law_cut" (defArgs s_law_cut) (defBody s_law_cut) (defScope s_law_cut) [] [] f fd) (hm : mg "_law_cut" = some (.ref f))  : Keeps_law_cut P w K mg base :=
  ok_def F sc_law_cut hm (fun _ _ _ _ _ _ us hl => match us, hl with | [_, _], _ => rfl) fun cdv A outer s H E go => (show SSs _ _ _ b_law_cut from ((ss_one (s_ret (se_T call_tuple_of dTup (by rfl) M.n_tuple (by decide +kernel) (sa_cons (se_lc [("row", 2)] go sc_law_cut.nd (pi_seq (se_var 0)) wi_seq (blkOk_by (own := [("row", 2)]) (by kernel_rfl)) (fun _ _ _ _ _ => (pg_name (i := 2) sc_law_cut.nd rfl (by first | exact Or.inl rfl | exact Or.inr rfl))) (gl_name (i := 2) (by simp)) (fun _ _ _ _ _ => sp_nil) (fun _ _ _ _ _ => (se_T call_tuple_of dTup (by rfl) M.n_tuple (by decide +kernel) (sa_cons (se_lc [("own", 3)] (go_blk go) sc_law_cut.nd (pi_seq (se_var 2)) wi_seq (blkOk_by (own := [("own", 3)]) (by kernel_rfl)) (fun _ _ _ _ _ => (pg_name (i := 3) sc_law_cut.nd rfl (by first | exact Or.inl rfl | exact Or.inr rfl))) (gl_name (i := 3) (by simp)) (fun _ _ _ _ _ => sp_nil) (fun _ _ _ _ _ => (se_T call_tuple_of dTup (by rfl) M.n_tuple (by decide +kernel) (sa_cons (se_lc [("k", 4)] (go_blk (go_blk go)) sc_law_cut.nd (pi_seq (se_var 3)) wi_seq (blkOk_by (own := [("k", 4)]) (by kernel_rfl)) (fun _ _ _ _ _ => (pg_name (i := 4) sc_law_cut.nd rfl (by first | exact Or.inl rfl | exact Or.inr rfl))) (gl_name (i := 4) (by simp)) (fun _ _ _ _ _ => (sp_one (st_cmp op_lt dLt (se_var 4) (se_var 1) (nomark _)))) (fun _ _ _ _ _ => (se_var 4))) sa_nil)))) sa_nil)))) sa_nil))))))
/-! ### _law_net -/
abbrev s_law_net : Stmt := top_ 16
abbrev N_law_net : List PySem.Str := ["deck", "houses", "most", "least", "lanes", "turn", "start", "end", "rows", "u", "d"]
theorem sc_law_net : FnScope N_law_net ["deck", "houses", "most", "least"] (defScope s_law_net) := ⟨rfl, rfl, rfl, by decide +kernel, rfl, by decide +kernel, by decide +kernel⟩
abbrev Keeps_law_net (P : Program) (w : World) (K : PySem.W.Frag) (mg : PySem.Str → Option Value) (base : Heap) : Prop := Cal P w K mg base 4 "_law_net" s_law_net ["deck", "houses", "most", "least"] f_law_net
set_option maxHeartbeats 0 in
theorem ok_law_net (M : MG mg) {f : Addr} {fd : FuncData} (F : FunD K "_law_net" "_law_net" (defArgs s_law_net) (defBody s_law_net) (defScope s_law_net) [] [] f fd) (hm : mg "_law_net" = some (.ref f)) (C_law_draw : Keeps_law_draw P w K mg base) (C_law_pick : Keeps_law_pick P w K mg base) (C_law_entry : Keeps_law_entry P w K mg base) (C_law_cut : Keeps_law_cut P w K mg base) : Keeps_law_net P w K mg base :=
  ok_def F sc_law_net hm (fun _ _ _ _ _ _ us hl => match us, hl with | [_, _, _, _], _ => rfl) fun cdv A outer s H E go => (show SSs _ _ _ b_law_net from ((ss_cons (s_asg (vs := [4]) (se_lst sa_nil) (pg_name (i := 4) sc_law_net.nd rfl (by first | exact Or.inl rfl | exact Or.inr rfl)) (gl_name (i := 4) (by simp)))
  (ss_cons (s_for (vs := [5]) go.own go.calm (pi_range1 (by rfl) M.n_range (sa_cons (se_if (st_cmp op_gt dGt (se_var 1) se_int (nomark _)) (se_op opAdd dAdd (se_var 3) (se_call C_law_draw (go.low (by decide)) (by rfl) (sa_cons (se_var 0) (sa_cons (se_op opAdd dAdd (se_op op_sub dSub (se_var 2) (se_var 3)) se_int) sa_nil)))) se_int) sa_nil).run) wi_r1 (pg_name (i := 5) sc_law_net.nd rfl (by first | exact Or.inl rfl | exact Or.inr rfl)) (gl_name (i := 5) (by simp)) (ss_cons (s_asg (vs := [6]) (se_call C_law_draw (go.low (by decide)) (by rfl) (sa_cons (se_var 0) (sa_cons (se_var 1) sa_nil))) (pg_name (i := 6) sc_law_net.nd rfl (by first | exact Or.inl rfl | exact Or.inr rfl)) (gl_name (i := 6) (by simp)))
  (ss_cons (s_asg (vs := [7]) (se_op op_mod dMod (se_T call_int1 dInt (by rfl) M.n_int (by decide +kernel) (sa_cons (se_op opAdd dAdd (se_op opAdd dAdd (se_var 6) se_int) (se_call C_law_draw (go.low (by decide)) (by rfl) (sa_cons (se_var 0) (sa_cons (se_op op_sub dSub (se_var 1) se_int) sa_nil)))) sa_nil)) (se_var 1)) (pg_name (i := 7) sc_law_net.nd rfl (by first | exact Or.inl rfl | exact Or.inr rfl)) (gl_name (i := 7) (by simp)))
  (ss_cons (s_expr (se_M PySem.F.plainAttrs_list PySem.F.slot_list_append PySem.F.type_list_append mt_append dApp (se_var 4) (sa_cons (se_tup (sa_cons (se_var 6) (sa_cons (se_var 7) (sa_cons (se_call C_law_pick (go.low (by decide)) (by rfl) (sa_cons (se_var 0) (sa_cons (se_lst (sa_cons se_int (sa_cons se_int (sa_cons se_int (sa_cons se_int (sa_cons se_int sa_nil)))))) sa_nil))) sa_nil)))) sa_nil)))
  (ss_one (s_if (st_w (sw_and (st_cmp op_lt dLt (se_B call_len dLen (by rfl) M.n_len (by decide +kernel) (sa_cons (se_var 4) sa_nil)) (se_var 2) (nomark _)) (sw_and1 (st_cmp (opEq go.hu) dEq (se_call C_law_draw (go.low (by decide)) (by rfl) (sa_cons (se_var 0) (sa_cons se_int sa_nil))) se_int (nomark _))))) (ss_one (s_expr (se_M PySem.F.plainAttrs_list PySem.F.slot_list_append PySem.F.type_list_append mt_append dApp (se_var 4) (sa_cons (se_tup (sa_cons (se_var 7) (sa_cons (se_var 6) (sa_cons (se_call C_law_pick (go.low (by decide)) (by rfl) (sa_cons (se_var 0) (sa_cons (se_lst (sa_cons se_int (sa_cons se_int (sa_cons se_int sa_nil)))) sa_nil))) sa_nil)))) sa_nil)))) ss_nil))))))
  (ss_cons (s_asg (vs := [8]) (se_lst sa_nil) (pg_name (i := 8) sc_law_net.nd rfl (by first | exact Or.inl rfl | exact Or.inr rfl)) (gl_name (i := 8) (by simp)))
  (ss_cons (s_for (vs := [9]) go.own go.calm (pi_range1 (by rfl) M.n_range (sa_cons (se_var 1) sa_nil).run) wi_r1 (pg_name (i := 9) sc_law_net.nd rfl (by first | exact Or.inl rfl | exact Or.inr rfl)) (gl_name (i := 9) (by simp)) (ss_one (s_expr (se_M PySem.F.plainAttrs_list PySem.F.slot_list_append PySem.F.type_list_append mt_append dApp (se_var 8) (sa_cons (se_T call_tuple_of dTup (by rfl) M.n_tuple (by decide +kernel) (sa_cons (se_lc [("d", 10)] go sc_law_net.nd (pi_range1 (by rfl) M.n_range (sa_cons (se_var 1) sa_nil).run) wi_r1 (blkOk_by (own := [("d", 10)]) (by kernel_rfl)) (fun _ _ _ _ _ => (pg_name (i := 10) sc_law_net.nd rfl (by first | exact Or.inl rfl | exact Or.inr rfl))) (gl_name (i := 10) (by simp)) (fun _ _ _ _ _ => sp_nil) (fun _ _ _ _ _ => (se_if (st_cmp (opNe (go_blk go).hu) dNe (se_var 10) (se_var 9) (nomark _)) (se_call C_law_entry ((go_blk go).low (by decide)) (by rfl) (sa_cons (se_var 0) (sa_cons (se_var 4) (sa_cons (se_var 9) sa_nil)))) (se_tup sa_nil)))) sa_nil)) sa_nil)))))
  (ss_one (s_ret (se_tup (sa_cons (se_var 1) (sa_cons (se_T call_tuple_of dTup (by rfl) M.n_tuple (by decide +kernel) (sa_cons (se_slice (se_var 4) so_none (so_some (se_var 2))) sa_nil)) (sa_cons (se_if (st_cmp op_le dLe (se_B call_len dLen (by rfl) M.n_len (by decide +kernel) (sa_cons (se_var 4) sa_nil)) (se_var 2) (nomark _)) (se_T call_tuple_of dTup (by rfl) M.n_tuple (by decide +kernel) (sa_cons (se_var 8) sa_nil)) (se_call C_law_cut (go.low (by decide)) (by rfl) (sa_cons (se_var 8) (sa_cons (se_var 2) sa_nil)))) sa_nil))))))))))))
/-! ### _law_served -/
abbrev s_law_served : Stmt := top_ 19
abbrev N_law_served : List PySem.Str := ["net", "k", "d"]
theorem sc_law_served : FnScope N_law_served ["net", "k"] (defScope s_law_served) := ⟨rfl, rfl, rfl, by decide +kernel, rfl, by decide +kernel, by decide +kernel⟩
abbrev Keeps_law_served (P : Program) (w : World) (K : PySem.W.Frag) (mg : PySem.Str → Option Value) (base : Heap) : Prop := Cal P w K mg base 1 "_law_served" s_law_served ["net", "k"] f_law_served
set_option maxHeartbeats 0 in
theorem ok_law_served (M : MG mg) {f : Addr} {fd : FuncData} (F : FunD K "_law_served" "_law_served" (defArgs s_law_served) (defBody s_law_served) (defScope s_law_served) [] [] f fd) (hm : mg "_law_served" = some (.ref f))  : Keeps_law_served P w K mg base :=
  ok_def F sc_law_served hm (fun _ _ _ _ _ _ us hl => match us, hl with | [_, _], _ => rfl) fun cdv A outer s H E go => (show SSs _ _ _ b_law_served from ((ss_one (s_ret (se_lc [("d", 2)] go sc_law_served.nd (pi_range1 (by rfl) M.n_range (sa_cons (se_ix ix_seq dIx (se_var 0) se_int (fun _ _ => rfl)) sa_nil).run) wi_r1 (blkOk_by (own := [("d", 2)]) (by kernel_rfl)) (fun _ _ _ _ _ => (pg_name (i := 2) sc_law_served.nd rfl (by first | exact Or.inl rfl | exact Or.inr rfl))) (gl_name (i := 2) (by simp)) (fun _ _ _ _ _ => (sp_one (st_cmp (opIn (go_blk go).hu65) dIn (se_var 1) (se_ix ix_seq dIx (se_ix ix_seq dIx (se_ix ix_seq dIx (se_var 0) se_int (fun _ _ => rfl)) (se_ix ix_seq dIx (se_ix ix_seq dIx (se_ix ix_seq dIx (se_var 0) se_int (fun _ _ => rfl)) (se_var 1) (fun _ _ => rfl)) se_int (fun _ _ => rfl)) (fun _ _ => rfl)) (se_var 2) (fun _ _ => rfl)) (by rfl)))) (fun _ _ _ _ _ => (se_var 2)))))))
/-! ### _law_stand -/
abbrev s_law_stand : Stmt := top_ 20
abbrev N_law_stand : List PySem.Str := ["deck", "net", "way", "found", "k", "start", "end", "room", "menu", "many", "far", "d", "turn"]
theorem sc_law_stand : FnScope N_law_stand ["deck", "net", "way"] (defScope s_law_stand) := ⟨rfl, rfl, rfl, by decide +kernel, rfl, by decide +kernel, by decide +kernel⟩
abbrev Keeps_law_stand (P : Program) (w : World) (K : PySem.W.Frag) (mg : PySem.Str → Option Value) (base : Heap) : Prop := Cal P w K mg base 3 "_law_stand" s_law_stand ["deck", "net", "way"] f_law_stand
set_option maxHeartbeats 0 in
theorem ok_law_stand (M : MG mg) {f : Addr} {fd : FuncData} (F : FunD K "_law_stand" "_law_stand" (defArgs s_law_stand) (defBody s_law_stand) (defScope s_law_stand) [] [] f fd) (hm : mg "_law_stand" = some (.ref f)) (C_law_served : Keeps_law_served P w K mg base) (C_law_draw : Keeps_law_draw P w K mg base) (C_law_pick : Keeps_law_pick P w K mg base) : Keeps_law_stand P w K mg base :=
  ok_def F sc_law_stand hm (fun _ _ _ _ _ _ us hl => match us, hl with | [_, _, _], _ => rfl) fun cdv A outer s H E go => (show SSs _ _ _ b_law_stand from ((ss_cons (s_asg (vs := [3]) (se_lst sa_nil) (pg_name (i := 3) sc_law_stand.nd rfl (by first | exact Or.inl rfl | exact Or.inr rfl)) (gl_name (i := 3) (by simp)))
  (ss_cons (s_for (vs := [4, 5, 6, 7]) go.own go.calm (pi_en2 (by rfl) M.n_enumerate (sa_cons (se_ix ix_seq dIx (se_var 1) se_int (fun _ _ => rfl)) sa_nil).run) wi_en2 (pg_tup rfl (pgs_cons (pg_name (i := 4) sc_law_stand.nd rfl (by first | exact Or.inl rfl | exact Or.inr rfl)) (pgs_cons (pg_tup rfl (pgs_cons (pg_name (i := 5) sc_law_stand.nd rfl (by first | exact Or.inl rfl | exact Or.inr rfl)) (pgs_cons (pg_name (i := 6) sc_law_stand.nd rfl (by first | exact Or.inl rfl | exact Or.inr rfl)) (pgs_cons (pg_name (i := 7) sc_law_stand.nd rfl (by first | exact Or.inl rfl | exact Or.inr rfl)) pgs_nil)))) pgs_nil))) (gl_tup (gl_cons (gl_name (i := 4) (by simp)) (gl_cons (gl_tup (gl_cons (gl_name (i := 5) (by simp)) (gl_cons (gl_name (i := 6) (by simp)) (gl_cons (gl_name (i := 7) (by simp)) gl_nil)))) gl_nil))) (ss_cons (s_asg (vs := [8]) (se_call C_law_served (go.low (by decide)) (by rfl) (sa_cons (se_var 1) (sa_cons (se_var 4) sa_nil))) (pg_name (i := 8) sc_law_stand.nd rfl (by first | exact Or.inl rfl | exact Or.inr rfl)) (gl_name (i := 8) (by simp)))
  (ss_cons (s_asg (vs := [9]) (se_if (st_w (sw_and (st_cmp (opEq go.hu) dEq (se_var 2) se_int (nomark _)) (sw_and1 (st_cmp op_gt dGt (se_call C_law_draw (go.low (by decide)) (by rfl) (sa_cons (se_var 0) (sa_cons se_int sa_nil))) se_int (nomark _))))) (se_var 7) (se_call C_law_draw (go.low (by decide)) (by rfl) (sa_cons (se_var 0) (sa_cons (se_op opAdd dAdd (se_var 7) se_int) sa_nil)))) (pg_name (i := 9) sc_law_stand.nd rfl (by first | exact Or.inl rfl | exact Or.inr rfl)) (gl_name (i := 9) (by simp)))
  (ss_cons (s_setLc (i := 10) [("d", 11)] go sc_law_stand.nd rfl rfl (sw_true rfl rfl rfl (by decide +kernel)) (pi_seq (se_var 8)) wi_seq (blkOk_by (own := [("d", 11)]) (by kernel_rfl)) (fun _ _ _ _ _ => (pg_name (i := 11) sc_law_stand.nd rfl (by first | exact Or.inl rfl | exact Or.inr rfl))) (gl_name (i := 11) (by simp)) (fun _ _ _ _ _ => (sp_one (st_cmp (opNe (go_blk go).hu) dNe (se_var 11) (se_var 6) (nomark _)))) (fun _ _ _ _ _ => (se_var 11)))
  (ss_cons (s_asg (vs := [8]) (se_if (st_w (sw_and (st_cmp (opEq go.hu) dEq (se_var 2) se_int (nomark _)) (sw_and (st_cmp (opNe go.hu) dNe (se_var 10) (se_lst sa_nil) (nomark _)) (sw_and1 (st_cmp op_gt dGt (se_call C_law_draw (go.low (by decide)) (by rfl) (sa_cons (se_var 0) (sa_cons se_int sa_nil))) se_int (nomark _)))))) (se_var 10) (se_var 8)) (pg_name (i := 8) sc_law_stand.nd rfl (by first | exact Or.inl rfl | exact Or.inr rfl)) (gl_name (i := 8) (by simp)))
  (ss_one (s_expr (se_M PySem.F.plainAttrs_list PySem.F.slot_list_append PySem.F.type_list_append mt_append dApp (se_var 3) (sa_cons (se_if (st_cmp (opNe go.hu) dNe (se_var 8) (se_lst sa_nil) (nomark _)) (se_T call_tuple_of dTup (by rfl) M.n_tuple (by decide +kernel) (sa_cons (se_lc [("turn", 12)] go sc_law_stand.nd (pi_range1 (by rfl) M.n_range (sa_cons (se_var 9) sa_nil).run) wi_r1 (blkOk_by (own := [("turn", 12)]) (by kernel_rfl)) (fun _ _ _ _ _ => (pg_name (i := 12) sc_law_stand.nd rfl (by first | exact Or.inl rfl | exact Or.inr rfl))) (gl_name (i := 12) (by simp)) (fun _ _ _ _ _ => sp_nil) (fun _ _ _ _ _ => (se_call C_law_pick ((go_blk go).low (by decide)) (by rfl) (sa_cons (se_var 0) (sa_cons (se_var 8) sa_nil))))) sa_nil)) (se_tup sa_nil)) sa_nil)))))))))
  (ss_one (s_ret (se_T call_tuple_of dTup (by rfl) M.n_tuple (by decide +kernel) (sa_cons (se_var 3) sa_nil))))))))
/-! ### _law_can -/
abbrev s_law_can : Stmt := top_ 21
abbrev N_law_can : List PySem.Str := ["net", "stand", "deed", "start", "end", "room", "here"]
theorem sc_law_can : FnScope N_law_can ["net", "stand", "deed"] (defScope s_law_can) := ⟨rfl, rfl, rfl, by decide +kernel, rfl, by decide +kernel, by decide +kernel⟩
abbrev Keeps_law_can (P : Program) (w : World) (K : PySem.W.Frag) (mg : PySem.Str → Option Value) (base : Heap) : Prop := Cal P w K mg base 1 "_law_can" s_law_can ["net", "stand", "deed"] f_law_can
set_option maxHeartbeats 0 in
theorem ok_law_can (M : MG mg) {f : Addr} {fd : FuncData} (F : FunD K "_law_can" "_law_can" (defArgs s_law_can) (defBody s_law_can) (defScope s_law_can) [] [] f fd) (hm : mg "_law_can" = some (.ref f))  : Keeps_law_can P w K mg base :=
  ok_def F sc_law_can hm (fun _ _ _ _ _ _ us hl => match us, hl with | [_, _, _], _ => rfl) fun cdv A outer s H E go => (show SSs _ _ _ b_law_can from ((ss_cons (s_asg (vs := [3, 4, 5]) (se_ix ix_seq dIx (se_ix ix_seq dIx (se_var 0) se_int (fun _ _ => rfl)) (se_ix ix_seq dIx (se_var 2) se_int (fun _ _ => rfl)) (fun _ _ => rfl)) (pg_tup rfl (pgs_cons (pg_name (i := 3) sc_law_can.nd rfl (by first | exact Or.inl rfl | exact Or.inr rfl)) (pgs_cons (pg_name (i := 4) sc_law_can.nd rfl (by first | exact Or.inl rfl | exact Or.inr rfl)) (pgs_cons (pg_name (i := 5) sc_law_can.nd rfl (by first | exact Or.inl rfl | exact Or.inr rfl)) pgs_nil)))) (gl_tup (gl_cons (gl_name (i := 3) (by simp)) (gl_cons (gl_name (i := 4) (by simp)) (gl_cons (gl_name (i := 5) (by simp)) gl_nil)))))
  (ss_cons (s_asg (vs := [6]) (se_ix ix_seq dIx (se_var 1) (se_ix ix_seq dIx (se_var 2) se_int (fun _ _ => rfl)) (fun _ _ => rfl)) (pg_name (i := 6) sc_law_can.nd rfl (by first | exact Or.inl rfl | exact Or.inr rfl)) (gl_name (i := 6) (by simp)))
  (ss_cons (s_if (st_cmp (opEq go.hu) dEq (se_ix ix_seq dIx (se_var 2) se_int (fun _ _ => rfl)) se_str (nomark _)) (ss_one (s_ret (se_and (se_cmp (opIn go.hu65) dIn (se_ix ix_seq dIx (se_var 2) se_int (fun _ _ => rfl)) (se_ix ix_seq dIx (se_ix ix_seq dIx (se_ix ix_seq dIx (se_var 0) se_int (fun _ _ => rfl)) (se_var 3) (fun _ _ => rfl)) (se_ix ix_seq dIx (se_var 2) se_int (fun _ _ => rfl)) (fun _ _ => rfl)) (by rfl)) (se_one (se_cmp op_lt dLt (se_B call_len dLen (by rfl) M.n_len (by decide +kernel) (sa_cons (se_var 6) sa_nil)) (se_var 5) (nomark _)))))) ss_nil)
  (ss_cons (s_if (st_cmp (opEq go.hu) dEq (se_var 6) (se_tup sa_nil) (nomark _)) (ss_one (s_ret se_bl)) ss_nil)
  (ss_cons (s_if (st_cmp (opEq go.hu) dEq (se_ix ix_seq dIx (se_var 2) se_int (fun _ _ => rfl)) se_str (nomark _)) (ss_one (s_ret (se_cmp (opEq go.hu) dEq (se_ix ix_seq dIx (se_var 6) se_int (fun _ _ => rfl)) (se_var 4) (nomark _)))) ss_nil)
  (ss_one (s_ret (se_and (se_cmp (opIn go.hu65) dIn (se_ix ix_seq dIx (se_var 2) se_int (fun _ _ => rfl)) (se_ix ix_seq dIx (se_ix ix_seq dIx (se_ix ix_seq dIx (se_var 0) se_int (fun _ _ => rfl)) (se_var 4) (fun _ _ => rfl)) (se_ix ix_seq dIx (se_var 6) se_int (fun _ _ => rfl)) (fun _ _ => rfl)) (by rfl)) (se_one (se_cmp op_lt dLt (se_B call_len dLen (by rfl) M.n_len (by decide +kernel) (sa_cons (se_ix ix_seq dIx (se_var 1) (se_ix ix_seq dIx (se_var 2) se_int (fun _ _ => rfl)) (fun _ _ => rfl)) sa_nil)) (se_ix ix_seq dIx (se_ix ix_seq dIx (se_ix ix_seq dIx (se_var 0) se_int (fun _ _ => rfl)) (se_ix ix_seq dIx (se_var 2) se_int (fun _ _ => rfl)) (fun _ _ => rfl)) se_int (fun _ _ => rfl)) (nomark _)))))))))))))
/-! ### _law_all_deeds -/
abbrev s_law_all_deeds : Stmt := top_ 23
abbrev N_law_all_deeds : List PySem.Str := ["net", "found", "many", "k", "d", "j"]
theorem sc_law_all_deeds : FnScope N_law_all_deeds ["net"] (defScope s_law_all_deeds) := ⟨rfl, rfl, rfl, by decide +kernel, rfl, by decide +kernel, by decide +kernel⟩
abbrev Keeps_law_all_deeds (P : Program) (w : World) (K : PySem.W.Frag) (mg : PySem.Str → Option Value) (base : Heap) : Prop := Cal P w K mg base 1 "_law_all_deeds" s_law_all_deeds ["net"] f_law_all_deeds
set_option maxHeartbeats 0 in
theorem ok_law_all_deeds (M : MG mg) {f : Addr} {fd : FuncData} (F : FunD K "_law_all_deeds" "_law_all_deeds" (defArgs s_law_all_deeds) (defBody s_law_all_deeds) (defScope s_law_all_deeds) [] [] f fd) (hm : mg "_law_all_deeds" = some (.ref f))  : Keeps_law_all_deeds P w K mg base :=
  ok_def F sc_law_all_deeds hm (fun _ _ _ _ _ _ us hl => match us, hl with | [_], _ => rfl) fun cdv A outer s H E go => (show SSs _ _ _ b_law_all_deeds from ((ss_cons (s_par2 (i := 1) (j := 2) go.calm sc_law_all_deeds.nd rfl rfl (by decide) rfl rfl (sa_cons (se_lst sa_nil) (sa_cons (se_B call_len dLen (by rfl) M.n_len (by decide +kernel) (sa_cons (se_ix ix_seq dIx (se_var 0) se_int (fun _ _ => rfl)) sa_nil)) sa_nil)))
  (ss_cons (s_for (vs := [3]) go.own go.calm (pi_range1 (by rfl) M.n_range (sa_cons (se_var 2) sa_nil).run) wi_r1 (pg_name (i := 3) sc_law_all_deeds.nd rfl (by first | exact Or.inl rfl | exact Or.inr rfl)) (gl_name (i := 3) (by simp)) (ss_one (s_asg (vs := [1]) (se_op opAdd dAdd (se_var 1) (se_lc [("d", 4)] go sc_law_all_deeds.nd (pi_range1 (by rfl) M.n_range (sa_cons (se_ix ix_seq dIx (se_var 0) se_int (fun _ _ => rfl)) sa_nil).run) wi_r1 (blkOk_by (own := [("d", 4)]) (by kernel_rfl)) (fun _ _ _ _ _ => (pg_name (i := 4) sc_law_all_deeds.nd rfl (by first | exact Or.inl rfl | exact Or.inr rfl))) (gl_name (i := 4) (by simp)) (fun _ _ _ _ _ => sp_nil) (fun _ _ _ _ _ => (se_tup (sa_cons se_str (sa_cons (se_var 3) (sa_cons (se_var 4) sa_nil))))))) (pg_name (i := 1) sc_law_all_deeds.nd rfl (by first | exact Or.inl rfl | exact Or.inr rfl)) (gl_name (i := 1) (by simp)))))
  (ss_cons (s_for (vs := [3]) go.own go.calm (pi_range1 (by rfl) M.n_range (sa_cons (se_var 2) sa_nil).run) wi_r1 (pg_name (i := 3) sc_law_all_deeds.nd rfl (by first | exact Or.inl rfl | exact Or.inr rfl)) (gl_name (i := 3) (by simp)) (ss_one (s_asg (vs := [1]) (se_op opAdd dAdd (se_var 1) (se_lc [("j", 5)] go sc_law_all_deeds.nd (pi_range1 (by rfl) M.n_range (sa_cons (se_var 2) sa_nil).run) wi_r1 (blkOk_by (own := [("j", 5)]) (by kernel_rfl)) (fun _ _ _ _ _ => (pg_name (i := 5) sc_law_all_deeds.nd rfl (by first | exact Or.inl rfl | exact Or.inr rfl))) (gl_name (i := 5) (by simp)) (fun _ _ _ _ _ => sp_nil) (fun _ _ _ _ _ => (se_tup (sa_cons se_str (sa_cons (se_var 3) (sa_cons (se_var 5) sa_nil))))))) (pg_name (i := 1) sc_law_all_deeds.nd rfl (by first | exact Or.inl rfl | exact Or.inr rfl)) (gl_name (i := 1) (by simp)))))
  (ss_one (s_ret (se_op opAdd dAdd (se_var 1) (se_lc [("k", 3)] go sc_law_all_deeds.nd (pi_range1 (by rfl) M.n_range (sa_cons (se_var 2) sa_nil).run) wi_r1 (blkOk_by (own := [("k", 3)]) (by kernel_rfl)) (fun _ _ _ _ _ => (pg_name (i := 3) sc_law_all_deeds.nd rfl (by first | exact Or.inl rfl | exact Or.inr rfl))) (gl_name (i := 3) (by simp)) (fun _ _ _ _ _ => sp_nil) (fun _ _ _ _ _ => (se_tup (sa_cons se_str (sa_cons (se_var 3) sa_nil)))))))))))))
/-! ### _law_is_fast -/
abbrev s_law_is_fast : Stmt := top_ 24
abbrev N_law_is_fast : List PySem.Str := ["net", "stand", "k", "own", "end", "aim", "j"]
theorem sc_law_is_fast : FnScope N_law_is_fast ["net", "stand"] (defScope s_law_is_fast) := ⟨rfl, rfl, rfl, by decide +kernel, rfl, by decide +kernel, by decide +kernel⟩
noncomputable def b_law_is_fast : FS := (sSeq (sIf (tbB (e2 eqO (eLc (iSeq (eVar 1)) (gN 3) (tbB (e2 neO (eVar 3) (eTup aNil))) (eVar 3) [3]) (eLst aNil))) (sRet (eC (.bl false))) sPass)
  (sSeq (sFor (iEn2 (aCons (eVar 1) aNil)) (gT 2 (gsC (gN 2) (gsC (gN 3) gsN))) (sSeq (sAsgN (e2 ixD (e2 ixD (e2 ixD (eVar 0) (eC (.int 1))) (eVar 2)) (eC (.int 1))) (gN 4))
  (sFor (iSeq (eVar 3)) (gN 5) (sIf (tOr2 (tbB (e2 eqO (eVar 5) (eVar 4))) (tbB (e2 neO (eLc (iSeq (e2 ixD (e2 ixD (e2 ixD (eVar 0) (eC (.int 2))) (eVar 4)) (eVar 5))) (gN 6) (tbB (e2 ltD (eB lenO (aCons (e2 ixD (eVar 1) (eVar 6)) aNil)) (e2 ixD (e2 ixD (e2 ixD (eVar 0) (eC (.int 1))) (eVar 6)) (eC (.int 2))))) (eVar 6) [6]) (eLst aNil)))) (sRet (eC (.bl false))) sPass))))
  (sRet (eC (.bl true)))))
noncomputable def f_law_is_fast : List D → Sto → R D := bodyD 7 b_law_is_fast
abbrev Keeps_law_is_fast (P : Program) (w : World) (K : PySem.W.Frag) (mg : PySem.Str → Option Value) (base : Heap) : Prop := Cal P w K mg base 1 "_law_is_fast" s_law_is_fast ["net", "stand"] f_law_is_fast
set_option maxHeartbeats 0 in
theorem ok_law_is_fast (M : MG mg) {f : Addr} {fd : FuncData} (F : FunD K "_law_is_fast" "_law_is_fast" (defArgs s_law_is_fast) (defBody s_law_is_fast) (defScope s_law_is_fast) [] [] f fd) (hm : mg "_law_is_fast" = some (.ref f))  : Keeps_law_is_fast P w K mg base :=
  ok_def F sc_law_is_fast hm (fun _ _ _ _ _ _ us hl => match us, hl with | [_, _], _ => rfl) fun cdv A outer s H E go => (show SSs _ _ _ b_law_is_fast from ((ss_cons (s_if (st_cmp (opEq go.hu) dEq (se_lc [("own", 3)] go sc_law_is_fast.nd (pi_seq (se_var 1)) wi_seq (blkOk_by (own := [("own", 3)]) (by kernel_rfl)) (fun _ _ _ _ _ => (pg_name (i := 3) sc_law_is_fast.nd rfl (by first | exact Or.inl rfl | exact Or.inr rfl))) (gl_name (i := 3) (by simp)) (fun _ _ _ _ _ => (sp_one (st_cmp (opNe (go_blk go).hu) dNe (se_var 3) (se_tup sa_nil) (nomark _)))) (fun _ _ _ _ _ => (se_var 3))) (se_lst sa_nil) (nomark _)) (ss_one (s_ret se_bl)) ss_nil)
  (ss_cons (s_for (vs := [2, 3]) go.own go.calm (pi_en2 (by rfl) M.n_enumerate (sa_cons (se_var 1) sa_nil).run) wi_en2 (pg_tup rfl (pgs_cons (pg_name (i := 2) sc_law_is_fast.nd rfl (by first | exact Or.inl rfl | exact Or.inr rfl)) (pgs_cons (pg_name (i := 3) sc_law_is_fast.nd rfl (by first | exact Or.inl rfl | exact Or.inr rfl)) pgs_nil))) (gl_tup (gl_cons (gl_name (i := 2) (by simp)) (gl_cons (gl_name (i := 3) (by simp)) gl_nil))) (ss_cons (s_asg (vs := [4]) (se_ix ix_seq dIx (se_ix ix_seq dIx (se_ix ix_seq dIx (se_var 0) se_int (fun _ _ => rfl)) (se_var 2) (fun _ _ => rfl)) se_int (fun _ _ => rfl)) (pg_name (i := 4) sc_law_is_fast.nd rfl (by first | exact Or.inl rfl | exact Or.inr rfl)) (gl_name (i := 4) (by simp)))
  (ss_one (s_for (vs := [5]) go.own go.calm (pi_seq (se_var 3)) wi_seq (pg_name (i := 5) sc_law_is_fast.nd rfl (by first | exact Or.inl rfl | exact Or.inr rfl)) (gl_name (i := 5) (by simp)) (ss_one (s_if (st_w (sw_or (st_cmp (opEq go.hu) dEq (se_var 5) (se_var 4) (nomark _)) (sw_or1 (st_cmp (opNe go.hu) dNe (se_lc [("j", 6)] go sc_law_is_fast.nd (pi_seq (se_ix ix_seq dIx (se_ix ix_seq dIx (se_ix ix_seq dIx (se_var 0) se_int (fun _ _ => rfl)) (se_var 4) (fun _ _ => rfl)) (se_var 5) (fun _ _ => rfl))) wi_seq (blkOk_by (own := [("j", 6)]) (by kernel_rfl)) (fun _ _ _ _ _ => (pg_name (i := 6) sc_law_is_fast.nd rfl (by first | exact Or.inl rfl | exact Or.inr rfl))) (gl_name (i := 6) (by simp)) (fun _ _ _ _ _ => (sp_one (st_cmp op_lt dLt (se_B call_len dLen (by rfl) M.n_len (by decide +kernel) (sa_cons (se_ix ix_seq dIx (se_var 1) (se_var 6) (fun _ _ => rfl)) sa_nil)) (se_ix ix_seq dIx (se_ix ix_seq dIx (se_ix ix_seq dIx (se_var 0) se_int (fun _ _ => rfl)) (se_var 6) (fun _ _ => rfl)) se_int (fun _ _ => rfl)) (nomark _)))) (fun _ _ _ _ _ => (se_var 6))) (se_lst sa_nil) (nomark _))))) (ss_one (s_ret se_bl)) ss_nil))))))
  (ss_one (s_ret se_bl))))))
/-! ### _law_is_still -/
abbrev s_law_is_still : Stmt := top_ 25
abbrev N_law_is_still : List PySem.Str := ["net", "stand", "own", "deed"]
theorem sc_law_is_still : FnScope N_law_is_still ["net", "stand"] (defScope s_law_is_still) := ⟨rfl, rfl, rfl, by decide +kernel, rfl, by decide +kernel, by decide +kernel⟩
noncomputable def b_law_is_still : FS := (sSeq (sIf (tbB (e2 eqO (eLc (iSeq (eVar 1)) (gN 2) (tbB (e2 neO (eVar 2) (eTup aNil))) (eVar 2) [2]) (eLst aNil))) (sRet (eC (.bl false))) sPass)
  (sRet (e2 eqO (eLc (iSeq (eCall f_law_all_deeds 1 (aCons (eVar 0) aNil))) (gN 3) (tAnd2 (tbB (e2 neO (e2 ixD (eVar 3) (eC (.int 0))) (eC (.str "in")))) (tb (eCall f_law_can 3 (aCons (eVar 0) (aCons (eVar 1) (aCons (eVar 3) aNil)))))) (eVar 3) [3]) (eLst aNil))))
noncomputable def f_law_is_still : List D → Sto → R D := bodyD 4 b_law_is_still
abbrev Keeps_law_is_still (P : Program) (w : World) (K : PySem.W.Frag) (mg : PySem.Str → Option Value) (base : Heap) : Prop := Cal P w K mg base 2 "_law_is_still" s_law_is_still ["net", "stand"] f_law_is_still
set_option maxHeartbeats 0 in
theorem ok_law_is_still (M : MG mg) {f : Addr} {fd : FuncData} (F : FunD K "_law_is_still" "_law_is_still" (defArgs s_law_is_still) (defBody s_law_is_still) (defScope s_law_is_still) [] [] f fd) (hm : mg "_law_is_still" = some (.ref f)) (C_law_all_deeds : Keeps_law_all_deeds P w K mg base) (C_law_can : Keeps_law_can P w K mg base) : Keeps_law_is_still P w K mg base :=
  ok_def F sc_law_is_still hm (fun _ _ _ _ _ _ us hl => match us, hl with | [_, _], _ => rfl) fun cdv A outer s H E go => (show SSs _ _ _ b_law_is_still from ((ss_cons (s_if (st_cmp (opEq go.hu) dEq (se_lc [("own", 2)] go sc_law_is_still.nd (pi_seq (se_var 1)) wi_seq (blkOk_by (own := [("own", 2)]) (by kernel_rfl)) (fun _ _ _ _ _ => (pg_name (i := 2) sc_law_is_still.nd rfl (by first | exact Or.inl rfl | exact Or.inr rfl))) (gl_name (i := 2) (by simp)) (fun _ _ _ _ _ => (sp_one (st_cmp (opNe (go_blk go).hu) dNe (se_var 2) (se_tup sa_nil) (nomark _)))) (fun _ _ _ _ _ => (se_var 2))) (se_lst sa_nil) (nomark _)) (ss_one (s_ret se_bl)) ss_nil)
  (ss_one (s_ret (se_cmp (opEq go.hu) dEq (se_lc [("deed", 3)] go sc_law_is_still.nd (pi_seq (se_call C_law_all_deeds (go.low (by decide)) (by rfl) (sa_cons (se_var 0) sa_nil))) wi_seq (blkOk_by (own := [("deed", 3)]) (by kernel_rfl)) (fun _ _ _ _ _ => (pg_name (i := 3) sc_law_is_still.nd rfl (by first | exact Or.inl rfl | exact Or.inr rfl))) (gl_name (i := 3) (by simp)) (fun _ _ _ _ _ => (sp_one (st_w (sw_and (st_cmp (opNe (go_blk go).hu) dNe (se_ix ix_seq dIx (se_var 3) se_int (fun _ _ => rfl)) se_str (nomark _)) (sw_and1 (st_truth (se_call C_law_can ((go_blk go).low (by decide)) (by rfl) (sa_cons (se_var 0) (sa_cons (se_var 1) (sa_cons (se_var 3) sa_nil)))))))))) (fun _ _ _ _ _ => (se_var 3))) (se_lst sa_nil) (nomark _)))))))
/-! ### _law_round -/
abbrev s_law_round : Stmt := top_ 26
abbrev N_law_round : List PySem.Str := ["deck", "houses", "lanes", "turn", "u", "rows", "mine", "row", "d", "entry", "k", "lane"]
theorem sc_law_round : FnScope N_law_round ["deck"] (defScope s_law_round) := ⟨rfl, rfl, rfl, by decide +kernel, rfl, by decide +kernel, by decide +kernel⟩
noncomputable def b_law_round : FS := (sSeq (sAsgN (e2 addD (eC (.int 2)) (eCall f_law_draw 2 (aCons (eVar 0) (aCons (eC (.int 4)) aNil)))) (gN 1))
  (sSeq (sAsgN (eLc (iR1 (aCons (eVar 1) aNil)) (gN 4) tYesD (eTup (aCons (eVar 4) (aCons (e2 modD (eB intO (aCons (e2 addD (eVar 4) (eC (.int 1))) aNil)) (eVar 1)) (aCons (eCall f_law_pick 2 (aCons (eVar 0) (aCons (eLst (aCons (eC (.int 1)) (aCons (eC (.int 1)) (aCons (eC (.int 2)) (aCons (eC (.int 3)) aNil))))) aNil))) aNil)))) [4]) (gN 2))
  (sSeq (sFor (iR1 (aCons (eCall f_law_draw 2 (aCons (eVar 0) (aCons (eC (.int 3)) aNil))) aNil)) (gN 3) (sSeq (sAsgN (eCall f_law_draw 2 (aCons (eVar 0) (aCons (eVar 1) aNil))) (gN 4))
  (sExpr (eM "list" appO (eVar 2) (aCons (eTup (aCons (eVar 4) (aCons (e2 modD (eB intO (aCons (e2 addD (e2 addD (eVar 4) (eC (.int 1))) (eCall f_law_draw 2 (aCons (eVar 0) (aCons (e2 subD (eVar 1) (eC (.int 1))) aNil)))) aNil)) (eVar 1)) (aCons (eCall f_law_pick 2 (aCons (eVar 0) (aCons (eLst (aCons (eC (.int 1)) (aCons (eC (.int 2)) (aCons (eC (.int 4)) aNil)))) aNil))) aNil)))) aNil)))))
  (sSeq (sAsgN (eLst aNil) (gN 5))
  (sSeq (sFor (iR1 (aCons (eVar 1) aNil)) (gN 4) (sSeq (sPar [6, 7] (aCons (eLc (iEn2 (aCons (eVar 2) aNil)) (gT 2 (gsC (gN 10) (gsC (gN 11) gsN))) (tbB (e2 eqO (e2 ixD (eVar 11) (eC (.int 0))) (eVar 4))) (eVar 10) [10, 11]) (aCons (eLst aNil) aNil)))
  (sSeq (sFor (iR1 (aCons (eVar 1) aNil)) (gN 8) (sSeq (sAsgN (eCall f_law_pick 2 (aCons (eVar 0) (aCons (eLst (aCons (eTup (aCons (eVar 4) aNil)) (aCons (eTup (aCons (eVar 4) aNil)) (aCons (eTup (aCons (eVar 4) aNil)) (aCons (eB tupO (aCons (eVar 6) aNil)) (aCons (eB tupO (aCons (eSl (eVar 6) (oSome (e1 negO (eC (.int 1)))) oNone) aNil)) (aCons (eTup aNil) aNil))))))) aNil))) (gN 9))
  (sExpr (eM "list" appO (eVar 7) (aCons (eIf (tbB (e2 neO (eVar 8) (eVar 4))) (eVar 9) (eTup aNil)) aNil)))))
  (sExpr (eM "list" appO (eVar 5) (aCons (eB tupO (aCons (eVar 7) aNil)) aNil))))))
  (sRet (eTup (aCons (eVar 1) (aCons (eB tupO (aCons (eVar 2) aNil)) (aCons (eB tupO (aCons (eVar 5) aNil)) aNil))))))))))
noncomputable def f_law_round : List D → Sto → R D := bodyD 12 b_law_round
abbrev Keeps_law_round (P : Program) (w : World) (K : PySem.W.Frag) (mg : PySem.Str → Option Value) (base : Heap) : Prop := Cal P w K mg base 3 "_law_round" s_law_round ["deck"] f_law_round
set_option maxHeartbeats 0 in
theorem ok_law_round (M : MG mg) {f : Addr} {fd : FuncData} (F : FunD K "_law_round" "_law_round" (defArgs s_law_round) (defBody s_law_round) (defScope s_law_round) [] [] f fd) (hm : mg "_law_round" = some (.ref f)) (C_law_draw : Keeps_law_draw P w K mg base) (C_law_pick : Keeps_law_pick P w K mg base) : Keeps_law_round P w K mg base :=
  ok_def F sc_law_round hm (fun _ _ _ _ _ _ us hl => match us, hl with | [_], _ => rfl) fun cdv A outer s H E go => (show SSs _ _ _ b_law_round from ((ss_cons (s_asg (vs := [1]) (se_op opAdd dAdd se_int (se_call C_law_draw (go.low (by decide)) (by rfl) (sa_cons (se_var 0) (sa_cons se_int sa_nil)))) (pg_name (i := 1) sc_law_round.nd rfl (by first | exact Or.inl rfl | exact Or.inr rfl)) (gl_name (i := 1) (by simp)))
  (ss_cons (s_setLc (i := 2) [("u", 4)] go sc_law_round.nd rfl rfl (sw_true rfl rfl rfl (by decide +kernel)) (pi_range1 (by rfl) M.n_range (sa_cons (se_var 1) sa_nil).run) wi_r1 (blkOk_by (own := [("u", 4)]) (by kernel_rfl)) (fun _ _ _ _ _ => (pg_name (i := 4) sc_law_round.nd rfl (by first | exact Or.inl rfl | exact Or.inr rfl))) (gl_name (i := 4) (by simp)) (fun _ _ _ _ _ => sp_nil) (fun _ _ _ _ _ => (se_tup (sa_cons (se_var 4) (sa_cons (se_op op_mod dMod (se_T call_int1 dInt (by rfl) M.n_int (by decide +kernel) (sa_cons (se_op opAdd dAdd (se_var 4) se_int) sa_nil)) (se_var 1)) (sa_cons (se_call C_law_pick ((go_blk go).low (by decide)) (by rfl) (sa_cons (se_var 0) (sa_cons (se_lst (sa_cons se_int (sa_cons se_int (sa_cons se_int (sa_cons se_int sa_nil))))) sa_nil))) sa_nil))))))
  (ss_cons (s_for (vs := [3]) go.own go.calm (pi_range1 (by rfl) M.n_range (sa_cons (se_call C_law_draw (go.low (by decide)) (by rfl) (sa_cons (se_var 0) (sa_cons se_int sa_nil))) sa_nil).run) wi_r1 (pg_name (i := 3) sc_law_round.nd rfl (by first | exact Or.inl rfl | exact Or.inr rfl)) (gl_name (i := 3) (by simp)) (ss_cons (s_asg (vs := [4]) (se_call C_law_draw (go.low (by decide)) (by rfl) (sa_cons (se_var 0) (sa_cons (se_var 1) sa_nil))) (pg_name (i := 4) sc_law_round.nd rfl (by first | exact Or.inl rfl | exact Or.inr rfl)) (gl_name (i := 4) (by simp)))
  (ss_one (s_expr (se_M PySem.F.plainAttrs_list PySem.F.slot_list_append PySem.F.type_list_append mt_append dApp (se_var 2) (sa_cons (se_tup (sa_cons (se_var 4) (sa_cons (se_op op_mod dMod (se_T call_int1 dInt (by rfl) M.n_int (by decide +kernel) (sa_cons (se_op opAdd dAdd (se_op opAdd dAdd (se_var 4) se_int) (se_call C_law_draw (go.low (by decide)) (by rfl) (sa_cons (se_var 0) (sa_cons (se_op op_sub dSub (se_var 1) se_int) sa_nil)))) sa_nil)) (se_var 1)) (sa_cons (se_call C_law_pick (go.low (by decide)) (by rfl) (sa_cons (se_var 0) (sa_cons (se_lst (sa_cons se_int (sa_cons se_int (sa_cons se_int sa_nil)))) sa_nil))) sa_nil)))) sa_nil))))))
  (ss_cons (s_asg (vs := [5]) (se_lst sa_nil) (pg_name (i := 5) sc_law_round.nd rfl (by first | exact Or.inl rfl | exact Or.inr rfl)) (gl_name (i := 5) (by simp)))
  (ss_cons (s_for (vs := [4]) go.own go.calm (pi_range1 (by rfl) M.n_range (sa_cons (se_var 1) sa_nil).run) wi_r1 (pg_name (i := 4) sc_law_round.nd rfl (by first | exact Or.inl rfl | exact Or.inr rfl)) (gl_name (i := 4) (by simp)) (ss_cons (s_par2 (i := 6) (j := 7) go.calm sc_law_round.nd rfl rfl (by decide) rfl rfl (sa_cons (se_lc [("k", 10), ("lane", 11)] go sc_law_round.nd (pi_en2 (by rfl) M.n_enumerate (sa_cons (se_var 2) sa_nil).run) wi_en2 (blkOk_by (own := [("k", 10), ("lane", 11)]) (by kernel_rfl)) (fun _ _ _ _ _ => (pg_tup rfl (pgs_cons (pg_name (i := 10) sc_law_round.nd rfl (by first | exact Or.inl rfl | exact Or.inr rfl)) (pgs_cons (pg_name (i := 11) sc_law_round.nd rfl (by first | exact Or.inl rfl | exact Or.inr rfl)) pgs_nil)))) (gl_tup (gl_cons (gl_name (i := 10) (by simp)) (gl_cons (gl_name (i := 11) (by simp)) gl_nil))) (fun _ _ _ _ _ => (sp_one (st_cmp (opEq (go_blk go).hu) dEq (se_ix ix_seq dIx (se_var 11) se_int (fun _ _ => rfl)) (se_var 4) (nomark _)))) (fun _ _ _ _ _ => (se_var 10))) (sa_cons (se_lst sa_nil) sa_nil)))
  (ss_cons (s_for (vs := [8]) go.own go.calm (pi_range1 (by rfl) M.n_range (sa_cons (se_var 1) sa_nil).run) wi_r1 (pg_name (i := 8) sc_law_round.nd rfl (by first | exact Or.inl rfl | exact Or.inr rfl)) (gl_name (i := 8) (by simp)) (ss_cons (s_asg (vs := [9]) (se_call C_law_pick (go.low (by decide)) (by rfl) (sa_cons (se_var 0) (sa_cons (se_lst (sa_cons (se_tup (sa_cons (se_var 4) sa_nil)) (sa_cons (se_tup (sa_cons (se_var 4) sa_nil)) (sa_cons (se_tup (sa_cons (se_var 4) sa_nil)) (sa_cons (se_T call_tuple_of dTup (by rfl) M.n_tuple (by decide +kernel) (sa_cons (se_var 6) sa_nil)) (sa_cons (se_T call_tuple_of dTup (by rfl) M.n_tuple (by decide +kernel) (sa_cons (se_slice (se_var 6) (so_some (se_un un_neg dNeg se_int)) so_none) sa_nil)) (sa_cons (se_tup sa_nil) sa_nil))))))) sa_nil))) (pg_name (i := 9) sc_law_round.nd rfl (by first | exact Or.inl rfl | exact Or.inr rfl)) (gl_name (i := 9) (by simp)))
  (ss_one (s_expr (se_M PySem.F.plainAttrs_list PySem.F.slot_list_append PySem.F.type_list_append mt_append dApp (se_var 7) (sa_cons (se_if (st_cmp (opNe go.hu) dNe (se_var 8) (se_var 4) (nomark _)) (se_var 9) (se_tup sa_nil)) sa_nil))))))
  (ss_one (s_expr (se_M PySem.F.plainAttrs_list PySem.F.slot_list_append PySem.F.type_list_append mt_append dApp (se_var 5) (sa_cons (se_T call_tuple_of dTup (by rfl) M.n_tuple (by decide +kernel) (sa_cons (se_var 7) sa_nil)) sa_nil)))))))
  (ss_one (s_ret (se_tup (sa_cons (se_var 1) (sa_cons (se_T call_tuple_of dTup (by rfl) M.n_tuple (by decide +kernel) (sa_cons (se_var 2) sa_nil)) (sa_cons (se_T call_tuple_of dTup (by rfl) M.n_tuple (by decide +kernel) (sa_cons (se_var 5) sa_nil)) sa_nil)))))))))))))
/-! ### _law_turned -/
abbrev s_law_turned : Stmt := top_ 27
abbrev N_law_turned : List PySem.Str := ["deck", "net", "stand", "k", "way", "own", "menu", "spot"]
theorem sc_law_turned : FnScope N_law_turned ["deck", "net", "stand"] (defScope s_law_turned) := ⟨rfl, rfl, rfl, by decide +kernel, rfl, by decide +kernel, by decide +kernel⟩
noncomputable def b_law_turned : FS := (sSeq (sIf (tbB (e2 eqO (eVar 2) (eTup aNil))) (sRet (eVar 2)) sPass)
  (sSeq (sPar [3, 4] (aCons (eCall f_law_draw 2 (aCons (eVar 0) (aCons (eB lenO (aCons (eVar 2) aNil)) aNil))) (aCons (eCall f_law_draw 2 (aCons (eVar 0) (aCons (eC (.int 4)) aNil))) aNil)))
  (sSeq (sPar [5, 6] (aCons (e2 ixD (eVar 2) (eVar 3)) (aCons (eCall f_law_served 2 (aCons (eVar 1) (aCons (eVar 3) aNil))) aNil)))
  (sSeq (sIf (tbB (e2 eqO (eVar 4) (eC (.int 0)))) (sAsgN (eSl (eVar 5) (oSome (eC (.int 1))) oNone) (gN 5)) sPass)
  (sSeq (sIf (tAnd2 (tbB (e2 eqO (eVar 4) (eC (.int 1)))) (tAnd2 (tbB (e2 inO (e2 ixD (e2 ixD (e2 ixD (eVar 1) (eC (.int 1))) (eVar 3)) (eC (.int 1))) (eVar 6))) (tbB (e2 neO (eVar 5) (eTup aNil))))) (sSeq (sAsgN (eCall f_law_draw 2 (aCons (eVar 0) (aCons (eB lenO (aCons (eVar 5) aNil)) aNil))) (gN 7))
  (sAsgN (e2 addD (e2 addD (eSl (eVar 5) oNone (oSome (eVar 7))) (eTup (aCons (e2 ixD (e2 ixD (e2 ixD (eVar 1) (eC (.int 1))) (eVar 3)) (eC (.int 1))) aNil))) (eSl (eVar 5) (oSome (e2 addD (eVar 7) (eC (.int 1)))) oNone)) (gN 5))) sPass)
  (sSeq (sIf (tbB (e2 eqO (eVar 4) (eC (.int 2)))) (sAsgN (e1 revD (eVar 5)) (gN 5)) sPass)
  (sRet (e2 addD (e2 addD (eSl (eVar 2) oNone (oSome (eVar 3))) (eTup (aCons (eVar 5) aNil))) (eSl (eVar 2) (oSome (e2 addD (eVar 3) (eC (.int 1)))) oNone)))))))))
noncomputable def f_law_turned : List D → Sto → R D := bodyD 8 b_law_turned
abbrev Keeps_law_turned (P : Program) (w : World) (K : PySem.W.Frag) (mg : PySem.Str → Option Value) (base : Heap) : Prop := Cal P w K mg base 2 "_law_turned" s_law_turned ["deck", "net", "stand"] f_law_turned
set_option maxHeartbeats 0 in
theorem ok_law_turned (M : MG mg) {f : Addr} {fd : FuncData} (F : FunD K "_law_turned" "_law_turned" (defArgs s_law_turned) (defBody s_law_turned) (defScope s_law_turned) [] [] f fd) (hm : mg "_law_turned" = some (.ref f)) (C_law_draw : Keeps_law_draw P w K mg base) (C_law_served : Keeps_law_served P w K mg base) : Keeps_law_turned P w K mg base :=
  ok_def F sc_law_turned hm (fun _ _ _ _ _ _ us hl => match us, hl with | [_, _, _], _ => rfl) fun cdv A outer s H E go => (show SSs _ _ _ b_law_turned from ((ss_cons (s_if (st_cmp (opEq go.hu) dEq (se_var 2) (se_tup sa_nil) (nomark _)) (ss_one (s_ret (se_var 2))) ss_nil)
  (ss_cons (s_par2 (i := 3) (j := 4) go.calm sc_law_turned.nd rfl rfl (by decide) rfl rfl (sa_cons (se_call C_law_draw (go.low (by decide)) (by rfl) (sa_cons (se_var 0) (sa_cons (se_B call_len dLen (by rfl) M.n_len (by decide +kernel) (sa_cons (se_var 2) sa_nil)) sa_nil))) (sa_cons (se_call C_law_draw (go.low (by decide)) (by rfl) (sa_cons (se_var 0) (sa_cons se_int sa_nil))) sa_nil)))
  (ss_cons (s_par2 (i := 5) (j := 6) go.calm sc_law_turned.nd rfl rfl (by decide) rfl rfl (sa_cons (se_ix ix_seq dIx (se_var 2) (se_var 3) (fun _ _ => rfl)) (sa_cons (se_call C_law_served (go.low (by decide)) (by rfl) (sa_cons (se_var 1) (sa_cons (se_var 3) sa_nil))) sa_nil)))
  (ss_cons (s_if (st_cmp (opEq go.hu) dEq (se_var 4) se_int (nomark _)) (ss_one (s_asg (vs := [5]) (se_slice (se_var 5) (so_some se_int) so_none) (pg_name (i := 5) sc_law_turned.nd rfl (by first | exact Or.inl rfl | exact Or.inr rfl)) (gl_name (i := 5) (by simp)))) ss_nil)
  (ss_cons (s_if (st_w (sw_and (st_cmp (opEq go.hu) dEq (se_var 4) se_int (nomark _)) (sw_and (st_cmp (opIn go.hu65) dIn (se_ix ix_seq dIx (se_ix ix_seq dIx (se_ix ix_seq dIx (se_var 1) se_int (fun _ _ => rfl)) (se_var 3) (fun _ _ => rfl)) se_int (fun _ _ => rfl)) (se_var 6) (by rfl)) (sw_and1 (st_cmp (opNe go.hu) dNe (se_var 5) (se_tup sa_nil) (nomark _)))))) (ss_cons (s_asg (vs := [7]) (se_call C_law_draw (go.low (by decide)) (by rfl) (sa_cons (se_var 0) (sa_cons (se_B call_len dLen (by rfl) M.n_len (by decide +kernel) (sa_cons (se_var 5) sa_nil)) sa_nil))) (pg_name (i := 7) sc_law_turned.nd rfl (by first | exact Or.inl rfl | exact Or.inr rfl)) (gl_name (i := 7) (by simp)))
  (ss_one (s_asg (vs := [5]) (se_op opAdd dAdd (se_op opAdd dAdd (se_slice (se_var 5) so_none (so_some (se_var 7))) (se_tup (sa_cons (se_ix ix_seq dIx (se_ix ix_seq dIx (se_ix ix_seq dIx (se_var 1) se_int (fun _ _ => rfl)) (se_var 3) (fun _ _ => rfl)) se_int (fun _ _ => rfl)) sa_nil))) (se_slice (se_var 5) (so_some (se_op opAdd dAdd (se_var 7) se_int)) so_none)) (pg_name (i := 5) sc_law_turned.nd rfl (by first | exact Or.inl rfl | exact Or.inr rfl)) (gl_name (i := 5) (by simp))))) ss_nil)
  (ss_cons (s_if (st_cmp (opEq go.hu) dEq (se_var 4) se_int (nomark _)) (ss_one (s_asg (vs := [5]) (se_rev (se_var 5)) (pg_name (i := 5) sc_law_turned.nd rfl (by first | exact Or.inl rfl | exact Or.inr rfl)) (gl_name (i := 5) (by simp)))) ss_nil)
  (ss_one (s_ret (se_op opAdd dAdd (se_op opAdd dAdd (se_slice (se_var 2) so_none (so_some (se_var 3))) (se_tup (sa_cons (se_var 5) sa_nil))) (se_slice (se_var 2) (so_some (se_op opAdd dAdd (se_var 3) se_int)) so_none))))))))))))
/-! ### _law_is_right -/
abbrev s_law_is_right : Stmt := top_ 28
abbrev N_law_is_right : List PySem.Str := ["net", "stand", "due", "before", "told"]
theorem sc_law_is_right : FnScope N_law_is_right ["net", "stand"] (defScope s_law_is_right) := ⟨rfl, rfl, rfl, by decide +kernel, rfl, by decide +kernel, by decide +kernel⟩
noncomputable def b_law_is_right : FS := (sSeq (sPar [2, 3] (aCons (eLst (aCons (eCall f_law_is_still 2 (aCons (eVar 0) (aCons (eVar 1) aNil))) (aCons (eCall f_law_is_fast 2 (aCons (eVar 0) (aCons (eVar 1) aNil))) aNil))) (aCons (eB reprO (aCons (eLst (aCons (eVar 0) (aCons (eVar 1) aNil))) aNil)) aNil)))
  (sSeq (sAsgN (eLst (aCons (eCall f_stuck 2 (aCons (eVar 0) (aCons (eVar 1) aNil))) (aCons (eCall f_held_fast 2 (aCons (eVar 0) (aCons (eVar 1) aNil))) (aCons (eCallK f_stuck 2 0 [1, 0] aNil (aCons (eVar 1) (aCons (eVar 0) aNil))) (aCons (eCallK f_held_fast 2 0 [1, 0] aNil (aCons (eVar 1) (aCons (eVar 0) aNil))) aNil))))) (gN 4))
  (sRet (eAnd (e2 eqO (eB reprO (aCons (eVar 4) aNil)) (eB reprO (aCons (e2 addD (eVar 2) (eVar 2)) aNil))) (eAnd (eOr (e2 ixD (eVar 2) (eC (.int 0))) (eNot (e2 ixD (eVar 2) (eC (.int 1))))) (e2 eqO (eB reprO (aCons (eLst (aCons (eVar 0) (aCons (eVar 1) aNil))) aNil)) (eVar 3)))))))
noncomputable def f_law_is_right : List D → Sto → R D := bodyD 5 b_law_is_right
abbrev Keeps_law_is_right (P : Program) (w : World) (K : PySem.W.Frag) (mg : PySem.Str → Option Value) (base : Heap) : Prop := Cal P w K mg base 5 "_law_is_right" s_law_is_right ["net", "stand"] f_law_is_right
set_option maxHeartbeats 0 in
theorem ok_law_is_right (M : MG mg) {f : Addr} {fd : FuncData} (F : FunD K "_law_is_right" "_law_is_right" (defArgs s_law_is_right) (defBody s_law_is_right) (defScope s_law_is_right) [] [] f fd) (hm : mg "_law_is_right" = some (.ref f)) (C_law_is_fast : Keeps_law_is_fast P w K mg base) (C_law_is_still : Keeps_law_is_still P w K mg base) (C_held_fast : Keeps_held_fast P w K mg base) (C_stuck : Keeps_stuck P w K mg base) : Keeps_law_is_right P w K mg base :=
  ok_def F sc_law_is_right hm (fun _ _ _ _ _ _ us hl => match us, hl with | [_, _], _ => rfl) fun cdv A outer s H E go => (show SSs _ _ _ b_law_is_right from ((ss_cons (s_par2 (i := 2) (j := 3) go.calm sc_law_is_right.nd rfl rfl (by decide) rfl rfl (sa_cons (se_lst (sa_cons (se_call C_law_is_still (go.low (by decide)) (by rfl) (sa_cons (se_var 0) (sa_cons (se_var 1) sa_nil))) (sa_cons (se_call C_law_is_fast (go.low (by decide)) (by rfl) (sa_cons (se_var 0) (sa_cons (se_var 1) sa_nil))) sa_nil))) (sa_cons (se_B (call_repr go.gd go.hu) dRepr (by rfl) M.n_repr (by decide +kernel) (sa_cons (se_lst (sa_cons (se_var 0) (sa_cons (se_var 1) sa_nil))) sa_nil)) sa_nil)))
  (ss_cons (s_asg (vs := [4]) (se_lst (sa_cons (se_call C_stuck (go.low (by decide)) (by rfl) (sa_cons (se_var 0) (sa_cons (se_var 1) sa_nil))) (sa_cons (se_call C_held_fast (go.low (by decide)) (by rfl) (sa_cons (se_var 0) (sa_cons (se_var 1) sa_nil))) (sa_cons (se_callK0 (ks := ["stand", "net"]) (π := [1, 0]) C_stuck (go.low (by decide)) (by rfl) (fun _ _ _ _ _ _ us ws h1 h2 => match us, ws, h1, h2 with | [], [_, _], _, _ => rfl) (sk_cons (se_var 1) (sk_cons (se_var 0) sk_nil))) (sa_cons (se_callK0 (ks := ["stand", "net"]) (π := [1, 0]) C_held_fast (go.low (by decide)) (by rfl) (fun _ _ _ _ _ _ us ws h1 h2 => match us, ws, h1, h2 with | [], [_, _], _, _ => rfl) (sk_cons (se_var 1) (sk_cons (se_var 0) sk_nil))) sa_nil))))) (pg_name (i := 4) sc_law_is_right.nd rfl (by first | exact Or.inl rfl | exact Or.inr rfl)) (gl_name (i := 4) (by simp)))
  (ss_one (s_ret (se_and (se_cmp (opEq go.hu) dEq (se_B (call_repr go.gd go.hu) dRepr (by rfl) M.n_repr (by decide +kernel) (sa_cons (se_var 4) sa_nil)) (se_B (call_repr go.gd go.hu) dRepr (by rfl) M.n_repr (by decide +kernel) (sa_cons (se_op opAdd dAdd (se_var 2) (se_var 2)) sa_nil)) (nomark _)) (se_and (se_or (se_ix ix_seq dIx (se_var 2) se_int (fun _ _ => rfl)) (se_one (se_not (se_ix ix_seq dIx (se_var 2) se_int (fun _ _ => rfl))))) (se_one (se_cmp (opEq go.hu) dEq (se_B (call_repr go.gd go.hu) dRepr (by rfl) M.n_repr (by decide +kernel) (sa_cons (se_lst (sa_cons (se_var 0) (sa_cons (se_var 1) sa_nil))) sa_nil)) (se_var 3) (nomark _)))))))))))
/-! ### law -/
abbrev s_law : Stmt := top_ 29
abbrev N_law : List PySem.Str := ["script", "deck", "turn", "net", "stand", "again", "lane"]
theorem sc_law : FnScope N_law ["script"] (defScope s_law) := ⟨rfl, rfl, rfl, by decide +kernel, rfl, by decide +kernel, by decide +kernel⟩
noncomputable def b_law : FS := (sSeq (sAsgN (eCall f_law_deck 1 (aCons (eVar 0) aNil)) (gN 1))
  (sSeq (sFor (iR1 (aCons (eC (.int 6)) aNil)) (gN 2) (sSeq (sAsgN (eIf (tbB (e2 ltD (eVar 2) (eC (.int 4)))) (eCall f_law_round 1 (aCons (eVar 1) aNil)) (eCall f_law_net 4 (aCons (eVar 1) (aCons (e2 addD (eC (.int 2)) (eCall f_law_draw 2 (aCons (eVar 1) (aCons (eC (.int 3)) aNil)))) (aCons (eC (.int 7)) (aCons (eC (.int 1)) aNil)))))) (gN 3))
  (sSeq (sAsgN (eCall f_law_stand 3 (aCons (eVar 1) (aCons (eVar 3) (aCons (eC (.int 1)) aNil)))) (gN 4))
  (sSeq (sFor (iR1 (aCons (eC (.int 4)) aNil)) (gN 5) (sSeq (sIf (tNot1 (tb (eCall f_law_is_right 2 (aCons (eVar 3) (aCons (eVar 4) aNil))))) (sRet (eC (.bl false))) sPass)
  (sAsgN (eCall f_law_turned 3 (aCons (eVar 1) (aCons (eVar 3) (aCons (eVar 4) aNil)))) (gN 4))))
  (sIf (tNot1 (tb (eCall f_law_is_right 2 (aCons (eVar 3) (aCons (eB tupO (aCons (eLc (iSeq (e2 ixD (eVar 3) (eC (.int 1)))) (gN 6) tYesD (eTup aNil) [6]) aNil)) aNil))))) (sRet (eC (.bl false))) sPass)))))
  (sRet (eC (.bl true)))))
noncomputable def f_law : List D → Sto → R D := bodyD 7 b_law
abbrev Keeps_law (P : Program) (w : World) (K : PySem.W.Frag) (mg : PySem.Str → Option Value) (base : Heap) : Prop := Cal P w K mg base 6 "law" s_law ["script"] f_law
set_option maxHeartbeats 0 in
theorem ok_law (M : MG mg) {f : Addr} {fd : FuncData} (F : FunD K "law" "law" (defArgs s_law) (defBody s_law) (defScope s_law) [] [] f fd) (hm : mg "law" = some (.ref f)) (C_law_deck : Keeps_law_deck P w K mg base) (C_law_round : Keeps_law_round P w K mg base) (C_law_net : Keeps_law_net P w K mg base) (C_law_draw : Keeps_law_draw P w K mg base) (C_law_stand : Keeps_law_stand P w K mg base) (C_law_is_right : Keeps_law_is_right P w K mg base) (C_law_turned : Keeps_law_turned P w K mg base) : Keeps_law P w K mg base :=
  ok_def F sc_law hm (fun _ _ _ _ _ _ us hl => match us, hl with | [_], _ => rfl) fun cdv A outer s H E go => (show SSs _ _ _ b_law from ((ss_cons (s_asg (vs := [1]) (se_call C_law_deck (go.low (by decide)) (by rfl) (sa_cons (se_var 0) sa_nil)) (pg_name (i := 1) sc_law.nd rfl (by first | exact Or.inl rfl | exact Or.inr rfl)) (gl_name (i := 1) (by simp)))
  (ss_cons (s_for (vs := [2]) go.own go.calm (pi_range1 (by rfl) M.n_range (sa_cons se_int sa_nil).run) wi_r1 (pg_name (i := 2) sc_law.nd rfl (by first | exact Or.inl rfl | exact Or.inr rfl)) (gl_name (i := 2) (by simp)) (ss_cons (s_asg (vs := [3]) (se_if (st_cmp op_lt dLt (se_var 2) se_int (nomark _)) (se_call C_law_round (go.low (by decide)) (by rfl) (sa_cons (se_var 1) sa_nil)) (se_call C_law_net (go.low (by decide)) (by rfl) (sa_cons (se_var 1) (sa_cons (se_op opAdd dAdd se_int (se_call C_law_draw (go.low (by decide)) (by rfl) (sa_cons (se_var 1) (sa_cons se_int sa_nil)))) (sa_cons se_int (sa_cons se_int sa_nil)))))) (pg_name (i := 3) sc_law.nd rfl (by first | exact Or.inl rfl | exact Or.inr rfl)) (gl_name (i := 3) (by simp)))
  (ss_cons (s_asg (vs := [4]) (se_call C_law_stand (go.low (by decide)) (by rfl) (sa_cons (se_var 1) (sa_cons (se_var 3) (sa_cons se_int sa_nil)))) (pg_name (i := 4) sc_law.nd rfl (by first | exact Or.inl rfl | exact Or.inr rfl)) (gl_name (i := 4) (by simp)))
  (ss_cons (s_for (vs := [5]) go.own go.calm (pi_range1 (by rfl) M.n_range (sa_cons se_int sa_nil).run) wi_r1 (pg_name (i := 5) sc_law.nd rfl (by first | exact Or.inl rfl | exact Or.inr rfl)) (gl_name (i := 5) (by simp)) (ss_cons (s_if (st_not (st_truth (se_call C_law_is_right (go.low (by decide)) (by rfl) (sa_cons (se_var 3) (sa_cons (se_var 4) sa_nil))))) (ss_one (s_ret se_bl)) ss_nil)
  (ss_one (s_asg (vs := [4]) (se_call C_law_turned (go.low (by decide)) (by rfl) (sa_cons (se_var 1) (sa_cons (se_var 3) (sa_cons (se_var 4) sa_nil)))) (pg_name (i := 4) sc_law.nd rfl (by first | exact Or.inl rfl | exact Or.inr rfl)) (gl_name (i := 4) (by simp))))))
  (ss_one (s_if (st_not (st_truth (se_call C_law_is_right (go.low (by decide)) (by rfl) (sa_cons (se_var 3) (sa_cons (se_T call_tuple_of dTup (by rfl) M.n_tuple (by decide +kernel) (sa_cons (se_lc [("lane", 6)] go sc_law.nd (pi_seq (se_ix ix_seq dIx (se_var 3) se_int (fun _ _ => rfl))) wi_seq (blkOk_by (own := [("lane", 6)]) (by kernel_rfl)) (fun _ _ _ _ _ => (pg_name (i := 6) sc_law.nd rfl (by first | exact Or.inl rfl | exact Or.inr rfl))) (gl_name (i := 6) (by simp)) (fun _ _ _ _ _ => sp_nil) (fun _ _ _ _ _ => (se_tup sa_nil))) sa_nil)) sa_nil))))) (ss_one (s_ret se_bl)) ss_nil))))))
  (ss_one (s_ret se_bl))))))
end
/-! ### the head -/
def d_ahead : He.DefD := ⟨("ahead", none), "ahead", "ahead", defArgs s_ahead, defBody s_ahead, defScope s_ahead, [], []⟩
def d_empty : He.DefD := ⟨("empty", none), "empty", "empty", defArgs s_empty, defBody s_empty, defScope s_empty, [], []⟩
def d_has_room : He.DefD := ⟨("has_room", none), "has_room", "has_room", defArgs s_has_room, defBody s_has_room, defScope s_has_room, [], []⟩
def d_is_home : He.DefD := ⟨("_is_home", none), "_is_home", "_is_home", defArgs s_is_home, defBody s_is_home, defScope s_is_home, [], []⟩
def d_lanes_open : He.DefD := ⟨("_lanes_open", none), "_lanes_open", "_lanes_open", defArgs s_lanes_open, defBody s_lanes_open, defScope s_lanes_open, [], []⟩
def d_moves : He.DefD := ⟨("moves", none), "moves", "moves", defArgs s_moves, defBody s_moves, defScope s_moves, [], []⟩
def d_stuck : He.DefD := ⟨("stuck", none), "stuck", "stuck", defArgs s_stuck, defBody s_stuck, defScope s_stuck, [], []⟩
def d_held_fast : He.DefD := ⟨("held_fast", none), "held_fast", "held_fast", defArgs s_held_fast, defBody s_held_fast, defScope s_held_fast, [], []⟩
def d_law_deck : He.DefD := ⟨("_law_deck", none), "_law_deck", "_law_deck", defArgs s_law_deck, defBody s_law_deck, defScope s_law_deck, [], []⟩
def d_law_draw : He.DefD := ⟨("_law_draw", none), "_law_draw", "_law_draw", defArgs s_law_draw, defBody s_law_draw, defScope s_law_draw, [], []⟩
def d_law_pick : He.DefD := ⟨("_law_pick", none), "_law_pick", "_law_pick", defArgs s_law_pick, defBody s_law_pick, defScope s_law_pick, [], []⟩
def d_law_mixed : He.DefD := ⟨("_law_mixed", none), "_law_mixed", "_law_mixed", defArgs s_law_mixed, defBody s_law_mixed, defScope s_law_mixed, [], []⟩
def d_law_entry : He.DefD := ⟨("_law_entry", none), "_law_entry", "_law_entry", defArgs s_law_entry, defBody s_law_entry, defScope s_law_entry, [], []⟩
def d_law_cut : He.DefD := ⟨("_law_cut", none), "_law_cut", "_law_cut", defArgs s_law_cut, defBody s_law_cut, defScope s_law_cut, [], []⟩
def d_law_net : He.DefD := ⟨("_law_net", none), "_law_net", "_law_net", defArgs s_law_net, defBody s_law_net, defScope s_law_net, [], []⟩
def d_law_served : He.DefD := ⟨("_law_served", none), "_law_served", "_law_served", defArgs s_law_served, defBody s_law_served, defScope s_law_served, [], []⟩
def d_law_stand : He.DefD := ⟨("_law_stand", none), "_law_stand", "_law_stand", defArgs s_law_stand, defBody s_law_stand, defScope s_law_stand, [], []⟩
def d_law_can : He.DefD := ⟨("_law_can", none), "_law_can", "_law_can", defArgs s_law_can, defBody s_law_can, defScope s_law_can, [], []⟩
def d_law_all_deeds : He.DefD := ⟨("_law_all_deeds", none), "_law_all_deeds", "_law_all_deeds", defArgs s_law_all_deeds, defBody s_law_all_deeds, defScope s_law_all_deeds, [], []⟩
def d_law_is_fast : He.DefD := ⟨("_law_is_fast", none), "_law_is_fast", "_law_is_fast", defArgs s_law_is_fast, defBody s_law_is_fast, defScope s_law_is_fast, [], []⟩
def d_law_is_still : He.DefD := ⟨("_law_is_still", none), "_law_is_still", "_law_is_still", defArgs s_law_is_still, defBody s_law_is_still, defScope s_law_is_still, [], []⟩
def d_law_round : He.DefD := ⟨("_law_round", none), "_law_round", "_law_round", defArgs s_law_round, defBody s_law_round, defScope s_law_round, [], []⟩
def d_law_turned : He.DefD := ⟨("_law_turned", none), "_law_turned", "_law_turned", defArgs s_law_turned, defBody s_law_turned, defScope s_law_turned, [], []⟩
def d_law_is_right : He.DefD := ⟨("_law_is_right", none), "_law_is_right", "_law_is_right", defArgs s_law_is_right, defBody s_law_is_right, defScope s_law_is_right, [], []⟩
def d_law : He.DefD := ⟨("law", none), "law", "law", defArgs s_law, defBody s_law, defScope s_law, [], []⟩
def fn_ : List He.DefD := [d_ahead, d_empty, d_has_room, d_is_home, d_lanes_open, d_moves, d_stuck, d_held_fast, d_law_deck, d_law_draw, d_law_pick, d_law_mixed, d_law_entry, d_law_cut, d_law_net, d_law_served, d_law_stand, d_law_can, d_law_all_deeds, d_law_is_fast, d_law_is_still, d_law_round, d_law_turned, d_law_is_right, d_law]
def fa_ : List He.Fa := [.glo "ahead", .glo "empty", .glo "has_room", .glo "_is_home", .glo "_lanes_open", .glo "moves", .glo "stuck", .glo "held_fast", .glo "_law_deck", .glo "_law_draw", .glo "_law_pick", .glo "_law_mixed", .glo "_law_entry", .glo "_law_cut", .glo "_law_net", .glo "_law_served", .glo "_law_stand", .glo "_law_can", .glo "_law_all_deeds", .glo "_law_is_fast", .glo "_law_is_still", .glo "_law_round", .glo "_law_turned", .glo "_law_is_right", .glo "law", .free "abs", .free "enumerate", .free "int", .free "len", .free "list", .free "range", .free "repr", .free "sorted", .free "tuple"]
abbrev R_ : PySem.W.OpenRow := PySem.W.OpenLaw.row PySem.Challenge.rw_roomahead_k10_whole_stuck_and_held_fast
abbrev hk_ : PySem.W.Hook := He.hookD 4 fa_ fn_
def ob_ (s : PySem.W.SharedT) : He.AlD := He.obsDG 4 fa_ fn_ (HandSHeadRun.getT s)
theorem ob_eq (s : PySem.W.SharedT) : ob_ s = hk_.obs s.abs := He.obsDG_eq (HandSHeadRun.getT_eq s)
set_option maxHeartbeats 0 in
theorem run_ (w : World) : HandSHeadRun.RunEq R_ (PySem.W.view R_.prog [29]) hk_ ob_ 4000 ["ahead", "empty", "has_room", "_is_home", "moves", "_lanes_open", "stuck", "held_fast", "_law_deck", "_law_draw", "_law_pick", "_law_mixed", "_law_net", "_law_entry", "_law_cut", "_law_served", "_law_stand", "_law_can", "_law_behind", "_law_all_deeds", "_law_is_fast", "_law_is_still", "_law_round", "_law_turned", "_law_is_right"] w := by
  intro os
  kernel_rfl
theorem facts_ {P : Program} {w : World} {K : PySem.W.Frag} {h : Heap} {mg : PySem.Str → Option Value} (X : K.In h) (G : h.Ns mainGlobals mg) (c : He.SaysD fa_ fn_ K) {base : Heap} : Keeps_law P w K mg base := by
  have M : MG mg := ⟨He.free_ok X G (c.fact 25 (f := .free "abs") rfl), He.free_ok X G (c.fact 26 (f := .free "enumerate") rfl), He.free_ok X G (c.fact 27 (f := .free "int") rfl), He.free_ok X G (c.fact 28 (f := .free "len") rfl), He.free_ok X G (c.fact 29 (f := .free "list") rfl), He.free_ok X G (c.fact 30 (f := .free "range") rfl), He.free_ok X G (c.fact 31 (f := .free "repr") rfl), He.free_ok X G (c.fact 32 (f := .free "sorted") rfl), He.free_ok X G (c.fact 33 (f := .free "tuple") rfl)⟩
  obtain ⟨e_ahead, F_ahead⟩ := c.def_ 0 (d := d_ahead) rfl
  have C_ahead : Keeps_ahead P w K mg base := ok_ahead M F_ahead (He.glo_ok X G (c.fact 0 (f := .glo "ahead") rfl)) 
  obtain ⟨e_empty, F_empty⟩ := c.def_ 1 (d := d_empty) rfl
  have C_empty : Keeps_empty P w K mg base := ok_empty M F_empty (He.glo_ok X G (c.fact 1 (f := .glo "empty") rfl)) 
  obtain ⟨e_has_room, F_has_room⟩ := c.def_ 2 (d := d_has_room) rfl
  have C_has_room : Keeps_has_room P w K mg base := ok_has_room M F_has_room (He.glo_ok X G (c.fact 2 (f := .glo "has_room") rfl)) 
  obtain ⟨e_is_home, F_is_home⟩ := c.def_ 3 (d := d_is_home) rfl
  have C_is_home : Keeps_is_home P w K mg base := ok_is_home M F_is_home (He.glo_ok X G (c.fact 3 (f := .glo "_is_home") rfl)) 
  obtain ⟨e_lanes_open, F_lanes_open⟩ := c.def_ 4 (d := d_lanes_open) rfl
  have C_lanes_open : Keeps_lanes_open P w K mg base := ok_lanes_open M F_lanes_open (He.glo_ok X G (c.fact 4 (f := .glo "_lanes_open") rfl)) C_ahead C_has_room
  obtain ⟨e_moves, F_moves⟩ := c.def_ 5 (d := d_moves) rfl
  have C_moves : Keeps_moves P w K mg base := ok_moves M F_moves (He.glo_ok X G (c.fact 5 (f := .glo "moves") rfl)) C_lanes_open C_is_home
  obtain ⟨e_stuck, F_stuck⟩ := c.def_ 6 (d := d_stuck) rfl
  have C_stuck : Keeps_stuck P w K mg base := ok_stuck M F_stuck (He.glo_ok X G (c.fact 6 (f := .glo "stuck") rfl)) C_empty C_moves
  obtain ⟨e_held_fast, F_held_fast⟩ := c.def_ 7 (d := d_held_fast) rfl
  have C_held_fast : Keeps_held_fast P w K mg base := ok_held_fast M F_held_fast (He.glo_ok X G (c.fact 7 (f := .glo "held_fast") rfl)) C_is_home C_lanes_open
  obtain ⟨e_law_deck, F_law_deck⟩ := c.def_ 8 (d := d_law_deck) rfl
  have C_law_deck : Keeps_law_deck P w K mg base := ok_law_deck M F_law_deck (He.glo_ok X G (c.fact 8 (f := .glo "_law_deck") rfl)) 
  obtain ⟨e_law_draw, F_law_draw⟩ := c.def_ 9 (d := d_law_draw) rfl
  have C_law_draw : Keeps_law_draw P w K mg base := ok_law_draw M F_law_draw (He.glo_ok X G (c.fact 9 (f := .glo "_law_draw") rfl)) 
  obtain ⟨e_law_pick, F_law_pick⟩ := c.def_ 10 (d := d_law_pick) rfl
  have C_law_pick : Keeps_law_pick P w K mg base := ok_law_pick M F_law_pick (He.glo_ok X G (c.fact 10 (f := .glo "_law_pick") rfl)) C_law_draw
  obtain ⟨e_law_mixed, F_law_mixed⟩ := c.def_ 11 (d := d_law_mixed) rfl
  have C_law_mixed : Keeps_law_mixed P w K mg base := ok_law_mixed M F_law_mixed (He.glo_ok X G (c.fact 11 (f := .glo "_law_mixed") rfl)) C_law_draw
  obtain ⟨e_law_entry, F_law_entry⟩ := c.def_ 12 (d := d_law_entry) rfl
  have C_law_entry : Keeps_law_entry P w K mg base := ok_law_entry M F_law_entry (He.glo_ok X G (c.fact 12 (f := .glo "_law_entry") rfl)) C_law_mixed C_law_pick
  obtain ⟨e_law_cut, F_law_cut⟩ := c.def_ 13 (d := d_law_cut) rfl
  have C_law_cut : Keeps_law_cut P w K mg base := ok_law_cut M F_law_cut (He.glo_ok X G (c.fact 13 (f := .glo "_law_cut") rfl)) 
  obtain ⟨e_law_net, F_law_net⟩ := c.def_ 14 (d := d_law_net) rfl
  have C_law_net : Keeps_law_net P w K mg base := ok_law_net M F_law_net (He.glo_ok X G (c.fact 14 (f := .glo "_law_net") rfl)) C_law_draw C_law_pick C_law_entry C_law_cut
  obtain ⟨e_law_served, F_law_served⟩ := c.def_ 15 (d := d_law_served) rfl
  have C_law_served : Keeps_law_served P w K mg base := ok_law_served M F_law_served (He.glo_ok X G (c.fact 15 (f := .glo "_law_served") rfl)) 
  obtain ⟨e_law_stand, F_law_stand⟩ := c.def_ 16 (d := d_law_stand) rfl
  have C_law_stand : Keeps_law_stand P w K mg base := ok_law_stand M F_law_stand (He.glo_ok X G (c.fact 16 (f := .glo "_law_stand") rfl)) C_law_served C_law_draw C_law_pick
  obtain ⟨e_law_can, F_law_can⟩ := c.def_ 17 (d := d_law_can) rfl
  have C_law_can : Keeps_law_can P w K mg base := ok_law_can M F_law_can (He.glo_ok X G (c.fact 17 (f := .glo "_law_can") rfl)) 
  obtain ⟨e_law_all_deeds, F_law_all_deeds⟩ := c.def_ 18 (d := d_law_all_deeds) rfl
  have C_law_all_deeds : Keeps_law_all_deeds P w K mg base := ok_law_all_deeds M F_law_all_deeds (He.glo_ok X G (c.fact 18 (f := .glo "_law_all_deeds") rfl)) 
  obtain ⟨e_law_is_fast, F_law_is_fast⟩ := c.def_ 19 (d := d_law_is_fast) rfl
  have C_law_is_fast : Keeps_law_is_fast P w K mg base := ok_law_is_fast M F_law_is_fast (He.glo_ok X G (c.fact 19 (f := .glo "_law_is_fast") rfl)) 
  obtain ⟨e_law_is_still, F_law_is_still⟩ := c.def_ 20 (d := d_law_is_still) rfl
  have C_law_is_still : Keeps_law_is_still P w K mg base := ok_law_is_still M F_law_is_still (He.glo_ok X G (c.fact 20 (f := .glo "_law_is_still") rfl)) C_law_all_deeds C_law_can
  obtain ⟨e_law_round, F_law_round⟩ := c.def_ 21 (d := d_law_round) rfl
  have C_law_round : Keeps_law_round P w K mg base := ok_law_round M F_law_round (He.glo_ok X G (c.fact 21 (f := .glo "_law_round") rfl)) C_law_draw C_law_pick
  obtain ⟨e_law_turned, F_law_turned⟩ := c.def_ 22 (d := d_law_turned) rfl
  have C_law_turned : Keeps_law_turned P w K mg base := ok_law_turned M F_law_turned (He.glo_ok X G (c.fact 22 (f := .glo "_law_turned") rfl)) C_law_draw C_law_served
  obtain ⟨e_law_is_right, F_law_is_right⟩ := c.def_ 23 (d := d_law_is_right) rfl
  have C_law_is_right : Keeps_law_is_right P w K mg base := ok_law_is_right M F_law_is_right (He.glo_ok X G (c.fact 23 (f := .glo "_law_is_right") rfl)) C_law_is_fast C_law_is_still C_held_fast C_stuck
  obtain ⟨e_law, F_law⟩ := c.def_ 24 (d := d_law) rfl
  have C_law : Keeps_law P w K mg base := ok_law M F_law (He.glo_ok X G (c.fact 24 (f := .glo "law") rfl)) C_law_deck C_law_round C_law_net C_law_draw C_law_stand C_law_is_right C_law_turned
  exact C_law
end K10
open PySem PySem.W PySem.Calls PyProof.Rows
/-- the row, if the law's outcome is True -/
theorem K10.row_of (run : ∀ ns : List Int, ns.length ≤ 63 → ∃ s', K10.f_law [.kl (ns.map .int)] [] = .ok (.bl true) s') : PySem.Challenge.rw_roomahead_k10_whole_stuck_and_held_fast.Holds := by
  w_on; o_law
  refine HandSHeadRun.head_any (r := OpenLaw.row PySem.Challenge.rw_roomahead_k10_whole_stuck_and_held_fast) (q := view (OpenLaw.row PySem.Challenge.rw_roomahead_k10_whole_stuck_and_held_fast).prog [29]) (H := K10.hk_) (ob := K10.ob_) (M := 4000) (loose := ["ahead", "empty", "has_room", "_is_home", "moves", "_lanes_open", "stuck", "held_fast", "_law_deck", "_law_draw", "_law_pick", "_law_mixed", "_law_net", "_law_entry", "_law_cut", "_law_served", "_law_stand", "_law_can", "_law_behind", "_law_all_deeds", "_law_is_fast", "_law_is_still", "_law_round", "_law_turned", "_law_is_right"]) (d := HandSHeadRun.topDef (OpenLaw.row PySem.Challenge.rw_roomahead_k10_whole_stuck_and_held_fast).prog 29) (kwd := []) K10.ob_eq
    (by kernel_rfl) (fun s => by kernel_rfl) K10.run_ (by kernel_rfl) (by kernel_rfl) (by kernel_rfl) (by rfl) (by first | assumption | decide +kernel) (by decide +kernel) ⟨rfl, rfl, rfl, rfl, rfl, by decide +kernel⟩ ?hw ?hc
  case hw => w_witness2
  case hc =>
    refine Rm.row_end (l := PySem.Challenge.rw_roomahead_k10_whole_stuck_and_held_fast) (n := 63) (k := 6) (x := "script") (φ := K10.f_law) rfl (by decide) (by kernel_rfl) ⟨rfl, by decide, by decide⟩ ?F run
    intro w mg fa h Y G hmg0
    obtain ⟨K, KX, c⟩ := Y
    have hmg : mg ("law" : PySem.Str) = some (.ref fa) := by
      have e : (HandSHeadRun.topDef (OpenLaw.row PySem.Challenge.rw_roomahead_k10_whole_stuck_and_held_fast).prog 29).name = ("law" : PySem.Str) := by kernel_rfl
      rw [← e]
      exact hmg0
    refine ⟨K, KX, fun base _ _ => ?_⟩
    have C : K10.Keeps_law _ w K mg base := K10.facts_ (P := (PySem.Challenge.rw_roomahead_k10_whole_stuck_and_held_fast).prog) KX G c
    exact C.at hmg (fun _ _ _ _ _ _ _ => rfl)

namespace K10
open PySem L2 Rm
section
variable {P : D → Sto → Prop} {st s s' : Sto} {r c : Nat} {N : Net} {S : List (List Nat)}
/-- the law's first look: is there a letter at all -/
theorem bare_filter : decide ((S.filter fun own => !decide (own = [])) = []) = bareB S := by
  unfold bareB
  have : (S.filter fun own => !decide (own = [])) = [] ↔ ∀ own ∈ S, own = [] := by
    rw [List.filter_eq_nil_iff]; simp
  simp only [this]
theorem pys_ents (es : List (List Nat)) : Pys s 49 (es.map fun e => D.tup (nats e)) (es.map pyE) := (pys_map es fun e _ => py_ent e).mono (by decide)
theorem sha_ents (es : List (List Nat)) : ∀ p ∈ es.map pyE, Sha 1 p := fun p hp => by obtain ⟨e, _, rfl⟩ := List.mem_map.mp hp; exact sha_ent e
theorem ents_nil (es : List (List Nat)) : decide ((es.map fun e => D.tup (nats e)) = []) = decide (es = []) := by cases es <;> simp
def pyDd : Dd → PyData
  | (0, k, d) => .tuple [.str "in", .int (k : Int), .int (d : Int)]
  | (1, k, j) => pyOn (k, j)
  | (_, k, _) => pyOut (k, 0)
theorem py_dd : ∀ x : Dd, Py s 2 (ddD x) (pyDd x)
  | (0, k, d) => py_tup (pys_cons (py_str _) (pys_cons (py_int _) (pys_cons (py_int _) pys_nil)))
  | (1, k, j) => py_on (k, j)
  | (n + 2, k, j) => py_out (k, 0)
theorem sha_dd : ∀ x : Dd, Sha 1 (pyDd x)
  | (0, k, d) => sha_tup fun q hq => by
    simp only [List.mem_cons, List.not_mem_nil, or_false] at hq
    rcases hq with rfl | rfl | rfl
    · exact ⟨by decide +kernel, by decide⟩
    · exact sha_int _
    · exact sha_int _
  | (1, k, j) => sha_on (k, j)
  | (n + 2, k, j) => sha_out (k, 0)
def moveB (N : Net) (S : List (List Nat)) (x : Dd) : Bool := decide (x.1 ≠ 0) && canB N S x
def stillB (N : Net) (S : List (List Nat)) : Bool := !bareB S && decide ((allDeeds N).filter (moveB N S) = [])
theorem all_len (ok : N.Ok) : (allDeeds N).length ≤ 1000 := by
  have hfew := ok.few
  have h6 := ok.h6
  unfold allDeeds
  have a := flat_le (f := fun k => (List.range N.h).map fun d => ((0, k, d) : Dd)) (m := 6) (xs := List.range N.lanes.length) fun k _ => by simpa using h6
  have b := flat_le (f := fun k => (List.range N.lanes.length).map fun j => ((1, k, j) : Dd)) (m := 16) (xs := List.range N.lanes.length) fun k _ => by simpa using hfew
  rw [List.length_range] at a b
  simp only [List.length_append, List.length_map, List.length_range]
  omega
theorem still_ev (ok : N.Ok) (so : StOk N S) (H : ∀ s', Kp any st s' → P (.bl (stillB N S)) s') : Ev (f_law_is_still [N.enc, encRow S] st) P := by
  have hfew := ok.few
  have hlen := so.len
  unfold f_law_is_still b_law_is_still
  simp only [ev_body, evs_seq, evs_asgN, evs_ret, evs_expr, evs_if, evs_pass, evs_brk, evs_cnt, evs_par2, evs_par3, ev_eVar, ev_e2, ev_e1, ev_eC, ev_eB, ev_eM, ev_eTup, ev_eLst, ev_eIf, ev_tb, ev_tbB, ev_and2, ev_or2, ev_not1, ev_eCall, ev_eCallK, ev_aCons, ev_aNil, ev_eSl, ev_oNone, ev_oSome, ev_iR1, ev_iSeq, ev_yes, ev_rg1, gN_at, gT_net, gT_lane, gT_tup, gsC_cons, gsN_nil, ex_asg, startD_1, startD_2, startD_3, startD_4, List.replicate, List.getElem?_cons_zero, List.getElem?_cons_succ, List.set_cons_zero, List.set_cons_succ, Option.some.injEq, exists_eq_left', exists_eq_left, exists_eq', List.length_cons, List.length_nil, true_and, and_true, List.cons.injEq, D.int.injEq, D.bl.injEq, D.ref.injEq, D.tup.injEq, Cell.lst.injEq, ix_net0, ix_net1, ix_net2, ix_lane0, ix_lane1, ix_lane2, os_lenT, os_lenL, os_tupL, os_tupT, os_lstT, os_lstL, os_ixT, at0, at1, at2, os_eqI, os_neI, os_eqS, os_neS, os_add, os_sub, os_mul, os_lt, os_le, os_gt, os_ge, os_int, os_intB, os_inN, permL, List.filterMap_cons, List.filterMap_nil, List.nil_append, List.cons_append, wipeD, decide_eq_true_eq, at_push, itD_ref, itD_tup, itD_kl, Nat.reduceAdd, Nat.reduceLT, and_self, Nat.zero_add, if_true, if_false, Bool.false_eq_true, size2, size3, size4, size1, size0, truth_bl, itD_row, Bool.not_true, Bool.not_false, ev_iEn2, os_lenRow, os_lenN, eq_tupNil, ne_tupNil, ev_eAnd, ev_eOr, ev_eNot]
  refine ev_lcF S (fun e => .tup (nats e)) (fun e => .tup (nats e)) (fun own => !decide (own = [])) (fun s => Kp any st s) ?_
  simp only [ev_body, evs_seq, evs_asgN, evs_ret, evs_expr, evs_if, evs_pass, evs_brk, evs_cnt, evs_par2, evs_par3, ev_eVar, ev_e2, ev_e1, ev_eC, ev_eB, ev_eM, ev_eTup, ev_eLst, ev_eIf, ev_tb, ev_tbB, ev_and2, ev_or2, ev_not1, ev_eCall, ev_eCallK, ev_aCons, ev_aNil, ev_eSl, ev_oNone, ev_oSome, ev_iR1, ev_iSeq, ev_yes, ev_rg1, gN_at, gT_net, gT_lane, gT_tup, gsC_cons, gsN_nil, ex_asg, startD_1, startD_2, startD_3, startD_4, List.replicate, List.getElem?_cons_zero, List.getElem?_cons_succ, List.set_cons_zero, List.set_cons_succ, Option.some.injEq, exists_eq_left', exists_eq_left, exists_eq', List.length_cons, List.length_nil, true_and, and_true, List.cons.injEq, D.int.injEq, D.bl.injEq, D.ref.injEq, D.tup.injEq, Cell.lst.injEq, ix_net0, ix_net1, ix_net2, ix_lane0, ix_lane1, ix_lane2, os_lenT, os_lenL, os_tupL, os_tupT, os_lstT, os_lstL, os_ixT, at0, at1, at2, os_eqI, os_neI, os_eqS, os_neS, os_add, os_sub, os_mul, os_lt, os_le, os_gt, os_ge, os_int, os_intB, os_inN, permL, List.filterMap_cons, List.filterMap_nil, List.nil_append, List.cons_append, wipeD, decide_eq_true_eq, at_push, itD_ref, itD_tup, itD_kl, Nat.reduceAdd, Nat.reduceLT, and_self, Nat.zero_add, if_true, if_false, Bool.false_eq_true, size2, size3, size4, size1, size0, truth_bl, itD_row, Bool.not_true, Bool.not_false, ev_iEn2, os_lenRow, os_lenN, eq_tupNil, ne_tupNil, ev_eAnd, ev_eOr, ev_eNot]
  refine ⟨Kp.refl _, by omega, fun _ _ => trivial, fun e he s1 k1 => ⟨k1, fun _ => k1⟩, fun s1 k1 => ?_⟩
  rw [eq_lstNil (at_app at_push) at_push (pys_ents _) (sha_ents _), ents_nil, bare_filter]
  refine ⟨_, rfl, ?_⟩
  have k2 := (k1.trans (Kp.push s1 (.lst ((S.filter fun own => !decide (own = [])).map fun e => .tup (nats e))) (fr := any))).trans (Kp.push _ (.lst []))
  generalize s1 ++ [Cell.lst ((S.filter fun own => !decide (own = [])).map fun e => .tup (nats e))] ++ [Cell.lst []] = s2 at *
  unfold stillB at H
  cases hb : bareB S with
  | true => rw [if_pos rfl]; rw [hb] at H; exact H s2 k2
  | false =>
    rw [if_neg (by simp)]
    rw [hb] at H
    refine ev_lcG (allDeeds N) ddD ddD (moveB N S) ?_
    simp only [ev_eVar, ev_e2, ev_e1, ev_eC, ev_eB, ev_eM, ev_eTup, ev_eLst, ev_eIf, ev_tb, ev_tbB, ev_and2, ev_or2, ev_not1, ev_eCall, ev_eCallK, ev_aCons, ev_aNil, ev_eSl, ev_oNone, ev_oSome, ev_iR1, ev_iSeq, ev_yes, ev_rg1, gN_at, gT_net, gT_lane, gT_tup, gsC_cons, gsN_nil, ex_asg, startD_1, startD_2, startD_3, startD_4, List.replicate, List.getElem?_cons_zero, List.getElem?_cons_succ, List.set_cons_zero, List.set_cons_succ, Option.some.injEq, exists_eq_left', exists_eq_left, exists_eq', List.length_cons, List.length_nil, true_and, and_true, List.cons.injEq, D.int.injEq, D.bl.injEq, D.ref.injEq, D.tup.injEq, Cell.lst.injEq, ix_net0, ix_net1, ix_net2, ix_lane0, ix_lane1, ix_lane2, os_lenT, os_lenL, os_tupL, os_tupT, os_lstT, os_lstL, os_ixT, at0, at1, at2, os_eqI, os_neI, os_eqS, os_neS, os_add, os_sub, os_mul, os_lt, os_le, os_gt, os_ge, os_int, os_intB, os_inN, permL, List.filterMap_cons, List.filterMap_nil, List.nil_append, List.cons_append, wipeD, decide_eq_true_eq, at_push, itD_ref, itD_tup, itD_kl, Nat.reduceAdd, Nat.reduceLT, and_self, Nat.zero_add, if_true, if_false, Bool.false_eq_true, size2, size3, size4, size1, size0, truth_bl, itD_row, Bool.not_true, Bool.not_false, ev_iEn2, os_lenRow, os_lenN, eq_tupNil, ne_tupNil, ev_eAnd, ev_eOr, ev_eNot]
    refine deeds_ev ok fun s3 q k3 _ e3 => ?_
    refine ⟨_, itD_ref.mpr ⟨_, e3, rfl⟩, fun s => Kp any s3 s, rfl, Kp.refl _, by have := all_len ok; omega, fun s k => k.at e3 trivial, ?_, ?_⟩
    · intro x hx s4 k4
      have hok := all_ok hx
      match x, hok with
      | (0, k, d), hok =>
        simp only [ddD, ev_body, evs_seq, evs_asgN, evs_ret, evs_expr, evs_if, evs_pass, evs_brk, evs_cnt, evs_par2, evs_par3, ev_eVar, ev_e2, ev_e1, ev_eC, ev_eB, ev_eM, ev_eTup, ev_eLst, ev_eIf, ev_tb, ev_tbB, ev_and2, ev_or2, ev_not1, ev_eCall, ev_eCallK, ev_aCons, ev_aNil, ev_eSl, ev_oNone, ev_oSome, ev_iR1, ev_iSeq, ev_yes, ev_rg1, gN_at, gT_net, gT_lane, gT_tup, gsC_cons, gsN_nil, ex_asg, startD_1, startD_2, startD_3, startD_4, List.replicate, List.getElem?_cons_zero, List.getElem?_cons_succ, List.set_cons_zero, List.set_cons_succ, Option.some.injEq, exists_eq_left', exists_eq_left, exists_eq', List.length_cons, List.length_nil, true_and, and_true, List.cons.injEq, D.int.injEq, D.bl.injEq, D.ref.injEq, D.tup.injEq, Cell.lst.injEq, ix_net0, ix_net1, ix_net2, ix_lane0, ix_lane1, ix_lane2, os_lenT, os_lenL, os_tupL, os_tupT, os_lstT, os_lstL, os_ixT, at0, at1, at2, os_eqI, os_neI, os_eqS, os_neS, os_add, os_sub, os_mul, os_lt, os_le, os_gt, os_ge, os_int, os_intB, os_inN, permL, List.filterMap_cons, List.filterMap_nil, List.nil_append, List.cons_append, wipeD, decide_eq_true_eq, at_push, itD_ref, itD_tup, itD_kl, Nat.reduceAdd, Nat.reduceLT, and_self, Nat.zero_add, if_true, if_false, Bool.false_eq_true, size2, size3, size4, size1, size0, truth_bl, itD_row, Bool.not_true, Bool.not_false, ev_iEn2, os_lenRow, os_lenN, eq_tupNil, ne_tupNil, ev_eAnd, ev_eOr, ev_eNot, w1]
        exact ⟨k4, by simp [moveB]⟩
      | (1, k, j), hok =>
        simp only [ddD, onD, ev_body, evs_seq, evs_asgN, evs_ret, evs_expr, evs_if, evs_pass, evs_brk, evs_cnt, evs_par2, evs_par3, ev_eVar, ev_e2, ev_e1, ev_eC, ev_eB, ev_eM, ev_eTup, ev_eLst, ev_eIf, ev_tb, ev_tbB, ev_and2, ev_or2, ev_not1, ev_eCall, ev_eCallK, ev_aCons, ev_aNil, ev_eSl, ev_oNone, ev_oSome, ev_iR1, ev_iSeq, ev_yes, ev_rg1, gN_at, gT_net, gT_lane, gT_tup, gsC_cons, gsN_nil, ex_asg, startD_1, startD_2, startD_3, startD_4, List.replicate, List.getElem?_cons_zero, List.getElem?_cons_succ, List.set_cons_zero, List.set_cons_succ, Option.some.injEq, exists_eq_left', exists_eq_left, exists_eq', List.length_cons, List.length_nil, true_and, and_true, List.cons.injEq, D.int.injEq, D.bl.injEq, D.ref.injEq, D.tup.injEq, Cell.lst.injEq, ix_net0, ix_net1, ix_net2, ix_lane0, ix_lane1, ix_lane2, os_lenT, os_lenL, os_tupL, os_tupT, os_lstT, os_lstL, os_ixT, at0, at1, at2, os_eqI, os_neI, os_eqS, os_neS, os_add, os_sub, os_mul, os_lt, os_le, os_gt, os_ge, os_int, os_intB, os_inN, permL, List.filterMap_cons, List.filterMap_nil, List.nil_append, List.cons_append, wipeD, decide_eq_true_eq, at_push, itD_ref, itD_tup, itD_kl, Nat.reduceAdd, Nat.reduceLT, and_self, Nat.zero_add, if_true, if_false, Bool.false_eq_true, size2, size3, size4, size1, size0, truth_bl, itD_row, Bool.not_true, Bool.not_false, ev_iEn2, os_lenRow, os_lenN, eq_tupNil, ne_tupNil, ev_eAnd, ev_eOr, ev_eNot, w2]
        refine can_ev ok so (x := (1, k, j)) hok ?_
        exact ⟨_, rfl, k4, by simp [moveB], fun _ => k4⟩
      | (n + 2, k, j), hok =>
        simp only [ddD, outD, ev_body, evs_seq, evs_asgN, evs_ret, evs_expr, evs_if, evs_pass, evs_brk, evs_cnt, evs_par2, evs_par3, ev_eVar, ev_e2, ev_e1, ev_eC, ev_eB, ev_eM, ev_eTup, ev_eLst, ev_eIf, ev_tb, ev_tbB, ev_and2, ev_or2, ev_not1, ev_eCall, ev_eCallK, ev_aCons, ev_aNil, ev_eSl, ev_oNone, ev_oSome, ev_iR1, ev_iSeq, ev_yes, ev_rg1, gN_at, gT_net, gT_lane, gT_tup, gsC_cons, gsN_nil, ex_asg, startD_1, startD_2, startD_3, startD_4, List.replicate, List.getElem?_cons_zero, List.getElem?_cons_succ, List.set_cons_zero, List.set_cons_succ, Option.some.injEq, exists_eq_left', exists_eq_left, exists_eq', List.length_cons, List.length_nil, true_and, and_true, List.cons.injEq, D.int.injEq, D.bl.injEq, D.ref.injEq, D.tup.injEq, Cell.lst.injEq, ix_net0, ix_net1, ix_net2, ix_lane0, ix_lane1, ix_lane2, os_lenT, os_lenL, os_tupL, os_tupT, os_lstT, os_lstL, os_ixT, at0, at1, at2, os_eqI, os_neI, os_eqS, os_neS, os_add, os_sub, os_mul, os_lt, os_le, os_gt, os_ge, os_int, os_intB, os_inN, permL, List.filterMap_cons, List.filterMap_nil, List.nil_append, List.cons_append, wipeD, decide_eq_true_eq, at_push, itD_ref, itD_tup, itD_kl, Nat.reduceAdd, Nat.reduceLT, and_self, Nat.zero_add, if_true, if_false, Bool.false_eq_true, size2, size3, size4, size1, size0, truth_bl, itD_row, Bool.not_true, Bool.not_false, ev_iEn2, os_lenRow, os_lenN, eq_tupNil, ne_tupNil, ev_eAnd, ev_eOr, ev_eNot, w3]
        refine can_ev ok so (x := (n + 2, k, j)) hok ?_
        exact ⟨_, rfl, k4, by simp [moveB], fun _ => k4⟩
    · intro s4 k4
      rw [eq_lstNil (at_app at_push) at_push ((pys_map _ fun x _ => py_dd x).mono (by decide)) (fun p hp => by obtain ⟨x, _, rfl⟩ := List.mem_map.mp hp; exact sha_dd x)]
      have e : decide (((allDeeds N).filter (moveB N S)).map ddD = []) = (!false && decide ((allDeeds N).filter (moveB N S) = [])) := by simp
      rw [e]
      exact H _ ((((k2.trans k3).trans k4).trans (Kp.push _ _)).trans (Kp.push _ _))
theorem still_stuck (ok : N.Ok) (so : StOk N S) : stillB N S = stuckB N S := by
  unfold stillB stuckB
  congr 1
  rw [← Bool.decide_and]
  congr 1
  rw [eq_iff_iff, List.filter_eq_nil_iff]
  constructor
  · intro h
    constructor
    · refine List.eq_nil_iff_forall_not_mem.mpr fun p hp => ?_
      obtain ⟨q, hq, hp⟩ := List.mem_flatMap.mp hp
      obtain ⟨j, hj, rfl⟩ := List.mem_map.mp hp
      obtain ⟨h1, h2⟩ := firsts_ok ok so hq
      obtain ⟨h3, y, h4⟩ := firsts_mem hq
      obtain ⟨hj1, hj2⟩ := List.mem_filter.mp hj
      have hjl := at_lt ok (ok.lane_ok h1).2.1 h2 hj1
      refine h (1, q.1, j) ?_ ?_
      · unfold allDeeds
        simp only [List.mem_append, List.mem_flatMap, List.mem_map, List.mem_range]
        exact .inl (.inr ⟨q.1, h1, j, hjl, rfl⟩)
      · simp only [moveB, canB, h4, List.headD_cons, hj1, hj2]; simp
    · refine List.eq_nil_iff_forall_not_mem.mpr fun q hp => ?_
      obtain ⟨hq, he⟩ := List.mem_filter.mp hp
      obtain ⟨h1, h2⟩ := firsts_ok ok so hq
      obtain ⟨h3, y, h4⟩ := firsts_mem hq
      have he := of_decide_eq_true he
      refine h (2, q.1, 0) ?_ ?_
      · unfold allDeeds
        simp only [List.mem_append, List.mem_flatMap, List.mem_map, List.mem_range]
        exact .inr ⟨q.1, h1, rfl⟩
      · simp only [moveB, canB, h4, List.headD_cons, he]; simp
  · rintro ⟨h1, h2⟩ x hx hb
    have hok := all_ok hx
    have mk : ∀ k, k < N.lanes.length → ownOf S k ≠ [] → (k, (ownOf S k).headD 0) ∈ firsts S := fun k hk hne => by
      unfold firsts
      refine List.mem_map.mpr ⟨(ownOf S k, k), List.mem_filter.mpr ⟨?_, ?_⟩, rfl⟩
      · exact List.mem_zipIdx_iff_getElem?.mpr (own_get (by rw [so.len]; exact hk))
      · simp; exact List.length_pos_iff.mpr hne
    match x, hok, hb with
    | (0, k, d), hok, hb => simp [moveB] at hb
    | (1, k, j), hok, hb =>
      simp only [moveB, canB, Bool.and_eq_true, Bool.not_eq_true', decide_eq_false_iff_not, decide_eq_true_eq] at hb
      obtain ⟨_, hne, hj, hr⟩ := hb
      have : (k, j) ∈ onsOf N S := List.mem_flatMap.mpr ⟨_, mk k hok.1 hne, List.mem_map.mpr ⟨j, List.mem_filter.mpr ⟨hj, hr⟩, rfl⟩⟩
      rw [h1] at this; cases this
    | (n + 2, k, j), hok, hb =>
      simp only [moveB, canB, Bool.and_eq_true, Bool.not_eq_true', decide_eq_false_iff_not, decide_eq_true_eq] at hb
      obtain ⟨_, hne, he⟩ := hb
      have hok : n + 2 = 2 ∧ k < N.lanes.length ∧ j = 0 := hok
      have : (k, (ownOf S k).headD 0) ∈ outsOf N S := List.mem_filter.mpr ⟨mk k hok.2.1 hne, by simp only [decide_eq_true_eq]; exact he.symm⟩
      rw [h2] at this; cases this
end
end K10

namespace K10
open PySem L2 Rm
section
variable {P : D → Sto → Prop} {st s s' : Sto} {r c : Nat} {N : Net} {S : List (List Nat)}
def lawFastB (N : Net) (S : List (List Nat)) : Bool := !bareB S && decide (∀ p ∈ lettersOf S, looseB N S p = false)
theorem letters_of {k d : Nat} {own : List Nat} (h : S[k]? = some own) (hd : d ∈ own) : (k, d) ∈ lettersOf S :=
  List.mem_flatMap.mpr ⟨(own, k), List.mem_zipIdx_iff_getElem?.mpr h, List.mem_map.mpr ⟨d, hd, rfl⟩⟩
theorem isfast_ev (ok : N.Ok) (so : StOk N S) (H : ∀ s', Kp any st s' → P (.bl (lawFastB N S)) s') : Ev (f_law_is_fast [N.enc, encRow S] st) P := by
  have hfew := ok.few
  have hlen := so.len
  unfold f_law_is_fast b_law_is_fast
  simp only [ev_body, evs_seq, evs_if, ev_tbB, ev_e2, startD_2]
  refine ev_lcF S (fun e => .tup (nats e)) (fun e => .tup (nats e)) (fun own => !decide (own = [])) (fun s => Kp any st s) ?_
  simp only [ev_eVar, ev_e2, ev_e1, ev_eC, ev_eB, ev_eM, ev_eTup, ev_eLst, ev_eIf, ev_tb, ev_tbB, ev_and2, ev_or2, ev_not1, ev_eCall, ev_eCallK, ev_aCons, ev_aNil, ev_eSl, ev_oNone, ev_oSome, ev_iR1, ev_iSeq, ev_yes, ev_rg1, gN_at, gT_net, gT_lane, gT_tup, gsC_cons, gsN_nil, ex_asg, startD_1, startD_2, startD_3, startD_4, List.replicate, List.getElem?_cons_zero, List.getElem?_cons_succ, List.set_cons_zero, List.set_cons_succ, Option.some.injEq, exists_eq_left', exists_eq_left, exists_eq', List.length_cons, List.length_nil, true_and, and_true, List.cons.injEq, D.int.injEq, D.bl.injEq, D.ref.injEq, D.tup.injEq, Cell.lst.injEq, ix_net0, ix_net1, ix_net2, ix_lane0, ix_lane1, ix_lane2, os_lenT, os_lenL, os_tupL, os_tupT, os_lstT, os_lstL, os_ixT, at0, at1, at2, os_eqI, os_neI, os_eqS, os_neS, os_add, os_sub, os_mul, os_lt, os_le, os_gt, os_ge, os_int, os_intB, os_inN, permL, List.filterMap_cons, List.filterMap_nil, List.nil_append, List.cons_append, wipeD, decide_eq_true_eq, at_push, itD_ref, itD_tup, itD_kl, Nat.reduceAdd, Nat.reduceLT, and_self, Nat.zero_add, if_true, if_false, Bool.false_eq_true, size2, size3, size4, size1, size0, truth_bl, itD_row, Bool.not_true, Bool.not_false, ev_iEn2, os_lenRow, os_lenN, eq_tupNil, ne_tupNil, ev_eAnd, ev_eOr, ev_eNot]
  refine ⟨Kp.refl _, by omega, fun _ _ => trivial, fun e he s1 k1 => ⟨k1, fun _ => k1⟩, fun s1 k1 => ?_⟩
  rw [eq_lstNil (at_app at_push) at_push (pys_ents _) (sha_ents _), ents_nil, bare_filter]
  refine ⟨_, rfl, ?_⟩
  have k2 := (k1.trans (Kp.push s1 (.lst ((S.filter fun own => !decide (own = [])).map fun e => .tup (nats e))) (fr := any))).trans (Kp.push _ (.lst []))
  generalize s1 ++ [Cell.lst ((S.filter fun own => !decide (own = [])).map fun e => .tup (nats e))] ++ [Cell.lst []] = s2 at *
  unfold lawFastB at H
  cases hb : bareB S with
  | true => rw [if_pos rfl]; rw [hb] at H; exact H s2 k2
  | false =>
    rw [if_neg (by simp)]
    rw [hb] at H
    simp only [evs_pass]
    have no : ∀ s', Kp any st s' → (∃ p ∈ lettersOf S, looseB N S p = true) → P (.bl false) s' := fun s' k' ⟨p, hp, hl⟩ => by
      have h := H s' k'
      have e : decide (∀ p ∈ lettersOf S, looseB N S p = false) = false := by
        refine decide_eq_false fun h => ?_
        rw [h p hp] at hl; cases hl
      rw [e] at h; exact h
    refine evs_for ?_
    simp only [ev_eVar, ev_e2, ev_e1, ev_eC, ev_eB, ev_eM, ev_eTup, ev_eLst, ev_eIf, ev_tb, ev_tbB, ev_and2, ev_or2, ev_not1, ev_eCall, ev_eCallK, ev_aCons, ev_aNil, ev_eSl, ev_oNone, ev_oSome, ev_iR1, ev_iSeq, ev_yes, ev_rg1, gN_at, gT_net, gT_lane, gT_tup, gsC_cons, gsN_nil, ex_asg, startD_1, startD_2, startD_3, startD_4, List.replicate, List.getElem?_cons_zero, List.getElem?_cons_succ, List.set_cons_zero, List.set_cons_succ, Option.some.injEq, exists_eq_left', exists_eq_left, exists_eq', List.length_cons, List.length_nil, true_and, and_true, List.cons.injEq, D.int.injEq, D.bl.injEq, D.ref.injEq, D.tup.injEq, Cell.lst.injEq, ix_net0, ix_net1, ix_net2, ix_lane0, ix_lane1, ix_lane2, os_lenT, os_lenL, os_tupL, os_tupT, os_lstT, os_lstL, os_ixT, at0, at1, at2, os_eqI, os_neI, os_eqS, os_neS, os_add, os_sub, os_mul, os_lt, os_le, os_gt, os_ge, os_int, os_intB, os_inN, permL, List.filterMap_cons, List.filterMap_nil, List.nil_append, List.cons_append, wipeD, decide_eq_true_eq, at_push, itD_ref, itD_tup, itD_kl, Nat.reduceAdd, Nat.reduceLT, and_self, Nat.zero_add, if_true, if_false, Bool.false_eq_true, size2, size3, size4, size1, size0, truth_bl, itD_row, Bool.not_true, Bool.not_false, ev_iEn2, os_lenRow, os_lenN, eq_tupNil, ne_tupNil, ev_eAnd, ev_eOr, ev_eNot]
    refine ⟨fun i ρ s => ∃ t2 t3 t4 t5 t6, ρ = [some N.enc, some (encRow S), t2, t3, t4, t5, t6] ∧ Kp any st s ∧ ∀ p ∈ S.zipIdx.take i, ∀ d ∈ p.1, looseB N S (p.2, d) = false, ⟨_, _, _, _, _, rfl, k2, fun p h => by simp at h⟩, ?_, ?_⟩
    · rintro k d ρ1 s3 hd ⟨t2, t3, t4, t5, t6, rfl, k3, hpre⟩
      obtain ⟨own, hown, rfl⟩ := en_at hd
      have hkS := (List.getElem?_eq_some_iff.mp hown).1
      have hk : k < N.lanes.length := by omega
      have ln := ok.lane_ok hk
      have howk : own = ownOf S k := by rw [own_get hkS] at hown; exact (Option.some.inj hown).symm
      refine ⟨trivial, ?_⟩
      simp only [ev_body, evs_seq, evs_asgN, evs_ret, evs_expr, evs_if, evs_pass, evs_brk, evs_cnt, evs_par2, evs_par3, ev_eVar, ev_e2, ev_e1, ev_eC, ev_eB, ev_eM, ev_eTup, ev_eLst, ev_eIf, ev_tb, ev_tbB, ev_and2, ev_or2, ev_not1, ev_eCall, ev_eCallK, ev_aCons, ev_aNil, ev_eSl, ev_oNone, ev_oSome, ev_iR1, ev_iSeq, ev_yes, ev_rg1, gN_at, gT_net, gT_lane, gT_tup, gsC_cons, gsN_nil, ex_asg, startD_1, startD_2, startD_3, startD_4, List.replicate, List.getElem?_cons_zero, List.getElem?_cons_succ, List.set_cons_zero, List.set_cons_succ, Option.some.injEq, exists_eq_left', exists_eq_left, exists_eq', List.length_cons, List.length_nil, true_and, and_true, List.cons.injEq, D.int.injEq, D.bl.injEq, D.ref.injEq, D.tup.injEq, Cell.lst.injEq, ix_net0, ix_net1, ix_net2, ix_lane0, ix_lane1, ix_lane2, os_lenT, os_lenL, os_tupL, os_tupT, os_lstT, os_lstL, os_ixT, at0, at1, at2, os_eqI, os_neI, os_eqS, os_neS, os_add, os_sub, os_mul, os_lt, os_le, os_gt, os_ge, os_int, os_intB, os_inN, permL, List.filterMap_cons, List.filterMap_nil, List.nil_append, List.cons_append, wipeD, decide_eq_true_eq, at_push, itD_ref, itD_tup, itD_kl, Nat.reduceAdd, Nat.reduceLT, and_self, Nat.zero_add, if_true, if_false, Bool.false_eq_true, size2, size3, size4, size1, size0, truth_bl, itD_row, Bool.not_true, Bool.not_false, ev_iEn2, os_lenRow, os_lenN, eq_tupNil, ne_tupNil, ev_eAnd, ev_eOr, ev_eNot, at_lanes hk]
      refine evs_for ?_
      simp only [ev_eVar, ev_e2, ev_e1, ev_eC, ev_eB, ev_eM, ev_eTup, ev_eLst, ev_eIf, ev_tb, ev_tbB, ev_and2, ev_or2, ev_not1, ev_eCall, ev_eCallK, ev_aCons, ev_aNil, ev_eSl, ev_oNone, ev_oSome, ev_iR1, ev_iSeq, ev_yes, ev_rg1, gN_at, gT_net, gT_lane, gT_tup, gsC_cons, gsN_nil, ex_asg, startD_1, startD_2, startD_3, startD_4, List.replicate, List.getElem?_cons_zero, List.getElem?_cons_succ, List.set_cons_zero, List.set_cons_succ, Option.some.injEq, exists_eq_left', exists_eq_left, exists_eq', List.length_cons, List.length_nil, true_and, and_true, List.cons.injEq, D.int.injEq, D.bl.injEq, D.ref.injEq, D.tup.injEq, Cell.lst.injEq, ix_net0, ix_net1, ix_net2, ix_lane0, ix_lane1, ix_lane2, os_lenT, os_lenL, os_tupL, os_tupT, os_lstT, os_lstL, os_ixT, at0, at1, at2, os_eqI, os_neI, os_eqS, os_neS, os_add, os_sub, os_mul, os_lt, os_le, os_gt, os_ge, os_int, os_intB, os_inN, permL, List.filterMap_cons, List.filterMap_nil, List.nil_append, List.cons_append, wipeD, decide_eq_true_eq, at_push, itD_ref, itD_tup, itD_kl, Nat.reduceAdd, Nat.reduceLT, and_self, Nat.zero_add, if_true, if_false, Bool.false_eq_true, size2, size3, size4, size1, size0, truth_bl, itD_row, Bool.not_true, Bool.not_false, ev_iEn2, os_lenRow, os_lenN, eq_tupNil, ne_tupNil, ev_eAnd, ev_eOr, ev_eNot]
      refine ⟨fun j ρ s => ∃ t5 t6, ρ = [some N.enc, some (encRow S), some (.int (k : Nat)), some (.tup (nats own)), some (nat (N.lane k).e), t5, t6] ∧ Kp any st s ∧ ∀ d ∈ own.take j, looseB N S (k, d) = false, ⟨_, _, rfl, k3, fun d h => by simp at h⟩, ?_, ?_⟩
      · rintro j d ρ2 s4 hd2 ⟨t5, t6, rfl, k4, hpre2⟩
        rw [show (nats own)[j]? = own[j]?.map nat from List.getElem?_map ..] at hd2
        obtain ⟨a, ha, rfl⟩ := Option.map_eq_some_iff.mp hd2
        have hmem := List.mem_of_getElem? ha
        have haH : a < N.h := own_lt ok so hkS (by rw [← howk]; exact hmem)
        obtain ⟨row, h1, h2⟩ := ok.getE ln.2.1 haH
        refine ⟨by simp, ?_⟩
        simp only [ev_body, evs_seq, evs_asgN, evs_ret, evs_expr, evs_if, evs_pass, evs_brk, evs_cnt, evs_par2, evs_par3, ev_eVar, ev_e2, ev_e1, ev_eC, ev_eB, ev_eM, ev_eTup, ev_eLst, ev_eIf, ev_tb, ev_tbB, ev_and2, ev_or2, ev_not1, ev_eCall, ev_eCallK, ev_aCons, ev_aNil, ev_eSl, ev_oNone, ev_oSome, ev_iR1, ev_iSeq, ev_yes, ev_rg1, gN_at, gT_net, gT_lane, gT_tup, gsC_cons, gsN_nil, ex_asg, startD_1, startD_2, startD_3, startD_4, List.replicate, List.getElem?_cons_zero, List.getElem?_cons_succ, List.set_cons_zero, List.set_cons_succ, Option.some.injEq, exists_eq_left', exists_eq_left, exists_eq', List.length_cons, List.length_nil, true_and, and_true, List.cons.injEq, D.int.injEq, D.bl.injEq, D.ref.injEq, D.tup.injEq, Cell.lst.injEq, ix_net0, ix_net1, ix_net2, ix_lane0, ix_lane1, ix_lane2, os_lenT, os_lenL, os_tupL, os_tupT, os_lstT, os_lstL, os_ixT, at0, at1, at2, os_eqI, os_neI, os_eqS, os_neS, os_add, os_sub, os_mul, os_lt, os_le, os_gt, os_ge, os_int, os_intB, os_inN, permL, List.filterMap_cons, List.filterMap_nil, List.nil_append, List.cons_append, wipeD, decide_eq_true_eq, at_push, itD_ref, itD_tup, itD_kl, Nat.reduceAdd, Nat.reduceLT, and_self, Nat.zero_add, if_true, if_false, Bool.false_eq_true, size2, size3, size4, size1, size0, truth_bl, itD_row, Bool.not_true, Bool.not_false, ev_iEn2, os_lenRow, os_lenN, eq_tupNil, ne_tupNil, ev_eAnd, ev_eOr, ev_eNot, eq_natB]
        by_cases he : a = (N.lane k).e
        · rw [if_pos he]
          exact no s4 k4 ⟨(k, a), letters_of hown hmem, by simp [looseB, he]⟩
        rw [if_neg he]
        refine ev_lcF (N.at (N.lane k).e a) nat nat (roomB N S) (fun s => Kp any s4 s) ?_
        simp only [ev_body, evs_seq, evs_asgN, evs_ret, evs_expr, evs_if, evs_pass, evs_brk, evs_cnt, evs_par2, evs_par3, ev_eVar, ev_e2, ev_e1, ev_eC, ev_eB, ev_eM, ev_eTup, ev_eLst, ev_eIf, ev_tb, ev_tbB, ev_and2, ev_or2, ev_not1, ev_eCall, ev_eCallK, ev_aCons, ev_aNil, ev_eSl, ev_oNone, ev_oSome, ev_iR1, ev_iSeq, ev_yes, ev_rg1, gN_at, gT_net, gT_lane, gT_tup, gsC_cons, gsN_nil, ex_asg, startD_1, startD_2, startD_3, startD_4, List.replicate, List.getElem?_cons_zero, List.getElem?_cons_succ, List.set_cons_zero, List.set_cons_succ, Option.some.injEq, exists_eq_left', exists_eq_left, exists_eq', List.length_cons, List.length_nil, true_and, and_true, List.cons.injEq, D.int.injEq, D.bl.injEq, D.ref.injEq, D.tup.injEq, Cell.lst.injEq, ix_net0, ix_net1, ix_net2, ix_lane0, ix_lane1, ix_lane2, os_lenT, os_lenL, os_tupL, os_tupT, os_lstT, os_lstL, os_ixT, at0, at1, at2, os_eqI, os_neI, os_eqS, os_neS, os_add, os_sub, os_mul, os_lt, os_le, os_gt, os_ge, os_int, os_intB, os_inN, permL, List.filterMap_cons, List.filterMap_nil, List.nil_append, List.cons_append, wipeD, decide_eq_true_eq, at_push, itD_ref, itD_tup, itD_kl, Nat.reduceAdd, Nat.reduceLT, and_self, Nat.zero_add, if_true, if_false, Bool.false_eq_true, size2, size3, size4, size1, size0, truth_bl, itD_row, Bool.not_true, Bool.not_false, ev_iEn2, os_lenRow, os_lenN, eq_tupNil, ne_tupNil, ev_eAnd, ev_eOr, ev_eNot, Net.Ok.at_row h1, ix_ent h2]
        refine ⟨rfl, Kp.refl _, by have := ent_few ok ln.2.1 haH; omega, fun _ _ => trivial, ?_, ?_⟩
        · intro x hx s5 k5
          have hxl := at_lt ok ln.2.1 haH hx
          simp only [ev_body, evs_seq, evs_asgN, evs_ret, evs_expr, evs_if, evs_pass, evs_brk, evs_cnt, evs_par2, evs_par3, ev_eVar, ev_e2, ev_e1, ev_eC, ev_eB, ev_eM, ev_eTup, ev_eLst, ev_eIf, ev_tb, ev_tbB, ev_and2, ev_or2, ev_not1, ev_eCall, ev_eCallK, ev_aCons, ev_aNil, ev_eSl, ev_oNone, ev_oSome, ev_iR1, ev_iSeq, ev_yes, ev_rg1, gN_at, gT_net, gT_lane, gT_tup, gsC_cons, gsN_nil, ex_asg, startD_1, startD_2, startD_3, startD_4, List.replicate, List.getElem?_cons_zero, List.getElem?_cons_succ, List.set_cons_zero, List.set_cons_succ, Option.some.injEq, exists_eq_left', exists_eq_left, exists_eq', List.length_cons, List.length_nil, true_and, and_true, List.cons.injEq, D.int.injEq, D.bl.injEq, D.ref.injEq, D.tup.injEq, Cell.lst.injEq, ix_net0, ix_net1, ix_net2, ix_lane0, ix_lane1, ix_lane2, os_lenT, os_lenL, os_tupL, os_tupT, os_lstT, os_lstL, os_ixT, at0, at1, at2, os_eqI, os_neI, os_eqS, os_neS, os_add, os_sub, os_mul, os_lt, os_le, os_gt, os_ge, os_int, os_intB, os_inN, permL, List.filterMap_cons, List.filterMap_nil, List.nil_append, List.cons_append, wipeD, decide_eq_true_eq, at_push, itD_ref, itD_tup, itD_kl, Nat.reduceAdd, Nat.reduceLT, and_self, Nat.zero_add, if_true, if_false, Bool.false_eq_true, size2, size3, size4, size1, size0, truth_bl, itD_row, Bool.not_true, Bool.not_false, ev_iEn2, os_lenRow, os_lenN, eq_tupNil, ne_tupNil, ev_eAnd, ev_eOr, ev_eNot, ix_own (show x < S.length by omega), at_lanes hxl, room_nat]
          exact ⟨k5, fun _ => k5⟩
        intro s5 k5
        rw [show ((N.at (N.lane k).e a).filter (roomB N S)).map nat = nats (opens N S k a) from rfl]
        rw [ne_lstNil (at_app at_push) at_push (pys_nats (opens N S k a)) (sha_nats' _), nats_nil]
        refine ⟨_, rfl, ?_⟩
        have k6 := (k4.trans k5).trans ((Kp.push s5 (.lst (nats (opens N S k a))) (fr := any)).trans (Kp.push _ (.lst [])))
        by_cases hop : opens N S k a = []
        · rw [if_neg (by simp [hop])]
          refine ⟨k6, fun d hd => ?_⟩
          rw [List.take_succ, ha] at hd
          rcases List.mem_append.mp hd with hd | hd
          · exact hpre2 d hd
          · have : d = a := by simpa using hd
            subst this
            have : ¬ (N.lane k).e = d := fun e => he e.symm
            simp [looseB, hop, this]
        · rw [if_pos (by simp [hop])]
          exact no _ k6 ⟨(k, a), letters_of hown hmem, by simp only [looseB]; rw [Bool.or_eq_true]; exact .inr (decide_eq_true (List.length_pos_iff.mpr hop))⟩
      · rintro ρ2 s4 ⟨t5, t6, rfl, k4, hpre2⟩
        refine ⟨_, _, _, _, _, rfl, k4, fun p hp d hd => ?_⟩
        rw [List.take_succ, List.getElem?_zipIdx, hown] at hp
        rcases List.mem_append.mp hp with hp | hp
        · exact hpre p hp d hd
        · have : p = (own, k) := by simpa using hp
          subst this
          exact hpre2 d (by rw [List.take_of_length_le (by simp [nats])]; exact hd)
    · rintro ρ1 s3 ⟨t2, t3, t4, t5, t6, rfl, k3, hpre⟩
      refine ⟨trivial, ?_⟩
      simp only [ev_body, evs_seq, evs_asgN, evs_ret, evs_expr, evs_if, evs_pass, evs_brk, evs_cnt, evs_par2, evs_par3, ev_eVar, ev_e2, ev_e1, ev_eC, ev_eB, ev_eM, ev_eTup, ev_eLst, ev_eIf, ev_tb, ev_tbB, ev_and2, ev_or2, ev_not1, ev_eCall, ev_eCallK, ev_aCons, ev_aNil, ev_eSl, ev_oNone, ev_oSome, ev_iR1, ev_iSeq, ev_yes, ev_rg1, gN_at, gT_net, gT_lane, gT_tup, gsC_cons, gsN_nil, ex_asg, startD_1, startD_2, startD_3, startD_4, List.replicate, List.getElem?_cons_zero, List.getElem?_cons_succ, List.set_cons_zero, List.set_cons_succ, Option.some.injEq, exists_eq_left', exists_eq_left, exists_eq', List.length_cons, List.length_nil, true_and, and_true, List.cons.injEq, D.int.injEq, D.bl.injEq, D.ref.injEq, D.tup.injEq, Cell.lst.injEq, ix_net0, ix_net1, ix_net2, ix_lane0, ix_lane1, ix_lane2, os_lenT, os_lenL, os_tupL, os_tupT, os_lstT, os_lstL, os_ixT, at0, at1, at2, os_eqI, os_neI, os_eqS, os_neS, os_add, os_sub, os_mul, os_lt, os_le, os_gt, os_ge, os_int, os_intB, os_inN, permL, List.filterMap_cons, List.filterMap_nil, List.nil_append, List.cons_append, wipeD, decide_eq_true_eq, at_push, itD_ref, itD_tup, itD_kl, Nat.reduceAdd, Nat.reduceLT, and_self, Nat.zero_add, if_true, if_false, Bool.false_eq_true, size2, size3, size4, size1, size0, truth_bl, itD_row, Bool.not_true, Bool.not_false, ev_iEn2, os_lenRow, os_lenN, eq_tupNil, ne_tupNil, ev_eAnd, ev_eOr, ev_eNot]
      have h := H s3 k3
      have e : decide (∀ p ∈ lettersOf S, looseB N S p = false) = true := by
        refine decide_eq_true fun p hp => ?_
        obtain ⟨x, hx, hp⟩ := List.mem_flatMap.mp hp
        obtain ⟨d, hd, rfl⟩ := List.mem_map.mp hp
        refine hpre x ?_ d hd
        rw [List.take_of_length_le (by simp [enumD])]
        exact hx
      rw [e] at h; exact h
end
end K10

namespace K10
open PySem L2 Rm
section
variable {P : D → Sto → Prop} {st s s' : Sto} {r c : Nat} {N : Net} {S : List (List Nat)}
theorem letters_nil : lettersOf S = [] ↔ bareB S = true := by
  unfold bareB lettersOf
  rw [decide_eq_true_eq, List.flatMap_eq_nil_iff]
  constructor
  · intro h own ho
    obtain ⟨k, hk⟩ := List.mem_iff_getElem?.mp ho
    have := h (own, k) (List.mem_zipIdx_iff_getElem?.mpr hk)
    simpa using this
  · rintro h ⟨own, k⟩ hp
    have := h own (List.mem_of_getElem? (zip_mem hp))
    simp [this]
theorem fast_same : lawFastB N S = fastB N S := by
  unfold lawFastB fastB
  have e1 : (!bareB S) = decide (0 < (lettersOf S).length) := by
    cases hb : bareB S with
    | true => rw [letters_nil.mpr hb]; rfl
    | false =>
      have : lettersOf S ≠ [] := fun h => by rw [letters_nil.mp h] at hb; cases hb
      simp [List.length_pos_iff.mpr this]
  rw [e1]
  congr 1
  have : (∀ p ∈ lettersOf S, looseB N S p = false) ↔ (lettersOf S).filter (looseB N S) = [] := by
    rw [List.filter_eq_nil_iff]
    constructor
    · intro h p hp; rw [h p hp]; simp
    · intro h p hp; simpa using h p hp
  simp only [this]
theorem fast_stuck (h : fastB N S = true) : stuckB N S = true := by
  unfold fastB at h
  rw [Bool.and_eq_true, decide_eq_true_eq, decide_eq_true_eq] at h
  obtain ⟨h1, h2⟩ := h
  have hb : bareB S = false := by
    cases hb : bareB S with
    | false => rfl
    | true => rw [letters_nil.mpr hb] at h1; simp at h1
  have tight : ∀ p ∈ lettersOf S, ¬ (looseB N S p = true) := List.filter_eq_nil_iff.mp h2
  have inL : ∀ p ∈ firsts S, p ∈ lettersOf S := fun p hp => by
    obtain ⟨hk, y, h4⟩ := firsts_mem hp
    exact letters_of (own_get hk) (by rw [h4]; exact List.mem_cons_self)
  have o1 : onsOf N S = [] := List.eq_nil_iff_forall_not_mem.mpr fun q hq => by
    obtain ⟨p, hp, hq⟩ := List.mem_flatMap.mp hq
    obtain ⟨j, hj, _⟩ := List.mem_map.mp hq
    refine tight p (inL p hp) ?_
    simp only [looseB]; rw [Bool.or_eq_true]; exact .inr (decide_eq_true (List.length_pos_of_mem hj))
  have o2 : outsOf N S = [] := List.eq_nil_iff_forall_not_mem.mpr fun p hp => by
    obtain ⟨hp, he⟩ := List.mem_filter.mp hp
    refine tight p (inL p hp) ?_
    simp only [looseB]; rw [Bool.or_eq_true]; exact .inl he
  unfold stuckB
  rw [hb, o1, o2]; rfl
theorem sh_stand (ok : N.Ok) (so : StOk N S) : Sh 3000 2 (pyRow S) := by
  have hfew := ok.few
  have h6 := ok.h6
  refine sh_tup (n := 100) (m := 16) (fun p hp => ?_) (by rw [List.length_map, so.len]; exact hfew) (by decide)
  obtain ⟨own, ho, rfl⟩ := List.mem_map.mp hp
  obtain ⟨k, hk⟩ := List.mem_iff_getElem?.mp ho
  have hkS := (List.getElem?_eq_some_iff.mp hk).1
  have e : own = ownOf S k := by rw [own_get hkS] at hk; exact (Option.some.inj hk).symm
  subst e
  exact sh_nats (m := 4) (fun d hd => by have := own_lt ok so hkS hd; omega) (own_len ok so hkS) (by decide)
theorem right_ev (ok : N.Ok) (so : StOk N S) (H : ∀ s', Kp any st s' → P (.bl true) s') : Ev (f_law_is_right [N.enc, encRow S] st) P := by
  unfold f_law_is_right b_law_is_right
  simp only [ev_body, evs_seq, evs_asgN, evs_ret, evs_expr, evs_if, evs_pass, evs_brk, evs_cnt, evs_par2, evs_par3, ev_eVar, ev_e2, ev_e1, ev_eC, ev_eB, ev_eM, ev_eTup, ev_eLst, ev_eIf, ev_tb, ev_tbB, ev_and2, ev_or2, ev_not1, ev_eCall, ev_eCallK, ev_aCons, ev_aNil, ev_eSl, ev_oNone, ev_oSome, ev_iR1, ev_iSeq, ev_yes, ev_rg1, gN_at, gT_net, gT_lane, gT_tup, gsC_cons, gsN_nil, ex_asg, startD_1, startD_2, startD_3, startD_4, List.replicate, List.getElem?_cons_zero, List.getElem?_cons_succ, List.set_cons_zero, List.set_cons_succ, Option.some.injEq, exists_eq_left', exists_eq_left, exists_eq', List.length_cons, List.length_nil, true_and, and_true, List.cons.injEq, D.int.injEq, D.bl.injEq, D.ref.injEq, D.tup.injEq, Cell.lst.injEq, ix_net0, ix_net1, ix_net2, ix_lane0, ix_lane1, ix_lane2, os_lenT, os_lenL, os_tupL, os_tupT, os_lstT, os_lstL, os_ixT, at0, at1, at2, os_eqI, os_neI, os_eqS, os_neS, os_add, os_sub, os_mul, os_lt, os_le, os_gt, os_ge, os_int, os_intB, os_inN, permL, List.filterMap_cons, List.filterMap_nil, List.nil_append, List.cons_append, wipeD, decide_eq_true_eq, at_push, itD_ref, itD_tup, itD_kl, Nat.reduceAdd, Nat.reduceLT, and_self, Nat.zero_add, if_true, if_false, Bool.false_eq_true, size2, size3, size4, size1, size0, truth_bl, itD_row, Bool.not_true, Bool.not_false, ev_iEn2, os_lenRow, os_lenN, eq_tupNil, ne_tupNil, ev_eAnd, ev_eOr, ev_eNot]
  refine still_ev ok so fun s1 k1 => ?_
  refine isfast_ev ok so fun s2 k2 => ?_
  rw [still_stuck ok so, fast_same]
  have imp := fast_stuck (N := N) (S := S)
  generalize hsa : stuckB N S = a at *
  generalize hsb : fastB N S = b at *
  have two : ∀ {s : Sto} {n : Nat}, s[n]? = some (.lst [N.enc, encRow S]) → Py s 60 (.ref n) (.list [pyNet N, pyRow S]) := fun h => (py_lst h (pys_cons ((py_net N).mono (by decide)) (pys_cons ((py_row S).mono (by decide)) (pys_nil (k := 20))))).mono (by decide)
  have tsh : Sh 100000 5 (.list [pyNet N, pyRow S]) := sh_lst (n := 40000) (m := 2) (fun p hp => by
    simp only [List.mem_cons, List.not_mem_nil, or_false] at hp
    rcases hp with rfl | rfl
    · exact ok.sh
    · exact (sh_stand ok so).mono (by decide) (by decide)) (by simp) (by decide)
  have four : ∀ {s : Sto} {n : Nat}, s[n]? = some (.lst [.bl a, .bl b, .bl a, .bl b]) → Py s 60 (.ref n) (.list [.bool a, .bool b, .bool a, .bool b]) := fun h => (py_lst h (pys_cons (py_bl a) (pys_cons (py_bl b) (pys_cons (py_bl a) (pys_cons (py_bl b) pys_nil))))).mono (by decide)
  have fsh : Sh 1000 1 (.list [.bool a, .bool b, .bool a, .bool b]) := sh_lst (n := 13) (m := 4) (fun p hp => by
    simp only [List.mem_cons, List.not_mem_nil, or_false] at hp
    rcases hp with rfl | rfl | rfl | rfl <;> exact sh_bool _) (by simp) (by decide)
  rw [os_repr (two at_push) tsh]
  have e2 : (s2 ++ [Cell.lst [D.bl a, D.bl b]] ++ [Cell.lst [N.enc, encRow S]])[s2.length]? = some (.lst [D.bl a, D.bl b]) := at_app at_push
  have k3 := (k1.trans k2).trans ((Kp.push s2 (.lst [D.bl a, D.bl b]) (fr := any)).trans (Kp.push _ (.lst [N.enc, encRow S])))
  generalize s2 ++ [Cell.lst [D.bl a, D.bl b]] ++ [Cell.lst [N.enc, encRow S]] = s3 at *
  generalize s2.length = q at *
  refine stuck_ev ok so fun s4 k4 => fast_ev ok so fun s5 k5 => stuck_ev ok so fun s6 k6 => fast_ev ok so fun s7 k7 => ?_
  have same1 : stuckB N S = a := by assumption
  have same2 : fastB N S = b := by assumption
  rw [same1, same2]
  have e7 := (((k4.trans k5).trans k6).trans k7).at e2 trivial
  rw [os_repr (four at_push) fsh]
  have e8 := at_app e7 (y := Cell.lst [.bl a, .bl b, .bl a, .bl b])
  have k8 := ((((k3.trans k4).trans k5).trans k6).trans k7).trans (Kp.push s7 (Cell.lst [.bl a, .bl b, .bl a, .bl b]) (fr := any))
  generalize s7 ++ [Cell.lst [.bl a, .bl b, .bl a, .bl b]] = s8 at *
  rw [os_addL e8 e8]
  refine ⟨by rw [sizeLine_val]; simp, ?_⟩
  rw [show ([D.bl a, D.bl b] ++ [D.bl a, D.bl b]) = [.bl a, .bl b, .bl a, .bl b] from rfl, os_repr (four at_push) fsh]
  have e9 := at_app e8 (y := Cell.lst [D.bl a, .bl b, .bl a, .bl b])
  have k9 := k8.trans (Kp.push s8 (Cell.lst [D.bl a, .bl b, .bl a, .bl b]) (fr := any))
  generalize s8 ++ [Cell.lst [D.bl a, .bl b, .bl a, .bl b]] = s9 at *
  have fin : ∀ P2 : D → Sto → Prop, (∀ s', Kp any st s' → P2 (.bl true) s') → OSat (reprO [D.ref (List.length s9)] (s9 ++ [Cell.lst [N.enc, encRow S]])) fun x_7 s => OSat (eqO x_7 (.str (PyData.shown (.list [pyNet N, pyRow S]))) s) P2 := fun P2 h => by
    rw [os_repr (two at_push) tsh, os_eqS]
    have := h _ (k9.trans (Kp.push s9 (.lst [N.enc, encRow S])))
    simpa using this
  simp only [ev_body, evs_seq, evs_asgN, evs_ret, evs_expr, evs_if, evs_pass, evs_brk, evs_cnt, evs_par2, evs_par3, ev_eVar, ev_e2, ev_e1, ev_eC, ev_eB, ev_eM, ev_eTup, ev_eLst, ev_eIf, ev_tb, ev_tbB, ev_and2, ev_or2, ev_not1, ev_eCall, ev_eCallK, ev_aCons, ev_aNil, ev_eSl, ev_oNone, ev_oSome, ev_iR1, ev_iSeq, ev_yes, ev_rg1, gN_at, gT_net, gT_lane, gT_tup, gsC_cons, gsN_nil, ex_asg, startD_1, startD_2, startD_3, startD_4, List.replicate, List.getElem?_cons_zero, List.getElem?_cons_succ, List.set_cons_zero, List.set_cons_succ, Option.some.injEq, exists_eq_left', exists_eq_left, exists_eq', List.length_cons, List.length_nil, true_and, and_true, List.cons.injEq, D.int.injEq, D.bl.injEq, D.ref.injEq, D.tup.injEq, Cell.lst.injEq, ix_net0, ix_net1, ix_net2, ix_lane0, ix_lane1, ix_lane2, os_lenT, os_lenL, os_tupL, os_tupT, os_lstT, os_lstL, os_ixT, at0, at1, at2, os_eqI, os_neI, os_eqS, os_neS, os_add, os_sub, os_mul, os_lt, os_le, os_gt, os_ge, os_int, os_intB, os_inN, permL, List.filterMap_cons, List.filterMap_nil, List.nil_append, List.cons_append, wipeD, decide_eq_true_eq, at_push, itD_ref, itD_tup, itD_kl, Nat.reduceAdd, Nat.reduceLT, and_self, Nat.zero_add, if_true, if_false, Bool.false_eq_true, size2, size3, size4, size1, size0, truth_bl, itD_row, Bool.not_true, Bool.not_false, ev_iEn2, os_lenRow, os_lenN, eq_tupNil, ne_tupNil, ev_eAnd, ev_eOr, ev_eNot, decide_true, os_ixL, e9, show atI [D.bl a, D.bl b] 0 = some (.bl a) from atI_0 rfl, show atI [D.bl a, D.bl b] 1 = some (.bl b) from atI_nat (j := 1) rfl]
  cases a with
  | true => simp only [if_true, ev_body, evs_seq, evs_asgN, evs_ret, evs_expr, evs_if, evs_pass, evs_brk, evs_cnt, evs_par2, evs_par3, ev_eVar, ev_e2, ev_e1, ev_eC, ev_eB, ev_eM, ev_eTup, ev_eLst, ev_eIf, ev_tb, ev_tbB, ev_and2, ev_or2, ev_not1, ev_eCall, ev_eCallK, ev_aCons, ev_aNil, ev_eSl, ev_oNone, ev_oSome, ev_iR1, ev_iSeq, ev_yes, ev_rg1, gN_at, gT_net, gT_lane, gT_tup, gsC_cons, gsN_nil, ex_asg, startD_1, startD_2, startD_3, startD_4, List.replicate, List.getElem?_cons_zero, List.getElem?_cons_succ, List.set_cons_zero, List.set_cons_succ, Option.some.injEq, exists_eq_left', exists_eq_left, exists_eq', List.length_cons, List.length_nil, true_and, and_true, List.cons.injEq, D.int.injEq, D.bl.injEq, D.ref.injEq, D.tup.injEq, Cell.lst.injEq, ix_net0, ix_net1, ix_net2, ix_lane0, ix_lane1, ix_lane2, os_lenT, os_lenL, os_tupL, os_tupT, os_lstT, os_lstL, os_ixT, at0, at1, at2, os_eqI, os_neI, os_eqS, os_neS, os_add, os_sub, os_mul, os_lt, os_le, os_gt, os_ge, os_int, os_intB, os_inN, permL, List.filterMap_cons, List.filterMap_nil, List.nil_append, List.cons_append, wipeD, decide_eq_true_eq, at_push, itD_ref, itD_tup, itD_kl, Nat.reduceAdd, Nat.reduceLT, and_self, Nat.zero_add, if_true, if_false, Bool.false_eq_true, size2, size3, size4, size1, size0, truth_bl, itD_row, Bool.not_true, Bool.not_false, ev_iEn2, os_lenRow, os_lenN, eq_tupNil, ne_tupNil, ev_eAnd, ev_eOr, ev_eNot]; exact fin P H
  | false =>
    cases b with
    | true => exact absurd (imp rfl) (by simp)
    | false => simp only [ev_body, evs_seq, evs_asgN, evs_ret, evs_expr, evs_if, evs_pass, evs_brk, evs_cnt, evs_par2, evs_par3, ev_eVar, ev_e2, ev_e1, ev_eC, ev_eB, ev_eM, ev_eTup, ev_eLst, ev_eIf, ev_tb, ev_tbB, ev_and2, ev_or2, ev_not1, ev_eCall, ev_eCallK, ev_aCons, ev_aNil, ev_eSl, ev_oNone, ev_oSome, ev_iR1, ev_iSeq, ev_yes, ev_rg1, gN_at, gT_net, gT_lane, gT_tup, gsC_cons, gsN_nil, ex_asg, startD_1, startD_2, startD_3, startD_4, List.replicate, List.getElem?_cons_zero, List.getElem?_cons_succ, List.set_cons_zero, List.set_cons_succ, Option.some.injEq, exists_eq_left', exists_eq_left, exists_eq', List.length_cons, List.length_nil, true_and, and_true, List.cons.injEq, D.int.injEq, D.bl.injEq, D.ref.injEq, D.tup.injEq, Cell.lst.injEq, ix_net0, ix_net1, ix_net2, ix_lane0, ix_lane1, ix_lane2, os_lenT, os_lenL, os_tupL, os_tupT, os_lstT, os_lstL, os_ixT, at0, at1, at2, os_eqI, os_neI, os_eqS, os_neS, os_add, os_sub, os_mul, os_lt, os_le, os_gt, os_ge, os_int, os_intB, os_inN, permL, List.filterMap_cons, List.filterMap_nil, List.nil_append, List.cons_append, wipeD, decide_eq_true_eq, at_push, itD_ref, itD_tup, itD_kl, Nat.reduceAdd, Nat.reduceLT, and_self, Nat.zero_add, if_true, if_false, Bool.false_eq_true, size2, size3, size4, size1, size0, truth_bl, itD_row, Bool.not_true, Bool.not_false, ev_iEn2, os_lenRow, os_lenN, eq_tupNil, ne_tupNil, ev_eAnd, ev_eOr, ev_eNot]; exact fin P H
end
end K10

namespace K10
open PySem L2 Rm
section
variable {P : D → Sto → Prop} {st s s' : Sto} {r c : Nat} {N : Net} {S : List (List Nat)}
theorem eq_rowNil : OSat (eqO (encRow S) (.tup []) s) P ↔ P (.bl (decide (S = []))) s := by
  rw [show (D.tup [] : D) = encRow [] from rfl, os_eqRow]
theorem set_ok {k : Nat} {own : List Nat} (so : StOk N S) (hk : k < S.length) (h1 : own.length ≤ (N.lane k).m) (h2 : ∀ d ∈ own, d ∈ N.aims k (N.lane k).s) : StOk N (S.take k ++ [own] ++ S.drop (k + 1)) := by
  have e : S.take k ++ [own] ++ S.drop (k + 1) = S.set k own := by rw [List.set_eq_take_append_cons_drop, if_pos hk]; simp
  rw [e]
  refine ⟨by rw [List.length_set]; exact so.len, fun j o l hj hl => ?_⟩
  by_cases h : j = k
  · subst h
    rw [List.getElem?_set_self hk] at hj
    cases hj
    rw [N.get (by rw [← so.len]; exact hk)] at hl
    cases hl
    exact ⟨h1, h2⟩
  · rw [List.getElem?_set_ne (fun q => h q.symm)] at hj
    exact so.fit j o l hj hl
theorem turned_ev (dk : Deck st r c) (ok : N.Ok) (so : StOk N S) (H : ∀ S' s', StOk N S' → Dk st r c s' → P (encRow S') s') : Ev (f_law_turned [.ref r, N.enc, encRow S] st) P := by
  have hfew := ok.few
  have hlen := so.len
  unfold f_law_turned b_law_turned
  simp only [ev_body, evs_seq, ev_eVar, ev_e2, ev_e1, ev_eC, ev_eB, ev_eM, ev_eTup, ev_eLst, ev_eIf, ev_tb, ev_tbB, ev_and2, ev_or2, ev_not1, ev_eCall, ev_eCallK, ev_aCons, ev_aNil, ev_eSl, ev_oNone, ev_oSome, ev_iR1, ev_iSeq, ev_yes, ev_rg1, gN_at, gT_net, gT_lane, gT_tup, gsC_cons, gsN_nil, ex_asg, startD_1, startD_2, startD_3, startD_4, List.replicate, List.getElem?_cons_zero, List.getElem?_cons_succ, List.set_cons_zero, List.set_cons_succ, Option.some.injEq, exists_eq_left', exists_eq_left, exists_eq', List.length_cons, List.length_nil, true_and, and_true, List.cons.injEq, D.int.injEq, D.bl.injEq, D.ref.injEq, D.tup.injEq, Cell.lst.injEq, ix_net0, ix_net1, ix_net2, ix_lane0, ix_lane1, ix_lane2, os_lenT, os_lenL, os_tupL, os_tupT, os_lstT, os_lstL, os_ixT, at0, at1, at2, os_eqI, os_neI, os_eqS, os_neS, os_add, os_sub, os_mul, os_lt, os_le, os_gt, os_ge, os_int, os_intB, os_inN, permL, List.filterMap_cons, List.filterMap_nil, List.nil_append, List.cons_append, wipeD, decide_eq_true_eq, at_push, itD_ref, itD_tup, itD_kl, Nat.reduceAdd, Nat.reduceLT, and_self, Nat.zero_add, if_true, if_false, Bool.false_eq_true, size2, size3, size4, size1, size0, truth_bl, itD_row, Bool.not_true, Bool.not_false, ev_iEn2, os_lenRow, os_lenN, eq_tupNil, ne_tupNil, ev_eAnd, ev_eOr, ev_eNot]
  rw [evs_if]
  simp only [ev_eVar, ev_e2, ev_e1, ev_eC, ev_eB, ev_eM, ev_eTup, ev_eLst, ev_eIf, ev_tb, ev_tbB, ev_and2, ev_or2, ev_not1, ev_eCall, ev_eCallK, ev_aCons, ev_aNil, ev_eSl, ev_oNone, ev_oSome, ev_iR1, ev_iSeq, ev_yes, ev_rg1, gN_at, gT_net, gT_lane, gT_tup, gsC_cons, gsN_nil, ex_asg, startD_1, startD_2, startD_3, startD_4, List.replicate, List.getElem?_cons_zero, List.getElem?_cons_succ, List.set_cons_zero, List.set_cons_succ, Option.some.injEq, exists_eq_left', exists_eq_left, exists_eq', List.length_cons, List.length_nil, true_and, and_true, List.cons.injEq, D.int.injEq, D.bl.injEq, D.ref.injEq, D.tup.injEq, Cell.lst.injEq, ix_net0, ix_net1, ix_net2, ix_lane0, ix_lane1, ix_lane2, os_lenT, os_lenL, os_tupL, os_tupT, os_lstT, os_lstL, os_ixT, at0, at1, at2, os_eqI, os_neI, os_eqS, os_neS, os_add, os_sub, os_mul, os_lt, os_le, os_gt, os_ge, os_int, os_intB, os_inN, permL, List.filterMap_cons, List.filterMap_nil, List.nil_append, List.cons_append, wipeD, decide_eq_true_eq, at_push, itD_ref, itD_tup, itD_kl, Nat.reduceAdd, Nat.reduceLT, and_self, Nat.zero_add, if_true, if_false, Bool.false_eq_true, size2, size3, size4, size1, size0, truth_bl, itD_row, Bool.not_true, Bool.not_false, ev_iEn2, os_lenRow, os_lenN, eq_tupNil, ne_tupNil, ev_eAnd, ev_eOr, ev_eNot, eq_rowNil]
  by_cases h0 : S = []
  · rw [if_pos h0]
    rw [evs_ret]
    simp only [ev_eVar, ev_e2, ev_e1, ev_eC, ev_eB, ev_eM, ev_eTup, ev_eLst, ev_eIf, ev_tb, ev_tbB, ev_and2, ev_or2, ev_not1, ev_eCall, ev_eCallK, ev_aCons, ev_aNil, ev_eSl, ev_oNone, ev_oSome, ev_iR1, ev_iSeq, ev_yes, ev_rg1, gN_at, gT_net, gT_lane, gT_tup, gsC_cons, gsN_nil, ex_asg, startD_1, startD_2, startD_3, startD_4, List.replicate, List.getElem?_cons_zero, List.getElem?_cons_succ, List.set_cons_zero, List.set_cons_succ, Option.some.injEq, exists_eq_left', exists_eq_left, exists_eq', List.length_cons, List.length_nil, true_and, and_true, List.cons.injEq, D.int.injEq, D.bl.injEq, D.ref.injEq, D.tup.injEq, Cell.lst.injEq, ix_net0, ix_net1, ix_net2, ix_lane0, ix_lane1, ix_lane2, os_lenT, os_lenL, os_tupL, os_tupT, os_lstT, os_lstL, os_ixT, at0, at1, at2, os_eqI, os_neI, os_eqS, os_neS, os_add, os_sub, os_mul, os_lt, os_le, os_gt, os_ge, os_int, os_intB, os_inN, permL, List.filterMap_cons, List.filterMap_nil, List.nil_append, List.cons_append, wipeD, decide_eq_true_eq, at_push, itD_ref, itD_tup, itD_kl, Nat.reduceAdd, Nat.reduceLT, and_self, Nat.zero_add, if_true, if_false, Bool.false_eq_true, size2, size3, size4, size1, size0, truth_bl, itD_row, Bool.not_true, Bool.not_false, ev_iEn2, os_lenRow, os_lenN, eq_tupNil, ne_tupNil, ev_eAnd, ev_eOr, ev_eNot]
    exact H S st so (Dk.refl dk)
  rw [if_neg h0]
  have hpos : 0 < S.length := List.length_pos_iff.mpr h0
  rw [evs_pass, evs_par2]
  simp only [ev_eVar, ev_e2, ev_e1, ev_eC, ev_eB, ev_eM, ev_eTup, ev_eLst, ev_eIf, ev_tb, ev_tbB, ev_and2, ev_or2, ev_not1, ev_eCall, ev_eCallK, ev_aCons, ev_aNil, ev_eSl, ev_oNone, ev_oSome, ev_iR1, ev_iSeq, ev_yes, ev_rg1, gN_at, gT_net, gT_lane, gT_tup, gsC_cons, gsN_nil, ex_asg, startD_1, startD_2, startD_3, startD_4, List.replicate, List.getElem?_cons_zero, List.getElem?_cons_succ, List.set_cons_zero, List.set_cons_succ, Option.some.injEq, exists_eq_left', exists_eq_left, exists_eq', List.length_cons, List.length_nil, true_and, and_true, List.cons.injEq, D.int.injEq, D.bl.injEq, D.ref.injEq, D.tup.injEq, Cell.lst.injEq, ix_net0, ix_net1, ix_net2, ix_lane0, ix_lane1, ix_lane2, os_lenT, os_lenL, os_tupL, os_tupT, os_lstT, os_lstL, os_ixT, at0, at1, at2, os_eqI, os_neI, os_eqS, os_neS, os_add, os_sub, os_mul, os_lt, os_le, os_gt, os_ge, os_int, os_intB, os_inN, permL, List.filterMap_cons, List.filterMap_nil, List.nil_append, List.cons_append, wipeD, decide_eq_true_eq, at_push, itD_ref, itD_tup, itD_kl, Nat.reduceAdd, Nat.reduceLT, and_self, Nat.zero_add, if_true, if_false, Bool.false_eq_true, size2, size3, size4, size1, size0, truth_bl, itD_row, Bool.not_true, Bool.not_false, ev_iEn2, os_lenRow, os_lenN, eq_tupNil, ne_tupNil, ev_eAnd, ev_eOr, ev_eNot]
  refine draw_ev' dk (by omega) (by omega) fun k s1 hk d1 => ?_
  refine draw_ev' d1.deck (by decide) (by decide) fun w s2 hw d2 => ?_
  have hkS : k < S.length := by omega
  have hkN : k < N.lanes.length := by omega
  have ln := ok.lane_ok hkN
  have fit := so.fit k _ _ (own_get hkS) (N.get hkN)
  have lr := dk.lt_r
  have lc := dk.lt_c
  rw [evs_par2]
  simp only [ev_eVar, ev_e2, ev_e1, ev_eC, ev_eB, ev_eM, ev_eTup, ev_eLst, ev_eIf, ev_tb, ev_tbB, ev_and2, ev_or2, ev_not1, ev_eCall, ev_eCallK, ev_aCons, ev_aNil, ev_eSl, ev_oNone, ev_oSome, ev_iR1, ev_iSeq, ev_yes, ev_rg1, gN_at, gT_net, gT_lane, gT_tup, gsC_cons, gsN_nil, ex_asg, startD_1, startD_2, startD_3, startD_4, List.replicate, List.getElem?_cons_zero, List.getElem?_cons_succ, List.set_cons_zero, List.set_cons_succ, Option.some.injEq, exists_eq_left', exists_eq_left, exists_eq', List.length_cons, List.length_nil, true_and, and_true, List.cons.injEq, D.int.injEq, D.bl.injEq, D.ref.injEq, D.tup.injEq, Cell.lst.injEq, ix_net0, ix_net1, ix_net2, ix_lane0, ix_lane1, ix_lane2, os_lenT, os_lenL, os_tupL, os_tupT, os_lstT, os_lstL, os_ixT, at0, at1, at2, os_eqI, os_neI, os_eqS, os_neS, os_add, os_sub, os_mul, os_lt, os_le, os_gt, os_ge, os_int, os_intB, os_inN, permL, List.filterMap_cons, List.filterMap_nil, List.nil_append, List.cons_append, wipeD, decide_eq_true_eq, at_push, itD_ref, itD_tup, itD_kl, Nat.reduceAdd, Nat.reduceLT, and_self, Nat.zero_add, if_true, if_false, Bool.false_eq_true, size2, size3, size4, size1, size0, truth_bl, itD_row, Bool.not_true, Bool.not_false, ev_iEn2, os_lenRow, os_lenN, eq_tupNil, ne_tupNil, ev_eAnd, ev_eOr, ev_eNot, ix_own hkS]
  refine served_ev ok (N.get hkN) fun s3 q k3 hq e3 => ?_
  have d3 := (d1.trans d2).kp k3
  have ql : q ≠ r ∧ q ≠ c := by have := (d1.trans d2).keep.1; omega
  generalize hA : N.aims k (N.lane k).s = A at *
  have step : ∀ {o : RS} {C1 : Rm.Env → Sto → Prop}, EvS o (fun ρ s => ∃ (own : List Nat) (t7 : Option D), ρ = [some (.ref r), some N.enc, some (encRow S), some (nat k), some (nat w), some (.tup (nats own)), some (.ref q), t7] ∧ own.length ≤ (N.lane k).m ∧ (∀ d ∈ own, d ∈ A) ∧ Dk st r c s ∧ s[q]? = some (.lst (nats A))) P no2 no2 →
    (∀ (own : List Nat) (t7 : Option D) (s : Sto), own.length ≤ (N.lane k).m → (∀ d ∈ own, d ∈ A) → Dk st r c s → s[q]? = some (.lst (nats A)) → C1 [some (.ref r), some N.enc, some (encRow S), some (nat k), some (nat w), some (.tup (nats own)), some (.ref q), t7] s) → EvS o C1 P no2 no2 := fun h1 h2 =>
    h1.mono (fun ρ s ⟨own, t7, e, a, b, d, f⟩ => by rw [e]; exact h2 own t7 s a b d f) (fun _ _ h => h) (fun _ _ h => h) fun _ _ h => h
  refine step ?_ fun own t7 s4 l4 m4 d4 e4 => ?_
  · rw [evs_if]
    simp only [ev_body, evs_seq, evs_asgN, evs_ret, evs_expr, evs_if, evs_pass, evs_brk, evs_cnt, evs_par2, evs_par3, ev_eVar, ev_e2, ev_e1, ev_eC, ev_eB, ev_eM, ev_eTup, ev_eLst, ev_eIf, ev_tb, ev_tbB, ev_and2, ev_or2, ev_not1, ev_eCall, ev_eCallK, ev_aCons, ev_aNil, ev_eSl, ev_oNone, ev_oSome, ev_iR1, ev_iSeq, ev_yes, ev_rg1, gN_at, gT_net, gT_lane, gT_tup, gsC_cons, gsN_nil, ex_asg, startD_1, startD_2, startD_3, startD_4, List.replicate, List.getElem?_cons_zero, List.getElem?_cons_succ, List.set_cons_zero, List.set_cons_succ, Option.some.injEq, exists_eq_left', exists_eq_left, exists_eq', List.length_cons, List.length_nil, true_and, and_true, List.cons.injEq, D.int.injEq, D.bl.injEq, D.ref.injEq, D.tup.injEq, Cell.lst.injEq, ix_net0, ix_net1, ix_net2, ix_lane0, ix_lane1, ix_lane2, os_lenT, os_lenL, os_tupL, os_tupT, os_lstT, os_lstL, os_ixT, at0, at1, at2, os_eqI, os_neI, os_eqS, os_neS, os_add, os_sub, os_mul, os_lt, os_le, os_gt, os_ge, os_int, os_intB, os_inN, permL, List.filterMap_cons, List.filterMap_nil, List.nil_append, List.cons_append, wipeD, decide_eq_true_eq, at_push, itD_ref, itD_tup, itD_kl, Nat.reduceAdd, Nat.reduceLT, and_self, Nat.zero_add, if_true, if_false, Bool.false_eq_true, size2, size3, size4, size1, size0, truth_bl, itD_row, Bool.not_true, Bool.not_false, ev_iEn2, os_lenRow, os_lenN, eq_tupNil, ne_tupNil, ev_eAnd, ev_eOr, ev_eNot, eq_natB, os_slT, show (0 : Int) = ((0 : Nat) : Int) from rfl]
    by_cases h : w = 0
    · rw [if_pos h, show cutD (nats (ownOf S k)) (some 1) none = nats ((ownOf S k).drop 1) by rw [show (1 : Int) = ((1 : Nat) : Int) from rfl, cut_drop]; simp [nats]]
      exact ⟨(ownOf S k).drop 1, rfl, by rw [List.length_drop]; omega, fun d hd => fit.2 d (List.mem_of_mem_drop hd), d3, e3⟩
    · rw [if_neg h]
      exact ⟨ownOf S k, rfl, fit.1, fit.2, d3, e3⟩
  refine step ?_ fun own t7 s5 l5 m5 d5 e5 => ?_
  · have stay : ∃ (own' : List Nat) (t7' : Option D), [some (D.ref r), some N.enc, some (encRow S), some (nat k), some (nat w), some (D.tup (nats own)), some (D.ref q), t7] = [some (.ref r), some N.enc, some (encRow S), some (nat k), some (nat w), some (.tup (nats own')), some (.ref q), t7'] ∧ own'.length ≤ (N.lane k).m ∧ (∀ d ∈ own', d ∈ A) ∧ Dk st r c s4 ∧ s4[q]? = some (.lst (nats A)) := ⟨own, t7, rfl, l4, m4, d4, e4⟩
    rw [evs_if]
    simp only [ev_eVar, ev_e2, ev_e1, ev_eC, ev_eB, ev_eM, ev_eTup, ev_eLst, ev_eIf, ev_tb, ev_tbB, ev_and2, ev_or2, ev_not1, ev_eCall, ev_eCallK, ev_aCons, ev_aNil, ev_eSl, ev_oNone, ev_oSome, ev_iR1, ev_iSeq, ev_yes, ev_rg1, gN_at, gT_net, gT_lane, gT_tup, gsC_cons, gsN_nil, ex_asg, startD_1, startD_2, startD_3, startD_4, List.replicate, List.getElem?_cons_zero, List.getElem?_cons_succ, List.set_cons_zero, List.set_cons_succ, Option.some.injEq, exists_eq_left', exists_eq_left, exists_eq', List.length_cons, List.length_nil, true_and, and_true, List.cons.injEq, D.int.injEq, D.bl.injEq, D.ref.injEq, D.tup.injEq, Cell.lst.injEq, ix_net0, ix_net1, ix_net2, ix_lane0, ix_lane1, ix_lane2, os_lenT, os_lenL, os_tupL, os_tupT, os_lstT, os_lstL, os_ixT, at0, at1, at2, os_eqI, os_neI, os_eqS, os_neS, os_add, os_sub, os_mul, os_lt, os_le, os_gt, os_ge, os_int, os_intB, os_inN, permL, List.filterMap_cons, List.filterMap_nil, List.nil_append, List.cons_append, wipeD, decide_eq_true_eq, at_push, itD_ref, itD_tup, itD_kl, Nat.reduceAdd, Nat.reduceLT, and_self, Nat.zero_add, if_true, if_false, Bool.false_eq_true, size2, size3, size4, size1, size0, truth_bl, itD_row, Bool.not_true, Bool.not_false, ev_iEn2, os_lenRow, os_lenN, eq_tupNil, ne_tupNil, ev_eAnd, ev_eOr, ev_eNot, at_lanes hkN, os_inNL e4]
    split
    · split
      · rename_i hmem
        split
        · rename_i hne
          have hne : own ≠ [] := by simpa using hne
          have hpo : 0 < own.length := List.length_pos_iff.mpr hne
          have hm4 := ln.2.2.2.2
          rw [evs_seq, evs_asgN]
          simp only [ev_eVar, ev_e2, ev_e1, ev_eC, ev_eB, ev_eM, ev_eTup, ev_eLst, ev_eIf, ev_tb, ev_tbB, ev_and2, ev_or2, ev_not1, ev_eCall, ev_eCallK, ev_aCons, ev_aNil, ev_eSl, ev_oNone, ev_oSome, ev_iR1, ev_iSeq, ev_yes, ev_rg1, gN_at, gT_net, gT_lane, gT_tup, gsC_cons, gsN_nil, ex_asg, startD_1, startD_2, startD_3, startD_4, List.replicate, List.getElem?_cons_zero, List.getElem?_cons_succ, List.set_cons_zero, List.set_cons_succ, Option.some.injEq, exists_eq_left', exists_eq_left, exists_eq', List.length_cons, List.length_nil, true_and, and_true, List.cons.injEq, D.int.injEq, D.bl.injEq, D.ref.injEq, D.tup.injEq, Cell.lst.injEq, ix_net0, ix_net1, ix_net2, ix_lane0, ix_lane1, ix_lane2, os_lenT, os_lenL, os_tupL, os_tupT, os_lstT, os_lstL, os_ixT, at0, at1, at2, os_eqI, os_neI, os_eqS, os_neS, os_add, os_sub, os_mul, os_lt, os_le, os_gt, os_ge, os_int, os_intB, os_inN, permL, List.filterMap_cons, List.filterMap_nil, List.nil_append, List.cons_append, wipeD, decide_eq_true_eq, at_push, itD_ref, itD_tup, itD_kl, Nat.reduceAdd, Nat.reduceLT, and_self, Nat.zero_add, if_true, if_false, Bool.false_eq_true, size2, size3, size4, size1, size0, truth_bl, itD_row, Bool.not_true, Bool.not_false, ev_iEn2, os_lenRow, os_lenN, eq_tupNil, ne_tupNil, ev_eAnd, ev_eOr, ev_eNot]
          refine draw_ev' d4.deck (by simp [nats]; omega) (by simp [nats]; omega) fun x s6 hx d6 => ?_
          rw [evs_asgN]
          simp only [ev_eVar, ev_e2, ev_e1, ev_eC, ev_eB, ev_eM, ev_eTup, ev_eLst, ev_eIf, ev_tb, ev_tbB, ev_and2, ev_or2, ev_not1, ev_eCall, ev_eCallK, ev_aCons, ev_aNil, ev_eSl, ev_oNone, ev_oSome, ev_iR1, ev_iSeq, ev_yes, ev_rg1, gN_at, gT_net, gT_lane, gT_tup, gsC_cons, gsN_nil, ex_asg, startD_1, startD_2, startD_3, startD_4, List.replicate, List.getElem?_cons_zero, List.getElem?_cons_succ, List.set_cons_zero, List.set_cons_succ, Option.some.injEq, exists_eq_left', exists_eq_left, exists_eq', List.length_cons, List.length_nil, true_and, and_true, List.cons.injEq, D.int.injEq, D.bl.injEq, D.ref.injEq, D.tup.injEq, Cell.lst.injEq, ix_net0, ix_net1, ix_net2, ix_lane0, ix_lane1, ix_lane2, os_lenT, os_lenL, os_tupL, os_tupT, os_lstT, os_lstL, os_ixT, at0, at1, at2, os_eqI, os_neI, os_eqS, os_neS, os_add, os_sub, os_mul, os_lt, os_le, os_gt, os_ge, os_int, os_intB, os_inN, permL, List.filterMap_cons, List.filterMap_nil, List.nil_append, List.cons_append, wipeD, decide_eq_true_eq, at_push, itD_ref, itD_tup, itD_kl, Nat.reduceAdd, Nat.reduceLT, and_self, Nat.zero_add, if_true, if_false, Bool.false_eq_true, size2, size3, size4, size1, size0, truth_bl, itD_row, Bool.not_true, Bool.not_false, ev_iEn2, os_lenRow, os_lenN, eq_tupNil, ne_tupNil, ev_eAnd, ev_eOr, ev_eNot, at_lanes hkN, os_slT, os_addT]
          have hx' : x < own.length := by simp [nats] at hx; omega
          have e1 : cutD (nats own) none (some (x : Int)) = nats (own.take x) := by rw [cut_take]; simp [nats]
          have e2 : cutD (nats own) (some ((x : Int) + 1)) none = nats (own.drop (x + 1)) := by rw [show ((x : Int) + 1) = ((x + 1 : Nat) : Int) by omega, cut_drop]; simp [nats]
          rw [e1, e2]
          have ll : (own.take x ++ [(N.lane k).e] ++ own.drop (x + 1)).length = own.length := by simp; omega
          have ee : nats (own.take x) ++ [nat (N.lane k).e] ++ nats (own.drop (x + 1)) = nats (own.take x ++ [(N.lane k).e] ++ own.drop (x + 1)) := by simp [nats]
          have sz : own.length ≤ 4 := by omega
          refine ⟨by rw [sizeLine_val]; simp [nats]; omega, by rw [sizeLine_val]; simp [nats]; omega, ?_⟩
          rw [ee]
          refine ⟨own.take x ++ [(N.lane k).e] ++ own.drop (x + 1), rfl, by rw [ll]; exact l4, fun d hd => ?_, d4.trans d6, d6.at e4 ql.1 ql.2⟩
          rcases List.mem_append.mp hd with hd | hd
          · rcases List.mem_append.mp hd with hd | hd
            · exact m4 d (List.mem_of_mem_take hd)
            · have : d = (N.lane k).e := by simpa using hd
              rw [this]; exact hmem
          · exact m4 d (List.mem_of_mem_drop hd)
        · rw [evs_pass]; exact stay
      · rw [evs_pass]; exact stay
    · rw [evs_pass]; exact stay
  refine step ?_ fun own t7 s6 l6 m6 d6 e6 => ?_
  · rw [evs_if]
    simp only [ev_eVar, ev_e2, ev_e1, ev_eC, ev_eB, ev_eM, ev_eTup, ev_eLst, ev_eIf, ev_tb, ev_tbB, ev_and2, ev_or2, ev_not1, ev_eCall, ev_eCallK, ev_aCons, ev_aNil, ev_eSl, ev_oNone, ev_oSome, ev_iR1, ev_iSeq, ev_yes, ev_rg1, gN_at, gT_net, gT_lane, gT_tup, gsC_cons, gsN_nil, ex_asg, startD_1, startD_2, startD_3, startD_4, List.replicate, List.getElem?_cons_zero, List.getElem?_cons_succ, List.set_cons_zero, List.set_cons_succ, Option.some.injEq, exists_eq_left', exists_eq_left, exists_eq', List.length_cons, List.length_nil, true_and, and_true, List.cons.injEq, D.int.injEq, D.bl.injEq, D.ref.injEq, D.tup.injEq, Cell.lst.injEq, ix_net0, ix_net1, ix_net2, ix_lane0, ix_lane1, ix_lane2, os_lenT, os_lenL, os_tupL, os_tupT, os_lstT, os_lstL, os_ixT, at0, at1, at2, os_eqI, os_neI, os_eqS, os_neS, os_add, os_sub, os_mul, os_lt, os_le, os_gt, os_ge, os_int, os_intB, os_inN, permL, List.filterMap_cons, List.filterMap_nil, List.nil_append, List.cons_append, wipeD, decide_eq_true_eq, at_push, itD_ref, itD_tup, itD_kl, Nat.reduceAdd, Nat.reduceLT, and_self, Nat.zero_add, if_true, if_false, Bool.false_eq_true, size2, size3, size4, size1, size0, truth_bl, itD_row, Bool.not_true, Bool.not_false, ev_iEn2, os_lenRow, os_lenN, eq_tupNil, ne_tupNil, ev_eAnd, ev_eOr, ev_eNot]
    split
    · rw [evs_asgN]
      simp only [ev_eVar, ev_e2, ev_e1, ev_eC, ev_eB, ev_eM, ev_eTup, ev_eLst, ev_eIf, ev_tb, ev_tbB, ev_and2, ev_or2, ev_not1, ev_eCall, ev_eCallK, ev_aCons, ev_aNil, ev_eSl, ev_oNone, ev_oSome, ev_iR1, ev_iSeq, ev_yes, ev_rg1, gN_at, gT_net, gT_lane, gT_tup, gsC_cons, gsN_nil, ex_asg, startD_1, startD_2, startD_3, startD_4, List.replicate, List.getElem?_cons_zero, List.getElem?_cons_succ, List.set_cons_zero, List.set_cons_succ, Option.some.injEq, exists_eq_left', exists_eq_left, exists_eq', List.length_cons, List.length_nil, true_and, and_true, List.cons.injEq, D.int.injEq, D.bl.injEq, D.ref.injEq, D.tup.injEq, Cell.lst.injEq, ix_net0, ix_net1, ix_net2, ix_lane0, ix_lane1, ix_lane2, os_lenT, os_lenL, os_tupL, os_tupT, os_lstT, os_lstL, os_ixT, at0, at1, at2, os_eqI, os_neI, os_eqS, os_neS, os_add, os_sub, os_mul, os_lt, os_le, os_gt, os_ge, os_int, os_intB, os_inN, permL, List.filterMap_cons, List.filterMap_nil, List.nil_append, List.cons_append, wipeD, decide_eq_true_eq, at_push, itD_ref, itD_tup, itD_kl, Nat.reduceAdd, Nat.reduceLT, and_self, Nat.zero_add, if_true, if_false, Bool.false_eq_true, size2, size3, size4, size1, size0, truth_bl, itD_row, Bool.not_true, Bool.not_false, ev_iEn2, os_lenRow, os_lenN, eq_tupNil, ne_tupNil, ev_eAnd, ev_eOr, ev_eNot, ev_e1, show ∀ (ds : List D) (s : Sto) (Q : D → Sto → Prop), OSat (revD (.tup ds) s) Q ↔ Q (.tup ds.reverse) s from fun _ _ _ => Iff.rfl]
      refine ⟨own.reverse, by simp [nats], by simpa using l5, fun d hd => m5 d (by simpa using hd), d5, e5⟩
    · rw [evs_pass]
      exact ⟨own, _, rfl, l5, m5, d5, e5⟩
  rw [evs_ret]
  have e1 : cutD (S.map fun e => D.tup (nats e)) none (some (k : Int)) = (S.take k).map fun e => D.tup (nats e) := by rw [cut_take]; simp
  have e2 : cutD (S.map fun e => D.tup (nats e)) (some ((k : Int) + 1)) none = (S.drop (k + 1)).map fun e => D.tup (nats e) := by rw [show ((k : Int) + 1) = ((k + 1 : Nat) : Int) by omega, cut_drop]; simp
  have ee : (S.take k).map (fun e => D.tup (nats e)) ++ [D.tup (nats own)] ++ (S.drop (k + 1)).map (fun e => D.tup (nats e)) = (S.take k ++ [own] ++ S.drop (k + 1)).map fun e => D.tup (nats e) := by simp
  simp only [ev_eVar, ev_e2, ev_e1, ev_eC, ev_eB, ev_eM, ev_eTup, ev_eLst, ev_eIf, ev_tb, ev_tbB, ev_and2, ev_or2, ev_not1, ev_eCall, ev_eCallK, ev_aCons, ev_aNil, ev_eSl, ev_oNone, ev_oSome, ev_iR1, ev_iSeq, ev_yes, ev_rg1, gN_at, gT_net, gT_lane, gT_tup, gsC_cons, gsN_nil, ex_asg, startD_1, startD_2, startD_3, startD_4, List.replicate, List.getElem?_cons_zero, List.getElem?_cons_succ, List.set_cons_zero, List.set_cons_succ, Option.some.injEq, exists_eq_left', exists_eq_left, exists_eq', List.length_cons, List.length_nil, true_and, and_true, List.cons.injEq, D.int.injEq, D.bl.injEq, D.ref.injEq, D.tup.injEq, Cell.lst.injEq, ix_net0, ix_net1, ix_net2, ix_lane0, ix_lane1, ix_lane2, os_lenT, os_lenL, os_tupL, os_tupT, os_lstT, os_lstL, os_ixT, at0, at1, at2, os_eqI, os_neI, os_eqS, os_neS, os_add, os_sub, os_mul, os_lt, os_le, os_gt, os_ge, os_int, os_intB, os_inN, permL, List.filterMap_cons, List.filterMap_nil, List.nil_append, List.cons_append, wipeD, decide_eq_true_eq, at_push, itD_ref, itD_tup, itD_kl, Nat.reduceAdd, Nat.reduceLT, and_self, Nat.zero_add, if_true, if_false, Bool.false_eq_true, size2, size3, size4, size1, size0, truth_bl, itD_row, Bool.not_true, Bool.not_false, ev_iEn2, os_lenRow, os_lenN, eq_tupNil, ne_tupNil, ev_eAnd, ev_eOr, ev_eNot, encRow, os_slT, os_addT, e1, e2]
  refine ⟨by rw [sizeLine_val]; simp; omega, by rw [sizeLine_val]; simp; omega, ?_⟩
  rw [ee]
  exact H _ s6 (set_ok so hkS l6 (by rw [hA]; exact m6)) d6
end
end K10

namespace K10
open PySem L2 Rm
section
variable {P : D → Sto → Prop} {st s s' : Sto} {r c : Nat} {N : Net} {S : List (List Nat)}
/-- numbered lanes, by their numbers -/
def encI (L : List Lane) (i : Nat) : D := .tup [nat i, (L.getD i ⟨0, 0, 0⟩).enc]
theorem en_lanes {L : List Lane} {chk : Sto → Prop} : (enumD ⟨L.map Lane.enc, chk⟩).items = (List.range L.length).map (encI L) := by
  refine List.ext_getElem? fun i => ?_
  by_cases h : i < L.length
  · rw [enum_get (d := (L[i]).enc) (by simp [h])]
    simp [h, encI, List.getD_eq_getElem?_getD]
  · simp [enumD, h]
def mineOf (L : List Lane) (u : Nat) : List Nat := (List.range L.length).filter fun i => decide ((L.getD i ⟨0, 0, 0⟩).s = u)
theorem mine_ok {L : List Lane} {u : Nat} : EntOk L u (mineOf L u) := by
  refine ⟨(List.pairwise_lt_range (n := L.length)).filter _, fun k hk => ?_⟩
  obtain ⟨h1, h2⟩ := List.mem_filter.mp hk
  have hk' := List.mem_range.mp h1
  refine ⟨L[k], List.getElem?_eq_getElem hk', ?_⟩
  have := of_decide_eq_true h2
  rw [List.getD_eq_getElem?_getD, List.getElem?_eq_getElem hk'] at this
  exact this
theorem ent_sub {L : List Lane} {u : Nat} {e e' : List Nat} (h : EntOk L u e) (hs : e'.Sublist e) : EntOk L u e' := ⟨h.1.sublist hs, fun k hk => h.2 k (hs.subset hk)⟩
theorem ent_nil {L : List Lane} {u : Nat} : EntOk L u [] := ⟨List.Pairwise.nil, fun _ h => by cases h⟩
theorem a2get {α β : Type} {Y : α → β → Prop} : ∀ {as : List α} {bs : List β} {i : Nat} {a : α} {b : β}, All2 Y as bs → as[i]? = some a → bs[i]? = some b → Y a b
  | _, _, i, _, _, .nil, h, _ => by simp at h
  | _, _, 0, _, _, .cons h _, h1, h2 => by
    rw [List.getElem?_cons_zero, Option.some.injEq] at h1 h2
    rw [← h1, ← h2]; exact h
  | _, _, i + 1, _, _, .cons _ t, h1, h2 => a2get t (by simpa using h1) (by simpa using h2)
theorem ring_of {h : Nat} : ∀ {us : List Nat} {ys : List D}, All2 (fun u y => ∃ m, y = (⟨u, (u + 1) % h, m⟩ : Lane).enc ∧ 1 ≤ m ∧ m ≤ 4) us ys → ∃ L : List Lane, ys = L.map Lane.enc ∧ All2 (fun u (l : Lane) => l.s = u ∧ l.e = (u + 1) % h ∧ 1 ≤ l.m ∧ l.m ≤ 4) us L
  | _, _, .nil => ⟨[], rfl, .nil⟩
  | _, _, .cons ⟨m, e, h1, h2⟩ t => by
    obtain ⟨L, rfl, hL⟩ := ring_of t
    exact ⟨_ :: L, by rw [e]; rfl, .cons ⟨rfl, rfl, h1, h2⟩ hL⟩
theorem cut_sub (m : List Nat) (lo hi : Option Int) : ∃ e, cutD (nats m) lo hi = nats e ∧ e.Sublist m := by
  refine ⟨Rm.cutD m lo hi, ?_, ?_⟩
  · simp [Rm.cutD, nats]
  · unfold Rm.cutD; exact (List.take_sublist _ _).trans (List.drop_sublist _ _)
theorem round_ev (dk : Deck st r c) (H : ∀ (N : Net) s', N.Ok → Dk st r c s' → P N.enc s') : Ev (f_law_round [.ref r] st) P := by
  have lr := dk.lt_r
  have lc := dk.lt_c
  unfold f_law_round b_law_round
  simp only [ev_body, evs_seq, ev_eVar, ev_e2, ev_e1, ev_eC, ev_eB, ev_eM, ev_eTup, ev_eLst, ev_eIf, ev_tb, ev_tbB, ev_and2, ev_or2, ev_not1, ev_eCall, ev_eCallK, ev_aCons, ev_aNil, ev_eSl, ev_oNone, ev_oSome, ev_iR1, ev_iSeq, ev_yes, ev_rg1, gN_at, gT_net, gT_lane, gT_tup, gsC_cons, gsN_nil, ex_asg, startD_1, startD_2, startD_3, startD_4, List.replicate, List.getElem?_cons_zero, List.getElem?_cons_succ, List.set_cons_zero, List.set_cons_succ, Option.some.injEq, exists_eq_left', exists_eq_left, exists_eq', List.length_cons, List.length_nil, true_and, and_true, List.cons.injEq, D.int.injEq, D.bl.injEq, D.ref.injEq, D.tup.injEq, Cell.lst.injEq, ix_net0, ix_net1, ix_net2, ix_lane0, ix_lane1, ix_lane2, os_lenT, os_lenL, os_tupL, os_tupT, os_lstT, os_lstL, os_ixT, at0, at1, at2, os_eqI, os_neI, os_eqS, os_neS, os_add, os_sub, os_mul, os_lt, os_le, os_gt, os_ge, os_int, os_intB, os_inN, permL, List.filterMap_cons, List.filterMap_nil, List.nil_append, List.cons_append, wipeD, decide_eq_true_eq, at_push, itD_ref, itD_tup, itD_kl, Nat.reduceAdd, Nat.reduceLT, and_self, Nat.zero_add, if_true, if_false, Bool.false_eq_true, size2, size3, size4, size1, size0, truth_bl, itD_row, Bool.not_true, Bool.not_false, ev_iEn2, os_lenRow, os_lenN, eq_tupNil, ne_tupNil, ev_eAnd, ev_eOr, ev_eNot]
  rw [evs_asgN]
  simp only [ev_eVar, ev_e2, ev_e1, ev_eC, ev_eB, ev_eM, ev_eTup, ev_eLst, ev_eIf, ev_tb, ev_tbB, ev_and2, ev_or2, ev_not1, ev_eCall, ev_eCallK, ev_aCons, ev_aNil, ev_eSl, ev_oNone, ev_oSome, ev_iR1, ev_iSeq, ev_yes, ev_rg1, gN_at, gT_net, gT_lane, gT_tup, gsC_cons, gsN_nil, ex_asg, startD_1, startD_2, startD_3, startD_4, List.replicate, List.getElem?_cons_zero, List.getElem?_cons_succ, List.set_cons_zero, List.set_cons_succ, Option.some.injEq, exists_eq_left', exists_eq_left, exists_eq', List.length_cons, List.length_nil, true_and, and_true, List.cons.injEq, D.int.injEq, D.bl.injEq, D.ref.injEq, D.tup.injEq, Cell.lst.injEq, ix_net0, ix_net1, ix_net2, ix_lane0, ix_lane1, ix_lane2, os_lenT, os_lenL, os_tupL, os_tupT, os_lstT, os_lstL, os_ixT, at0, at1, at2, os_eqI, os_neI, os_eqS, os_neS, os_add, os_sub, os_mul, os_lt, os_le, os_gt, os_ge, os_int, os_intB, os_inN, permL, List.filterMap_cons, List.filterMap_nil, List.nil_append, List.cons_append, wipeD, decide_eq_true_eq, at_push, itD_ref, itD_tup, itD_kl, Nat.reduceAdd, Nat.reduceLT, and_self, Nat.zero_add, if_true, if_false, Bool.false_eq_true, size2, size3, size4, size1, size0, truth_bl, itD_row, Bool.not_true, Bool.not_false, ev_iEn2, os_lenRow, os_lenN, eq_tupNil, ne_tupNil, ev_eAnd, ev_eOr, ev_eNot]
  refine draw_ev' dk (by decide) (by decide) fun x s1 hx d1 => ?_
  simp only [ev_eVar, ev_e2, ev_e1, ev_eC, ev_eB, ev_eM, ev_eTup, ev_eLst, ev_eIf, ev_tb, ev_tbB, ev_and2, ev_or2, ev_not1, ev_eCall, ev_eCallK, ev_aCons, ev_aNil, ev_eSl, ev_oNone, ev_oSome, ev_iR1, ev_iSeq, ev_yes, ev_rg1, gN_at, gT_net, gT_lane, gT_tup, gsC_cons, gsN_nil, ex_asg, startD_1, startD_2, startD_3, startD_4, List.replicate, List.getElem?_cons_zero, List.getElem?_cons_succ, List.set_cons_zero, List.set_cons_succ, Option.some.injEq, exists_eq_left', exists_eq_left, exists_eq', List.length_cons, List.length_nil, true_and, and_true, List.cons.injEq, D.int.injEq, D.bl.injEq, D.ref.injEq, D.tup.injEq, Cell.lst.injEq, ix_net0, ix_net1, ix_net2, ix_lane0, ix_lane1, ix_lane2, os_lenT, os_lenL, os_tupL, os_tupT, os_lstT, os_lstL, os_ixT, at0, at1, at2, os_eqI, os_neI, os_eqS, os_neS, os_add, os_sub, os_mul, os_lt, os_le, os_gt, os_ge, os_int, os_intB, os_inN, permL, List.filterMap_cons, List.filterMap_nil, List.nil_append, List.cons_append, wipeD, decide_eq_true_eq, at_push, itD_ref, itD_tup, itD_kl, Nat.reduceAdd, Nat.reduceLT, and_self, Nat.zero_add, if_true, if_false, Bool.false_eq_true, size2, size3, size4, size1, size0, truth_bl, itD_row, Bool.not_true, Bool.not_false, ev_iEn2, os_lenRow, os_lenN, eq_tupNil, ne_tupNil, ev_eAnd, ev_eOr, ev_eNot]
  generalize hh : x + 2 = h
  rw [show ((2 : Int) + (x : Int)) = (h : Int) by omega]
  have h2 : 2 ≤ h := by omega
  have h5 : h ≤ 5 := by omega
  rw [evs_asgN]
  refine ev_lcM (List.range h) nat ?_
  simp only [ev_eVar, ev_e2, ev_e1, ev_eC, ev_eB, ev_eM, ev_eTup, ev_eLst, ev_eIf, ev_tb, ev_tbB, ev_and2, ev_or2, ev_not1, ev_eCall, ev_eCallK, ev_aCons, ev_aNil, ev_eSl, ev_oNone, ev_oSome, ev_iR1, ev_iSeq, ev_yes, ev_rg1, gN_at, gT_net, gT_lane, gT_tup, gsC_cons, gsN_nil, ex_asg, startD_1, startD_2, startD_3, startD_4, List.replicate, List.getElem?_cons_zero, List.getElem?_cons_succ, List.set_cons_zero, List.set_cons_succ, Option.some.injEq, exists_eq_left', exists_eq_left, exists_eq', List.length_cons, List.length_nil, true_and, and_true, List.cons.injEq, D.int.injEq, D.bl.injEq, D.ref.injEq, D.tup.injEq, Cell.lst.injEq, ix_net0, ix_net1, ix_net2, ix_lane0, ix_lane1, ix_lane2, os_lenT, os_lenL, os_tupL, os_tupT, os_lstT, os_lstL, os_ixT, at0, at1, at2, os_eqI, os_neI, os_eqS, os_neS, os_add, os_sub, os_mul, os_lt, os_le, os_gt, os_ge, os_int, os_intB, os_inN, permL, List.filterMap_cons, List.filterMap_nil, List.nil_append, List.cons_append, wipeD, decide_eq_true_eq, at_push, itD_ref, itD_tup, itD_kl, Nat.reduceAdd, Nat.reduceLT, and_self, Nat.zero_add, if_true, if_false, Bool.false_eq_true, size2, size3, size4, size1, size0, truth_bl, itD_row, Bool.not_true, Bool.not_false, ev_iEn2, os_lenRow, os_lenN, eq_tupNil, ne_tupNil, ev_eAnd, ev_eOr, ev_eNot]
  refine ⟨by omega, fun s => Dk s1 r c s, fun _ => true, fun u y => ∃ m, y = (⟨u, (u + 1) % h, m⟩ : Lane).enc ∧ 1 ≤ m ∧ m ≤ 4, rng_items h, Dk.refl d1.deck, by simp; omega, fun _ _ => trivial, ?_, ?_⟩
  · intro u hu s2 d2
    refine ⟨d2, rfl, fun _ => ?_⟩
    simp only [os_mod]
    refine ⟨by omega, ?_⟩
    rw [show [D.int 1, .int 1, .int 2, .int 3] = nats [1, 1, 2, 3] from rfl]
    refine pick_room (N := 0) d2.deck (by simp) (by simp) (by decide) fun m s3 hm1 hm4 d3 => ?_
    refine ⟨d2.trans d3, m, ?_, hm1, hm4⟩
    simp [Lane.enc, nat]
  intro ys s2 d2 hA
  rw [filter_true] at hA
  obtain ⟨L0, rfl, hA0⟩ := ring_of hA
  have len0 : L0.length = h := by have := hA0.length; simpa using this.symm
  have d12 := d1.trans d2
  have ok0 : ∀ l ∈ L0, LaneOk h l := fun l hl => by
    obtain ⟨i, hi⟩ := List.mem_iff_getElem?.mp hl
    have hi' : i < h := by rw [← len0]; exact (List.getElem?_eq_some_iff.mp hi).1
    obtain ⟨e1, e2, e3, e4⟩ := a2get (i := i) (a := i) hA0 (by simp [hi']) hi
    refine ⟨by omega, by rw [e2]; exact Nat.mod_lt _ (by omega), ?_, e3, e4⟩
    rw [e1, e2]
    by_cases hlt : i + 1 < h
    · rw [Nat.mod_eq_of_lt hlt]; omega
    · rw [show i + 1 = h by omega, Nat.mod_self]; omega
  have own0 : ∀ i, i < h → ∃ l, L0[i]? = some l ∧ l.s = i := fun i hi => by
    have hi' : i < L0.length := by omega
    exact ⟨L0[i], List.getElem?_eq_getElem hi', (a2get (i := i) (a := i) hA0 (by simp [hi]) (List.getElem?_eq_getElem hi')).1⟩
  have e2 : (s2 ++ [Cell.lst (L0.map Lane.enc)])[s2.length]? = some (.lst (L0.map Lane.enc)) := at_push
  have hq : st.length ≤ s2.length := d12.keep.1
  have d3 := d12.push (.lst (L0.map Lane.enc))
  generalize ha : s2.length = a at *
  generalize s2 ++ [Cell.lst (L0.map Lane.enc)] = s3 at *
  refine evs_for ?_
  simp only [ev_eVar, ev_e2, ev_e1, ev_eC, ev_eB, ev_eM, ev_eTup, ev_eLst, ev_eIf, ev_tb, ev_tbB, ev_and2, ev_or2, ev_not1, ev_eCall, ev_eCallK, ev_aCons, ev_aNil, ev_eSl, ev_oNone, ev_oSome, ev_iR1, ev_iSeq, ev_yes, ev_rg1, gN_at, gT_net, gT_lane, gT_tup, gsC_cons, gsN_nil, ex_asg, startD_1, startD_2, startD_3, startD_4, List.replicate, List.getElem?_cons_zero, List.getElem?_cons_succ, List.set_cons_zero, List.set_cons_succ, Option.some.injEq, exists_eq_left', exists_eq_left, exists_eq', List.length_cons, List.length_nil, true_and, and_true, List.cons.injEq, D.int.injEq, D.bl.injEq, D.ref.injEq, D.tup.injEq, Cell.lst.injEq, ix_net0, ix_net1, ix_net2, ix_lane0, ix_lane1, ix_lane2, os_lenT, os_lenL, os_tupL, os_tupT, os_lstT, os_lstL, os_ixT, at0, at1, at2, os_eqI, os_neI, os_eqS, os_neS, os_add, os_sub, os_mul, os_lt, os_le, os_gt, os_ge, os_int, os_intB, os_inN, permL, List.filterMap_cons, List.filterMap_nil, List.nil_append, List.cons_append, wipeD, decide_eq_true_eq, at_push, itD_ref, itD_tup, itD_kl, Nat.reduceAdd, Nat.reduceLT, and_self, Nat.zero_add, if_true, if_false, Bool.false_eq_true, size2, size3, size4, size1, size0, truth_bl, itD_row, Bool.not_true, Bool.not_false, ev_iEn2, os_lenRow, os_lenN, eq_tupNil, ne_tupNil, ev_eAnd, ev_eOr, ev_eNot]
  refine draw_ev' d3.deck (by decide) (by decide) fun n s4 hn d4 => ?_
  have e4 := d4.at e2 (by omega) (by omega)
  have d34 := d3.trans d4
  refine ⟨(n : Int), rfl, by omega, fun i ρ s => ∃ (L : List Lane) (t3 t4 : Option D), ρ = [some (.ref r), some (.int (h : Int)), some (.ref a), t3, t4, none, none, none, none, none, none, none] ∧ s[a]? = some (.lst (L.map Lane.enc)) ∧ (∀ l ∈ L, LaneOk h l) ∧ (∀ i, i < h → ∃ l, L[i]? = some l ∧ l.s = i) ∧ L.length ≤ h + i ∧ Dk st r c s, ⟨L0, none, none, rfl, e4, ok0, own0, by omega, d34⟩, ?_, ?_⟩
  · rintro i d ρ1 s5 hd ⟨L, t3, t4, rfl, e5, okL, ownL, lenL, d5⟩
    obtain ⟨rfl, hi⟩ := rng_at hd
    refine ⟨trivial, ?_⟩
    simp only [evs_seq, ev_eVar, ev_e2, ev_e1, ev_eC, ev_eB, ev_eM, ev_eTup, ev_eLst, ev_eIf, ev_tb, ev_tbB, ev_and2, ev_or2, ev_not1, ev_eCall, ev_eCallK, ev_aCons, ev_aNil, ev_eSl, ev_oNone, ev_oSome, ev_iR1, ev_iSeq, ev_yes, ev_rg1, gN_at, gT_net, gT_lane, gT_tup, gsC_cons, gsN_nil, ex_asg, startD_1, startD_2, startD_3, startD_4, List.replicate, List.getElem?_cons_zero, List.getElem?_cons_succ, List.set_cons_zero, List.set_cons_succ, Option.some.injEq, exists_eq_left', exists_eq_left, exists_eq', List.length_cons, List.length_nil, true_and, and_true, List.cons.injEq, D.int.injEq, D.bl.injEq, D.ref.injEq, D.tup.injEq, Cell.lst.injEq, ix_net0, ix_net1, ix_net2, ix_lane0, ix_lane1, ix_lane2, os_lenT, os_lenL, os_tupL, os_tupT, os_lstT, os_lstL, os_ixT, at0, at1, at2, os_eqI, os_neI, os_eqS, os_neS, os_add, os_sub, os_mul, os_lt, os_le, os_gt, os_ge, os_int, os_intB, os_inN, permL, List.filterMap_cons, List.filterMap_nil, List.nil_append, List.cons_append, wipeD, decide_eq_true_eq, at_push, itD_ref, itD_tup, itD_kl, Nat.reduceAdd, Nat.reduceLT, and_self, Nat.zero_add, if_true, if_false, Bool.false_eq_true, size2, size3, size4, size1, size0, truth_bl, itD_row, Bool.not_true, Bool.not_false, ev_iEn2, os_lenRow, os_lenN, eq_tupNil, ne_tupNil, ev_eAnd, ev_eOr, ev_eNot]
    rw [evs_asgN]
    simp only [ev_eVar, ev_e2, ev_e1, ev_eC, ev_eB, ev_eM, ev_eTup, ev_eLst, ev_eIf, ev_tb, ev_tbB, ev_and2, ev_or2, ev_not1, ev_eCall, ev_eCallK, ev_aCons, ev_aNil, ev_eSl, ev_oNone, ev_oSome, ev_iR1, ev_iSeq, ev_yes, ev_rg1, gN_at, gT_net, gT_lane, gT_tup, gsC_cons, gsN_nil, ex_asg, startD_1, startD_2, startD_3, startD_4, List.replicate, List.getElem?_cons_zero, List.getElem?_cons_succ, List.set_cons_zero, List.set_cons_succ, Option.some.injEq, exists_eq_left', exists_eq_left, exists_eq', List.length_cons, List.length_nil, true_and, and_true, List.cons.injEq, D.int.injEq, D.bl.injEq, D.ref.injEq, D.tup.injEq, Cell.lst.injEq, ix_net0, ix_net1, ix_net2, ix_lane0, ix_lane1, ix_lane2, os_lenT, os_lenL, os_tupL, os_tupT, os_lstT, os_lstL, os_ixT, at0, at1, at2, os_eqI, os_neI, os_eqS, os_neS, os_add, os_sub, os_mul, os_lt, os_le, os_gt, os_ge, os_int, os_intB, os_inN, permL, List.filterMap_cons, List.filterMap_nil, List.nil_append, List.cons_append, wipeD, decide_eq_true_eq, at_push, itD_ref, itD_tup, itD_kl, Nat.reduceAdd, Nat.reduceLT, and_self, Nat.zero_add, if_true, if_false, Bool.false_eq_true, size2, size3, size4, size1, size0, truth_bl, itD_row, Bool.not_true, Bool.not_false, ev_iEn2, os_lenRow, os_lenN, eq_tupNil, ne_tupNil, ev_eAnd, ev_eOr, ev_eNot]
    refine draw_ev' d5.deck (by omega) (by omega) fun u s6 hu d6 => ?_
    simp only [evs_expr, ev_eVar, ev_e2, ev_e1, ev_eC, ev_eB, ev_eM, ev_eTup, ev_eLst, ev_eIf, ev_tb, ev_tbB, ev_and2, ev_or2, ev_not1, ev_eCall, ev_eCallK, ev_aCons, ev_aNil, ev_eSl, ev_oNone, ev_oSome, ev_iR1, ev_iSeq, ev_yes, ev_rg1, gN_at, gT_net, gT_lane, gT_tup, gsC_cons, gsN_nil, ex_asg, startD_1, startD_2, startD_3, startD_4, List.replicate, List.getElem?_cons_zero, List.getElem?_cons_succ, List.set_cons_zero, List.set_cons_succ, Option.some.injEq, exists_eq_left', exists_eq_left, exists_eq', List.length_cons, List.length_nil, true_and, and_true, List.cons.injEq, D.int.injEq, D.bl.injEq, D.ref.injEq, D.tup.injEq, Cell.lst.injEq, ix_net0, ix_net1, ix_net2, ix_lane0, ix_lane1, ix_lane2, os_lenT, os_lenL, os_tupL, os_tupT, os_lstT, os_lstL, os_ixT, at0, at1, at2, os_eqI, os_neI, os_eqS, os_neS, os_add, os_sub, os_mul, os_lt, os_le, os_gt, os_ge, os_int, os_intB, os_inN, permL, List.filterMap_cons, List.filterMap_nil, List.nil_append, List.cons_append, wipeD, decide_eq_true_eq, at_push, itD_ref, itD_tup, itD_kl, Nat.reduceAdd, Nat.reduceLT, and_self, Nat.zero_add, if_true, if_false, Bool.false_eq_true, size2, size3, size4, size1, size0, truth_bl, itD_row, Bool.not_true, Bool.not_false, ev_iEn2, os_lenRow, os_lenN, eq_tupNil, ne_tupNil, ev_eAnd, ev_eOr, ev_eNot, (d6.at e5 (by omega) (by omega) : s6[a]? = _), ty_ref]
    refine draw_ev' d6.deck (by omega) (by omega) fun j s7 hj d7 => ?_
    obtain ⟨o1, o2⟩ := other_house (k := u) (j := j) (h := h) (by omega) (by omega)
    simp only [os_add, os_int, os_mod]
    refine ⟨by omega, ?_⟩
    rw [show ((u : Int) + 1 + j) % h = (((u + 1 + j) % h : Nat) : Int) by simp]
    generalize (u + 1 + j) % h = e at *
    have d57 := (d5.trans d6).trans d7
    have e7 := (d6.trans d7).at e5 (by omega) (by omega)
    rw [show [D.int 1, .int 2, .int 4] = nats [1, 2, 4] from rfl]
    refine pick_room (N := 0) d57.deck (by simp) (by simp) (by decide) fun m s8 hm1 hm4 d8 => ?_
    have e8 := d8.at e7 (by omega) (by omega)
    rw [os_app]
    refine ⟨_, e8, by rw [sizeLine_val, List.length_map]; omega, L ++ [(⟨u, e, m⟩ : Lane)], ?_, ?_, ?_, ?_, (d57.trans d8).set _ (by omega) (by omega) (by omega)⟩
    · rw [List.getElem?_set_self (lt_of_at e8)]; simp [Lane.enc]
    · intro l hl
      rcases List.mem_append.mp hl with hl | hl
      · exact okL l hl
      · rw [List.mem_singleton] at hl
        rw [hl]
        exact ⟨by show u < h; omega, o1, Ne.symm o2, hm1, hm4⟩
    · intro i hi
      obtain ⟨l, h1, h2⟩ := ownL i hi
      exact ⟨l, by rw [List.getElem?_append_left (List.getElem?_eq_some_iff.mp h1).1]; exact h1, h2⟩
    · simp; omega
  · rintro ρ1 s5 ⟨L, t3, t4, rfl, e5, okL, ownL, lenL, d5⟩
    refine ⟨trivial, ?_⟩
    have lenL : L.length ≤ 8 := by
      rw [show (rngD 0 ((n : Int)).toNat).items.length = n by rw [show ((n : Int)).toNat = n by simp]; simp [rngD]] at lenL
      omega
    rw [evs_asgN]
    simp only [ev_eVar, ev_e2, ev_e1, ev_eC, ev_eB, ev_eM, ev_eTup, ev_eLst, ev_eIf, ev_tb, ev_tbB, ev_and2, ev_or2, ev_not1, ev_eCall, ev_eCallK, ev_aCons, ev_aNil, ev_eSl, ev_oNone, ev_oSome, ev_iR1, ev_iSeq, ev_yes, ev_rg1, gN_at, gT_net, gT_lane, gT_tup, gsC_cons, gsN_nil, ex_asg, startD_1, startD_2, startD_3, startD_4, List.replicate, List.getElem?_cons_zero, List.getElem?_cons_succ, List.set_cons_zero, List.set_cons_succ, Option.some.injEq, exists_eq_left', exists_eq_left, exists_eq', List.length_cons, List.length_nil, true_and, and_true, List.cons.injEq, D.int.injEq, D.bl.injEq, D.ref.injEq, D.tup.injEq, Cell.lst.injEq, ix_net0, ix_net1, ix_net2, ix_lane0, ix_lane1, ix_lane2, os_lenT, os_lenL, os_tupL, os_tupT, os_lstT, os_lstL, os_ixT, at0, at1, at2, os_eqI, os_neI, os_eqS, os_neS, os_add, os_sub, os_mul, os_lt, os_le, os_gt, os_ge, os_int, os_intB, os_inN, permL, List.filterMap_cons, List.filterMap_nil, List.nil_append, List.cons_append, wipeD, decide_eq_true_eq, at_push, itD_ref, itD_tup, itD_kl, Nat.reduceAdd, Nat.reduceLT, and_self, Nat.zero_add, if_true, if_false, Bool.false_eq_true, size2, size3, size4, size1, size0, truth_bl, itD_row, Bool.not_true, Bool.not_false, ev_iEn2, os_lenRow, os_lenN, eq_tupNil, ne_tupNil, ev_eAnd, ev_eOr, ev_eNot]
    have hb : a < s5.length := lt_of_at e5
    have e6 := at_app e5 (y := Cell.lst [])
    have f6 : (s5 ++ [Cell.lst []])[s5.length]? = some (.lst (([] : List (List (List Nat))).map encRow)) := at_push
    have d6 := d5.push (.lst [])
    generalize hB : s5.length = b at *
    generalize s5 ++ [Cell.lst []] = s6 at *
    refine evs_for ?_
    simp only [ev_eVar, ev_e2, ev_e1, ev_eC, ev_eB, ev_eM, ev_eTup, ev_eLst, ev_eIf, ev_tb, ev_tbB, ev_and2, ev_or2, ev_not1, ev_eCall, ev_eCallK, ev_aCons, ev_aNil, ev_eSl, ev_oNone, ev_oSome, ev_iR1, ev_iSeq, ev_yes, ev_rg1, gN_at, gT_net, gT_lane, gT_tup, gsC_cons, gsN_nil, ex_asg, startD_1, startD_2, startD_3, startD_4, List.replicate, List.getElem?_cons_zero, List.getElem?_cons_succ, List.set_cons_zero, List.set_cons_succ, Option.some.injEq, exists_eq_left', exists_eq_left, exists_eq', List.length_cons, List.length_nil, true_and, and_true, List.cons.injEq, D.int.injEq, D.bl.injEq, D.ref.injEq, D.tup.injEq, Cell.lst.injEq, ix_net0, ix_net1, ix_net2, ix_lane0, ix_lane1, ix_lane2, os_lenT, os_lenL, os_tupL, os_tupT, os_lstT, os_lstL, os_ixT, at0, at1, at2, os_eqI, os_neI, os_eqS, os_neS, os_add, os_sub, os_mul, os_lt, os_le, os_gt, os_ge, os_int, os_intB, os_inN, permL, List.filterMap_cons, List.filterMap_nil, List.nil_append, List.cons_append, wipeD, decide_eq_true_eq, at_push, itD_ref, itD_tup, itD_kl, Nat.reduceAdd, Nat.reduceLT, and_self, Nat.zero_add, if_true, if_false, Bool.false_eq_true, size2, size3, size4, size1, size0, truth_bl, itD_row, Bool.not_true, Bool.not_false, ev_iEn2, os_lenRow, os_lenN, eq_tupNil, ne_tupNil, ev_eAnd, ev_eOr, ev_eNot]
    refine ⟨by omega, fun i ρ s => ∃ (T : List (List (List Nat))) (t3 t4 t6 t7 t8 t9 t10 t11 : Option D), ρ = [some (.ref r), some (.int (h : Int)), some (.ref a), t3, t4, some (.ref b), t6, t7, t8, t9, t10, t11] ∧ s[a]? = some (.lst (L.map Lane.enc)) ∧ s[b]? = some (.lst (T.map encRow)) ∧ T.length = i ∧ (∀ (u : Nat) (row : List (List Nat)), T[u]? = some row → RowOk L h u row) ∧ Dk st r c s, ⟨[], _, _, _, _, _, _, _, _, rfl, e6, f6, rfl, fun u row h => by simp at h, d6⟩, ?_, ?_⟩
    · rintro u d ρ1 s7 hd ⟨T, t3, t4, t6, t7, t8, t9, t10, t11, rfl, e7, f7, hT, okT, d7⟩
      obtain ⟨rfl, hu⟩ := rng_at hd
      refine ⟨trivial, ?_⟩
      simp only [evs_seq, ev_eVar, ev_e2, ev_e1, ev_eC, ev_eB, ev_eM, ev_eTup, ev_eLst, ev_eIf, ev_tb, ev_tbB, ev_and2, ev_or2, ev_not1, ev_eCall, ev_eCallK, ev_aCons, ev_aNil, ev_eSl, ev_oNone, ev_oSome, ev_iR1, ev_iSeq, ev_yes, ev_rg1, gN_at, gT_net, gT_lane, gT_tup, gsC_cons, gsN_nil, ex_asg, startD_1, startD_2, startD_3, startD_4, List.replicate, List.getElem?_cons_zero, List.getElem?_cons_succ, List.set_cons_zero, List.set_cons_succ, Option.some.injEq, exists_eq_left', exists_eq_left, exists_eq', List.length_cons, List.length_nil, true_and, and_true, List.cons.injEq, D.int.injEq, D.bl.injEq, D.ref.injEq, D.tup.injEq, Cell.lst.injEq, ix_net0, ix_net1, ix_net2, ix_lane0, ix_lane1, ix_lane2, os_lenT, os_lenL, os_tupL, os_tupT, os_lstT, os_lstL, os_ixT, at0, at1, at2, os_eqI, os_neI, os_eqS, os_neS, os_add, os_sub, os_mul, os_lt, os_le, os_gt, os_ge, os_int, os_intB, os_inN, permL, List.filterMap_cons, List.filterMap_nil, List.nil_append, List.cons_append, wipeD, decide_eq_true_eq, at_push, itD_ref, itD_tup, itD_kl, Nat.reduceAdd, Nat.reduceLT, and_self, Nat.zero_add, if_true, if_false, Bool.false_eq_true, size2, size3, size4, size1, size0, truth_bl, itD_row, Bool.not_true, Bool.not_false, ev_iEn2, os_lenRow, os_lenN, eq_tupNil, ne_tupNil, ev_eAnd, ev_eOr, ev_eNot]
      rw [evs_par2]
      simp only [ev_eVar, ev_e2, ev_e1, ev_eC, ev_eB, ev_eM, ev_eTup, ev_eLst, ev_eIf, ev_tb, ev_tbB, ev_and2, ev_or2, ev_not1, ev_eCall, ev_eCallK, ev_aCons, ev_aNil, ev_eSl, ev_oNone, ev_oSome, ev_iR1, ev_iSeq, ev_yes, ev_rg1, gN_at, gT_net, gT_lane, gT_tup, gsC_cons, gsN_nil, ex_asg, startD_1, startD_2, startD_3, startD_4, List.replicate, List.getElem?_cons_zero, List.getElem?_cons_succ, List.set_cons_zero, List.set_cons_succ, Option.some.injEq, exists_eq_left', exists_eq_left, exists_eq', List.length_cons, List.length_nil, true_and, and_true, List.cons.injEq, D.int.injEq, D.bl.injEq, D.ref.injEq, D.tup.injEq, Cell.lst.injEq, ix_net0, ix_net1, ix_net2, ix_lane0, ix_lane1, ix_lane2, os_lenT, os_lenL, os_tupL, os_tupT, os_lstT, os_lstL, os_ixT, at0, at1, at2, os_eqI, os_neI, os_eqS, os_neS, os_add, os_sub, os_mul, os_lt, os_le, os_gt, os_ge, os_int, os_intB, os_inN, permL, List.filterMap_cons, List.filterMap_nil, List.nil_append, List.cons_append, wipeD, decide_eq_true_eq, at_push, itD_ref, itD_tup, itD_kl, Nat.reduceAdd, Nat.reduceLT, and_self, Nat.zero_add, if_true, if_false, Bool.false_eq_true, size2, size3, size4, size1, size0, truth_bl, itD_row, Bool.not_true, Bool.not_false, ev_iEn2, os_lenRow, os_lenN, eq_tupNil, ne_tupNil, ev_eAnd, ev_eOr, ev_eNot]
      refine ev_lcF (List.range L.length) (encI L) nat (fun i => decide ((L.getD i ⟨0, 0, 0⟩).s = u)) (fun s => Kp any s7 s) ?_
      simp only [ev_eVar, ev_e2, ev_e1, ev_eC, ev_eB, ev_eM, ev_eTup, ev_eLst, ev_eIf, ev_tb, ev_tbB, ev_and2, ev_or2, ev_not1, ev_eCall, ev_eCallK, ev_aCons, ev_aNil, ev_eSl, ev_oNone, ev_oSome, ev_iR1, ev_iSeq, ev_yes, ev_rg1, gN_at, gT_net, gT_lane, gT_tup, gsC_cons, gsN_nil, ex_asg, startD_1, startD_2, startD_3, startD_4, List.replicate, List.getElem?_cons_zero, List.getElem?_cons_succ, List.set_cons_zero, List.set_cons_succ, Option.some.injEq, exists_eq_left', exists_eq_left, exists_eq', List.length_cons, List.length_nil, true_and, and_true, List.cons.injEq, D.int.injEq, D.bl.injEq, D.ref.injEq, D.tup.injEq, Cell.lst.injEq, ix_net0, ix_net1, ix_net2, ix_lane0, ix_lane1, ix_lane2, os_lenT, os_lenL, os_tupL, os_tupT, os_lstT, os_lstL, os_ixT, at0, at1, at2, os_eqI, os_neI, os_eqS, os_neS, os_add, os_sub, os_mul, os_lt, os_le, os_gt, os_ge, os_int, os_intB, os_inN, permL, List.filterMap_cons, List.filterMap_nil, List.nil_append, List.cons_append, wipeD, decide_eq_true_eq, at_push, itD_ref, itD_tup, itD_kl, Nat.reduceAdd, Nat.reduceLT, and_self, Nat.zero_add, if_true, if_false, Bool.false_eq_true, size2, size3, size4, size1, size0, truth_bl, itD_row, Bool.not_true, Bool.not_false, ev_iEn2, os_lenRow, os_lenN, eq_tupNil, ne_tupNil, ev_eAnd, ev_eOr, ev_eNot]
      refine ⟨_, ⟨_, e7, rfl⟩, en_lanes, Kp.refl _, by simp; omega, fun s k => k.at e7 trivial, ?_, ?_⟩
      · intro i hi s8 k8
        simp only [encI, ev_body, evs_seq, evs_asgN, evs_ret, evs_expr, evs_if, evs_pass, evs_brk, evs_cnt, evs_par2, evs_par3, ev_eVar, ev_e2, ev_e1, ev_eC, ev_eB, ev_eM, ev_eTup, ev_eLst, ev_eIf, ev_tb, ev_tbB, ev_and2, ev_or2, ev_not1, ev_eCall, ev_eCallK, ev_aCons, ev_aNil, ev_eSl, ev_oNone, ev_oSome, ev_iR1, ev_iSeq, ev_yes, ev_rg1, gN_at, gT_net, gT_lane, gT_tup, gsC_cons, gsN_nil, ex_asg, startD_1, startD_2, startD_3, startD_4, List.replicate, List.getElem?_cons_zero, List.getElem?_cons_succ, List.set_cons_zero, List.set_cons_succ, Option.some.injEq, exists_eq_left', exists_eq_left, exists_eq', List.length_cons, List.length_nil, true_and, and_true, List.cons.injEq, D.int.injEq, D.bl.injEq, D.ref.injEq, D.tup.injEq, Cell.lst.injEq, ix_net0, ix_net1, ix_net2, ix_lane0, ix_lane1, ix_lane2, os_lenT, os_lenL, os_tupL, os_tupT, os_lstT, os_lstL, os_ixT, at0, at1, at2, os_eqI, os_neI, os_eqS, os_neS, os_add, os_sub, os_mul, os_lt, os_le, os_gt, os_ge, os_int, os_intB, os_inN, permL, List.filterMap_cons, List.filterMap_nil, List.nil_append, List.cons_append, wipeD, decide_eq_true_eq, at_push, itD_ref, itD_tup, itD_kl, Nat.reduceAdd, Nat.reduceLT, and_self, Nat.zero_add, if_true, if_false, Bool.false_eq_true, size2, size3, size4, size1, size0, truth_bl, itD_row, Bool.not_true, Bool.not_false, ev_iEn2, os_lenRow, os_lenN, eq_tupNil, ne_tupNil, ev_eAnd, ev_eOr, ev_eNot, eq_natB]
        exact ⟨k8, fun _ => k8⟩
      intro s8 k8
      rw [show ((List.range L.length).filter fun i => decide ((L.getD i ⟨0, 0, 0⟩).s = u)).map nat = nats (mineOf L u) from rfl]
      have e9 := at_app (at_app (k8.at e7 trivial) (y := Cell.lst (nats (mineOf L u)))) (y := Cell.lst [])
      have f9 := at_app (at_app (k8.at f7 trivial) (y := Cell.lst (nats (mineOf L u)))) (y := Cell.lst [])
      have g9 : (s8 ++ [Cell.lst (nats (mineOf L u))] ++ [Cell.lst []])[s8.length]? = some (.lst (nats (mineOf L u))) := at_app at_push
      have h9 : (s8 ++ [Cell.lst (nats (mineOf L u))] ++ [Cell.lst []])[(s8 ++ [Cell.lst (nats (mineOf L u))]).length]? = some (.lst (([] : List (List Nat)).map fun e => D.tup (nats e))) := at_push
      have d9 := ((d7.kp k8).push (.lst (nats (mineOf L u)))).push (.lst [])
      have l8 : b < s8.length := lt_of_at (k8.at f7 trivial)
      have l9 : (s8 ++ [Cell.lst (nats (mineOf L u))]).length = s8.length + 1 := by simp
      generalize s8 ++ [Cell.lst (nats (mineOf L u))] ++ [Cell.lst []] = s9 at *
      generalize (s8 ++ [Cell.lst (nats (mineOf L u))]).length = rq at *
      generalize s8.length = mq at *
      have mok : EntOk L u (mineOf L u) := mine_ok
      generalize mineOf L u = mine at *
      refine evs_for ?_
      simp only [ev_eVar, ev_e2, ev_e1, ev_eC, ev_eB, ev_eM, ev_eTup, ev_eLst, ev_eIf, ev_tb, ev_tbB, ev_and2, ev_or2, ev_not1, ev_eCall, ev_eCallK, ev_aCons, ev_aNil, ev_eSl, ev_oNone, ev_oSome, ev_iR1, ev_iSeq, ev_yes, ev_rg1, gN_at, gT_net, gT_lane, gT_tup, gsC_cons, gsN_nil, ex_asg, startD_1, startD_2, startD_3, startD_4, List.replicate, List.getElem?_cons_zero, List.getElem?_cons_succ, List.set_cons_zero, List.set_cons_succ, Option.some.injEq, exists_eq_left', exists_eq_left, exists_eq', List.length_cons, List.length_nil, true_and, and_true, List.cons.injEq, D.int.injEq, D.bl.injEq, D.ref.injEq, D.tup.injEq, Cell.lst.injEq, ix_net0, ix_net1, ix_net2, ix_lane0, ix_lane1, ix_lane2, os_lenT, os_lenL, os_tupL, os_tupT, os_lstT, os_lstL, os_ixT, at0, at1, at2, os_eqI, os_neI, os_eqS, os_neS, os_add, os_sub, os_mul, os_lt, os_le, os_gt, os_ge, os_int, os_intB, os_inN, permL, List.filterMap_cons, List.filterMap_nil, List.nil_append, List.cons_append, wipeD, decide_eq_true_eq, at_push, itD_ref, itD_tup, itD_kl, Nat.reduceAdd, Nat.reduceLT, and_self, Nat.zero_add, if_true, if_false, Bool.false_eq_true, size2, size3, size4, size1, size0, truth_bl, itD_row, Bool.not_true, Bool.not_false, ev_iEn2, os_lenRow, os_lenN, eq_tupNil, ne_tupNil, ev_eAnd, ev_eOr, ev_eNot]
      refine ⟨by omega, fun i ρ s => ∃ (row : List (List Nat)) (t3 t8 t9 t10 t11 : Option D), ρ = [some (.ref r), some (.int (h : Int)), some (.ref a), t3, some (nat u), some (.ref b), some (.ref mq), some (.ref rq), t8, t9, t10, t11] ∧ s[a]? = some (.lst (L.map Lane.enc)) ∧ s[b]? = some (.lst (T.map encRow)) ∧ s[mq]? = some (.lst (nats mine)) ∧ s[rq]? = some (.lst (row.map fun e => D.tup (nats e))) ∧ row.length = i ∧ (∀ (d : Nat) (e : List Nat), row[d]? = some e → EntOk L u e) ∧ (∀ e, row[u]? = some e → e = []) ∧ Dk st r c s, ⟨[], _, _, _, _, _, rfl, e9, f9, g9, h9, rfl, fun d e h => by simp at h, fun e h => by simp at h, d9⟩, ?_, ?_⟩
      · rintro j d ρ2 s10 hd2 ⟨row, t3, t8, t9, t10, t11, rfl, e10, f10, g10, h10, hrow, okR, ownR, d10⟩
        obtain ⟨rfl, hj⟩ := rng_at hd2
        refine ⟨trivial, ?_⟩
        simp only [evs_seq, ev_eVar, ev_e2, ev_e1, ev_eC, ev_eB, ev_eM, ev_eTup, ev_eLst, ev_eIf, ev_tb, ev_tbB, ev_and2, ev_or2, ev_not1, ev_eCall, ev_eCallK, ev_aCons, ev_aNil, ev_eSl, ev_oNone, ev_oSome, ev_iR1, ev_iSeq, ev_yes, ev_rg1, gN_at, gT_net, gT_lane, gT_tup, gsC_cons, gsN_nil, ex_asg, startD_1, startD_2, startD_3, startD_4, List.replicate, List.getElem?_cons_zero, List.getElem?_cons_succ, List.set_cons_zero, List.set_cons_succ, Option.some.injEq, exists_eq_left', exists_eq_left, exists_eq', List.length_cons, List.length_nil, true_and, and_true, List.cons.injEq, D.int.injEq, D.bl.injEq, D.ref.injEq, D.tup.injEq, Cell.lst.injEq, ix_net0, ix_net1, ix_net2, ix_lane0, ix_lane1, ix_lane2, os_lenT, os_lenL, os_tupL, os_tupT, os_lstT, os_lstL, os_ixT, at0, at1, at2, os_eqI, os_neI, os_eqS, os_neS, os_add, os_sub, os_mul, os_lt, os_le, os_gt, os_ge, os_int, os_intB, os_inN, permL, List.filterMap_cons, List.filterMap_nil, List.nil_append, List.cons_append, wipeD, decide_eq_true_eq, at_push, itD_ref, itD_tup, itD_kl, Nat.reduceAdd, Nat.reduceLT, and_self, Nat.zero_add, if_true, if_false, Bool.false_eq_true, size2, size3, size4, size1, size0, truth_bl, itD_row, Bool.not_true, Bool.not_false, ev_iEn2, os_lenRow, os_lenN, eq_tupNil, ne_tupNil, ev_eAnd, ev_eOr, ev_eNot]
        rw [evs_asgN]
        simp only [ev_eVar, ev_e2, ev_e1, ev_eC, ev_eB, ev_eM, ev_eTup, ev_eLst, ev_eIf, ev_tb, ev_tbB, ev_and2, ev_or2, ev_not1, ev_eCall, ev_eCallK, ev_aCons, ev_aNil, ev_eSl, ev_oNone, ev_oSome, ev_iR1, ev_iSeq, ev_yes, ev_rg1, gN_at, gT_net, gT_lane, gT_tup, gsC_cons, gsN_nil, ex_asg, startD_1, startD_2, startD_3, startD_4, List.replicate, List.getElem?_cons_zero, List.getElem?_cons_succ, List.set_cons_zero, List.set_cons_succ, Option.some.injEq, exists_eq_left', exists_eq_left, exists_eq', List.length_cons, List.length_nil, true_and, and_true, List.cons.injEq, D.int.injEq, D.bl.injEq, D.ref.injEq, D.tup.injEq, Cell.lst.injEq, ix_net0, ix_net1, ix_net2, ix_lane0, ix_lane1, ix_lane2, os_lenT, os_lenL, os_tupL, os_tupT, os_lstT, os_lstL, os_ixT, at0, at1, at2, os_eqI, os_neI, os_eqS, os_neS, os_add, os_sub, os_mul, os_lt, os_le, os_gt, os_ge, os_int, os_intB, os_inN, permL, List.filterMap_cons, List.filterMap_nil, List.nil_append, List.cons_append, wipeD, decide_eq_true_eq, at_push, itD_ref, itD_tup, itD_kl, Nat.reduceAdd, Nat.reduceLT, and_self, Nat.zero_add, if_true, if_false, Bool.false_eq_true, size2, size3, size4, size1, size0, truth_bl, itD_row, Bool.not_true, Bool.not_false, ev_iEn2, os_lenRow, os_lenN, eq_tupNil, ne_tupNil, ev_eAnd, ev_eOr, ev_eNot, g10, os_slL, os_neg]
        refine ⟨by rw [sizeLine_val]; omega, ?_⟩
        obtain ⟨me, hme, hms⟩ := cut_sub mine (some (-1)) none
        rw [hme]
        have e11 := at_app (at_app e10 (y := Cell.lst (nats me))) (y := Cell.lst [D.tup [nat u], D.tup [nat u], D.tup [nat u], D.tup (nats mine), D.tup (nats me), D.tup []])
        have f11 := at_app (at_app f10 (y := Cell.lst (nats me))) (y := Cell.lst [D.tup [nat u], D.tup [nat u], D.tup [nat u], D.tup (nats mine), D.tup (nats me), D.tup []])
        have g11 := at_app (at_app g10 (y := Cell.lst (nats me))) (y := Cell.lst [D.tup [nat u], D.tup [nat u], D.tup [nat u], D.tup (nats mine), D.tup (nats me), D.tup []])
        have h11 := at_app (at_app h10 (y := Cell.lst (nats me))) (y := Cell.lst [D.tup [nat u], D.tup [nat u], D.tup [nat u], D.tup (nats mine), D.tup (nats me), D.tup []])
        have p11 : (s10 ++ [Cell.lst (nats me)] ++ [Cell.lst [D.tup [nat u], D.tup [nat u], D.tup [nat u], D.tup (nats mine), D.tup (nats me), D.tup []]])[(s10 ++ [Cell.lst (nats me)]).length]? = some (.lst [D.tup [nat u], D.tup [nat u], D.tup [nat u], D.tup (nats mine), D.tup (nats me), D.tup []]) := at_push
        have d11 := (d10.push (.lst (nats me))).push (.lst [D.tup [nat u], D.tup [nat u], D.tup [nat u], D.tup (nats mine), D.tup (nats me), D.tup []])
        have l11 : s10.length ≤ (s10 ++ [Cell.lst (nats me)]).length := by simp
        have l10 := d10.keep.1
        generalize s10 ++ [Cell.lst (nats me)] ++ [Cell.lst [D.tup [nat u], D.tup [nat u], D.tup [nat u], D.tup (nats mine), D.tup (nats me), D.tup []]] = s11 at *
        generalize (s10 ++ [Cell.lst (nats me)]).length = pq at *
        refine pick_ev d11.deck (.inr ⟨pq, rfl, by omega, by omega, p11⟩) (by simp) (by simp) fun k y s12 hk d12' => ?_
        have uok : EntOk L u [u] := ⟨List.pairwise_singleton _ _, fun k hk => by
          rw [List.mem_singleton] at hk
          rw [hk]
          exact ownL u hu⟩
        obtain ⟨e, rfl, eok⟩ : ∃ e, y = .tup (nats e) ∧ EntOk L u e := by
          have hm := List.mem_of_getElem? hk
          simp only [List.mem_cons, List.not_mem_nil, or_false] at hm
          rcases hm with rfl | rfl | rfl | rfl | rfl | rfl
          · exact ⟨[u], rfl, uok⟩
          · exact ⟨[u], rfl, uok⟩
          · exact ⟨[u], rfl, uok⟩
          · exact ⟨mine, rfl, mok⟩
          · exact ⟨me, rfl, ent_sub mok hms⟩
          · exact ⟨[], rfl, ent_nil⟩
        have e12 := d12'.at e11 (by omega) (by omega)
        have f12 := d12'.at f11 (by omega) (by omega)
        have g12 := d12'.at g11 (by omega) (by omega)
        have h12 := d12'.at h11 (by omega) (by omega)
        have d13 := d11.trans d12'
        have put : ∀ e', EntOk L u e' → (u = j → e' = []) → ∃ (row' : List (List Nat)) (t3' t8' t9' t10' t11' : Option D), [some (D.ref r), some (.int (h : Int)), some (.ref a), t3, some (nat u), some (.ref b), some (.ref mq), some (.ref rq), some (nat j), some (.tup (nats e)), t10, t11] = [some (.ref r), some (.int (h : Int)), some (.ref a), t3', some (nat u), some (.ref b), some (.ref mq), some (.ref rq), t8', t9', t10', t11'] ∧ (s12.set rq (.lst ((row.map fun e => D.tup (nats e)) ++ [.tup (nats e')])))[a]? = some (.lst (L.map Lane.enc)) ∧ (s12.set rq (.lst ((row.map fun e => D.tup (nats e)) ++ [.tup (nats e')])))[b]? = some (.lst (T.map encRow)) ∧ (s12.set rq (.lst ((row.map fun e => D.tup (nats e)) ++ [.tup (nats e')])))[mq]? = some (.lst (nats mine)) ∧ (s12.set rq (.lst ((row.map fun e => D.tup (nats e)) ++ [.tup (nats e')])))[rq]? = some (.lst (row'.map fun e => D.tup (nats e))) ∧ row'.length = j + 1 ∧ (∀ (d : Nat) (e : List Nat), row'[d]? = some e → EntOk L u e) ∧ (∀ e, row'[u]? = some e → e = []) ∧ Dk st r c (s12.set rq (.lst ((row.map fun e => D.tup (nats e)) ++ [.tup (nats e')]))) := fun e' h1 h2 => by
          refine ⟨row ++ [e'], _, _, _, _, _, rfl, ?_, ?_, ?_, ?_, by simp [hrow], ?_, ?_, d13.set _ (by omega) (by omega) (by omega)⟩
          · rw [List.getElem?_set_ne (by omega)]; exact e12
          · rw [List.getElem?_set_ne (by omega)]; exact f12
          · rw [List.getElem?_set_ne (by omega)]; exact g12
          · rw [List.getElem?_set_self (lt_of_at h12)]; simp
          · intro d e2 hd
            by_cases hlt : d < row.length
            · rw [List.getElem?_append_left hlt] at hd; exact okR d e2 hd
            · have hd2 := (List.getElem?_eq_some_iff.mp hd).1
              simp at hd2
              have : d = row.length := by omega
              subst this
              rw [List.getElem?_append_right (Nat.le_refl _)] at hd
              simp at hd
              rw [← hd]; exact h1
          · intro e2 hd
            by_cases hlt : u < row.length
            · rw [List.getElem?_append_left hlt] at hd; exact ownR e2 hd
            · have hd2 := (List.getElem?_eq_some_iff.mp hd).1
              simp at hd2
              have : u = row.length := by omega
              rw [List.getElem?_append_right (by omega), this] at hd
              simp at hd
              rw [← hd]; exact h2 (by omega)
        simp only [evs_expr, ev_eM, ev_eVar, ev_aCons, ev_aNil, List.getElem?_cons_zero, List.getElem?_cons_succ, Option.some.injEq, exists_eq_left', ty_ref, h12, Cell.lst.injEq, exists_eq', true_and, ev_eIf, ev_tbB, ev_e2, os_neI, D.bl.injEq, eq_natB, ev_eTup, List.length_nil, Nat.zero_le]
        have sz : (row.map fun e => D.tup (nats e)).length < sizeLine := by rw [sizeLine_val, List.length_map]; omega
        by_cases hju : j = u
        · rw [if_neg (by simp [hju]), os_app]
          exact ⟨_, h12, sz, put [] ent_nil fun _ => rfl⟩
        · rw [if_pos (by simp [hju]), os_app]
          exact ⟨_, h12, sz, put e eok fun q => absurd q.symm hju⟩
      · rintro ρ2 s10 ⟨row, t3, t8, t9, t10, t11, rfl, e10, f10, g10, h10, hrow, okR, ownR, d10⟩
        refine ⟨trivial, ?_⟩
        rw [show (rngD 0 ((h : Int)).toNat).items.length = h by rw [show ((h : Int)).toNat = h by simp]; simp [rngD]] at hrow
        simp only [evs_expr, ev_eVar, ev_e2, ev_e1, ev_eC, ev_eB, ev_eM, ev_eTup, ev_eLst, ev_eIf, ev_tb, ev_tbB, ev_and2, ev_or2, ev_not1, ev_eCall, ev_eCallK, ev_aCons, ev_aNil, ev_eSl, ev_oNone, ev_oSome, ev_iR1, ev_iSeq, ev_yes, ev_rg1, gN_at, gT_net, gT_lane, gT_tup, gsC_cons, gsN_nil, ex_asg, startD_1, startD_2, startD_3, startD_4, List.replicate, List.getElem?_cons_zero, List.getElem?_cons_succ, List.set_cons_zero, List.set_cons_succ, Option.some.injEq, exists_eq_left', exists_eq_left, exists_eq', List.length_cons, List.length_nil, true_and, and_true, List.cons.injEq, D.int.injEq, D.bl.injEq, D.ref.injEq, D.tup.injEq, Cell.lst.injEq, ix_net0, ix_net1, ix_net2, ix_lane0, ix_lane1, ix_lane2, os_lenT, os_lenL, os_tupL, os_tupT, os_lstT, os_lstL, os_ixT, at0, at1, at2, os_eqI, os_neI, os_eqS, os_neS, os_add, os_sub, os_mul, os_lt, os_le, os_gt, os_ge, os_int, os_intB, os_inN, permL, List.filterMap_cons, List.filterMap_nil, List.nil_append, List.cons_append, wipeD, decide_eq_true_eq, at_push, itD_ref, itD_tup, itD_kl, Nat.reduceAdd, Nat.reduceLT, and_self, Nat.zero_add, if_true, if_false, Bool.false_eq_true, size2, size3, size4, size1, size0, truth_bl, itD_row, Bool.not_true, Bool.not_false, ev_iEn2, os_lenRow, os_lenN, eq_tupNil, ne_tupNil, ev_eAnd, ev_eOr, ev_eNot, f10, h10, ty_ref, os_app, List.length_map]
        refine ⟨by rw [sizeLine_val]; omega, ?_⟩
        have l10 := d10.keep.1
        refine ⟨T ++ [row], _, _, _, _, _, _, _, _, ⟨rfl, rfl, rfl, rfl, rfl, rfl, rfl, rfl⟩, ?_, ?_, by simp [hT], ?_, d10.set _ (by omega) (by omega) (by omega)⟩
        · rw [List.getElem?_set_ne (by omega)]; exact e10
        · rw [List.getElem?_set_self (lt_of_at f10)]; simp [encRow]
        · intro u' row' hu'
          by_cases hlu : u' < T.length
          · rw [List.getElem?_append_left hlu] at hu'; exact okT u' row' hu'
          · have hu2 := (List.getElem?_eq_some_iff.mp hu').1
            simp at hu2
            have : u' = T.length := by omega
            subst this
            rw [List.getElem?_append_right (Nat.le_refl _)] at hu'
            simp at hu'
            rw [← hu', hT]
            exact ⟨hrow, okR, ownR⟩
    · rintro ρ1 s7 ⟨T, t3, t4, t6, t7, t8, t9, t10, t11, rfl, e7, f7, hT, okT, d7⟩
      refine ⟨trivial, ?_⟩
      rw [show (rngD 0 ((h : Int)).toNat).items.length = h by rw [show ((h : Int)).toNat = h by simp]; simp [rngD]] at hT
      rw [evs_ret]
      simp only [ev_eVar, ev_e2, ev_e1, ev_eC, ev_eB, ev_eM, ev_eTup, ev_eLst, ev_eIf, ev_tb, ev_tbB, ev_and2, ev_or2, ev_not1, ev_eCall, ev_eCallK, ev_aCons, ev_aNil, ev_eSl, ev_oNone, ev_oSome, ev_iR1, ev_iSeq, ev_yes, ev_rg1, gN_at, gT_net, gT_lane, gT_tup, gsC_cons, gsN_nil, ex_asg, startD_1, startD_2, startD_3, startD_4, List.replicate, List.getElem?_cons_zero, List.getElem?_cons_succ, List.set_cons_zero, List.set_cons_succ, Option.some.injEq, exists_eq_left', exists_eq_left, exists_eq', List.length_cons, List.length_nil, true_and, and_true, List.cons.injEq, D.int.injEq, D.bl.injEq, D.ref.injEq, D.tup.injEq, Cell.lst.injEq, ix_net0, ix_net1, ix_net2, ix_lane0, ix_lane1, ix_lane2, os_lenT, os_lenL, os_tupL, os_tupT, os_lstT, os_lstL, os_ixT, at0, at1, at2, os_eqI, os_neI, os_eqS, os_neS, os_add, os_sub, os_mul, os_lt, os_le, os_gt, os_ge, os_int, os_intB, os_inN, permL, List.filterMap_cons, List.filterMap_nil, List.nil_append, List.cons_append, wipeD, decide_eq_true_eq, at_push, itD_ref, itD_tup, itD_kl, Nat.reduceAdd, Nat.reduceLT, and_self, Nat.zero_add, if_true, if_false, Bool.false_eq_true, size2, size3, size4, size1, size0, truth_bl, itD_row, Bool.not_true, Bool.not_false, ev_iEn2, os_lenRow, os_lenN, eq_tupNil, ne_tupNil, ev_eAnd, ev_eOr, ev_eNot, e7, f7]
      exact H ⟨h, L, T⟩ s7 (net_ok (by omega) (by omega) okL hT okT (by omega)) d7
end
end K10

namespace K10
open PySem L2 Rm
section
variable {P : D → Sto → Prop} {st s s' : Sto} {r c : Nat} {N : Net} {S : List (List Nat)}
theorem bare_ok : StOk N (List.replicate N.lanes.length []) := by
  refine ⟨by simp, fun k own l h _ => ?_⟩
  have := List.eq_of_mem_replicate (List.mem_of_getElem? h)
  subst this
  exact ⟨Nat.zero_le _, fun _ h => by cases h⟩
theorem law_ev {ns : List Int} (hl : ns.length ≤ 63) (H : ∀ s', P (.bl true) s') : Ev (f_law [.kl (ns.map .int)] st) P := by
  unfold f_law b_law
  simp only [ev_body, evs_seq, ev_eVar, ev_e2, ev_e1, ev_eC, ev_eB, ev_eM, ev_eTup, ev_eLst, ev_eIf, ev_tb, ev_tbB, ev_and2, ev_or2, ev_not1, ev_eCall, ev_eCallK, ev_aCons, ev_aNil, ev_eSl, ev_oNone, ev_oSome, ev_iR1, ev_iSeq, ev_yes, ev_rg1, gN_at, gT_net, gT_lane, gT_tup, gsC_cons, gsN_nil, ex_asg, startD_1, startD_2, startD_3, startD_4, List.replicate, List.getElem?_cons_zero, List.getElem?_cons_succ, List.set_cons_zero, List.set_cons_succ, Option.some.injEq, exists_eq_left', exists_eq_left, exists_eq', List.length_cons, List.length_nil, true_and, and_true, List.cons.injEq, D.int.injEq, D.bl.injEq, D.ref.injEq, D.tup.injEq, Cell.lst.injEq, ix_net0, ix_net1, ix_net2, ix_lane0, ix_lane1, ix_lane2, os_lenT, os_lenL, os_tupL, os_tupT, os_lstT, os_lstL, os_ixT, at0, at1, at2, os_eqI, os_neI, os_eqS, os_neS, os_add, os_sub, os_mul, os_lt, os_le, os_gt, os_ge, os_int, os_intB, os_inN, permL, List.filterMap_cons, List.filterMap_nil, List.nil_append, List.cons_append, wipeD, decide_eq_true_eq, at_push, itD_ref, itD_tup, itD_kl, Nat.reduceAdd, Nat.reduceLT, and_self, Nat.zero_add, if_true, if_false, Bool.false_eq_true, size2, size3, size4, size1, size0, truth_bl, itD_row, Bool.not_true, Bool.not_false, ev_iEn2, os_lenRow, os_lenN, eq_tupNil, ne_tupNil, ev_eAnd, ev_eOr, ev_eNot]
  rw [evs_asgN]
  simp only [ev_eVar, ev_e2, ev_e1, ev_eC, ev_eB, ev_eM, ev_eTup, ev_eLst, ev_eIf, ev_tb, ev_tbB, ev_and2, ev_or2, ev_not1, ev_eCall, ev_eCallK, ev_aCons, ev_aNil, ev_eSl, ev_oNone, ev_oSome, ev_iR1, ev_iSeq, ev_yes, ev_rg1, gN_at, gT_net, gT_lane, gT_tup, gsC_cons, gsN_nil, ex_asg, startD_1, startD_2, startD_3, startD_4, List.replicate, List.getElem?_cons_zero, List.getElem?_cons_succ, List.set_cons_zero, List.set_cons_succ, Option.some.injEq, exists_eq_left', exists_eq_left, exists_eq', List.length_cons, List.length_nil, true_and, and_true, List.cons.injEq, D.int.injEq, D.bl.injEq, D.ref.injEq, D.tup.injEq, Cell.lst.injEq, ix_net0, ix_net1, ix_net2, ix_lane0, ix_lane1, ix_lane2, os_lenT, os_lenL, os_tupL, os_tupT, os_lstT, os_lstL, os_ixT, at0, at1, at2, os_eqI, os_neI, os_eqS, os_neS, os_add, os_sub, os_mul, os_lt, os_le, os_gt, os_ge, os_int, os_intB, os_inN, permL, List.filterMap_cons, List.filterMap_nil, List.nil_append, List.cons_append, wipeD, decide_eq_true_eq, at_push, itD_ref, itD_tup, itD_kl, Nat.reduceAdd, Nat.reduceLT, and_self, Nat.zero_add, if_true, if_false, Bool.false_eq_true, size2, size3, size4, size1, size0, truth_bl, itD_row, Bool.not_true, Bool.not_false, ev_iEn2, os_lenRow, os_lenN, eq_tupNil, ne_tupNil, ev_eAnd, ev_eOr, ev_eNot]
  refine deck_ev hl fun r c s1 dk _ _ _ => ?_
  refine evs_for ?_
  simp only [ev_eVar, ev_e2, ev_e1, ev_eC, ev_eB, ev_eM, ev_eTup, ev_eLst, ev_eIf, ev_tb, ev_tbB, ev_and2, ev_or2, ev_not1, ev_eCall, ev_eCallK, ev_aCons, ev_aNil, ev_eSl, ev_oNone, ev_oSome, ev_iR1, ev_iSeq, ev_yes, ev_rg1, gN_at, gT_net, gT_lane, gT_tup, gsC_cons, gsN_nil, ex_asg, startD_1, startD_2, startD_3, startD_4, List.replicate, List.getElem?_cons_zero, List.getElem?_cons_succ, List.set_cons_zero, List.set_cons_succ, Option.some.injEq, exists_eq_left', exists_eq_left, exists_eq', List.length_cons, List.length_nil, true_and, and_true, List.cons.injEq, D.int.injEq, D.bl.injEq, D.ref.injEq, D.tup.injEq, Cell.lst.injEq, ix_net0, ix_net1, ix_net2, ix_lane0, ix_lane1, ix_lane2, os_lenT, os_lenL, os_tupL, os_tupT, os_lstT, os_lstL, os_ixT, at0, at1, at2, os_eqI, os_neI, os_eqS, os_neS, os_add, os_sub, os_mul, os_lt, os_le, os_gt, os_ge, os_int, os_intB, os_inN, permL, List.filterMap_cons, List.filterMap_nil, List.nil_append, List.cons_append, wipeD, decide_eq_true_eq, at_push, itD_ref, itD_tup, itD_kl, Nat.reduceAdd, Nat.reduceLT, and_self, Nat.zero_add, if_true, if_false, Bool.false_eq_true, size2, size3, size4, size1, size0, truth_bl, itD_row, Bool.not_true, Bool.not_false, ev_iEn2, os_lenRow, os_lenN, eq_tupNil, ne_tupNil, ev_eAnd, ev_eOr, ev_eNot]
  refine ⟨by omega, fun i ρ s => (∃ t2 t3 t4 t5 t6, ρ = [some (.kl (ns.map .int)), some (.ref r), t2, t3, t4, t5, t6]) ∧ Deck s r c, ⟨⟨_, _, _, _, _, rfl⟩, dk⟩, ?_, ?_⟩
  · rintro i d ρ1 s2 hd ⟨⟨t2, t3, t4, t5, t6, rfl⟩, dk2⟩
    obtain ⟨rfl, hi⟩ := rng_at (n := 6) hd
    refine ⟨trivial, ?_⟩
    simp only [evs_seq, ev_eVar, ev_e2, ev_e1, ev_eC, ev_eB, ev_eM, ev_eTup, ev_eLst, ev_eIf, ev_tb, ev_tbB, ev_and2, ev_or2, ev_not1, ev_eCall, ev_eCallK, ev_aCons, ev_aNil, ev_eSl, ev_oNone, ev_oSome, ev_iR1, ev_iSeq, ev_yes, ev_rg1, gN_at, gT_net, gT_lane, gT_tup, gsC_cons, gsN_nil, ex_asg, startD_1, startD_2, startD_3, startD_4, List.replicate, List.getElem?_cons_zero, List.getElem?_cons_succ, List.set_cons_zero, List.set_cons_succ, Option.some.injEq, exists_eq_left', exists_eq_left, exists_eq', List.length_cons, List.length_nil, true_and, and_true, List.cons.injEq, D.int.injEq, D.bl.injEq, D.ref.injEq, D.tup.injEq, Cell.lst.injEq, ix_net0, ix_net1, ix_net2, ix_lane0, ix_lane1, ix_lane2, os_lenT, os_lenL, os_tupL, os_tupT, os_lstT, os_lstL, os_ixT, at0, at1, at2, os_eqI, os_neI, os_eqS, os_neS, os_add, os_sub, os_mul, os_lt, os_le, os_gt, os_ge, os_int, os_intB, os_inN, permL, List.filterMap_cons, List.filterMap_nil, List.nil_append, List.cons_append, wipeD, decide_eq_true_eq, at_push, itD_ref, itD_tup, itD_kl, Nat.reduceAdd, Nat.reduceLT, and_self, Nat.zero_add, if_true, if_false, Bool.false_eq_true, size2, size3, size4, size1, size0, truth_bl, itD_row, Bool.not_true, Bool.not_false, ev_iEn2, os_lenRow, os_lenN, eq_tupNil, ne_tupNil, ev_eAnd, ev_eOr, ev_eNot]
    rw [evs_asgN]
    refine Ev.mono (P := fun d s => ∃ N : Net, d = N.enc ∧ N.Ok ∧ Dk s2 r c s) ?_ ?_
    · simp only [ev_body, evs_seq, evs_asgN, evs_ret, evs_expr, evs_if, evs_pass, evs_brk, evs_cnt, evs_par2, evs_par3, ev_eVar, ev_e2, ev_e1, ev_eC, ev_eB, ev_eM, ev_eTup, ev_eLst, ev_eIf, ev_tb, ev_tbB, ev_and2, ev_or2, ev_not1, ev_eCall, ev_eCallK, ev_aCons, ev_aNil, ev_eSl, ev_oNone, ev_oSome, ev_iR1, ev_iSeq, ev_yes, ev_rg1, gN_at, gT_net, gT_lane, gT_tup, gsC_cons, gsN_nil, ex_asg, startD_1, startD_2, startD_3, startD_4, List.replicate, List.getElem?_cons_zero, List.getElem?_cons_succ, List.set_cons_zero, List.set_cons_succ, Option.some.injEq, exists_eq_left', exists_eq_left, exists_eq', List.length_cons, List.length_nil, true_and, and_true, List.cons.injEq, D.int.injEq, D.bl.injEq, D.ref.injEq, D.tup.injEq, Cell.lst.injEq, ix_net0, ix_net1, ix_net2, ix_lane0, ix_lane1, ix_lane2, os_lenT, os_lenL, os_tupL, os_tupT, os_lstT, os_lstL, os_ixT, at0, at1, at2, os_eqI, os_neI, os_eqS, os_neS, os_add, os_sub, os_mul, os_lt, os_le, os_gt, os_ge, os_int, os_intB, os_inN, permL, List.filterMap_cons, List.filterMap_nil, List.nil_append, List.cons_append, wipeD, decide_eq_true_eq, at_push, itD_ref, itD_tup, itD_kl, Nat.reduceAdd, Nat.reduceLT, and_self, Nat.zero_add, if_true, if_false, Bool.false_eq_true, size2, size3, size4, size1, size0, truth_bl, itD_row, Bool.not_true, Bool.not_false, ev_iEn2, os_lenRow, os_lenN, eq_tupNil, ne_tupNil, ev_eAnd, ev_eOr, ev_eNot]
      split
      · exact round_ev dk2 fun N s3 ok d3 => ⟨N, rfl, ok, d3⟩
      · refine draw_ev' dk2 (by decide) (by decide) fun x s3 hx d3 => ?_
        simp only [ev_body, evs_seq, evs_asgN, evs_ret, evs_expr, evs_if, evs_pass, evs_brk, evs_cnt, evs_par2, evs_par3, ev_eVar, ev_e2, ev_e1, ev_eC, ev_eB, ev_eM, ev_eTup, ev_eLst, ev_eIf, ev_tb, ev_tbB, ev_and2, ev_or2, ev_not1, ev_eCall, ev_eCallK, ev_aCons, ev_aNil, ev_eSl, ev_oNone, ev_oSome, ev_iR1, ev_iSeq, ev_yes, ev_rg1, gN_at, gT_net, gT_lane, gT_tup, gsC_cons, gsN_nil, ex_asg, startD_1, startD_2, startD_3, startD_4, List.replicate, List.getElem?_cons_zero, List.getElem?_cons_succ, List.set_cons_zero, List.set_cons_succ, Option.some.injEq, exists_eq_left', exists_eq_left, exists_eq', List.length_cons, List.length_nil, true_and, and_true, List.cons.injEq, D.int.injEq, D.bl.injEq, D.ref.injEq, D.tup.injEq, Cell.lst.injEq, ix_net0, ix_net1, ix_net2, ix_lane0, ix_lane1, ix_lane2, os_lenT, os_lenL, os_tupL, os_tupT, os_lstT, os_lstL, os_ixT, at0, at1, at2, os_eqI, os_neI, os_eqS, os_neS, os_add, os_sub, os_mul, os_lt, os_le, os_gt, os_ge, os_int, os_intB, os_inN, permL, List.filterMap_cons, List.filterMap_nil, List.nil_append, List.cons_append, wipeD, decide_eq_true_eq, at_push, itD_ref, itD_tup, itD_kl, Nat.reduceAdd, Nat.reduceLT, and_self, Nat.zero_add, if_true, if_false, Bool.false_eq_true, size2, size3, size4, size1, size0, truth_bl, itD_row, Bool.not_true, Bool.not_false, ev_iEn2, os_lenRow, os_lenN, eq_tupNil, ne_tupNil, ev_eAnd, ev_eOr, ev_eNot]
        rw [show ((2 : Int) + (x : Int)) = ((x + 2 : Nat) : Int) by omega]
        exact net_ev (h := x + 2) (most := 7) (least := 1) d3.deck (by omega) (by omega) (by decide) (by decide) fun N s4 ok _ _ _ d4 => ⟨N, rfl, ok, d3.trans d4⟩
    rintro _ s3 ⟨N, rfl, ok, d3⟩
    simp only [ev_eVar, ev_e2, ev_e1, ev_eC, ev_eB, ev_eM, ev_eTup, ev_eLst, ev_eIf, ev_tb, ev_tbB, ev_and2, ev_or2, ev_not1, ev_eCall, ev_eCallK, ev_aCons, ev_aNil, ev_eSl, ev_oNone, ev_oSome, ev_iR1, ev_iSeq, ev_yes, ev_rg1, gN_at, gT_net, gT_lane, gT_tup, gsC_cons, gsN_nil, ex_asg, startD_1, startD_2, startD_3, startD_4, List.replicate, List.getElem?_cons_zero, List.getElem?_cons_succ, List.set_cons_zero, List.set_cons_succ, Option.some.injEq, exists_eq_left', exists_eq_left, exists_eq', List.length_cons, List.length_nil, true_and, and_true, List.cons.injEq, D.int.injEq, D.bl.injEq, D.ref.injEq, D.tup.injEq, Cell.lst.injEq, ix_net0, ix_net1, ix_net2, ix_lane0, ix_lane1, ix_lane2, os_lenT, os_lenL, os_tupL, os_tupT, os_lstT, os_lstL, os_ixT, at0, at1, at2, os_eqI, os_neI, os_eqS, os_neS, os_add, os_sub, os_mul, os_lt, os_le, os_gt, os_ge, os_int, os_intB, os_inN, permL, List.filterMap_cons, List.filterMap_nil, List.nil_append, List.cons_append, wipeD, decide_eq_true_eq, at_push, itD_ref, itD_tup, itD_kl, Nat.reduceAdd, Nat.reduceLT, and_self, Nat.zero_add, if_true, if_false, Bool.false_eq_true, size2, size3, size4, size1, size0, truth_bl, itD_row, Bool.not_true, Bool.not_false, ev_iEn2, os_lenRow, os_lenN, eq_tupNil, ne_tupNil, ev_eAnd, ev_eOr, ev_eNot]
    rw [evs_asgN]
    simp only [ev_eVar, ev_e2, ev_e1, ev_eC, ev_eB, ev_eM, ev_eTup, ev_eLst, ev_eIf, ev_tb, ev_tbB, ev_and2, ev_or2, ev_not1, ev_eCall, ev_eCallK, ev_aCons, ev_aNil, ev_eSl, ev_oNone, ev_oSome, ev_iR1, ev_iSeq, ev_yes, ev_rg1, gN_at, gT_net, gT_lane, gT_tup, gsC_cons, gsN_nil, ex_asg, startD_1, startD_2, startD_3, startD_4, List.replicate, List.getElem?_cons_zero, List.getElem?_cons_succ, List.set_cons_zero, List.set_cons_succ, Option.some.injEq, exists_eq_left', exists_eq_left, exists_eq', List.length_cons, List.length_nil, true_and, and_true, List.cons.injEq, D.int.injEq, D.bl.injEq, D.ref.injEq, D.tup.injEq, Cell.lst.injEq, ix_net0, ix_net1, ix_net2, ix_lane0, ix_lane1, ix_lane2, os_lenT, os_lenL, os_tupL, os_tupT, os_lstT, os_lstL, os_ixT, at0, at1, at2, os_eqI, os_neI, os_eqS, os_neS, os_add, os_sub, os_mul, os_lt, os_le, os_gt, os_ge, os_int, os_intB, os_inN, permL, List.filterMap_cons, List.filterMap_nil, List.nil_append, List.cons_append, wipeD, decide_eq_true_eq, at_push, itD_ref, itD_tup, itD_kl, Nat.reduceAdd, Nat.reduceLT, and_self, Nat.zero_add, if_true, if_false, Bool.false_eq_true, size2, size3, size4, size1, size0, truth_bl, itD_row, Bool.not_true, Bool.not_false, ev_iEn2, os_lenRow, os_lenN, eq_tupNil, ne_tupNil, ev_eAnd, ev_eOr, ev_eNot]
    refine stand_ev (w := 1) d3.deck ok fun S s4 so d4 => ?_
    refine evs_for ?_
    simp only [ev_eVar, ev_e2, ev_e1, ev_eC, ev_eB, ev_eM, ev_eTup, ev_eLst, ev_eIf, ev_tb, ev_tbB, ev_and2, ev_or2, ev_not1, ev_eCall, ev_eCallK, ev_aCons, ev_aNil, ev_eSl, ev_oNone, ev_oSome, ev_iR1, ev_iSeq, ev_yes, ev_rg1, gN_at, gT_net, gT_lane, gT_tup, gsC_cons, gsN_nil, ex_asg, startD_1, startD_2, startD_3, startD_4, List.replicate, List.getElem?_cons_zero, List.getElem?_cons_succ, List.set_cons_zero, List.set_cons_succ, Option.some.injEq, exists_eq_left', exists_eq_left, exists_eq', List.length_cons, List.length_nil, true_and, and_true, List.cons.injEq, D.int.injEq, D.bl.injEq, D.ref.injEq, D.tup.injEq, Cell.lst.injEq, ix_net0, ix_net1, ix_net2, ix_lane0, ix_lane1, ix_lane2, os_lenT, os_lenL, os_tupL, os_tupT, os_lstT, os_lstL, os_ixT, at0, at1, at2, os_eqI, os_neI, os_eqS, os_neS, os_add, os_sub, os_mul, os_lt, os_le, os_gt, os_ge, os_int, os_intB, os_inN, permL, List.filterMap_cons, List.filterMap_nil, List.nil_append, List.cons_append, wipeD, decide_eq_true_eq, at_push, itD_ref, itD_tup, itD_kl, Nat.reduceAdd, Nat.reduceLT, and_self, Nat.zero_add, if_true, if_false, Bool.false_eq_true, size2, size3, size4, size1, size0, truth_bl, itD_row, Bool.not_true, Bool.not_false, ev_iEn2, os_lenRow, os_lenN, eq_tupNil, ne_tupNil, ev_eAnd, ev_eOr, ev_eNot]
    refine ⟨by omega, fun j ρ s => (∃ S t5 t6, ρ = [some (.kl (ns.map .int)), some (.ref r), some (nat i), some N.enc, some (encRow S), t5, t6] ∧ StOk N S) ∧ Deck s r c, ⟨⟨S, _, _, rfl, so⟩, d4.deck⟩, ?_, ?_⟩
    · rintro j d ρ2 s5 hd2 ⟨⟨S, t5, t6, rfl, so⟩, dk5⟩
      obtain ⟨rfl, hj⟩ := rng_at (n := 4) hd2
      refine ⟨trivial, ?_⟩
      simp only [evs_seq, ev_eVar, ev_e2, ev_e1, ev_eC, ev_eB, ev_eM, ev_eTup, ev_eLst, ev_eIf, ev_tb, ev_tbB, ev_and2, ev_or2, ev_not1, ev_eCall, ev_eCallK, ev_aCons, ev_aNil, ev_eSl, ev_oNone, ev_oSome, ev_iR1, ev_iSeq, ev_yes, ev_rg1, gN_at, gT_net, gT_lane, gT_tup, gsC_cons, gsN_nil, ex_asg, startD_1, startD_2, startD_3, startD_4, List.replicate, List.getElem?_cons_zero, List.getElem?_cons_succ, List.set_cons_zero, List.set_cons_succ, Option.some.injEq, exists_eq_left', exists_eq_left, exists_eq', List.length_cons, List.length_nil, true_and, and_true, List.cons.injEq, D.int.injEq, D.bl.injEq, D.ref.injEq, D.tup.injEq, Cell.lst.injEq, ix_net0, ix_net1, ix_net2, ix_lane0, ix_lane1, ix_lane2, os_lenT, os_lenL, os_tupL, os_tupT, os_lstT, os_lstL, os_ixT, at0, at1, at2, os_eqI, os_neI, os_eqS, os_neS, os_add, os_sub, os_mul, os_lt, os_le, os_gt, os_ge, os_int, os_intB, os_inN, permL, List.filterMap_cons, List.filterMap_nil, List.nil_append, List.cons_append, wipeD, decide_eq_true_eq, at_push, itD_ref, itD_tup, itD_kl, Nat.reduceAdd, Nat.reduceLT, and_self, Nat.zero_add, if_true, if_false, Bool.false_eq_true, size2, size3, size4, size1, size0, truth_bl, itD_row, Bool.not_true, Bool.not_false, ev_iEn2, os_lenRow, os_lenN, eq_tupNil, ne_tupNil, ev_eAnd, ev_eOr, ev_eNot]
      rw [evs_if]
      simp only [ev_eVar, ev_e2, ev_e1, ev_eC, ev_eB, ev_eM, ev_eTup, ev_eLst, ev_eIf, ev_tb, ev_tbB, ev_and2, ev_or2, ev_not1, ev_eCall, ev_eCallK, ev_aCons, ev_aNil, ev_eSl, ev_oNone, ev_oSome, ev_iR1, ev_iSeq, ev_yes, ev_rg1, gN_at, gT_net, gT_lane, gT_tup, gsC_cons, gsN_nil, ex_asg, startD_1, startD_2, startD_3, startD_4, List.replicate, List.getElem?_cons_zero, List.getElem?_cons_succ, List.set_cons_zero, List.set_cons_succ, Option.some.injEq, exists_eq_left', exists_eq_left, exists_eq', List.length_cons, List.length_nil, true_and, and_true, List.cons.injEq, D.int.injEq, D.bl.injEq, D.ref.injEq, D.tup.injEq, Cell.lst.injEq, ix_net0, ix_net1, ix_net2, ix_lane0, ix_lane1, ix_lane2, os_lenT, os_lenL, os_tupL, os_tupT, os_lstT, os_lstL, os_ixT, at0, at1, at2, os_eqI, os_neI, os_eqS, os_neS, os_add, os_sub, os_mul, os_lt, os_le, os_gt, os_ge, os_int, os_intB, os_inN, permL, List.filterMap_cons, List.filterMap_nil, List.nil_append, List.cons_append, wipeD, decide_eq_true_eq, at_push, itD_ref, itD_tup, itD_kl, Nat.reduceAdd, Nat.reduceLT, and_self, Nat.zero_add, if_true, if_false, Bool.false_eq_true, size2, size3, size4, size1, size0, truth_bl, itD_row, Bool.not_true, Bool.not_false, ev_iEn2, os_lenRow, os_lenN, eq_tupNil, ne_tupNil, ev_eAnd, ev_eOr, ev_eNot]
      refine right_ev ok so fun s6 k6 => ?_
      simp only [ev_body, evs_seq, evs_asgN, evs_ret, evs_expr, evs_if, evs_pass, evs_brk, evs_cnt, evs_par2, evs_par3, ev_eVar, ev_e2, ev_e1, ev_eC, ev_eB, ev_eM, ev_eTup, ev_eLst, ev_eIf, ev_tb, ev_tbB, ev_and2, ev_or2, ev_not1, ev_eCall, ev_eCallK, ev_aCons, ev_aNil, ev_eSl, ev_oNone, ev_oSome, ev_iR1, ev_iSeq, ev_yes, ev_rg1, gN_at, gT_net, gT_lane, gT_tup, gsC_cons, gsN_nil, ex_asg, startD_1, startD_2, startD_3, startD_4, List.replicate, List.getElem?_cons_zero, List.getElem?_cons_succ, List.set_cons_zero, List.set_cons_succ, Option.some.injEq, exists_eq_left', exists_eq_left, exists_eq', List.length_cons, List.length_nil, true_and, and_true, List.cons.injEq, D.int.injEq, D.bl.injEq, D.ref.injEq, D.tup.injEq, Cell.lst.injEq, ix_net0, ix_net1, ix_net2, ix_lane0, ix_lane1, ix_lane2, os_lenT, os_lenL, os_tupL, os_tupT, os_lstT, os_lstL, os_ixT, at0, at1, at2, os_eqI, os_neI, os_eqS, os_neS, os_add, os_sub, os_mul, os_lt, os_le, os_gt, os_ge, os_int, os_intB, os_inN, permL, List.filterMap_cons, List.filterMap_nil, List.nil_append, List.cons_append, wipeD, decide_eq_true_eq, at_push, itD_ref, itD_tup, itD_kl, Nat.reduceAdd, Nat.reduceLT, and_self, Nat.zero_add, if_true, if_false, Bool.false_eq_true, size2, size3, size4, size1, size0, truth_bl, itD_row, Bool.not_true, Bool.not_false, ev_iEn2, os_lenRow, os_lenN, eq_tupNil, ne_tupNil, ev_eAnd, ev_eOr, ev_eNot]
      have dk6 := dk5.keep k6 (fr := any) trivial trivial
      refine turned_ev dk6 ok so fun S2 s7 so2 d7 => ?_
      exact ⟨⟨S2, _, _, ⟨rfl, rfl, rfl⟩, so2⟩, d7.deck⟩
    · rintro ρ2 s5 ⟨⟨S, t5, t6, rfl, so⟩, dk5⟩
      refine ⟨trivial, ?_⟩
      rw [evs_if]
      simp only [ev_eVar, ev_e2, ev_e1, ev_eC, ev_eB, ev_eM, ev_eTup, ev_eLst, ev_eIf, ev_tb, ev_tbB, ev_and2, ev_or2, ev_not1, ev_eCall, ev_eCallK, ev_aCons, ev_aNil, ev_eSl, ev_oNone, ev_oSome, ev_iR1, ev_iSeq, ev_yes, ev_rg1, gN_at, gT_net, gT_lane, gT_tup, gsC_cons, gsN_nil, ex_asg, startD_1, startD_2, startD_3, startD_4, List.replicate, List.getElem?_cons_zero, List.getElem?_cons_succ, List.set_cons_zero, List.set_cons_succ, Option.some.injEq, exists_eq_left', exists_eq_left, exists_eq', List.length_cons, List.length_nil, true_and, and_true, List.cons.injEq, D.int.injEq, D.bl.injEq, D.ref.injEq, D.tup.injEq, Cell.lst.injEq, ix_net0, ix_net1, ix_net2, ix_lane0, ix_lane1, ix_lane2, os_lenT, os_lenL, os_tupL, os_tupT, os_lstT, os_lstL, os_ixT, at0, at1, at2, os_eqI, os_neI, os_eqS, os_neS, os_add, os_sub, os_mul, os_lt, os_le, os_gt, os_ge, os_int, os_intB, os_inN, permL, List.filterMap_cons, List.filterMap_nil, List.nil_append, List.cons_append, wipeD, decide_eq_true_eq, at_push, itD_ref, itD_tup, itD_kl, Nat.reduceAdd, Nat.reduceLT, and_self, Nat.zero_add, if_true, if_false, Bool.false_eq_true, size2, size3, size4, size1, size0, truth_bl, itD_row, Bool.not_true, Bool.not_false, ev_iEn2, os_lenRow, os_lenN, eq_tupNil, ne_tupNil, ev_eAnd, ev_eOr, ev_eNot]
      refine ev_lcF N.lanes Lane.enc (fun _ => .tup (nats [])) (fun _ => true) (fun s => Kp any s5 s) ?_
      simp only [ev_eVar, ev_e2, ev_e1, ev_eC, ev_eB, ev_eM, ev_eTup, ev_eLst, ev_eIf, ev_tb, ev_tbB, ev_and2, ev_or2, ev_not1, ev_eCall, ev_eCallK, ev_aCons, ev_aNil, ev_eSl, ev_oNone, ev_oSome, ev_iR1, ev_iSeq, ev_yes, ev_rg1, gN_at, gT_net, gT_lane, gT_tup, gsC_cons, gsN_nil, ex_asg, startD_1, startD_2, startD_3, startD_4, List.replicate, List.getElem?_cons_zero, List.getElem?_cons_succ, List.set_cons_zero, List.set_cons_succ, Option.some.injEq, exists_eq_left', exists_eq_left, exists_eq', List.length_cons, List.length_nil, true_and, and_true, List.cons.injEq, D.int.injEq, D.bl.injEq, D.ref.injEq, D.tup.injEq, Cell.lst.injEq, ix_net0, ix_net1, ix_net2, ix_lane0, ix_lane1, ix_lane2, os_lenT, os_lenL, os_tupL, os_tupT, os_lstT, os_lstL, os_ixT, at0, at1, at2, os_eqI, os_neI, os_eqS, os_neS, os_add, os_sub, os_mul, os_lt, os_le, os_gt, os_ge, os_int, os_intB, os_inN, permL, List.filterMap_cons, List.filterMap_nil, List.nil_append, List.cons_append, wipeD, decide_eq_true_eq, at_push, itD_ref, itD_tup, itD_kl, Nat.reduceAdd, Nat.reduceLT, and_self, Nat.zero_add, if_true, if_false, Bool.false_eq_true, size2, size3, size4, size1, size0, truth_bl, itD_row, Bool.not_true, Bool.not_false, ev_iEn2, os_lenRow, os_lenN, eq_tupNil, ne_tupNil, ev_eAnd, ev_eOr, ev_eNot]
      refine ⟨Kp.refl _, by have := ok.few; omega, fun _ _ => trivial, fun l hl s6 k6 => ⟨k6, fun _ => ⟨k6, rfl⟩⟩, fun s6 k6 => ?_⟩
      have e : (N.lanes.filter fun _ => true).map (fun _ => D.tup (nats [])) = (List.replicate N.lanes.length []).map fun e => D.tup (nats e) := by
        rw [filter_true]
        simp [List.map_const']
      rw [e]
      simp only [ev_body, evs_seq, evs_asgN, evs_ret, evs_expr, evs_if, evs_pass, evs_brk, evs_cnt, evs_par2, evs_par3, ev_eVar, ev_e2, ev_e1, ev_eC, ev_eB, ev_eM, ev_eTup, ev_eLst, ev_eIf, ev_tb, ev_tbB, ev_and2, ev_or2, ev_not1, ev_eCall, ev_eCallK, ev_aCons, ev_aNil, ev_eSl, ev_oNone, ev_oSome, ev_iR1, ev_iSeq, ev_yes, ev_rg1, gN_at, gT_net, gT_lane, gT_tup, gsC_cons, gsN_nil, ex_asg, startD_1, startD_2, startD_3, startD_4, List.replicate, List.getElem?_cons_zero, List.getElem?_cons_succ, List.set_cons_zero, List.set_cons_succ, Option.some.injEq, exists_eq_left', exists_eq_left, exists_eq', List.length_cons, List.length_nil, true_and, and_true, List.cons.injEq, D.int.injEq, D.bl.injEq, D.ref.injEq, D.tup.injEq, Cell.lst.injEq, ix_net0, ix_net1, ix_net2, ix_lane0, ix_lane1, ix_lane2, os_lenT, os_lenL, os_tupL, os_tupT, os_lstT, os_lstL, os_ixT, at0, at1, at2, os_eqI, os_neI, os_eqS, os_neS, os_add, os_sub, os_mul, os_lt, os_le, os_gt, os_ge, os_int, os_intB, os_inN, permL, List.filterMap_cons, List.filterMap_nil, List.nil_append, List.cons_append, wipeD, decide_eq_true_eq, at_push, itD_ref, itD_tup, itD_kl, Nat.reduceAdd, Nat.reduceLT, and_self, Nat.zero_add, if_true, if_false, Bool.false_eq_true, size2, size3, size4, size1, size0, truth_bl, itD_row, Bool.not_true, Bool.not_false, ev_iEn2, os_lenRow, os_lenN, eq_tupNil, ne_tupNil, ev_eAnd, ev_eOr, ev_eNot]
      have k7 := k6.trans (Kp.push s6 (.lst ((List.replicate N.lanes.length []).map fun e => D.tup (nats e))) (fr := any))
      refine right_ev (S := List.replicate N.lanes.length []) ok bare_ok fun s7 k8 => ?_
      simp only [ev_body, evs_seq, evs_asgN, evs_ret, evs_expr, evs_if, evs_pass, evs_brk, evs_cnt, evs_par2, evs_par3, ev_eVar, ev_e2, ev_e1, ev_eC, ev_eB, ev_eM, ev_eTup, ev_eLst, ev_eIf, ev_tb, ev_tbB, ev_and2, ev_or2, ev_not1, ev_eCall, ev_eCallK, ev_aCons, ev_aNil, ev_eSl, ev_oNone, ev_oSome, ev_iR1, ev_iSeq, ev_yes, ev_rg1, gN_at, gT_net, gT_lane, gT_tup, gsC_cons, gsN_nil, ex_asg, startD_1, startD_2, startD_3, startD_4, List.replicate, List.getElem?_cons_zero, List.getElem?_cons_succ, List.set_cons_zero, List.set_cons_succ, Option.some.injEq, exists_eq_left', exists_eq_left, exists_eq', List.length_cons, List.length_nil, true_and, and_true, List.cons.injEq, D.int.injEq, D.bl.injEq, D.ref.injEq, D.tup.injEq, Cell.lst.injEq, ix_net0, ix_net1, ix_net2, ix_lane0, ix_lane1, ix_lane2, os_lenT, os_lenL, os_tupL, os_tupT, os_lstT, os_lstL, os_ixT, at0, at1, at2, os_eqI, os_neI, os_eqS, os_neS, os_add, os_sub, os_mul, os_lt, os_le, os_gt, os_ge, os_int, os_intB, os_inN, permL, List.filterMap_cons, List.filterMap_nil, List.nil_append, List.cons_append, wipeD, decide_eq_true_eq, at_push, itD_ref, itD_tup, itD_kl, Nat.reduceAdd, Nat.reduceLT, and_self, Nat.zero_add, if_true, if_false, Bool.false_eq_true, size2, size3, size4, size1, size0, truth_bl, itD_row, Bool.not_true, Bool.not_false, ev_iEn2, os_lenRow, os_lenN, eq_tupNil, ne_tupNil, ev_eAnd, ev_eOr, ev_eNot]
      exact ⟨⟨_, _, _, _, _, rfl, rfl, rfl, rfl, rfl⟩, dk5.keep (k7.trans k8) (fr := any) trivial trivial⟩
  · rintro ρ1 s2 ⟨⟨t2, t3, t4, t5, t6, rfl⟩, dk2⟩
    refine ⟨trivial, ?_⟩
    rw [evs_ret]
    simp only [ev_eVar, ev_e2, ev_e1, ev_eC, ev_eB, ev_eM, ev_eTup, ev_eLst, ev_eIf, ev_tb, ev_tbB, ev_and2, ev_or2, ev_not1, ev_eCall, ev_eCallK, ev_aCons, ev_aNil, ev_eSl, ev_oNone, ev_oSome, ev_iR1, ev_iSeq, ev_yes, ev_rg1, gN_at, gT_net, gT_lane, gT_tup, gsC_cons, gsN_nil, ex_asg, startD_1, startD_2, startD_3, startD_4, List.replicate, List.getElem?_cons_zero, List.getElem?_cons_succ, List.set_cons_zero, List.set_cons_succ, Option.some.injEq, exists_eq_left', exists_eq_left, exists_eq', List.length_cons, List.length_nil, true_and, and_true, List.cons.injEq, D.int.injEq, D.bl.injEq, D.ref.injEq, D.tup.injEq, Cell.lst.injEq, ix_net0, ix_net1, ix_net2, ix_lane0, ix_lane1, ix_lane2, os_lenT, os_lenL, os_tupL, os_tupT, os_lstT, os_lstL, os_ixT, at0, at1, at2, os_eqI, os_neI, os_eqS, os_neS, os_add, os_sub, os_mul, os_lt, os_le, os_gt, os_ge, os_int, os_intB, os_inN, permL, List.filterMap_cons, List.filterMap_nil, List.nil_append, List.cons_append, wipeD, decide_eq_true_eq, at_push, itD_ref, itD_tup, itD_kl, Nat.reduceAdd, Nat.reduceLT, and_self, Nat.zero_add, if_true, if_false, Bool.false_eq_true, size2, size3, size4, size1, size0, truth_bl, itD_row, Bool.not_true, Bool.not_false, ev_iEn2, os_lenRow, os_lenN, eq_tupNil, ne_tupNil, ev_eAnd, ev_eOr, ev_eNot]
    exact H _
end
end K10

open PySem PySem.W PySem.Calls PyProof.Rows
theorem PySem.Challenge.cw_roomahead_k10_whole_stuck_and_held_fast_holds : PySem.Challenge.rw_roomahead_k10_whole_stuck_and_held_fast.Holds := by
  refine K10.row_of fun ns hl => ?_
  obtain ⟨a, s, e, rfl⟩ := (K10.law_ev (st := []) (P := fun d _ => d = .bl true) hl fun _ => rfl).eq
  exact ⟨s, e⟩
