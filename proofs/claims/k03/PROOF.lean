import PyProof.Rows.All
import Wide.All
import OpenK.AllK
import Wide.FinOn
import HandS.ForMost
import HandS.ForExc
import HandS.Star
import HandS.Wide
import HandS.Flow
import HandS.Style
import HandS.IsInst
import HandS.EndBits
import HandS.TryMany
import HandS.ExcIs
import HandS.Deep
import KE.DataEq
import PySem.Challenge.RW_cuspfloor_k03_products
set_option Elab.async false
set_option linter.all false
set_option maxRecDepth 100000
set_option maxHeartbeats 4000000
/-! Values as trees, and what a piece of the text does to them: a layer over the hand layer. -/
namespace Q
open PySem PySem.Spec PyProof.Rows L2

abbrev Fg := PySem.W.Frag

/-- a value: what never changes is a tree; what may change stands at an address -/
inductive PV where
  | non | bl (b : Bool) | int (i : Int) | str (x : Str) | ty (n : String) | ref (a : Addr)
  | tup (xs : List PV)
  /-- a list that nobody changes -/
  | lst (xs : List PV)
  /-- a list that is only read: the script, one of the module's own -/
  | rdl (xs : List PV)

mutual
inductive Rep (K : Fg) (F : Hp) : PV → V → Prop
  | non : Rep K F .non .non
  | bl (b : Bool) : Rep K F (.bl b) (.bl b)
  | int (i : Int) : Rep K F (.int i) (.int i)
  | str (x : Str) : Rep K F (.str x) (.str x)
  | ty (n : String) : Rep K F (.ty n) (.ty n)
  | ref (a : Addr) : Rep K F (.ref a) (.ref a)
  | tup {a : Addr} {xs : List PV} {vs : List V} : SqT K F a vs → Reps K F xs vs → Rep K F (.tup xs) (.ref a)
  | lst {a : Addr} {xs : List PV} {vs : List V} : F a = some (.lst vs) → Reps K F xs vs → Rep K F (.lst xs) (.ref a)
  | rdl {a : Addr} {xs : List PV} {vs : List V} : SqL K F a vs → Reps K F xs vs → Rep K F (.rdl xs) (.ref a)
inductive Reps (K : Fg) (F : Hp) : List PV → List V → Prop
  | nil : Reps K F [] []
  | cons {x : PV} {v : V} {xs : List PV} {vs : List V} : Rep K F x v → Reps K F xs vs → Reps K F (x :: xs) (v :: vs)
end

theorem sqT_mono {K : Fg} {F F' : Hp} {a : Addr} {vs : List V} (s : Same F F') (h : SqT K F a vs) : SqT K F' a vs := by
  rcases h with (h | ⟨o, h⟩) | h
  · exact .inl (.inl (s _ _ h))
  · exact .inl (.inr ⟨o, s _ _ h⟩)
  · exact .inr h

mutual
theorem Rep.mono {K : Fg} {F F' : Hp} (s : Same F F') : ∀ {x : PV} {v : V}, Rep K F x v → Rep K F' x v
  | _, _, .non => .non
  | _, _, .bl b => .bl b
  | _, _, .int b => .int b
  | _, _, .str b => .str b
  | _, _, .ty b => .ty b
  | _, _, .ref b => .ref b
  | _, _, .tup h r => .tup (sqT_mono s h) (Reps.mono s r)
  | _, _, .lst h r => .lst (s _ _ h) (Reps.mono s r)
  | _, _, .rdl h r => .rdl (s.seq h) (Reps.mono s r)
theorem Reps.mono {K : Fg} {F F' : Hp} (s : Same F F') : ∀ {xs : List PV} {vs : List V}, Reps K F xs vs → Reps K F' xs vs
  | _, _, .nil => .nil
  | _, _, .cons a b => .cons (Rep.mono s a) (Reps.mono s b)
end

theorem Reps.length {K : Fg} {F : Hp} : ∀ {xs : List PV} {vs : List V}, Reps K F xs vs → xs.length = vs.length
  | _, _, .nil => rfl
  | _, _, .cons _ b => by rw [List.length_cons, List.length_cons, b.length]
theorem Reps.get {K : Fg} {F : Hp} : ∀ {xs : List PV} {vs : List V} {i : Nat} {x : PV}, Reps K F xs vs → xs[i]? = some x → ∃ v, vs[i]? = some v ∧ Rep K F x v
  | _, _, _, _, .nil, e => by simp at e
  | _, _, 0, _, .cons a _, e => by
    simp only [List.getElem?_cons_zero, Option.some.injEq] at e
    subst e
    exact ⟨_, rfl, a⟩
  | _, _, i + 1, _, .cons _ b, e => by
    simp only [List.getElem?_cons_succ] at e
    simpa using b.get e
theorem Reps.getV {K : Fg} {F : Hp} : ∀ {xs : List PV} {vs : List V} {i : Nat} {v : V}, Reps K F xs vs → vs[i]? = some v → ∃ x, xs[i]? = some x ∧ Rep K F x v
  | _, _, _, _, .nil, e => by simp at e
  | _, _, 0, _, .cons a _, e => by
    simp only [List.getElem?_cons_zero, Option.some.injEq] at e
    subst e
    exact ⟨_, rfl, a⟩
  | _, _, i + 1, _, .cons _ b, e => by
    simp only [List.getElem?_cons_succ] at e
    simpa using b.getV e
theorem Reps.append {K : Fg} {F : Hp} : ∀ {xs ys : List PV} {vs ws : List V}, Reps K F xs vs → Reps K F ys ws → Reps K F (xs ++ ys) (vs ++ ws)
  | _, _, _, _, .nil, s => s
  | _, _, _, _, .cons a b, s => .cons a (b.append s)
theorem Reps.set {K : Fg} {F : Hp} {x : PV} {v : V} (r : Rep K F x v) : ∀ {xs : List PV} {vs : List V} (i : Nat), Reps K F xs vs → Reps K F (xs.set i x) (vs.set i v)
  | _, _, _, .nil => .nil
  | _, _, 0, .cons _ b => .cons r b
  | _, _, i + 1, .cons a b => .cons a (Reps.set r i b)
theorem Reps.take {K : Fg} {F : Hp} : ∀ {xs : List PV} {vs : List V} (n : Nat), Reps K F xs vs → Reps K F (xs.take n) (vs.take n)
  | _, _, 0, _ => .nil
  | _, _, _ + 1, .nil => .nil
  | _, _, n + 1, .cons a b => .cons a (b.take n)
theorem Reps.drop {K : Fg} {F : Hp} : ∀ {xs : List PV} {vs : List V} (n : Nat), Reps K F xs vs → Reps K F (xs.drop n) (vs.drop n)
  | _, _, 0, r => r
  | _, _, _ + 1, .nil => .nil
  | _, _, n + 1, .cons _ b => b.drop n
theorem Reps.dropLast {K : Fg} {F : Hp} {xs : List PV} {vs : List V} (r : Reps K F xs vs) : Reps K F xs.dropLast vs.dropLast := by
  rw [List.dropLast_eq_take, List.dropLast_eq_take, r.length]
  exact r.take _
theorem Reps.rev {K : Fg} {F : Hp} : ∀ {xs : List PV} {vs : List V}, Reps K F xs vs → Reps K F xs.reverse vs.reverse
  | _, _, .nil => .nil
  | _, _, .cons a b => by
    rw [List.reverse_cons, List.reverse_cons]
    exact b.rev.append (.cons a .nil)
theorem Reps.rep {K : Fg} {F : Hp} {xs : List PV} {vs : List V} (r : Reps K F xs vs) : ∀ n : Nat, Reps K F (List.replicate n xs).flatten (List.replicate n vs).flatten
  | 0 => .nil
  | n + 1 => by
    rw [List.replicate_succ, List.replicate_succ, List.flatten_cons, List.flatten_cons]
    exact r.append (r.rep n)
theorem Reps.ints {K : Fg} {F : Hp} : ∀ (ns : List Int), Reps K F (ns.map PV.int) (ns.map V.int)
  | [] => .nil
  | n :: ns => .cons (.int n) (Reps.ints ns)

/-! ### what may change -/
inductive MO where
  | lst (xs : List PV)
  | dK (kvs : List (Key × PV))
  | ins (C : Addr) (fs : List (Str × PV))
abbrev PM := Addr → Option MO
def updM (M : PM) (a : Addr) (o : MO) : PM := fun b => if b = a then some o else M b
def delM (M : PM) (a : Addr) : PM := fun b => if b = a then none else M b
@[simp] theorem updM_same {M : PM} {a : Addr} {o : MO} : updM M a o a = some o := by unfold updM; rw [if_pos rfl]
theorem updM_ne {M : PM} {a b : Addr} {o : MO} (h : b ≠ a) : updM M a o b = M b := by unfold updM; rw [if_neg h]
@[simp] theorem updM_updM {M : PM} {a : Addr} {o u : MO} : updM (updM M a o) a u = updM M a u := by
  funext b; unfold updM; split <;> rfl
inductive RepKV (K : Fg) (F : Hp) : List (Key × PV) → List (Key × V) → Prop
  | nil : RepKV K F [] []
  | cons {k : Key} {x : PV} {v : V} {xs : List (Key × PV)} {vs : List (Key × V)} : Rep K F x v → RepKV K F xs vs → RepKV K F ((k, x) :: xs) ((k, v) :: vs)
inductive RepFs (K : Fg) (F : Hp) : List (Str × PV) → List (Str × V) → Prop
  | nil : RepFs K F [] []
  | cons {k : Str} {x : PV} {v : V} {xs : List (Str × PV)} {vs : List (Str × V)} : Rep K F x v → RepFs K F xs vs → RepFs K F ((k, x) :: xs) ((k, v) :: vs)
theorem RepKV.mono {K : Fg} {F F' : Hp} (s : Same F F') : ∀ {xs : List (Key × PV)} {vs : List (Key × V)}, RepKV K F xs vs → RepKV K F' xs vs
  | _, _, .nil => .nil
  | _, _, .cons a b => .cons (a.mono s) (b.mono s)
theorem RepFs.mono {K : Fg} {F F' : Hp} (s : Same F F') : ∀ {xs : List (Str × PV)} {vs : List (Str × V)}, RepFs K F xs vs → RepFs K F' xs vs
  | _, _, .nil => .nil
  | _, _, .cons a b => .cons (a.mono s) (b.mono s)
def MRep (K : Fg) (F H : Hp) (a : Addr) : MO → Prop
  | .lst xs => ∃ vs, H a = some (.lst vs) ∧ Reps K F xs vs
  | .dK kvs => ∃ ws, H a = some (.dK ws) ∧ RepKV K F kvs ws
  | .ins C fs => ∃ dx gs, H a = some (.ins C dx gs) ∧ RepFs K F fs gs ∧ H dx = some (.own a)
theorem MRep.mut {K : Fg} {F H : Hp} {a : Addr} {o : MO} (h : MRep K F H a o) : Mut (H a) := by
  cases o with
  | lst xs => obtain ⟨vs, e, _⟩ := h; rw [e]; trivial
  | dK xs => obtain ⟨vs, e, _⟩ := h; rw [e]; trivial
  | ins C xs => obtain ⟨dx, vs, e, _⟩ := h; rw [e]; trivial
theorem MRep.some {K : Fg} {F H : Hp} {a : Addr} {o : MO} (h : MRep K F H a o) : ∃ u, H a = some u := by
  cases o with
  | lst xs => obtain ⟨vs, e, _⟩ := h; exact ⟨_, e⟩
  | dK xs => obtain ⟨vs, e, _⟩ := h; exact ⟨_, e⟩
  | ins C xs => obtain ⟨dx, vs, e, _⟩ := h; exact ⟨_, e⟩
/-- F: what never changes; M: what may -/
structure Rel (K : Fg) (F : Hp) (M : PM) (H : Hp) : Prop where
  sub : Same F H
  dis : ∀ a o, M a = some o → F a = none
  chg : ∀ a o, M a = some o → MRep K F H a o
theorem Rel.newF {K : Fg} {F : Hp} {M : PM} {H : Hp} (r : Rel K F M H) {p : Addr} (hp : H p = none) (o : HO) : Rel K (upd F p o) M (upd H p o) ∧ Same F (upd F p o) := by
  have hF : F p = none := by
    cases e : F p with
    | none => rfl
    | some u => rw [r.sub p u e] at hp; cases hp
  have hS : Same F (upd F p o) := fun b u e => by rw [upd_ne (ne_of_none e hF)]; exact e
  have neM : ∀ a u, M a = some u → a ≠ p := fun a u e z => by
    subst z
    obtain ⟨w, q⟩ := (r.chg a u e).some
    rw [hp] at q; cases q
  refine ⟨⟨fun b u e => ?_, fun a u e => ?_, fun a u e => ?_⟩, hS⟩
  · by_cases hb : b = p
    · subst hb
      rw [upd_same] at e ⊢
      exact e
    · rw [upd_ne hb] at e ⊢
      exact r.sub b u e
  · rw [upd_ne (neM a u e)]
    exact r.dis a u e
  · have h := r.chg a u e
    cases u with
    | lst xs =>
      obtain ⟨vs, e1, e2⟩ := h
      exact ⟨vs, by rw [upd_ne (neM a _ e)]; exact e1, e2.mono hS⟩
    | dK xs =>
      obtain ⟨vs, e1, e2⟩ := h
      exact ⟨vs, by rw [upd_ne (neM a _ e)]; exact e1, e2.mono hS⟩
    | ins C xs =>
      obtain ⟨dx, vs, e1, e2, e3⟩ := h
      exact ⟨dx, vs, by rw [upd_ne (neM a _ e)]; exact e1, e2.mono hS, by rw [upd_ne (ne_of_none e3 hp)]; exact e3⟩
theorem Rel.fresh {K : Fg} {F : Hp} {M : PM} {H : Hp} (r : Rel K F M H) {p : Addr} (hp : H p = none) : F p = none ∧ M p = none := by
  refine ⟨?_, ?_⟩
  · cases e : F p with
    | none => rfl
    | some u => rw [r.sub p u e] at hp; cases hp
  · cases e : M p with
    | none => rfl
    | some u =>
      obtain ⟨w, q⟩ := (r.chg p u e).some
      rw [hp] at q; cases q
/-- a tracked thing is laid or changed -/
theorem Rel.put {K : Fg} {F : Hp} {M : PM} {H : Hp} (r : Rel K F M H) {p : Addr} (hF : F p = none) (hown : ∀ x, H p ≠ some (.own x)) {o : HO} {m : MO} (h : MRep K F (upd H p o) p m) : Rel K F (updM M p m) (upd H p o) := by
  refine ⟨fun b u e => ?_, fun a u e => ?_, fun a u e => ?_⟩
  · rw [upd_ne (ne_of_none e hF)]
    exact r.sub b u e
  · by_cases ha : a = p
    · rw [ha]; exact hF
    · rw [updM_ne ha] at e
      exact r.dis a u e
  · by_cases ha : a = p
    · subst ha
      rw [updM_same] at e
      cases e
      exact h
    · rw [updM_ne ha] at e
      have z := r.chg a u e
      cases u with
      | lst xs =>
        obtain ⟨vs, e1, e2⟩ := z
        exact ⟨vs, by rw [upd_ne ha]; exact e1, e2⟩
      | dK xs =>
        obtain ⟨vs, e1, e2⟩ := z
        exact ⟨vs, by rw [upd_ne ha]; exact e1, e2⟩
      | ins C xs =>
        obtain ⟨dx, vs, e1, e2, e3⟩ := z
        refine ⟨dx, vs, by rw [upd_ne ha]; exact e1, e2, ?_⟩
        have : dx ≠ p := fun z => hown a (z ▸ e3)
        rw [upd_ne this]
        exact e3
theorem Rel.newL {K : Fg} {F : Hp} {M : PM} {H : Hp} (r : Rel K F M H) {p : Addr} (hp : H p = none) {xs : List PV} {vs : List V} (h : Reps K F xs vs) : Rel K F (updM M p (.lst xs)) (upd H p (.lst vs)) :=
  r.put (r.fresh hp).1 (fun x e => by rw [hp] at e; cases e) ⟨vs, upd_same, h⟩
theorem Rel.getL {K : Fg} {F : Hp} {M : PM} {H : Hp} (r : Rel K F M H) {p : Addr} {xs : List PV} (e : M p = some (.lst xs)) : ∃ vs, H p = some (.lst vs) ∧ Reps K F xs vs := r.chg p _ e
theorem Rel.setL {K : Fg} {F : Hp} {M : PM} {H : Hp} (r : Rel K F M H) {p : Addr} {o : MO} (e : M p = some o) {xs : List PV} {vs : List V} (h : Reps K F xs vs) : Rel K F (updM M p (.lst xs)) (upd H p (.lst vs)) :=
  r.put (r.dis p o e) (fun x z => by have q := (r.chg p o e).mut; rw [z] at q; exact q) ⟨vs, upd_same, h⟩
theorem Rel.upF {K : Fg} {F F' : Hp} {M : PM} {H : Hp} (r : Rel K F' M H) (s : Same F F') : Same F H := fun a o e => r.sub a o (s a o e)

/-! ### slots -/
abbrev Tau := List (Option PV)
structure SRel (K : Fg) (F : Hp) (τ : Tau) (σ : L2.St) : Prop where
  len : τ.length = σ.length
  at_ : ∀ (i : Nat) (x : PV), τ[i]? = some (some x) → ∃ v, σ[i]? = some (some v) ∧ Rep K F x v
theorem SRel.mono {K : Fg} {F F' : Hp} {τ : Tau} {σ : L2.St} (r : SRel K F τ σ) (s : Same F F') : SRel K F' τ σ :=
  ⟨r.len, fun i x e => let ⟨v, e1, e2⟩ := r.at_ i x e; ⟨v, e1, e2.mono s⟩⟩
theorem SRel.set {K : Fg} {F : Hp} {τ : Tau} {σ : L2.St} (r : SRel K F τ σ) {x : PV} {v : V} (h : Rep K F x v) (i : Nat) : SRel K F (τ.set i (some x)) (σ.set i (some v)) := by
  refine ⟨by simp [r.len], fun j y e => ?_⟩
  by_cases hj : i = j
  · subst hj
    by_cases hl : i < τ.length
    · rw [List.getElem?_set_self hl] at e
      cases e
      exact ⟨v, List.getElem?_set_self (by rw [← r.len]; exact hl), h⟩
    · rw [List.getElem?_eq_none (by simpa using hl)] at e
      cases e
  · rw [List.getElem?_set_ne hj] at e ⊢
    exact r.at_ j y e
theorem SRel.unset {K : Fg} {F : Hp} {τ : Tau} {σ : L2.St} (r : SRel K F τ σ) (i : Nat) : SRel K F (τ.set i none) (σ.set i none) := by
  refine ⟨by simp [r.len], fun j y e => ?_⟩
  by_cases hj : i = j
  · subst hj
    by_cases hl : i < τ.length
    · rw [List.getElem?_set_self hl] at e
      cases e
    · rw [List.getElem?_eq_none (by simpa using hl)] at e
      cases e
  · rw [List.getElem?_set_ne hj] at e ⊢
    exact r.at_ j y e
@[simp] def startQ (N : List Str) (xs : List PV) : Tau := xs.map some ++ List.replicate (N.length - xs.length) none
theorem SRel.start {K : Fg} {F : Hp} {N : List Str} {xs : List PV} {vs : List V} (r : Reps K F xs vs) : SRel K F (startQ N xs) (start N vs) := by
  have hl := r.length
  refine ⟨by simp [startQ, L2.start, hl], fun i x e => ?_⟩
  unfold startQ at e
  unfold L2.start
  by_cases hi : i < xs.length
  · rw [List.getElem?_append_left (by simpa using hi), List.getElem?_map] at e
    cases q : xs[i]? with
    | none => rw [q] at e; cases e
    | some y =>
      rw [q] at e
      cases e
      obtain ⟨v, e1, e2⟩ := r.get q
      refine ⟨v, ?_, e2⟩
      rw [List.getElem?_append_left (by simpa [← hl] using hi), List.getElem?_map, e1]
      rfl
  · rw [List.getElem?_append_right (by simpa using hi), List.getElem?_replicate] at e
    split at e <;> cases e

/-! ### exceptions -/
structure PEx where
  cls : Value
  fs : Option (List (Str × PV))
def ExRep (K : Fg) (F : Hp) (e : PEx) (cls : Value) (d : Option Addr) : Prop :=
  cls = e.cls ∧ match e.fs, d with
    | none, none => True
    | some fs, some a => ∃ gs, F a = some (.xd gs) ∧ RepFs K F fs gs
    | _, _ => False
theorem ExRep.mono {K : Fg} {F F' : Hp} {e : PEx} {cls : Value} {d : Option Addr} (h : ExRep K F e cls d) (s : Same F F') : ExRep K F' e cls d := by
  obtain ⟨h1, h2⟩ := h
  refine ⟨h1, ?_⟩
  revert h2
  cases e.fs <;> cases d <;> intro h2
  · trivial
  · exact h2
  · exact h2
  · obtain ⟨gs, e1, e2⟩ := h2
    exact ⟨gs, s _ _ e1, e2.mono s⟩

/-! ### continuations, readings -/
abbrev PK := PV → PM → Prop
abbrev PX := PEx → PM → Prop
abbrev PXW := PEx → Tau → PM → Prop
abbrev QE := Tau → PM → PX → PK → Prop
abbrev QT := Tau → PM → PX → (Bool → PM → Prop) → Prop
abbrev QA := Tau → PM → PX → (List PV → PM → Prop) → Prop
structure PEnds where
  nx : Tau → PM → Prop
  rt : PK
  bk : Tau → PM → Prop := fun _ _ => False
  ct : Tau → PM → Prop := fun _ _ => False
  ex : PXW := fun _ _ _ => False
abbrev QS := PEnds → Tau → PM → Prop
abbrev QG := PV → Tau → PM → (Tau → PM → Prop) → Prop
abbrev QGs := List PV → Tau → PM → (Tau → PM → Prop) → Prop

def lW (K : Fg) (B : Hp) (w : PXW) : WX := fun cls d σ H => ∃ F τ M e, Same B F ∧ Rel K F M H ∧ SRel K F τ σ ∧ ExRep K F e cls d ∧ w e τ M
/-- where one stands -/
structure At (K : Fg) (B F : Hp) (τ : Tau) (M : PM) (σ : L2.St) (H : Hp) : Prop where
  b : Same B F
  r : Rel K F M H
  s : SRel K F τ σ
theorem At.next {K : Fg} {B F F' : Hp} {τ : Tau} {M M' : PM} {σ : L2.St} {H H' : Hp} (a : At K B F τ M σ H) (s : Same F F') (r : Rel K F' M' H') : At K B F' τ M' σ H' := ⟨a.b.trans s, r, a.s.mono s⟩
def lE (X : Cx) (B : Hp) (f : QE) : TE := fun σ H Q => ∃ F τ M x k, At X.K B F τ M σ H ∧ f τ M x k ∧ Takes X (lW X.K B fun e τ' M' => τ' = τ ∧ x e M') ∧
  ∀ r M' F' v H', k r M' → Same F F' → Rel X.K F' M' H' → Rep X.K F' r v → Q v H'
def lT (X : Cx) (B : Hp) (f : QT) : TT := fun σ H Q => ∃ F τ M x k, At X.K B F τ M σ H ∧ f τ M x k ∧ Takes X (lW X.K B fun e τ' M' => τ' = τ ∧ x e M') ∧
  ∀ b M' F' H', k b M' → Same F F' → Rel X.K F' M' H' → Q b H'
def lA (X : Cx) (B : Hp) (f : QA) : TA := fun σ H Q => ∃ F τ M x k, At X.K B F τ M σ H ∧ f τ M x k ∧ Takes X (lW X.K B fun e τ' M' => τ' = τ ∧ x e M') ∧
  ∀ rs M' F' vs H', k rs M' → Same F F' → Rel X.K F' M' H' → Reps X.K F' rs vs → Q vs H'
structure DOk (K : Fg) (F : Hp) (d : PEnds) (D : Ends) : Prop where
  nx : ∀ τ M F' σ H, d.nx τ M → Same F F' → Rel K F' M H → SRel K F' τ σ → D.nx σ H
  rt : ∀ r M F' v H, d.rt r M → Same F F' → Rel K F' M H → Rep K F' r v → D.rt v H
  bk : ∀ τ M F' σ H, d.bk τ M → Same F F' → Rel K F' M H → SRel K F' τ σ → D.bk σ H
  ct : ∀ τ M F' σ H, d.ct τ M → Same F F' → Rel K F' M H → SRel K F' τ σ → D.ct σ H
theorem DOk.mono {K : Fg} {F F' : Hp} {d : PEnds} {D : Ends} (h : DOk K F d D) (s : Same F F') : DOk K F' d D :=
  ⟨fun τ M G σ H a b => h.nx τ M G σ H a (s.trans b), fun r M G v H a b => h.rt r M G v H a (s.trans b), fun τ M G σ H a b => h.bk τ M G σ H a (s.trans b), fun τ M G σ H a b => h.ct τ M G σ H a (s.trans b)⟩
def lS (X : Cx) (B : Hp) (f : QS) : TS := fun D σ H => ∃ F τ M d, At X.K B F τ M σ H ∧ f d τ M ∧ Takes X (lW X.K B d.ex) ∧ DOk X.K F d D
def lG (X : Cx) (B : Hp) (g : QG) : TG := fun v σ H Q => ∃ F τ M p k, At X.K B F τ M σ H ∧ Rep X.K F p v ∧ g p τ M k ∧
  ∀ τ' M' F' σ' H', k τ' M' → Same F F' → Rel X.K F' M' H' → SRel X.K F' τ' σ' → Q σ' H'
def lGs (X : Cx) (B : Hp) (g : QGs) : TGs := fun vs σ H Q => ∃ F τ M ps k, At X.K B F τ M σ H ∧ Reps X.K F ps vs ∧ g ps τ M k ∧
  ∀ τ' M' F' σ' H', k τ' M' → Same F F' → Rel X.K F' M' H' → SRel X.K F' τ' σ' → Q σ' H'

/-! ### the context -/
structure Glb where
  P : Program
  w : World
  K : Fg
  mg : Str → Option Value
  base : Heap
structure Cf where
  g : Glb
  N : List Str
  sc : Scope
  k : Nat
structure Good (c : Cf) (X : Cx) : Prop where
  prog : X.prog = c.g.P
  w : X.w = c.g.w
  K : X.K = c.g.K
  mg : X.mg = c.g.mg
  base : X.base = c.g.base
  N : X.N = c.N
  sc : X.env.scope = c.sc
  room : Room c.k X.A
  calm : X.calm = true
  grd : X.A.guards = some []
structure GoodS (c : Cf) (X : Cx) : Prop extends Good c X where
  stk : X.stack = X.env :: X.outer
  fr : X.env.frame = some X.env.locals
  ex : X.ex = []
  fn : X.fn = fun _ => true
  pass : PassesOwn (model X.prog X.w) X.A X.env X.xe

def DE (c : Cf) (e : Expr) (f : QE) : Prop := ∀ X, Good c X → ∀ B, PE X e (lE X B f)
def DT (c : Cf) (e : Expr) (f : QT) : Prop := ∀ X, Good c X → ∀ B, PT X e (lT X B f)
def DW (c : Cf) (e : Expr) (f : QT) : Prop := ∀ X, Good c X → ∀ B, PW X e (lT X B f)
def DA (c : Cf) (es : List Expr) (f : QA) : Prop := ∀ X, Good c X → ∀ B, PA X es (lA X B f)
def DS (c : Cf) (st : Stmt) (f : QS) : Prop := ∀ X, GoodS c X → ∀ B, PS X st (lS X B f)
def DSs (c : Cf) (st : List Stmt) (f : QS) : Prop := ∀ X, GoodS c X → ∀ B, PSs X st (lS X B f)
def DG (c : Cf) (tg : Expr) (g : QG) : Prop := ∀ X, GoodS c X → ∀ B, PG X tg (lG X B g)
def DGs (c : Cf) (ts : List Expr) (g : QGs) : Prop := ∀ X, GoodS c X → ∀ B, PGs X ts (lGs X B g)

theorem _root_.L2.PE.of {X : Cx} {e : Expr} {t' : TE} (h : ∀ σ H Q, t' σ H Q → ∃ t, PE X e t ∧ t σ H Q) : PE X e t' := ⟨fun pins s σ H Q I hw => let ⟨t, he, ht⟩ := h σ H Q hw; he.run pins s σ H Q I ht⟩
theorem _root_.L2.PE.im {X : Cx} {e : Expr} {t t' : TE} (p : PE X e t) (h : ∀ σ H Q, t' σ H Q → t σ H Q) : PE X e t' := ⟨fun pins s σ H Q I hw => p.run pins s σ H Q I (h σ H Q hw)⟩
theorem _root_.L2.PT.im {X : Cx} {e : Expr} {t t' : TT} (p : PT X e t) (h : ∀ σ H Q, t' σ H Q → t σ H Q) : PT X e t' := ⟨fun pins s σ H Q I hw => p.run pins s σ H Q I (h σ H Q hw)⟩
theorem _root_.L2.PW.im {X : Cx} {e : Expr} {t t' : TT} (p : PW X e t) (h : ∀ σ H Q, t' σ H Q → t σ H Q) : PW X e t' := ⟨fun wh pins s σ H Q I hw => p.run wh pins s σ H Q I (h σ H Q hw)⟩
theorem _root_.L2.PA.im {X : Cx} {e : List Expr} {t t' : TA} (p : PA X e t) (h : ∀ σ H Q, t' σ H Q → t σ H Q) : PA X e t' := ⟨fun pos pins s σ H Q I hw => p.run pos pins s σ H Q I (h σ H Q hw)⟩
theorem _root_.L2.PS.im {X : Cx} {e : Stmt} {t t' : TS} (p : PS X e t) (h : ∀ D σ H, t' D σ H → t D σ H) : PS X e t' := ⟨fun pins s σ H D I hw => p.run pins s σ H D I (h D σ H hw)⟩
theorem _root_.L2.PS.of {X : Cx} {e : Stmt} {t' : TS} (h : ∀ D σ H, t' D σ H → ∃ t, PS X e t ∧ t D σ H) : PS X e t' := ⟨fun pins s σ H D I hw => let ⟨t, he, ht⟩ := h D σ H hw; he.run pins s σ H D I ht⟩
theorem _root_.L2.PSs.im {X : Cx} {e : List Stmt} {t t' : TS} (p : PSs X e t) (h : ∀ D σ H, t' D σ H → t D σ H) : PSs X e t' := ⟨fun pins s σ H D I hw => p.run pins s σ H D I (h D σ H hw)⟩
theorem _root_.L2.PG.im {X : Cx} {e : Expr} {t t' : TG} (p : PG X e t) (h : ∀ v σ H Q, t' v σ H Q → t v σ H Q) : PG X e t' := ⟨fun pins s σ H v u Q I r hw => p.run pins s σ H v u Q I r (h v σ H Q hw)⟩
theorem _root_.L2.PGs.im {X : Cx} {e : List Expr} {t t' : TGs} (p : PGs X e t) (h : ∀ v σ H Q, t' v σ H Q → t v σ H Q) : PGs X e t' := ⟨fun pins s σ H vs us Q I r hw => p.run pins s σ H vs us Q I r (h vs σ H Q hw)⟩

/-! ### names, constants -/
@[simp] def qVar (i : Nat) : QE := fun τ M _ k => match τ[i]? with
  | some (some x) => k x M
  | _ => False
@[simp] def qC (v : PV) : QE := fun _ M _ k => k v M
theorem vis_of {X : Cx} {sc : Scope} {x : Str} (h : X.env.scope = sc) (v : Vis sc x) : Vis X.env.scope x := by rw [h]; exact v
theorem de_var {c : Cf} (i : Nat) {x : Str} {pos : Pos} (hN : c.N[i]? = some x := by rfl) (hv : Vis c.sc x := by first | exact Or.inl rfl | exact Or.inr (Or.inl rfl) | exact Or.inr (Or.inr rfl)) (hd : (x == ("__debug__" : Str)) = false := by decide) (hcd : (x == ("__classdict__" : Str)) = false := by decide) : DE c (.Name x pos) (qVar i) := fun X g B => by
  refine (pe_var (X := X) (i := i) (by rw [g.N]; exact hN) (vis_of g.sc hv) hd hcd).im fun σ H Q => ?_
  rintro ⟨F, τ, M, x, k, a, hf, _, hk⟩
  unfold qVar at hf
  split at hf
  · rename_i x e
    obtain ⟨v, e1, e2⟩ := a.s.at_ i x e
    exact ⟨v, e1, hk _ _ F _ _ hf (Same.refl _) a.r e2⟩
  · exact hf.elim
theorem de_c {c : Cf} {e : Expr} {p : PV} {v : V} (h : ∀ X, Good c X → PE X e (tC v)) (r : ∀ F, Rep c.g.K F p v) : DE c e (qC p) := fun X g B => by
  refine (h X g).im fun σ H Q => ?_
  rintro ⟨F, τ, M, x, k, a, hf, _, hk⟩
  exact hk _ _ F _ _ hf (Same.refl _) a.r (by rw [g.K]; exact r F)
theorem de_int {c : Cf} {i j pos} : DE c (.Constant (.int i) j pos) (qC (.int i)) := de_c (fun _ _ => pe_int) fun _ => .int i
theorem de_bl {c : Cf} {i j pos} : DE c (.Constant (.bool i) j pos) (qC (.bl i)) := de_c (fun _ _ => pe_bl) fun _ => .bl i
theorem de_non {c : Cf} {j pos} : DE c (.Constant .none j pos) (qC .non) := de_c (fun _ _ => pe_non) fun _ => .non
theorem de_str {c : Cf} {x j pos} : DE c (.Constant (.str x) j pos) (qC (.str x)) := de_c (fun _ _ => pe_str) fun _ => .str x
/-- a constant of the module -/
def HasC (g : Glb) (x : Str) (p : PV) : Prop := ∃ v u, g.mg x = some u ∧ RelV v u ∧ ∀ F, Rep g.K F p v
theorem gl_of {X : Cx} {sc : Scope} {x : Str} (h : X.env.scope = sc) (v : sc.names.lookup x = some .globalImplicit) : Gl X x := by
  show List.lookup x X.env.scope.names = _
  rw [h]; exact v
theorem de_glob {c : Cf} {x : Str} {p : PV} {pos : Pos} (hm : HasC c.g x p) (hg : c.sc.names.lookup x = some .globalImplicit) (hd : (x == ("__debug__" : Str)) = false := by decide) : DE c (.Name x pos) (qC p) := by
  obtain ⟨v, u, h1, h2, h3⟩ := hm
  exact de_c (fun X g => pe_glob (gl_of g.sc hg) (by rw [g.mg]; exact h1) h2 hd) h3
theorem de_ty {c : Cf} {x : Str} {T : String} {pos : Pos} (hm : c.g.mg x = none) (hg : c.sc.names.lookup x = some .globalImplicit) (hv : bootBuiltins x = some (.type T)) (hn : x ≠ "__name__" := by decide) (hd : (x == ("__debug__" : Str)) = false := by decide) : DE c (.Name x pos) (qC (.ty T)) :=
  de_c (fun X g => pe_bltn (v := .ty T) (gl_of g.sc hg) (by rw [g.mg]; exact hm) hv rfl hn hd) fun _ => .ty T

/-! ### operators by values -/
abbrev Q2 := PV → PV → PM → PK → Prop
def lR (K : Fg) (r : Q2) : R2 := fun x y H Q => ∃ F p q M k, Rel K F M H ∧ Rep K F p x ∧ Rep K F q y ∧ r p q M k ∧ ∀ z M' F' v H', k z M' → Same F F' → Rel K F' M' H' → Rep K F' z v → Q v H'
def OQ (c : Cf) (f : Value → Value → Sem Value) (r : Q2) : Prop := ∀ X, Good c X → OpR X f (lR X.K r)
@[simp] def qBin (r : Q2) (fa fb : QE) : QE := fun τ M x k => fa τ M x fun p M1 => fb τ M1 x fun q M2 => r p q M2 k
theorem two {X : Cx} {B : Hp} {fa fb : QE} {r : Q2} {σ : L2.St} {H : Hp} {Q : VK} (h : lE X B (qBin r fa fb) σ H Q) : tOp (lR X.K r) (lE X B fa) (lE X B fb) σ H Q := by
  obtain ⟨F, τ, M, x, k, a, hf, tk, hk⟩ := h
  refine ⟨F, τ, M, x, _, a, hf, tk, fun p M1 F1 v1 H1 h1 s1 r1 e1 => ?_⟩
  refine ⟨F1, τ, M1, x, _, a.next s1 r1, h1, tk, fun q M2 F2 v2 H2 h2 s2 r2 e2 => ?_⟩
  exact ⟨F2, p, q, M2, k, r2, e1.mono s2, e2, h2, fun z M' F' v H' hz s' r' e' => hk z M' F' v H' hz ((s1.trans s2).trans s') r' e'⟩
theorem de_bin {c : Cf} {a b : Expr} {op : Operator} {pos : Pos} {r : Q2} {fa fb : QE} (ho : OQ c (binaryOp op) r) (ha : DE c a fa) (hb : DE c b fb) : DE c (.BinOp a op b pos) (qBin r fa fb) := fun X g B =>
  (pe_op (ho X g) (ha X g B) (hb X g B)).im fun _ _ _ h => two h
theorem de_cmp {c : Cf} {a b : Expr} {op : CmpOp} {pos : Pos} {r : Q2} {fa fb : QE} (ho : OQ c (compareOp op) r) (ha : DE c a fa) (hb : DE c b fb) (hm : behindInMarks op b = false) : DE c (.Compare a [op] [b] pos) (qBin r fa fb) := fun X g B =>
  (pe_cmpR (ho X g) (ha X g B) (hb X g B) hm).im fun _ _ _ h => two h
def isBl : PV → PM → (Bool → PM → Prop) → Prop
  | .bl b, M, k => k b M
  | _, _, _ => False
set_option autoImplicit true in
@[simp] theorem isBl_s1 : isBl  (.bl b) M k = (k b M) := rfl
@[simp] def qTest (f : QE) : QT := fun τ M x k => f τ M x fun v M' => isBl v M' k
theorem dt_cmp {c : Cf} {a b : Expr} {op : CmpOp} {pos : Pos} {r : Q2} {fa fb : QE} (ho : OQ c (compareOp op) r) (ha : DE c a fa) (hb : DE c b fb) (hm : behindInMarks op b = false) : DT c (.Compare a [op] [b] pos) (qTest (qBin r fa fb)) := fun X g B => by
  refine (pt_cmpR (ho X g) (ha X g B) (hb X g B) hm).im fun σ H Q => ?_
  rintro ⟨F, τ, M, x, k, a, hf, tk, hk⟩
  refine two ⟨F, τ, M, x, _, a, hf, tk, fun r M' F' v H' h' s' r' e' => ?_⟩
  cases e' with
  | bl b => exact ⟨b, rfl, hk _ _ _ _ h' s' r'⟩
  | _ => exact h'.elim
/-- truth -/
def truthP : PV → PM → (Bool → PM → Prop) → Prop
  | .non, M, k => k false M
  | .bl b, M, k => k b M
  | .int i, M, k => k (i != 0) M
  | .str x, M, k => x.length ≤ sizeLine ∧ k ((x.length : Int) != 0) M
  | .tup xs, M, k => k (!xs.isEmpty) M
  | .lst xs, M, k => k (!xs.isEmpty) M
  | .rdl xs, M, k => k (!xs.isEmpty) M
  | .ref a, M, k => match M a with
    | some (.lst xs) => k (!xs.isEmpty) M
    | _ => False
  | .ty _, _, _ => False
set_option autoImplicit true in
@[simp] theorem truthP_s1 : truthP  .non M k = (k false M) := rfl
set_option autoImplicit true in
@[simp] theorem truthP_s2 : truthP  (.bl b) M k = (k b M) := rfl
set_option autoImplicit true in
@[simp] theorem truthP_s3 : truthP  (.int i) M k = (k (i != 0) M) := rfl
set_option autoImplicit true in
@[simp] theorem truthP_s4 : truthP  (.str x) M k = (x.length ≤ sizeLine ∧ k ((x.length : Int) != 0) M) := rfl
set_option autoImplicit true in
@[simp] theorem truthP_s5 : truthP  (.tup xs) M k = (k (!xs.isEmpty) M) := rfl
set_option autoImplicit true in
@[simp] theorem truthP_s6 : truthP  (.lst xs) M k = (k (!xs.isEmpty) M) := rfl
set_option autoImplicit true in
@[simp] theorem truthP_s7 : truthP  (.rdl xs) M k = (k (!xs.isEmpty) M) := rfl
set_option autoImplicit true in
@[simp] theorem truthP_s8 : truthP  (.ref a) M k = (match M a with
    | some (.lst xs) => k (!xs.isEmpty) M
    | _ => False) := rfl
theorem reps_emp {K : Fg} {F : Hp} {xs : List PV} {vs : List V} (r : Reps K F xs vs) : (!xs.isEmpty) = !vs.isEmpty := by cases r <;> rfl
theorem truthP_ok {K : Fg} {F : Hp} {M : PM} {H : Hp} {p : PV} {v : V} {k : Bool → PM → Prop} (R : Rel K F M H) (e : Rep K F p v) (h : truthP p M k) : ∃ b, TruV K v H b ∧ k b M := by
  cases e with
  | non => exact ⟨_, rfl, h⟩
  | bl b => exact ⟨_, rfl, h⟩
  | int i => exact ⟨_, rfl, h⟩
  | str x => exact ⟨_, ⟨h.1, rfl⟩, h.2⟩
  | ty n => exact h.elim
  | ref a =>
    have h' : (match M a with | some (.lst xs) => k (!xs.isEmpty) M | _ => False) := h
    split at h'
    · rename_i xs e2
      obtain ⟨vs, e3, e4⟩ := R.getL e2
      exact ⟨_, .inl ⟨vs, SqL.of e3, rfl⟩, by rw [← reps_emp e4]; exact h'⟩
    · exact h'.elim
  | tup hs r => exact ⟨_, .inr (.inl ⟨_, sqT_mono R.sub hs, rfl⟩), by rw [← reps_emp r]; exact h⟩
  | lst hs r => exact ⟨_, .inl ⟨_, SqL.of (R.sub _ _ hs), rfl⟩, by rw [← reps_emp r]; exact h⟩
  | rdl hs r => exact ⟨_, .inl ⟨_, R.sub.seq hs, rfl⟩, by rw [← reps_emp r]; exact h⟩
@[simp] def qTruth (f : QE) : QT := fun τ M x k => f τ M x fun v M' => truthP v M' k
theorem dt_truth {c : Cf} {e : Expr} {f : QE} (h : DE c e f) (he : ∀ env whole, isTrue e env whole = (do let v ← whole; standAt e.pos; holding [v] (truthy v)) := by intro _ _; rfl) : DT c e (qTruth f) := fun X g B => by
  refine (pt_truth (h X g B) (he X.env)).im fun σ H Q => ?_
  rintro ⟨F, τ, M, x, k, a, hf, tk, hk⟩
  refine ⟨F, τ, M, x, _, a, hf, tk, fun r M' F' v H' h' s' r' e' => ?_⟩
  obtain ⟨b, h1, h2⟩ := truthP_ok r' e' h'
  exact ⟨b, h1, hk _ _ _ _ h2 s' r'⟩
/-- two ways -/
def way (b : Bool) (A C : Prop) : Prop := (b = true → A) ∧ (b = false → C)
@[simp] theorem way_t {A C : Prop} : way true A C ↔ A := ⟨fun h => h.1 rfl, fun h => ⟨fun _ => h, fun z => nomatch z⟩⟩
@[simp] theorem way_f {A C : Prop} : way false A C ↔ C := ⟨fun h => h.2 rfl, fun h => ⟨fun z => (nomatch z), fun _ => h⟩⟩
@[simp] def qAndT (fa fb : QT) : QT := fun τ M x k => fa τ M x fun b M1 => way b (fb τ M1 x k) (k false M1)
@[simp] def qOrT (fa fb : QT) : QT := fun τ M x k => fa τ M x fun b M1 => way b (k true M1) (fb τ M1 x k)
@[simp] def qNotT (fa : QT) : QT := fun τ M x k => fa τ M x fun b M1 => k (!b) M1
theorem dw_and1 {c : Cf} {a : Expr} {pos : Pos} {f : QT} (h : DT c a f) : DW c (.BoolOp .And [a] pos) f := fun X g B => pw_and1 (h X g B)
theorem dw_or1 {c : Cf} {a : Expr} {pos : Pos} {f : QT} (h : DT c a f) : DW c (.BoolOp .Or [a] pos) f := fun X g B => pw_or1 (h X g B)
theorem dw_and {c : Cf} {a b : Expr} {rest : List Expr} {pos : Pos} {f fb : QT} (h : DT c a f) (hb : DW c (.BoolOp .And (b :: rest) pos) fb) : DW c (.BoolOp .And (a :: b :: rest) pos) (qAndT f fb) := fun X g B => by
  refine (pw_and (h X g B) (hb X g B)).im fun σ H Q => ?_
  rintro ⟨F, τ, M, x, k, a, hf, tk, hk⟩
  refine ⟨F, τ, M, x, _, a, hf, tk, fun b M1 F1 H1 h1 s1 r1 => ?_⟩
  cases b with
  | true => exact ⟨F1, τ, M1, x, k, a.next s1 r1, h1.1 rfl, tk, fun b M' F' H' h' s' r' => hk b M' F' H' h' (s1.trans s') r'⟩
  | false => exact hk _ _ _ _ (h1.2 rfl) s1 r1
theorem dw_or {c : Cf} {a b : Expr} {rest : List Expr} {pos : Pos} {f fb : QT} (h : DT c a f) (hb : DW c (.BoolOp .Or (b :: rest) pos) fb) : DW c (.BoolOp .Or (a :: b :: rest) pos) (qOrT f fb) := fun X g B => by
  refine (pw_or (h X g B) (hb X g B)).im fun σ H Q => ?_
  rintro ⟨F, τ, M, x, k, a, hf, tk, hk⟩
  refine ⟨F, τ, M, x, _, a, hf, tk, fun b M1 F1 H1 h1 s1 r1 => ?_⟩
  cases b with
  | false => exact ⟨F1, τ, M1, x, k, a.next s1 r1, h1.2 rfl, tk, fun b M' F' H' h' s' r' => hk b M' F' H' h' (s1.trans s') r'⟩
  | true => exact hk _ _ _ _ (h1.1 rfl) s1 r1
theorem dt_w {c : Cf} {e : Expr} {f : QT} (h : DW c e f) : DT c e f := fun X g B => (h X g B).pt
theorem dt_not {c : Cf} {a : Expr} {pos : Pos} {f : QT} (h : DT c a f) : DT c (.UnaryOp .Not a pos) (qNotT f) := fun X g B => by
  refine (pt_not (h X g B)).im fun σ H Q => ?_
  rintro ⟨F, τ, M, x, k, a, hf, tk, hk⟩
  exact ⟨F, τ, M, x, _, a, hf, tk, fun b M1 F1 H1 h1 s1 r1 => hk _ _ _ _ h1 s1 r1⟩
/-- and, or, not as values -/
@[simp] def qAndV (fa fb : QE) : QE := fun τ M x k => fa τ M x fun v M1 => truthP v M1 fun b M2 => way b (fb τ M2 x k) (k v M2)
@[simp] def qOrV (fa fb : QE) : QE := fun τ M x k => fa τ M x fun v M1 => truthP v M1 fun b M2 => way b (k v M2) (fb τ M2 x k)
@[simp] def qNotV (fa : QE) : QE := fun τ M x k => fa τ M x fun v M1 => truthP v M1 fun b M2 => k (.bl (!b)) M2
theorem truthP_M {p : PV} {M : PM} {k : Bool → PM → Prop} (h : truthP p M k) : truthP p M fun b M' => M' = M ∧ k b M := by
  cases p with
  | ref a =>
    have h' : (match M a with | some (.lst xs) => k (!xs.isEmpty) M | _ => False) := h
    show (match M a with | some (.lst xs) => M = M ∧ k (!xs.isEmpty) M | _ => False)
    split at h'
    · exact ⟨rfl, h'⟩
    · exact h'.elim
  | ty n => exact h
  | str x => exact ⟨h.1, rfl, h.2⟩
  | _ => exact ⟨rfl, h⟩
theorem de_one {c : Cf} {op : BoolOp} {a : Expr} {pos : Pos} {f : QE} (h : DE c a f) : DE c (.BoolOp op [a] pos) f := fun X g B => pe_one (h X g B)
theorem de_and {c : Cf} {a b : Expr} {rest : List Expr} {pos : Pos} {f fb : QE} (h : DE c a f) (hb : DE c (.BoolOp .And (b :: rest) pos) fb) : DE c (.BoolOp .And (a :: b :: rest) pos) (qAndV f fb) := fun X g B => by
  refine (pe_andT (h X g B) (hb X g B)).im fun σ H Q => ?_
  rintro ⟨F, τ, M, x, k, a, hf, tk, hk⟩
  refine ⟨F, τ, M, x, _, a, hf, tk, fun p M1 F1 v1 H1 h1 s1 r1 e1 => ?_⟩
  obtain ⟨b, t1, t2⟩ := truthP_ok r1 e1 h1
  refine ⟨b, t1, ?_⟩
  cases b with
  | true =>
    rw [if_pos rfl]
    exact ⟨F1, τ, _, x, k, a.next s1 r1, t2.1 rfl, tk, fun b M' F' v H' h' s' r' => hk b M' F' v H' h' (s1.trans s') r'⟩
  | false =>
    rw [if_neg Bool.false_ne_true]
    exact hk _ _ _ _ _ (t2.2 rfl) s1 r1 e1
theorem de_or {c : Cf} {a b : Expr} {rest : List Expr} {pos : Pos} {f fb : QE} (h : DE c a f) (hb : DE c (.BoolOp .Or (b :: rest) pos) fb) : DE c (.BoolOp .Or (a :: b :: rest) pos) (qOrV f fb) := fun X g B => by
  refine (pe_orT (h X g B) (hb X g B)).im fun σ H Q => ?_
  rintro ⟨F, τ, M, x, k, a, hf, tk, hk⟩
  refine ⟨F, τ, M, x, _, a, hf, tk, fun p M1 F1 v1 H1 h1 s1 r1 e1 => ?_⟩
  obtain ⟨b, t1, t2⟩ := truthP_ok r1 e1 h1
  refine ⟨b, t1, ?_⟩
  cases b with
  | false =>
    rw [if_neg Bool.false_ne_true]
    exact ⟨F1, τ, _, x, k, a.next s1 r1, t2.2 rfl, tk, fun b M' F' v H' h' s' r' => hk b M' F' v H' h' (s1.trans s') r'⟩
  | true =>
    rw [if_pos rfl]
    exact hk _ _ _ _ _ (t2.1 rfl) s1 r1 e1
theorem de_not {c : Cf} {a : Expr} {pos : Pos} {f : QE} (h : DE c a f) : DE c (.UnaryOp .Not a pos) (qNotV f) := fun X g B => by
  refine (pe_notT (h X g B)).im fun σ H Q => ?_
  rintro ⟨F, τ, M, x, k, a, hf, tk, hk⟩
  refine ⟨F, τ, M, x, _, a, hf, tk, fun p M1 F1 v1 H1 h1 s1 r1 e1 => ?_⟩
  obtain ⟨b, t1, t2⟩ := truthP_ok r1 e1 h1
  exact ⟨b, t1, hk _ _ _ _ _ t2 s1 r1 (.bl _)⟩
@[simp] def qIf (t : QT) (fa fb : QE) : QE := fun τ M x k => t τ M x fun b M1 => way b (fa τ M1 x k) (fb τ M1 x k)
theorem de_if {c : Cf} {t a b : Expr} {pos : Pos} {ft : QT} {fa fb : QE} (ht : DT c t ft) (ha : DE c a fa) (hb : DE c b fb) : DE c (.IfExp t a b pos) (qIf ft fa fb) := fun X g B => by
  refine (pe_ifExp (ht X g B) (ha X g B) (hb X g B)).im fun σ H Q => ?_
  rintro ⟨F, τ, M, x, k, a, hf, tk, hk⟩
  refine ⟨F, τ, M, x, _, a, hf, tk, fun b M1 F1 H1 h1 s1 r1 => ?_⟩
  cases b with
  | true =>
    rw [if_pos rfl]
    exact ⟨F1, τ, M1, x, k, a.next s1 r1, h1.1 rfl, tk, fun b M' F' v H' h' s' r' => hk b M' F' v H' h' (s1.trans s') r'⟩
  | false =>
    rw [if_neg Bool.false_ne_true]
    exact ⟨F1, τ, M1, x, k, a.next s1 r1, h1.2 rfl, tk, fun b M' F' v H' h' s' r' => hk b M' F' v H' h' (s1.trans s') r'⟩

/-! ### arguments, displays -/
@[simp] def qNil : QA := fun _ M _ k => k [] M
@[simp] def qCons (f : QE) (r : QA) : QA := fun τ M x k => f τ M x fun p M1 => r τ M1 x fun ps M2 => k (p :: ps) M2
theorem da_nil {c : Cf} : DA c [] qNil := fun X g B => pa_nil.im fun σ H Q => by
  rintro ⟨F, τ, M, x, k, a, hf, tk, hk⟩
  exact hk _ _ _ _ _ hf (Same.refl _) a.r .nil
theorem da_cons {c : Cf} {e : Expr} {es : List Expr} {f : QE} {r : QA} (he : DE c e f) (hr : DA c es r) (hs : ∀ env, starEach (e :: es) env = (false, eval e env) :: starEach es env := by intro _; rfl) : DA c (e :: es) (qCons f r) := fun X g B =>
  (pa_cons (he X g B) (hr X g B) (hs _)).im fun σ H Q => by
    rintro ⟨F, τ, M, x, k, a, hf, tk, hk⟩
    refine ⟨F, τ, M, x, _, a, hf, tk, fun p M1 F1 v1 H1 h1 s1 r1 e1 => ?_⟩
    refine ⟨F1, τ, M1, x, _, a.next s1 r1, h1, tk, fun ps M2 F2 vs H2 h2 s2 r2 e2 => ?_⟩
    exact hk _ _ _ _ _ h2 (s1.trans s2) r2 (.cons (e1.mono s2) e2)
/-- *e, the items of a tuple or a list -/
def seqP : PV → PM → (List PV → Prop) → Prop
  | .tup xs, _, k => k xs
  | .lst xs, _, k => k xs
  | .rdl xs, _, k => k xs
  | .ref a, M, k => match M a with
    | some (.lst xs) => k xs
    | _ => False
  | .non, _, _ => False
  | .bl _, _, _ => False
  | .int _, _, _ => False
  | .str _, _, _ => False
  | .ty _, _, _ => False
set_option autoImplicit true in
@[simp] theorem seqP_s1 : seqP  (.tup xs) w1 k = (k xs) := rfl
set_option autoImplicit true in
@[simp] theorem seqP_s2 : seqP  (.lst xs) w1 k = (k xs) := rfl
set_option autoImplicit true in
@[simp] theorem seqP_s3 : seqP  (.rdl xs) w1 k = (k xs) := rfl
set_option autoImplicit true in
@[simp] theorem seqP_s4 : seqP  (.ref a) M k = (match M a with
    | some (.lst xs) => k xs
    | _ => False) := rfl
theorem seqP_ok {K : Fg} {F : Hp} {M : PM} {H : Hp} {p : PV} {v : V} {k : List PV → Prop} (R : Rel K F M H) (e : Rep K F p v) (h : seqP p M k) : ∃ a vs xs, v = .ref a ∧ (SqT K H a vs ∨ SqL K H a vs) ∧ Reps K F xs vs ∧ k xs := by
  cases e with
  | ref a =>
    have h' : (match M a with | some (.lst xs) => k xs | _ => False) := h
    split at h'
    · rename_i xs e2
      obtain ⟨vs, e3, e4⟩ := R.getL e2
      exact ⟨_, _, _, rfl, .inr (SqL.of e3), e4, h'⟩
    · exact h'.elim
  | tup hs r => exact ⟨_, _, _, rfl, .inl (sqT_mono R.sub hs), r, h⟩
  | lst hs r => exact ⟨_, _, _, rfl, .inr (SqL.of (R.sub _ _ hs)), r, h⟩
  | rdl hs r => exact ⟨_, _, _, rfl, .inr (R.sub.seq hs), r, h⟩
  | _ => exact h.elim
@[simp] def qStar (f : QE) (r : QA) : QA := fun τ M x k => f τ M x fun p M1 => seqP p M1 fun xs => r τ M1 x fun ps M2 => k (xs ++ ps) M2
theorem da_star {c : Cf} {e : Expr} {es : List Expr} {p : Pos} {f : QE} {r : QA} (he : DE c e f) (hr : DA c es r) (hs : ∀ env, starEach (.Starred e p :: es) env = (true, eval e env) :: starEach es env := by intro _; rfl) : DA c (.Starred e p :: es) (qStar f r) := fun X g B =>
  (StX.pa_star (he X g B) (hr X g B) (hs _)).im fun σ H Q => by
    rintro ⟨F, τ, M, x, k, a, hf, tk, hk⟩
    refine ⟨F, τ, M, x, _, a, hf, tk, fun p M1 F1 v1 H1 h1 s1 r1 e1 => ?_⟩
    obtain ⟨q, vs, xs, e2, hq, e3, h3⟩ := seqP_ok r1 e1 h1
    refine ⟨q, vs, e2, hq, F1, τ, M1, x, _, a.next s1 r1, h3, tk, fun ps M2 F2 ws H2 h2 s2 r2 e4 => ?_⟩
    exact hk _ _ _ _ _ h2 (s1.trans s2) r2 ((e3.mono s2).append e4)
@[simp] def qTup (r : QA) : QE := fun τ M x k => r τ M x fun ps M1 => ps.length ≤ sizeLine ∧ k (.tup ps) M1
@[simp] def qLst (r : QA) : QE := fun τ M x k => r τ M x fun ps M1 => ps.length ≤ sizeLine ∧ k (.lst ps) M1
/-- a list that will be changed -/
@[simp] def qLstM (r : QA) : QE := fun τ M x k => r τ M x fun ps M1 => ps.length ≤ sizeLine ∧ ∀ a, M1 a = none → k (.ref a) (updM M1 a (.lst ps))
theorem de_tup {c : Cf} {es : List Expr} {n : Nat} {pos : Pos} {r : QA} (h : DA c es r) : DE c (.Tuple es n pos) (qTup r) := fun X g B => by
  refine (pe_tup (h X g B)).im fun σ H Q => ?_
  rintro ⟨F, τ, M, x, k, a, hf, tk, hk⟩
  refine ⟨F, τ, M, x, _, a, hf, tk, fun ps M1 F1 vs H1 h1 s1 r1 e1 => ⟨by rw [← e1.length]; exact h1.1, fun p hp => ?_⟩⟩
  obtain ⟨r2, s2⟩ := r1.newF hp (.tup vs)
  exact hk _ _ _ _ _ h1.2 (s1.trans s2) r2 (.tup (SqT.of upd_same) (e1.mono s2))
theorem de_lst {c : Cf} {es : List Expr} {pos : Pos} {r : QA} (h : DA c es r) : DE c (.List es pos) (qLst r) := fun X g B => by
  refine (pe_lst (h X g B)).im fun σ H Q => ?_
  rintro ⟨F, τ, M, x, k, a, hf, tk, hk⟩
  refine ⟨F, τ, M, x, _, a, hf, tk, fun ps M1 F1 vs H1 h1 s1 r1 e1 => ⟨by rw [← e1.length]; exact h1.1, fun p hp => ?_⟩⟩
  obtain ⟨r2, s2⟩ := r1.newF hp (.lst vs)
  exact hk _ _ _ _ _ h1.2 (s1.trans s2) r2 (.lst upd_same (e1.mono s2))
theorem de_lstM {c : Cf} {es : List Expr} {pos : Pos} {r : QA} (h : DA c es r) : DE c (.List es pos) (qLstM r) := fun X g B => by
  refine (pe_lst (h X g B)).im fun σ H Q => ?_
  rintro ⟨F, τ, M, x, k, a, hf, tk, hk⟩
  refine ⟨F, τ, M, x, _, a, hf, tk, fun ps M1 F1 vs H1 h1 s1 r1 e1 => ⟨by rw [← e1.length]; exact h1.1, fun p hp => ?_⟩⟩
  exact hk _ _ _ _ _ (h1.2 p (r1.fresh hp).2) s1 (r1.newL hp e1) (.ref p)

/-! ### blocks, statements -/
@[simp] def qNext : QS := fun d τ M => d.nx τ M
@[simp] def qSeq (f g : QS) : QS := fun d τ M => f { d with nx := g d } τ M
@[simp] def dx (d : PEnds) (τ : Tau) : PX := fun e M => d.ex e τ M
theorem dss_nil {c : Cf} : DSs c [] qNext := fun X g B => pss_nil.im fun D σ H => by
  rintro ⟨F, τ, M, d, a, hf, tk, hd⟩
  exact hd.nx _ _ _ _ _ hf (Same.refl _) a.r a.s
theorem dss_cons {c : Cf} {st : Stmt} {rest : List Stmt} {f g : QS} (h1 : DS c st f) (h2 : DSs c rest g) : DSs c (st :: rest) (qSeq f g) := fun X gd B => by
  refine (pss_cons (h1 X gd B) (h2 X gd B)).im fun D σ H => ?_
  rintro ⟨F, τ, M, d, a, hf, tk, hd⟩
  refine ⟨F, τ, M, _, a, hf, tk, ⟨fun τ' M' F' σ' H' q s r sr => ?_, hd.rt, hd.bk, hd.ct⟩⟩
  exact ⟨F', τ', M', d, ⟨a.b.trans s, r, sr⟩, q, tk, hd.mono s⟩
theorem dss_one {c : Cf} {st : Stmt} {f : QS} (h1 : DS c st f) : DSs c [st] f := fun X gd B => pss_one (h1 X gd B)
theorem takes_x {X : Cx} {B : Hp} {d : PEnds} {τ : Tau} (tk : Takes X (lW X.K B d.ex)) : Takes X (lW X.K B fun e τ' M' => τ' = τ ∧ dx d τ e M') :=
  tk.imp fun c d' σ H ⟨F, τ', M, e, h1, h2, h3, h4, h5, h6⟩ => ⟨F, τ', M, e, h1, h2, h3, h4, by rw [h5]; exact h6⟩
theorem ds_pass {c : Cf} {pos : Pos} : DS c (.Pass pos) qNext := fun X g B => ps_pass.im fun D σ H => by
  rintro ⟨F, τ, M, d, a, hf, tk, hd⟩
  exact hd.nx _ _ _ _ _ hf (Same.refl _) a.r a.s
theorem ds_break {c : Cf} {pos : Pos} : DS c (.Break pos) (fun d τ M => d.bk τ M) := fun X g B => ps_break.im fun D σ H => by
  rintro ⟨F, τ, M, d, a, hf, tk, hd⟩
  exact hd.bk _ _ _ _ _ hf (Same.refl _) a.r a.s
theorem ds_continue {c : Cf} {pos : Pos} : DS c (.Continue pos) (fun d τ M => d.ct τ M) := fun X g B => ps_continue.im fun D σ H => by
  rintro ⟨F, τ, M, d, a, hf, tk, hd⟩
  exact hd.ct _ _ _ _ _ hf (Same.refl _) a.r a.s
@[simp] def qRet (f : QE) : QS := fun d τ M => f τ M (dx d τ) fun v M' => d.rt v M'
theorem ds_ret {c : Cf} {e : Expr} {pos : Pos} {f : QE} (h : DE c e f) : DS c (.Return (some e) pos) (qRet f) := fun X g B => (ps_ret (h X g.toGood B)).im fun D σ H => by
  rintro ⟨F, τ, M, d, a, hf, tk, hd⟩
  exact ⟨F, τ, M, _, _, a, hf, takes_x tk, fun r M' F' v H' h' s' r' e' => hd.rt _ _ _ _ _ h' s' r' e'⟩
theorem ds_retN {c : Cf} {pos : Pos} : DS c (.Return none pos) (fun d τ M => d.rt .non M) := fun X g B => ps_retN.im fun D σ H => by
  rintro ⟨F, τ, M, d, a, hf, tk, hd⟩
  exact hd.rt _ _ _ _ _ hf (Same.refl _) a.r .non
@[simp] def qDrop (f : QE) : QS := fun d τ M => f τ M (dx d τ) fun _ M' => d.nx τ M'
theorem ds_expr {c : Cf} {e : Expr} {pos : Pos} {f : QE} (h : DE c e f) (hs : ∀ env, swapsWith e none pos.line env = pure false := by intro _; rfl) : DS c (.Expr e pos) (qDrop f) := fun X g B => (ps_expr (h X g.toGood B) (hs _)).im fun D σ H => by
  rintro ⟨F, τ, M, d, a, hf, tk, hd⟩
  exact ⟨F, τ, M, _, _, a, hf, takes_x tk, fun r M' F' v H' h' s' r' e' => hd.nx _ _ _ _ _ h' s' r' (a.s.mono s')⟩
@[simp] def qIfS (t : QT) (f g : QS) : QS := fun d τ M => t τ M (dx d τ) fun b M1 => way b (f d τ M1) (g d τ M1)
theorem ds_if {c : Cf} {t : Expr} {a b : List Stmt} {pos : Pos} {ft : QT} {f g : QS} (ht : DT c t ft) (ha : DSs c a f) (hb : DSs c b g) : DS c (.If t a b pos) (qIfS ft f g) := fun X gd B => (ps_if (ht X gd.toGood B) (ha X gd B) (hb X gd B)).im fun D σ H => by
  rintro ⟨F, τ, M, d, a, hf, tk, hd⟩
  refine ⟨F, τ, M, _, _, a, hf, takes_x tk, fun b M1 F1 H1 h1 s1 r1 => ?_⟩
  cases b with
  | true =>
    rw [if_pos rfl]
    exact ⟨F1, τ, M1, d, a.next s1 r1, h1.1 rfl, tk, hd.mono s1⟩
  | false =>
    rw [if_neg Bool.false_ne_true]
    exact ⟨F1, τ, M1, d, a.next s1 r1, h1.2 rfl, tk, hd.mono s1⟩
@[simp] def qNever : QS := fun _ _ _ => False
theorem ds_never {c : Cf} {st : Stmt} : DS c st qNever := fun X g B => ps_never.im fun D σ H => fun ⟨_, _, _, _, _, h, _⟩ => h
theorem dss_never {c : Cf} {st : List Stmt} : DSs c st qNever := fun X g B => pss_never.im fun D σ H => fun ⟨_, _, _, _, _, h, _⟩ => h

/-! ### targets -/
@[simp] def gSet (i : Nat) : QG := fun v τ M k => k (τ.set i (some v)) M
theorem dg_name {c : Cf} (i : Nat) {x : Str} {pos : Pos} (hN : c.N.Nodup) (hi : c.N[i]? = some x := by rfl) (hx : Loc c.sc x := by first | exact Or.inl rfl | exact Or.inr rfl) : DG c (.Name x pos) (gSet i) := fun X g B => by
  refine (pg_name (i := i) (by rw [g.N]; exact hN) (by rw [g.N]; exact hi) (by rw [g.sc]; exact hx) (.inl (by rw [g.fn]))).im fun v σ H Q => ?_
  rintro ⟨F, τ, M, p, k, a, e, hg, hk⟩
  exact hk _ _ _ _ _ hg (Same.refl _) a.r (a.s.set e i)
def gsNil : QGs
  | [], τ, M, k => k τ M
  | _ :: _, _, _, _ => False
set_option autoImplicit true in
@[simp] theorem gsNil_s1 : gsNil  [] τ M k = (k τ M) := rfl
def gsCons (g : QG) (r : QGs) : QGs
  | v :: ws, τ, M, k => g v τ M fun τ' M' => r ws τ' M' k
  | [], _, _, _ => False
set_option autoImplicit true in
@[simp] theorem gsCons_s1 (g : QG) (r : QGs) : gsCons g r (v :: ws) τ M k = (g v τ M fun τ' M' => r ws τ' M' k) := rfl
theorem dgs_nil {c : Cf} : DGs c [] gsNil := fun X g B => pgs_nil.im fun v σ H Q => by
  rintro ⟨F, τ, M, ps, k, a, e, hg, hk⟩
  cases e with
  | nil => exact ⟨rfl, hk _ _ _ _ _ hg (Same.refl _) a.r a.s⟩
  | cons _ _ => exact hg.elim
theorem dgs_cons {c : Cf} {e : Expr} {es : List Expr} {g : QG} {r : QGs} (h1 : DG c e g) (h2 : DGs c es r) (hs : ∀ env, (assignEach (e :: es) env).map (·.2) = assign e env :: (assignEach es env).map (·.2) := by intro _; rfl) : DGs c (e :: es) (gsCons g r) := fun X gd B =>
  (pgs_cons (h1 X gd B) (h2 X gd B) (hs _)).im fun v σ H Q => by
    rintro ⟨F, τ, M, ps, k, a, e, hg, hk⟩
    cases e with
    | nil => exact hg.elim
    | cons e1 e2 =>
      refine ⟨_, _, rfl, F, τ, M, _, _, a, e1, hg, fun τ' M' F' σ' H' h' s' r' sr' => ?_⟩
      exact ⟨F', τ', M', _, k, ⟨a.b.trans s', r', sr'⟩, e2.mono s', h', fun τ2 M2 F2 σ2 H2 h2 s2 r2 sr2 => hk _ _ _ _ _ h2 (s'.trans s2) r2 sr2⟩
def gTupQ (n : Nat) (r : QGs) : QG
  | .tup xs, τ, M, k => xs.length = n ∧ r xs τ M k
  | .non, _, _, _ => False
  | .bl _, _, _, _ => False
  | .int _, _, _, _ => False
  | .str _, _, _, _ => False
  | .ty _, _, _, _ => False
  | .ref _, _, _, _ => False
  | .lst _, _, _, _ => False
  | .rdl _, _, _, _ => False
set_option autoImplicit true in
@[simp] theorem gTupQ_s1 (n : Nat) (r : QGs) : gTupQ n r (.tup xs) τ M k = (xs.length = n ∧ r xs τ M k) := rfl
theorem dg_tup {c : Cf} {es : List Expr} {k n : Nat} {pos : Pos} {r : QGs} (h : DGs c es r) (hn : ∀ env, (assignEach es env).length = n := by intro _; rfl) (hst : ∀ env, (assignEach es env).findIdx? (·.1) = none := by intro _; rfl) : DG c (.Tuple es k pos) (gTupQ n r) := fun X g B =>
  (pg_tup g.calm (h X g B) (hn _) (hst _)).im fun v σ H Q => by
    rintro ⟨F, τ, M, p, k, a, e, hg, hk⟩
    cases e with
    | tup hs e => exact ⟨_, _, rfl, sqT_mono a.r.sub hs, by rw [← e.length]; exact hg.1, F, τ, M, _, k, a, e, hg.2, hk⟩
    | _ => exact hg.elim
@[simp] def qAsg (f : QE) (g : QG) : QS := fun d τ M => f τ M (dx d τ) fun v M' => g v τ M' d.nx
theorem ds_asg {c : Cf} {tg e : Expr} {pos : Pos} {f : QE} {g : QG} (he : DE c e f) (hg : DG c tg g) (hs : ∀ env, swapsWithSole [tg] e pos.line env = pure false := by intro _; rfl) (hw : ∀ env, env.scope = c.sc → swappedStores [tg] e env = pure none := by intro _ _; rfl)
    (h1 : ∀ env, (assignEach [tg] env).map (·.2) = [assign tg env] := by intro _; rfl) : DS c (.Assign [tg] e pos) (qAsg f g) := fun X gd B => (ps_asg (he X gd.toGood B) (hg X gd B) (hs _) (hw _ gd.sc) (h1 _)).im fun D σ H => by
  rintro ⟨F, τ, M, d, a, hf, tk, hd⟩
  refine ⟨F, τ, M, _, _, a, hf, takes_x tk, fun r M' F' v H' h' s' r' e' => ?_⟩
  exact ⟨F', τ, M', _, _, a.next s' r', e', h', fun τ2 M2 F2 σ2 H2 h2 s2 r2 sr2 => hd.nx _ _ _ _ _ h2 (s'.trans s2) r2 sr2⟩
theorem ds_set {c : Cf} (i : Nat) {x : Str} {e : Expr} {pos pos' : Pos} {f : QE} (hN : c.N.Nodup) (he : DE c e f) (hi : c.N[i]? = some x := by rfl) (hx : Loc c.sc x := by first | exact Or.inl rfl | exact Or.inr rfl) (hs : ∀ env, swapsWith e (some (.Name x pos')) pos.line env = pure false := by intro _; rfl) : DS c (.Assign [.Name x pos'] e pos) (qAsg f (gSet i)) := fun X gd B =>
  (ps_set (i := i) (by rw [gd.N]; exact hN) (by rw [gd.N]; exact hi) (by rw [gd.sc]; exact hx) (he X gd.toGood B) (hs _) (.inl (by rw [gd.fn]))).im fun D σ H => by
    rintro ⟨F, τ, M, d, a, hf, tk, hd⟩
    refine ⟨F, τ, M, _, _, a, hf, takes_x tk, fun r M' F' v H' h' s' r' e' => ?_⟩
    exact hd.nx _ _ _ _ _ h' s' r' ((a.s.mono s').set e' i)
/-- a, b = x, y with plain local names -/
def parP (i j : Nat) (d : PEnds) (τ : Tau) : List PV → PM → Prop
  | [p, q], M' => d.nx ((τ.set i (some p)).set j (some q)) M'
  | _, _ => False
set_option autoImplicit true in
@[simp] theorem parP_s1 (i j : Nat) (d : PEnds) (τ : Tau) : parP i j d τ [p, q] M' = (d.nx ((τ.set i (some p)).set j (some q)) M') := rfl
@[simp] def qPar (i j : Nat) (r : QA) : QS := fun d τ M => r τ M (dx d τ) fun ps M' => parP i j d τ ps M'
theorem ds_par {c : Cf} {i j : Nat} {x y : Str} {a b : Expr} {r : QA} {px py pt pos : Pos} {kt k2 pt2} (hN : c.N.Nodup) (hi : c.N[i]? = some x) (hj : c.N[j]? = some y) (hij : i ≠ j) (hx : c.sc.names.lookup x = some .local) (hy : c.sc.names.lookup y = some .local) (ha : DA c [a, b] r)
    (hw : ∀ env, env.scope = c.sc → swappedStores [.Tuple [.Name x px, .Name y py] kt pt] (.Tuple [a, b] k2 pt2) env = pure (some [x, y]))
    (hs : ∀ env, swapsWithSole [.Tuple [.Name x px, .Name y py] kt pt] (.Tuple [a, b] k2 pt2) pos.line env = pure false := by intro _; rfl) : DS c (.Assign [.Tuple [.Name x px, .Name y py] kt pt] (.Tuple [a, b] k2 pt2) pos) (qPar i j r) := fun X gd B =>
  (ps_par (i := i) (j := j) gd.calm (by rw [gd.N]; exact hN) (by rw [gd.N]; exact hi) (by rw [gd.N]; exact hj) hij (by rw [gd.sc]; exact hx) (by rw [gd.sc]; exact hy) (ha X gd.toGood B) (hw _ gd.sc) (hs _)).im fun D σ H => by
    rintro ⟨F, τ, M, d, a, hf, tk, hd⟩
    refine ⟨F, τ, M, _, _, a, hf, takes_x tk, fun ps M' F' vs H' h' s' r' e' => ?_⟩
    cases e' with
    | nil => exact h'.elim
    | cons e1 e2 =>
      cases e2 with
      | nil => exact h'.elim
      | cons e3 e4 =>
        cases e4 with
        | cons _ _ => exact h'.elim
        | nil => exact ⟨_, _, rfl, hd.nx _ _ _ _ _ h' s' r' (((a.s.mono s').set e1 i).set e3 j)⟩
end Q
namespace Q
open PySem PySem.Spec PyProof.Rows L2

/-! ### a rule by values, from the hand layer's -/
theorem oq_of {c : Cf} {f : Value → Value → Sem Value} {r : Q2} {t : Cx → R2} (h : ∀ X, Good c X → OpR X f (t X)) (hi : ∀ X, Good c X → ∀ x y H Q, lR X.K r x y H Q → t X x y H Q) : OQ c f r := fun X g pins s σ H x y v u Q I rx ry hr =>
  h X g pins s σ H x y v u Q I rx ry (hi X g x y H Q hr)
/-- a list whose items are this call's own to read: it never changes, or stands as it is -/
def lstP : PV → PM → (List PV → Prop) → Prop
  | .lst xs, _, k => k xs
  | .ref a, M, k => match M a with
    | some (.lst xs) => k xs
    | _ => False
  | .non, _, _ => False
  | .bl _, _, _ => False
  | .int _, _, _ => False
  | .str _, _, _ => False
  | .ty _, _, _ => False
  | .tup _, _, _ => False
  | .rdl _, _, _ => False
set_option autoImplicit true in
@[simp] theorem lstP_s1 : lstP  (.lst xs) w1 k = (k xs) := rfl
set_option autoImplicit true in
@[simp] theorem lstP_s2 : lstP  (.ref a) M k = (match M a with
    | some (.lst xs) => k xs
    | _ => False) := rfl
theorem lstP_ok {K : Fg} {F : Hp} {M : PM} {H : Hp} {p : PV} {v : V} {k : List PV → Prop} (R : Rel K F M H) (e : Rep K F p v) (h : lstP p M k) : ∃ a vs xs, v = .ref a ∧ H a = some (.lst vs) ∧ Reps K F xs vs ∧ k xs := by
  cases e with
  | ref a =>
    have h' : (match M a with | some (.lst xs) => k xs | _ => False) := h
    split at h'
    · rename_i xs e2
      obtain ⟨vs, e3, e4⟩ := R.getL e2
      exact ⟨_, _, _, rfl, e3, e4, h'⟩
    · exact h'.elim
  | lst hs r => exact ⟨_, _, _, rfl, R.sub _ _ hs, r, h⟩
  | _ => exact h.elim

def opAdd : Q2
  | .int i, .int j, M, k => k (.int (i + j)) M
  | .str a, .str b, M, k => a.length + b.length ≤ sizeLine ∧ k (.str (a ++ b)) M
  | .tup a, .tup b, M, k => a ≠ [] ∧ b ≠ [] ∧ a.length + b.length ≤ sizeLine ∧ k (.tup (a ++ b)) M
  | .lst a, .lst b, M, k => a.length + b.length ≤ sizeLine ∧ k (.lst (a ++ b)) M
  | .lst a, .ref b, M, k => lstP (.ref b) M fun b => a.length + b.length ≤ sizeLine ∧ k (.lst (a ++ b)) M
  | .ref a, .lst b, M, k => lstP (.ref a) M fun a => a.length + b.length ≤ sizeLine ∧ k (.lst (a ++ b)) M
  | .ref a, .ref b, M, k => lstP (.ref a) M fun a => lstP (.ref b) M fun b => a.length + b.length ≤ sizeLine ∧ k (.lst (a ++ b)) M
  | _, _, _, _ => False
set_option autoImplicit true in
@[simp] theorem opAdd_s1 : opAdd  (.int i) (.int j) M k = (k (.int (i + j)) M) := rfl
set_option autoImplicit true in
@[simp] theorem opAdd_s2 : opAdd  (.str a) (.str b) M k = (a.length + b.length ≤ sizeLine ∧ k (.str (a ++ b)) M) := rfl
set_option autoImplicit true in
@[simp] theorem opAdd_s3 : opAdd  (.tup a) (.tup b) M k = (a ≠ [] ∧ b ≠ [] ∧ a.length + b.length ≤ sizeLine ∧ k (.tup (a ++ b)) M) := rfl
set_option autoImplicit true in
@[simp] theorem opAdd_s4 : opAdd  (.lst a) (.lst b) M k = (a.length + b.length ≤ sizeLine ∧ k (.lst (a ++ b)) M) := rfl
set_option autoImplicit true in
@[simp] theorem opAdd_s5 : opAdd  (.lst a) (.ref b) M k = (lstP (.ref b) M fun b => a.length + b.length ≤ sizeLine ∧ k (.lst (a ++ b)) M) := rfl
set_option autoImplicit true in
@[simp] theorem opAdd_s6 : opAdd  (.ref a) (.lst b) M k = (lstP (.ref a) M fun a => a.length + b.length ≤ sizeLine ∧ k (.lst (a ++ b)) M) := rfl
set_option autoImplicit true in
@[simp] theorem opAdd_s7 : opAdd  (.ref a) (.ref b) M k = (lstP (.ref a) M fun a => lstP (.ref b) M fun b => a.length + b.length ≤ sizeLine ∧ k (.lst (a ++ b)) M) := rfl
theorem oq_add {c : Cf} : OQ c (binaryOp .Add) opAdd := by
  refine oq_of (t := fun X => _) (fun X g => op_add.or (op_add_str.or (op_cat.or op_catT))) fun X g x y H Q h => ?_
  obtain ⟨F, p, q, M, k, R, ep, eq_, ho, hk⟩ := h
  have lst2 : (lstP p M fun a => lstP q M fun b => a.length + b.length ≤ sizeLine ∧ k (.lst (a ++ b)) M) → (rCat x y H Q) := fun hl => by
    obtain ⟨a, vs, xs, rfl, h1, r1, hl⟩ := lstP_ok R ep hl
    obtain ⟨b, ws, ys, rfl, h2, r2, hz, hl⟩ := lstP_ok R eq_ hl
    refine ⟨a, b, vs, ws, rfl, rfl, h1, h2, by rw [← r1.length, ← r2.length]; exact hz, fun p hp => ?_⟩
    obtain ⟨R2, s2⟩ := R.newF hp (.lst (vs ++ ws))
    exact hk _ _ _ _ _ hl s2 R2 (.lst upd_same ((r1.append r2).mono s2))
  unfold opAdd at ho
  split at ho
  · cases ep; cases eq_
    exact .inl ⟨_, _, rfl, rfl, hk _ _ _ _ _ ho (Same.refl _) R (.int _)⟩
  · cases ep; cases eq_
    exact .inr (.inl ⟨_, _, rfl, rfl, ho.1, hk _ _ _ _ _ ho.2 (Same.refl _) R (.str _)⟩)
  · cases ep with
    | tup ha ra =>
      cases eq_ with
      | tup hb rb =>
        obtain ⟨na, nb, hz, ho⟩ := ho
        refine .inr (.inr (.inr ⟨_, _, _, _, rfl, rfl, sqT_mono R.sub ha, sqT_mono R.sub hb, fun z => na ?_, by rw [← ra.length, ← rb.length]; exact hz, fun z => (nb ?_).elim, fun _ p hp => ?_⟩))
        · subst z; cases ra; rfl
        · subst z; cases rb; rfl
        · obtain ⟨R2, s2⟩ := R.newF hp (.tup _)
          exact hk _ _ _ _ _ ho s2 R2 (.tup (SqT.of upd_same) ((ra.append rb).mono s2))
  · exact .inr (.inr (.inl (lst2 ho)))
  · exact .inr (.inr (.inl (lst2 ho)))
  · exact .inr (.inr (.inl (lst2 (by
      have h' := ho
      unfold lstP at h' ⊢
      dsimp only at h' ⊢
      split at h'
      · exact h'
      · exact h'))))
  · exact .inr (.inr (.inl (lst2 ho)))
  · exact ho.elim

def onI : PV → PV → (Int → Int → Prop) → Prop
  | .int i, .int j, f => f i j
  | _, _, _ => False
set_option autoImplicit true in
@[simp] theorem onI_s1 : onI  (.int i) (.int j) f = (f i j) := rfl
theorem onI_ok {K : Fg} {F : Hp} {p q : PV} {x y : V} {f : Int → Int → Prop} (ep : Rep K F p x) (eq_ : Rep K F q y) (h : onI p q f) : ∃ i j, x = .int i ∧ y = .int j ∧ p = .int i ∧ q = .int j ∧ f i j := by
  unfold onI at h
  split at h
  · cases ep; cases eq_
    exact ⟨_, _, rfl, rfl, rfl, rfl, h⟩
  · exact h.elim
@[simp] def opSub : Q2 := fun x y M k => onI x y fun i j => k (.int (i - j)) M
theorem oq_sub {c : Cf} : OQ c (binaryOp .Sub) opSub := by
  refine oq_of (t := fun X => _) (fun X g => op_sub) fun X g x y H Q h => ?_
  obtain ⟨F, p, q, M, k, R, ep, eq_, ho, hk⟩ := h
  obtain ⟨i, j, rfl, rfl, rfl, rfl, ho⟩ := onI_ok ep eq_ ho
  exact ⟨i, j, rfl, rfl, hk _ _ _ _ _ ho (Same.refl _) R (.int _)⟩
/-- a product that has room -/
def MulOk (i j : Int) : Prop := CMulW i j ∨ CMul i j
theorem MulOk.of {i j : Int} {a b : Nat} (ha : i.natAbs < 2 ^ a) (hb : j.natAbs < 2 ^ b) (h0 : 0 < a) (h1 : 0 < b) (h : a + b ≤ 1000000) : MulOk i j := .inl (wide_mul ha hb h0 h1 h)
theorem MulOk.left {i j : Int} (h : -(2 ^ 64) < i ∧ i < 2 ^ 64) : MulOk i j := .inr (.inl h)
theorem MulOk.right {i j : Int} (h : -(2 ^ 64) < j ∧ j < 2 ^ 64) : MulOk i j := .inr (.inr h)
def opMul : Q2
  | .int i, .int j, M, k => MulOk i j ∧ k (.int (i * j)) M
  | .lst a, .int j, M, k => (0 ≤ j ∧ j < 2 ^ 63 ∧ a.length * j.toNat ≤ sizeLine) ∧ k (.lst (List.replicate j.toNat a).flatten) M
  | _, _, _, _ => False
set_option autoImplicit true in
@[simp] theorem opMul_s1 : opMul  (.int i) (.int j) M k = (MulOk i j ∧ k (.int (i * j)) M) := rfl
set_option autoImplicit true in
@[simp] theorem opMul_s2 : opMul  (.lst a) (.int j) M k = ((0 ≤ j ∧ j < 2 ^ 63 ∧ a.length * j.toNat ≤ sizeLine) ∧ k (.lst (List.replicate j.toNat a).flatten) M) := rfl
theorem oq_mul {c : Cf} : OQ c (binaryOp .Mult) opMul := by
  refine oq_of (t := fun X => _) (fun X g => op_mulW.or (op_mul.or op_rep)) fun X g x y H Q h => ?_
  obtain ⟨F, p, q, M, k, R, ep, eq_, ho, hk⟩ := h
  unfold opMul at ho
  split at ho
  · cases ep; cases eq_
    obtain ⟨hm, ho⟩ := ho
    rcases hm with hm | hm
    · exact .inl ⟨_, _, rfl, rfl, hm, hk _ _ _ _ _ ho (Same.refl _) R (.int _)⟩
    · exact .inr (.inl ⟨_, _, rfl, rfl, hm, hk _ _ _ _ _ ho (Same.refl _) R (.int _)⟩)
  · cases ep with
    | lst ha ra =>
      cases eq_
      obtain ⟨⟨h0, h1, h2⟩, ho⟩ := ho
      refine .inr (.inr ⟨_, _, _, rfl, rfl, R.sub _ _ ha, by omega, h1, by rw [← ra.length]; exact h2, fun p hp => ?_⟩)
      obtain ⟨R2, s2⟩ := R.newF hp (.lst _)
      exact hk _ _ _ _ _ ho s2 R2 (.lst upd_same ((ra.rep _).mono s2))
  · exact ho.elim
def DivOk (j : Int) : Prop := 0 < j ∧ j.natAbs.log2 < 9000
theorem DivOk.of {j : Int} {b : Nat} (h : 0 < j) (hb : j.natAbs < 2 ^ b) (h0 : 0 < b) (h9 : b ≤ 9000) : DivOk j := ⟨h, Nat.lt_of_lt_of_le (PySem.Flt.log2_lt_of h0 hb) h9⟩
@[simp] def opDiv : Q2 := fun x y M k => onI x y fun i j => DivOk j ∧ k (.int (i / j)) M
theorem oq_div {c : Cf} : OQ c (binaryOp .FloorDiv) opDiv := by
  refine oq_of (t := fun X => _) (fun X g => op_fdivW) fun X g x y H Q h => ?_
  obtain ⟨F, p, q, M, k, R, ep, eq_, ho, hk⟩ := h
  obtain ⟨i, j, rfl, rfl, rfl, rfl, hd, ho⟩ := onI_ok ep eq_ ho
  exact ⟨i, j, rfl, rfl, hd, hk _ _ _ _ _ ho (Same.refl _) R (.int _)⟩
@[simp] def opMod : Q2 := fun x y M k => onI x y fun i j => 0 < j ∧ k (.int (i % j)) M
theorem oq_mod {c : Cf} : OQ c (binaryOp .Mod) opMod := by
  refine oq_of (t := fun X => _) (fun X g => op_mod) fun X g x y H Q h => ?_
  obtain ⟨F, p, q, M, k, R, ep, eq_, ho, hk⟩ := h
  obtain ⟨i, j, rfl, rfl, rfl, rfl, hd, ho⟩ := onI_ok ep eq_ ho
  exact ⟨i, j, rfl, rfl, hd, hk _ _ _ _ _ ho (Same.refl _) R (.int _)⟩
@[simp] def opPow : Q2 := fun x y M k => onI x y fun i j => (0 ≤ j ∧ j ≤ 1000000 ∧ i.natAbs < 2 ^ 64) ∧ k (.int (i ^ j.toNat)) M
theorem oq_pow {c : Cf} : OQ c (binaryOp .Pow) opPow := by
  refine oq_of (t := fun X => _) (fun X g => op_pow) fun X g x y H Q h => ?_
  obtain ⟨F, p, q, M, k, R, ep, eq_, ho, hk⟩ := h
  obtain ⟨i, j, rfl, rfl, rfl, rfl, hd, ho⟩ := onI_ok ep eq_ ho
  exact ⟨i, j, rfl, rfl, hd, hk _ _ _ _ _ ho (Same.refl _) R (.int _)⟩
/-- comparisons of ints -/
@[simp] def opI (p : Int → Int → Bool) : Q2 := fun x y M k => onI x y fun i j => k (.bl (p i j)) M
abbrev opLt : Q2 := opI fun i j => decide (i < j)
abbrev opLe : Q2 := opI fun i j => decide (i ≤ j)
abbrev opGt : Q2 := opI fun i j => decide (j < i)
abbrev opGe : Q2 := opI fun i j => decide (j ≤ i)
theorem oq_cmp {c : Cf} {f : Value → Value → Sem Value} {p : Int → Int → Bool} (h : ∀ X, OpR X f (rI0 fun i j => .bl (p i j))) : OQ c f (opI p) := by
  refine oq_of (t := fun X => _) (fun X g => h X) fun X g x y H Q h => ?_
  obtain ⟨F, p, q, M, k, R, ep, eq_, ho, hk⟩ := h
  obtain ⟨i, j, rfl, rfl, rfl, rfl, ho⟩ := onI_ok ep eq_ ho
  exact ⟨i, j, rfl, rfl, hk _ _ _ _ _ ho (Same.refl _) R (.bl _)⟩
theorem oq_lt {c : Cf} : OQ c (compareOp .Lt) opLt := oq_cmp fun _ => op_lt
theorem oq_le {c : Cf} : OQ c (compareOp .LtE) opLe := oq_cmp fun _ => op_le
theorem oq_gt {c : Cf} : OQ c (compareOp .Gt) opGt := oq_cmp fun _ => op_gt
theorem oq_ge {c : Cf} : OQ c (compareOp .GtE) opGe := oq_cmp fun _ => op_ge

/-! ### values as plain data: ==, != -/
mutual
def dat : PV → Option PyData
  | .non => some .none
  | .bl b => some (.bool b)
  | .int i => some (.int i)
  | .str x => some (.str x)
  | .tup xs => (datL xs).map .tuple
  | .lst xs => (datL xs).map .list
  | .rdl xs => (datL xs).map .list
  | .ty _ => none
  | .ref _ => none
def datL : List PV → Option (List PyData)
  | [] => some []
  | x :: xs => match dat x, datL xs with
    | some d, some ds => some (d :: ds)
    | _, _ => none
end
def datM (M : PM) (x : PV) : Option PyData := match x with
  | .ref a => match M a with
    | some (.lst xs) => (datL xs).map .list
    | _ => none
  | x => dat x
mutual
theorem dat_ok {K : Fg} {F H : Hp} (s : Same F H) : ∀ (x : PV) (v : V) (d : PyData), Rep K F x v → dat x = some d → Dp K H v d ∧ d.plain = true
  | .non, _, _, e, h => by cases e; cases h; exact ⟨.non, rfl⟩
  | .bl _, _, _, e, h => by cases e; cases h; exact ⟨.bl _, rfl⟩
  | .int _, _, _, e, h => by cases e; cases h; exact ⟨.int _, rfl⟩
  | .str _, _, _, e, h => by cases e; cases h; exact ⟨.str _, rfl⟩
  | .ty _, _, _, _, h => by cases h
  | .ref _, _, _, _, h => by cases h
  | .tup xs, _, _, e, h => by
    cases e with
    | tup hs r =>
      rw [dat] at h
      obtain ⟨ds, h1, rfl⟩ := Option.map_eq_some_iff.mp h
      obtain ⟨h2, h3⟩ := datL_ok s xs _ ds r h1
      exact ⟨.tup (sqT_mono s hs) h2, h3⟩
  | .lst xs, _, _, e, h => by
    cases e with
    | lst hs r =>
      rw [dat] at h
      obtain ⟨ds, h1, rfl⟩ := Option.map_eq_some_iff.mp h
      obtain ⟨h2, h3⟩ := datL_ok s xs _ ds r h1
      exact ⟨.lst (SqL.of (s _ _ hs)) h2, h3⟩
  | .rdl xs, _, _, e, h => by
    cases e with
    | rdl hs r =>
      rw [dat] at h
      obtain ⟨ds, h1, rfl⟩ := Option.map_eq_some_iff.mp h
      obtain ⟨h2, h3⟩ := datL_ok s xs _ ds r h1
      exact ⟨.lst (s.seq hs) h2, h3⟩
theorem datL_ok {K : Fg} {F H : Hp} (s : Same F H) : ∀ (xs : List PV) (vs : List V) (ds : List PyData), Reps K F xs vs → datL xs = some ds → DpAll K H vs ds ∧ PyData.plainAll ds = true
  | [], _, _, e, h => by cases e; rw [datL] at h; cases h; exact ⟨.nil, rfl⟩
  | x :: xs, _, _, e, h => by
    cases e with
    | cons e1 e2 =>
      rw [datL] at h
      split at h
      · rename_i d ds h1 h2
        cases h
        obtain ⟨a1, a2⟩ := dat_ok s x _ d e1 h1
        obtain ⟨b1, b2⟩ := datL_ok s xs _ ds e2 h2
        exact ⟨.cons a1 b1, by rw [PyData.plainAll, a2, b2]; rfl⟩
      · cases h
end
theorem datM_ok {K : Fg} {F : Hp} {M : PM} {H : Hp} (R : Rel K F M H) {x : PV} {v : V} {d : PyData} (e : Rep K F x v) (h : datM M x = some d) : Dp K H v d ∧ d.plain = true := by
  cases e with
  | ref a =>
    have h' : (match M a with | some (.lst xs) => (datL xs).map PyData.list | _ => none) = some d := h
    split at h'
    · rename_i xs e2
      obtain ⟨vs, e3, e4⟩ := R.getL e2
      obtain ⟨ds, h1, rfl⟩ := Option.map_eq_some_iff.mp h'
      obtain ⟨h2, h3⟩ := datL_ok R.sub xs _ ds e4 h1
      exact ⟨.lst (SqL.of e3) h2, h3⟩
    · cases h'
  | non => exact dat_ok R.sub _ _ _ .non h
  | bl b => exact dat_ok R.sub _ _ _ (.bl b) h
  | int b => exact dat_ok R.sub _ _ _ (.int b) h
  | str b => exact dat_ok R.sub _ _ _ (.str b) h
  | ty b => cases h
  | tup a b => exact dat_ok R.sub _ _ _ (.tup a b) h
  | lst a b => exact dat_ok R.sub _ _ _ (.lst a b) h
  | rdl a b => exact dat_ok R.sub _ _ _ (.rdl a b) h
def opEq (neg : Bool) : Q2 := fun x y M k => ∃ d e, datM M x = some d ∧ datM M y = some e ∧ min d.depth e.depth ≤ 60 ∧ k (.bl (if neg then !PyData.eqv d e else PyData.eqv d e)) M
theorem oq_eq {c : Cf} : OQ c (compareOp .Eq) (opEq false) := fun X g pins s σ H x y v u Q I rx ry h => by
  obtain ⟨F, p, q, M, k, R, ep, eq_, ⟨d, e, hd, he, hz, ho⟩, hk⟩ := h
  obtain ⟨d1, d2⟩ := datM_ok R ep hd
  obtain ⟨e1, e2⟩ := datM_ok R eq_ he
  obtain ⟨as, r1⟩ := Dp.reads I d x v d1 rx
  obtain ⟨bs, r2⟩ := Dp.reads I e y u e1 ry
  have hu := g.room.units
  exact SeqAt.eq_plain r1 r2 d2 e2 (by omega) ⟨.bl _, H, I, rfl, hk _ _ _ _ _ ho (Same.refl _) R (.bl _)⟩
theorem oq_ne {c : Cf} : OQ c (compareOp .NotEq) (opEq true) := fun X g pins s σ H x y v u Q I rx ry h => by
  obtain ⟨F, p, q, M, k, R, ep, eq_, ⟨d, e, hd, he, hz, ho⟩, hk⟩ := h
  obtain ⟨d1, d2⟩ := datM_ok R ep hd
  obtain ⟨e1, e2⟩ := datM_ok R eq_ he
  obtain ⟨as, r1⟩ := Dp.reads I d x v d1 rx
  obtain ⟨bs, r2⟩ := Dp.reads I e y u e1 ry
  have hu := g.room.units
  exact SeqAt.ne_plain r1 r2 d2 e2 (by omega) ⟨.bl _, H, I, rfl, hk _ _ _ _ _ ho (Same.refl _) R (.bl _)⟩
@[simp] theorem opEq_int {neg : Bool} {i j : Int} {M : PM} {k : PK} : opEq neg (.int i) (.int j) M k ↔ k (.bl (if neg then !decide (i = j) else decide (i = j))) M := by
  simp [opEq, datM, dat, PyData.eqv, PyData.depth, Bool.beq_eq_decide_eq]
@[simp] theorem opEq_str {neg : Bool} {i j : Str} {M : PM} {k : PK} : opEq neg (.str i) (.str j) M k ↔ k (.bl (if neg then !(i == j) else (i == j))) M := by
  simp [opEq, datM, dat, PyData.eqv, PyData.depth]
@[simp] theorem opEq_bl {neg : Bool} {i j : Bool} {M : PM} {k : PK} : opEq neg (.bl i) (.bl j) M k ↔ k (.bl (if neg then !(i == j) else (i == j))) M := by
  simp [opEq, datM, dat, PyData.eqv, PyData.depth]
/-- is, is not: None on the right; two bools -/
def opIs (neg : Bool) : Q2
  | .non, .non, M, k => k (.bl (!neg)) M
  | .bl _, .non, M, k => k (.bl neg) M
  | .int _, .non, M, k => k (.bl neg) M
  | .str _, .non, M, k => k (.bl neg) M
  | .tup _, .non, M, k => k (.bl neg) M
  | .lst _, .non, M, k => k (.bl neg) M
  | .rdl _, .non, M, k => k (.bl neg) M
  | .ref _, .non, M, k => k (.bl neg) M
  | .bl a, .bl b, M, k => k (.bl (if neg then !decide (a = b) else decide (a = b))) M
  | _, _, _, _ => False
set_option autoImplicit true in
@[simp] theorem opIs_s1 (neg : Bool) : opIs neg .non .non M k = (k (.bl (!neg)) M) := rfl
set_option autoImplicit true in
@[simp] theorem opIs_s2 (neg : Bool) : opIs neg (.bl w1) .non M k = (k (.bl neg) M) := rfl
set_option autoImplicit true in
@[simp] theorem opIs_s3 (neg : Bool) : opIs neg (.int w1) .non M k = (k (.bl neg) M) := rfl
set_option autoImplicit true in
@[simp] theorem opIs_s4 (neg : Bool) : opIs neg (.str w1) .non M k = (k (.bl neg) M) := rfl
set_option autoImplicit true in
@[simp] theorem opIs_s5 (neg : Bool) : opIs neg (.tup w1) .non M k = (k (.bl neg) M) := rfl
set_option autoImplicit true in
@[simp] theorem opIs_s6 (neg : Bool) : opIs neg (.lst w1) .non M k = (k (.bl neg) M) := rfl
set_option autoImplicit true in
@[simp] theorem opIs_s7 (neg : Bool) : opIs neg (.rdl w1) .non M k = (k (.bl neg) M) := rfl
set_option autoImplicit true in
@[simp] theorem opIs_s8 (neg : Bool) : opIs neg (.ref w1) .non M k = (k (.bl neg) M) := rfl
set_option autoImplicit true in
@[simp] theorem opIs_s9 (neg : Bool) : opIs neg (.bl a) (.bl b) M k = (k (.bl (if neg then !decide (a = b) else decide (a = b))) M) := rfl
theorem opIs_ok {K : Fg} {F : Hp} {H : Hp} {M : PM} {p q : PV} {x y : V} {k : PK} {neg : Bool} (ep : Rep K F p x) (eq_ : Rep K F q y) (h : opIs neg p q M k) :
    (y = .non ∧ k (.bl (if neg then !decide (x = .non) else decide (x = .non))) M) ∨ (∃ a b, x = .bl a ∧ y = .bl b ∧ k (.bl (if neg then !decide (a = b) else decide (a = b))) M) := by
  cases eq_ with
  | non =>
    refine .inl ⟨rfl, ?_⟩
    cases ep <;> (try exact h.elim) <;> (cases neg <;> exact h)
  | bl b =>
    cases ep with
    | bl a => exact .inr ⟨_, _, rfl, rfl, h⟩
    | _ => exact h.elim
  | _ => cases ep <;> exact h.elim
theorem oq_is {c : Cf} : OQ c (compareOp .Is) (opIs false) := by
  refine oq_of (t := fun X => _) (fun X g => op_isN.or op_isBl) fun X g x y H Q h => ?_
  obtain ⟨F, p, q, M, k, R, ep, eq_, ho, hk⟩ := h
  rcases opIs_ok (H := H) ep eq_ ho with ⟨rfl, ho⟩ | ⟨a, b, rfl, rfl, ho⟩
  · exact .inl ⟨rfl, hk _ _ _ _ _ ho (Same.refl _) R (.bl _)⟩
  · exact .inr ⟨a, b, rfl, rfl, hk _ _ _ _ _ ho (Same.refl _) R (.bl _)⟩
theorem oq_isnot {c : Cf} : OQ c (compareOp .IsNot) (opIs true) := by
  refine oq_of (t := fun X => _) (fun X g => op_notN.or op_notBl) fun X g x y H Q h => ?_
  obtain ⟨F, p, q, M, k, R, ep, eq_, ho, hk⟩ := h
  rcases opIs_ok (H := H) ep eq_ ho with ⟨rfl, ho⟩ | ⟨a, b, rfl, rfl, ho⟩
  · exact .inl ⟨rfl, hk _ _ _ _ _ ho (Same.refl _) R (.bl _)⟩
  · exact .inr ⟨a, b, rfl, rfl, hk _ _ _ _ _ ho (Same.refl _) R (.bl _)⟩

/-! ### one-place operators -/
def negP : PV → PM → PK → Prop
  | .int i, M', k => k (.int (-i)) M'
  | _, _, _ => False
set_option autoImplicit true in
@[simp] theorem negP_s1 : negP  (.int i) M' k = (k (.int (-i)) M') := rfl
@[simp] def qNeg (f : QE) : QE := fun τ M x k => f τ M x fun v M' => negP v M' k
theorem de_neg {c : Cf} {a : Expr} {pos : Pos} {f : QE} (h : DE c a f) : DE c (.UnaryOp .USub a pos) (qNeg f) := fun X g B => (pe_un un_neg (h X g B)).im fun σ H Q => by
  rintro ⟨F, τ, M, x, k, a, hf, tk, hk⟩
  refine ⟨F, τ, M, x, _, a, hf, tk, fun p M1 F1 v1 H1 h1 s1 r1 e1 => ?_⟩
  cases e1 with
  | int i => exact ⟨i, rfl, hk _ _ _ _ _ h1 s1 r1 (.int _)⟩
  | _ => exact h1.elim

/-! ### items -/
def opIx : Q2
  | .str z, .int i, M, k => z.length ≤ sizeLine ∧ match atI z.cps.toList i with
      | some c => k (.str ⟨#[c]⟩) M
      | none => False
  | .tup xs, .int i, M, k => match atI xs i with
      | some v => k v M
      | none => False
  | .lst xs, .int i, M, k => match atI xs i with
      | some v => k v M
      | none => False
  | .rdl xs, .int i, M, k => match atI xs i with
      | some v => k v M
      | none => False
  | .ref a, .int i, M, k => seqP (.ref a) M fun xs => match atI xs i with
      | some v => k v M
      | none => False
  | _, _, _, _ => False
set_option autoImplicit true in
@[simp] theorem opIx_s1 : opIx  (.str z) (.int i) M k = (z.length ≤ sizeLine ∧ match atI z.cps.toList i with
      | some c => k (.str ⟨#[c]⟩) M
      | none => False) := rfl
set_option autoImplicit true in
@[simp] theorem opIx_s2 : opIx  (.tup xs) (.int i) M k = (match atI xs i with
      | some v => k v M
      | none => False) := rfl
set_option autoImplicit true in
@[simp] theorem opIx_s3 : opIx  (.lst xs) (.int i) M k = (match atI xs i with
      | some v => k v M
      | none => False) := rfl
set_option autoImplicit true in
@[simp] theorem opIx_s4 : opIx  (.rdl xs) (.int i) M k = (match atI xs i with
      | some v => k v M
      | none => False) := rfl
set_option autoImplicit true in
@[simp] theorem opIx_s5 : opIx  (.ref a) (.int i) M k = (seqP (.ref a) M fun xs => match atI xs i with
      | some v => k v M
      | none => False) := rfl
theorem reps_atI {K : Fg} {F : Hp} {xs : List PV} {vs : List V} {i : Int} {p : PV} (r : Reps K F xs vs) (h : atI xs i = some p) : ∃ v, atI vs i = some v ∧ Rep K F p v := by
  unfold atI at h ⊢
  rw [← r.length]
  cases e : ixN xs.length i with
  | none => rw [e] at h; cases h
  | some j =>
    rw [e] at h
    obtain ⟨v, h1, h2⟩ := r.get (show xs[j]? = some p from h)
    exact ⟨v, h1, h2⟩
theorem ix_q {K : Fg} {x y : V} {H : Hp} {Q : VK} (h : lR K opIx x y H Q) : rIx K x y H Q := by
  obtain ⟨F, p, q, M, k, R, ep, eq_, ho, hk⟩ := h
  have seq : ∀ {i : Int}, (seqP p M fun xs => match atI xs i with | some v => k v M | none => False) → y = .int i → rIx K x y H Q := fun {i} ho ey => by
    subst ey
    obtain ⟨a, vs, xs, rfl, hs, r, ho⟩ := seqP_ok R ep ho
    split at ho
    · rename_i e
      obtain ⟨v, e1, e2⟩ := reps_atI r e
      rcases hs with hs | hs
      · exact .inr (.inl ⟨_, _, _, _, rfl, rfl, hs, e1, hk _ _ _ _ _ ho (Same.refl _) R e2⟩)
      · exact .inl ⟨_, _, _, _, rfl, rfl, hs, e1, hk _ _ _ _ _ ho (Same.refl _) R e2⟩
    · exact ho.elim
  cases eq_ with
  | int i =>
    cases p with
    | str z =>
      cases ep
      obtain ⟨hz, ho⟩ := ho
      split at ho
      · rename_i e
        exact .inr (.inr ⟨_, _, _, rfl, rfl, hz, e, hk _ _ _ _ _ ho (Same.refl _) R (.str _)⟩)
      · exact ho.elim
    | tup xs => exact seq ho rfl
    | lst xs => exact seq ho rfl
    | rdl xs => exact seq ho rfl
    | ref xs => exact seq ho rfl
    | _ => exact ho.elim
  | _ => cases p <;> exact ho.elim
theorem de_ix {c : Cf} {a b : Expr} {pos : Pos} {fa fb : QE} (ha : DE c a fa) (hb : DE c b fb) (hs : PlainIx b := by intro _ _; rfl) : DE c (.Subscript a b pos) (qBin opIx fa fb) := fun X g B =>
  (pe_ix ix_seq (ha X g B) (hb X g B) hs).im fun σ H Q h => by
    obtain ⟨F, τ, M, x, k, a, hf, tk, hk⟩ := h
    refine ⟨F, τ, M, x, _, a, hf, tk, fun p M1 F1 v1 H1 h1 s1 r1 e1 => ?_⟩
    refine ⟨F1, τ, M1, x, _, a.next s1 r1, h1, tk, fun q M2 F2 v2 H2 h2 s2 r2 e2 => ?_⟩
    exact ix_q ⟨F2, p, q, M2, k, r2, e1.mono s2, e2, h2, fun z M' F' v H' hz s' r' e' => hk z M' F' v H' hz ((s1.trans s2).trans s') r' e'⟩
/-- xs[i] = e -/
def setP (v : PV) (τ : Tau) (k : Tau → PM → Prop) : PV → PV → PM → Prop
  | .ref a, .int i, Mz => match Mz a with
    | some (.lst xs) => match ixN xs.length i with
      | some j => k τ (updM Mz a (.lst (xs.set j v)))
      | none => False
    | _ => False
  | _, _, _ => False
set_option autoImplicit true in
@[simp] theorem setP_s1 (v : PV) (τ : Tau) (k : Tau → PM → Prop) : setP v τ k (.ref a) (.int i) Mz = (match Mz a with
    | some (.lst xs) => match ixN xs.length i with
      | some j => k τ (updM Mz a (.lst (xs.set j v)))
      | none => False
    | _ => False) := rfl
@[simp] def gItem (fo fi : QE) : QG := fun v τ M k => fo τ M (fun _ _ => False) fun o M1 => fi τ M1 (fun _ _ => False) fun i M2 => setP v τ k o i M2
theorem takes_f {X : Cx} {B : Hp} {τ : Tau} : Takes X (lW X.K B fun e τ' M' => τ' = τ ∧ False) := fun u s' x => by
  obtain ⟨_, _, _, _, _, _, _, _, _, _, _, _, _, _, _, _, z⟩ := x
  obtain ⟨_, _, _, _, _, _, _, _, _, w⟩ := z
  exact w.elim
theorem dg_item {c : Cf} {o i : Expr} {pos : Pos} {fo fi : QE} (ho : DE c o fo) (hi : DE c i fi) (ha : ∀ env v, assign (.Subscript o i pos) env v = (do
      let ov ← holding [v] (eval o env)
      let iv ← holding [v, ov] (eval i env)
      standAt pos
      holding [v, ov, iv] (setItem ov iv v)
      release [v, ov, iv] []) := by intro _ _; rfl) : DG c (.Subscript o i pos) (gItem fo fi) := fun X g B =>
  (pg_sub (ho X g.toGood B) (hi X g.toGood B) set_list (ha _)).im fun v σ H Q => by
    rintro ⟨F, τ, M, p, k, a, e, hg, hk⟩
    refine ⟨F, τ, M, _, _, a, hg, takes_f, fun q M1 F1 v1 H1 h1 s1 r1 e1 => ?_⟩
    refine ⟨F1, τ, M1, _, _, a.next s1 r1, h1, takes_f, fun w M2 F2 v2 H2 h2 s2 r2 e2 => ?_⟩
    have e1' := e1.mono s2
    unfold setP at h2
    split at h2
    · cases e1'; cases e2
      split at h2
      · rename_i e3
        split at h2
        · rename_i e4
          obtain ⟨vs, q1, q2⟩ := r2.getL e3
          refine ⟨_, _, _, _, rfl, rfl, q1, by rw [← q2.length]; exact e4, ?_⟩
          exact hk _ _ _ _ _ h2 (s1.trans s2) (r2.setL e3 (Reps.set ((e.mono s1).mono s2) _ q2)) (a.s.mono (s1.trans s2))
        · exact h2.elim
      · exact h2.elim
    · exact h2.elim

/-! ### built-in calls -/
abbrev QC := List PV → PM → PK → Prop
def lC (K : Fg) (r : QC) : List V → Hp → VK → Prop := fun vs H Q => ∃ F ps M k, Rel K F M H ∧ Reps K F ps vs ∧ r ps M k ∧ ∀ z M' F' v H', k z M' → Same F F' → Rel K F' M' H' → Rep K F' z v → Q v H'
def CQ (c : Cf) (f : Value) (r : QC) : Prop := ∀ X, Good c X → CallR X f (lC X.K r)
@[simp] def qCallB (r : QC) (fa : QA) : QE := fun τ M x k => fa τ M x fun ps M1 => r ps M1 k
theorem argsC {X : Cx} {B : Hp} {r : QC} {fa : QA} {σ : L2.St} {H : Hp} {Q : VK} (h : lE X B (qCallB r fa) σ H Q) : tCB (lC X.K r) (lA X B fa) σ H Q := by
  obtain ⟨F, τ, M, x, k, a, hf, tk, hk⟩ := h
  refine ⟨F, τ, M, x, _, a, hf, tk, fun ps M1 F1 vs H1 h1 s1 r1 e1 => ?_⟩
  exact ⟨F1, ps, M1, k, r1, e1, h1, fun z M' F' v H' hz s' r' e' => hk z M' F' v H' hz (s1.trans s') r' e'⟩
theorem de_callB {c : Cf} {x : Str} {id : String} {p pos : Pos} {e : Expr} {es : List Expr} {r : QC} {fa : QA} (hc : CQ c (.builtin id) r) (hg : c.sc.names.lookup x = some .globalImplicit) (hm : c.g.mg x = none) (hv : bootBuiltins x = some (.builtin id)) (ha : DA c (e :: es) fa)
    (hn : x ≠ "__name__" := by decide) (hdb : (x == ("__debug__" : Str)) = false := by decide) (he : ∀ env, starEach (e :: es) env = (false, eval e env) :: starEach es env := by intro _; rfl) (hpl : ∀ env, (backTo pos (starEach es env)).any (·.1) = false := by intro _; rfl) :
    DE c (.Call (.Name x p) (e :: es) [] pos) (qCallB r fa) := fun X g B =>
  (pe_callB (hc X g) (gl_of g.sc hg) (by rw [g.mg]; exact hm) hv (ha X g B) hn hdb (he _) (hpl _)).im fun _ _ _ h => argsC h
theorem de_callTy {c : Cf} {x : Str} {T : String} {p pos : Pos} {e : Expr} {es : List Expr} {r : QC} {fa : QA} (hc : CQ c (.type T) r) (hg : c.sc.names.lookup x = some .globalImplicit) (hm : c.g.mg x = none) (hv : bootBuiltins x = some (.type T)) (ha : DA c (e :: es) fa)
    (hn : x ≠ "__name__" := by decide) (hdb : (x == ("__debug__" : Str)) = false := by decide) (he : ∀ env, starEach (e :: es) env = (false, eval e env) :: starEach es env := by intro _; rfl) (hpl : ∀ env, (backTo pos (starEach es env)).any (·.1) = false := by intro _; rfl) :
    DE c (.Call (.Name x p) (e :: es) [] pos) (qCallB r fa) := fun X g B =>
  (pe_callTy (hc X g) (gl_of g.sc hg) (by rw [g.mg]; exact hm) hv (ha X g B) hn hdb (he _) (hpl _)).im fun _ _ _ h => argsC h
/-- len -/
def cLen : QC
  | [.str z], M, k => z.length ≤ sizeLine ∧ k (.int z.length) M
  | [.tup xs], M, k => k (.int xs.length) M
  | [.lst xs], M, k => k (.int xs.length) M
  | [.rdl xs], M, k => k (.int xs.length) M
  | [.ref a], M, k => seqP (.ref a) M fun xs => k (.int xs.length) M
  | _, _, _ => False
set_option autoImplicit true in
@[simp] theorem cLen_s1 : cLen  [.str z] M k = (z.length ≤ sizeLine ∧ k (.int z.length) M) := rfl
set_option autoImplicit true in
@[simp] theorem cLen_s2 : cLen  [.tup xs] M k = (k (.int xs.length) M) := rfl
set_option autoImplicit true in
@[simp] theorem cLen_s3 : cLen  [.lst xs] M k = (k (.int xs.length) M) := rfl
set_option autoImplicit true in
@[simp] theorem cLen_s4 : cLen  [.rdl xs] M k = (k (.int xs.length) M) := rfl
set_option autoImplicit true in
@[simp] theorem cLen_s5 : cLen  [.ref a] M k = (seqP (.ref a) M fun xs => k (.int xs.length) M) := rfl
theorem cq_len {c : Cf} : CQ c (.builtin "len") cLen := fun X g pins s σ H xs us Q I r h => by
  refine (CallR.or call_len_seq call_len_str) pins s σ H xs us Q I r ?_
  obtain ⟨F, ps, M, k, R, ep, ho, hk⟩ := h
  cases ep with
  | nil => exact ho.elim
  | @cons p v ps vs e1 e2 =>
    cases e2 with
    | cons _ _ => cases p <;> exact ho.elim
    | nil =>
      have seq : (seqP p M fun xs => k (.int xs.length) M) → (∃ q ys, [v] = [V.ref q] ∧ (SqL X.K H q ys ∨ SqT X.K H q ys) ∧ Q (.int ys.length) H) := fun ho => by
        obtain ⟨a, vs, ys, rfl, hs, r', ho⟩ := seqP_ok R e1 ho
        exact ⟨a, vs, rfl, hs.symm, by rw [← r'.length]; exact hk _ _ _ _ _ ho (Same.refl _) R (.int _)⟩
      cases p with
      | str z =>
        cases e1
        exact .inr ⟨_, rfl, ho.1, hk _ _ _ _ _ ho.2 (Same.refl _) R (.int _)⟩
      | tup xs => exact .inl (seq ho)
      | lst xs => exact .inl (seq ho)
      | rdl xs => exact .inl (seq ho)
      | ref xs => exact .inl (seq ho)
      | _ => exact ho.elim
def cI2 (g : Int → Int → Int) : QC
  | [.int i, .int j], M, k => k (.int (g i j)) M
  | _, _, _ => False
set_option autoImplicit true in
@[simp] theorem cI2_s1 (g : Int → Int → Int) : cI2 g [.int i, .int j] M k = (k (.int (g i j)) M) := rfl
theorem cq_i2 {c : Cf} {f : Value} {gg : Int → Int → Int} (h : ∀ X, Good c X → CallR X f (fun xs H Q => ∃ i j, xs = [.int i, .int j] ∧ Q (.int (gg i j)) H)) : CQ c f (cI2 gg) := fun X g pins s σ H xs us Q I r hh => by
  refine h X g pins s σ H xs us Q I r ?_
  obtain ⟨F, ps, M, k, R, ep, ho, hk⟩ := hh
  unfold cI2 at ho
  split at ho
  · cases ep with
    | cons e1 e2 =>
      cases e1
      cases e2 with
      | cons e3 e4 =>
        cases e3; cases e4
        exact ⟨_, _, rfl, hk _ _ _ _ _ ho (Same.refl _) R (.int _)⟩
  · exact ho.elim
def maxI (i j : Int) : Int := if j > i then j else i
def minI (i j : Int) : Int := if j < i then j else i
theorem cq_max {c : Cf} : CQ c (.builtin "max") (cI2 maxI) := cq_i2 fun X g => call_max2 g.calm
theorem cq_min {c : Cf} : CQ c (.builtin "min") (cI2 minI) := cq_i2 fun X g => call_min2 g.calm
def cAbs : QC
  | [.int i], M, k => k (.int (if i < 0 then -i else i)) M
  | _, _, _ => False
set_option autoImplicit true in
@[simp] theorem cAbs_s1 : cAbs  [.int i] M k = (k (.int (if i < 0 then -i else i)) M) := rfl
theorem cq_abs {c : Cf} : CQ c (.builtin "abs") cAbs := fun X g pins s σ H xs us Q I r hh => by
  refine call_abs pins s σ H xs us Q I r ?_
  obtain ⟨F, ps, M, k, R, ep, ho, hk⟩ := hh
  unfold cAbs at ho
  split at ho
  · cases ep with
    | cons e1 e2 =>
      cases e1; cases e2
      exact ⟨_, rfl, hk _ _ _ _ _ ho (Same.refl _) R (.int _)⟩
  · exact ho.elim
/-- isinstance against a built-in type -/
inductive Tg where
  | int | bool | str | tup | lst | non | dct
def Tg.nm : Tg → String
  | .int => "int" | .bool => "bool" | .str => "str" | .tup => "tuple" | .lst => "list" | .non => "NoneType" | .dct => "dict"
@[simp] def tInt : Tg → Bool
  | .int => true | .bool => true | .str => false | .tup => false | .lst => false | .non => false | .dct => false
@[simp] def tBool : Tg → Bool
  | .int => false | .bool => true | .str => false | .tup => false | .lst => false | .non => false | .dct => false
@[simp] def tStr : Tg → Bool
  | .int => false | .bool => false | .str => true | .tup => false | .lst => false | .non => false | .dct => false
@[simp] def tTup : Tg → Bool
  | .int => false | .bool => false | .str => false | .tup => true | .lst => false | .non => false | .dct => false
@[simp] def tDct : Tg → Bool
  | .int => false | .bool => false | .str => false | .tup => false | .lst => false | .non => false | .dct => true
@[simp] def tLst : Tg → Bool
  | .int => false | .bool => false | .str => false | .tup => false | .lst => true | .non => false | .dct => false
def isTg (t : Tg) (n : String) : Option Bool :=
  if n = "int" then some (tInt t) else if n = "bool" then some (tBool t) else if n = "str" then some (tStr t)
  else if n = "tuple" then some (tTup t) else if n = "list" then some (tLst t) else if n = "dict" then some (tDct t) else none
@[simp] theorem isTg_int {t : Tg} : isTg t "int" = some (tInt t) := rfl
@[simp] theorem isTg_bool {t : Tg} : isTg t "bool" = some (tBool t) := rfl
@[simp] theorem isTg_str {t : Tg} : isTg t "str" = some (tStr t) := rfl
@[simp] theorem isTg_tup {t : Tg} : isTg t "tuple" = some (tTup t) := rfl
@[simp] theorem isTg_lst {t : Tg} : isTg t "list" = some (tLst t) := rfl
@[simp] theorem isTg_dict {t : Tg} : isTg t "dict" = some (tDct t) := rfl
theorem isTg_ok {t : Tg} {n : String} {b : Bool} (h : isTg t n = some b) : kitB t.nm n = some b := by
  unfold isTg at h
  split at h
  · rename_i e; subst e; rw [← h]; cases t <;> decide +kernel
  split at h
  · rename_i e; subst e; rw [← h]; cases t <;> decide +kernel
  split at h
  · rename_i e; subst e; rw [← h]; cases t <;> decide +kernel
  split at h
  · rename_i e; subst e; rw [← h]; cases t <;> decide +kernel
  split at h
  · rename_i e; subst e; rw [← h]; cases t <;> decide +kernel
  split at h
  · rename_i e; subst e; rw [← h]; cases t <;> decide +kernel
  · cases h
def tgP : PV → PM → (Tg → Prop) → Prop
  | .non, _, k => k .non
  | .bl _, _, k => k .bool
  | .int _, _, k => k .int
  | .str _, _, k => k .str
  | .tup _, _, k => k .tup
  | .lst _, _, k => k .lst
  | .rdl _, _, k => k .lst
  | .ref a, M, k => match M a with
    | some (.lst _) => k .lst
    | some (.dK _) => k .dct
    | _ => False
  | .ty _, _, _ => False
set_option autoImplicit true in
@[simp] theorem tgP_s1 : tgP  .non w1 k = (k .non) := rfl
set_option autoImplicit true in
@[simp] theorem tgP_s2 : tgP  (.bl w1) w2 k = (k .bool) := rfl
set_option autoImplicit true in
@[simp] theorem tgP_s3 : tgP  (.int w1) w2 k = (k .int) := rfl
set_option autoImplicit true in
@[simp] theorem tgP_s4 : tgP  (.str w1) w2 k = (k .str) := rfl
set_option autoImplicit true in
@[simp] theorem tgP_s5 : tgP  (.tup w1) w2 k = (k .tup) := rfl
set_option autoImplicit true in
@[simp] theorem tgP_s6 : tgP  (.lst w1) w2 k = (k .lst) := rfl
set_option autoImplicit true in
@[simp] theorem tgP_s7 : tgP  (.rdl w1) w2 k = (k .lst) := rfl
set_option autoImplicit true in
@[simp] theorem tgP_s8 : tgP  (.ref a) M k = (match M a with
    | some (.lst _) => k .lst
    | some (.dK _) => k .dct
    | _ => False) := rfl
theorem tgP_ok {K : Fg} {F : Hp} {M : PM} {H : Hp} {p : PV} {v : V} {k : Tg → Prop} (R : Rel K F M H) (e : Rep K F p v) (h : tgP p M k) : ∃ t, TyX K H v (.type t.nm) ∧ k t := by
  cases e with
  | non => exact ⟨.non, .base .non, h⟩
  | bl b => exact ⟨.bool, .base (.bl b), h⟩
  | int b => exact ⟨.int, .base (.int b), h⟩
  | str b => exact ⟨.str, .base (.str b), h⟩
  | ty n => exact h.elim
  | ref a =>
    have h' : (match M a with | some (.lst _) => k .lst | some (.dK _) => k .dct | _ => False) := h
    split at h'
    · rename_i xs e2
      obtain ⟨vs, e3, e4⟩ := R.getL e2
      exact ⟨.lst, .base (.lst e3), h'⟩
    · rename_i kvs e2
      obtain ⟨ws, e3, e4⟩ := R.chg _ _ e2
      exact ⟨.dct, .base (.dK e3), h'⟩
    · exact h'.elim
  | tup hs r =>
    refine ⟨.tup, ?_, h⟩
    rcases hs with (hs | ⟨o, hs⟩) | ⟨o, its, n, h1, h2, _⟩
    · exact .base (.tup (R.sub _ _ hs))
    · exact .fTuple (R.sub _ _ hs)
    · exact .kTuple h1 h2
  | lst hs r => exact ⟨.lst, .base (.lst (R.sub _ _ hs)), h⟩
  | rdl hs r =>
    refine ⟨.lst, ?_, h⟩
    rcases hs with (hs | ⟨o, hs⟩) | ⟨o, its, n, h1, h2, _⟩
    · exact .base (.lst (R.sub _ _ hs))
    · exact .base (.frz (R.sub _ _ hs))
    · exact .kList h1 h2
def cIsi : QC
  | [p, .ty n], M, k => tgP p M fun t => match isTg t n with
    | some b => k (.bl b) M
    | none => False
  | _, _, _ => False
set_option autoImplicit true in
@[simp] theorem cIsi_s1 : cIsi  [p, .ty n] M k = (tgP p M fun t => match isTg t n with
    | some b => k (.bl b) M
    | none => False) := rfl
theorem cq_isi {c : Cf} : CQ c (.builtin "isinstance") cIsi := fun X g pins s σ H xs us Q I r hh => by
  refine call_isi pins s σ H xs us Q I r ?_
  obtain ⟨F, ps, M, k, R, ep, ho, hk⟩ := hh
  unfold cIsi at ho
  split at ho
  · cases ep with
    | cons e1 e2 =>
      cases e2 with
      | cons e3 e4 =>
        cases e3; cases e4
        obtain ⟨t, ht, ho⟩ := tgP_ok R e1 ho
        split at ho
        · rename_i b e
          exact ⟨_, _, _, _, b, rfl, .ty _, ht, kit_ty (isTg_ok e), hk _ _ _ _ _ ho (Same.refl _) R (.bl _)⟩
        · exact ho.elim
  · exact ho.elim

/-! ### a def's promise -/
abbrev PSp := List PV → PM → PK → PX → Prop
def toSp (K : Fg) (p : PSp) : Sp := fun vs H Q E => ∃ F ps M k x, Rel K F M H ∧ Reps K F ps vs ∧ p ps M k x ∧
  (∀ r M' F' v H', k r M' → Same F F' → Rel K F' M' H' → Rep K F' r v → Q v H') ∧ (∀ e M' F' cls d H', x e M' → Same F F' → Rel K F' M' H' → ExRep K F' e cls d → E cls d H')
/-- a def that keeps sp where no object is being shown (guards) -/
def FnG (P : Program) (w : World) (K : Fg) (mg : Str → Option Value) (base : Heap) (CX : CXT) (k : Nat) (f : Addr) (sp : Sp) : Prop :=
  ∀ (A : Around) (outer : List Env) (s : Shared) (H : Hp) (us : List Value) (vs : List V) (Q : VK) (E : XK), Room k A → A.guards = some [] → Env0 P w K mg base A outer s H → Vals vs us → sp vs H Q E → codeAny (model P w) A (.call (.ref f) ⟨us, []⟩) (CR CX outer P w H s Q E) s
theorem FnG.mono {P : Program} {w : World} {K : Fg} {mg : Str → Option Value} {base : Heap} {CX : CXT} {j k : Nat} {f : Addr} {sp : Sp} (F : FnG P w K mg base CX j f sp) (h : j ≤ k) : FnG P w K mg base CX k f sp :=
  fun A outer s H us vs Q E hr hg => F A outer s H us vs Q E (hr.mono h) hg
def FnQ (g : Glb) (k : Nat) (f : Addr) (p : PSp) : Prop := FnG g.P g.w g.K g.mg g.base (L2.CX g.P g.w) k f (toSp g.K p)
/-- the module's name x holds a def that keeps p -/
def Has (g : Glb) (x : Str) (k : Nat) (p : PSp) : Prop := ∃ f, g.mg x = some (.ref f) ∧ PySem.W.keepIn g.K (.ref f) = true ∧ FnQ g k f p
theorem run_fnRS {X : Cx} {pins : List (Addr × Obj)} {σ : L2.St} {H : Hp} {s : Shared} {CX : CXT} {k : Nat} {f : Addr} {sp : Sp} {E : XK} {Q : VK} {us : List Value} {vs : List V} (F : FnG X.prog X.w X.K X.mg X.base CX k f sp) (hr : Room k X.A) (hg : X.A.guards = some []) (hx : PassesAt CX X σ E) (I : Inv X pins σ H s) (r : Vals vs us) (h : sp vs H Q E) :
    wpAny (model X.prog X.w) X.A (call (.ref f) us) (EP X pins σ Q) X.xe s := by
  refine wpAny_call (codeAny_mono (F X.A X.stack s H us vs Q E hr hg I.env0 r h) fun r s' hq => ?_)
  cases r with
  | error e => exact hx pins H s e s' I hq
  | ok fl =>
    cases fl with
    | ret u => exact I.after hq
    | next => exact False.elim hq
    | brk => exact False.elim hq
    | cont => exact False.elim hq
@[simp] def qCall (p : PSp) (fa : QA) : QE := fun τ M x k => fa τ M x fun ps M1 => p ps M1 k x
theorem fnX {c : Cf} {X : Cx} (g : Good c X) {k : Nat} {f : Addr} {p : PSp} (h : FnQ c.g k f p) (hk : k ≤ c.k) : FnG X.prog X.w X.K X.mg X.base (L2.CX X.prog X.w) c.k f (toSp X.K p) := by
  rw [g.prog, g.w, g.K, g.mg, g.base]
  exact FnG.mono h hk
/-- behind the arguments: the callee's promise -/
theorem run_call {c : Cf} {X : Cx} (g : Good c X) {B : Hp} {pins : List (Addr × Obj)} {σ : L2.St} {H : Hp} {s : Shared} {k : Nat} {f : Addr} {p : PSp} (h : FnQ c.g k f p) (hk : k ≤ c.k) {F : Hp} {τ : Tau} {M : PM} {x : PX} {kk : PK} {Q : VK} {ps : List PV} {vs : List V} {us : List Value}
    (a : At X.K B F τ M σ H) (tk : Takes X (lW X.K B fun e τ' M' => τ' = τ ∧ x e M')) (I : Inv X pins σ H s) (rv : Vals vs us) (re : Reps X.K F ps vs) (hp : p ps M kk x) (hq : ∀ r M' F' v H', kk r M' → Same F F' → Rel X.K F' M' H' → Rep X.K F' r v → Q v H') :
    wpAny (model X.prog X.w) X.A (call (.ref f) us) (EP X pins σ Q) X.xe s := by
  refine run_fnRS (fnX g h hk) g.room g.grd (passAt tk σ) I rv ⟨F, ps, M, kk, x, a.r, re, hp, hq, fun e M' F' cls d H' he s' r' er => ?_⟩
  exact ⟨F', τ, M', e, a.b.trans s', r', a.s.mono s', er, rfl, he⟩
theorem de_call {c : Cf} {nm : Str} {k : Nat} {p : PSp} {np pos : Pos} {e : Expr} {es : List Expr} {fa : QA} (hf : Has c.g nm k p) (ha : DA c (e :: es) fa) (hk : k ≤ c.k := by exact Nat.le_of_ble_eq_true rfl) (hg : c.sc.names.lookup nm = some .globalImplicit := by rfl)
    (hdb : (nm == ("__debug__" : Str)) = false := by decide) (he : ∀ env, starEach (e :: es) env = (false, eval e env) :: starEach es env := by intro _; rfl) (hpl : ∀ env, (backTo pos (starEach es env)).any (·.1) = false := by intro _; rfl) :
    DE c (.Call (.Name nm np) (e :: es) [] pos) (qCall p fa) := fun X g B => by
  obtain ⟨f, h1, h2, h3⟩ := hf
  refine ⟨fun pins s σ H Q I h => ?_⟩
  obtain ⟨F, τ, M, x, kk, a, hf, tk, hq⟩ := h
  refine wpAny_Call_Name_kw (ld_glob I (gl_of g.sc hg) (by rw [g.mg]; exact h1) ?_ hdb)
  refine PySem.W.callWith_K (K := X.K) (h₀ := X.base) I.ok.mod.kin (by rw [g.K]; exact h2) (thn ((ha X g B).run pos pins s σ H (fun vs H1 => ∃ ps M1 F1, p ps M1 kk x ∧ Same F F1 ∧ Rel X.K F1 M1 H1 ∧ Reps X.K F1 ps vs) I ⟨F, τ, M, x, _, a, hf, tk, fun ps M1 F1 vs H1 q1 q2 q3 q4 => ⟨ps, M1, F1, q1, q2, q3, q4⟩⟩) fun us s1 ⟨vs, H1, I1, rv, ps, M1, F1, q1, q2, q3, q4⟩ => ⟨I1.kIn, ?_⟩) (he _) (hpl _)
  exact run_call g h3 hk (a.next q2 q3) tk I1 rv q4 q1 fun r M' F' v H' z s' => hq r M' F' v H' z (q2.trans s')
theorem de_call0 {c : Cf} {nm : Str} {k : Nat} {p : PSp} {np pos : Pos} (hf : Has c.g nm k p) (hk : k ≤ c.k := by exact Nat.le_of_ble_eq_true rfl) (hg : c.sc.names.lookup nm = some .globalImplicit := by rfl) (hdb : (nm == ("__debug__" : Str)) = false := by decide) :
    DE c (.Call (.Name nm np) [] [] pos) (qCall p qNil) := fun X g B => by
  obtain ⟨f, h1, h2, h3⟩ := hf
  refine ⟨fun pins s σ H Q I h => ?_⟩
  obtain ⟨F, τ, M, x, kk, a, hf, tk, hq⟩ := h
  refine wpAny_Call_Name_kw (ld_glob I (gl_of g.sc hg) (by rw [g.mg]; exact h1) ?_ hdb)
  exact PySem.W.callWith_K0 (K := X.K) I.kIn (by rw [g.K]; exact h2) (run_call g h3 hk a tk I .nil .nil hf hq)
/-- f(*xs) -/
theorem de_callS1 {c : Cf} {nm : Str} {k : Nat} {p : PSp} {np sp_ pos : Pos} {e : Expr} {fe : QE} (hf : Has c.g nm k p) (ha : DE c e fe) (hk : k ≤ c.k := by exact Nat.le_of_ble_eq_true rfl) (hg : c.sc.names.lookup nm = some .globalImplicit := by rfl)
    (hdb : (nm == ("__debug__" : Str)) = false := by decide) (he : ∀ env, starEach [.Starred e sp_] env = [(true, eval e env)] := by intro _; rfl) :
    DE c (.Call (.Name nm np) [.Starred e sp_] [] pos) (fun τ M x k => fe τ M x fun v M1 => seqP v M1 fun ps => p ps M1 k x) := fun X g B => by
  obtain ⟨f, h1, h2, h3⟩ := hf
  refine ⟨fun pins s σ H Q I h => ?_⟩
  obtain ⟨F, τ, M, x, kk, a, hf, tk, hq⟩ := h
  refine wpAny_Call_Name_kw (ld_glob I (gl_of g.sc hg) (by rw [g.mg]; exact h1) ?_ hdb)
  refine PySem.W.callWith_S (K := X.K) (h₀ := X.base) I.ok.mod.kin (by rw [g.K]; exact h2) (thn ((ha X g B).run pins s σ H (fun v H1 => ∃ z M1 F1, (seqP z M1 fun ps => p ps M1 kk x) ∧ Same F F1 ∧ Rel X.K F1 M1 H1 ∧ Rep X.K F1 z v) I ⟨F, τ, M, x, _, a, hf, tk, fun z M1 F1 v H1 q1 q2 q3 q4 => ⟨z, M1, F1, q1, q2, q3, q4⟩⟩) fun u s1 ⟨v, H1, I1, rv, z, M1, F1, q1, q2, q3, q4⟩ => ?_) (he _)
  obtain ⟨ad, vs, xs, rfl, hs, rr, hp⟩ := seqP_ok q3 q4 q1
  obtain rfl : u = Value.ref ad := rv
  exact StX.star_any I1 hs fun us s2 I2 r2 => ⟨I2.kIn, run_call g h3 hk (a.next q2 q3) tk I2 r2 rr hp fun r M' F' v H' z s' => hq r M' F' v H' z (q2.trans s')⟩

/-! ### loops -/
/-- what a walk over xs (a list or a tuple, as it stands) asks: an invariant over the turn -/
def goes (xs : List PV) (g : QG) (b : QS) (d : PEnds) (τ : Tau) (M : PM) : Prop :=
  ∃ W : Nat → Tau → PM → Prop, W 0 τ M ∧ (∀ i x τ' M', xs[i]? = some x → W i τ' M' → g x τ' M' fun τ2 M2 => b { d with nx := W (i + 1), ct := W (i + 1), bk := d.nx } τ2 M2) ∧ (∀ τ' M', W xs.length τ' M' → d.nx τ' M')
/-- the same over a list that stands at an address (unchanged by the turns) -/
def stays : PV → List PV → PM → Prop
  | .ref a, xs, M => M a = some (.lst xs)
  | .non, _, _ => True
  | .bl _, _, _ => True
  | .int _, _, _ => True
  | .str _, _, _ => True
  | .ty _, _, _ => True
  | .tup _, _, _ => True
  | .lst _, _, _ => True
  | .rdl _, _, _ => True
set_option autoImplicit true in
@[simp] theorem stays_s1 : stays  (.ref a) xs M = (M a = some (.lst xs)) := rfl
set_option autoImplicit true in
@[simp] theorem stays_s2 : stays  .non w1 w2 = (True) := rfl
set_option autoImplicit true in
@[simp] theorem stays_s3 : stays  (.bl w1) w2 w3 = (True) := rfl
set_option autoImplicit true in
@[simp] theorem stays_s4 : stays  (.int w1) w2 w3 = (True) := rfl
set_option autoImplicit true in
@[simp] theorem stays_s5 : stays  (.str w1) w2 w3 = (True) := rfl
set_option autoImplicit true in
@[simp] theorem stays_s6 : stays  (.ty w1) w2 w3 = (True) := rfl
set_option autoImplicit true in
@[simp] theorem stays_s7 : stays  (.tup w1) w2 w3 = (True) := rfl
set_option autoImplicit true in
@[simp] theorem stays_s8 : stays  (.lst w1) w2 w3 = (True) := rfl
set_option autoImplicit true in
@[simp] theorem stays_s9 : stays  (.rdl w1) w2 w3 = (True) := rfl
def qFor (f : QE) (g : QG) (b : QS) : QS := fun d τ M => f τ M (dx d τ) fun v M1 => seqP v M1 fun xs =>
  ∃ W : Nat → Tau → PM → Prop, W 0 τ M1 ∧ (∀ i τ' M', W i τ' M' → stays v xs M') ∧ (∀ i x τ' M', xs[i]? = some x → W i τ' M' → g x τ' M' fun τ2 M2 => b { d with nx := W (i + 1), ct := W (i + 1), bk := d.nx } τ2 M2) ∧ (∀ τ' M', W xs.length τ' M' → d.nx τ' M')
/-- lists and tuples alike -/
def iSeq (K : Fg) (tl : TE) : TI := fun σ H R => tl σ H fun x H1 => ∃ a, x = .ref a ∧ (((∃ xs, SqL K H1 a xs) ∧ R (Itl K a) H1) ∨ ((∃ xs, SqT K H1 a xs) ∧ R (Itt K a) H1))
theorem pi_seq {X : Cx} {tg l : Expr} {tl : TE} (hl : PE X l tl) : PI X tg l (iSeq X.K tl) := by
  refine ⟨fun pins s σ H R I h => ?_⟩
  refine thn (hl.run pins s σ H _ I h) fun v s1 ⟨x, H1, I1, r1, q1⟩ => ?_
  obtain ⟨a, e, q⟩ := q1
  subst e
  cases r1
  rcases q with ⟨⟨xs, hq⟩, q⟩ | ⟨⟨xs, hq⟩, q⟩
  · obtain ⟨its, rv, p, hz⟩ := I1.list hq
    refine wpAny_pyIter_list p.isList ?_
    refine ⟨s1.heap.objs.size, [s1.heap.objs.size], _, _, H1, rfl, I1.kept (t' := s1.toks) fun b o e => Heap.get?_push_of_some _ e, turn_list a _, ⟨_, Heap.get?_push_size _ rfl, rfl, rfl⟩, fun b hb => ?_, q⟩
    have e : b = s1.heap.objs.size := by simpa using hb
    subst e
    exact I1.fpOk (Nat.le_refl _) (I1.hok.fresh (Nat.le_refl _))
  · obtain ⟨its, rv, p, hz⟩ := I1.tuple hq
    refine wpAny_pyIter_tuple (show s1.heap.IsTuple a its.toArray from p) ?_
    refine ⟨s1.heap.objs.size, [s1.heap.objs.size], _, _, H1, rfl, I1.kept (t' := s1.toks) fun b o e => Heap.get?_push_of_some _ e, turn_tuple a _, ⟨_, Heap.get?_push_size _ rfl, rfl, rfl⟩, fun b hb => ?_, q⟩
    have e : b = s1.heap.objs.size := by simpa using hb
    subst e
    exact I1.fpOk (Nat.le_refl _) (I1.hok.fresh (Nat.le_refl _))
theorem seqP_st {K : Fg} {F : Hp} {M : PM} {H : Hp} {p : PV} {v : V} {k : List PV → Prop} (R : Rel K F M H) (e : Rep K F p v) (h : seqP p M k) : ∃ a xs, v = .ref a ∧ k xs ∧
    ((∀ F' M' H', Same F F' → Rel K F' M' H' → stays p xs M' → ∃ vs, SqL K H' a vs ∧ Reps K F' xs vs) ∨ (∀ F' M' H', Same F F' → Rel K F' M' H' → stays p xs M' → ∃ vs, SqT K H' a vs ∧ Reps K F' xs vs)) := by
  cases e with
  | ref a =>
    have h' : (match M a with | some (.lst xs) => k xs | _ => False) := h
    split at h'
    · rename_i xs e2
      refine ⟨_, xs, rfl, h', .inl fun F' M' H' s' r' st => ?_⟩
      obtain ⟨vs, e3, e4⟩ := r'.getL st
      exact ⟨vs, SqL.of e3, e4⟩
    · exact h'.elim
  | tup hs r => exact ⟨_, _, rfl, h, .inr fun F' M' H' s' r' st => ⟨_, sqT_mono r'.sub (sqT_mono s' hs), r.mono s'⟩⟩
  | lst hs r => exact ⟨_, _, rfl, h, .inl fun F' M' H' s' r' st => ⟨_, SqL.of (r'.sub _ _ (s' _ _ hs)), r.mono s'⟩⟩
  | rdl hs r => exact ⟨_, _, rfl, h, .inl fun F' M' H' s' r' st => ⟨_, r'.sub.seq (s'.seq hs), r.mono s'⟩⟩
  | _ => exact h.elim
theorem for_listQ {K : Fg} {a : Addr} {n : Nat} {g : TG} {tb : TS} {D : Ends} {σ : L2.St} {H : Hp} (Pv : Nat → L2.St → Hp → Prop) (h0 : Pv 0 σ H) (hl : ∀ i σ H, i ≤ n → Pv i σ H → ∃ vs, SqL K H a vs ∧ vs.length = n)
    (hs : ∀ i x σ H, (∀ vs, SqL K H a vs → vs[i]? = some x) → Pv i σ H → g x σ H fun σ2 H2 => tb { D with nx := Pv (i + 1), ct := Pv (i + 1), bk := D.nx } σ2 H2) (hd : ∀ σ H, Pv n σ H → D.nx σ H) :
    ∃ W : Nat → Nat → L2.St → Hp → Prop, (∃ m, W 0 m σ H) ∧ ∀ i m σ H, W i m σ H →
      ((Itl K a).stop i H ∧ D.nx σ H) ∨ ((Itl K a).go i H ∧ ∃ N : L2.St → Hp → Prop, (∀ σ' H', N σ' H' → ∃ m', m' < m ∧ W (i + 1) m' σ' H') ∧ ∀ x H', (Itl K a).yld i H x H' → g x σ H' fun σ2 H2 => tb { D with nx := N, ct := N, bk := D.nx } σ2 H2) := by
  refine ⟨fun i m σ H => m = n - i ∧ i ≤ n ∧ Pv i σ H, ⟨n, by simp, Nat.zero_le _, h0⟩, ?_⟩
  rintro i m σ H ⟨rfl, hi, p⟩
  obtain ⟨vs, q, hn⟩ := hl i σ H hi p
  by_cases hlt : i < n
  · have hlt' : i < vs.length := by omega
    refine .inr ⟨⟨vs, vs[i], q, by simp [hlt']⟩, Pv (i + 1), fun σ' H' p' => ⟨n - (i + 1), by omega, rfl, hlt, p'⟩, fun x H' y => ?_⟩
    obtain ⟨e, y⟩ := y
    subst e
    exact hs i x σ _ y p
  · have e : i = n := by omega
    subst e
    exact .inl ⟨⟨vs, q, Nat.le_of_eq hn⟩, hd σ H p⟩
theorem for_tupQ {K : Fg} {a : Addr} {n : Nat} {g : TG} {tb : TS} {D : Ends} {σ : L2.St} {H : Hp} (Pv : Nat → L2.St → Hp → Prop) (h0 : Pv 0 σ H) (hl : ∀ i σ H, i ≤ n → Pv i σ H → ∃ vs, SqT K H a vs ∧ vs.length = n)
    (hs : ∀ i x σ H, (∀ vs, SqT K H a vs → vs[i]? = some x) → Pv i σ H → g x σ H fun σ2 H2 => tb { D with nx := Pv (i + 1), ct := Pv (i + 1), bk := D.nx } σ2 H2) (hd : ∀ σ H, Pv n σ H → D.nx σ H) :
    ∃ W : Nat → Nat → L2.St → Hp → Prop, (∃ m, W 0 m σ H) ∧ ∀ i m σ H, W i m σ H →
      ((Itt K a).stop i H ∧ D.nx σ H) ∨ ((Itt K a).go i H ∧ ∃ N : L2.St → Hp → Prop, (∀ σ' H', N σ' H' → ∃ m', m' < m ∧ W (i + 1) m' σ' H') ∧ ∀ x H', (Itt K a).yld i H x H' → g x σ H' fun σ2 H2 => tb { D with nx := N, ct := N, bk := D.nx } σ2 H2) := by
  refine ⟨fun i m σ H => m = n - i ∧ i ≤ n ∧ Pv i σ H, ⟨n, by simp, Nat.zero_le _, h0⟩, ?_⟩
  rintro i m σ H ⟨rfl, hi, p⟩
  obtain ⟨vs, q, hn⟩ := hl i σ H hi p
  by_cases hlt : i < n
  · have hlt' : i < vs.length := by omega
    refine .inr ⟨⟨vs, vs[i], q, by simp [hlt']⟩, Pv (i + 1), fun σ' H' p' => ⟨n - (i + 1), by omega, rfl, hlt, p'⟩, fun x H' y => ?_⟩
    obtain ⟨e, y⟩ := y
    subst e
    exact hs i x σ _ y p
  · have e : i = n := by omega
    subst e
    exact .inl ⟨⟨vs, q, Nat.le_of_eq hn⟩, hd σ H p⟩
/-- one turn of a walk, told of the trees -/
theorem turnQ {X : Cx} {B F F1 : Hp} {d : PEnds} {D : Ends} {W : Nat → Tau → PM → Prop} {g : QG} {b : QS} {i : Nat} {x : PV} {v : V} {σ' : L2.St} {H' : Hp} (tk : Takes X (lW X.K B d.ex)) (hd : DOk X.K F d D) (s1 : Same F F1)
    (wgo : ∀ τ' M', W i τ' M' → g x τ' M' fun τ2 M2 => b { d with nx := W (i + 1), ct := W (i + 1), bk := d.nx } τ2 M2) {F' : Hp} {τ' : Tau} {M' : PM} (s' : Same F1 F') (a' : At X.K B F' τ' M' σ' H') (w : W i τ' M') (hv : Rep X.K F' x v) :
    lG X B g v σ' H' fun σ2 H2 => lS X B b { D with nx := fun σ3 H3 => ∃ F' τ' M', Same F1 F' ∧ At X.K B F' τ' M' σ3 H3 ∧ W (i + 1) τ' M', ct := fun σ3 H3 => ∃ F' τ' M', Same F1 F' ∧ At X.K B F' τ' M' σ3 H3 ∧ W (i + 1) τ' M', bk := D.nx } σ2 H2 := by
  refine ⟨F', τ', M', x, _, a', hv, wgo τ' M' w, fun τ2 M2 F2 σ2 H2 h2 s2 r2 sr2 => ?_⟩
  refine ⟨F2, τ2, M2, _, ⟨a'.b.trans s2, r2, sr2⟩, h2, tk, ⟨fun τ3 M3 F3 σ3 H3 q s3 r3 sr3 => ⟨F3, τ3, M3, (s'.trans s2).trans s3, ⟨(a'.b.trans s2).trans s3, r3, sr3⟩, q⟩, fun r M3 F3 v H3 q s3 => hd.rt r M3 F3 v H3 q (((s1.trans s').trans s2).trans s3),
    fun τ3 M3 F3 σ3 H3 q s3 => hd.nx τ3 M3 F3 σ3 H3 q (((s1.trans s').trans s2).trans s3), fun τ3 M3 F3 σ3 H3 q s3 r3 sr3 => ⟨F3, τ3, M3, (s'.trans s2).trans s3, ⟨(a'.b.trans s2).trans s3, r3, sr3⟩, q⟩⟩⟩
theorem ds_for {c : Cf} {tg iter : Expr} {body : List Stmt} {pos : Pos} {f : QE} {g : QG} {b : QS} (hi : DE c iter f) (hg : DG c tg g) (hb : DSs c body b) (hs : ∀ env x, foldedSetIterable iter env x = pure x := by intro _ _; rfl) : DS c (.For tg iter body [] pos) (qFor f g b) := fun X gd B =>
  (ps_for gd.pass gd.calm (pi_seq (hi X gd.toGood B)) (hg X gd B) (hb X gd B) (hs _)).im fun D σ H => by
    rintro ⟨F, τ, M, d, a, hf, tk, hd⟩
    refine ⟨F, τ, M, _, _, a, hf, takes_x tk, fun p M1 F1 v H1 h1 s1 r1 e1 => ?_⟩
    obtain ⟨ad, xs, rfl, ⟨W, w0, wst, wgo, wend⟩, hq⟩ := seqP_st r1 e1 h1
    have a1 : At X.K B F1 τ M1 σ H1 := a.next s1 r1
    have last : ∀ σ' H', (∃ F' τ' M', Same F1 F' ∧ At X.K B F' τ' M' σ' H' ∧ W xs.length τ' M') → D.nx σ' H' := by
      rintro σ' H' ⟨F', τ', M', s', a', w⟩
      exact hd.nx _ _ _ _ _ (wend τ' M' w) (s1.trans s') a'.r a'.s
    refine ⟨ad, rfl, ?_⟩
    rcases hq with hq | hq
    · obtain ⟨vs, q1, q2⟩ := hq F1 M1 H1 (Same.refl _) r1 (wst 0 τ M1 w0)
      refine .inl ⟨⟨vs, q1⟩, for_listQ (n := xs.length) (fun i σ' H' => ∃ F' τ' M', Same F1 F' ∧ At X.K B F' τ' M' σ' H' ∧ W i τ' M') ⟨F1, τ, M1, Same.refl _, a1, w0⟩ (fun i σ' H' _ w => ?_) (fun i v σ' H' hv w => ?_) last⟩
      · obtain ⟨F', τ', M', s', a', w⟩ := w
        obtain ⟨ws, z1, z2⟩ := hq F' M' H' s' a'.r (wst i τ' M' w)
        exact ⟨ws, z1, z2.length.symm⟩
      · obtain ⟨F', τ', M', s', a', w⟩ := w
        obtain ⟨us, z1, z2⟩ := hq F' M' H' s' a'.r (wst i τ' M' w)
        obtain ⟨x, hx, rx⟩ := z2.getV (hv us z1)
        exact turnQ tk hd s1 (fun τ' M' w => wgo i x τ' M' hx w) s' a' w rx
    · obtain ⟨vs, q1, q2⟩ := hq F1 M1 H1 (Same.refl _) r1 (wst 0 τ M1 w0)
      refine .inr ⟨⟨vs, q1⟩, for_tupQ (n := xs.length) (fun i σ' H' => ∃ F' τ' M', Same F1 F' ∧ At X.K B F' τ' M' σ' H' ∧ W i τ' M') ⟨F1, τ, M1, Same.refl _, a1, w0⟩ (fun i σ' H' _ w => ?_) (fun i v σ' H' hv w => ?_) last⟩
      · obtain ⟨F', τ', M', s', a', w⟩ := w
        obtain ⟨ws, z1, z2⟩ := hq F' M' H' s' a'.r (wst i τ' M' w)
        exact ⟨ws, z1, z2.length.symm⟩
      · obtain ⟨F', τ', M', s', a', w⟩ := w
        obtain ⟨us, z1, z2⟩ := hq F' M' H' s' a'.r (wst i τ' M' w)
        obtain ⟨x, hx, rx⟩ := z2.getV (hv us z1)
        exact turnQ tk hd s1 (fun τ' M' w => wgo i x τ' M' hx w) s' a' w rx
end Q
namespace Q
open PySem PySem.Spec PyProof.Rows L2

/-! ### for over a range, over a text -/
def goesR (lo : Int) (n : Nat) (g : QG) (b : QS) (d : PEnds) (τ : Tau) (M : PM) : Prop :=
  ∃ W : Nat → Tau → PM → Prop, W 0 τ M ∧ (∀ i τ' M', i < n → W i τ' M' → g (.int (lo + i)) τ' M' fun τ2 M2 => b { d with nx := W (i + 1), ct := W (i + 1), bk := d.nx } τ2 M2) ∧ (∀ τ' M', W n τ' M' → d.nx τ' M')
def rngB (i : Int) : Prop := -(2 ^ 62) ≤ i ∧ i < 2 ^ 62
def rP (g : QG) (b : QS) (d : PEnds) (τ : Tau) : List PV → PM → Prop
  | [.int j], Mz => rngB j ∧ goesR 0 j.toNat g b d τ Mz
  | _, _ => False
set_option autoImplicit true in
@[simp] theorem rP_s1 (g : QG) (b : QS) (d : PEnds) (τ : Tau) : rP g b d τ [.int j] Mz = (rngB j ∧ goesR 0 j.toNat g b d τ Mz) := rfl
def rP2 (g : QG) (b : QS) (d : PEnds) (τ : Tau) : List PV → PM → Prop
  | [.int i, .int j], Mz => (rngB i ∧ rngB j) ∧ goesR i (j - i).toNat g b d τ Mz
  | _, _ => False
set_option autoImplicit true in
@[simp] theorem rP2_s1 (g : QG) (b : QS) (d : PEnds) (τ : Tau) : rP2 g b d τ [.int i, .int j] Mz = ((rngB i ∧ rngB j) ∧ goesR i (j - i).toNat g b d τ Mz) := rfl
@[simp] def qForR (fa : QA) (g : QG) (b : QS) : QS := fun d τ M => fa τ M (dx d τ) fun ps M1 => rP g b d τ ps M1
@[simp] def qForR2 (fa : QA) (g : QG) (b : QS) : QS := fun d τ M => fa τ M (dx d τ) fun ps M1 => rP2 g b d τ ps M1
theorem goesR_ok {X : Cx} {B F F1 : Hp} {d : PEnds} {D : Ends} {g : QG} {b : QS} {lo : Int} {n : Nat} {τ : Tau} {M1 : PM} {σ : L2.St} {H1 : Hp} (tk : Takes X (lW X.K B d.ex)) (hd : DOk X.K F d D) (s1 : Same F F1) (a1 : At X.K B F1 τ M1 σ H1) (h : goesR lo n g b d τ M1) :
    ∃ W : Nat → Nat → L2.St → Hp → Prop, (∃ m, W 0 m σ H1) ∧ ∀ i m σ H, W i m σ H →
      ((Itr lo n).stop i H ∧ D.nx σ H) ∨ ((Itr lo n).go i H ∧ ∃ N : L2.St → Hp → Prop, (∀ σ' H', N σ' H' → ∃ m', m' < m ∧ W (i + 1) m' σ' H') ∧ ∀ x H', (Itr lo n).yld i H x H' → lG X B g x σ H' fun σ2 H2 => lS X B b { D with nx := N, ct := N, bk := D.nx } σ2 H2) := by
  obtain ⟨W, w0, wgo, wend⟩ := h
  refine for_range (fun i σ' H' => ∃ F' τ' M', Same F1 F' ∧ At X.K B F' τ' M' σ' H' ∧ W i τ' M') ⟨F1, τ, M1, Same.refl _, a1, w0⟩ (fun i σ' H' hi w => ?_) fun σ' H' w => ?_
  · obtain ⟨F', τ', M', s', a', w⟩ := w
    exact turnQ tk hd s1 (fun τ' M' w => wgo i τ' M' hi w) s' a' w (.int _)
  · obtain ⟨F', τ', M', s', a', w⟩ := w
    exact hd.nx _ _ _ _ _ (wend τ' M' w) (s1.trans s') a'.r a'.s
theorem ds_forR {c : Cf} {tg a : Expr} {body : List Stmt} {p pos pos' : Pos} {fa : QA} {g : QG} {b : QS} (hgl : c.sc.names.lookup ("range" : Str) = some .globalImplicit) (hm : c.g.mg ("range" : Str) = none) (ha : DA c [a] fa) (hg : DG c tg g) (hb : DSs c body b)
    (hs1 : ∀ env, starEach [a] env = [(false, eval a env)] := by intro _; rfl) (hs : ∀ env x, foldedSetIterable (.Call (.Name "range" p) [a] [] pos') env x = pure x := by intro _ _; rfl) : DS c (.For tg (.Call (.Name "range" p) [a] [] pos') body [] pos) (qForR fa g b) := fun X gd B =>
  (ps_for gd.pass gd.calm (pi_range1 (gl_of gd.sc hgl) (by rw [gd.mg]; exact hm) (ha X gd.toGood B) (hs1 _)) (hg X gd B) (hb X gd B) (hs _)).im fun D σ H => by
    rintro ⟨F, τ, M, d, a, hf, tk, hd⟩
    refine ⟨F, τ, M, _, _, a, hf, takes_x tk, fun ps M1 F1 vs H1 h1 s1 r1 e1 => ?_⟩
    unfold rP at h1
    split at h1
    · cases e1 with
      | cons e1 e2 =>
        cases e1; cases e2
        exact ⟨_, rfl, h1.1.1, h1.1.2, goesR_ok tk hd s1 (a.next s1 r1) h1.2⟩
    · exact h1.elim
theorem ds_forR2 {c : Cf} {tg a a2 : Expr} {body : List Stmt} {p pos pos' : Pos} {fa : QA} {g : QG} {b : QS} (hgl : c.sc.names.lookup ("range" : Str) = some .globalImplicit) (hm : c.g.mg ("range" : Str) = none) (ha : DA c [a, a2] fa) (hg : DG c tg g) (hb : DSs c body b)
    (hs1 : ∀ env, starEach [a, a2] env = [(false, eval a env), (false, eval a2 env)] := by intro _; rfl) (hs2 : ∀ env, starEach [a2] env = [(false, eval a2 env)] := by intro _; rfl) (hs : ∀ env x, foldedSetIterable (.Call (.Name "range" p) [a, a2] [] pos') env x = pure x := by intro _ _; rfl) : DS c (.For tg (.Call (.Name "range" p) [a, a2] [] pos') body [] pos) (qForR2 fa g b) := fun X gd B =>
  (ps_for gd.pass gd.calm (pi_range2 (gl_of gd.sc hgl) (by rw [gd.mg]; exact hm) (ha X gd.toGood B) (hs1 _) (hs2 _)) (hg X gd B) (hb X gd B) (hs _)).im fun D σ H => by
    rintro ⟨F, τ, M, d, a, hf, tk, hd⟩
    refine ⟨F, τ, M, _, _, a, hf, takes_x tk, fun ps M1 F1 vs H1 h1 s1 r1 e1 => ?_⟩
    unfold rP2 at h1
    split at h1
    · cases e1 with
      | cons e1 e2 =>
        cases e1
        cases e2 with
        | cons e3 e4 =>
          cases e3; cases e4
          exact ⟨_, _, rfl, ⟨h1.1.1.1, h1.1.1.2, h1.1.2.1, h1.1.2.2⟩, goesR_ok tk hd s1 (a.next s1 r1) h1.2⟩
    · exact h1.elim
/-- one sign -/
def sgn (c : Nat) : PV := .str ⟨#[c]⟩
def goesT (z : List Nat) (g : QG) (b : QS) (d : PEnds) (τ : Tau) (M1 : PM) : Prop :=
  ∃ W : Nat → Tau → PM → Prop, W 0 τ M1 ∧ (∀ i c τ' M', z[i]? = some c → W i τ' M' → g (sgn c) τ' M' fun τ2 M2 => b { d with nx := W (i + 1), ct := W (i + 1), bk := d.nx } τ2 M2) ∧ (∀ τ' M', W z.length τ' M' → d.nx τ' M')
def tP (g : QG) (b : QS) (d : PEnds) (τ : Tau) : PV → PM → Prop
  | .str z, Mz => goesT z.cps.toList g b d τ Mz
  | _, _ => False
set_option autoImplicit true in
@[simp] theorem tP_s1 (g : QG) (b : QS) (d : PEnds) (τ : Tau) : tP g b d τ (.str z) Mz = (goesT z.cps.toList g b d τ Mz) := rfl
@[simp] def qForT (f : QE) (g : QG) (b : QS) : QS := fun d τ M => f τ M (dx d τ) fun v M1 => tP g b d τ v M1
theorem ds_forT {c : Cf} {tg iter : Expr} {body : List Stmt} {pos : Pos} {f : QE} {g : QG} {b : QS} (hi : DE c iter f) (hg : DG c tg g) (hb : DSs c body b) (hs : ∀ env x, foldedSetIterable iter env x = pure x := by intro _ _; rfl) : DS c (.For tg iter body [] pos) (qForT f g b) := fun X gd B =>
  (ps_for gd.pass gd.calm (pi_str (hi X gd.toGood B)) (hg X gd B) (hb X gd B) (hs _)).im fun D σ H => by
    rintro ⟨F, τ, M, d, a, hf, tk, hd⟩
    refine ⟨F, τ, M, _, _, a, hf, takes_x tk, fun p M1 F1 v H1 h1 s1 r1 e1 => ?_⟩
    unfold tP at h1
    split at h1
    · rename_i z
      cases e1
      obtain ⟨W, w0, wgo, wend⟩ := h1
      have a1 : At X.K B F1 τ M1 σ H1 := a.next s1 r1
      refine ⟨z, rfl, fun i m σ' H' => m = z.cps.size - i ∧ i ≤ z.cps.size ∧ ∃ F' τ' M', Same F1 F' ∧ At X.K B F' τ' M' σ' H' ∧ W i τ' M', ⟨_, rfl, Nat.zero_le _, F1, τ, M1, Same.refl _, a1, w0⟩, ?_⟩
      rintro i m σ' H' ⟨rfl, hi, F', τ', M', s', a', w⟩
      by_cases hlt : i < z.cps.size
      · refine .inr ⟨hlt, _, fun σ2 H2 q => ⟨z.cps.size - (i + 1), by omega, rfl, hlt, q⟩, fun x H' y => ?_⟩
        obtain ⟨rfl, ch, hc, rfl⟩ := y
        exact turnQ (x := sgn ch) tk hd s1 (fun τ' M' w => wgo i ch τ' M' (by simpa using hc) w) s' a' w (.str _)
      · have e : i = z.cps.toList.length := by simp; omega
        refine .inl ⟨by show z.cps.size ≤ i; omega, hd.nx _ _ _ _ _ (wend τ' M' (by rw [← e]; exact w)) (s1.trans s') a'.r a'.s⟩
    · exact h1.elim

/-! ### while -/
def qWhile (t : QT) (b : QS) : QS := fun d τ M => ∃ W : Nat → Tau → PM → Prop, (∃ m, W m τ M) ∧ ∀ m τ M, W m τ M →
  t τ M (dx d τ) fun c M1 => way c (b { d with nx := fun τ' M' => ∃ m', m' < m ∧ W m' τ' M', ct := fun τ' M' => ∃ m', m' < m ∧ W m' τ' M', bk := d.nx } τ M1) (d.nx τ M1)
theorem ds_while {c : Cf} {t : Expr} {body : List Stmt} {pos : Pos} {ft : QT} {b : QS} (ht : DT c t ft) (hb : DSs c body b) : DS c (.While t body [] pos) (qWhile ft b) := fun X gd B =>
  (ps_while gd.pass (ht X gd.toGood B) (hb X gd B)).im fun D σ H => by
    rintro ⟨F, τ, M, d, a, ⟨W, ⟨m0, w0⟩, wgo⟩, tk, hd⟩
    refine ⟨fun m σ' H' => ∃ F' τ' M', Same F F' ∧ At X.K B F' τ' M' σ' H' ∧ W m τ' M', ⟨m0, F, τ, M, Same.refl _, a, w0⟩, ?_⟩
    rintro m σ' H' ⟨F', τ', M', s', a', w⟩
    refine ⟨F', τ', M', _, _, a', wgo m τ' M' w, takes_x tk, fun k M1 F1 H1 h1 s1 r1 => ?_⟩
    cases k with
    | true =>
      rw [if_pos rfl]
      refine ⟨fun σ2 H2 => ∃ m', m' < m ∧ ∃ F' τ' M', Same F F' ∧ At X.K B F' τ' M' σ2 H2 ∧ W m' τ' M', fun σ2 H2 q => q, ?_⟩
      refine ⟨F1, τ', M1, _, a'.next s1 r1, h1.1 rfl, tk, ⟨fun τ2 M2 F2 σ2 H2 q s2 r2 sr2 => ?_, fun r M2 F2 v H2 q s2 => hd.rt r M2 F2 v H2 q ((s'.trans s1).trans s2), fun τ2 M2 F2 σ2 H2 q s2 => hd.nx τ2 M2 F2 σ2 H2 q ((s'.trans s1).trans s2), fun τ2 M2 F2 σ2 H2 q s2 r2 sr2 => ?_⟩⟩
      · obtain ⟨m', hm, q⟩ := q
        exact ⟨m', hm, F2, τ2, M2, (s'.trans s1).trans s2, ⟨(a'.b.trans s1).trans s2, r2, sr2⟩, q⟩
      · obtain ⟨m', hm, q⟩ := q
        exact ⟨m', hm, F2, τ2, M2, (s'.trans s1).trans s2, ⟨(a'.b.trans s1).trans s2, r2, sr2⟩, q⟩
    | false =>
      rw [if_neg Bool.false_ne_true]
      exact hd.nx _ _ _ _ _ (h1.2 rfl) (s'.trans s1) r1 (a'.s.mono s1)

/-! ### a def keeps its promise -/
theorem fn_ok {g : Glb} {x qual : Str} {st : Stmt} {f : Addr} {fd : FuncData} {N ps : List Str} {k : Nat} {psp : PSp} {fb : QS} (F : Fun g.K x qual st f fd) (S : FnScope N ps (defScope st)) (bi : Binds g.K fd ps []) (hb : DSs ⟨g, N, defScope st, k⟩ (defBody st) fb)
    (spec : ∀ xs M kk ex, psp xs M kk ex → xs.length = ps.length ∧ fb { nx := fun _ M' => kk .non M', rt := kk, ex := fun e _ M' => ex e M' } (startQ N xs) M) : FnQ g (k + 1) f psp := by
  obtain ⟨oc, od, kV, doc, pm, an, cdv, ct, osl, rfl, lk, hcd⟩ := F.ex
  intro A outer s H us vs Q E hr hg e0 r h
  obtain ⟨F0, xs, M, kk, ex, R, rs, hp, hq, hx⟩ := h
  obtain ⟨hl, h2⟩ := spec _ _ _ _ hp
  have hlv : vs.length = ps.length := by rw [← rs.length]; exact hl
  refine StX.run_bnd lk hcd S hr e0 (G := fun ys H2 => ys = vs ∧ H2 = H) (fun A' Ex Q' hh => ?_) fun s2 H2 ys hG hr' => ?_
  · have bt := bi s us (e0.mod.kin.keeps fun b o e => (e0.bs b o e).1) (by rw [List.append_nil, ← r.length]; exact hlv)
    rw [List.append_nil] at bt
    exact bt _ _ _ _ (hh s H vs us e0 Un.refl rfl (fun _ _ z => z) r hlv ⟨rfl, rfl⟩)
  · obtain ⟨rfl, rfl⟩ := hG
    refine ⟨_, hb _ ⟨⟨rfl, rfl, rfl, rfl, rfl, rfl, rfl, hr', rfl, hg⟩, rfl, rfl, rfl, rfl, passes_of rfl⟩ F0, F0, startQ N xs, M, _, ⟨Same.refl _, R, SRel.start rs⟩, h2, ?_, ?_⟩
    · refine (takes_of (E := E) rfl rfl rfl rfl).imp fun cls d σ H' => ?_
      rintro ⟨F', τ', M', e, s', r', sr', er, he⟩
      exact hx e M' F' cls d H' he s' r' er
    · exact ⟨fun τ' M' F' σ' H' h' s' r' _ => hq _ _ _ _ _ h' s' r' .non, fun r M' F' v H' h' s' r' e' => hq _ _ _ _ _ h' s' r' e', fun _ _ _ _ _ z => z.elim, fun _ _ _ _ _ z => z.elim⟩
theorem has_fn {g : Glb} {x qual : Str} {st : Stmt} {f : Addr} {fd : FuncData} {N ps : List Str} {k : Nat} {psp : PSp} {fb : QS} (F : Fun g.K x qual st f fd) (hm : g.mg x = some (.ref f)) (S : FnScope N ps (defScope st)) (b : Binds g.K fd ps []) (hb : DSs ⟨g, N, defScope st, k⟩ (defBody st) fb)
    (spec : ∀ xs M kk ex, psp xs M kk ex → xs.length = ps.length ∧ fb { nx := fun _ M' => kk .non M', rt := kk, ex := fun e _ M' => ex e M' } (startQ N xs) M) : Has g x (k + 1) psp :=
  ⟨f, hm, F.kp, fn_ok F S b hb spec⟩
theorem reps_split {K : Fg} {F : Hp} : ∀ {ws rest : List PV} {vs : List V}, Reps K F (ws ++ rest) vs → ∃ v1 v2, vs = v1 ++ v2 ∧ Reps K F ws v1 ∧ Reps K F rest v2
  | [], rest, vs, r => ⟨[], vs, rfl, .nil, r⟩
  | _ :: ws, rest, _, .cons a r => by
    obtain ⟨v1, v2, e, r1, r2⟩ := reps_split (ws := ws) (rest := rest) r
    exact ⟨_ :: v1, v2, by rw [e]; rfl, .cons a r1, r2⟩
/-- def f(a, .., *r) -/
theorem has_star {g : Glb} {x qual pv : Str} {st : Stmt} {f : Addr} {fd : FuncData} {N ps : List Str} {k : Nat} {psp : PSp} {fb : QS} (F : Fun g.K x qual st f fd) (hm : g.mg x = some (.ref f)) (S : FnScope N (ps ++ [pv]) (defScope st))
    (hbi : ∀ (kV doc pm : Value) (an : Option Addr) (cdv ct : Value) (us rest : List Value), us.length = ps.length → bindArgs (PySem.W.fnOf x qual (defArgs st) (defBody st) (defScope st) .none kV doc pm an cdv ct) ⟨us ++ rest, []⟩ = (newTuple rest >>= fun t => pure (ps.zip us ++ [(pv, t)])))
    (hb : DSs ⟨g, N, defScope st, k⟩ (defBody st) fb)
    (spec : ∀ xs M kk ex, psp xs M kk ex → ∃ ws rest, xs = ws ++ rest ∧ ws.length = ps.length ∧ rest.length ≤ sizeLine ∧ fb { nx := fun _ M' => kk .non M', rt := kk, ex := fun e _ M' => ex e M' } (startQ N (ws ++ [.tup rest])) M) : Has g x (k + 1) psp := by
  refine ⟨f, hm, F.kp, ?_⟩
  obtain ⟨oc, od, kV, doc, pm, an, cdv, ct, osl, rfl, lk, hcd⟩ := F.ex
  intro A outer s H us vs Q E hr hg e0 r h
  obtain ⟨F0, xs, M, kk, ex, R, rs, hp, hq, hx⟩ := h
  obtain ⟨ws, rest, rfl, hl, hz, h2⟩ := spec _ _ _ _ hp
  obtain ⟨v1, v2, rfl, r1, r2⟩ := reps_split rs
  obtain ⟨u1, u2, rfl, q1, q2⟩ := StX.vals_split r
  have l1 : u1.length = ps.length := by rw [← q1.length, ← r1.length]; exact hl
  have l2 : u2.length ≤ sizeLine := by rw [← q2.length, ← r2.length]; exact hz
  have free : H s.heap.objs.size = none := e0.hok.fresh (Nat.le_refl _)
  refine StX.run_bnd lk hcd S hr e0 (G := fun ys H2 => ∃ p, H p = none ∧ ys = v1 ++ [.ref p] ∧ H2 = upd H p (.tup v2)) (fun A' Ex Q' hh => ?_) fun s2 H2 ys hG hr' => ?_
  · rw [hbi kV doc pm an cdv ct u1 u2 l1]
    have laid : ObjOk g.P g.w (upd H s.heap.objs.size (.tup v2)) (s.heap.push ({ cls := .type "tuple", data := .seq u2.toArray } : Obj)) s.heap.objs.size (.tup v2) := ⟨by rw [← r2.length]; exact hz, u2, q2, ⟨_, Heap.get?_push_size _ rfl, rfl, _, rfl⟩⟩
    have un := StX.un_laid (fs := frs outer) (s := s) (o := ({ cls := .type "tuple", data := .seq u2.toArray } : Obj)) (u := .tup v2) free
    have z := hh _ _ (v1 ++ [V.ref s.heap.objs.size]) (u1 ++ [Value.ref s.heap.objs.size]) (StX.env0_laid e0 laid) un rfl (fun e s' => StX.cxUp outer s H _ _ E e s' un (fun b o q => Heap.get?_push_of_some _ q) rfl) (q1.append (.cons rfl .nil)) (by rw [List.length_append, List.length_append, ← r1.length, hl]; rfl) ⟨_, free, rfl, rfl⟩
    rw [List.zip_append l1.symm] at z
    exact wpAny_bind (wpAny_newTuple (wpAny_pure z) l2)
  · obtain ⟨p, hn, rfl, rfl⟩ := hG
    obtain ⟨R2, s2'⟩ := R.newF hn (.tup v2)
    have rs' : Reps g.K (upd F0 p (.tup v2)) (ws ++ [.tup rest]) (v1 ++ [.ref p]) := (r1.mono s2').append (.cons (.tup (SqT.of upd_same) (r2.mono s2')) .nil)
    have sr0 : SRel g.K (upd F0 p (.tup v2)) (startQ N (ws ++ [.tup rest])) (L2.start N (v1 ++ [.ref p])) := SRel.start rs'
    refine ⟨_, hb _ ⟨⟨rfl, rfl, rfl, rfl, rfl, rfl, rfl, hr', rfl, hg⟩, rfl, rfl, rfl, rfl, passes_of rfl⟩ (upd F0 p (.tup v2)), (upd F0 p (.tup v2)), startQ N (ws ++ [PV.tup rest]), M, _, ⟨Same.refl _, R2, sr0⟩, h2, ?_, ?_⟩
    · refine (takes_of (E := E) rfl rfl rfl rfl).imp fun cls d σ H' => ?_
      rintro ⟨F', τ', M', e, s', r', sr', er, he⟩
      exact hx e M' F' cls d H' he (s2'.trans s') r' er
    · exact ⟨fun τ' M' F' σ' H' h' s' r' _ => hq _ _ _ _ _ h' (s2'.trans s') r' .non, fun r M' F' v H' h' s' r' e' => hq _ _ _ _ _ h' (s2'.trans s') r' e', fun _ _ _ _ _ z => z.elim, fun _ _ _ _ _ z => z.elim⟩

/-! ### the top's facts -/
section
variable {K : Fg} {mg : Str → Option Value} {h : Heap}
/-- the def st stands at the module's name x -/
def DefAt (K : Fg) (x : Str) (st : Stmt) : Prop := ∃ f, PySem.W.nsIn K mainGlobals x = some (some (.ref f)) ∧ ∃ fd, Fun K x x st f fd
theorem def_at {x : Str} {st : Stmt} {f : Addr} {od an : Option Addr} {sl : Array (Option Value)} {oc kV dc pm cd ct : Value} (a : PySem.W.nsIn K mainGlobals x = some (some (.ref f)))
    (l : K.lookup f = some ⟨oc, od, .func (PySem.W.fnOf x x (defArgs st) (defBody st) (defScope st) .none kV dc pm an cd ct), sl⟩) (c : PySem.W.codeIn K cd x = true) (k : PySem.W.keepIn K (.ref f) = true) : DefAt K x st := ⟨f, a, _, fun_mk l c k⟩
theorem sqT_K {F : Hp} {a : Addr} {dd : Option Addr} {its : List Value} {n : Nat} {sl : Array (Option Value)} {vs : List V} (l : K.lookup a = some ⟨.type "tuple", dd, .seq its.toArray n, sl⟩) (hz : its.length ≤ sizeLine) (r : Vals vs its) : SqT K F a vs :=
  .inr ⟨_, its.toArray, n, l, rfl, rfl, by simpa using hz, by simpa using r⟩
end

/-- a def's body, read at its promise -/
def BodyOk (N : List Str) (n : Nat) (psp : PSp) (fb : QS) : Prop := ∀ xs M kk ex, psp xs M kk ex → xs.length = n ∧ fb { nx := fun _ M' => kk .non M', rt := kk, ex := fun e _ M' => ex e M' } (startQ N xs) M
def BodyOkS (N : List Str) (n : Nat) (psp : PSp) (fb : QS) : Prop := ∀ xs M kk ex, psp xs M kk ex → ∃ ws rest, xs = ws ++ rest ∧ ws.length = n ∧ rest.length ≤ sizeLine ∧ fb { nx := fun _ M' => kk .non M', rt := kk, ex := fun e _ M' => ex e M' } (startQ N (ws ++ [.tup rest])) M

/-! ### the law -/
def spLaw : PSp := fun xs _ k _ => ∃ ns : List Int, xs = [.rdl (ns.map .int)] ∧ ns.length ≤ 63 ∧ (∀ z ∈ ns, Builtin.Int.intBits z ≤ 1048576) ∧ ∀ M', k (.bl true) M'
theorem law_start {K : Fg} {H : Hp} {a : Addr} {ns : List Int} (hl : ns.length ≤ 63) (hb : ∀ z ∈ ns, Builtin.Int.intBits z ≤ 1048576) (hS : SqL K H a (ns.map V.int)) : toSp K spLaw [.ref a] H (fun v _ => v = .bl true) fun _ _ _ => False :=
  ⟨H, [.rdl (ns.map .int)], fun _ => none, fun r _ => r = .bl true, fun _ _ => False, ⟨Same.refl _, fun _ _ e => (nomatch e), fun _ _ e => (nomatch e)⟩, .cons (.rdl hS (Reps.ints ns)) .nil, ⟨ns, rfl, hl, hb, fun _ => rfl⟩,
    fun r M' F' v H' h _ _ e => by subst h; cases e; rfl, fun _ _ _ _ _ _ h => h.elim⟩
theorem law_cx {P : Program} {w : World} {H : Hp} {s : Shared} {e : Value} {s' : Shared} (h : L2.CX P w [] H s (fun _ _ _ => False) e s') : False := by
  obtain ⟨_, _, _, _, _, _, _, _, _, _, _, _, z⟩ := h
  exact z
/-- the script's heap: what is tracked at the law's start -/
theorem law_heap {P : Program} {w : World} {K : Fg} {mg mb : Str → Option Value} {a : Addr} {s : Shared} {vs : List Value} {ns : List Int} (KX : K.In s.heap) (hns : s.heap.Ns mainGlobals mg) (hb : s.heap.Ns builtinsNs mb) (hbb : ∀ x : Str, x ≠ "__name__" → mb x = bootBuiltins x) (hlim : s.heap.NoLimit) (hg : s.gens = #[])
    (ha : s.heap.get? a = some { cls := .type "list", data := .seq vs.toArray }) (hi : IntsAre vs ns) (hl : ns.length ≤ sizeLine) :
    ∃ H : Hp, Only H ∧ SqL K H a (ns.map V.int) ∧ Env0 P w K mg (hidT s.heap H) callerA [] s H := by
  have rv := vals_ints hi
  have lv := hi.length
  suffices main : ∀ H : Hp, HOk P w H s.heap → (∀ b, H b ≠ none → b = a) → (H a ≠ none → K.lookup a = none) → Env0 P w K mg (hidT s.heap H) callerA [] s H by
    by_cases hk : ∃ o, K.lookup a = some o
    · obtain ⟨o, hk⟩ := hk
      have e := (KX a o hk).symm.trans ha
      cases e
      refine ⟨fun _ => none, fun _ => .inl rfl, .inr ⟨_, vs.toArray, _, hk, rfl, rfl, rfl, ?_, by simpa using rv⟩, main _ (fun b u z => nomatch z) (fun b z => (z rfl).elim) fun z => (z rfl).elim⟩
      rw [List.size_toArray, lv]; exact hl
    · have hk' : K.lookup a = none := by
        cases q : K.lookup a with
        | none => rfl
        | some o => exact (hk ⟨o, q⟩).elim
      have nb : ∀ b, b ≠ a → upd (fun _ => none) a (.frz { cls := .type "list", data := .seq vs.toArray } (.lst (ns.map V.int))) b = none := fun b h => upd_ne h
      refine ⟨upd (fun _ => none) a (.frz { cls := .type "list", data := .seq vs.toArray } (.lst (ns.map V.int))), fun b => ?_, .inl (.inr ⟨_, upd_same⟩), main _ (fun b u z => ?_) (fun b z => ?_) fun _ => hk'⟩
      · by_cases h : b = a
        · subst h; exact .inr ⟨_, _, upd_same⟩
        · exact .inl (nb b h)
      · by_cases h : b = a
        · subst h
          rw [upd_same] at z
          cases z
          exact ⟨ha, by rw [List.length_map]; exact hl, vs, _, rv, ha⟩
        · rw [nb b h] at z; cases z
      · by_cases h : b = a
        · exact h
        · exact (z (nb b h)).elim
  intro H hok hA hK
  have look : ∀ b o, s.heap.get? b = some o → (b = a → o.data ≠ .seq vs.toArray) → H b = none := fun b o e h => by
    cases q : H b with
    | none => rfl
    | some u =>
      have e1 := hA b (by rw [q]; simp)
      have e2 := h e1
      rw [e1, ha] at e
      cases e
      exact (e2 rfl).elim
  have ns2 : ∀ {b : Addr} {m : Str → Option Value}, s.heap.Ns b m → (hidT s.heap H).Ns b m := fun {b m} ⟨o, es, ep, e, d, r⟩ => ⟨o, es, ep, hidT_get e (look b o e fun _ => by rw [d]; intro z; cases z), d, r⟩
  have kin : K.In (hidT s.heap H) := fun b o e => hidT_get (KX b o e) (by
    cases q : H b with
    | none => rfl
    | some u =>
      have e1 := hA b (by rw [q]; simp)
      rw [e1] at q e
      have := hK (by rw [q]; simp)
      rw [this] at e; cases e)
  obtain ⟨mc, l1, l2⟩ := hlim
  exact ⟨rfl, ⟨kin, ns2 hns, ⟨mb, ns2 hb, hbb⟩, ⟨mc, ns2 l1, l2⟩⟩, fun b o e => of_hidT e, Nat.le_of_eq (hidT_size _ _), trivial, fun b hb => (List.not_mem_nil hb).elim, hok, .of_eq hg⟩
/-- the law's row, from its def's promise -/
theorem walk_ofG {l : PySem.W.OpenLaw} {k : Nat} {q : Program} {loose : List Str} {XP : (Str → Option Value) → Heap → Prop} {YP : World → Heap → Prop} {d : DefRec} {K : Params → Fg} (hn : l.most = some 63) (hdf : d.params.defaults = []) (hr : Room k callerA) (hY : ∀ (w : World) (h : Heap), YP w h → (K w.params).In h)
    (F : ∀ (w : World) (mg : Str → Option Value) (fa : Addr) (h : Heap), (K w.params).In h → h.Ns mainGlobals mg → mg d.name = some (.ref fa) → ∀ base : Heap, (K w.params).In base → base.Ns mainGlobals mg → FnG l.prog w (K w.params) mg base (L2.CX l.prog w) k fa (toSp (K w.params) spLaw)) :
    PySem.W.WalkO q loose XP YP l.row.toRowW d [] (fun f vs => PySem.call f vs) := by
  refine Att.attach_callB hn hdf fun w s₀ s₁ mg mb fa o pm cd doc a vs ns G Y _ _ _ hmg hobj hints hlen hbits hg => ?_
  have KX := hY w _ Y
  have fn := F w mg fa _ KX G.T.g hmg
  obtain ⟨H, hO, hS, e0⟩ := law_heap (P := l.prog) (w := w) KX G.T.g G.T.b G.T.builtins G.T.nolimit hg hobj hints (Nat.le_trans hlen (by decide))
  have run := fn _ e0.mod.kin e0.mod.glob callerA [] s₁ H [.ref a] [.ref a] _ _ hr rfl e0 (.cons rfl .nil) (law_start hlen hbits hS)
  refine codeAny_mono run fun r s' hc => ?_
  cases r with
  | error e => exact (law_cx hc).elim
  | ok fl =>
    cases fl with
    | ret u =>
      obtain ⟨v, H', os, bare, un, hok', rv, hv⟩ := hc
      have hv' : v = .bl true := hv
      subst hv'
      obtain rfl : u = Value.bool true := rv
      refine ⟨rfl, OldK.of_keep fun b x e => ?_, os, bare⟩
      rcases hO b with z | ⟨ob, xs, z⟩
      · exact un.keep b x e z (fun m => List.not_mem_nil m) fun m => List.not_mem_nil m
      · have e1 := (e0.hok b _ z).1
        have e2 := (hok' b _ (un.frzs b ob _ z)).1
        rw [e] at e1
        cases e1
        exact e2
    | next => exact hc.elim
    | brk => exact hc.elim
    | cont => exact hc.elim
/-- a matrix -/
@[simp] def mat (a b c d : Int) : PV := .tup [.tup [.int a, .int b], .tup [.int c, .int d]]
theorem hasC_mat {g : Glb} {h : Heap} {x : Str} {t p q : Addr} {a b c d : Int} {ta tb tc td : Tok} {d0 d1 d2 : Option Addr} {n0 n1 n2 : Nat} {s0 s1 s2 : Array (Option Value)} (X : g.K.In h) (G : h.Ns mainGlobals g.mg) (e : PySem.W.nsIn g.K mainGlobals x = some (some (.ref t)))
    (l0 : g.K.lookup t = some ⟨.type "tuple", d0, .seq [.ref p, .ref q].toArray n0, s0⟩) (l1 : g.K.lookup p = some ⟨.type "tuple", d1, .seq [.int a ta, .int b tb].toArray n1, s1⟩) (l2 : g.K.lookup q = some ⟨.type "tuple", d2, .seq [.int c tc, .int d td].toArray n2, s2⟩) : HasC g x (mat a b c d) := by
  have z2 : 2 ≤ sizeLine := by decide
  have v0 : Vals [.ref p, .ref q] [Value.ref p, Value.ref q] := .cons rfl (.cons rfl .nil)
  have v1 : Vals [.int a, .int b] [Value.int a ta, Value.int b tb] := .cons ⟨ta, rfl⟩ (.cons ⟨tb, rfl⟩ .nil)
  have v2 : Vals [.int c, .int d] [Value.int c tc, Value.int d td] := .cons ⟨tc, rfl⟩ (.cons ⟨td, rfl⟩ .nil)
  refine ⟨.ref t, .ref t, PySem.W.mg_of X G e, rfl, fun F => ?_⟩
  exact .tup (sqT_K l0 z2 v0) (.cons (.tup (sqT_K l1 z2 v1) (.cons (.int a) (.cons (.int b) .nil))) (.cons (.tup (sqT_K l2 z2 v2) (.cons (.int c) (.cons (.int d) .nil))) .nil))
theorem hasC_matK {P : Program} {w : World} {K : Fg} {mg : Str → Option Value} {base : Heap} {h : Heap} {x : Str} {t p q : Addr} {a b c d : Int} {ta tb tc td : Tok} {d0 d1 d2 : Option Addr} {n0 n1 n2 : Nat} {s0 s1 s2 : Array (Option Value)} (X : K.In h) (G : h.Ns mainGlobals mg) (e : PySem.W.nsIn K mainGlobals x = some (some (.ref t)))
    (l0 : K.lookup t = some ⟨.type "tuple", d0, .seq [.ref p, .ref q].toArray n0, s0⟩) (l1 : K.lookup p = some ⟨.type "tuple", d1, .seq [.int a ta, .int b tb].toArray n1, s1⟩) (l2 : K.lookup q = some ⟨.type "tuple", d2, .seq [.int c tc, .int d td].toArray n2, s2⟩) : HasC ⟨P, w, K, mg, base⟩ x (mat a b c d) := hasC_mat (g := ⟨P, w, K, mg, base⟩) X G e l0 l1 l2
theorem hasC_int {g : Glb} {h : Heap} {x : Str} {a : Int} {t : Tok} (X : g.K.In h) (G : h.Ns mainGlobals g.mg) (e : PySem.W.nsIn g.K mainGlobals x = some (some (.int a t))) : HasC g x (.int a) :=
  ⟨.int a, .int a t, PySem.W.mg_of X G e, ⟨t, rfl⟩, fun _ => .int a⟩
theorem bt_int : bootBuiltins "int" = some (.type "int") := by decide +kernel
theorem bt_bool : bootBuiltins "bool" = some (.type "bool") := by decide +kernel
theorem bt_str : bootBuiltins "str" = some (.type "str") := by decide +kernel
theorem bt_tuple : bootBuiltins "tuple" = some (.type "tuple") := by decide +kernel
theorem bt_list : bootBuiltins "list" = some (.type "list") := by decide +kernel
theorem bt_len : bootBuiltins "len" = some (.builtin "len") := by decide +kernel
theorem bt_max : bootBuiltins "max" = some (.builtin "max") := by decide +kernel
theorem bt_min : bootBuiltins "min" = some (.builtin "min") := by decide +kernel
theorem bt_abs : bootBuiltins "abs" = some (.builtin "abs") := by decide +kernel
theorem bt_sum : bootBuiltins "sum" = some (.builtin "sum") := by decide +kernel
theorem bt_repr : bootBuiltins "repr" = some (.builtin "repr") := by decide +kernel
theorem bt_isinstance : bootBuiltins "isinstance" = some (.builtin "isinstance") := by decide +kernel
end Q
namespace Q
open PySem PySem.Spec PyProof.Rows L2
/-! ### matrices -/
structure Mt where
  a : Int
  b : Int
  c : Int
  d : Int
  deriving DecidableEq
namespace Mt
@[simp] def pv (m : Mt) : PV := mat m.a m.b m.c m.d
def det (m : Mt) : Int := m.a * m.d - m.b * m.c
def ok (m : Mt) : Prop := m.det = 1 ∧ (0 < m.c ∨ (m.c = 0 ∧ m.a = 1))
def mul (m n : Mt) : Mt := ⟨m.a * n.a + m.b * n.c, m.a * n.b + m.b * n.d, m.c * n.a + m.d * n.c, m.c * n.b + m.d * n.d⟩
def neg (m : Mt) : Mt := ⟨-m.a, -m.b, -m.c, -m.d⟩
def one : Mt := ⟨1, 0, 0, 1⟩
def nf (m : Mt) : Mt := if m.c < 0 ∨ (m.c = 0 ∧ m.a < 0) then m.neg else m
/-- as the law's own text says it -/
def sg (m : Mt) : Mt := if 0 < m.c ∨ (m.c = 0 ∧ 0 < m.a) then m else m.neg
def adj (m : Mt) : Mt := ⟨m.d, -m.b, -m.c, m.a⟩
def bd (n : Nat) (m : Mt) : Prop := m.a.natAbs < 2 ^ n ∧ m.b.natAbs < 2 ^ n ∧ m.c.natAbs < 2 ^ n ∧ m.d.natAbs < 2 ^ n
theorem ext' {m n : Mt} (h1 : m.a = n.a) (h2 : m.b = n.b) (h3 : m.c = n.c) (h4 : m.d = n.d) : m = n := by
  cases m; cases n; simp_all
theorem mul_assoc (m n p : Mt) : (m.mul n).mul p = m.mul (n.mul p) := by
  simp only [mul, mk.injEq]
  refine ⟨?_, ?_, ?_, ?_⟩ <;> grind
theorem one_mul (m : Mt) : one.mul m = m := by cases m; simp [mul, one]
theorem mul_one (m : Mt) : m.mul one = m := by cases m; simp [mul, one]
theorem neg_neg (m : Mt) : m.neg.neg = m := by cases m; simp [neg]
theorem neg_mul (m n : Mt) : m.neg.mul n = (m.mul n).neg := by
  simp only [mul, neg, mk.injEq]
  refine ⟨?_, ?_, ?_, ?_⟩ <;> grind
theorem mul_neg (m n : Mt) : m.mul n.neg = (m.mul n).neg := by
  simp only [mul, neg, mk.injEq]
  refine ⟨?_, ?_, ?_, ?_⟩ <;> grind
theorem det_mul (m n : Mt) : (m.mul n).det = m.det * n.det := by simp only [mul, det]; grind
theorem det_neg (m : Mt) : m.neg.det = m.det := by simp only [neg, det]; grind
theorem det_adj (m : Mt) : m.adj.det = m.det := by simp only [adj, det]; grind
theorem det_nf (m : Mt) : m.nf.det = m.det := by unfold nf; split; exact det_neg m; rfl
theorem mul_adj (m : Mt) (h : m.det = 1) : m.mul m.adj = one := by
  simp only [det] at h
  simp only [mul, adj, one, mk.injEq]
  refine ⟨?_, ?_, ?_, ?_⟩ <;> grind
theorem adj_mul (m : Mt) (h : m.det = 1) : m.adj.mul m = one := by
  simp only [det] at h
  simp only [mul, adj, one, mk.injEq]
  refine ⟨?_, ?_, ?_, ?_⟩ <;> grind
theorem adj_mul_rev (m n : Mt) : (m.mul n).adj = n.adj.mul m.adj := by
  simp only [mul, adj, mk.injEq]
  refine ⟨?_, ?_, ?_, ?_⟩ <;> grind
theorem adj_neg (m : Mt) : m.neg.adj = m.adj.neg := by simp [adj, neg]
theorem adj_adj (m : Mt) : m.adj.adj = m := by cases m; simp [adj]
/-- a row of zeros has no determinant 1 -/
theorem nz {m : Mt} (h : m.det = 1) (hc : m.c = 0) : m.a = 1 ∧ m.d = 1 ∨ m.a = -1 ∧ m.d = -1 := by
  unfold det at h
  rw [hc] at h
  have h' : m.a * m.d = 1 := by simpa using h
  have e : m.a.natAbs * m.d.natAbs = 1 := by rw [← Int.natAbs_mul, h']; rfl
  have ea : m.a.natAbs = 1 := Nat.eq_one_of_mul_eq_one_right e
  rcases (show m.a = 1 ∨ m.a = -1 by omega) with z | z
  · left; rw [z] at h'; omega
  · right; rw [z] at h'; omega
theorem ok_nf {m : Mt} (h : m.det = 1) : m.nf.ok := by
  refine ⟨by rw [det_nf]; exact h, ?_⟩
  unfold nf
  split
  · rename_i q
    simp only [neg]
    rcases q with q | ⟨q, r⟩
    · left; omega
    · rcases nz h q with z | z
      · omega
      · right; omega
  · rename_i q
    by_cases hc : m.c = 0
    · rcases nz h hc with z | z
      · right; exact ⟨hc, z.1⟩
      · omega
    · left; omega
theorem nf_ok {m : Mt} (h : m.ok) : m.nf = m := by
  unfold nf
  rw [if_neg]
  have := h.2
  omega
theorem sg_nf {m : Mt} (h : m.det = 1) : m.sg = m.nf := by
  unfold sg nf
  by_cases hc : m.c = 0
  · rcases nz h hc with z | z
    · rw [if_pos (by omega), if_neg (by omega)]
    · rw [if_neg (by omega), if_pos (by omega)]
  · by_cases h2 : 0 < m.c
    · rw [if_pos (by omega), if_neg (by omega)]
    · rw [if_neg (by omega), if_pos (by omega)]
theorem nf_neg {m : Mt} (h : m.det = 1) : m.neg.nf = m.nf := by
  unfold nf
  have e1 : m.neg.c = -m.c := rfl
  have e2 : m.neg.a = -m.a := rfl
  rw [e1, e2, neg_neg]
  by_cases hc : m.c = 0
  · rcases nz h hc with z | z
    · rw [if_pos (by omega), if_neg (by omega)]
    · rw [if_neg (by omega), if_pos (by omega)]
  · by_cases h2 : 0 < m.c
    · rw [if_pos (by omega), if_neg (by omega)]
    · rw [if_neg (by omega), if_pos (by omega)]
theorem nf_pm (m : Mt) : m.nf = m ∨ m.nf = m.neg := by unfold nf; split; exact .inr rfl; exact .inl rfl
theorem det1_mul {m n : Mt} (h : m.det = 1) (h' : n.det = 1) : (m.mul n).det = 1 := by rw [det_mul, h, h']; rfl
theorem nf_mul_l {m n : Mt} (h : m.det = 1) (h' : n.det = 1) : (m.nf.mul n).nf = (m.mul n).nf := by
  rcases nf_pm m with e | e <;> rw [e]
  rw [neg_mul, nf_neg (det1_mul h h')]
theorem nf_mul_r {m n : Mt} (h : m.det = 1) (h' : n.det = 1) : (m.mul n.nf).nf = (m.mul n).nf := by
  rcases nf_pm n with e | e <;> rw [e]
  rw [mul_neg, nf_neg (det1_mul h h')]
theorem nf_adj {m : Mt} (h : m.det = 1) : m.nf.adj.nf = m.adj.nf := by
  rcases nf_pm m with e | e <;> rw [e]
  rw [adj_neg, nf_neg (by rw [det_adj]; exact h)]
theorem one_ok : one.ok := ⟨rfl, .inr ⟨rfl, rfl⟩⟩
theorem nf_nf {m : Mt} (h : m.det = 1) : m.nf.nf = m.nf := nf_ok (ok_nf h)
theorem bd.mono {m : Mt} {i j : Nat} (h : m.bd i) (hij : i ≤ j) : m.bd j := by
  have := Nat.pow_le_pow_right (show 0 < 2 by decide) hij
  exact ⟨Nat.lt_of_lt_of_le h.1 this, Nat.lt_of_lt_of_le h.2.1 this, Nat.lt_of_lt_of_le h.2.2.1 this, Nat.lt_of_lt_of_le h.2.2.2 this⟩
theorem bd.neg {m : Mt} {i : Nat} (h : m.bd i) : m.neg.bd i := by simpa [bd, Mt.neg, Int.natAbs_neg] using h
theorem bd.nf {m : Mt} {i : Nat} (h : m.bd i) : m.nf.bd i := by
  rcases nf_pm m with e | e <;> rw [e]
  · exact h
  · exact h.neg
theorem bd.adj {m : Mt} {i : Nat} (h : m.bd i) : m.adj.bd i := by
  simp only [bd, Mt.adj, Int.natAbs_neg] at h ⊢
  exact ⟨h.2.2.2, h.2.1, h.2.2.1, h.1⟩
theorem abs2 {x y z w : Int} {i j : Nat} (hx : x.natAbs < 2 ^ i) (hy : y.natAbs < 2 ^ j) (hz : z.natAbs < 2 ^ i) (hw : w.natAbs < 2 ^ j) : (x * y + z * w).natAbs < 2 ^ (i + j + 1) := by
  have h1 := wide_lt hx hy
  have h2 := wide_lt hz hw
  have h3 : (x * y + z * w).natAbs ≤ (x * y).natAbs + (z * w).natAbs := Int.natAbs_add_le _ _
  rw [Nat.pow_succ]
  omega
theorem bd.mul {m n : Mt} {i j : Nat} (h : m.bd i) (h' : n.bd j) : (m.mul n).bd (i + j + 1) :=
  ⟨abs2 h.1 h'.1 h.2.1 h'.2.2.1, abs2 h.1 h'.2.1 h.2.1 h'.2.2.2, abs2 h.2.2.1 h'.1 h.2.2.2 h'.2.2.1, abs2 h.2.2.1 h'.2.1 h.2.2.2 h'.2.2.2⟩
theorem one_bd : one.bd 1 := by simp [bd, one]
end Mt
end Q
namespace Q
open PySem PySem.Spec PyProof.Rows L2
/-! ### texts -/
@[simp] theorem eS : Str.ofString "S" = ⟨#[83]⟩ := rfl
@[simp] theorem eR : Str.ofString "R" = ⟨#[82]⟩ := rfl
@[simp] theorem er : Str.ofString "r" = ⟨#[114]⟩ := rfl
@[simp] theorem eE : Str.ofString "" = ⟨#[]⟩ := rfl
@[simp] theorem str_eq (a b : Array Nat) : ((⟨a⟩ : Str) == ⟨b⟩) = decide (a = b) := by
  by_cases h : a = b
  · subst h; simp
  · have : (⟨a⟩ : Str) ≠ ⟨b⟩ := fun e => h (Str.mk.inj e)
    rw [decide_eq_false h]
    exact beq_false_of_ne this
/-! ### letters, words -/
inductive Ltr where
  | S | R | r
  deriving DecidableEq
def Ltr.code : Ltr → Nat
  | .S => 83 | .R => 82 | .r => 114
def Ltr.mt : Ltr → Mt
  | .S => ⟨0, -1, 1, 0⟩ | .R => ⟨0, -1, 1, 1⟩ | .r => ⟨-1, -1, 1, 0⟩
def Ltr.pv (l : Ltr) : PV := .str ⟨#[l.code]⟩
def wstr (w : List Ltr) : Str := ⟨(w.map Ltr.code).toArray⟩
def wpv (w : List Ltr) : PV := .str (wstr w)
/-- S beside R or r -/
def Ltr.fits (x y : Ltr) : Bool := (x == .S) != (y == .S)
def isW : List Ltr → Bool
  | [] => true
  | [_] => true
  | x :: y :: r => Ltr.fits x y && isW (y :: r)
/-- the matrix of letters -/
def wmt (w : List Ltr) : Mt := w.foldl (fun m l => (m.mul l.mt).sg) Mt.one

/-! ### the source of numbers -/
def Src (M : PM) (a : Addr) (n : Nat) : Prop := ∃ p q r : Int, M a = some (.lst [.int p, .int q, .int r]) ∧ 0 ≤ q ∧ q ≤ n ∧ 0 ≤ r
def SrcUp (M M' : PM) (a : Addr) (n : Nat) : Prop := Src M' a n ∧ ∀ b, b ≠ a → M' b = M b
theorem SrcUp.trans {M M1 M2 : PM} {a : Addr} {i j : Nat} (h1 : SrcUp M M1 a i) (h2 : SrcUp M1 M2 a j) : SrcUp M M2 a j := ⟨h2.1, fun b hb => (h2.2 b hb).trans (h1.2 b hb)⟩
theorem Src.mono {M : PM} {a : Addr} {i j : Nat} (h : Src M a i) (hij : i ≤ j) : Src M a j := by
  obtain ⟨p, q, r, h1, h2, h3, h4⟩ := h
  exact ⟨p, q, r, h1, h2, by omega, h4⟩
theorem SrcUp.mono {M M' : PM} {a : Addr} {i j : Nat} (h : SrcUp M M' a i) (hij : i ≤ j) : SrcUp M M' a j := ⟨h.1.mono hij, h.2⟩
theorem SrcUp.refl {M : PM} {a : Addr} {i : Nat} (h : Src M a i) : SrcUp M M a i := ⟨h, fun _ _ => rfl⟩
def lim : Nat := 1000000000000

def sp_L_source : PSp := fun xs M k _ => ∃ (ns : List Int) (i : Int), xs = [.rdl (ns.map .int), .int i] ∧ ns.length ≤ 63 ∧ 0 ≤ i ∧ i ≤ 10 ∧ ∀ a M', M a = none → SrcUp M M' a 30 → k (.ref a) M'
def sp_L_next : PSp := fun xs M k _ => ∃ (a : Addr) (m : Int) (n : Nat), xs = [.ref a, .int m] ∧ Src M a n ∧ n < lim ∧ 0 < m ∧ m < 10 ^ 30 ∧ ∀ r M', 0 ≤ r → r < m → SrcUp M M' a (n + 1) → k (.int r) M'
def sp_L_signed : PSp := fun xs M k _ => ∃ a b c d : Int, xs = [mat a b c d] ∧ k (Mt.mk a b c d).sg.pv M
def sp_L_times : PSp := fun xs M k _ => ∃ a b c d e f g h : Int, xs = [mat a b c d, mat e f g h] ∧ (∃ i j, (Mt.mk a b c d).bd i ∧ (Mt.mk e f g h).bd j ∧ 0 < i ∧ 0 < j ∧ i + j ≤ 900000) ∧ k ((Mt.mk a b c d).mul (Mt.mk e f g h)).sg.pv M
def sp_L_back : PSp := fun xs M k _ => ∃ a b c d : Int, xs = [mat a b c d] ∧ k (Mt.mk a b c d).adj.sg.pv M
def sp_L_of : PSp := fun xs M k _ => ∃ l : Ltr, xs = [l.pv] ∧ k l.mt.pv M
def sp_L_matrix : PSp := fun xs M k _ => ∃ w : List Ltr, xs = [wpv w] ∧ w.length ≤ 4000 ∧ k (wmt w).pv M
def sp_L_text : PSp := fun xs M k _ => ∃ (a : Addr) (s : Int) (n : Nat), xs = [.ref a, .int s] ∧ Src M a n ∧ 0 ≤ s ∧ s ≤ 4000 ∧ n + 2 * s.toNat < lim ∧ ∀ w M', isW w = true → w.length = s.toNat → SrcUp M M' a (n + 2 * s.toNat) → k (wpv w) M'
/-! ### the program -/
def Tg.whole : Tg → Bool
  | .int => true
  | _ => false
def sp_is_whole : PSp := fun xs M k _ => ∃ v, xs = [v] ∧ tgP v M fun t => k (.bl t.whole) M
/-- a value of the kinds that are spoken of here -/
def fine1 : PV → Bool
  | .ty _ => false
  | .ref _ => false
  | _ => true
def fineR : PV → Bool
  | .tup ys => ys.all fine1
  | y => fine1 y
def fineV : PV → Bool
  | .tup xs => xs.all fineR
  | x => fine1 x
def isIntV : PV → Bool
  | .int _ => true
  | _ => false
def isRowV : PV → Bool
  | .tup [x, y] => isIntV x && isIntV y
  | _ => false
/-- the matrix that a value is -/
def asMt : PV → Option Mt
  | .tup [.tup [.int a, .int b], .tup [.int c, .int d]] => some ⟨a, b, c, d⟩
  | _ => none
def hasDet (v : PV) : Bool := match asMt v with
  | some m => decide (m.det = 1)
  | none => false
def isMat (v : PV) : Bool := match asMt v with
  | some m => decide (m.det = 1) && decide (m.nf = m)
  | none => false
def room (v : PV) : Prop := ∀ m, asMt v = some m → ∃ n, m.bd n ∧ 0 < n ∧ n ≤ 400000
/-- .. or a dict -/
def fineM (M : PM) (v : PV) : Prop := fineR v = true ∨ ∃ a kvs, v = .ref a ∧ M a = some (.dK kvs)
def sp_is_pair : PSp := fun xs M k _ => ∃ v, xs = [v] ∧ fineM M v ∧ k (.bl (isRowV v)) M
def sp_u_has_determinant_one : PSp := fun xs M k _ => ∃ v, xs = [v] ∧ fineV v = true ∧ room v ∧ k (.bl (hasDet v)) M
def sp_u_normal_form : PSp := fun xs M k _ => ∃ a b c d : Int, xs = [mat a b c d] ∧ k (Mt.mk a b c d).nf.pv M
def sp_u_times : PSp := fun xs M k _ => ∃ a b c d e f g h : Int, xs = [mat a b c d, mat e f g h] ∧ (∃ i j, (Mt.mk a b c d).bd i ∧ (Mt.mk e f g h).bd j ∧ 0 < i ∧ 0 < j ∧ i + j ≤ 900000) ∧ k ((Mt.mk a b c d).mul (Mt.mk e f g h)).pv M
def sp_is_matrix : PSp := fun xs M k _ => ∃ v, xs = [v] ∧ fineV v = true ∧ room v ∧ k (.bl (isMat v)) M
/-- .. where it is one -/
def sp_check_matrix : PSp := fun xs M k _ => ∃ v, xs = [v] ∧ fineV v = true ∧ room v ∧ isMat v = true ∧ k .non M
def sp_product : PSp := fun xs M k _ => ∃ ms : List Mt, xs = ms.map Mt.pv ∧ ms.length ≤ 1000000 ∧ (∃ n, 0 < n ∧ (ms.length + 1) * (n + 1) ≤ 400000 ∧ ∀ m ∈ ms, m.ok ∧ m.bd n) ∧ k (ms.foldl Mt.mul Mt.one).nf.pv M
def sp_inverse : PSp := fun xs M k _ => ∃ a b c d : Int, xs = [mat a b c d] ∧ (Mt.mk a b c d).ok ∧ (∃ n, (Mt.mk a b c d).bd n ∧ 0 < n ∧ n ≤ 400000) ∧ k (Mt.mk a b c d).adj.nf.pv M
theorem isMat_ok {a b c d : Int} (h : (Mt.mk a b c d).ok) : isMat (mat a b c d) = true := by
  show (decide ((Mt.mk a b c d).det = 1) && decide ((Mt.mk a b c d).nf = Mt.mk a b c d)) = true
  rw [Mt.nf_ok h, h.1]
  simp
theorem fine_mat {a b c d : Int} : fineV (mat a b c d) = true := rfl
theorem room_mat {a b c d : Int} {n : Nat} (h : (Mt.mk a b c d).bd n) (h0 : 0 < n) (hn : n ≤ 400000) : room (mat a b c d) := fun m e => by
  have e' : Mt.mk a b c d = m := Option.some.inj e
  subst e'
  exact ⟨n, h, h0, hn⟩
def sp_L_drawn_matrix : PSp := fun xs M k _ => ∃ (a : Addr) (n : Nat), xs = [.ref a] ∧ Src M a n ∧ n + 100 < lim ∧ ∀ (m : Mt) M', m.ok → m.bd 40 → SrcUp M M' a (n + 40) → k m.pv M'
def sp_L_triple_right : PSp := fun xs M k _ => ∃ (a : Addr) (n : Nat), xs = [.ref a] ∧ Src M a n ∧ n + 500 < lim ∧ ∀ M', SrcUp M M' a (n + 120) → k (.bl true) M'
end Q
namespace Q
open PySem PySem.Spec PyProof.Rows L2
theorem whole_of {v : PV} {M : PM} {k : PK} {ex : PX} (hf : fine1 v = true) (h : k (.bl (isIntV v)) M) : sp_is_whole [v] M k ex := by
  refine ⟨v, rfl, ?_⟩
  cases v <;> simp_all [fine1, isIntV, Tg.whole]
theorem row_of {v : PV} {M : PM} {k : PK} {ex : PX} (hf : fineR v = true) (h : k (.bl (isRowV v)) M) : sp_is_pair [v] M k ex := ⟨v, rfl, .inl hf, h⟩
theorem isRow_iff {v : PV} (h : isRowV v = true) : ∃ i j, v = .tup [.int i, .int j] := by
  unfold isRowV at h
  split at h
  · rename_i x y
    cases x <;> cases y <;> simp_all [isIntV]
  · cases h
theorem asMt_row {x y : PV} (h : isRowV x = false ∨ isRowV y = false) : asMt (.tup [x, y]) = none := by
  unfold asMt
  split
  · rename_i e
    cases e
    simp [isRowV, isIntV] at h
  · rfl
theorem prime_at {i : Int} (h0 : 0 ≤ i) (h1 : i < 11) : ∃ P : Int, atI [PV.int 2147483647, PV.int 2147483629, PV.int 2147483587, PV.int 2147483579, PV.int 2147483563, PV.int 2147483549, PV.int 2147483543, PV.int 2147483497, PV.int 2147483489, PV.int 2147483477, PV.int 2147483423] i = some (.int P) ∧ 2147483423 ≤ P ∧ P ≤ 2147483647 := by
  rcases (show i = 0 ∨ i = 1 ∨ i = 2 ∨ i = 3 ∨ i = 4 ∨ i = 5 ∨ i = 6 ∨ i = 7 ∨ i = 8 ∨ i = 9 ∨ i = 10 by omega) with e | e | e | e | e | e | e | e | e | e | e <;> subst e
  all_goals exact ⟨_, rfl, by decide, by decide⟩
@[simp] theorem atI0 {α : Type} (x : α) (xs : List α) : atI (x :: xs) 0 = some x := by
  have : (0 : Int) < (xs.length : Int) + 1 := by omega
  simp [atI, ixN, this]
@[simp] theorem atI1 {α : Type} (x y : α) (xs : List α) : atI (x :: y :: xs) 1 = some y := by
  have : (1 : Int) < (xs.length : Int) + 1 + 1 := by omega
  simp [atI, ixN, this]
@[simp] theorem atI2 {α : Type} (x y z : α) (xs : List α) : atI (x :: y :: z :: xs) 2 = some z := by
  have : (2 : Int) < (xs.length : Int) + 1 + 1 + 1 := by omega
  simp [atI, ixN, this]
theorem datL_ints : ∀ ns : List Int, datL (ns.map PV.int) = some (ns.map PyData.int)
  | [] => rfl
  | n :: ns => by simp [datL, dat, datL_ints ns]
@[simp] theorem ne_nil {ns : List Int} {M : PM} {k : PK} : opEq true (.rdl (ns.map .int)) (.lst []) M k ↔ k (.bl (!ns.isEmpty)) M := by
  have e : PyData.eqv (.list (ns.map PyData.int)) (.list []) = ns.isEmpty := by cases ns <;> rfl
  have d : PyData.depth (.list []) ≤ 60 := by decide
  simp only [opEq, datM, dat, datL_ints, datL, Option.map_some, if_true]
  constructor
  · rintro ⟨d, e', h1, h2, _, h⟩
    cases h1; cases h2
    rw [← e]; exact h
  · intro h
    exact ⟨_, _, rfl, rfl, by omega, by rw [e]; exact h⟩
theorem mod_at {ns : List Int} {i : Int} (h0 : 0 ≤ i) (hne : ns ≠ []) : ∃ z, atI (ns.map PV.int) (i % (ns.length : Int)) = some (.int z) := by
  have hp : 0 < (ns.length : Int) := by
    have : 0 < ns.length := List.length_pos_iff.mpr hne
    omega
  have h1 := Int.emod_nonneg i (show (ns.length : Int) ≠ 0 by omega)
  have h2 := Int.emod_lt_of_pos i hp
  obtain ⟨j, hj⟩ : ∃ j : Nat, i % (ns.length : Int) = j := ⟨_, (Int.toNat_of_nonneg h1).symm⟩
  rw [hj] at h2 ⊢
  have hlt : j < ns.length := by omega
  refine ⟨ns[j], atI_nat ?_⟩
  rw [List.getElem?_map, List.getElem?_eq_getElem hlt]
  rfl
theorem lt_bd (l : Ltr) : l.mt.bd 1 := by cases l <;> simp [Mt.bd, Ltr.mt]
theorem sg_bd {m : Mt} {i : Nat} (h : m.bd i) : m.sg.bd i := by
  unfold Mt.sg
  split
  · exact h
  · exact h.neg
theorem wmt_snoc (w : List Ltr) (l : Ltr) : wmt (w ++ [l]) = ((wmt w).mul l.mt).sg := by simp [wmt, List.foldl_append]
theorem wmt_bd' : ∀ n (w : List Ltr), w.length = n → (wmt w).bd (2 * w.length + 1)
  | 0, w, h => by
    have : w = [] := List.length_eq_zero_iff.mp h
    subst this
    exact Mt.one_bd
  | n + 1, w, h => by
    rcases List.eq_nil_or_concat w with e | ⟨u, l, e⟩
    · subst e; simp at h
    · rw [List.concat_eq_append] at e
      subst e
      have hu : u.length = n := by simpa using h
      have := wmt_bd' n u hu
      rw [wmt_snoc]
      have z := sg_bd (this.mul (lt_bd l))
      refine z.mono ?_
      simp
      omega
theorem wmt_bd (w : List Ltr) : (wmt w).bd (2 * w.length + 1) := wmt_bd' _ w rfl
theorem wstr_get {w : List Ltr} {i c : Nat} (h : (wstr w).cps.toList[i]? = some c) : ∃ l, w[i]? = some l ∧ c = l.code := by
  simp only [wstr, List.getElem?_map] at h
  obtain ⟨l, h1, h2⟩ := Option.map_eq_some_iff.mp h
  exact ⟨l, h1, h2.symm⟩
theorem wstr_len (w : List Ltr) : (wstr w).cps.toList.length = w.length := by simp [wstr]
theorem wstr_nil : wstr [] = ⟨#[]⟩ := rfl
theorem wstr_snoc (u : List Ltr) (l : Ltr) : wstr u ++ (⟨#[l.code]⟩ : Str) = wstr (u ++ [l]) := by
  show Str.mk ((wstr u).cps ++ #[l.code]) = _
  simp [wstr]
theorem isW_snoc : ∀ {u : List Ltr} {l : Ltr}, isW u = true → (∀ x, u.getLast? = some x → Ltr.fits x l = true) → isW (u ++ [l]) = true
  | [], _, _, _ => rfl
  | [x], l, _, h => by simpa [isW] using h x rfl
  | x :: y :: r, l, h1, h2 => by
    simp only [isW, Bool.and_eq_true] at h1
    have ih := isW_snoc (u := y :: r) (l := l) h1.2 (fun z hz => h2 z (by rw [List.getLast?_cons_cons]; exact hz))
    show (Ltr.fits x y && isW (y :: (r ++ [l]))) = true
    rw [h1.1]
    exact ih
theorem wstr_last (u : List Ltr) (x : Ltr) : atI (wstr (u ++ [x])).cps.toList (-1) = some x.code := by
  have : (wstr (u ++ [x])).cps.toList = u.map Ltr.code ++ [x.code] := by simp [wstr]
  rw [this]
  exact atI_last _ _
theorem wstr_size (u : List Ltr) : (wstr u).length = u.length := by simp [wstr, Str.length]
theorem pv_inj {m n : Mt} (h : m.pv = n.pv) : m = n := by
  cases m; cases n
  simp at h
  simp [h]
theorem dat_pv (m : Mt) : dat m.pv = some (.tuple [.tuple [.int m.a, .int m.b], .tuple [.int m.c, .int m.d]]) := by simp [dat, datL]
theorem eqv_pv (m n : Mt) : PyData.eqv (.tuple [.tuple [.int m.a, .int m.b], .tuple [.int m.c, .int m.d]]) (.tuple [.tuple [.int n.a, .int n.b], .tuple [.int n.c, .int n.d]]) = decide (m = n) := by
  simp [PyData.eqv, PyData.eqvAll, Bool.beq_eq_decide_eq]
  cases m; cases n
  simp [Bool.and_assoc]
theorem opEq_mat {neg : Bool} {m n : Mt} {M : PM} {k : PK} (h : k (.bl (if neg then !decide (m = n) else decide (m = n))) M) : opEq neg m.pv n.pv M k := by
  refine ⟨_, _, dat_pv m, dat_pv n, by simp [PyData.depth, PyData.depthAll], ?_⟩
  rw [eqv_pv]
  exact h
def dmat (m : Mt) : PyData := .tuple [.tuple [.int m.a, .int m.b], .tuple [.int m.c, .int m.d]]
theorem datL_mats : ∀ ms : List Mt, datL (ms.map Mt.pv) = some (ms.map dmat)
  | [] => rfl
  | m :: ms => by
    show (match dat m.pv, datL (ms.map Mt.pv) with | some x, some y => some (x :: y) | _, _ => none) = _
    rw [dat_pv, datL_mats ms]
    rfl
theorem eqvAll_mats : ∀ ms ns : List Mt, PyData.eqvAll (ms.map dmat) (ns.map dmat) = decide (ms = ns)
  | [], [] => rfl
  | [], _ :: _ => rfl
  | _ :: _, [] => rfl
  | m :: ms, n :: ns => by
    show (PyData.eqv (dmat m) (dmat n) && PyData.eqvAll (ms.map dmat) (ns.map dmat)) = _
    rw [eqvAll_mats ms ns]
    unfold dmat
    rw [eqv_pv]
    simp
theorem depthAll_mats : ∀ ms : List Mt, PyData.depthAll (ms.map dmat) ≤ 10
  | [] => by decide
  | m :: ms => by
    have := depthAll_mats ms
    simp [PyData.depthAll, dmat, PyData.depth] at *
    omega
theorem opEq_mats {neg : Bool} (ms ns : List Mt) {M : PM} {k : PK} (h : k (.bl (if neg then !decide (ms = ns) else decide (ms = ns))) M) : opEq neg (.lst (ms.map Mt.pv)) (.lst (ns.map Mt.pv)) M k := by
  have e : ∀ ms : List Mt, datM M (.lst (ms.map Mt.pv)) = some (.list (ms.map dmat)) := fun ms => by
    simp only [datM, dat, datL_mats]; rfl
  refine ⟨_, _, e ms, e ns, ?_, ?_⟩
  · have := depthAll_mats ms
    simp only [PyData.depth]
    omega
  · have : PyData.eqv (.list (ms.map dmat)) (.list (ns.map dmat)) = decide (ms = ns) := eqvAll_mats ms ns
    rw [this]
    exact h
theorem fold_bd {n : Nat} : ∀ {ms : List Mt} {m : Mt} {i : Nat}, (∀ x ∈ ms, x.bd n) → m.bd i → (ms.foldl Mt.mul m).bd (i + ms.length * (n + 1))
  | [], m, i, _, h => by simpa using h
  | x :: ms, m, i, hx, h => by
    have := fold_bd (ms := ms) (fun y hy => hx y (List.mem_cons_of_mem _ hy)) (h.mul (hx x List.mem_cons_self))
    refine this.mono ?_
    rw [List.length_cons, Nat.add_mul]
    omega
theorem prod_of {ms : List Mt} {M : PM} {k : PK} {ex : PX} (hl : ms.length ≤ 20) (hb : ∀ m ∈ ms, m.ok ∧ m.bd 100) (h : k (ms.foldl Mt.mul Mt.one).nf.pv M) : sp_product (ms.map Mt.pv) M k ex :=
  ⟨ms, rfl, by omega, ⟨100, by omega, by
    have : (ms.length + 1) * 101 ≤ 21 * 101 := Nat.mul_le_mul_right _ (by omega)
    omega, hb⟩, h⟩
theorem inv_of {m : Mt} {M : PM} {k : PK} {ex : PX} (hb : m.ok ∧ m.bd 100) (h : k m.adj.nf.pv M) : sp_inverse [m.pv] M k ex :=
  ⟨m.a, m.b, m.c, m.d, rfl, hb.1, ⟨100, hb.2, by omega, by omega⟩, h⟩
theorem ltimes_of {m n : Mt} {M : PM} {k : PK} {ex : PX} (hm : m.ok ∧ m.bd 100) (hn : n.ok ∧ n.bd 100) (h : k (m.mul n).nf.pv M) : sp_L_times [m.pv, n.pv] M k ex :=
  ⟨m.a, m.b, m.c, m.d, n.a, n.b, n.c, n.d, rfl, ⟨100, 100, hm.2, hn.2, by omega, by omega, by omega⟩, by
    have : (m.mul n).sg = (m.mul n).nf := Mt.sg_nf (Mt.det1_mul hm.1.1 hn.1.1)
    rw [← this] at h; exact h⟩
theorem lback_of {m : Mt} {M : PM} {k : PK} {ex : PX} (hm : m.ok) (h : k m.adj.nf.pv M) : sp_L_back [m.pv] M k ex :=
  ⟨m.a, m.b, m.c, m.d, rfl, by
    have : m.adj.sg = m.adj.nf := Mt.sg_nf (by rw [Mt.det_adj]; exact hm.1)
    rw [← this] at h; exact h⟩
theorem lt_det (l : Ltr) : l.mt.det = 1 := by cases l <;> rfl
theorem sg_ok {m : Mt} (h : m.det = 1) : m.sg.ok := by rw [Mt.sg_nf h]; exact Mt.ok_nf h
theorem wmt_ok' : ∀ n (w : List Ltr), w.length = n → (wmt w).ok
  | 0, w, h => by
    have : w = [] := List.length_eq_zero_iff.mp h
    subst this
    exact Mt.one_ok
  | n + 1, w, h => by
    rcases List.eq_nil_or_concat w with e | ⟨u, l, e⟩
    · subst e; simp at h
    · rw [List.concat_eq_append] at e
      subst e
      have hu : u.length = n := by simpa using h
      rw [wmt_snoc]
      exact sg_ok (Mt.det1_mul (wmt_ok' n u hu).1 (lt_det l))
theorem wmt_ok (w : List Ltr) : (wmt w).ok := wmt_ok' _ w rfl
def mS : Mt := ⟨0, -1, 1, 0⟩
def mR : Mt := ⟨0, -1, 1, 1⟩
theorem mS_ok : mS.ok ∧ mS.bd 100 := ⟨by simp [Mt.ok, Mt.det, mS], by simp [Mt.bd, mS]⟩
theorem mR_ok : mR.ok ∧ mR.bd 100 := ⟨by simp [Mt.ok, Mt.det, mR], by simp [Mt.bd, mR]⟩
theorem mRi_ok : mR.adj.nf.ok ∧ mR.adj.nf.bd 100 := ⟨Mt.ok_nf (by rw [Mt.det_adj]; exact mR_ok.1.1), mR_ok.2.adj.nf⟩
end Q
namespace Q
open PySem PySem.Spec PyProof.Rows L2

def topS (i : Nat) : Stmt := PySem.Challenge.pw_cuspfloor_k03_products.main.body.getD i (.Pass ⟨0, 0, 0, 0⟩)
abbrev s_is_whole : Stmt := topS 5
abbrev N_is_whole : List Str := ["value"]
theorem sc_is_whole : FnScope N_is_whole ["value"] (defScope s_is_whole) := ⟨rfl, rfl, rfl, by decide +kernel, rfl, by decide +kernel, by decide +kernel⟩
abbrev s_is_pair : Stmt := topS 6
abbrev N_is_pair : List Str := ["value"]
theorem sc_is_pair : FnScope N_is_pair ["value"] (defScope s_is_pair) := ⟨rfl, rfl, rfl, by decide +kernel, rfl, by decide +kernel, by decide +kernel⟩
abbrev s_is_matrix : Stmt := topS 7
abbrev N_is_matrix : List Str := ["value"]
theorem sc_is_matrix : FnScope N_is_matrix ["value"] (defScope s_is_matrix) := ⟨rfl, rfl, rfl, by decide +kernel, rfl, by decide +kernel, by decide +kernel⟩
abbrev s_check_matrix : Stmt := topS 8
abbrev N_check_matrix : List Str := ["matrix"]
theorem sc_check_matrix : FnScope N_check_matrix ["matrix"] (defScope s_check_matrix) := ⟨rfl, rfl, rfl, by decide +kernel, rfl, by decide +kernel, by decide +kernel⟩
abbrev s_product : Stmt := topS 9
abbrev N_product : List Str := ["matrices", "matrix", "result"]
theorem sc_product : FnScope N_product ["matrices"] (defScope s_product) := ⟨rfl, rfl, rfl, by decide +kernel, rfl, by decide +kernel, by decide +kernel⟩
abbrev s_inverse : Stmt := topS 10
abbrev N_inverse : List Str := ["matrix", "a", "b", "c", "d"]
theorem sc_inverse : FnScope N_inverse ["matrix"] (defScope s_inverse) := ⟨rfl, rfl, rfl, by decide +kernel, rfl, by decide +kernel, by decide +kernel⟩
abbrev s_u_has_determinant_one : Stmt := topS 11
abbrev N_u_has_determinant_one : List Str := ["value", "a", "b", "c", "d"]
theorem sc_u_has_determinant_one : FnScope N_u_has_determinant_one ["value"] (defScope s_u_has_determinant_one) := ⟨rfl, rfl, rfl, by decide +kernel, rfl, by decide +kernel, by decide +kernel⟩
abbrev s_u_normal_form : Stmt := topS 12
abbrev N_u_normal_form : List Str := ["rows", "a", "b", "c", "d"]
theorem sc_u_normal_form : FnScope N_u_normal_form ["rows"] (defScope s_u_normal_form) := ⟨rfl, rfl, rfl, by decide +kernel, rfl, by decide +kernel, by decide +kernel⟩
abbrev s_u_times : Stmt := topS 13
abbrev N_u_times : List Str := ["one", "other", "a", "b", "c", "d", "e", "f", "g", "h"]
theorem sc_u_times : FnScope N_u_times ["one", "other"] (defScope s_u_times) := ⟨rfl, rfl, rfl, by decide +kernel, rfl, by decide +kernel, by decide +kernel⟩
abbrev s_L_source : Stmt := topS 15
abbrev N_L_source : List Str := ["_law_script", "_law_k", "_law_cell"]
theorem sc_L_source : FnScope N_L_source ["_law_script", "_law_k"] (defScope s_L_source) := ⟨rfl, rfl, rfl, by decide +kernel, rfl, by decide +kernel, by decide +kernel⟩
abbrev s_L_next : Stmt := topS 16
abbrev N_L_next : List Str := ["_law_source_here", "_law_many", "_law_found", "_law_primes", "_law_prime"]
theorem sc_L_next : FnScope N_L_next ["_law_source_here", "_law_many"] (defScope s_L_next) := ⟨rfl, rfl, rfl, by decide +kernel, rfl, by decide +kernel, by decide +kernel⟩
abbrev s_L_signed : Stmt := topS 17
abbrev N_L_signed : List Str := ["_law_rows", "_law_a", "_law_b", "_law_c", "_law_d"]
theorem sc_L_signed : FnScope N_L_signed ["_law_rows"] (defScope s_L_signed) := ⟨rfl, rfl, rfl, by decide +kernel, rfl, by decide +kernel, by decide +kernel⟩
abbrev s_L_times : Stmt := topS 18
abbrev N_L_times : List Str := ["_law_one", "_law_other", "_law_a", "_law_b", "_law_c", "_law_d", "_law_p", "_law_q", "_law_u", "_law_v"]
theorem sc_L_times : FnScope N_L_times ["_law_one", "_law_other"] (defScope s_L_times) := ⟨rfl, rfl, rfl, by decide +kernel, rfl, by decide +kernel, by decide +kernel⟩
abbrev s_L_back : Stmt := topS 19
abbrev N_L_back : List Str := ["_law_matrix_here", "_law_a", "_law_b", "_law_c", "_law_d"]
theorem sc_L_back : FnScope N_L_back ["_law_matrix_here"] (defScope s_L_back) := ⟨rfl, rfl, rfl, by decide +kernel, rfl, by decide +kernel, by decide +kernel⟩
abbrev s_L_of : Stmt := topS 20
abbrev N_L_of : List Str := ["_law_letter"]
theorem sc_L_of : FnScope N_L_of ["_law_letter"] (defScope s_L_of) := ⟨rfl, rfl, rfl, by decide +kernel, rfl, by decide +kernel, by decide +kernel⟩
abbrev s_L_matrix : Stmt := topS 21
abbrev N_L_matrix : List Str := ["_law_text_here", "_law_found", "_law_letter"]
theorem sc_L_matrix : FnScope N_L_matrix ["_law_text_here"] (defScope s_L_matrix) := ⟨rfl, rfl, rfl, by decide +kernel, rfl, by decide +kernel, by decide +kernel⟩
abbrev s_L_text : Stmt := topS 22
abbrev N_L_text : List Str := ["_law_source_here", "_law_size", "_law_found", "_law_k", "_law_turns"]
theorem sc_L_text : FnScope N_L_text ["_law_source_here", "_law_size"] (defScope s_L_text) := ⟨rfl, rfl, rfl, by decide +kernel, rfl, by decide +kernel, by decide +kernel⟩
abbrev s_L_drawn_matrix : Stmt := topS 23
abbrev N_L_drawn_matrix : List Str := ["_law_source_here"]
theorem sc_L_drawn_matrix : FnScope N_L_drawn_matrix ["_law_source_here"] (defScope s_L_drawn_matrix) := ⟨rfl, rfl, rfl, by decide +kernel, rfl, by decide +kernel, by decide +kernel⟩
abbrev s_L_triple_right : Stmt := topS 24
abbrev N_L_triple_right : List Str := ["_law_source_here", "_law_x", "_law_y", "_law_z", "_law_left", "_law_right", "_law_due"]
theorem sc_L_triple_right : FnScope N_L_triple_right ["_law_source_here"] (defScope s_L_triple_right) := ⟨rfl, rfl, rfl, by decide +kernel, rfl, by decide +kernel, by decide +kernel⟩
abbrev s_law : Stmt := topS 25
abbrev N_law : List Str := ["_law_script", "_law_k", "_law_source_here", "_law_turn", "_law_s", "_law_r"]
theorem sc_law : FnScope N_law ["_law_script"] (defScope s_law) := ⟨rfl, rfl, rfl, by decide +kernel, rfl, by decide +kernel, by decide +kernel⟩
def f_is_whole : QS := (qRet (qAndV (qCallB (cIsi) (qCons (qVar 0) (qCons (qC (.ty "int")) qNil))) (qNotV (qCallB (cIsi) (qCons (qVar 0) (qCons (qC (.ty "bool")) qNil))))))
theorem dd_is_whole {g : Glb} (z_bool : g.mg ("bool" : Str) = none) (z_int : g.mg ("int" : Str) = none) (z_isinstance : g.mg ("isinstance" : Str) = none) : DSs ⟨g, N_is_whole, defScope s_is_whole, 0⟩ (defBody s_is_whole) f_is_whole :=
    (dss_one (ds_ret (de_and (de_callB cq_isi rfl z_isinstance bt_isinstance (da_cons (de_var 0) (da_cons (de_ty z_int rfl bt_int) da_nil))) (de_one (de_not (de_callB cq_isi rfl z_isinstance bt_isinstance (da_cons (de_var 0) (da_cons (de_ty z_bool rfl bt_bool) da_nil))))))))
def f_is_pair : QS := (qRet (qAndV (qCallB (cIsi) (qCons (qVar 0) (qCons (qC (.ty "tuple")) qNil))) (qAndV (qBin (opEq false) (qCallB (cLen) (qCons (qVar 0) qNil)) (qC (.int 2))) (qAndV (qCall sp_is_whole (qCons (qBin opIx (qVar 0) (qC (.int 0))) qNil)) (qCall sp_is_whole (qCons (qBin opIx (qVar 0) (qC (.int 1))) qNil))))))
theorem dd_is_pair {g : Glb} (h_is_whole : Has g "is_whole" 1 sp_is_whole) (z_isinstance : g.mg ("isinstance" : Str) = none) (z_len : g.mg ("len" : Str) = none) (z_tuple : g.mg ("tuple" : Str) = none) : DSs ⟨g, N_is_pair, defScope s_is_pair, 1⟩ (defBody s_is_pair) f_is_pair :=
    (dss_one (ds_ret (de_and (de_callB cq_isi rfl z_isinstance bt_isinstance (da_cons (de_var 0) (da_cons (de_ty z_tuple rfl bt_tuple) da_nil))) (de_and (de_cmp oq_eq (de_callB cq_len rfl z_len bt_len (da_cons (de_var 0) da_nil)) de_int (nomark _)) (de_and (de_call h_is_whole (da_cons (de_ix (de_var 0) de_int) da_nil)) (de_one (de_call h_is_whole (da_cons (de_ix (de_var 0) de_int) da_nil))))))))
def f_is_matrix : QS := (qRet (qAndV (qCall sp_u_has_determinant_one (qCons (qVar 0) qNil)) (qBin (opEq false) (qCall sp_u_normal_form (qCons (qVar 0) qNil)) (qVar 0))))
theorem dd_is_matrix {g : Glb} (h_u_has_determinant_one : Has g "_has_determinant_one" 3 sp_u_has_determinant_one) (h_u_normal_form : Has g "_normal_form" 1 sp_u_normal_form) : DSs ⟨g, N_is_matrix, defScope s_is_matrix, 3⟩ (defBody s_is_matrix) f_is_matrix :=
    (dss_one (ds_ret (de_and (de_call h_u_has_determinant_one (da_cons (de_var 0) da_nil)) (de_one (de_cmp oq_eq (de_call h_u_normal_form (da_cons (de_var 0) da_nil)) (de_var 0) (nomark _))))))
def f_check_matrix : QS := (qIfS (qNotT (qTruth (qCall sp_is_matrix (qCons (qVar 0) qNil)))) qNever qNext)
theorem dd_check_matrix {g : Glb} (h_is_matrix : Has g "is_matrix" 4 sp_is_matrix) : DSs ⟨g, N_check_matrix, defScope s_check_matrix, 4⟩ (defBody s_check_matrix) f_check_matrix :=
    (dss_one (ds_if (dt_not (dt_truth (de_call h_is_matrix (da_cons (de_var 0) da_nil)))) (dss_one ds_never) dss_nil))
def f_product : QS := (qSeq (qFor (qVar 0) (gSet 1) (qDrop (qCall sp_check_matrix (qCons (qVar 1) qNil))))
    (qSeq (qAsg (qC (mat 1 0 0 1)) (gSet 2))
    (qSeq (qFor (qVar 0) (gSet 1) (qAsg (qCall sp_u_times (qCons (qVar 2) (qCons (qVar 1) qNil))) (gSet 2)))
    (qRet (qCall sp_u_normal_form (qCons (qVar 2) qNil))))))
theorem dd_product {g : Glb} (h_check_matrix : Has g "check_matrix" 5 sp_check_matrix) (h_u_normal_form : Has g "_normal_form" 1 sp_u_normal_form) (h_u_times : Has g "_times" 1 sp_u_times) (hc_IDENTITY : HasC g "IDENTITY" (mat 1 0 0 1)) : DSs ⟨g, N_product, defScope s_product, 5⟩ (defBody s_product) f_product :=
    (dss_cons (ds_for (de_var 0) (dg_name 1 sc_product.nd) (dss_one (ds_expr (de_call h_check_matrix (da_cons (de_var 1) da_nil)))))
    (dss_cons (ds_set 2 sc_product.nd (de_glob hc_IDENTITY rfl))
    (dss_cons (ds_for (de_var 0) (dg_name 1 sc_product.nd) (dss_one (ds_set 2 sc_product.nd (de_call h_u_times (da_cons (de_var 2) (da_cons (de_var 1) da_nil))))))
    (dss_one (ds_ret (de_call h_u_normal_form (da_cons (de_var 2) da_nil)))))))
def f_inverse : QS := (qSeq (qDrop (qCall sp_check_matrix (qCons (qVar 0) qNil)))
    (qSeq (qAsg (qVar 0) (gTupQ 2 (gsCons (gTupQ 2 (gsCons (gSet 1) (gsCons (gSet 2) gsNil))) (gsCons (gTupQ 2 (gsCons (gSet 3) (gsCons (gSet 4) gsNil))) gsNil))))
    (qRet (qCall sp_u_normal_form (qCons (qTup (qCons (qTup (qCons (qVar 4) (qCons (qNeg (qVar 2)) qNil))) (qCons (qTup (qCons (qNeg (qVar 3)) (qCons (qVar 1) qNil))) qNil))) qNil)))))
theorem dd_inverse {g : Glb} (h_check_matrix : Has g "check_matrix" 5 sp_check_matrix) (h_u_normal_form : Has g "_normal_form" 1 sp_u_normal_form) : DSs ⟨g, N_inverse, defScope s_inverse, 5⟩ (defBody s_inverse) f_inverse :=
    (dss_cons (ds_expr (de_call h_check_matrix (da_cons (de_var 0) da_nil)))
    (dss_cons (ds_asg (de_var 0) (dg_tup (n := 2) (dgs_cons (dg_tup (n := 2) (dgs_cons (dg_name 1 sc_inverse.nd) (dgs_cons (dg_name 2 sc_inverse.nd) dgs_nil))) (dgs_cons (dg_tup (n := 2) (dgs_cons (dg_name 3 sc_inverse.nd) (dgs_cons (dg_name 4 sc_inverse.nd) dgs_nil))) dgs_nil))))
    (dss_one (ds_ret (de_call h_u_normal_form (da_cons (de_tup (da_cons (de_tup (da_cons (de_var 4) (da_cons (de_neg (de_var 2)) da_nil))) (da_cons (de_tup (da_cons (de_neg (de_var 3)) (da_cons (de_var 1) da_nil))) da_nil))) da_nil))))))
def f_u_has_determinant_one : QS := (qSeq (qIfS (qOrT (qNotT (qTruth (qCallB (cIsi) (qCons (qVar 0) (qCons (qC (.ty "tuple")) qNil))))) (qOrT (qTest (qBin (opEq true) (qCallB (cLen) (qCons (qVar 0) qNil)) (qC (.int 2)))) (qOrT (qNotT (qTruth (qCall sp_is_pair (qCons (qBin opIx (qVar 0) (qC (.int 0))) qNil)))) (qNotT (qTruth (qCall sp_is_pair (qCons (qBin opIx (qVar 0) (qC (.int 1))) qNil))))))) (qRet (qC (.bl false))) qNext)
    (qSeq (qAsg (qVar 0) (gTupQ 2 (gsCons (gTupQ 2 (gsCons (gSet 1) (gsCons (gSet 2) gsNil))) (gsCons (gTupQ 2 (gsCons (gSet 3) (gsCons (gSet 4) gsNil))) gsNil))))
    (qRet (qBin (opEq false) (qBin opSub (qBin opMul (qVar 1) (qVar 4)) (qBin opMul (qVar 2) (qVar 3))) (qC (.int 1))))))
theorem dd_u_has_determinant_one {g : Glb} (h_is_pair : Has g "is_pair" 2 sp_is_pair) (z_isinstance : g.mg ("isinstance" : Str) = none) (z_len : g.mg ("len" : Str) = none) (z_tuple : g.mg ("tuple" : Str) = none) : DSs ⟨g, N_u_has_determinant_one, defScope s_u_has_determinant_one, 2⟩ (defBody s_u_has_determinant_one) f_u_has_determinant_one :=
    (dss_cons (ds_if (dt_w (dw_or (dt_not (dt_truth (de_callB cq_isi rfl z_isinstance bt_isinstance (da_cons (de_var 0) (da_cons (de_ty z_tuple rfl bt_tuple) da_nil))))) (dw_or (dt_cmp oq_ne (de_callB cq_len rfl z_len bt_len (da_cons (de_var 0) da_nil)) de_int (nomark _)) (dw_or (dt_not (dt_truth (de_call h_is_pair (da_cons (de_ix (de_var 0) de_int) da_nil)))) (dw_or1 (dt_not (dt_truth (de_call h_is_pair (da_cons (de_ix (de_var 0) de_int) da_nil))))))))) (dss_one (ds_ret de_bl)) dss_nil)
    (dss_cons (ds_asg (de_var 0) (dg_tup (n := 2) (dgs_cons (dg_tup (n := 2) (dgs_cons (dg_name 1 sc_u_has_determinant_one.nd) (dgs_cons (dg_name 2 sc_u_has_determinant_one.nd) dgs_nil))) (dgs_cons (dg_tup (n := 2) (dgs_cons (dg_name 3 sc_u_has_determinant_one.nd) (dgs_cons (dg_name 4 sc_u_has_determinant_one.nd) dgs_nil))) dgs_nil))))
    (dss_one (ds_ret (de_cmp oq_eq (de_bin oq_sub (de_bin oq_mul (de_var 1) (de_var 4)) (de_bin oq_mul (de_var 2) (de_var 3))) de_int (nomark _))))))
def f_u_normal_form : QS := (qSeq (qAsg (qVar 0) (gTupQ 2 (gsCons (gTupQ 2 (gsCons (gSet 1) (gsCons (gSet 2) gsNil))) (gsCons (gTupQ 2 (gsCons (gSet 3) (gsCons (gSet 4) gsNil))) gsNil))))
    (qSeq (qIfS (qOrT (qTest (qBin opLt (qVar 3) (qC (.int 0)))) (qAndT (qTest (qBin (opEq false) (qVar 3) (qC (.int 0)))) (qTest (qBin opLt (qVar 1) (qC (.int 0)))))) (qRet (qTup (qCons (qTup (qCons (qNeg (qVar 1)) (qCons (qNeg (qVar 2)) qNil))) (qCons (qTup (qCons (qNeg (qVar 3)) (qCons (qNeg (qVar 4)) qNil))) qNil)))) qNext)
    (qRet (qTup (qCons (qTup (qCons (qVar 1) (qCons (qVar 2) qNil))) (qCons (qTup (qCons (qVar 3) (qCons (qVar 4) qNil))) qNil))))))
theorem dd_u_normal_form {g : Glb}  : DSs ⟨g, N_u_normal_form, defScope s_u_normal_form, 0⟩ (defBody s_u_normal_form) f_u_normal_form :=
    (dss_cons (ds_asg (de_var 0) (dg_tup (n := 2) (dgs_cons (dg_tup (n := 2) (dgs_cons (dg_name 1 sc_u_normal_form.nd) (dgs_cons (dg_name 2 sc_u_normal_form.nd) dgs_nil))) (dgs_cons (dg_tup (n := 2) (dgs_cons (dg_name 3 sc_u_normal_form.nd) (dgs_cons (dg_name 4 sc_u_normal_form.nd) dgs_nil))) dgs_nil))))
    (dss_cons (ds_if (dt_w (dw_or (dt_cmp oq_lt (de_var 3) de_int (nomark _)) (dw_or1 (dt_w (dw_and (dt_cmp oq_eq (de_var 3) de_int (nomark _)) (dw_and1 (dt_cmp oq_lt (de_var 1) de_int (nomark _)))))))) (dss_one (ds_ret (de_tup (da_cons (de_tup (da_cons (de_neg (de_var 1)) (da_cons (de_neg (de_var 2)) da_nil))) (da_cons (de_tup (da_cons (de_neg (de_var 3)) (da_cons (de_neg (de_var 4)) da_nil))) da_nil))))) dss_nil)
    (dss_one (ds_ret (de_tup (da_cons (de_tup (da_cons (de_var 1) (da_cons (de_var 2) da_nil))) (da_cons (de_tup (da_cons (de_var 3) (da_cons (de_var 4) da_nil))) da_nil)))))))
def f_u_times : QS := (qSeq (qAsg (qVar 0) (gTupQ 2 (gsCons (gTupQ 2 (gsCons (gSet 2) (gsCons (gSet 3) gsNil))) (gsCons (gTupQ 2 (gsCons (gSet 4) (gsCons (gSet 5) gsNil))) gsNil))))
    (qSeq (qAsg (qVar 1) (gTupQ 2 (gsCons (gTupQ 2 (gsCons (gSet 6) (gsCons (gSet 7) gsNil))) (gsCons (gTupQ 2 (gsCons (gSet 8) (gsCons (gSet 9) gsNil))) gsNil))))
    (qRet (qTup (qCons (qTup (qCons (qBin opAdd (qBin opMul (qVar 2) (qVar 6)) (qBin opMul (qVar 3) (qVar 8))) (qCons (qBin opAdd (qBin opMul (qVar 2) (qVar 7)) (qBin opMul (qVar 3) (qVar 9))) qNil))) (qCons (qTup (qCons (qBin opAdd (qBin opMul (qVar 4) (qVar 6)) (qBin opMul (qVar 5) (qVar 8))) (qCons (qBin opAdd (qBin opMul (qVar 4) (qVar 7)) (qBin opMul (qVar 5) (qVar 9))) qNil))) qNil))))))
theorem dd_u_times {g : Glb}  : DSs ⟨g, N_u_times, defScope s_u_times, 0⟩ (defBody s_u_times) f_u_times :=
    (dss_cons (ds_asg (de_var 0) (dg_tup (n := 2) (dgs_cons (dg_tup (n := 2) (dgs_cons (dg_name 2 sc_u_times.nd) (dgs_cons (dg_name 3 sc_u_times.nd) dgs_nil))) (dgs_cons (dg_tup (n := 2) (dgs_cons (dg_name 4 sc_u_times.nd) (dgs_cons (dg_name 5 sc_u_times.nd) dgs_nil))) dgs_nil))))
    (dss_cons (ds_asg (de_var 1) (dg_tup (n := 2) (dgs_cons (dg_tup (n := 2) (dgs_cons (dg_name 6 sc_u_times.nd) (dgs_cons (dg_name 7 sc_u_times.nd) dgs_nil))) (dgs_cons (dg_tup (n := 2) (dgs_cons (dg_name 8 sc_u_times.nd) (dgs_cons (dg_name 9 sc_u_times.nd) dgs_nil))) dgs_nil))))
    (dss_one (ds_ret (de_tup (da_cons (de_tup (da_cons (de_bin oq_add (de_bin oq_mul (de_var 2) (de_var 6)) (de_bin oq_mul (de_var 3) (de_var 8))) (da_cons (de_bin oq_add (de_bin oq_mul (de_var 2) (de_var 7)) (de_bin oq_mul (de_var 3) (de_var 9))) da_nil))) (da_cons (de_tup (da_cons (de_bin oq_add (de_bin oq_mul (de_var 4) (de_var 6)) (de_bin oq_mul (de_var 5) (de_var 8))) (da_cons (de_bin oq_add (de_bin oq_mul (de_var 4) (de_var 7)) (de_bin oq_mul (de_var 5) (de_var 9))) da_nil))) da_nil)))))))
def f_L_source : QS := (qSeq (qAsg (qIf (qTest (qBin (opEq true) (qVar 0) (qLst qNil))) (qBin opIx (qVar 0) (qBin opMod (qVar 1) (qCallB (cLen) (qCons (qVar 0) qNil)))) (qC (.int 1))) (gSet 2))
    (qRet (qLstM (qCons (qVar 2) (qCons (qBin opMul (qC (.int 3)) (qVar 1)) (qCons (qIf (qTest (qBin opGe (qVar 2) (qBin opPow (qC (.int 10)) (qC (.int 18))))) (qBin opDiv (qVar 2) (qBin opPow (qC (.int 10)) (qC (.int 18)))) (qC (.int 0))) qNil))))))
theorem dd_L_source {g : Glb} (z_len : g.mg ("len" : Str) = none) : DSs ⟨g, N_L_source, defScope s_L_source, 0⟩ (defBody s_L_source) f_L_source :=
    (dss_cons (ds_set 2 sc_L_source.nd (de_if (dt_cmp oq_ne (de_var 0) (de_lst da_nil) (nomark _)) (de_ix (de_var 0) (de_bin oq_mod (de_var 1) (de_callB cq_len rfl z_len bt_len (da_cons (de_var 0) da_nil)))) de_int))
    (dss_one (ds_ret (de_lstM (da_cons (de_var 2) (da_cons (de_bin oq_mul de_int (de_var 1)) (da_cons (de_if (dt_cmp oq_ge (de_var 2) (de_bin oq_pow de_int de_int) (nomark _)) (de_bin oq_div (de_var 2) (de_bin oq_pow de_int de_int)) de_int) da_nil)))))))
def f_L_next : QS := (qSeq (qIfS (qTest (qBin opGt (qBin opIx (qVar 0) (qC (.int 2))) (qC (.int 0)))) (qSeq (qAsg (qBin opMod (qBin opIx (qVar 0) (qC (.int 2))) (qVar 1)) (gSet 2))
    (qSeq (qAsg (qBin opDiv (qBin opIx (qVar 0) (qC (.int 2))) (qVar 1)) (gItem (qVar 0) (qC (.int 2))))
    (qRet (qVar 2)))) qNext)
    (qSeq (qAsg (qBin opAdd (qBin opIx (qVar 0) (qC (.int 1))) (qC (.int 1))) (gItem (qVar 0) (qC (.int 1))))
    (qSeq (qAsg (qLst (qCons (qC (.int 2147483647)) (qCons (qC (.int 2147483629)) (qCons (qC (.int 2147483587)) (qCons (qC (.int 2147483579)) (qCons (qC (.int 2147483563)) (qCons (qC (.int 2147483549)) (qCons (qC (.int 2147483543)) (qCons (qC (.int 2147483497)) qNil))))))))) (gSet 3))
    (qSeq (qAsg (qBin opIx (qBin opAdd (qVar 3) (qLst (qCons (qC (.int 2147483489)) (qCons (qC (.int 2147483477)) (qCons (qC (.int 2147483423)) qNil))))) (qBin opMod (qBin opIx (qVar 0) (qC (.int 1))) (qC (.int 11)))) (gSet 4))
    (qRet (qBin opMod (qBin opDiv (qBin opMod (qBin opPow (qBin opAdd (qBin opAdd (qBin opMod (qBin opIx (qVar 0) (qC (.int 0))) (qVar 4)) (qBin opMul (qC (.int 7919)) (qBin opIx (qVar 0) (qC (.int 1))))) (qC (.int 1))) (qC (.int 5))) (qVar 4)) (qC (.int 13))) (qVar 1)))))))
theorem dd_L_next {g : Glb}  : DSs ⟨g, N_L_next, defScope s_L_next, 0⟩ (defBody s_L_next) f_L_next :=
    (dss_cons (ds_if (dt_cmp oq_gt (de_ix (de_var 0) de_int) de_int (nomark _)) (dss_cons (ds_set 2 sc_L_next.nd (de_bin oq_mod (de_ix (de_var 0) de_int) (de_var 1)))
    (dss_cons (ds_asg (de_bin oq_div (de_ix (de_var 0) de_int) (de_var 1)) (dg_item (de_var 0) de_int))
    (dss_one (ds_ret (de_var 2))))) dss_nil)
    (dss_cons (ds_asg (de_bin oq_add (de_ix (de_var 0) de_int) de_int) (dg_item (de_var 0) de_int))
    (dss_cons (ds_set 3 sc_L_next.nd (de_lst (da_cons de_int (da_cons de_int (da_cons de_int (da_cons de_int (da_cons de_int (da_cons de_int (da_cons de_int (da_cons de_int da_nil))))))))))
    (dss_cons (ds_set 4 sc_L_next.nd (de_ix (de_bin oq_add (de_var 3) (de_lst (da_cons de_int (da_cons de_int (da_cons de_int da_nil))))) (de_bin oq_mod (de_ix (de_var 0) de_int) de_int)))
    (dss_one (ds_ret (de_bin oq_mod (de_bin oq_div (de_bin oq_mod (de_bin oq_pow (de_bin oq_add (de_bin oq_add (de_bin oq_mod (de_ix (de_var 0) de_int) (de_var 4)) (de_bin oq_mul de_int (de_ix (de_var 0) de_int))) de_int) de_int) (de_var 4)) de_int) (de_var 1))))))))
def f_L_signed : QS := (qSeq (qAsg (qVar 0) (gTupQ 2 (gsCons (gTupQ 2 (gsCons (gSet 1) (gsCons (gSet 2) gsNil))) (gsCons (gTupQ 2 (gsCons (gSet 3) (gsCons (gSet 4) gsNil))) gsNil))))
    (qRet (qIf (qOrT (qTest (qBin opGt (qVar 3) (qC (.int 0)))) (qAndT (qTest (qBin (opEq false) (qVar 3) (qC (.int 0)))) (qTest (qBin opGt (qVar 1) (qC (.int 0)))))) (qTup (qCons (qTup (qCons (qVar 1) (qCons (qVar 2) qNil))) (qCons (qTup (qCons (qVar 3) (qCons (qVar 4) qNil))) qNil))) (qTup (qCons (qTup (qCons (qBin opSub (qC (.int 0)) (qVar 1)) (qCons (qBin opSub (qC (.int 0)) (qVar 2)) qNil))) (qCons (qTup (qCons (qBin opSub (qC (.int 0)) (qVar 3)) (qCons (qBin opSub (qC (.int 0)) (qVar 4)) qNil))) qNil))))))
theorem dd_L_signed {g : Glb}  : DSs ⟨g, N_L_signed, defScope s_L_signed, 0⟩ (defBody s_L_signed) f_L_signed :=
    (dss_cons (ds_asg (de_var 0) (dg_tup (n := 2) (dgs_cons (dg_tup (n := 2) (dgs_cons (dg_name 1 sc_L_signed.nd) (dgs_cons (dg_name 2 sc_L_signed.nd) dgs_nil))) (dgs_cons (dg_tup (n := 2) (dgs_cons (dg_name 3 sc_L_signed.nd) (dgs_cons (dg_name 4 sc_L_signed.nd) dgs_nil))) dgs_nil))))
    (dss_one (ds_ret (de_if (dt_w (dw_or (dt_cmp oq_gt (de_var 3) de_int (nomark _)) (dw_or1 (dt_w (dw_and (dt_cmp oq_eq (de_var 3) de_int (nomark _)) (dw_and1 (dt_cmp oq_gt (de_var 1) de_int (nomark _)))))))) (de_tup (da_cons (de_tup (da_cons (de_var 1) (da_cons (de_var 2) da_nil))) (da_cons (de_tup (da_cons (de_var 3) (da_cons (de_var 4) da_nil))) da_nil))) (de_tup (da_cons (de_tup (da_cons (de_bin oq_sub de_int (de_var 1)) (da_cons (de_bin oq_sub de_int (de_var 2)) da_nil))) (da_cons (de_tup (da_cons (de_bin oq_sub de_int (de_var 3)) (da_cons (de_bin oq_sub de_int (de_var 4)) da_nil))) da_nil)))))))
def f_L_times : QS := (qSeq (qAsg (qVar 0) (gTupQ 2 (gsCons (gTupQ 2 (gsCons (gSet 2) (gsCons (gSet 3) gsNil))) (gsCons (gTupQ 2 (gsCons (gSet 4) (gsCons (gSet 5) gsNil))) gsNil))))
    (qSeq (qAsg (qVar 1) (gTupQ 2 (gsCons (gTupQ 2 (gsCons (gSet 6) (gsCons (gSet 7) gsNil))) (gsCons (gTupQ 2 (gsCons (gSet 8) (gsCons (gSet 9) gsNil))) gsNil))))
    (qRet (qCall sp_L_signed (qCons (qTup (qCons (qTup (qCons (qBin opAdd (qBin opMul (qVar 2) (qVar 6)) (qBin opMul (qVar 3) (qVar 8))) (qCons (qBin opAdd (qBin opMul (qVar 2) (qVar 7)) (qBin opMul (qVar 3) (qVar 9))) qNil))) (qCons (qTup (qCons (qBin opAdd (qBin opMul (qVar 4) (qVar 6)) (qBin opMul (qVar 5) (qVar 8))) (qCons (qBin opAdd (qBin opMul (qVar 4) (qVar 7)) (qBin opMul (qVar 5) (qVar 9))) qNil))) qNil))) qNil)))))
theorem dd_L_times {g : Glb} (h_L_signed : Has g "_law_signed" 1 sp_L_signed) : DSs ⟨g, N_L_times, defScope s_L_times, 1⟩ (defBody s_L_times) f_L_times :=
    (dss_cons (ds_asg (de_var 0) (dg_tup (n := 2) (dgs_cons (dg_tup (n := 2) (dgs_cons (dg_name 2 sc_L_times.nd) (dgs_cons (dg_name 3 sc_L_times.nd) dgs_nil))) (dgs_cons (dg_tup (n := 2) (dgs_cons (dg_name 4 sc_L_times.nd) (dgs_cons (dg_name 5 sc_L_times.nd) dgs_nil))) dgs_nil))))
    (dss_cons (ds_asg (de_var 1) (dg_tup (n := 2) (dgs_cons (dg_tup (n := 2) (dgs_cons (dg_name 6 sc_L_times.nd) (dgs_cons (dg_name 7 sc_L_times.nd) dgs_nil))) (dgs_cons (dg_tup (n := 2) (dgs_cons (dg_name 8 sc_L_times.nd) (dgs_cons (dg_name 9 sc_L_times.nd) dgs_nil))) dgs_nil))))
    (dss_one (ds_ret (de_call h_L_signed (da_cons (de_tup (da_cons (de_tup (da_cons (de_bin oq_add (de_bin oq_mul (de_var 2) (de_var 6)) (de_bin oq_mul (de_var 3) (de_var 8))) (da_cons (de_bin oq_add (de_bin oq_mul (de_var 2) (de_var 7)) (de_bin oq_mul (de_var 3) (de_var 9))) da_nil))) (da_cons (de_tup (da_cons (de_bin oq_add (de_bin oq_mul (de_var 4) (de_var 6)) (de_bin oq_mul (de_var 5) (de_var 8))) (da_cons (de_bin oq_add (de_bin oq_mul (de_var 4) (de_var 7)) (de_bin oq_mul (de_var 5) (de_var 9))) da_nil))) da_nil))) da_nil))))))
def f_L_back : QS := (qSeq (qAsg (qVar 0) (gTupQ 2 (gsCons (gTupQ 2 (gsCons (gSet 1) (gsCons (gSet 2) gsNil))) (gsCons (gTupQ 2 (gsCons (gSet 3) (gsCons (gSet 4) gsNil))) gsNil))))
    (qRet (qCall sp_L_signed (qCons (qTup (qCons (qTup (qCons (qVar 4) (qCons (qBin opSub (qC (.int 0)) (qVar 2)) qNil))) (qCons (qTup (qCons (qBin opSub (qC (.int 0)) (qVar 3)) (qCons (qVar 1) qNil))) qNil))) qNil))))
theorem dd_L_back {g : Glb} (h_L_signed : Has g "_law_signed" 1 sp_L_signed) : DSs ⟨g, N_L_back, defScope s_L_back, 1⟩ (defBody s_L_back) f_L_back :=
    (dss_cons (ds_asg (de_var 0) (dg_tup (n := 2) (dgs_cons (dg_tup (n := 2) (dgs_cons (dg_name 1 sc_L_back.nd) (dgs_cons (dg_name 2 sc_L_back.nd) dgs_nil))) (dgs_cons (dg_tup (n := 2) (dgs_cons (dg_name 3 sc_L_back.nd) (dgs_cons (dg_name 4 sc_L_back.nd) dgs_nil))) dgs_nil))))
    (dss_one (ds_ret (de_call h_L_signed (da_cons (de_tup (da_cons (de_tup (da_cons (de_var 4) (da_cons (de_bin oq_sub de_int (de_var 2)) da_nil))) (da_cons (de_tup (da_cons (de_bin oq_sub de_int (de_var 3)) (da_cons (de_var 1) da_nil))) da_nil))) da_nil)))))
def f_L_of : QS := (qSeq (qIfS (qTest (qBin (opEq false) (qVar 0) (qC (.str "S")))) (qRet (qTup (qCons (qTup (qCons (qC (.int 0)) (qCons (qNeg (qC (.int 1))) qNil))) (qCons (qTup (qCons (qC (.int 1)) (qCons (qC (.int 0)) qNil))) qNil)))) qNext)
    (qRet (qIf (qTest (qBin (opEq false) (qVar 0) (qC (.str "R")))) (qTup (qCons (qTup (qCons (qC (.int 0)) (qCons (qNeg (qC (.int 1))) qNil))) (qCons (qTup (qCons (qC (.int 1)) (qCons (qC (.int 1)) qNil))) qNil))) (qTup (qCons (qTup (qCons (qNeg (qC (.int 1))) (qCons (qNeg (qC (.int 1))) qNil))) (qCons (qTup (qCons (qC (.int 1)) (qCons (qC (.int 0)) qNil))) qNil))))))
theorem dd_L_of {g : Glb}  : DSs ⟨g, N_L_of, defScope s_L_of, 0⟩ (defBody s_L_of) f_L_of :=
    (dss_cons (ds_if (dt_cmp oq_eq (de_var 0) de_str (nomark _)) (dss_one (ds_ret (de_tup (da_cons (de_tup (da_cons de_int (da_cons (de_neg de_int) da_nil))) (da_cons (de_tup (da_cons de_int (da_cons de_int da_nil))) da_nil))))) dss_nil)
    (dss_one (ds_ret (de_if (dt_cmp oq_eq (de_var 0) de_str (nomark _)) (de_tup (da_cons (de_tup (da_cons de_int (da_cons (de_neg de_int) da_nil))) (da_cons (de_tup (da_cons de_int (da_cons de_int da_nil))) da_nil))) (de_tup (da_cons (de_tup (da_cons (de_neg de_int) (da_cons (de_neg de_int) da_nil))) (da_cons (de_tup (da_cons de_int (da_cons de_int da_nil))) da_nil)))))))
def f_L_matrix : QS := (qSeq (qAsg (qTup (qCons (qTup (qCons (qC (.int 1)) (qCons (qC (.int 0)) qNil))) (qCons (qTup (qCons (qC (.int 0)) (qCons (qC (.int 1)) qNil))) qNil))) (gSet 1))
    (qSeq (qForT (qVar 0) (gSet 2) (qAsg (qCall sp_L_times (qCons (qVar 1) (qCons (qCall sp_L_of (qCons (qVar 2) qNil)) qNil))) (gSet 1)))
    (qRet (qVar 1))))
theorem dd_L_matrix {g : Glb} (h_L_times : Has g "_law_times" 2 sp_L_times) (h_L_of : Has g "_law_of" 1 sp_L_of) : DSs ⟨g, N_L_matrix, defScope s_L_matrix, 2⟩ (defBody s_L_matrix) f_L_matrix :=
    (dss_cons (ds_set 1 sc_L_matrix.nd (de_tup (da_cons (de_tup (da_cons de_int (da_cons de_int da_nil))) (da_cons (de_tup (da_cons de_int (da_cons de_int da_nil))) da_nil))))
    (dss_cons (ds_forT (de_var 0) (dg_name 2 sc_L_matrix.nd) (dss_one (ds_set 1 sc_L_matrix.nd (de_call h_L_times (da_cons (de_var 1) (da_cons (de_call h_L_of (da_cons (de_var 2) da_nil)) da_nil))))))
    (dss_one (ds_ret (de_var 1)))))
def f_L_text : QS := (qSeq (qAsg (qC (.str "")) (gSet 2))
    (qSeq (qForR (qCons (qVar 1) qNil) (gSet 3) (qSeq (qAsg (qBin opIx (qLst (qCons (qC (.str "R")) (qCons (qC (.str "r")) qNil))) (qCall sp_L_next (qCons (qVar 0) (qCons (qC (.int 2)) qNil)))) (gSet 4))
    (qIfS (qTest (qBin (opEq false) (qVar 2) (qC (.str "")))) (qAsg (qIf (qTest (qBin (opEq false) (qCall sp_L_next (qCons (qVar 0) (qCons (qC (.int 2)) qNil))) (qC (.int 0)))) (qC (.str "S")) (qVar 4)) (gSet 2)) (qAsg (qBin opAdd (qVar 2) (qIf (qTest (qBin (opEq false) (qBin opIx (qVar 2) (qNeg (qC (.int 1)))) (qC (.str "S")))) (qVar 4) (qC (.str "S")))) (gSet 2)))))
    (qRet (qVar 2))))
theorem dd_L_text {g : Glb} (h_L_next : Has g "_law_next" 1 sp_L_next) (z_range : g.mg ("range" : Str) = none) : DSs ⟨g, N_L_text, defScope s_L_text, 1⟩ (defBody s_L_text) f_L_text :=
    (dss_cons (ds_set 2 sc_L_text.nd de_str)
    (dss_cons (ds_forR rfl z_range (da_cons (de_var 1) da_nil) (dg_name 3 sc_L_text.nd) (dss_cons (ds_set 4 sc_L_text.nd (de_ix (de_lst (da_cons de_str (da_cons de_str da_nil))) (de_call h_L_next (da_cons (de_var 0) (da_cons de_int da_nil)))))
    (dss_one (ds_if (dt_cmp oq_eq (de_var 2) de_str (nomark _)) (dss_one (ds_set 2 sc_L_text.nd (de_if (dt_cmp oq_eq (de_call h_L_next (da_cons (de_var 0) (da_cons de_int da_nil))) de_int (nomark _)) de_str (de_var 4)))) (dss_one (ds_set 2 sc_L_text.nd (de_bin oq_add (de_var 2) (de_if (dt_cmp oq_eq (de_ix (de_var 2) (de_neg de_int)) de_str (nomark _)) (de_var 4) de_str))))))))
    (dss_one (ds_ret (de_var 2)))))
def f_L_drawn_matrix : QS := (qRet (qCall sp_L_matrix (qCons (qCall sp_L_text (qCons (qVar 0) (qCons (qCall sp_L_next (qCons (qVar 0) (qCons (qC (.int 15)) qNil))) qNil))) qNil)))
theorem dd_L_drawn_matrix {g : Glb} (h_L_next : Has g "_law_next" 1 sp_L_next) (h_L_matrix : Has g "_law_matrix" 3 sp_L_matrix) (h_L_text : Has g "_law_text" 2 sp_L_text) : DSs ⟨g, N_L_drawn_matrix, defScope s_L_drawn_matrix, 3⟩ (defBody s_L_drawn_matrix) f_L_drawn_matrix :=
    (dss_one (ds_ret (de_call h_L_matrix (da_cons (de_call h_L_text (da_cons (de_var 0) (da_cons (de_call h_L_next (da_cons (de_var 0) (da_cons de_int da_nil))) da_nil))) da_nil))))
def f_L_triple_right : QS := (qSeq (qPar 1 2 (qCons (qCall sp_L_drawn_matrix (qCons (qVar 0) qNil)) (qCons (qCall sp_L_drawn_matrix (qCons (qVar 0) qNil)) qNil)))
    (qSeq (qAsg (qCall sp_L_drawn_matrix (qCons (qVar 0) qNil)) (gSet 3))
    (qSeq (qPar 4 5 (qCons (qCall sp_product (qCons (qVar 1) (qCons (qVar 2) qNil))) (qCons (qCall sp_product (qCons (qVar 2) (qCons (qVar 3) qNil))) qNil)))
    (qSeq (qIfS (qTest (qBin (opEq true) (qLst (qCons (qVar 4) (qCons (qVar 5) (qCons (qCall sp_inverse (qCons (qVar 1) qNil)) qNil)))) (qLst (qCons (qCall sp_L_times (qCons (qVar 1) (qCons (qVar 2) qNil))) (qCons (qCall sp_L_times (qCons (qVar 2) (qCons (qVar 3) qNil))) (qCons (qCall sp_L_back (qCons (qVar 1) qNil)) qNil)))))) (qRet (qC (.bl false))) qNext)
    (qSeq (qAsg (qCall sp_L_times (qCons (qCall sp_L_times (qCons (qVar 1) (qCons (qVar 2) qNil))) (qCons (qVar 3) qNil))) (gSet 6))
    (qSeq (qIfS (qOrT (qTest (qBin (opEq true) (qLst (qCons (qCall sp_product (qCons (qVar 4) (qCons (qVar 3) qNil))) (qCons (qCall sp_product (qCons (qVar 1) (qCons (qVar 5) qNil))) (qCons (qCall sp_product (qCons (qVar 1) (qCons (qVar 2) (qCons (qVar 3) qNil)))) qNil)))) (qBin opMul (qLst (qCons (qVar 6) qNil)) (qC (.int 3))))) (qTest (qBin (opIs true) (qCall sp_is_matrix (qCons (qVar 6) qNil)) (qC (.bl true))))) (qRet (qC (.bl false))) qNext)
    (qSeq (qIfS (qTest (qBin (opEq true) (qLst (qCons (qCall sp_product qNil) (qCons (qCall sp_product (qCons (qVar 1) qNil)) (qCons (qCall sp_product (qCons (qVar 1) (qCons (qC (mat 1 0 0 1)) qNil))) (qCons (qCall sp_product (qCons (qC (mat 1 0 0 1)) (qCons (qVar 1) qNil))) qNil))))) (qLst (qCons (qC (mat 1 0 0 1)) (qCons (qVar 1) (qCons (qVar 1) (qCons (qVar 1) qNil))))))) (qRet (qC (.bl false))) qNext)
    (qSeq (qIfS (qOrT (qTest (qBin (opEq true) (qLst (qCons (qCall sp_product (qCons (qVar 1) (qCons (qCall sp_inverse (qCons (qVar 1) qNil)) qNil))) (qCons (qCall sp_product (qCons (qCall sp_inverse (qCons (qVar 1) qNil)) (qCons (qVar 1) qNil))) qNil))) (qLst (qCons (qC (mat 1 0 0 1)) (qCons (qC (mat 1 0 0 1)) qNil))))) (qTest (qBin (opEq true) (qCall sp_inverse (qCons (qCall sp_inverse (qCons (qVar 2) qNil)) qNil)) (qVar 2)))) (qRet (qC (.bl false))) qNext)
    (qRet (qBin (opEq false) (qCall sp_inverse (qCons (qVar 4) qNil)) (qCall sp_product (qCons (qCall sp_inverse (qCons (qVar 2) qNil)) (qCons (qCall sp_inverse (qCons (qVar 1) qNil)) qNil)))))))))))))
theorem dd_L_triple_right {g : Glb} (h_is_matrix : Has g "is_matrix" 4 sp_is_matrix) (h_product : Has g "product" 6 sp_product) (h_inverse : Has g "inverse" 6 sp_inverse) (h_L_times : Has g "_law_times" 2 sp_L_times) (h_L_back : Has g "_law_back" 2 sp_L_back) (h_L_drawn_matrix : Has g "_law_drawn_matrix" 4 sp_L_drawn_matrix) (hc_IDENTITY : HasC g "IDENTITY" (mat 1 0 0 1)) : DSs ⟨g, N_L_triple_right, defScope s_L_triple_right, 6⟩ (defBody s_L_triple_right) f_L_triple_right :=
    (dss_cons (ds_par (i := 1) (j := 2) sc_L_triple_right.nd rfl rfl (by decide) rfl rfl (da_cons (de_call h_L_drawn_matrix (da_cons (de_var 0) da_nil)) (da_cons (de_call h_L_drawn_matrix (da_cons (de_var 0) da_nil)) da_nil)) (by intro env h; obtain ⟨⟩ := env; dsimp only at h; subst h; rfl))
    (dss_cons (ds_set 3 sc_L_triple_right.nd (de_call h_L_drawn_matrix (da_cons (de_var 0) da_nil)))
    (dss_cons (ds_par (i := 4) (j := 5) sc_L_triple_right.nd rfl rfl (by decide) rfl rfl (da_cons (de_call h_product (da_cons (de_var 1) (da_cons (de_var 2) da_nil))) (da_cons (de_call h_product (da_cons (de_var 2) (da_cons (de_var 3) da_nil))) da_nil)) (by intro env h; obtain ⟨⟩ := env; dsimp only at h; subst h; rfl))
    (dss_cons (ds_if (dt_cmp oq_ne (de_lst (da_cons (de_var 4) (da_cons (de_var 5) (da_cons (de_call h_inverse (da_cons (de_var 1) da_nil)) da_nil)))) (de_lst (da_cons (de_call h_L_times (da_cons (de_var 1) (da_cons (de_var 2) da_nil))) (da_cons (de_call h_L_times (da_cons (de_var 2) (da_cons (de_var 3) da_nil))) (da_cons (de_call h_L_back (da_cons (de_var 1) da_nil)) da_nil)))) (nomark _)) (dss_one (ds_ret de_bl)) dss_nil)
    (dss_cons (ds_set 6 sc_L_triple_right.nd (de_call h_L_times (da_cons (de_call h_L_times (da_cons (de_var 1) (da_cons (de_var 2) da_nil))) (da_cons (de_var 3) da_nil))))
    (dss_cons (ds_if (dt_w (dw_or (dt_cmp oq_ne (de_lst (da_cons (de_call h_product (da_cons (de_var 4) (da_cons (de_var 3) da_nil))) (da_cons (de_call h_product (da_cons (de_var 1) (da_cons (de_var 5) da_nil))) (da_cons (de_call h_product (da_cons (de_var 1) (da_cons (de_var 2) (da_cons (de_var 3) da_nil)))) da_nil)))) (de_bin oq_mul (de_lst (da_cons (de_var 6) da_nil)) de_int) (nomark _)) (dw_or1 (dt_cmp oq_isnot (de_call h_is_matrix (da_cons (de_var 6) da_nil)) de_bl (nomark _))))) (dss_one (ds_ret de_bl)) dss_nil)
    (dss_cons (ds_if (dt_cmp oq_ne (de_lst (da_cons (de_call0 h_product) (da_cons (de_call h_product (da_cons (de_var 1) da_nil)) (da_cons (de_call h_product (da_cons (de_var 1) (da_cons (de_glob hc_IDENTITY rfl) da_nil))) (da_cons (de_call h_product (da_cons (de_glob hc_IDENTITY rfl) (da_cons (de_var 1) da_nil))) da_nil))))) (de_lst (da_cons (de_glob hc_IDENTITY rfl) (da_cons (de_var 1) (da_cons (de_var 1) (da_cons (de_var 1) da_nil))))) (nomark _)) (dss_one (ds_ret de_bl)) dss_nil)
    (dss_cons (ds_if (dt_w (dw_or (dt_cmp oq_ne (de_lst (da_cons (de_call h_product (da_cons (de_var 1) (da_cons (de_call h_inverse (da_cons (de_var 1) da_nil)) da_nil))) (da_cons (de_call h_product (da_cons (de_call h_inverse (da_cons (de_var 1) da_nil)) (da_cons (de_var 1) da_nil))) da_nil))) (de_lst (da_cons (de_glob hc_IDENTITY rfl) (da_cons (de_glob hc_IDENTITY rfl) da_nil))) (nomark _)) (dw_or1 (dt_cmp oq_ne (de_call h_inverse (da_cons (de_call h_inverse (da_cons (de_var 2) da_nil)) da_nil)) (de_var 2) (nomark _))))) (dss_one (ds_ret de_bl)) dss_nil)
    (dss_one (ds_ret (de_cmp oq_eq (de_call h_inverse (da_cons (de_var 4) da_nil)) (de_call h_product (da_cons (de_call h_inverse (da_cons (de_var 2) da_nil)) (da_cons (de_call h_inverse (da_cons (de_var 1) da_nil)) da_nil))) (nomark _))))))))))))
def f_law : QS := (qSeq (qForR (qCons (qCallB (cI2 maxI) (qCons (qC (.int 1)) (qCons (qCallB (cI2 minI) (qCons (qC (.int 3)) (qCons (qCallB (cLen) (qCons (qVar 0) qNil)) qNil))) qNil))) qNil) (gSet 1) (qSeq (qAsg (qCall sp_L_source (qCons (qVar 0) (qCons (qVar 1) qNil))) (gSet 2))
    (qForR (qCons (qC (.int 5)) qNil) (gSet 3) (qIfS (qNotT (qTruth (qCall sp_L_triple_right (qCons (qVar 2) qNil)))) (qRet (qC (.bl false))) qNext))))
    (qSeq (qAsg (qTup (qCons (qTup (qCons (qTup (qCons (qC (.int 0)) (qCons (qNeg (qC (.int 1))) qNil))) (qCons (qTup (qCons (qC (.int 1)) (qCons (qC (.int 0)) qNil))) qNil))) (qCons (qTup (qCons (qTup (qCons (qC (.int 0)) (qCons (qNeg (qC (.int 1))) qNil))) (qCons (qTup (qCons (qC (.int 1)) (qCons (qC (.int 1)) qNil))) qNil))) qNil))) (gTupQ 2 (gsCons (gSet 4) (gsCons (gSet 5) gsNil))))
    (qSeq (qIfS (qTest (qBin (opEq true) (qLst (qCons (qCall sp_product (qCons (qVar 4) (qCons (qVar 4) qNil))) (qCons (qCall sp_product (qCons (qVar 5) (qCons (qVar 5) (qCons (qVar 5) qNil)))) (qCons (qCall sp_product (qCons (qVar 4) (qCons (qVar 5) qNil))) qNil)))) (qLst (qCons (qC (mat 1 0 0 1)) (qCons (qC (mat 1 0 0 1)) (qCons (qTup (qCons (qTup (qCons (qC (.int 1)) (qCons (qC (.int 1)) qNil))) (qCons (qTup (qCons (qC (.int 0)) (qCons (qC (.int 1)) qNil))) qNil))) qNil)))))) (qRet (qC (.bl false))) qNext)
    (qSeq (qIfS (qTest (qBin (opEq true) (qCall sp_product (qCons (qVar 4) (qCons (qVar 5) (qCons (qVar 4) (qCons (qVar 5) (qCons (qVar 4) (qCons (qVar 5) (qCons (qVar 4) (qCons (qVar 5) (qCons (qVar 4) (qCons (qVar 5) qNil))))))))))) (qTup (qCons (qTup (qCons (qC (.int 1)) (qCons (qC (.int 5)) qNil))) (qCons (qTup (qCons (qC (.int 0)) (qCons (qC (.int 1)) qNil))) qNil))))) (qRet (qC (.bl false))) qNext)
    (qRet (qAndV (qBin (opEq false) (qCall sp_product (qCons (qVar 4) (qCons (qCall sp_inverse (qCons (qVar 5) qNil)) qNil))) (qTup (qCons (qTup (qCons (qC (.int 1)) (qCons (qC (.int 0)) qNil))) (qCons (qTup (qCons (qC (.int 1)) (qCons (qC (.int 1)) qNil))) qNil)))) (qBin (opEq false) (qCall sp_product (qCons (qVar 4) (qCons (qVar 5) (qCons (qVar 4) (qCons (qVar 5) (qCons (qVar 4) (qCons (qVar 5) qNil))))))) (qTup (qCons (qTup (qCons (qC (.int 1)) (qCons (qC (.int 3)) qNil))) (qCons (qTup (qCons (qC (.int 0)) (qCons (qC (.int 1)) qNil))) qNil))))))))))
theorem dd_law {g : Glb} (h_product : Has g "product" 6 sp_product) (h_inverse : Has g "inverse" 6 sp_inverse) (h_L_source : Has g "_law_source" 1 sp_L_source) (h_L_triple_right : Has g "_law_triple_right" 7 sp_L_triple_right) (hc_IDENTITY : HasC g "IDENTITY" (mat 1 0 0 1)) (z_len : g.mg ("len" : Str) = none) (z_max : g.mg ("max" : Str) = none) (z_min : g.mg ("min" : Str) = none) (z_range : g.mg ("range" : Str) = none) : DSs ⟨g, N_law, defScope s_law, 7⟩ (defBody s_law) f_law :=
    (dss_cons (ds_forR rfl z_range (da_cons (de_callB cq_max rfl z_max bt_max (da_cons de_int (da_cons (de_callB cq_min rfl z_min bt_min (da_cons de_int (da_cons (de_callB cq_len rfl z_len bt_len (da_cons (de_var 0) da_nil)) da_nil))) da_nil))) da_nil) (dg_name 1 sc_law.nd) (dss_cons (ds_set 2 sc_law.nd (de_call h_L_source (da_cons (de_var 0) (da_cons (de_var 1) da_nil))))
    (dss_one (ds_forR rfl z_range (da_cons de_int da_nil) (dg_name 3 sc_law.nd) (dss_one (ds_if (dt_not (dt_truth (de_call h_L_triple_right (da_cons (de_var 2) da_nil)))) (dss_one (ds_ret de_bl)) dss_nil))))))
    (dss_cons (ds_asg (de_tup (da_cons (de_tup (da_cons (de_tup (da_cons de_int (da_cons (de_neg de_int) da_nil))) (da_cons (de_tup (da_cons de_int (da_cons de_int da_nil))) da_nil))) (da_cons (de_tup (da_cons (de_tup (da_cons de_int (da_cons (de_neg de_int) da_nil))) (da_cons (de_tup (da_cons de_int (da_cons de_int da_nil))) da_nil))) da_nil))) (dg_tup (n := 2) (dgs_cons (dg_name 4 sc_law.nd) (dgs_cons (dg_name 5 sc_law.nd) dgs_nil))) (hw := (by intro env h; obtain ⟨⟩ := env; dsimp only at h; subst h; rfl)))
    (dss_cons (ds_if (dt_cmp oq_ne (de_lst (da_cons (de_call h_product (da_cons (de_var 4) (da_cons (de_var 4) da_nil))) (da_cons (de_call h_product (da_cons (de_var 5) (da_cons (de_var 5) (da_cons (de_var 5) da_nil)))) (da_cons (de_call h_product (da_cons (de_var 4) (da_cons (de_var 5) da_nil))) da_nil)))) (de_lst (da_cons (de_glob hc_IDENTITY rfl) (da_cons (de_glob hc_IDENTITY rfl) (da_cons (de_tup (da_cons (de_tup (da_cons de_int (da_cons de_int da_nil))) (da_cons (de_tup (da_cons de_int (da_cons de_int da_nil))) da_nil))) da_nil)))) (nomark _)) (dss_one (ds_ret de_bl)) dss_nil)
    (dss_cons (ds_if (dt_cmp oq_ne (de_call h_product (da_cons (de_var 4) (da_cons (de_var 5) (da_cons (de_var 4) (da_cons (de_var 5) (da_cons (de_var 4) (da_cons (de_var 5) (da_cons (de_var 4) (da_cons (de_var 5) (da_cons (de_var 4) (da_cons (de_var 5) da_nil))))))))))) (de_tup (da_cons (de_tup (da_cons de_int (da_cons de_int da_nil))) (da_cons (de_tup (da_cons de_int (da_cons de_int da_nil))) da_nil))) (nomark _)) (dss_one (ds_ret de_bl)) dss_nil)
    (dss_one (ds_ret (de_and (de_cmp oq_eq (de_call h_product (da_cons (de_var 4) (da_cons (de_call h_inverse (da_cons (de_var 5) da_nil)) da_nil))) (de_tup (da_cons (de_tup (da_cons de_int (da_cons de_int da_nil))) (da_cons (de_tup (da_cons de_int (da_cons de_int da_nil))) da_nil))) (nomark _)) (de_one (de_cmp oq_eq (de_call h_product (da_cons (de_var 4) (da_cons (de_var 5) (da_cons (de_var 4) (da_cons (de_var 5) (da_cons (de_var 4) (da_cons (de_var 5) da_nil))))))) (de_tup (da_cons (de_tup (da_cons de_int (da_cons de_int da_nil))) (da_cons (de_tup (da_cons de_int (da_cons de_int da_nil))) da_nil))) (nomark _))))))))))
end Q
namespace Q
open PySem PySem.Spec PyProof.Rows L2
theorem r_is_whole : BodyOk N_is_whole 1 sp_is_whole f_is_whole := by
  rintro xs M k ex ⟨v, rfl, h⟩
  refine ⟨rfl, ?_⟩
  cases v with
  | ty n => exact h.elim
  | _ => simp_all [f_is_whole, Tg.whole]
theorem r_u_normal_form : BodyOk N_u_normal_form 1 sp_u_normal_form f_u_normal_form := by
  rintro xs M k ex ⟨a, b, c, d, rfl, h⟩
  refine ⟨rfl, ?_⟩
  have h1 : (c < 0 ∨ c = 0 ∧ a < 0) → k (Mt.mk (-a) (-b) (-c) (-d)).pv M := fun z => by simpa only [Mt.nf, if_pos z, Mt.neg] using h
  have h2 : ¬ (c < 0 ∨ c = 0 ∧ a < 0) → k (Mt.mk a b c d).pv M := fun z => by simpa only [Mt.nf, if_neg z] using h
  simp [f_u_normal_form, sizeLine_eq, way] at h1 h2 ⊢
  grind
theorem r_u_times : BodyOk N_u_times 2 sp_u_times f_u_times := by
  rintro xs M k ex ⟨a, b, c, d, e, f, g, h, rfl, ⟨i, j, hi, hj, h0, h1, hz⟩, hk⟩
  refine ⟨rfl, ?_⟩
  have mo : ∀ {x y : Int}, x.natAbs < 2 ^ i → y.natAbs < 2 ^ j → MulOk x y := fun hx hy => MulOk.of hx hy h0 h1 (by omega)
  obtain ⟨a1, a2, a3, a4⟩ := hi
  obtain ⟨b1, b2, b3, b4⟩ := hj
  simp [f_u_times, sizeLine_eq, mo a1 b1, mo a1 b2, mo a2 b3, mo a2 b4, mo a3 b1, mo a3 b2, mo a4 b3, mo a4 b4]
  exact hk
theorem r_L_source : BodyOk N_L_source 2 sp_L_source f_L_source := by
  rintro xs M k ex ⟨ns, i, rfl, hl, h0, h1, h⟩
  refine ⟨rfl, ?_⟩
  have hd : DivOk 1000000000000000000 := DivOk.of (b := 100) (by decide) (by decide) (by decide) (by decide)
  have m3 : MulOk 3 i := MulOk.left (by decide)
  have fin : ∀ (z : Int) (a : Addr), M a = none → (way (decide (1000000000000000000 ≤ z)) (k (.ref a) (updM M a (.lst [.int z, .int (3 * i), .int (z / 1000000000000000000)]))) (k (.ref a) (updM M a (.lst [.int z, .int (3 * i), .int 0])))) := fun z a ha =>
    ⟨fun hz => h _ _ ha ⟨⟨_, _, _, updM_same, by omega, by omega, Int.ediv_nonneg (by simp at hz; omega) (by decide)⟩, fun b hb => updM_ne hb⟩, fun hz => h _ _ ha ⟨⟨_, _, _, updM_same, by omega, by omega, by omega⟩, fun b hb => updM_ne hb⟩⟩
  simp only [way, decide_eq_true_eq, decide_eq_false_iff_not, Int.not_le] at fin
  by_cases hne : ns = []
  · subst hne
    simp [f_L_source, sizeLine_eq, way, hd, m3, -List.map_nil]
    exact fun a ha => (fin 1 a ha).2 (by decide)
  · obtain ⟨y, hy⟩ := mod_at h0 hne
    have hp : 0 < (ns.length : Int) := by
      have : 0 < ns.length := List.length_pos_iff.mpr hne
      omega
    have he : ns.isEmpty = false := by cases ns <;> simp_all
    simp [f_L_source, sizeLine_eq, way, hd, m3, he, hy]
    exact ⟨by omega, fun hz a ha => (fin y a ha).1 hz, fun hz a ha => (fin y a ha).2 hz⟩
theorem r_L_next : BodyOk N_L_next 2 sp_L_next f_L_next := by
  rintro xs M k ex ⟨a, m, n, rfl, ⟨p, q, r, hM, hq, hqn, hr⟩, hn, hm0, hm1, h⟩
  refine ⟨rfl, ?_⟩
  have hd : DivOk m := DivOk.of (b := 100) hm0 (by omega) (by decide) (by decide)
  have hd13 : DivOk 13 := DivOk.of (b := 100) (by decide) (by decide) (by decide) (by decide)
  obtain ⟨P, hP, hP1, hP2⟩ := prime_at (i := (q + 1) % 11) (by omega) (by omega)
  have hlim : lim = 1000000000000 := rfl
  have z1 : 0 ≤ p % P := Int.emod_nonneg _ (by omega)
  have z2 : p % P < P := Int.emod_lt_of_pos _ (by omega)
  have m1 : MulOk 7919 (q + 1) := MulOk.left (by decide)
  have i1 : ixN 3 1 = some 1 := by decide
  have i2 : ixN 3 2 = some 2 := by decide
  have k1 : SrcUp M (updM M a (.lst [.int p, .int q, .int (r / m)])) a (n + 1) := ⟨⟨p, q, r / m, updM_same, hq, by omega, Int.ediv_nonneg hr (by omega)⟩, fun b hb => updM_ne hb⟩
  have k2 : SrcUp M (updM M a (.lst [.int p, .int (q + 1), .int r])) a (n + 1) := ⟨⟨p, q + 1, r, updM_same, by omega, by omega, hr⟩, fun b hb => updM_ne hb⟩
  simp [f_L_next, hM, i1, i2, sizeLine_eq, hP, hm0, hd, hd13, m1, way]
  refine ⟨fun h1 => h _ _ (Int.emod_nonneg _ (by omega)) (Int.emod_lt_of_pos _ hm0) k1, fun h1 => ⟨by omega, by omega, ?_⟩⟩
  exact ⟨by omega, h _ _ (Int.emod_nonneg _ (by omega)) (Int.emod_lt_of_pos _ hm0) k2⟩
theorem r_L_signed : BodyOk N_L_signed 1 sp_L_signed f_L_signed := by
  rintro xs M k ex ⟨a, b, c, d, rfl, h⟩
  refine ⟨rfl, ?_⟩
  have h1 : (0 < c ∨ c = 0 ∧ 0 < a) → k (Mt.mk a b c d).pv M := fun z => by simpa only [Mt.sg, if_pos z] using h
  have h2 : ¬ (0 < c ∨ c = 0 ∧ 0 < a) → k (Mt.mk (-a) (-b) (-c) (-d)).pv M := fun z => by simpa only [Mt.sg, if_neg z, Mt.neg] using h
  simp [f_L_signed, sizeLine_eq, way] at h1 h2 ⊢
  grind
theorem r_L_of : BodyOk N_L_of 1 sp_L_of f_L_of := by
  rintro xs M k ex ⟨l, rfl, h⟩
  refine ⟨rfl, ?_⟩
  cases l <;> simpa [f_L_of, sizeLine_eq, Ltr.pv, Ltr.code, Ltr.mt] using h
theorem r_is_pair : BodyOk N_is_pair 1 sp_is_pair f_is_pair := by
  rintro xs M k ex ⟨v, rfl, hf, h⟩
  refine ⟨rfl, ?_⟩
  rcases hf with hf | ⟨a, kvs, rfl, hM⟩
  rotate_left
  · simpa [f_is_pair, isRowV, way, hM] using h
  cases v with
  | tup xs =>
    rcases xs with _ | ⟨x, _ | ⟨y, _ | ⟨z, r⟩⟩⟩
    · simpa [f_is_pair, isRowV, way] using h
    · simpa [f_is_pair, isRowV, way] using h
    · simp [fineR] at hf
      simp [f_is_pair, way, atI, ixN]
      refine whole_of hf.1 (.intro (fun z => ?_) (fun z => ?_))
      · exact whole_of hf.2 (by simpa [isRowV, z] using h)
      · simpa [isRowV, z] using h
    · have ne : ¬ ((r.length : Int) + 1 + 1 + 1 = 2) := by omega
      simp [f_is_pair, way, ne]
      exact h
  | ty n => cases hf
  | ref n => cases hf
  | _ => simpa [f_is_pair, isRowV] using h
theorem r_L_times : BodyOk N_L_times 2 sp_L_times f_L_times := by
  rintro xs M k ex ⟨a, b, c, d, e, f, g, h, rfl, ⟨i, j, hi, hj, h0, h1, hz⟩, hk⟩
  refine ⟨rfl, ?_⟩
  have mo : ∀ {x y : Int}, x.natAbs < 2 ^ i → y.natAbs < 2 ^ j → MulOk x y := fun hx hy => MulOk.of hx hy h0 h1 (by omega)
  obtain ⟨a1, a2, a3, a4⟩ := hi
  obtain ⟨b1, b2, b3, b4⟩ := hj
  simp [f_L_times, sizeLine_eq, mo a1 b1, mo a1 b2, mo a2 b3, mo a2 b4, mo a3 b1, mo a3 b2, mo a4 b3, mo a4 b4, sp_L_signed]
  exact ⟨_, _, _, _, ⟨⟨rfl, rfl⟩, rfl, rfl⟩, hk⟩
theorem r_L_back : BodyOk N_L_back 1 sp_L_back f_L_back := by
  rintro xs M k ex ⟨a, b, c, d, rfl, h⟩
  refine ⟨rfl, ?_⟩
  simp [f_L_back, sizeLine_eq, sp_L_signed]
  exact ⟨_, _, _, _, ⟨⟨rfl, rfl⟩, rfl, rfl⟩, h⟩
theorem r_L_text : BodyOk N_L_text 2 sp_L_text f_L_text := by
  rintro xs M k ex ⟨a, s, n, rfl, hS, h0, h1, hn, h⟩
  refine ⟨rfl, ?_⟩
  simp [f_L_text, sizeLine_eq, way]
  refine ⟨⟨by omega, by omega⟩, fun i τ M' => ∃ u x y, isW u = true ∧ u.length = i ∧ SrcUp M M' a (n + 2 * i) ∧ τ = [some (.ref a), some (.int s), some (.str (wstr u)), x, y], ⟨[], none, none, rfl, rfl, SrcUp.refl hS, rfl⟩, ?_, ?_⟩
  · rintro i τ M' hi ⟨u, x, y, hu, hlen, hup, rfl⟩
    simp [sizeLine_eq]
    refine ⟨a, 2, _, rfl, hup.1, by unfold lim at *; omega, by decide, by decide, fun r M1 hr0 hr1 hup1 => ?_⟩
    obtain ⟨t, ht, htS⟩ : ∃ t : Ltr, atI [PV.str ⟨#[82]⟩, PV.str ⟨#[114]⟩] r = some t.pv ∧ t ≠ .S := by
      rcases (show r = 0 ∨ r = 1 by omega) with e | e <;> subst e
      · exact ⟨.R, rfl, by decide⟩
      · exact ⟨.r, rfl, by decide⟩
    rcases List.eq_nil_or_concat u with e | ⟨v, z, e⟩
    · subst e
      simp only [List.length_nil] at hlen
      subst hlen
      simp [ht, wstr_nil, sizeLine_eq]
      refine ⟨a, 2, _, rfl, hup1.1, by unfold lim at *; omega, by decide, by decide, fun r2 M2 hr20 hr21 hup2 => ?_⟩
      simp
      have fin : ∀ l : Ltr, ∃ u x_1 y, isW u = true ∧ u.length = 1 ∧ SrcUp M M2 a (n + 2 * 1) ∧ [some (PV.ref a), some (PV.int s), some l.pv, some (PV.int (0 : Int)), some t.pv] = [some (PV.ref a), some (PV.int s), some (PV.str (wstr u)), x_1, y] := fun l =>
        ⟨[l], _, _, rfl, rfl, ((hup.trans hup1).trans hup2).mono (by omega), rfl⟩
      exact ⟨fun _ => by simpa [Ltr.pv, Ltr.code] using fin .S, fun _ => by simpa [Ltr.pv] using fin t⟩
    · rw [List.concat_eq_append] at e
      subst e
      have hne : ((wstr (v ++ [z])) == (⟨#[]⟩ : Str)) = false := by
        have : wstr (v ++ [z]) = ⟨((v ++ [z]).map Ltr.code).toArray⟩ := rfl
        rw [this, str_eq]
        simp
      have hsz := wstr_size (v ++ [z])
      simp only [List.length_append, List.length_singleton] at hlen hsz
      simp [ht, hne, wstr_last, sizeLine_eq]
      have hle : (wstr (v ++ [z])).length ≤ 16777216 := by
        have := wstr_size (v ++ [z]); simp [Str.length] at *; omega
      refine ⟨hle, ?_⟩
      have sn : ∀ l : Ltr, Ltr.fits z l = true → ∃ u, isW u = true ∧ u.length = i + 1 ∧ SrcUp M M1 a (n + 2 * (i + 1)) ∧ wstr (v ++ [z]) ++ (⟨#[l.code]⟩ : Str) = wstr u := fun l hl =>
        ⟨v ++ [z] ++ [l], isW_snoc hu (by simpa using hl), by simp [hlen], (hup.trans hup1).mono (by omega), wstr_snoc _ _⟩
      have szl : ∀ l : Ltr, (wstr (v ++ [z])).length + (⟨#[l.code]⟩ : Str).length ≤ 16777216 := fun l => by
        rw [hsz]; have : (⟨#[l.code]⟩ : Str).length = 1 := rfl
        omega
      constructor
      · intro hz
        have hzS : z = .S := by cases z <;> simp [Ltr.code] at hz ⊢
        subst hzS
        have hf : Ltr.fits .S t = true := by cases t <;> simp_all [Ltr.fits]
        obtain ⟨u, h1, h2, h3, h4⟩ := sn t hf
        simp [Ltr.pv, sizeLine_eq]
        exact ⟨by have := szl t; simpa using this, u, h1, h2, h3, h4⟩
      · intro hz
        have hzS : z ≠ .S := by rintro rfl; simp [Ltr.code] at hz
        have hf : Ltr.fits z .S = true := by cases z <;> simp_all [Ltr.fits]
        exact ⟨szl .S, sn .S hf⟩
  · rintro τ M' ⟨u, x, y, hu, hlen, hup, rfl⟩
    simpa [wpv] using h u M' hu hlen hup
theorem r_u_has_determinant_one : BodyOk N_u_has_determinant_one 1 sp_u_has_determinant_one f_u_has_determinant_one := by
  rintro xs M k ex ⟨v, rfl, hf, hr, h⟩
  refine ⟨rfl, ?_⟩
  cases v with
  | tup xs =>
    rcases xs with _ | ⟨x, _ | ⟨y, _ | ⟨z, r⟩⟩⟩
    · simpa [f_u_has_determinant_one, way, hasDet, asMt] using h
    · simpa [f_u_has_determinant_one, way, hasDet, asMt] using h
    · simp [fineV] at hf
      simp [f_u_has_determinant_one, way, atI, ixN]
      refine row_of hf.1 ⟨fun z => ?_, fun z => row_of hf.2 ⟨fun z2 => ?_, fun z2 => ?_⟩⟩
      · simpa [hasDet, asMt_row (.inl z)] using h
      · simpa [hasDet, asMt_row (.inr z2)] using h
      · obtain ⟨a, b, rfl⟩ := isRow_iff z
        obtain ⟨c, d, rfl⟩ := isRow_iff z2
        obtain ⟨n, ⟨h1, h2, h3, h4⟩, h0, hn⟩ := hr ⟨a, b, c, d⟩ rfl
        have mo : ∀ {x y : Int}, x.natAbs < 2 ^ n → y.natAbs < 2 ^ n → MulOk x y := fun hx hy => MulOk.of hx hy h0 h0 (by omega)
        simp [mo h1 h4, mo h2 h3]
        exact h
    · have e : hasDet (.tup (x :: y :: z :: r)) = false := by simp [hasDet, asMt]
      rw [e] at h
      have ne : ¬ ((r.length : Int) + 1 + 1 + 1 = 2) := by omega
      simp [f_u_has_determinant_one, way, ne]
      exact h
  | ty n => cases hf
  | ref n => cases hf
  | _ => simpa [f_u_has_determinant_one, hasDet, asMt] using h
theorem r_L_matrix : BodyOk N_L_matrix 1 sp_L_matrix f_L_matrix := by
  rintro xs M k ex ⟨w, rfl, hl, h⟩
  refine ⟨rfl, ?_⟩
  simp [f_L_matrix, sizeLine_eq, way, wpv]
  refine ⟨fun i τ M' => M' = M ∧ ∃ x, τ = [some (wpv w), some (wmt (w.take i)).pv, x], ⟨rfl, none, rfl⟩, ?_, ?_⟩
  · rintro i c τ M' hc ⟨rfl, x, rfl⟩
    obtain ⟨l, h1, rfl⟩ := wstr_get hc
    have ht : w.take (i + 1) = w.take i ++ [l] := by rw [List.take_add_one, h1]; rfl
    simp [wpv]
    refine ⟨l, rfl, ?_⟩
    refine ⟨_, _, _, _, _, _, _, _, rfl, ⟨2 * (w.take i).length + 1, 1, wmt_bd _, lt_bd l, by omega, by decide, by simp; omega⟩, ?_⟩
    rw [ht, wmt_snoc]
    exact ⟨rfl, rfl⟩
  · rintro τ M' ⟨rfl, x, rfl⟩
    rw [wstr_len, List.take_length]
    simpa using h
theorem r_is_matrix : BodyOk N_is_matrix 1 sp_is_matrix f_is_matrix := by
  rintro xs M k ex ⟨v, rfl, hf, hr, h⟩
  refine ⟨rfl, ?_⟩
  simp [f_is_matrix, way]
  refine ⟨v, rfl, hf, hr, ?_⟩
  simp only [truthP_s2]
  refine ⟨fun hd => ?_, fun hd => ?_⟩
  · unfold hasDet at hd
    split at hd
    · rename_i m hm
      unfold asMt at hm
      split at hm
      · cases hm
        rename_i a b c d
        refine ⟨a, b, c, d, rfl, ?_⟩
        simp [opEq, datM, dat, datL, PyData.depth, PyData.depthAll, PyData.eqv, PyData.eqvAll, Bool.beq_eq_decide_eq]
        have hdm : (Mt.mk a b c d).det = 1 := of_decide_eq_true hd
        have e : isMat (.tup [.tup [.int a, .int b], .tup [.int c, .int d]]) = (decide ((Mt.mk a b c d).nf.a = a) && decide ((Mt.mk a b c d).nf.b = b) && (decide ((Mt.mk a b c d).nf.c = c) && decide ((Mt.mk a b c d).nf.d = d))) := by
          show (decide ((Mt.mk a b c d).det = 1) && decide ((Mt.mk a b c d).nf = Mt.mk a b c d)) = _
          rw [hdm]
          generalize (Mt.mk a b c d).nf = m
          cases m
          simp [Bool.and_assoc]
        rw [e] at h
        exact h
      · cases hm
    · cases hd
  · have e : isMat v = false := by
      unfold isMat hasDet at *
      split <;> simp_all
    rw [e] at h
    rw [hd]
    exact h
theorem r_L_drawn_matrix : BodyOk N_L_drawn_matrix 1 sp_L_drawn_matrix f_L_drawn_matrix := by
  rintro xs M k ex ⟨a, n, rfl, hS, hn, h⟩
  refine ⟨rfl, ?_⟩
  simp [f_L_drawn_matrix, -Mt.pv, -mat]
  refine ⟨a, 15, n, rfl, hS, by omega, by decide, by decide, fun r M1 h0 h1 up => ?_⟩
  simp [-Mt.pv, -mat]
  refine ⟨a, r, n + 1, rfl, up.1, h0, by omega, by omega, fun w M2 hw hl up2 => ?_⟩
  simp [-Mt.pv, -mat]
  refine ⟨w, rfl, by omega, ?_⟩
  exact h _ _ (wmt_ok w) ((wmt_bd w).mono (by omega)) ((up.trans up2).mono (by omega))
theorem r_check_matrix : BodyOk N_check_matrix 1 sp_check_matrix f_check_matrix := by
  rintro xs M k ex ⟨v, rfl, hf, hr, hm, h⟩
  refine ⟨rfl, ?_⟩
  simp [f_check_matrix]
  refine ⟨v, rfl, hf, hr, ?_⟩
  rw [hm]
  simpa [way] using h
theorem r_product : BodyOkS N_product 0 sp_product f_product := by
  rintro xs M k ex ⟨ms, rfl, hl, ⟨n, h0, hn, hm⟩, h⟩
  refine ⟨[], _, rfl, rfl, by rw [List.length_map, sizeLine_eq]; omega, ?_⟩
  have get : ∀ {i : Nat} {x : PV}, (ms.map Mt.pv)[i]? = some x → ∃ m, ms[i]? = some m ∧ m ∈ ms ∧ x = m.pv := fun h => by
    rw [List.getElem?_map] at h
    obtain ⟨m, h1, h2⟩ := Option.map_eq_some_iff.mp h
    exact ⟨m, h1, List.mem_of_getElem? h1, h2.symm⟩
  have hn4 : n ≤ 400000 := by
    have : 1 * (n + 1) ≤ (ms.length + 1) * (n + 1) := Nat.mul_le_mul_right _ (by omega)
    omega
  have tk : ∀ i, i ≤ ms.length → (1 + (ms.take i).length * (n + 1)) ≤ 400000 := fun i hi => by
    have : ((ms.take i).length) * (n + 1) ≤ ms.length * (n + 1) := Nat.mul_le_mul_right _ (by simp; omega)
    rw [Nat.add_mul] at hn
    omega
  simp [f_product, -Mt.pv, -mat, sizeLine_eq, qFor]
  refine ⟨fun i τ M' => M' = M ∧ ∃ x, τ = [some (.tup (ms.map Mt.pv)), x, none], ⟨rfl, _, rfl⟩, ?_, ?_⟩
  · rintro i x τ M' m hi rfl ⟨rfl, y, rfl⟩
    have hx := hm m (List.mem_of_getElem? hi)
    exact ⟨_, rfl, fine_mat, room_mat (a := m.a) (b := m.b) (c := m.c) (d := m.d) hx.2 h0 hn4, isMat_ok (a := m.a) (b := m.b) (c := m.c) (d := m.d) hx.1, rfl, _, rfl⟩
  · rintro τ M' ⟨rfl, y, rfl⟩
    show ∃ W, _
    refine ⟨fun i τ M2 => M2 = M' ∧ ∃ x, τ = [some (.tup (ms.map Mt.pv)), x, some ((ms.take i).foldl Mt.mul Mt.one).pv], ⟨rfl, _, rfl⟩, ?_, ?_, ?_⟩
    · intros; trivial
    · rintro i x τ M' hi ⟨rfl, y, rfl⟩
      obtain ⟨m, h1, h2, rfl⟩ := get hi
      have lt : i < ms.length := (List.getElem?_eq_some_iff.mp h1).1
      have hb := fold_bd (n := n) (ms := ms.take i) (m := Mt.one) (i := 1) (fun x hx => (hm x (List.mem_of_mem_take hx)).2) Mt.one_bd
      have e : (ms.take (i + 1)).foldl Mt.mul Mt.one = ((ms.take i).foldl Mt.mul Mt.one).mul m := by
        rw [List.take_add_one, h1]
        simp [List.foldl_append]
      refine ⟨_, _, _, _, m.a, m.b, m.c, m.d, rfl, ⟨_, _, hb, (hm m h2).2, by omega, h0, ?_⟩, ?_⟩
      · have := tk i (by omega)
        omega
      · refine ⟨rfl, some m.pv, ?_⟩
        rw [e]
        rfl
    · rintro τ M' ⟨rfl, y, rfl⟩
      refine ⟨_, _, _, _, rfl, ?_⟩
      simp only [List.length_map, List.take_length]
      exact h
theorem r_inverse : BodyOk N_inverse 1 sp_inverse f_inverse := by
  rintro xs M k ex ⟨a, b, c, d, rfl, hok, ⟨n, hb, h0, hn⟩, h⟩
  refine ⟨rfl, ?_⟩
  simp [f_inverse, sizeLine_eq]
  refine ⟨_, rfl, fine_mat, room_mat hb h0 hn, isMat_ok hok, ?_⟩
  simp [sizeLine_eq]
  exact ⟨_, _, _, _, rfl, h⟩
theorem r_L_triple_right : BodyOk N_L_triple_right 1 sp_L_triple_right f_L_triple_right := by
  rintro xs M k ex ⟨a, n, rfl, hS, hn, h⟩
  refine ⟨rfl, ?_⟩
  simp [f_L_triple_right, -Mt.pv, -mat]
  refine ⟨a, n, rfl, hS, by omega, fun x M1 hx hxb u1 => ?_⟩
  try simp [-Mt.pv, -mat]
  refine ⟨a, _, rfl, u1.1, by omega, fun y M2 hy hyb u2 => ?_⟩
  try simp [-Mt.pv, -mat]
  refine ⟨a, _, rfl, u2.1, by omega, fun z M3 hz hzb u3 => ?_⟩
  have up := (u1.trans u2).trans u3
  have X : x.ok ∧ x.bd 100 := ⟨hx, hxb.mono (by omega)⟩
  have Y : y.ok ∧ y.bd 100 := ⟨hy, hyb.mono (by omega)⟩
  have Z : z.ok ∧ z.bd 100 := ⟨hz, hzb.mono (by omega)⟩
  have XY : (x.mul y).nf.ok ∧ (x.mul y).nf.bd 100 := ⟨Mt.ok_nf (Mt.det1_mul hx.1 hy.1), (hxb.mul hyb).nf.mono (by omega)⟩
  have YZ : (y.mul z).nf.ok ∧ (y.mul z).nf.bd 100 := ⟨Mt.ok_nf (Mt.det1_mul hy.1 hz.1), (hyb.mul hzb).nf.mono (by omega)⟩
  have AX : x.adj.nf.ok ∧ x.adj.nf.bd 100 := ⟨Mt.ok_nf (by rw [Mt.det_adj]; exact hx.1), hxb.adj.nf.mono (by omega)⟩
  have AY : y.adj.nf.ok ∧ y.adj.nf.bd 100 := ⟨Mt.ok_nf (by rw [Mt.det_adj]; exact hy.1), hyb.adj.nf.mono (by omega)⟩
  have XYZ : ((x.mul y).mul z).nf.ok := Mt.ok_nf (Mt.det1_mul (Mt.det1_mul hx.1 hy.1) hz.1)
  have e1 : ((x.mul y).nf.mul z).nf = ((x.mul y).mul z).nf := Mt.nf_mul_l (Mt.det1_mul hx.1 hy.1) hz.1
  have e2 : (x.mul (y.mul z).nf).nf = ((x.mul y).mul z).nf := by rw [Mt.nf_mul_r hx.1 (Mt.det1_mul hy.1 hz.1), Mt.mul_assoc]
  have I : Mt.one.ok ∧ Mt.one.bd 100 := ⟨Mt.one_ok, Mt.one_bd.mono (by omega)⟩
  have e3 : (x.mul x.adj.nf).nf = Mt.one := by rw [Mt.nf_mul_r hx.1 (by rw [Mt.det_adj]; exact hx.1), Mt.mul_adj _ hx.1]; rfl
  have e4 : (x.adj.nf.mul x).nf = Mt.one := by rw [Mt.nf_mul_l (by rw [Mt.det_adj]; exact hx.1) hx.1, Mt.adj_mul _ hx.1]; rfl
  have e5 : y.adj.nf.adj.nf = y := by rw [Mt.nf_adj (by rw [Mt.det_adj]; exact hy.1), Mt.adj_adj, Mt.nf_ok hy]
  have e6 : (x.mul y).nf.adj.nf = (y.adj.nf.mul x.adj.nf).nf := by
    have dx : x.adj.det = 1 := by rw [Mt.det_adj]; exact hx.1
    have dy : y.adj.det = 1 := by rw [Mt.det_adj]; exact hy.1
    rw [Mt.nf_adj (Mt.det1_mul hx.1 hy.1), Mt.adj_mul_rev, Mt.nf_mul_l dy (Mt.ok_nf dx).1, Mt.nf_mul_r dy dx]
  have n0 : ([].foldl Mt.mul Mt.one).nf = Mt.one := rfl
  have n1 : ([x].foldl Mt.mul Mt.one).nf = x := by simp [Mt.one_mul, Mt.nf_ok hx]
  have n2 : ([x, Mt.one].foldl Mt.mul Mt.one).nf = x := by simp [Mt.one_mul, Mt.mul_one, Mt.nf_ok hx]
  have n3 : ([Mt.one, x].foldl Mt.mul Mt.one).nf = x := by simp [Mt.one_mul, Mt.nf_ok hx]
  try simp [-Mt.pv, -mat]
  refine prod_of (ms := [x, y]) (by simp) (by simp [X, Y]) ?_
  try simp [-Mt.pv, -mat]
  refine prod_of (ms := [y, z]) (by simp) (by simp [Y, Z]) ?_
  try simp [-Mt.pv, -mat, Mt.one_mul]
  refine inv_of X ?_
  try simp [-Mt.pv, -mat, sizeLine_eq]
  refine ltimes_of X Y ?_
  try simp [-Mt.pv, -mat]
  refine ltimes_of Y Z ?_
  try simp [-Mt.pv, -mat]
  refine lback_of hx ?_
  try simp [-Mt.pv, -mat, sizeLine_eq]
  refine opEq_mats [(x.mul y).nf, (y.mul z).nf, x.adj.nf] [(x.mul y).nf, (y.mul z).nf, x.adj.nf] ?_
  try simp [-Mt.pv, -mat, way]
  refine ltimes_of X Y ?_
  try simp [-Mt.pv, -mat]
  refine ltimes_of XY Z ?_
  rw [e1]
  try simp [-Mt.pv, -mat]
  refine prod_of (ms := [(x.mul y).nf, z]) (by simp) (by simp [XY, Z]) ?_
  try simp [-Mt.pv, -mat, Mt.one_mul, e1]
  refine prod_of (ms := [x, (y.mul z).nf]) (by simp) (by simp [X, YZ]) ?_
  try simp [-Mt.pv, -mat, Mt.one_mul, e2]
  refine prod_of (ms := [x, y, z]) (by simp) (by simp [X, Y, Z]) ?_
  try simp [-Mt.pv, -mat, Mt.one_mul, sizeLine_eq]
  have one_pv : (mat 1 0 0 1) = Mt.one.pv := rfl
  refine opEq_mats [((x.mul y).mul z).nf, ((x.mul y).mul z).nf, ((x.mul y).mul z).nf] [((x.mul y).mul z).nf, ((x.mul y).mul z).nf, ((x.mul y).mul z).nf] ?_
  simp [-Mt.pv, -mat]
  refine ⟨((x.mul y).mul z).nf.pv, rfl, fine_mat, room_mat (n := 200) (((hxb.mul hyb).mul hzb).nf.mono (by omega)) (by omega) (by omega), ?_⟩
  rw [show isMat ((x.mul y).mul z).nf.pv = true from isMat_ok XYZ]
  simp only [one_pv]
  simp [-Mt.pv, -mat]
  refine prod_of (ms := []) (by simp) (by simp) ?_
  rw [n0]
  refine prod_of (ms := [x]) (by simp) (by simp [X]) ?_
  rw [n1]
  refine prod_of (ms := [x, Mt.one]) (by simp) (by simp [X, I]) ?_
  rw [n2]
  refine prod_of (ms := [Mt.one, x]) (by simp) (by simp [X, I]) ?_
  rw [n3]
  refine opEq_mats [Mt.one, x, x, x] [Mt.one, x, x, x] ?_
  simp [-Mt.pv, -mat]
  refine inv_of X (prod_of (ms := [x, x.adj.nf]) (by simp) (by simp [X, AX]) ?_)
  simp [-Mt.pv, -mat, Mt.one_mul, e3]
  refine inv_of X (prod_of (ms := [x.adj.nf, x]) (by simp) (by simp [X, AX]) ?_)
  simp [-Mt.pv, -mat, Mt.one_mul, e4]
  refine opEq_mats [Mt.one, Mt.one] [Mt.one, Mt.one] ?_
  simp [-Mt.pv, -mat]
  refine inv_of Y (inv_of AY ?_)
  rw [e5]
  refine opEq_mat ?_
  simp [-Mt.pv, -mat]
  refine inv_of XY ?_
  refine inv_of Y ?_
  refine inv_of X ?_
  refine prod_of (ms := [y.adj.nf, x.adj.nf]) (by simp) (by simp [AY, AX]) ?_
  simp only [List.foldl, Mt.one_mul]
  rw [e6]
  refine opEq_mat ?_
  simp [-Mt.pv, -mat]
  exact h _ (up.mono (by omega))
theorem r_law : BodyOk N_law 1 spLaw f_law := by
  rintro xs M k ex ⟨ns, rfl, hl, hb, h⟩
  refine ⟨rfl, ?_⟩
  have hc : 1 ≤ maxI 1 (minI 3 (ns.length : Int)) ∧ maxI 1 (minI 3 (ns.length : Int)) ≤ 3 := by unfold maxI minI; split <;> split <;> omega
  simp [f_law, -Mt.pv, -mat, sizeLine_eq]
  refine ⟨by unfold rngB; omega, fun i τ M' => ∃ x y z, τ = [some (.rdl (ns.map .int)), x, y, z, none, none], ⟨_, _, _, rfl⟩, ?_, ?_⟩
  · rintro i τ M' hi ⟨x, y, z, rfl⟩
    simp [-Mt.pv, -mat]
    refine ⟨ns, i, rfl, hl, by omega, by omega, fun a M1 ha hs => ?_⟩
    simp [-Mt.pv, -mat]
    refine ⟨by unfold rngB; omega, fun j τ M2 => ∃ x y, τ = [some (.rdl (ns.map .int)), x, some (.ref a), y, none, none] ∧ Src M2 a (30 + 120 * j), ⟨_, _, rfl, hs.1⟩, ?_, ?_⟩
    · rintro j τ M2 hj ⟨x, y, rfl, h2⟩
      simp [-Mt.pv, -mat, way]
      refine ⟨a, _, rfl, h2, by unfold lim; omega, fun M3 h3 => ?_⟩
      simp
      exact h3.1.mono (by omega)
    · rintro τ M2 ⟨x, y, rfl, h2⟩
      exact ⟨_, _, _, rfl⟩
  · rintro τ M' ⟨x, y, z, rfl⟩
    simp [-Mt.pv, -mat, sizeLine_eq, way]
    refine prod_of (ms := [mS, mS]) (by simp) (by simp [mS_ok]) ?_
    refine prod_of (ms := [mR, mR, mR]) (by simp) (by simp [mR_ok]) ?_
    refine prod_of (ms := [mS, mR]) (by simp) (by simp [mS_ok, mR_ok]) ?_
    refine opEq_mats [Mt.one, Mt.one, ⟨1, 1, 0, 1⟩] [Mt.one, Mt.one, ⟨1, 1, 0, 1⟩] ?_
    simp [-Mt.pv, -mat]
    refine prod_of (ms := [mS, mR, mS, mR, mS, mR, mS, mR, mS, mR]) (by simp) (by simp [mS_ok, mR_ok]) ?_
    refine opEq_mat (m := ⟨1, 5, 0, 1⟩) (n := ⟨1, 5, 0, 1⟩) ?_
    simp [-Mt.pv, -mat]
    refine inv_of mR_ok ?_
    refine prod_of (ms := [mS, mR.adj.nf]) (by simp) (by simp [mS_ok, mRi_ok]) ?_
    refine opEq_mat (m := ⟨1, 0, 1, 1⟩) (n := ⟨1, 0, 1, 1⟩) ?_
    simp [-Mt.pv, -mat]
    refine prod_of (ms := [mS, mR, mS, mR, mS, mR]) (by simp) (by simp [mS_ok, mR_ok]) ?_
    refine opEq_mat (m := ⟨1, 3, 0, 1⟩) (n := ⟨1, 3, 0, 1⟩) ?_
    simp [-Mt.pv, -mat]
    exact h _
end Q
namespace Q
open PySem PySem.Spec PyProof.Rows L2
theorem all_mk {l : PySem.W.OpenLaw} {w : World} {K : PySem.W.Frag} {h : Heap} {mg : Str → Option Value} {fa : Addr} (X : K.In h) (G : h.Ns mainGlobals mg) (hfa : mg "law" = some (.ref fa))
    (D_is_whole : DefAt K "is_whole" s_is_whole)
    (D_u_normal_form : DefAt K "_normal_form" s_u_normal_form)
    (D_u_times : DefAt K "_times" s_u_times)
    (D_L_source : DefAt K "_law_source" s_L_source)
    (D_L_next : DefAt K "_law_next" s_L_next)
    (D_L_signed : DefAt K "_law_signed" s_L_signed)
    (D_L_of : DefAt K "_law_of" s_L_of)
    (D_is_pair : DefAt K "is_pair" s_is_pair)
    (D_L_times : DefAt K "_law_times" s_L_times)
    (D_L_back : DefAt K "_law_back" s_L_back)
    (D_L_text : DefAt K "_law_text" s_L_text)
    (D_u_has_determinant_one : DefAt K "_has_determinant_one" s_u_has_determinant_one)
    (D_L_matrix : DefAt K "_law_matrix" s_L_matrix)
    (D_is_matrix : DefAt K "is_matrix" s_is_matrix)
    (D_L_drawn_matrix : DefAt K "_law_drawn_matrix" s_L_drawn_matrix)
    (D_check_matrix : DefAt K "check_matrix" s_check_matrix)
    (D_product : DefAt K "product" s_product)
    (D_inverse : DefAt K "inverse" s_inverse)
    (D_L_triple_right : DefAt K "_law_triple_right" s_L_triple_right)
    (D_law : DefAt K "law" s_law)
    (z_bool : PySem.W.nsIn K mainGlobals "bool" = some none)
    (z_int : PySem.W.nsIn K mainGlobals "int" = some none)
    (z_isinstance : PySem.W.nsIn K mainGlobals "isinstance" = some none)
    (z_len : PySem.W.nsIn K mainGlobals "len" = some none)
    (z_max : PySem.W.nsIn K mainGlobals "max" = some none)
    (z_min : PySem.W.nsIn K mainGlobals "min" = some none)
    (z_range : PySem.W.nsIn K mainGlobals "range" = some none)
    (z_tuple : PySem.W.nsIn K mainGlobals "tuple" = some none)
    (hc_IDENTITY : ∀ base, HasC ⟨l.prog, w, K, mg, base⟩ "IDENTITY" (mat 1 0 0 1))
    : ∀ base : Heap, K.In base → base.Ns mainGlobals mg → FnG l.prog w K mg base (L2.CX l.prog w) 8 fa (toSp K spLaw) := by
  obtain ⟨f_is_whole, a_is_whole, fd_is_whole, F_is_whole⟩ := D_is_whole
  obtain ⟨f_u_normal_form, a_u_normal_form, fd_u_normal_form, F_u_normal_form⟩ := D_u_normal_form
  obtain ⟨f_u_times, a_u_times, fd_u_times, F_u_times⟩ := D_u_times
  obtain ⟨f_L_source, a_L_source, fd_L_source, F_L_source⟩ := D_L_source
  obtain ⟨f_L_next, a_L_next, fd_L_next, F_L_next⟩ := D_L_next
  obtain ⟨f_L_signed, a_L_signed, fd_L_signed, F_L_signed⟩ := D_L_signed
  obtain ⟨f_L_of, a_L_of, fd_L_of, F_L_of⟩ := D_L_of
  obtain ⟨f_is_pair, a_is_pair, fd_is_pair, F_is_pair⟩ := D_is_pair
  obtain ⟨f_L_times, a_L_times, fd_L_times, F_L_times⟩ := D_L_times
  obtain ⟨f_L_back, a_L_back, fd_L_back, F_L_back⟩ := D_L_back
  obtain ⟨f_L_text, a_L_text, fd_L_text, F_L_text⟩ := D_L_text
  obtain ⟨f_u_has_determinant_one, a_u_has_determinant_one, fd_u_has_determinant_one, F_u_has_determinant_one⟩ := D_u_has_determinant_one
  obtain ⟨f_L_matrix, a_L_matrix, fd_L_matrix, F_L_matrix⟩ := D_L_matrix
  obtain ⟨f_is_matrix, a_is_matrix, fd_is_matrix, F_is_matrix⟩ := D_is_matrix
  obtain ⟨f_L_drawn_matrix, a_L_drawn_matrix, fd_L_drawn_matrix, F_L_drawn_matrix⟩ := D_L_drawn_matrix
  obtain ⟨f_check_matrix, a_check_matrix, fd_check_matrix, F_check_matrix⟩ := D_check_matrix
  obtain ⟨f_product, a_product, fd_product, F_product⟩ := D_product
  obtain ⟨f_inverse, a_inverse, fd_inverse, F_inverse⟩ := D_inverse
  obtain ⟨f_L_triple_right, a_L_triple_right, fd_L_triple_right, F_L_triple_right⟩ := D_L_triple_right
  obtain ⟨f_law, a_law, fd_law, F_law⟩ := D_law
  have e := hfa.symm.trans (PySem.W.mg_of X G a_law)
  cases e
  have y_bool := PySem.W.mg_none_of X G z_bool
  have y_int := PySem.W.mg_none_of X G z_int
  have y_isinstance := PySem.W.mg_none_of X G z_isinstance
  have y_len := PySem.W.mg_none_of X G z_len
  have y_max := PySem.W.mg_none_of X G z_max
  have y_min := PySem.W.mg_none_of X G z_min
  have y_range := PySem.W.mg_none_of X G z_range
  have y_tuple := PySem.W.mg_none_of X G z_tuple
  intro base _ _
  have B_law := F_law.binds (ps := ["_law_script"]) fun _ _ _ _ _ _ us hl => match us, hl with | [_], _ => rfl
  have B_is_whole := F_is_whole.binds (ps := ["value"]) fun _ _ _ _ _ _ us hl => match us, hl with | [_], _ => rfl
  have H_is_whole : Has ⟨l.prog, w, K, mg, base⟩ "is_whole" 1 sp_is_whole := has_fn F_is_whole (PySem.W.mg_of X G a_is_whole) sc_is_whole B_is_whole (dd_is_whole (z_bool := y_bool) (z_int := y_int) (z_isinstance := y_isinstance)) r_is_whole
  have B_u_normal_form := F_u_normal_form.binds (ps := ["rows"]) fun _ _ _ _ _ _ us hl => match us, hl with | [_], _ => rfl
  have H_u_normal_form : Has ⟨l.prog, w, K, mg, base⟩ "_normal_form" 1 sp_u_normal_form := has_fn F_u_normal_form (PySem.W.mg_of X G a_u_normal_form) sc_u_normal_form B_u_normal_form (dd_u_normal_form ) r_u_normal_form
  have B_u_times := F_u_times.binds (ps := ["one", "other"]) fun _ _ _ _ _ _ us hl => match us, hl with | [_, _], _ => rfl
  have H_u_times : Has ⟨l.prog, w, K, mg, base⟩ "_times" 1 sp_u_times := has_fn F_u_times (PySem.W.mg_of X G a_u_times) sc_u_times B_u_times (dd_u_times ) r_u_times
  have B_L_source := F_L_source.binds (ps := ["_law_script", "_law_k"]) fun _ _ _ _ _ _ us hl => match us, hl with | [_, _], _ => rfl
  have H_L_source : Has ⟨l.prog, w, K, mg, base⟩ "_law_source" 1 sp_L_source := has_fn F_L_source (PySem.W.mg_of X G a_L_source) sc_L_source B_L_source (dd_L_source (z_len := y_len)) r_L_source
  have B_L_next := F_L_next.binds (ps := ["_law_source_here", "_law_many"]) fun _ _ _ _ _ _ us hl => match us, hl with | [_, _], _ => rfl
  have H_L_next : Has ⟨l.prog, w, K, mg, base⟩ "_law_next" 1 sp_L_next := has_fn F_L_next (PySem.W.mg_of X G a_L_next) sc_L_next B_L_next (dd_L_next ) r_L_next
  have B_L_signed := F_L_signed.binds (ps := ["_law_rows"]) fun _ _ _ _ _ _ us hl => match us, hl with | [_], _ => rfl
  have H_L_signed : Has ⟨l.prog, w, K, mg, base⟩ "_law_signed" 1 sp_L_signed := has_fn F_L_signed (PySem.W.mg_of X G a_L_signed) sc_L_signed B_L_signed (dd_L_signed ) r_L_signed
  have B_L_of := F_L_of.binds (ps := ["_law_letter"]) fun _ _ _ _ _ _ us hl => match us, hl with | [_], _ => rfl
  have H_L_of : Has ⟨l.prog, w, K, mg, base⟩ "_law_of" 1 sp_L_of := has_fn F_L_of (PySem.W.mg_of X G a_L_of) sc_L_of B_L_of (dd_L_of ) r_L_of
  have B_is_pair := F_is_pair.binds (ps := ["value"]) fun _ _ _ _ _ _ us hl => match us, hl with | [_], _ => rfl
  have H_is_pair : Has ⟨l.prog, w, K, mg, base⟩ "is_pair" 2 sp_is_pair := has_fn F_is_pair (PySem.W.mg_of X G a_is_pair) sc_is_pair B_is_pair (dd_is_pair (h_is_whole := H_is_whole) (z_isinstance := y_isinstance) (z_len := y_len) (z_tuple := y_tuple)) r_is_pair
  have B_L_times := F_L_times.binds (ps := ["_law_one", "_law_other"]) fun _ _ _ _ _ _ us hl => match us, hl with | [_, _], _ => rfl
  have H_L_times : Has ⟨l.prog, w, K, mg, base⟩ "_law_times" 2 sp_L_times := has_fn F_L_times (PySem.W.mg_of X G a_L_times) sc_L_times B_L_times (dd_L_times (h_L_signed := H_L_signed)) r_L_times
  have B_L_back := F_L_back.binds (ps := ["_law_matrix_here"]) fun _ _ _ _ _ _ us hl => match us, hl with | [_], _ => rfl
  have H_L_back : Has ⟨l.prog, w, K, mg, base⟩ "_law_back" 2 sp_L_back := has_fn F_L_back (PySem.W.mg_of X G a_L_back) sc_L_back B_L_back (dd_L_back (h_L_signed := H_L_signed)) r_L_back
  have B_L_text := F_L_text.binds (ps := ["_law_source_here", "_law_size"]) fun _ _ _ _ _ _ us hl => match us, hl with | [_, _], _ => rfl
  have H_L_text : Has ⟨l.prog, w, K, mg, base⟩ "_law_text" 2 sp_L_text := has_fn F_L_text (PySem.W.mg_of X G a_L_text) sc_L_text B_L_text (dd_L_text (h_L_next := H_L_next) (z_range := y_range)) r_L_text
  have B_u_has_determinant_one := F_u_has_determinant_one.binds (ps := ["value"]) fun _ _ _ _ _ _ us hl => match us, hl with | [_], _ => rfl
  have H_u_has_determinant_one : Has ⟨l.prog, w, K, mg, base⟩ "_has_determinant_one" 3 sp_u_has_determinant_one := has_fn F_u_has_determinant_one (PySem.W.mg_of X G a_u_has_determinant_one) sc_u_has_determinant_one B_u_has_determinant_one (dd_u_has_determinant_one (h_is_pair := H_is_pair) (z_isinstance := y_isinstance) (z_len := y_len) (z_tuple := y_tuple)) r_u_has_determinant_one
  have B_L_matrix := F_L_matrix.binds (ps := ["_law_text_here"]) fun _ _ _ _ _ _ us hl => match us, hl with | [_], _ => rfl
  have H_L_matrix : Has ⟨l.prog, w, K, mg, base⟩ "_law_matrix" 3 sp_L_matrix := has_fn F_L_matrix (PySem.W.mg_of X G a_L_matrix) sc_L_matrix B_L_matrix (dd_L_matrix (h_L_times := H_L_times) (h_L_of := H_L_of)) r_L_matrix
  have B_is_matrix := F_is_matrix.binds (ps := ["value"]) fun _ _ _ _ _ _ us hl => match us, hl with | [_], _ => rfl
  have H_is_matrix : Has ⟨l.prog, w, K, mg, base⟩ "is_matrix" 4 sp_is_matrix := has_fn F_is_matrix (PySem.W.mg_of X G a_is_matrix) sc_is_matrix B_is_matrix (dd_is_matrix (h_u_has_determinant_one := H_u_has_determinant_one) (h_u_normal_form := H_u_normal_form)) r_is_matrix
  have B_L_drawn_matrix := F_L_drawn_matrix.binds (ps := ["_law_source_here"]) fun _ _ _ _ _ _ us hl => match us, hl with | [_], _ => rfl
  have H_L_drawn_matrix : Has ⟨l.prog, w, K, mg, base⟩ "_law_drawn_matrix" 4 sp_L_drawn_matrix := has_fn F_L_drawn_matrix (PySem.W.mg_of X G a_L_drawn_matrix) sc_L_drawn_matrix B_L_drawn_matrix (dd_L_drawn_matrix (h_L_next := H_L_next) (h_L_matrix := H_L_matrix) (h_L_text := H_L_text)) r_L_drawn_matrix
  have B_check_matrix := F_check_matrix.binds (ps := ["matrix"]) fun _ _ _ _ _ _ us hl => match us, hl with | [_], _ => rfl
  have H_check_matrix : Has ⟨l.prog, w, K, mg, base⟩ "check_matrix" 5 sp_check_matrix := has_fn F_check_matrix (PySem.W.mg_of X G a_check_matrix) sc_check_matrix B_check_matrix (dd_check_matrix (h_is_matrix := H_is_matrix)) r_check_matrix
  have H_product : Has ⟨l.prog, w, K, mg, base⟩ "product" 6 sp_product := has_star (ps := []) (pv := "matrices") F_product (PySem.W.mg_of X G a_product) sc_product (fun _ _ _ _ _ _ us rest hl => match us, hl, rest with | [], _, [] => rfl | [], _, _ :: _ => rfl) (dd_product (h_check_matrix := H_check_matrix) (h_u_normal_form := H_u_normal_form) (h_u_times := H_u_times) (hc_IDENTITY := hc_IDENTITY base)) r_product
  have B_inverse := F_inverse.binds (ps := ["matrix"]) fun _ _ _ _ _ _ us hl => match us, hl with | [_], _ => rfl
  have H_inverse : Has ⟨l.prog, w, K, mg, base⟩ "inverse" 6 sp_inverse := has_fn F_inverse (PySem.W.mg_of X G a_inverse) sc_inverse B_inverse (dd_inverse (h_check_matrix := H_check_matrix) (h_u_normal_form := H_u_normal_form)) r_inverse
  have B_L_triple_right := F_L_triple_right.binds (ps := ["_law_source_here"]) fun _ _ _ _ _ _ us hl => match us, hl with | [_], _ => rfl
  have H_L_triple_right : Has ⟨l.prog, w, K, mg, base⟩ "_law_triple_right" 7 sp_L_triple_right := has_fn F_L_triple_right (PySem.W.mg_of X G a_L_triple_right) sc_L_triple_right B_L_triple_right (dd_L_triple_right (h_is_matrix := H_is_matrix) (h_product := H_product) (h_inverse := H_inverse) (h_L_times := H_L_times) (h_L_back := H_L_back) (h_L_drawn_matrix := H_L_drawn_matrix) (hc_IDENTITY := hc_IDENTITY base)) r_L_triple_right
  exact fn_ok (g := ⟨l.prog, w, K, mg, base⟩) F_law sc_law B_law (dd_law (h_product := H_product) (h_inverse := H_inverse) (h_L_source := H_L_source) (h_L_triple_right := H_L_triple_right) (hc_IDENTITY := hc_IDENTITY base) (z_len := y_len) (z_max := y_max) (z_min := y_min) (z_range := y_range)) r_law
end Q
open PySem PySem.W PyProof.Rows
set_option maxHeartbeats 0 in
theorem PySem.Challenge.cw_cuspfloor_k03_products_holds : PySem.Challenge.rw_cuspfloor_k03_products.Holds := by
  w_on; o_law; k_head; (case hw => w_witness2)
  k_fill
  refine Q.walk_ofG (l := PySem.Challenge.rw_cuspfloor_k03_products) (k := 8) rfl rfl ⟨rfl, by decide, by decide⟩ (fun w h Y => PySem.W.kIn_of Y) ?F
  case F =>
    intro w mg fa h KX G hmg
    refine' Q.all_mk KX G hmg ?D_is_whole ?D_u_normal_form ?D_u_times ?D_L_source ?D_L_next ?D_L_signed ?D_L_of ?D_is_pair ?D_L_times ?D_L_back ?D_L_text ?D_u_has_determinant_one ?D_L_matrix ?D_is_matrix ?D_L_drawn_matrix ?D_check_matrix ?D_product ?D_inverse ?D_L_triple_right ?D_law ?z_bool ?z_int ?z_isinstance ?z_len ?z_max ?z_min ?z_range ?z_tuple ?hc_IDENTITY
    (case D_is_whole => (refine' Q.def_at ?a ?l ?c ?k; (case a => k_is); (case l => k_is); (case c => k_is); (case k => k_is)))
    (case D_u_normal_form => (refine' Q.def_at ?a ?l ?c ?k; (case a => k_is); (case l => k_is); (case c => k_is); (case k => k_is)))
    (case D_u_times => (refine' Q.def_at ?a ?l ?c ?k; (case a => k_is); (case l => k_is); (case c => k_is); (case k => k_is)))
    (case D_L_source => (refine' Q.def_at ?a ?l ?c ?k; (case a => k_is); (case l => k_is); (case c => k_is); (case k => k_is)))
    (case D_L_next => (refine' Q.def_at ?a ?l ?c ?k; (case a => k_is); (case l => k_is); (case c => k_is); (case k => k_is)))
    (case D_L_signed => (refine' Q.def_at ?a ?l ?c ?k; (case a => k_is); (case l => k_is); (case c => k_is); (case k => k_is)))
    (case D_L_of => (refine' Q.def_at ?a ?l ?c ?k; (case a => k_is); (case l => k_is); (case c => k_is); (case k => k_is)))
    (case D_is_pair => (refine' Q.def_at ?a ?l ?c ?k; (case a => k_is); (case l => k_is); (case c => k_is); (case k => k_is)))
    (case D_L_times => (refine' Q.def_at ?a ?l ?c ?k; (case a => k_is); (case l => k_is); (case c => k_is); (case k => k_is)))
    (case D_L_back => (refine' Q.def_at ?a ?l ?c ?k; (case a => k_is); (case l => k_is); (case c => k_is); (case k => k_is)))
    (case D_L_text => (refine' Q.def_at ?a ?l ?c ?k; (case a => k_is); (case l => k_is); (case c => k_is); (case k => k_is)))
    (case D_u_has_determinant_one => (refine' Q.def_at ?a ?l ?c ?k; (case a => k_is); (case l => k_is); (case c => k_is); (case k => k_is)))
    (case D_L_matrix => (refine' Q.def_at ?a ?l ?c ?k; (case a => k_is); (case l => k_is); (case c => k_is); (case k => k_is)))
    (case D_is_matrix => (refine' Q.def_at ?a ?l ?c ?k; (case a => k_is); (case l => k_is); (case c => k_is); (case k => k_is)))
    (case D_L_drawn_matrix => (refine' Q.def_at ?a ?l ?c ?k; (case a => k_is); (case l => k_is); (case c => k_is); (case k => k_is)))
    (case D_check_matrix => (refine' Q.def_at ?a ?l ?c ?k; (case a => k_is); (case l => k_is); (case c => k_is); (case k => k_is)))
    (case D_product => (refine' Q.def_at ?a ?l ?c ?k; (case a => k_is); (case l => k_is); (case c => k_is); (case k => k_is)))
    (case D_inverse => (refine' Q.def_at ?a ?l ?c ?k; (case a => k_is); (case l => k_is); (case c => k_is); (case k => k_is)))
    (case D_L_triple_right => (refine' Q.def_at ?a ?l ?c ?k; (case a => k_is); (case l => k_is); (case c => k_is); (case k => k_is)))
    (case D_law => (refine' Q.def_at ?a ?l ?c ?k; (case a => k_is); (case l => k_is); (case c => k_is); (case k => k_is)))
    (case z_bool => k_is)
    (case z_int => k_is)
    (case z_isinstance => k_is)
    (case z_len => k_is)
    (case z_max => k_is)
    (case z_min => k_is)
    (case z_range => k_is)
    (case z_tuple => k_is)
    (case hc_IDENTITY => (intro base; refine' Q.hasC_matK KX G ?e ?l0 ?l1 ?l2; (case e => k_is); (case l0 => k_is); (case l1 => k_is); (case l2 => k_is)))
