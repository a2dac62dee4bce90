import PyProof.Rows.All
import Wide.All
import OpenK.AllK
import Wide.FinOn
import HandS.ForMost
import HandS.ForExc
import HandS.Star
import HandS.Wide
import HandS.Flow
import HandS.Style
import HandS.IsInst
import HandS.EndBits
import HandS.TryMany
import HandS.ExcIs
import HandS.Deep
import KE.DataEq
import HandS.Lambda
import KE.KNest
import KE.KRevSl
import HandS.Gcd
import PyProof.ReprRoads
import PyProof.FitsInt
import KE.DataMinMax
import KE.LtData
import KE.KExcIs
import KE.KExcSuper
import HandS.GenList
import HandS.Zip
import HandS.Strs
import HandS.Zip0
import HandS.DictComp
import HandS.Conv
import KE.GoesEnum
import PySem.Challenge.RW_cuspfloor_k24_leading_by_great_matrices
set_option Elab.async false
set_option linter.all false
set_option maxRecDepth 100000
set_option maxHeartbeats 4000000
/-! Values as trees, and what a piece of the text does to them: a layer over the hand layer. -/
namespace Q
open PySem PySem.Spec PyProof.Rows L2

abbrev Fg := PySem.W.Frag

/-- a value: what never changes is a tree; what may change stands at an address -/
inductive PV where
  | non | bl (b : Bool) | int (i : Int) | str (x : Str) | ty (n : String) | ref (a : Addr)
  | tup (xs : List PV)
  /-- a list that nobody changes -/
  | lst (xs : List PV)
  /-- a list that is only read: the script, one of the module's own -/
  | rdl (xs : List PV)
  /-- a tuple that is known to have no dict of its own -/
  | tpx (xs : List PV)
def TpX (F : Hp) (a : Addr) (vs : List V) : Prop := ∃ o, F a = some (.frz o (.tup vs)) ∧ o.dict = none

mutual
inductive Rep (K : Fg) (F : Hp) : PV → V → Prop
  | non : Rep K F .non .non
  | bl (b : Bool) : Rep K F (.bl b) (.bl b)
  | int (i : Int) : Rep K F (.int i) (.int i)
  | str (x : Str) : Rep K F (.str x) (.str x)
  | ty (n : String) : Rep K F (.ty n) (.ty n)
  | ref (a : Addr) : Rep K F (.ref a) (.ref a)
  | tup {a : Addr} {xs : List PV} {vs : List V} : SqT K F a vs → Reps K F xs vs → Rep K F (.tup xs) (.ref a)
  | lst {a : Addr} {xs : List PV} {vs : List V} : F a = some (.lst vs) → Reps K F xs vs → Rep K F (.lst xs) (.ref a)
  | rdl {a : Addr} {xs : List PV} {vs : List V} : SqL K F a vs → Reps K F xs vs → Rep K F (.rdl xs) (.ref a)
  | tpx {a : Addr} {xs : List PV} {vs : List V} : TpX F a vs → Reps K F xs vs → Rep K F (.tpx xs) (.ref a)
inductive Reps (K : Fg) (F : Hp) : List PV → List V → Prop
  | nil : Reps K F [] []
  | cons {x : PV} {v : V} {xs : List PV} {vs : List V} : Rep K F x v → Reps K F xs vs → Reps K F (x :: xs) (v :: vs)
end

theorem sqT_mono {K : Fg} {F F' : Hp} {a : Addr} {vs : List V} (s : Same F F') (h : SqT K F a vs) : SqT K F' a vs := by
  rcases h with (h | ⟨o, h⟩) | h
  · exact .inl (.inl (s _ _ h))
  · exact .inl (.inr ⟨o, s _ _ h⟩)
  · exact .inr h

theorem TpX.mono {F F' : Hp} {a : Addr} {vs : List V} (s : Same F F') (h : TpX F a vs) : TpX F' a vs := let ⟨o, e, d⟩ := h; ⟨o, s _ _ e, d⟩
theorem TpX.sq {K : Fg} {F : Hp} {a : Addr} {vs : List V} (h : TpX F a vs) : SqT K F a vs := let ⟨o, e, _⟩ := h; .inl (.inr ⟨o, e⟩)
mutual
theorem Rep.mono {K : Fg} {F F' : Hp} (s : Same F F') : ∀ {x : PV} {v : V}, Rep K F x v → Rep K F' x v
  | _, _, .non => .non
  | _, _, .bl b => .bl b
  | _, _, .int b => .int b
  | _, _, .str b => .str b
  | _, _, .ty b => .ty b
  | _, _, .ref b => .ref b
  | _, _, .tup h r => .tup (sqT_mono s h) (Reps.mono s r)
  | _, _, .lst h r => .lst (s _ _ h) (Reps.mono s r)
  | _, _, .rdl h r => .rdl (s.seq h) (Reps.mono s r)
  | _, _, .tpx h r => .tpx (h.mono s) (Reps.mono s r)
theorem Reps.mono {K : Fg} {F F' : Hp} (s : Same F F') : ∀ {xs : List PV} {vs : List V}, Reps K F xs vs → Reps K F' xs vs
  | _, _, .nil => .nil
  | _, _, .cons a b => .cons (Rep.mono s a) (Reps.mono s b)
end

theorem Reps.length {K : Fg} {F : Hp} : ∀ {xs : List PV} {vs : List V}, Reps K F xs vs → xs.length = vs.length
  | _, _, .nil => rfl
  | _, _, .cons _ b => by rw [List.length_cons, List.length_cons, b.length]
theorem Reps.get {K : Fg} {F : Hp} : ∀ {xs : List PV} {vs : List V} {i : Nat} {x : PV}, Reps K F xs vs → xs[i]? = some x → ∃ v, vs[i]? = some v ∧ Rep K F x v
  | _, _, _, _, .nil, e => by simp at e
  | _, _, 0, _, .cons a _, e => by
    simp only [List.getElem?_cons_zero, Option.some.injEq] at e
    subst e
    exact ⟨_, rfl, a⟩
  | _, _, i + 1, _, .cons _ b, e => by
    simp only [List.getElem?_cons_succ] at e
    simpa using b.get e
theorem Reps.getV {K : Fg} {F : Hp} : ∀ {xs : List PV} {vs : List V} {i : Nat} {v : V}, Reps K F xs vs → vs[i]? = some v → ∃ x, xs[i]? = some x ∧ Rep K F x v
  | _, _, _, _, .nil, e => by simp at e
  | _, _, 0, _, .cons a _, e => by
    simp only [List.getElem?_cons_zero, Option.some.injEq] at e
    subst e
    exact ⟨_, rfl, a⟩
  | _, _, i + 1, _, .cons _ b, e => by
    simp only [List.getElem?_cons_succ] at e
    simpa using b.getV e
theorem Reps.append {K : Fg} {F : Hp} : ∀ {xs ys : List PV} {vs ws : List V}, Reps K F xs vs → Reps K F ys ws → Reps K F (xs ++ ys) (vs ++ ws)
  | _, _, _, _, .nil, s => s
  | _, _, _, _, .cons a b, s => .cons a (b.append s)
theorem Reps.set {K : Fg} {F : Hp} {x : PV} {v : V} (r : Rep K F x v) : ∀ {xs : List PV} {vs : List V} (i : Nat), Reps K F xs vs → Reps K F (xs.set i x) (vs.set i v)
  | _, _, _, .nil => .nil
  | _, _, 0, .cons _ b => .cons r b
  | _, _, i + 1, .cons a b => .cons a (Reps.set r i b)
theorem Reps.take {K : Fg} {F : Hp} : ∀ {xs : List PV} {vs : List V} (n : Nat), Reps K F xs vs → Reps K F (xs.take n) (vs.take n)
  | _, _, 0, _ => .nil
  | _, _, _ + 1, .nil => .nil
  | _, _, n + 1, .cons a b => .cons a (b.take n)
theorem Reps.drop {K : Fg} {F : Hp} : ∀ {xs : List PV} {vs : List V} (n : Nat), Reps K F xs vs → Reps K F (xs.drop n) (vs.drop n)
  | _, _, 0, r => r
  | _, _, _ + 1, .nil => .nil
  | _, _, n + 1, .cons _ b => b.drop n
theorem Reps.dropLast {K : Fg} {F : Hp} {xs : List PV} {vs : List V} (r : Reps K F xs vs) : Reps K F xs.dropLast vs.dropLast := by
  rw [List.dropLast_eq_take, List.dropLast_eq_take, r.length]
  exact r.take _
theorem Reps.rev {K : Fg} {F : Hp} : ∀ {xs : List PV} {vs : List V}, Reps K F xs vs → Reps K F xs.reverse vs.reverse
  | _, _, .nil => .nil
  | _, _, .cons a b => by
    rw [List.reverse_cons, List.reverse_cons]
    exact b.rev.append (.cons a .nil)
theorem Reps.rep {K : Fg} {F : Hp} {xs : List PV} {vs : List V} (r : Reps K F xs vs) : ∀ n : Nat, Reps K F (List.replicate n xs).flatten (List.replicate n vs).flatten
  | 0 => .nil
  | n + 1 => by
    rw [List.replicate_succ, List.replicate_succ, List.flatten_cons, List.flatten_cons]
    exact r.append (r.rep n)
theorem Reps.ints {K : Fg} {F : Hp} : ∀ (ns : List Int), Reps K F (ns.map PV.int) (ns.map V.int)
  | [] => .nil
  | n :: ns => .cons (.int n) (Reps.ints ns)

/-! ### what may change -/
inductive MO where
  | lst (xs : List PV)
  | dK (kvs : List (Key × PV))
  | ins (C : Addr) (fs : List (Str × PV))
  /-- a caught exception -/
  | exc (nm : Str) (fs : Option (List (Str × PV)))
  /-- the table of the code objects of the lambdas of the def x -/
  | tab (x : Str)
abbrev PM := Addr → Option MO
def updM (M : PM) (a : Addr) (o : MO) : PM := fun b => if b = a then some o else M b
def delM (M : PM) (a : Addr) : PM := fun b => if b = a then none else M b
@[simp] theorem updM_same {M : PM} {a : Addr} {o : MO} : updM M a o a = some o := by unfold updM; rw [if_pos rfl]
theorem updM_ne {M : PM} {a b : Addr} {o : MO} (h : b ≠ a) : updM M a o b = M b := by unfold updM; rw [if_neg h]
@[simp] theorem updM_updM {M : PM} {a : Addr} {o u : MO} : updM (updM M a o) a u = updM M a u := by
  funext b; unfold updM; split <;> rfl
inductive RepKV (K : Fg) (F : Hp) : List (Key × PV) → List (Key × V) → Prop
  | nil : RepKV K F [] []
  | cons {k : Key} {x : PV} {v : V} {xs : List (Key × PV)} {vs : List (Key × V)} : Rep K F x v → RepKV K F xs vs → RepKV K F ((k, x) :: xs) ((k, v) :: vs)
inductive RepFs (K : Fg) (F : Hp) : List (Str × PV) → List (Str × V) → Prop
  | nil : RepFs K F [] []
  | cons {k : Str} {x : PV} {v : V} {xs : List (Str × PV)} {vs : List (Str × V)} : Rep K F x v → RepFs K F xs vs → RepFs K F ((k, x) :: xs) ((k, v) :: vs)
theorem RepKV.mono {K : Fg} {F F' : Hp} (s : Same F F') : ∀ {xs : List (Key × PV)} {vs : List (Key × V)}, RepKV K F xs vs → RepKV K F' xs vs
  | _, _, .nil => .nil
  | _, _, .cons a b => .cons (a.mono s) (b.mono s)
theorem RepFs.mono {K : Fg} {F F' : Hp} (s : Same F F') : ∀ {xs : List (Str × PV)} {vs : List (Str × V)}, RepFs K F xs vs → RepFs K F' xs vs
  | _, _, .nil => .nil
  | _, _, .cons a b => .cons (a.mono s) (b.mono s)
/-- at a: an exception of the class cls, its dict d -/
def excAt (a : Addr) (cls : Value) (d : Option Addr) : HO := .ext fun h => ∃ oe vs, h.get? a = some oe ∧ oe.cls = cls ∧ oe.dict = d ∧ oe.data = .fields vs
def XFs (K : Fg) (F : Hp) : Option (List (Str × PV)) → Option Addr → Prop
  | none, none => True
  | some fs, some a => ∃ gs, F a = some (.xd gs) ∧ RepFs K F fs gs
  | _, _ => False
theorem XFs.mono {K : Fg} {F F' : Hp} (s : Same F F') {fs : Option (List (Str × PV))} {d : Option Addr} (h : XFs K F fs d) : XFs K F' fs d := by
  cases fs <;> cases d
  · trivial
  · exact h
  · exact h
  · obtain ⟨gs, e1, e2⟩ := h
    exact ⟨gs, s _ _ e1, e2.mono s⟩
def lamQ (x : Str) : Str := x ++ (".<locals>." : Str) ++ ("<lambda>" : Str)
def MRep (K : Fg) (F H : Hp) (a : Addr) : MO → Prop
  | .tab x => (∃ c, PySem.W.tabIn K x = some (c, a)) ∧ ∃ ps : Array Value, H a = some (.tbl ps) ∧ TriplesOk ps.toList ∧ ∀ (pos : Pos) (cv : Value), codeAmong pos ps.toList = some cv → ∃ c, cv = .ref c ∧ F c = some (LamX.CodeO c (lamQ x))
  | .exc nm fs => ∃ cls d, H a = some (excAt a cls d) ∧ PySem.W.nsIn K mainGlobals nm = some (some cls) ∧ XFs K F fs d
  | .lst xs => ∃ vs, H a = some (.lst vs) ∧ Reps K F xs vs
  | .dK kvs => ∃ ws, H a = some (.dK ws) ∧ RepKV K F kvs ws
  | .ins C fs => ∃ dx gs, H a = some (.ins C dx gs) ∧ RepFs K F fs gs ∧ H dx = some (.own a)
theorem MRep.noown {K : Fg} {F H : Hp} {a : Addr} {o : MO} (h : MRep K F H a o) (x : Addr) : H a ≠ some (.own x) := by
  cases o with
  | lst xs => obtain ⟨vs, e, _⟩ := h; rw [e]; intro z; cases z
  | dK xs => obtain ⟨vs, e, _⟩ := h; rw [e]; intro z; cases z
  | ins C xs => obtain ⟨dx, vs, e, _⟩ := h; rw [e]; intro z; cases z
  | exc C xs => obtain ⟨c, d, e, _⟩ := h; rw [e]; intro z; cases z
  | tab x => obtain ⟨_, ps, e, _⟩ := h; rw [e]; intro z; cases z
theorem MRep.some {K : Fg} {F H : Hp} {a : Addr} {o : MO} (h : MRep K F H a o) : ∃ u, H a = some u := by
  cases o with
  | lst xs => obtain ⟨vs, e, _⟩ := h; exact ⟨_, e⟩
  | dK xs => obtain ⟨vs, e, _⟩ := h; exact ⟨_, e⟩
  | ins C xs => obtain ⟨dx, vs, e, _⟩ := h; exact ⟨_, e⟩
  | exc C xs => obtain ⟨c, d, e, _⟩ := h; exact ⟨_, e⟩
  | tab x => obtain ⟨_, ps, e, _⟩ := h; exact ⟨_, e⟩
/-- F: what never changes; M: what may -/
structure Rel (K : Fg) (F : Hp) (M : PM) (H : Hp) : Prop where
  sub : Same F H
  dis : ∀ a o, M a = some o → F a = none
  chg : ∀ a o, M a = some o → MRep K F H a o
theorem Rel.newF {K : Fg} {F : Hp} {M : PM} {H : Hp} (r : Rel K F M H) {p : Addr} (hp : H p = none) (o : HO) : Rel K (upd F p o) M (upd H p o) ∧ Same F (upd F p o) := by
  have hF : F p = none := by
    cases e : F p with
    | none => rfl
    | some u => rw [r.sub p u e] at hp; cases hp
  have hS : Same F (upd F p o) := fun b u e => by rw [upd_ne (ne_of_none e hF)]; exact e
  have neM : ∀ a u, M a = some u → a ≠ p := fun a u e z => by
    subst z
    obtain ⟨w, q⟩ := (r.chg a u e).some
    rw [hp] at q; cases q
  refine ⟨⟨fun b u e => ?_, fun a u e => ?_, fun a u e => ?_⟩, hS⟩
  · by_cases hb : b = p
    · subst hb
      rw [upd_same] at e ⊢
      exact e
    · rw [upd_ne hb] at e ⊢
      exact r.sub b u e
  · rw [upd_ne (neM a u e)]
    exact r.dis a u e
  · have h := r.chg a u e
    cases u with
    | lst xs =>
      obtain ⟨vs, e1, e2⟩ := h
      exact ⟨vs, by rw [upd_ne (neM a _ e)]; exact e1, e2.mono hS⟩
    | dK xs =>
      obtain ⟨vs, e1, e2⟩ := h
      exact ⟨vs, by rw [upd_ne (neM a _ e)]; exact e1, e2.mono hS⟩
    | ins C xs =>
      obtain ⟨dx, vs, e1, e2, e3⟩ := h
      exact ⟨dx, vs, by rw [upd_ne (neM a _ e)]; exact e1, e2.mono hS, by rw [upd_ne (ne_of_none e3 hp)]; exact e3⟩
    | exc C xs =>
      obtain ⟨c, d, e1, e0, e2⟩ := h
      exact ⟨c, d, by rw [upd_ne (neM a _ e)]; exact e1, e0, e2.mono hS⟩
    | tab x =>
      obtain ⟨e0, ps, e1, e2, e3⟩ := h
      refine ⟨e0, ps, by rw [upd_ne (neM a _ e)]; exact e1, e2, fun pos cv hc => ?_⟩
      obtain ⟨c, q1, q2⟩ := e3 pos cv hc
      exact ⟨c, q1, hS _ _ q2⟩
theorem Rel.fresh {K : Fg} {F : Hp} {M : PM} {H : Hp} (r : Rel K F M H) {p : Addr} (hp : H p = none) : F p = none ∧ M p = none := by
  refine ⟨?_, ?_⟩
  · cases e : F p with
    | none => rfl
    | some u => rw [r.sub p u e] at hp; cases hp
  · cases e : M p with
    | none => rfl
    | some u =>
      obtain ⟨w, q⟩ := (r.chg p u e).some
      rw [hp] at q; cases q
/-- a tracked thing is laid or changed -/
theorem Rel.put {K : Fg} {F : Hp} {M : PM} {H : Hp} (r : Rel K F M H) {p : Addr} (hF : F p = none) (hown : ∀ x, H p ≠ some (.own x)) {o : HO} {m : MO} (h : MRep K F (upd H p o) p m) : Rel K F (updM M p m) (upd H p o) := by
  refine ⟨fun b u e => ?_, fun a u e => ?_, fun a u e => ?_⟩
  · rw [upd_ne (ne_of_none e hF)]
    exact r.sub b u e
  · by_cases ha : a = p
    · rw [ha]; exact hF
    · rw [updM_ne ha] at e
      exact r.dis a u e
  · by_cases ha : a = p
    · subst ha
      rw [updM_same] at e
      cases e
      exact h
    · rw [updM_ne ha] at e
      have z := r.chg a u e
      cases u with
      | lst xs =>
        obtain ⟨vs, e1, e2⟩ := z
        exact ⟨vs, by rw [upd_ne ha]; exact e1, e2⟩
      | dK xs =>
        obtain ⟨vs, e1, e2⟩ := z
        exact ⟨vs, by rw [upd_ne ha]; exact e1, e2⟩
      | ins C xs =>
        obtain ⟨dx, vs, e1, e2, e3⟩ := z
        refine ⟨dx, vs, by rw [upd_ne ha]; exact e1, e2, ?_⟩
        have : dx ≠ p := fun z => hown a (z ▸ e3)
        rw [upd_ne this]
        exact e3
      | exc C xs =>
        obtain ⟨c, d, e1, e2⟩ := z
        exact ⟨c, d, by rw [upd_ne ha]; exact e1, e2⟩
      | tab x =>
        obtain ⟨e0, ps, e1, e2⟩ := z
        exact ⟨e0, ps, by rw [upd_ne ha]; exact e1, e2⟩
theorem Rel.newL {K : Fg} {F : Hp} {M : PM} {H : Hp} (r : Rel K F M H) {p : Addr} (hp : H p = none) {xs : List PV} {vs : List V} (h : Reps K F xs vs) : Rel K F (updM M p (.lst xs)) (upd H p (.lst vs)) :=
  r.put (r.fresh hp).1 (fun x e => by rw [hp] at e; cases e) ⟨vs, upd_same, h⟩
theorem Rel.getL {K : Fg} {F : Hp} {M : PM} {H : Hp} (r : Rel K F M H) {p : Addr} {xs : List PV} (e : M p = some (.lst xs)) : ∃ vs, H p = some (.lst vs) ∧ Reps K F xs vs := r.chg p _ e
theorem Rel.setL {K : Fg} {F : Hp} {M : PM} {H : Hp} (r : Rel K F M H) {p : Addr} {o : MO} (e : M p = some o) {xs : List PV} {vs : List V} (h : Reps K F xs vs) : Rel K F (updM M p (.lst xs)) (upd H p (.lst vs)) :=
  r.put (r.dis p o e) (fun x z => (r.chg p o e).noown x z) ⟨vs, upd_same, h⟩
theorem Rel.upF {K : Fg} {F F' : Hp} {M : PM} {H : Hp} (r : Rel K F' M H) (s : Same F F') : Same F H := fun a o e => r.sub a o (s a o e)

/-! ### slots -/
abbrev Tau := List (Option PV)
structure SRel (K : Fg) (F : Hp) (τ : Tau) (σ : L2.St) : Prop where
  len : τ.length = σ.length
  at_ : ∀ (i : Nat) (x : PV), τ[i]? = some (some x) → ∃ v, σ[i]? = some (some v) ∧ Rep K F x v
theorem SRel.mono {K : Fg} {F F' : Hp} {τ : Tau} {σ : L2.St} (r : SRel K F τ σ) (s : Same F F') : SRel K F' τ σ :=
  ⟨r.len, fun i x e => let ⟨v, e1, e2⟩ := r.at_ i x e; ⟨v, e1, e2.mono s⟩⟩
theorem SRel.set {K : Fg} {F : Hp} {τ : Tau} {σ : L2.St} (r : SRel K F τ σ) {x : PV} {v : V} (h : Rep K F x v) (i : Nat) : SRel K F (τ.set i (some x)) (σ.set i (some v)) := by
  refine ⟨by simp [r.len], fun j y e => ?_⟩
  by_cases hj : i = j
  · subst hj
    by_cases hl : i < τ.length
    · rw [List.getElem?_set_self hl] at e
      cases e
      exact ⟨v, List.getElem?_set_self (by rw [← r.len]; exact hl), h⟩
    · rw [List.getElem?_eq_none (by simpa using hl)] at e
      cases e
  · rw [List.getElem?_set_ne hj] at e ⊢
    exact r.at_ j y e
theorem SRel.unset {K : Fg} {F : Hp} {τ : Tau} {σ : L2.St} (r : SRel K F τ σ) (i : Nat) : SRel K F (τ.set i none) (σ.set i none) := by
  refine ⟨by simp [r.len], fun j y e => ?_⟩
  by_cases hj : i = j
  · subst hj
    by_cases hl : i < τ.length
    · rw [List.getElem?_set_self hl] at e
      cases e
    · rw [List.getElem?_eq_none (by simpa using hl)] at e
      cases e
  · rw [List.getElem?_set_ne hj] at e ⊢
    exact r.at_ j y e
@[simp] def startQ (N : List Str) (xs : List PV) : Tau := xs.map some ++ List.replicate (N.length - xs.length) none
theorem SRel.start {K : Fg} {F : Hp} {N : List Str} {xs : List PV} {vs : List V} (r : Reps K F xs vs) : SRel K F (startQ N xs) (start N vs) := by
  have hl := r.length
  refine ⟨by simp [startQ, L2.start, hl], fun i x e => ?_⟩
  unfold startQ at e
  unfold L2.start
  by_cases hi : i < xs.length
  · rw [List.getElem?_append_left (by simpa using hi), List.getElem?_map] at e
    cases q : xs[i]? with
    | none => rw [q] at e; cases e
    | some y =>
      rw [q] at e
      cases e
      obtain ⟨v, e1, e2⟩ := r.get q
      refine ⟨v, ?_, e2⟩
      rw [List.getElem?_append_left (by simpa [← hl] using hi), List.getElem?_map, e1]
      rfl
  · rw [List.getElem?_append_right (by simpa using hi), List.getElem?_replicate] at e
    split at e <;> cases e

/-! ### exceptions -/
structure PEx where
  nm : Str
  fs : Option (List (Str × PV))
def ExRep (K : Fg) (F : Hp) (e : PEx) (cls : Value) (d : Option Addr) : Prop := PySem.W.nsIn K mainGlobals e.nm = some (some cls) ∧ XFs K F e.fs d
theorem ExRep.mono {K : Fg} {F F' : Hp} {e : PEx} {cls : Value} {d : Option Addr} (h : ExRep K F e cls d) (s : Same F F') : ExRep K F' e cls d := ⟨h.1, h.2.mono s⟩

/-! ### continuations, readings -/
abbrev PK := PV → PM → Prop
abbrev PX := PEx → PM → Prop
abbrev PXW := PEx → Tau → PM → Prop
abbrev QE := Tau → PM → PX → PK → Prop
abbrev QT := Tau → PM → PX → (Bool → PM → Prop) → Prop
abbrev QA := Tau → PM → PX → (List PV → PM → Prop) → Prop
structure PEnds where
  nx : Tau → PM → Prop
  rt : PK
  bk : Tau → PM → Prop := fun _ _ => False
  ct : Tau → PM → Prop := fun _ _ => False
  ex : PXW := fun _ _ _ => False
abbrev QS := PEnds → Tau → PM → Prop
abbrev QG := PV → Tau → PM → (Tau → PM → Prop) → Prop
abbrev QGs := List PV → Tau → PM → (Tau → PM → Prop) → Prop

def lW (K : Fg) (B : Hp) (w : PXW) : WX := fun cls d σ H => ∃ F τ M e, Same B F ∧ Rel K F M H ∧ SRel K F τ σ ∧ ExRep K F e cls d ∧ w e τ M
/-- where one stands -/
structure At (K : Fg) (B F : Hp) (τ : Tau) (M : PM) (σ : L2.St) (H : Hp) : Prop where
  b : Same B F
  r : Rel K F M H
  s : SRel K F τ σ
theorem At.next {K : Fg} {B F F' : Hp} {τ : Tau} {M M' : PM} {σ : L2.St} {H H' : Hp} (a : At K B F τ M σ H) (s : Same F F') (r : Rel K F' M' H') : At K B F' τ M' σ H' := ⟨a.b.trans s, r, a.s.mono s⟩
def lE (X : Cx) (B : Hp) (f : QE) : TE := fun σ H Q => ∃ F τ M x k, At X.K B F τ M σ H ∧ f τ M x k ∧ Takes X (lW X.K B fun e τ' M' => τ' = τ ∧ x e M') ∧
  ∀ r M' F' v H', k r M' → Same F F' → Rel X.K F' M' H' → Rep X.K F' r v → Q v H'
def lT (X : Cx) (B : Hp) (f : QT) : TT := fun σ H Q => ∃ F τ M x k, At X.K B F τ M σ H ∧ f τ M x k ∧ Takes X (lW X.K B fun e τ' M' => τ' = τ ∧ x e M') ∧
  ∀ b M' F' H', k b M' → Same F F' → Rel X.K F' M' H' → Q b H'
def lA (X : Cx) (B : Hp) (f : QA) : TA := fun σ H Q => ∃ F τ M x k, At X.K B F τ M σ H ∧ f τ M x k ∧ Takes X (lW X.K B fun e τ' M' => τ' = τ ∧ x e M') ∧
  ∀ rs M' F' vs H', k rs M' → Same F F' → Rel X.K F' M' H' → Reps X.K F' rs vs → Q vs H'
structure DOk (K : Fg) (F : Hp) (d : PEnds) (D : Ends) : Prop where
  nx : ∀ τ M F' σ H, d.nx τ M → Same F F' → Rel K F' M H → SRel K F' τ σ → D.nx σ H
  rt : ∀ r M F' v H, d.rt r M → Same F F' → Rel K F' M H → Rep K F' r v → D.rt v H
  bk : ∀ τ M F' σ H, d.bk τ M → Same F F' → Rel K F' M H → SRel K F' τ σ → D.bk σ H
  ct : ∀ τ M F' σ H, d.ct τ M → Same F F' → Rel K F' M H → SRel K F' τ σ → D.ct σ H
theorem DOk.mono {K : Fg} {F F' : Hp} {d : PEnds} {D : Ends} (h : DOk K F d D) (s : Same F F') : DOk K F' d D :=
  ⟨fun τ M G σ H a b => h.nx τ M G σ H a (s.trans b), fun r M G v H a b => h.rt r M G v H a (s.trans b), fun τ M G σ H a b => h.bk τ M G σ H a (s.trans b), fun τ M G σ H a b => h.ct τ M G σ H a (s.trans b)⟩
def lS (X : Cx) (B : Hp) (f : QS) : TS := fun D σ H => ∃ F τ M d, At X.K B F τ M σ H ∧ f d τ M ∧ Takes X (lW X.K B d.ex) ∧ DOk X.K F d D
def lG (X : Cx) (B : Hp) (g : QG) : TG := fun v σ H Q => ∃ F τ M p k, At X.K B F τ M σ H ∧ Rep X.K F p v ∧ g p τ M k ∧
  ∀ τ' M' F' σ' H', k τ' M' → Same F F' → Rel X.K F' M' H' → SRel X.K F' τ' σ' → Q σ' H'
def lGs (X : Cx) (B : Hp) (g : QGs) : TGs := fun vs σ H Q => ∃ F τ M ps k, At X.K B F τ M σ H ∧ Reps X.K F ps vs ∧ g ps τ M k ∧
  ∀ τ' M' F' σ' H', k τ' M' → Same F F' → Rel X.K F' M' H' → SRel X.K F' τ' σ' → Q σ' H'

/-! ### the context -/
structure Glb where
  P : Program
  w : World
  K : Fg
  mg : Str → Option Value
  base : Heap
  gd : Bool
structure Cf where
  g : Glb
  N : List Str
  sc : Scope
  k : Nat
  /-- the def whose lambdas are made -/
  me : Option Str
def MkOk (K : Fg) (mg : Str → Option Value) (base : Heap) (env : Env) (x : Str) : Prop := env.qual = x ++ (".<locals>." : Str) ∧ ∃ cc P, PySem.W.tabIn K x = some (cc, P) ∧ env.code = .ref cc ∧ LamX.TabB base mg cc P
structure Good (c : Cf) (X : Cx) : Prop where
  prog : X.prog = c.g.P
  w : X.w = c.g.w
  K : X.K = c.g.K
  mg : X.mg = c.g.mg
  base : X.base = c.g.base
  N : X.N = c.N
  sc : X.env.scope = c.sc
  room : Room c.k X.A
  calm : X.calm = true
  grd : c.g.gd = true → X.A.guards = some []
  me : ∀ x, c.me = some x → MkOk X.K X.mg X.base X.env x
structure GoodS (c : Cf) (X : Cx) : Prop extends Good c X where
  stk : X.stack = X.env :: X.outer
  fr : X.env.frame = some X.env.locals
  ex : X.ex = []
  fn : X.fn = fun _ => true
  pass : PassesOwn (model X.prog X.w) X.A X.env X.xe

def DE (c : Cf) (e : Expr) (f : QE) : Prop := ∀ X, Good c X → ∀ B, PE X e (lE X B f)
def DT (c : Cf) (e : Expr) (f : QT) : Prop := ∀ X, Good c X → ∀ B, PT X e (lT X B f)
def DW (c : Cf) (e : Expr) (f : QT) : Prop := ∀ X, Good c X → ∀ B, PW X e (lT X B f)
def DA (c : Cf) (es : List Expr) (f : QA) : Prop := ∀ X, Good c X → ∀ B, PA X es (lA X B f)
def DS (c : Cf) (st : Stmt) (f : QS) : Prop := ∀ X, GoodS c X → ∀ B, PS X st (lS X B f)
def DSs (c : Cf) (st : List Stmt) (f : QS) : Prop := ∀ X, GoodS c X → ∀ B, PSs X st (lS X B f)
def DG (c : Cf) (tg : Expr) (g : QG) : Prop := ∀ X, GoodS c X → ∀ B, PG X tg (lG X B g)
def DGs (c : Cf) (ts : List Expr) (g : QGs) : Prop := ∀ X, GoodS c X → ∀ B, PGs X ts (lGs X B g)

theorem _root_.L2.PE.of {X : Cx} {e : Expr} {t' : TE} (h : ∀ σ H Q, t' σ H Q → ∃ t, PE X e t ∧ t σ H Q) : PE X e t' := ⟨fun pins s σ H Q I hw => let ⟨t, he, ht⟩ := h σ H Q hw; he.run pins s σ H Q I ht⟩
theorem _root_.L2.PE.im {X : Cx} {e : Expr} {t t' : TE} (p : PE X e t) (h : ∀ σ H Q, t' σ H Q → t σ H Q) : PE X e t' := ⟨fun pins s σ H Q I hw => p.run pins s σ H Q I (h σ H Q hw)⟩
theorem _root_.L2.PT.im {X : Cx} {e : Expr} {t t' : TT} (p : PT X e t) (h : ∀ σ H Q, t' σ H Q → t σ H Q) : PT X e t' := ⟨fun pins s σ H Q I hw => p.run pins s σ H Q I (h σ H Q hw)⟩
theorem _root_.L2.PW.im {X : Cx} {e : Expr} {t t' : TT} (p : PW X e t) (h : ∀ σ H Q, t' σ H Q → t σ H Q) : PW X e t' := ⟨fun wh pins s σ H Q I hw => p.run wh pins s σ H Q I (h σ H Q hw)⟩
theorem _root_.L2.PA.im {X : Cx} {e : List Expr} {t t' : TA} (p : PA X e t) (h : ∀ σ H Q, t' σ H Q → t σ H Q) : PA X e t' := ⟨fun pos pins s σ H Q I hw => p.run pos pins s σ H Q I (h σ H Q hw)⟩
theorem _root_.L2.PS.im {X : Cx} {e : Stmt} {t t' : TS} (p : PS X e t) (h : ∀ D σ H, t' D σ H → t D σ H) : PS X e t' := ⟨fun pins s σ H D I hw => p.run pins s σ H D I (h D σ H hw)⟩
theorem _root_.L2.PS.of {X : Cx} {e : Stmt} {t' : TS} (h : ∀ D σ H, t' D σ H → ∃ t, PS X e t ∧ t D σ H) : PS X e t' := ⟨fun pins s σ H D I hw => let ⟨t, he, ht⟩ := h D σ H hw; he.run pins s σ H D I ht⟩
theorem _root_.L2.PSs.im {X : Cx} {e : List Stmt} {t t' : TS} (p : PSs X e t) (h : ∀ D σ H, t' D σ H → t D σ H) : PSs X e t' := ⟨fun pins s σ H D I hw => p.run pins s σ H D I (h D σ H hw)⟩
theorem _root_.L2.PG.im {X : Cx} {e : Expr} {t t' : TG} (p : PG X e t) (h : ∀ v σ H Q, t' v σ H Q → t v σ H Q) : PG X e t' := ⟨fun pins s σ H v u Q I r hw => p.run pins s σ H v u Q I r (h v σ H Q hw)⟩
theorem _root_.L2.PGs.im {X : Cx} {e : List Expr} {t t' : TGs} (p : PGs X e t) (h : ∀ v σ H Q, t' v σ H Q → t v σ H Q) : PGs X e t' := ⟨fun pins s σ H vs us Q I r hw => p.run pins s σ H vs us Q I r (h vs σ H Q hw)⟩

/-! ### names, constants -/
@[simp] def qVar (i : Nat) : QE := fun τ M _ k => match τ[i]? with
  | some (some x) => k x M
  | _ => False
@[simp] def qC (v : PV) : QE := fun _ M _ k => k v M
theorem vis_of {X : Cx} {sc : Scope} {x : Str} (h : X.env.scope = sc) (v : Vis sc x) : Vis X.env.scope x := by rw [h]; exact v
theorem de_var {c : Cf} (i : Nat) {x : Str} {pos : Pos} (hN : c.N[i]? = some x := by rfl) (hv : Vis c.sc x := by first | exact Or.inl rfl | exact Or.inr (Or.inl rfl) | exact Or.inr (Or.inr rfl)) (hd : (x == ("__debug__" : Str)) = false := by decide) (hcd : (x == ("__classdict__" : Str)) = false := by decide) : DE c (.Name x pos) (qVar i) := fun X g B => by
  refine (pe_var (X := X) (i := i) (by rw [g.N]; exact hN) (vis_of g.sc hv) hd hcd).im fun σ H Q => ?_
  rintro ⟨F, τ, M, x, k, a, hf, _, hk⟩
  unfold qVar at hf
  split at hf
  · rename_i x e
    obtain ⟨v, e1, e2⟩ := a.s.at_ i x e
    exact ⟨v, e1, hk _ _ F _ _ hf (Same.refl _) a.r e2⟩
  · exact hf.elim
theorem de_c {c : Cf} {e : Expr} {p : PV} {v : V} (h : ∀ X, Good c X → PE X e (tC v)) (r : ∀ F, Rep c.g.K F p v) : DE c e (qC p) := fun X g B => by
  refine (h X g).im fun σ H Q => ?_
  rintro ⟨F, τ, M, x, k, a, hf, _, hk⟩
  exact hk _ _ F _ _ hf (Same.refl _) a.r (by rw [g.K]; exact r F)
theorem de_int {c : Cf} {i j pos} : DE c (.Constant (.int i) j pos) (qC (.int i)) := de_c (fun _ _ => pe_int) fun _ => .int i
theorem de_bl {c : Cf} {i j pos} : DE c (.Constant (.bool i) j pos) (qC (.bl i)) := de_c (fun _ _ => pe_bl) fun _ => .bl i
theorem de_non {c : Cf} {j pos} : DE c (.Constant .none j pos) (qC .non) := de_c (fun _ _ => pe_non) fun _ => .non
theorem de_str {c : Cf} {x j pos} : DE c (.Constant (.str x) j pos) (qC (.str x)) := de_c (fun _ _ => pe_str) fun _ => .str x
/-- a constant of the module -/
def HasC (g : Glb) (x : Str) (p : PV) : Prop := ∃ v u, g.mg x = some u ∧ RelV v u ∧ ∀ F, Rep g.K F p v
theorem gl_of {X : Cx} {sc : Scope} {x : Str} (h : X.env.scope = sc) (v : sc.names.lookup x = some .globalImplicit) : Gl X x := by
  show List.lookup x X.env.scope.names = _
  rw [h]; exact v
theorem de_glob {c : Cf} {x : Str} {p : PV} {pos : Pos} (hm : HasC c.g x p) (hg : c.sc.names.lookup x = some .globalImplicit) (hd : (x == ("__debug__" : Str)) = false := by decide) : DE c (.Name x pos) (qC p) := by
  obtain ⟨v, u, h1, h2, h3⟩ := hm
  exact de_c (fun X g => pe_glob (gl_of g.sc hg) (by rw [g.mg]; exact h1) h2 hd) h3
theorem de_ty {c : Cf} {x : Str} {T : String} {pos : Pos} (hm : c.g.mg x = none) (hg : c.sc.names.lookup x = some .globalImplicit) (hv : bootBuiltins x = some (.type T)) (hn : x ≠ "__name__" := by decide) (hd : (x == ("__debug__" : Str)) = false := by decide) : DE c (.Name x pos) (qC (.ty T)) :=
  de_c (fun X g => pe_bltn (v := .ty T) (gl_of g.sc hg) (by rw [g.mg]; exact hm) hv rfl hn hd) fun _ => .ty T

/-! ### operators by values -/
abbrev Q2 := PV → PV → PM → PK → Prop
def lR (K : Fg) (r : Q2) : R2 := fun x y H Q => ∃ F p q M k, Rel K F M H ∧ Rep K F p x ∧ Rep K F q y ∧ r p q M k ∧ ∀ z M' F' v H', k z M' → Same F F' → Rel K F' M' H' → Rep K F' z v → Q v H'
def OQ (c : Cf) (f : Value → Value → Sem Value) (r : Q2) : Prop := ∀ X, Good c X → OpR X f (lR X.K r)
@[simp] def qBin (r : Q2) (fa fb : QE) : QE := fun τ M x k => fa τ M x fun p M1 => fb τ M1 x fun q M2 => r p q M2 k
theorem two {X : Cx} {B : Hp} {fa fb : QE} {r : Q2} {σ : L2.St} {H : Hp} {Q : VK} (h : lE X B (qBin r fa fb) σ H Q) : tOp (lR X.K r) (lE X B fa) (lE X B fb) σ H Q := by
  obtain ⟨F, τ, M, x, k, a, hf, tk, hk⟩ := h
  refine ⟨F, τ, M, x, _, a, hf, tk, fun p M1 F1 v1 H1 h1 s1 r1 e1 => ?_⟩
  refine ⟨F1, τ, M1, x, _, a.next s1 r1, h1, tk, fun q M2 F2 v2 H2 h2 s2 r2 e2 => ?_⟩
  exact ⟨F2, p, q, M2, k, r2, e1.mono s2, e2, h2, fun z M' F' v H' hz s' r' e' => hk z M' F' v H' hz ((s1.trans s2).trans s') r' e'⟩
theorem de_bin {c : Cf} {a b : Expr} {op : Operator} {pos : Pos} {r : Q2} {fa fb : QE} (ho : OQ c (binaryOp op) r) (ha : DE c a fa) (hb : DE c b fb) : DE c (.BinOp a op b pos) (qBin r fa fb) := fun X g B =>
  (pe_op (ho X g) (ha X g B) (hb X g B)).im fun _ _ _ h => two h
theorem de_cmp {c : Cf} {a b : Expr} {op : CmpOp} {pos : Pos} {r : Q2} {fa fb : QE} (ho : OQ c (compareOp op) r) (ha : DE c a fa) (hb : DE c b fb) (hm : behindInMarks op b = false) : DE c (.Compare a [op] [b] pos) (qBin r fa fb) := fun X g B =>
  (pe_cmpR (ho X g) (ha X g B) (hb X g B) hm).im fun _ _ _ h => two h
def isBl : PV → PM → (Bool → PM → Prop) → Prop
  | .bl b, M, k => k b M
  | _, _, _ => False
set_option autoImplicit true in
@[simp] theorem isBl_s1 : isBl  (.bl b) M k = (k b M) := rfl
@[simp] def qTest (f : QE) : QT := fun τ M x k => f τ M x fun v M' => isBl v M' k
theorem dt_cmp {c : Cf} {a b : Expr} {op : CmpOp} {pos : Pos} {r : Q2} {fa fb : QE} (ho : OQ c (compareOp op) r) (ha : DE c a fa) (hb : DE c b fb) (hm : behindInMarks op b = false) : DT c (.Compare a [op] [b] pos) (qTest (qBin r fa fb)) := fun X g B => by
  refine (pt_cmpR (ho X g) (ha X g B) (hb X g B) hm).im fun σ H Q => ?_
  rintro ⟨F, τ, M, x, k, a, hf, tk, hk⟩
  refine two ⟨F, τ, M, x, _, a, hf, tk, fun r M' F' v H' h' s' r' e' => ?_⟩
  cases e' with
  | bl b => exact ⟨b, rfl, hk _ _ _ _ h' s' r'⟩
  | _ => exact h'.elim
/-- truth -/
def truthP : PV → PM → (Bool → PM → Prop) → Prop
  | .non, M, k => k false M
  | .bl b, M, k => k b M
  | .int i, M, k => k (i != 0) M
  | .str x, M, k => x.length ≤ sizeLine ∧ k ((x.length : Int) != 0) M
  | .tup xs, M, k => k (!xs.isEmpty) M
  | .lst xs, M, k => k (!xs.isEmpty) M
  | .rdl xs, M, k => k (!xs.isEmpty) M
  | .ref a, M, k => match M a with
    | some (.lst xs) => k (!xs.isEmpty) M
    | _ => False
  | .ty _, _, _ => False
  | .tpx xs, M, k => k (!xs.isEmpty) M
set_option autoImplicit true in
@[simp] theorem truthP_s1 : truthP  .non M k = (k false M) := rfl
set_option autoImplicit true in
@[simp] theorem truthP_s2 : truthP  (.bl b) M k = (k b M) := rfl
set_option autoImplicit true in
@[simp] theorem truthP_s3 : truthP  (.int i) M k = (k (i != 0) M) := rfl
set_option autoImplicit true in
@[simp] theorem truthP_s4 : truthP  (.str x) M k = (x.length ≤ sizeLine ∧ k ((x.length : Int) != 0) M) := rfl
set_option autoImplicit true in
@[simp] theorem truthP_s5 : truthP  (.tup xs) M k = (k (!xs.isEmpty) M) := rfl
set_option autoImplicit true in
@[simp] theorem truthP_s6 : truthP  (.lst xs) M k = (k (!xs.isEmpty) M) := rfl
set_option autoImplicit true in
@[simp] theorem truthP_s7 : truthP  (.rdl xs) M k = (k (!xs.isEmpty) M) := rfl
set_option autoImplicit true in
@[simp] theorem truthP_s8 : truthP  (.ref a) M k = (match M a with
    | some (.lst xs) => k (!xs.isEmpty) M
    | _ => False) := rfl
theorem reps_emp {K : Fg} {F : Hp} {xs : List PV} {vs : List V} (r : Reps K F xs vs) : (!xs.isEmpty) = !vs.isEmpty := by cases r <;> rfl
theorem truthP_ok {K : Fg} {F : Hp} {M : PM} {H : Hp} {p : PV} {v : V} {k : Bool → PM → Prop} (R : Rel K F M H) (e : Rep K F p v) (h : truthP p M k) : ∃ b, TruV K v H b ∧ k b M := by
  cases e with
  | non => exact ⟨_, rfl, h⟩
  | bl b => exact ⟨_, rfl, h⟩
  | int i => exact ⟨_, rfl, h⟩
  | str x => exact ⟨_, ⟨h.1, rfl⟩, h.2⟩
  | ty n => exact h.elim
  | ref a =>
    have h' : (match M a with | some (.lst xs) => k (!xs.isEmpty) M | _ => False) := h
    split at h'
    · rename_i xs e2
      obtain ⟨vs, e3, e4⟩ := R.getL e2
      exact ⟨_, .inl ⟨vs, SqL.of e3, rfl⟩, by rw [← reps_emp e4]; exact h'⟩
    · exact h'.elim
  | tup hs r => exact ⟨_, .inr (.inl ⟨_, sqT_mono R.sub hs, rfl⟩), by rw [← reps_emp r]; exact h⟩
  | lst hs r => exact ⟨_, .inl ⟨_, SqL.of (R.sub _ _ hs), rfl⟩, by rw [← reps_emp r]; exact h⟩
  | rdl hs r => exact ⟨_, .inl ⟨_, R.sub.seq hs, rfl⟩, by rw [← reps_emp r]; exact h⟩
  | tpx hs r => exact ⟨_, .inr (.inl ⟨_, sqT_mono R.sub hs.sq, rfl⟩), by rw [← reps_emp r]; exact h⟩
@[simp] def qTruth (f : QE) : QT := fun τ M x k => f τ M x fun v M' => truthP v M' k
theorem dt_truth {c : Cf} {e : Expr} {f : QE} (h : DE c e f) (he : ∀ env whole, isTrue e env whole = (do let v ← whole; standAt e.pos; holding [v] (truthy v)) := by intro _ _; rfl) : DT c e (qTruth f) := fun X g B => by
  refine (pt_truth (h X g B) (he X.env)).im fun σ H Q => ?_
  rintro ⟨F, τ, M, x, k, a, hf, tk, hk⟩
  refine ⟨F, τ, M, x, _, a, hf, tk, fun r M' F' v H' h' s' r' e' => ?_⟩
  obtain ⟨b, h1, h2⟩ := truthP_ok r' e' h'
  exact ⟨b, h1, hk _ _ _ _ h2 s' r'⟩
/-- two ways -/
def way (b : Bool) (A C : Prop) : Prop := (b = true → A) ∧ (b = false → C)
@[simp] theorem way_t {A C : Prop} : way true A C ↔ A := ⟨fun h => h.1 rfl, fun h => ⟨fun _ => h, fun z => nomatch z⟩⟩
@[simp] theorem way_f {A C : Prop} : way false A C ↔ C := ⟨fun h => h.2 rfl, fun h => ⟨fun z => (nomatch z), fun _ => h⟩⟩
@[simp] def qAndT (fa fb : QT) : QT := fun τ M x k => fa τ M x fun b M1 => way b (fb τ M1 x k) (k false M1)
@[simp] def qOrT (fa fb : QT) : QT := fun τ M x k => fa τ M x fun b M1 => way b (k true M1) (fb τ M1 x k)
@[simp] def qNotT (fa : QT) : QT := fun τ M x k => fa τ M x fun b M1 => k (!b) M1
theorem dw_and1 {c : Cf} {a : Expr} {pos : Pos} {f : QT} (h : DT c a f) : DW c (.BoolOp .And [a] pos) f := fun X g B => pw_and1 (h X g B)
theorem dw_or1 {c : Cf} {a : Expr} {pos : Pos} {f : QT} (h : DT c a f) : DW c (.BoolOp .Or [a] pos) f := fun X g B => pw_or1 (h X g B)
theorem dw_and {c : Cf} {a b : Expr} {rest : List Expr} {pos : Pos} {f fb : QT} (h : DT c a f) (hb : DW c (.BoolOp .And (b :: rest) pos) fb) : DW c (.BoolOp .And (a :: b :: rest) pos) (qAndT f fb) := fun X g B => by
  refine (pw_and (h X g B) (hb X g B)).im fun σ H Q => ?_
  rintro ⟨F, τ, M, x, k, a, hf, tk, hk⟩
  refine ⟨F, τ, M, x, _, a, hf, tk, fun b M1 F1 H1 h1 s1 r1 => ?_⟩
  cases b with
  | true => exact ⟨F1, τ, M1, x, k, a.next s1 r1, h1.1 rfl, tk, fun b M' F' H' h' s' r' => hk b M' F' H' h' (s1.trans s') r'⟩
  | false => exact hk _ _ _ _ (h1.2 rfl) s1 r1
theorem dw_or {c : Cf} {a b : Expr} {rest : List Expr} {pos : Pos} {f fb : QT} (h : DT c a f) (hb : DW c (.BoolOp .Or (b :: rest) pos) fb) : DW c (.BoolOp .Or (a :: b :: rest) pos) (qOrT f fb) := fun X g B => by
  refine (pw_or (h X g B) (hb X g B)).im fun σ H Q => ?_
  rintro ⟨F, τ, M, x, k, a, hf, tk, hk⟩
  refine ⟨F, τ, M, x, _, a, hf, tk, fun b M1 F1 H1 h1 s1 r1 => ?_⟩
  cases b with
  | false => exact ⟨F1, τ, M1, x, k, a.next s1 r1, h1.2 rfl, tk, fun b M' F' H' h' s' r' => hk b M' F' H' h' (s1.trans s') r'⟩
  | true => exact hk _ _ _ _ (h1.1 rfl) s1 r1
theorem dt_w {c : Cf} {e : Expr} {f : QT} (h : DW c e f) : DT c e f := fun X g B => (h X g B).pt
theorem dt_not {c : Cf} {a : Expr} {pos : Pos} {f : QT} (h : DT c a f) : DT c (.UnaryOp .Not a pos) (qNotT f) := fun X g B => by
  refine (pt_not (h X g B)).im fun σ H Q => ?_
  rintro ⟨F, τ, M, x, k, a, hf, tk, hk⟩
  exact ⟨F, τ, M, x, _, a, hf, tk, fun b M1 F1 H1 h1 s1 r1 => hk _ _ _ _ h1 s1 r1⟩
/-- and, or, not as values -/
@[simp] def qAndV (fa fb : QE) : QE := fun τ M x k => fa τ M x fun v M1 => truthP v M1 fun b M2 => way b (fb τ M2 x k) (k v M2)
@[simp] def qOrV (fa fb : QE) : QE := fun τ M x k => fa τ M x fun v M1 => truthP v M1 fun b M2 => way b (k v M2) (fb τ M2 x k)
@[simp] def qNotV (fa : QE) : QE := fun τ M x k => fa τ M x fun v M1 => truthP v M1 fun b M2 => k (.bl (!b)) M2
theorem truthP_M {p : PV} {M : PM} {k : Bool → PM → Prop} (h : truthP p M k) : truthP p M fun b M' => M' = M ∧ k b M := by
  cases p with
  | ref a =>
    have h' : (match M a with | some (.lst xs) => k (!xs.isEmpty) M | _ => False) := h
    show (match M a with | some (.lst xs) => M = M ∧ k (!xs.isEmpty) M | _ => False)
    split at h'
    · exact ⟨rfl, h'⟩
    · exact h'.elim
  | ty n => exact h
  | str x => exact ⟨h.1, rfl, h.2⟩
  | _ => exact ⟨rfl, h⟩
theorem de_one {c : Cf} {op : BoolOp} {a : Expr} {pos : Pos} {f : QE} (h : DE c a f) : DE c (.BoolOp op [a] pos) f := fun X g B => pe_one (h X g B)
theorem de_and {c : Cf} {a b : Expr} {rest : List Expr} {pos : Pos} {f fb : QE} (h : DE c a f) (hb : DE c (.BoolOp .And (b :: rest) pos) fb) : DE c (.BoolOp .And (a :: b :: rest) pos) (qAndV f fb) := fun X g B => by
  refine (pe_andT (h X g B) (hb X g B)).im fun σ H Q => ?_
  rintro ⟨F, τ, M, x, k, a, hf, tk, hk⟩
  refine ⟨F, τ, M, x, _, a, hf, tk, fun p M1 F1 v1 H1 h1 s1 r1 e1 => ?_⟩
  obtain ⟨b, t1, t2⟩ := truthP_ok r1 e1 h1
  refine ⟨b, t1, ?_⟩
  cases b with
  | true =>
    rw [if_pos rfl]
    exact ⟨F1, τ, _, x, k, a.next s1 r1, t2.1 rfl, tk, fun b M' F' v H' h' s' r' => hk b M' F' v H' h' (s1.trans s') r'⟩
  | false =>
    rw [if_neg Bool.false_ne_true]
    exact hk _ _ _ _ _ (t2.2 rfl) s1 r1 e1
theorem de_or {c : Cf} {a b : Expr} {rest : List Expr} {pos : Pos} {f fb : QE} (h : DE c a f) (hb : DE c (.BoolOp .Or (b :: rest) pos) fb) : DE c (.BoolOp .Or (a :: b :: rest) pos) (qOrV f fb) := fun X g B => by
  refine (pe_orT (h X g B) (hb X g B)).im fun σ H Q => ?_
  rintro ⟨F, τ, M, x, k, a, hf, tk, hk⟩
  refine ⟨F, τ, M, x, _, a, hf, tk, fun p M1 F1 v1 H1 h1 s1 r1 e1 => ?_⟩
  obtain ⟨b, t1, t2⟩ := truthP_ok r1 e1 h1
  refine ⟨b, t1, ?_⟩
  cases b with
  | false =>
    rw [if_neg Bool.false_ne_true]
    exact ⟨F1, τ, _, x, k, a.next s1 r1, t2.2 rfl, tk, fun b M' F' v H' h' s' r' => hk b M' F' v H' h' (s1.trans s') r'⟩
  | true =>
    rw [if_pos rfl]
    exact hk _ _ _ _ _ (t2.1 rfl) s1 r1 e1
theorem de_not {c : Cf} {a : Expr} {pos : Pos} {f : QE} (h : DE c a f) : DE c (.UnaryOp .Not a pos) (qNotV f) := fun X g B => by
  refine (pe_notT (h X g B)).im fun σ H Q => ?_
  rintro ⟨F, τ, M, x, k, a, hf, tk, hk⟩
  refine ⟨F, τ, M, x, _, a, hf, tk, fun p M1 F1 v1 H1 h1 s1 r1 e1 => ?_⟩
  obtain ⟨b, t1, t2⟩ := truthP_ok r1 e1 h1
  exact ⟨b, t1, hk _ _ _ _ _ t2 s1 r1 (.bl _)⟩
@[simp] def qIf (t : QT) (fa fb : QE) : QE := fun τ M x k => t τ M x fun b M1 => way b (fa τ M1 x k) (fb τ M1 x k)
theorem de_if {c : Cf} {t a b : Expr} {pos : Pos} {ft : QT} {fa fb : QE} (ht : DT c t ft) (ha : DE c a fa) (hb : DE c b fb) : DE c (.IfExp t a b pos) (qIf ft fa fb) := fun X g B => by
  refine (pe_ifExp (ht X g B) (ha X g B) (hb X g B)).im fun σ H Q => ?_
  rintro ⟨F, τ, M, x, k, a, hf, tk, hk⟩
  refine ⟨F, τ, M, x, _, a, hf, tk, fun b M1 F1 H1 h1 s1 r1 => ?_⟩
  cases b with
  | true =>
    rw [if_pos rfl]
    exact ⟨F1, τ, M1, x, k, a.next s1 r1, h1.1 rfl, tk, fun b M' F' v H' h' s' r' => hk b M' F' v H' h' (s1.trans s') r'⟩
  | false =>
    rw [if_neg Bool.false_ne_true]
    exact ⟨F1, τ, M1, x, k, a.next s1 r1, h1.2 rfl, tk, fun b M' F' v H' h' s' r' => hk b M' F' v H' h' (s1.trans s') r'⟩

/-! ### arguments, displays -/
@[simp] def qNil : QA := fun _ M _ k => k [] M
@[simp] def qCons (f : QE) (r : QA) : QA := fun τ M x k => f τ M x fun p M1 => r τ M1 x fun ps M2 => k (p :: ps) M2
theorem da_nil {c : Cf} : DA c [] qNil := fun X g B => pa_nil.im fun σ H Q => by
  rintro ⟨F, τ, M, x, k, a, hf, tk, hk⟩
  exact hk _ _ _ _ _ hf (Same.refl _) a.r .nil
theorem da_cons {c : Cf} {e : Expr} {es : List Expr} {f : QE} {r : QA} (he : DE c e f) (hr : DA c es r) (hs : ∀ env, starEach (e :: es) env = (false, eval e env) :: starEach es env := by intro _; rfl) : DA c (e :: es) (qCons f r) := fun X g B =>
  (pa_cons (he X g B) (hr X g B) (hs _)).im fun σ H Q => by
    rintro ⟨F, τ, M, x, k, a, hf, tk, hk⟩
    refine ⟨F, τ, M, x, _, a, hf, tk, fun p M1 F1 v1 H1 h1 s1 r1 e1 => ?_⟩
    refine ⟨F1, τ, M1, x, _, a.next s1 r1, h1, tk, fun ps M2 F2 vs H2 h2 s2 r2 e2 => ?_⟩
    exact hk _ _ _ _ _ h2 (s1.trans s2) r2 (.cons (e1.mono s2) e2)
/-- *e, the items of a tuple or a list -/
def seqP : PV → PM → (List PV → Prop) → Prop
  | .tup xs, _, k => k xs
  | .lst xs, _, k => k xs
  | .rdl xs, _, k => k xs
  | .tpx xs, _, k => k xs
  | .ref a, M, k => match M a with
    | some (.lst xs) => k xs
    | _ => False
  | .non, _, _ => False
  | .bl _, _, _ => False
  | .int _, _, _ => False
  | .str _, _, _ => False
  | .ty _, _, _ => False
set_option autoImplicit true in
@[simp] theorem seqP_s1 : seqP  (.tup xs) w1 k = (k xs) := rfl
set_option autoImplicit true in
@[simp] theorem seqP_s2 : seqP  (.lst xs) w1 k = (k xs) := rfl
set_option autoImplicit true in
@[simp] theorem seqP_s3 : seqP  (.rdl xs) w1 k = (k xs) := rfl
set_option autoImplicit true in
@[simp] theorem seqP_s4 : seqP  (.ref a) M k = (match M a with
    | some (.lst xs) => k xs
    | _ => False) := rfl
set_option autoImplicit true in
@[simp] theorem seqP_s5 : seqP  (.tpx xs) w1 k = (k xs) := rfl
theorem seqP_ok {K : Fg} {F : Hp} {M : PM} {H : Hp} {p : PV} {v : V} {k : List PV → Prop} (R : Rel K F M H) (e : Rep K F p v) (h : seqP p M k) : ∃ a vs xs, v = .ref a ∧ (SqT K H a vs ∨ SqL K H a vs) ∧ Reps K F xs vs ∧ k xs := by
  cases e with
  | ref a =>
    have h' : (match M a with | some (.lst xs) => k xs | _ => False) := h
    split at h'
    · rename_i xs e2
      obtain ⟨vs, e3, e4⟩ := R.getL e2
      exact ⟨_, _, _, rfl, .inr (SqL.of e3), e4, h'⟩
    · exact h'.elim
  | tup hs r => exact ⟨_, _, _, rfl, .inl (sqT_mono R.sub hs), r, h⟩
  | lst hs r => exact ⟨_, _, _, rfl, .inr (SqL.of (R.sub _ _ hs)), r, h⟩
  | rdl hs r => exact ⟨_, _, _, rfl, .inr (R.sub.seq hs), r, h⟩
  | tpx hs r => exact ⟨_, _, _, rfl, .inl (sqT_mono R.sub hs.sq), r, h⟩
  | _ => exact h.elim
@[simp] def qStar (f : QE) (r : QA) : QA := fun τ M x k => f τ M x fun p M1 => seqP p M1 fun xs => r τ M1 x fun ps M2 => k (xs ++ ps) M2
theorem da_star {c : Cf} {e : Expr} {es : List Expr} {p : Pos} {f : QE} {r : QA} (he : DE c e f) (hr : DA c es r) (hs : ∀ env, starEach (.Starred e p :: es) env = (true, eval e env) :: starEach es env := by intro _; rfl) : DA c (.Starred e p :: es) (qStar f r) := fun X g B =>
  (StX.pa_star (he X g B) (hr X g B) (hs _)).im fun σ H Q => by
    rintro ⟨F, τ, M, x, k, a, hf, tk, hk⟩
    refine ⟨F, τ, M, x, _, a, hf, tk, fun p M1 F1 v1 H1 h1 s1 r1 e1 => ?_⟩
    obtain ⟨q, vs, xs, e2, hq, e3, h3⟩ := seqP_ok r1 e1 h1
    refine ⟨q, vs, e2, hq, F1, τ, M1, x, _, a.next s1 r1, h3, tk, fun ps M2 F2 ws H2 h2 s2 r2 e4 => ?_⟩
    exact hk _ _ _ _ _ h2 (s1.trans s2) r2 ((e3.mono s2).append e4)
@[simp] def qTup (r : QA) : QE := fun τ M x k => r τ M x fun ps M1 => ps.length ≤ sizeLine ∧ k (.tup ps) M1
@[simp] def qLst (r : QA) : QE := fun τ M x k => r τ M x fun ps M1 => ps.length ≤ sizeLine ∧ k (.lst ps) M1
/-- a list that will be changed -/
@[simp] def qLstM (r : QA) : QE := fun τ M x k => r τ M x fun ps M1 => ps.length ≤ sizeLine ∧ ∀ a, M1 a = none → k (.ref a) (updM M1 a (.lst ps))
theorem de_tup {c : Cf} {es : List Expr} {n : Nat} {pos : Pos} {r : QA} (h : DA c es r) : DE c (.Tuple es n pos) (qTup r) := fun X g B => by
  refine (pe_tup (h X g B)).im fun σ H Q => ?_
  rintro ⟨F, τ, M, x, k, a, hf, tk, hk⟩
  refine ⟨F, τ, M, x, _, a, hf, tk, fun ps M1 F1 vs H1 h1 s1 r1 e1 => ⟨by rw [← e1.length]; exact h1.1, fun p hp => ?_⟩⟩
  obtain ⟨r2, s2⟩ := r1.newF hp (.tup vs)
  exact hk _ _ _ _ _ h1.2 (s1.trans s2) r2 (.tup (SqT.of upd_same) (e1.mono s2))
theorem de_lst {c : Cf} {es : List Expr} {pos : Pos} {r : QA} (h : DA c es r) : DE c (.List es pos) (qLst r) := fun X g B => by
  refine (pe_lst (h X g B)).im fun σ H Q => ?_
  rintro ⟨F, τ, M, x, k, a, hf, tk, hk⟩
  refine ⟨F, τ, M, x, _, a, hf, tk, fun ps M1 F1 vs H1 h1 s1 r1 e1 => ⟨by rw [← e1.length]; exact h1.1, fun p hp => ?_⟩⟩
  obtain ⟨r2, s2⟩ := r1.newF hp (.lst vs)
  exact hk _ _ _ _ _ h1.2 (s1.trans s2) r2 (.lst upd_same (e1.mono s2))
theorem de_lstM {c : Cf} {es : List Expr} {pos : Pos} {r : QA} (h : DA c es r) : DE c (.List es pos) (qLstM r) := fun X g B => by
  refine (pe_lst (h X g B)).im fun σ H Q => ?_
  rintro ⟨F, τ, M, x, k, a, hf, tk, hk⟩
  refine ⟨F, τ, M, x, _, a, hf, tk, fun ps M1 F1 vs H1 h1 s1 r1 e1 => ⟨by rw [← e1.length]; exact h1.1, fun p hp => ?_⟩⟩
  exact hk _ _ _ _ _ (h1.2 p (r1.fresh hp).2) s1 (r1.newL hp e1) (.ref p)

/-! ### blocks, statements -/
@[simp] def qNext : QS := fun d τ M => d.nx τ M
@[simp] def qSeq (f g : QS) : QS := fun d τ M => f { d with nx := g d } τ M
@[simp] def dx (d : PEnds) (τ : Tau) : PX := fun e M => d.ex e τ M
theorem dss_nil {c : Cf} : DSs c [] qNext := fun X g B => pss_nil.im fun D σ H => by
  rintro ⟨F, τ, M, d, a, hf, tk, hd⟩
  exact hd.nx _ _ _ _ _ hf (Same.refl _) a.r a.s
theorem dss_cons {c : Cf} {st : Stmt} {rest : List Stmt} {f g : QS} (h1 : DS c st f) (h2 : DSs c rest g) : DSs c (st :: rest) (qSeq f g) := fun X gd B => by
  refine (pss_cons (h1 X gd B) (h2 X gd B)).im fun D σ H => ?_
  rintro ⟨F, τ, M, d, a, hf, tk, hd⟩
  refine ⟨F, τ, M, _, a, hf, tk, ⟨fun τ' M' F' σ' H' q s r sr => ?_, hd.rt, hd.bk, hd.ct⟩⟩
  exact ⟨F', τ', M', d, ⟨a.b.trans s, r, sr⟩, q, tk, hd.mono s⟩
theorem dss_one {c : Cf} {st : Stmt} {f : QS} (h1 : DS c st f) : DSs c [st] f := fun X gd B => pss_one (h1 X gd B)
theorem takes_x {X : Cx} {B : Hp} {d : PEnds} {τ : Tau} (tk : Takes X (lW X.K B d.ex)) : Takes X (lW X.K B fun e τ' M' => τ' = τ ∧ dx d τ e M') :=
  tk.imp fun c d' σ H ⟨F, τ', M, e, h1, h2, h3, h4, h5, h6⟩ => ⟨F, τ', M, e, h1, h2, h3, h4, by rw [h5]; exact h6⟩
theorem ds_pass {c : Cf} {pos : Pos} : DS c (.Pass pos) qNext := fun X g B => ps_pass.im fun D σ H => by
  rintro ⟨F, τ, M, d, a, hf, tk, hd⟩
  exact hd.nx _ _ _ _ _ hf (Same.refl _) a.r a.s
theorem ds_break {c : Cf} {pos : Pos} : DS c (.Break pos) (fun d τ M => d.bk τ M) := fun X g B => ps_break.im fun D σ H => by
  rintro ⟨F, τ, M, d, a, hf, tk, hd⟩
  exact hd.bk _ _ _ _ _ hf (Same.refl _) a.r a.s
theorem ds_continue {c : Cf} {pos : Pos} : DS c (.Continue pos) (fun d τ M => d.ct τ M) := fun X g B => ps_continue.im fun D σ H => by
  rintro ⟨F, τ, M, d, a, hf, tk, hd⟩
  exact hd.ct _ _ _ _ _ hf (Same.refl _) a.r a.s
@[simp] def qRet (f : QE) : QS := fun d τ M => f τ M (dx d τ) fun v M' => d.rt v M'
theorem ds_ret {c : Cf} {e : Expr} {pos : Pos} {f : QE} (h : DE c e f) : DS c (.Return (some e) pos) (qRet f) := fun X g B => (ps_ret (h X g.toGood B)).im fun D σ H => by
  rintro ⟨F, τ, M, d, a, hf, tk, hd⟩
  exact ⟨F, τ, M, _, _, a, hf, takes_x tk, fun r M' F' v H' h' s' r' e' => hd.rt _ _ _ _ _ h' s' r' e'⟩
theorem ds_retN {c : Cf} {pos : Pos} : DS c (.Return none pos) (fun d τ M => d.rt .non M) := fun X g B => ps_retN.im fun D σ H => by
  rintro ⟨F, τ, M, d, a, hf, tk, hd⟩
  exact hd.rt _ _ _ _ _ hf (Same.refl _) a.r .non
@[simp] def qDrop (f : QE) : QS := fun d τ M => f τ M (dx d τ) fun _ M' => d.nx τ M'
theorem ds_expr {c : Cf} {e : Expr} {pos : Pos} {f : QE} (h : DE c e f) (hs : ∀ env, swapsWith e none pos.line env = pure false := by intro _; rfl) : DS c (.Expr e pos) (qDrop f) := fun X g B => (ps_expr (h X g.toGood B) (hs _)).im fun D σ H => by
  rintro ⟨F, τ, M, d, a, hf, tk, hd⟩
  exact ⟨F, τ, M, _, _, a, hf, takes_x tk, fun r M' F' v H' h' s' r' e' => hd.nx _ _ _ _ _ h' s' r' (a.s.mono s')⟩
@[simp] def qIfS (t : QT) (f g : QS) : QS := fun d τ M => t τ M (dx d τ) fun b M1 => way b (f d τ M1) (g d τ M1)
theorem ds_if {c : Cf} {t : Expr} {a b : List Stmt} {pos : Pos} {ft : QT} {f g : QS} (ht : DT c t ft) (ha : DSs c a f) (hb : DSs c b g) : DS c (.If t a b pos) (qIfS ft f g) := fun X gd B => (ps_if (ht X gd.toGood B) (ha X gd B) (hb X gd B)).im fun D σ H => by
  rintro ⟨F, τ, M, d, a, hf, tk, hd⟩
  refine ⟨F, τ, M, _, _, a, hf, takes_x tk, fun b M1 F1 H1 h1 s1 r1 => ?_⟩
  cases b with
  | true =>
    rw [if_pos rfl]
    exact ⟨F1, τ, M1, d, a.next s1 r1, h1.1 rfl, tk, hd.mono s1⟩
  | false =>
    rw [if_neg Bool.false_ne_true]
    exact ⟨F1, τ, M1, d, a.next s1 r1, h1.2 rfl, tk, hd.mono s1⟩
@[simp] def qNever : QS := fun _ _ _ => False
theorem ds_never {c : Cf} {st : Stmt} : DS c st qNever := fun X g B => ps_never.im fun D σ H => fun ⟨_, _, _, _, _, h, _⟩ => h
theorem dss_never {c : Cf} {st : List Stmt} : DSs c st qNever := fun X g B => pss_never.im fun D σ H => fun ⟨_, _, _, _, _, h, _⟩ => h

/-! ### targets -/
@[simp] def gSet (i : Nat) : QG := fun v τ M k => k (τ.set i (some v)) M
theorem dg_name {c : Cf} (i : Nat) {x : Str} {pos : Pos} (hN : c.N.Nodup) (hi : c.N[i]? = some x := by rfl) (hx : Loc c.sc x := by first | exact Or.inl rfl | exact Or.inr rfl) : DG c (.Name x pos) (gSet i) := fun X g B => by
  refine (pg_name (i := i) (by rw [g.N]; exact hN) (by rw [g.N]; exact hi) (by rw [g.sc]; exact hx) (.inl (by rw [g.fn]))).im fun v σ H Q => ?_
  rintro ⟨F, τ, M, p, k, a, e, hg, hk⟩
  exact hk _ _ _ _ _ hg (Same.refl _) a.r (a.s.set e i)
def gsNil : QGs
  | [], τ, M, k => k τ M
  | _ :: _, _, _, _ => False
set_option autoImplicit true in
@[simp] theorem gsNil_s1 : gsNil  [] τ M k = (k τ M) := rfl
def gsCons (g : QG) (r : QGs) : QGs
  | v :: ws, τ, M, k => g v τ M fun τ' M' => r ws τ' M' k
  | [], _, _, _ => False
set_option autoImplicit true in
@[simp] theorem gsCons_s1 (g : QG) (r : QGs) : gsCons g r (v :: ws) τ M k = (g v τ M fun τ' M' => r ws τ' M' k) := rfl
theorem dgs_nil {c : Cf} : DGs c [] gsNil := fun X g B => pgs_nil.im fun v σ H Q => by
  rintro ⟨F, τ, M, ps, k, a, e, hg, hk⟩
  cases e with
  | nil => exact ⟨rfl, hk _ _ _ _ _ hg (Same.refl _) a.r a.s⟩
  | cons _ _ => exact hg.elim
theorem dgs_cons {c : Cf} {e : Expr} {es : List Expr} {g : QG} {r : QGs} (h1 : DG c e g) (h2 : DGs c es r) (hs : ∀ env, (assignEach (e :: es) env).map (·.2) = assign e env :: (assignEach es env).map (·.2) := by intro _; rfl) : DGs c (e :: es) (gsCons g r) := fun X gd B =>
  (pgs_cons (h1 X gd B) (h2 X gd B) (hs _)).im fun v σ H Q => by
    rintro ⟨F, τ, M, ps, k, a, e, hg, hk⟩
    cases e with
    | nil => exact hg.elim
    | cons e1 e2 =>
      refine ⟨_, _, rfl, F, τ, M, _, _, a, e1, hg, fun τ' M' F' σ' H' h' s' r' sr' => ?_⟩
      exact ⟨F', τ', M', _, k, ⟨a.b.trans s', r', sr'⟩, e2.mono s', h', fun τ2 M2 F2 σ2 H2 h2 s2 r2 sr2 => hk _ _ _ _ _ h2 (s'.trans s2) r2 sr2⟩
def gTupQ (n : Nat) (r : QGs) : QG
  | .tup xs, τ, M, k => xs.length = n ∧ r xs τ M k
  | .non, _, _, _ => False
  | .bl _, _, _, _ => False
  | .int _, _, _, _ => False
  | .str _, _, _, _ => False
  | .ty _, _, _, _ => False
  | .ref _, _, _, _ => False
  | .lst _, _, _, _ => False
  | .rdl _, _, _, _ => False
  | .tpx xs, τ, M, k => xs.length = n ∧ r xs τ M k
set_option autoImplicit true in
@[simp] theorem gTupQ_s2 (n : Nat) (r : QGs) : gTupQ n r (.tpx xs) τ M k = (xs.length = n ∧ r xs τ M k) := rfl
set_option autoImplicit true in
@[simp] theorem gTupQ_s1 (n : Nat) (r : QGs) : gTupQ n r (.tup xs) τ M k = (xs.length = n ∧ r xs τ M k) := rfl
theorem dg_tup {c : Cf} {es : List Expr} {k n : Nat} {pos : Pos} {r : QGs} (h : DGs c es r) (hn : ∀ env, (assignEach es env).length = n := by intro _; rfl) (hst : ∀ env, (assignEach es env).findIdx? (·.1) = none := by intro _; rfl) : DG c (.Tuple es k pos) (gTupQ n r) := fun X g B =>
  (pg_tup g.calm (h X g B) (hn _) (hst _)).im fun v σ H Q => by
    rintro ⟨F, τ, M, p, k, a, e, hg, hk⟩
    cases e with
    | tup hs e => exact ⟨_, _, rfl, sqT_mono a.r.sub hs, by rw [← e.length]; exact hg.1, F, τ, M, _, k, a, e, hg.2, hk⟩
    | tpx hs e => exact ⟨_, _, rfl, sqT_mono a.r.sub hs.sq, by rw [← e.length]; exact hg.1, F, τ, M, _, k, a, e, hg.2, hk⟩
    | _ => exact hg.elim
@[simp] def qAsg (f : QE) (g : QG) : QS := fun d τ M => f τ M (dx d τ) fun v M' => g v τ M' d.nx
theorem ds_asg {c : Cf} {tg e : Expr} {pos : Pos} {f : QE} {g : QG} (he : DE c e f) (hg : DG c tg g) (hs : ∀ env, swapsWithSole [tg] e pos.line env = pure false := by intro _; rfl) (hw : ∀ env, env.scope = c.sc → swappedStores [tg] e env = pure none := by intro _ _; rfl)
    (h1 : ∀ env, (assignEach [tg] env).map (·.2) = [assign tg env] := by intro _; rfl) : DS c (.Assign [tg] e pos) (qAsg f g) := fun X gd B => (ps_asg (he X gd.toGood B) (hg X gd B) (hs _) (hw _ gd.sc) (h1 _)).im fun D σ H => by
  rintro ⟨F, τ, M, d, a, hf, tk, hd⟩
  refine ⟨F, τ, M, _, _, a, hf, takes_x tk, fun r M' F' v H' h' s' r' e' => ?_⟩
  exact ⟨F', τ, M', _, _, a.next s' r', e', h', fun τ2 M2 F2 σ2 H2 h2 s2 r2 sr2 => hd.nx _ _ _ _ _ h2 (s'.trans s2) r2 sr2⟩
theorem ds_set {c : Cf} (i : Nat) {x : Str} {e : Expr} {pos pos' : Pos} {f : QE} (hN : c.N.Nodup) (he : DE c e f) (hi : c.N[i]? = some x := by rfl) (hx : Loc c.sc x := by first | exact Or.inl rfl | exact Or.inr rfl) (hs : ∀ env, swapsWith e (some (.Name x pos')) pos.line env = pure false := by intro _; rfl) : DS c (.Assign [.Name x pos'] e pos) (qAsg f (gSet i)) := fun X gd B =>
  (ps_set (i := i) (by rw [gd.N]; exact hN) (by rw [gd.N]; exact hi) (by rw [gd.sc]; exact hx) (he X gd.toGood B) (hs _) (.inl (by rw [gd.fn]))).im fun D σ H => by
    rintro ⟨F, τ, M, d, a, hf, tk, hd⟩
    refine ⟨F, τ, M, _, _, a, hf, takes_x tk, fun r M' F' v H' h' s' r' e' => ?_⟩
    exact hd.nx _ _ _ _ _ h' s' r' ((a.s.mono s').set e' i)
/-- a, b = x, y with plain local names -/
def parP (i j : Nat) (d : PEnds) (τ : Tau) : List PV → PM → Prop
  | [p, q], M' => d.nx ((τ.set i (some p)).set j (some q)) M'
  | _, _ => False
set_option autoImplicit true in
@[simp] theorem parP_s1 (i j : Nat) (d : PEnds) (τ : Tau) : parP i j d τ [p, q] M' = (d.nx ((τ.set i (some p)).set j (some q)) M') := rfl
@[simp] def qPar (i j : Nat) (r : QA) : QS := fun d τ M => r τ M (dx d τ) fun ps M' => parP i j d τ ps M'
theorem ds_par {c : Cf} {i j : Nat} {x y : Str} {a b : Expr} {r : QA} {px py pt pos : Pos} {kt k2 pt2} (hN : c.N.Nodup) (hi : c.N[i]? = some x) (hj : c.N[j]? = some y) (hij : i ≠ j) (hx : c.sc.names.lookup x = some .local) (hy : c.sc.names.lookup y = some .local) (ha : DA c [a, b] r)
    (hw : ∀ env, env.scope = c.sc → swappedStores [.Tuple [.Name x px, .Name y py] kt pt] (.Tuple [a, b] k2 pt2) env = pure (some [x, y]))
    (hs : ∀ env, swapsWithSole [.Tuple [.Name x px, .Name y py] kt pt] (.Tuple [a, b] k2 pt2) pos.line env = pure false := by intro _; rfl) : DS c (.Assign [.Tuple [.Name x px, .Name y py] kt pt] (.Tuple [a, b] k2 pt2) pos) (qPar i j r) := fun X gd B =>
  (ps_par (i := i) (j := j) gd.calm (by rw [gd.N]; exact hN) (by rw [gd.N]; exact hi) (by rw [gd.N]; exact hj) hij (by rw [gd.sc]; exact hx) (by rw [gd.sc]; exact hy) (ha X gd.toGood B) (hw _ gd.sc) (hs _)).im fun D σ H => by
    rintro ⟨F, τ, M, d, a, hf, tk, hd⟩
    refine ⟨F, τ, M, _, _, a, hf, takes_x tk, fun ps M' F' vs H' h' s' r' e' => ?_⟩
    cases e' with
    | nil => exact h'.elim
    | cons e1 e2 =>
      cases e2 with
      | nil => exact h'.elim
      | cons e3 e4 =>
        cases e4 with
        | cons _ _ => exact h'.elim
        | nil => exact ⟨_, _, rfl, hd.nx _ _ _ _ _ h' s' r' (((a.s.mono s').set e1 i).set e3 j)⟩
end Q
namespace Q
open PySem PySem.Spec PyProof.Rows L2

/-! ### a rule by values, from the hand layer's -/
theorem oq_of {c : Cf} {f : Value → Value → Sem Value} {r : Q2} {t : Cx → R2} (h : ∀ X, Good c X → OpR X f (t X)) (hi : ∀ X, Good c X → ∀ x y H Q, lR X.K r x y H Q → t X x y H Q) : OQ c f r := fun X g pins s σ H x y v u Q I rx ry hr =>
  h X g pins s σ H x y v u Q I rx ry (hi X g x y H Q hr)
/-- a list whose items are this call's own to read: it never changes, or stands as it is -/
def lstP : PV → PM → (List PV → Prop) → Prop
  | .lst xs, _, k => k xs
  | .ref a, M, k => match M a with
    | some (.lst xs) => k xs
    | _ => False
  | .non, _, _ => False
  | .bl _, _, _ => False
  | .int _, _, _ => False
  | .str _, _, _ => False
  | .ty _, _, _ => False
  | .tup _, _, _ => False
  | .rdl _, _, _ => False
  | .tpx _, _, _ => False
set_option autoImplicit true in
@[simp] theorem lstP_s1 : lstP  (.lst xs) w1 k = (k xs) := rfl
set_option autoImplicit true in
@[simp] theorem lstP_s2 : lstP  (.ref a) M k = (match M a with
    | some (.lst xs) => k xs
    | _ => False) := rfl
theorem lstP_ok {K : Fg} {F : Hp} {M : PM} {H : Hp} {p : PV} {v : V} {k : List PV → Prop} (R : Rel K F M H) (e : Rep K F p v) (h : lstP p M k) : ∃ a vs xs, v = .ref a ∧ H a = some (.lst vs) ∧ Reps K F xs vs ∧ k xs := by
  cases e with
  | ref a =>
    have h' : (match M a with | some (.lst xs) => k xs | _ => False) := h
    split at h'
    · rename_i xs e2
      obtain ⟨vs, e3, e4⟩ := R.getL e2
      exact ⟨_, _, _, rfl, e3, e4, h'⟩
    · exact h'.elim
  | lst hs r => exact ⟨_, _, _, rfl, R.sub _ _ hs, r, h⟩
  | _ => exact h.elim

def opAdd : Q2
  | .int i, .int j, M, k => k (.int (i + j)) M
  | .str a, .str b, M, k => a.length + b.length ≤ sizeLine ∧ k (.str (a ++ b)) M
  | .tup a, .tup b, M, k => a ≠ [] ∧ b ≠ [] ∧ a.length + b.length ≤ sizeLine ∧ k (.tup (a ++ b)) M
  | .lst a, .lst b, M, k => a.length + b.length ≤ sizeLine ∧ k (.lst (a ++ b)) M
  | .lst a, .ref b, M, k => lstP (.ref b) M fun b => a.length + b.length ≤ sizeLine ∧ k (.lst (a ++ b)) M
  | .ref a, .lst b, M, k => lstP (.ref a) M fun a => a.length + b.length ≤ sizeLine ∧ k (.lst (a ++ b)) M
  | .ref a, .ref b, M, k => lstP (.ref a) M fun a => lstP (.ref b) M fun b => a.length + b.length ≤ sizeLine ∧ k (.lst (a ++ b)) M
  | _, _, _, _ => False
set_option autoImplicit true in
@[simp] theorem opAdd_s1 : opAdd  (.int i) (.int j) M k = (k (.int (i + j)) M) := rfl
set_option autoImplicit true in
@[simp] theorem opAdd_s2 : opAdd  (.str a) (.str b) M k = (a.length + b.length ≤ sizeLine ∧ k (.str (a ++ b)) M) := rfl
set_option autoImplicit true in
@[simp] theorem opAdd_s3 : opAdd  (.tup a) (.tup b) M k = (a ≠ [] ∧ b ≠ [] ∧ a.length + b.length ≤ sizeLine ∧ k (.tup (a ++ b)) M) := rfl
set_option autoImplicit true in
@[simp] theorem opAdd_s4 : opAdd  (.lst a) (.lst b) M k = (a.length + b.length ≤ sizeLine ∧ k (.lst (a ++ b)) M) := rfl
set_option autoImplicit true in
@[simp] theorem opAdd_s5 : opAdd  (.lst a) (.ref b) M k = (lstP (.ref b) M fun b => a.length + b.length ≤ sizeLine ∧ k (.lst (a ++ b)) M) := rfl
set_option autoImplicit true in
@[simp] theorem opAdd_s6 : opAdd  (.ref a) (.lst b) M k = (lstP (.ref a) M fun a => a.length + b.length ≤ sizeLine ∧ k (.lst (a ++ b)) M) := rfl
set_option autoImplicit true in
@[simp] theorem opAdd_s7 : opAdd  (.ref a) (.ref b) M k = (lstP (.ref a) M fun a => lstP (.ref b) M fun b => a.length + b.length ≤ sizeLine ∧ k (.lst (a ++ b)) M) := rfl
theorem oq_add {c : Cf} : OQ c (binaryOp .Add) opAdd := by
  refine oq_of (t := fun X => _) (fun X g => op_add.or (op_add_str.or (op_cat.or op_catT))) fun X g x y H Q h => ?_
  obtain ⟨F, p, q, M, k, R, ep, eq_, ho, hk⟩ := h
  have lst2 : (lstP p M fun a => lstP q M fun b => a.length + b.length ≤ sizeLine ∧ k (.lst (a ++ b)) M) → (rCat x y H Q) := fun hl => by
    obtain ⟨a, vs, xs, rfl, h1, r1, hl⟩ := lstP_ok R ep hl
    obtain ⟨b, ws, ys, rfl, h2, r2, hz, hl⟩ := lstP_ok R eq_ hl
    refine ⟨a, b, vs, ws, rfl, rfl, h1, h2, by rw [← r1.length, ← r2.length]; exact hz, fun p hp => ?_⟩
    obtain ⟨R2, s2⟩ := R.newF hp (.lst (vs ++ ws))
    exact hk _ _ _ _ _ hl s2 R2 (.lst upd_same ((r1.append r2).mono s2))
  unfold opAdd at ho
  split at ho
  · cases ep; cases eq_
    exact .inl ⟨_, _, rfl, rfl, hk _ _ _ _ _ ho (Same.refl _) R (.int _)⟩
  · cases ep; cases eq_
    exact .inr (.inl ⟨_, _, rfl, rfl, ho.1, hk _ _ _ _ _ ho.2 (Same.refl _) R (.str _)⟩)
  · cases ep with
    | tup ha ra =>
      cases eq_ with
      | tup hb rb =>
        obtain ⟨na, nb, hz, ho⟩ := ho
        refine .inr (.inr (.inr ⟨_, _, _, _, rfl, rfl, sqT_mono R.sub ha, sqT_mono R.sub hb, fun z => na ?_, by rw [← ra.length, ← rb.length]; exact hz, fun z => (nb ?_).elim, fun _ p hp => ?_⟩))
        · subst z; cases ra; rfl
        · subst z; cases rb; rfl
        · obtain ⟨R2, s2⟩ := R.newF hp (.tup _)
          exact hk _ _ _ _ _ ho s2 R2 (.tup (SqT.of upd_same) ((ra.append rb).mono s2))
  · exact .inr (.inr (.inl (lst2 ho)))
  · exact .inr (.inr (.inl (lst2 ho)))
  · exact .inr (.inr (.inl (lst2 (by
      have h' := ho
      unfold lstP at h' ⊢
      dsimp only at h' ⊢
      split at h'
      · exact h'
      · exact h'))))
  · exact .inr (.inr (.inl (lst2 ho)))
  · exact ho.elim

def onI : PV → PV → (Int → Int → Prop) → Prop
  | .int i, .int j, f => f i j
  | _, _, _ => False
set_option autoImplicit true in
@[simp] theorem onI_s1 : onI  (.int i) (.int j) f = (f i j) := rfl
theorem onI_ok {K : Fg} {F : Hp} {p q : PV} {x y : V} {f : Int → Int → Prop} (ep : Rep K F p x) (eq_ : Rep K F q y) (h : onI p q f) : ∃ i j, x = .int i ∧ y = .int j ∧ p = .int i ∧ q = .int j ∧ f i j := by
  unfold onI at h
  split at h
  · cases ep; cases eq_
    exact ⟨_, _, rfl, rfl, rfl, rfl, h⟩
  · exact h.elim
@[simp] def opSub : Q2 := fun x y M k => onI x y fun i j => k (.int (i - j)) M
theorem oq_sub {c : Cf} : OQ c (binaryOp .Sub) opSub := by
  refine oq_of (t := fun X => _) (fun X g => op_sub) fun X g x y H Q h => ?_
  obtain ⟨F, p, q, M, k, R, ep, eq_, ho, hk⟩ := h
  obtain ⟨i, j, rfl, rfl, rfl, rfl, ho⟩ := onI_ok ep eq_ ho
  exact ⟨i, j, rfl, rfl, hk _ _ _ _ _ ho (Same.refl _) R (.int _)⟩
/-- a product that has room -/
def MulOk (i j : Int) : Prop := CMulW i j ∨ CMul i j
theorem MulOk.of {i j : Int} {a b : Nat} (ha : i.natAbs < 2 ^ a) (hb : j.natAbs < 2 ^ b) (h0 : 0 < a) (h1 : 0 < b) (h : a + b ≤ 1000000) : MulOk i j := .inl (wide_mul ha hb h0 h1 h)
theorem MulOk.left {i j : Int} (h : -(2 ^ 64) < i ∧ i < 2 ^ 64) : MulOk i j := .inr (.inl h)
theorem MulOk.right {i j : Int} (h : -(2 ^ 64) < j ∧ j < 2 ^ 64) : MulOk i j := .inr (.inr h)
def opMul : Q2
  | .int i, .int j, M, k => MulOk i j ∧ k (.int (i * j)) M
  | .lst a, .int j, M, k => (0 ≤ j ∧ j < 2 ^ 63 ∧ a.length * j.toNat ≤ sizeLine) ∧ k (.lst (List.replicate j.toNat a).flatten) M
  | _, _, _, _ => False
set_option autoImplicit true in
@[simp] theorem opMul_s1 : opMul  (.int i) (.int j) M k = (MulOk i j ∧ k (.int (i * j)) M) := rfl
set_option autoImplicit true in
@[simp] theorem opMul_s2 : opMul  (.lst a) (.int j) M k = ((0 ≤ j ∧ j < 2 ^ 63 ∧ a.length * j.toNat ≤ sizeLine) ∧ k (.lst (List.replicate j.toNat a).flatten) M) := rfl
theorem oq_mul {c : Cf} : OQ c (binaryOp .Mult) opMul := by
  refine oq_of (t := fun X => _) (fun X g => op_mulW.or (op_mul.or op_rep)) fun X g x y H Q h => ?_
  obtain ⟨F, p, q, M, k, R, ep, eq_, ho, hk⟩ := h
  unfold opMul at ho
  split at ho
  · cases ep; cases eq_
    obtain ⟨hm, ho⟩ := ho
    rcases hm with hm | hm
    · exact .inl ⟨_, _, rfl, rfl, hm, hk _ _ _ _ _ ho (Same.refl _) R (.int _)⟩
    · exact .inr (.inl ⟨_, _, rfl, rfl, hm, hk _ _ _ _ _ ho (Same.refl _) R (.int _)⟩)
  · cases ep with
    | lst ha ra =>
      cases eq_
      obtain ⟨⟨h0, h1, h2⟩, ho⟩ := ho
      refine .inr (.inr ⟨_, _, _, rfl, rfl, R.sub _ _ ha, by omega, h1, by rw [← ra.length]; exact h2, fun p hp => ?_⟩)
      obtain ⟨R2, s2⟩ := R.newF hp (.lst _)
      exact hk _ _ _ _ _ ho s2 R2 (.lst upd_same ((ra.rep _).mono s2))
  · exact ho.elim
def DivOk (j : Int) : Prop := 0 < j ∧ j.natAbs.log2 < 9000
theorem DivOk.of {j : Int} {b : Nat} (h : 0 < j) (hb : j.natAbs < 2 ^ b) (h0 : 0 < b) (h9 : b ≤ 9000) : DivOk j := ⟨h, Nat.lt_of_lt_of_le (PySem.Flt.log2_lt_of h0 hb) h9⟩
@[simp] def opDiv : Q2 := fun x y M k => onI x y fun i j => DivOk j ∧ k (.int (i / j)) M
theorem oq_div {c : Cf} : OQ c (binaryOp .FloorDiv) opDiv := by
  refine oq_of (t := fun X => _) (fun X g => op_fdivW) fun X g x y H Q h => ?_
  obtain ⟨F, p, q, M, k, R, ep, eq_, ho, hk⟩ := h
  obtain ⟨i, j, rfl, rfl, rfl, rfl, hd, ho⟩ := onI_ok ep eq_ ho
  exact ⟨i, j, rfl, rfl, hd, hk _ _ _ _ _ ho (Same.refl _) R (.int _)⟩
@[simp] def opMod : Q2 := fun x y M k => onI x y fun i j => 0 < j ∧ k (.int (i % j)) M
theorem oq_mod {c : Cf} : OQ c (binaryOp .Mod) opMod := by
  refine oq_of (t := fun X => _) (fun X g => op_mod) fun X g x y H Q h => ?_
  obtain ⟨F, p, q, M, k, R, ep, eq_, ho, hk⟩ := h
  obtain ⟨i, j, rfl, rfl, rfl, rfl, hd, ho⟩ := onI_ok ep eq_ ho
  exact ⟨i, j, rfl, rfl, hd, hk _ _ _ _ _ ho (Same.refl _) R (.int _)⟩
@[simp] def opPow : Q2 := fun x y M k => onI x y fun i j => (0 ≤ j ∧ j ≤ 1000000 ∧ i.natAbs < 2 ^ 64) ∧ k (.int (i ^ j.toNat)) M
theorem oq_pow {c : Cf} : OQ c (binaryOp .Pow) opPow := by
  refine oq_of (t := fun X => _) (fun X g => op_pow) fun X g x y H Q h => ?_
  obtain ⟨F, p, q, M, k, R, ep, eq_, ho, hk⟩ := h
  obtain ⟨i, j, rfl, rfl, rfl, rfl, hd, ho⟩ := onI_ok ep eq_ ho
  exact ⟨i, j, rfl, rfl, hd, hk _ _ _ _ _ ho (Same.refl _) R (.int _)⟩
/-- comparisons of ints -/
@[simp] def opI (p : Int → Int → Bool) : Q2 := fun x y M k => onI x y fun i j => k (.bl (p i j)) M
abbrev opLt : Q2 := opI fun i j => decide (i < j)
abbrev opLe : Q2 := opI fun i j => decide (i ≤ j)
abbrev opGt : Q2 := opI fun i j => decide (j < i)
abbrev opGe : Q2 := opI fun i j => decide (j ≤ i)
theorem oq_cmp {c : Cf} {f : Value → Value → Sem Value} {p : Int → Int → Bool} (h : ∀ X, OpR X f (rI0 fun i j => .bl (p i j))) : OQ c f (opI p) := by
  refine oq_of (t := fun X => _) (fun X g => h X) fun X g x y H Q h => ?_
  obtain ⟨F, p, q, M, k, R, ep, eq_, ho, hk⟩ := h
  obtain ⟨i, j, rfl, rfl, rfl, rfl, ho⟩ := onI_ok ep eq_ ho
  exact ⟨i, j, rfl, rfl, hk _ _ _ _ _ ho (Same.refl _) R (.bl _)⟩
theorem oq_lt {c : Cf} : OQ c (compareOp .Lt) opLt := oq_cmp fun _ => op_lt
theorem oq_le {c : Cf} : OQ c (compareOp .LtE) opLe := oq_cmp fun _ => op_le
theorem oq_gt {c : Cf} : OQ c (compareOp .Gt) opGt := oq_cmp fun _ => op_gt
theorem oq_ge {c : Cf} : OQ c (compareOp .GtE) opGe := oq_cmp fun _ => op_ge

/-! ### values as plain data: ==, != -/
mutual
def dat : PV → Option PyData
  | .non => some .none
  | .bl b => some (.bool b)
  | .int i => some (.int i)
  | .str x => some (.str x)
  | .tup xs => (datL xs).map .tuple
  | .lst xs => (datL xs).map .list
  | .rdl xs => (datL xs).map .list
  | .tpx xs => (datL xs).map .tuple
  | .ty _ => none
  | .ref _ => none
def datL : List PV → Option (List PyData)
  | [] => some []
  | x :: xs => match dat x, datL xs with
    | some d, some ds => some (d :: ds)
    | _, _ => none
end
def datM (M : PM) (x : PV) : Option PyData := match x with
  | .ref a => match M a with
    | some (.lst xs) => (datL xs).map .list
    | _ => none
  | x => dat x
mutual
theorem dat_ok {K : Fg} {F H : Hp} (s : Same F H) : ∀ (x : PV) (v : V) (d : PyData), Rep K F x v → dat x = some d → Dp K H v d ∧ d.plain = true
  | .non, _, _, e, h => by cases e; cases h; exact ⟨.non, rfl⟩
  | .bl _, _, _, e, h => by cases e; cases h; exact ⟨.bl _, rfl⟩
  | .int _, _, _, e, h => by cases e; cases h; exact ⟨.int _, rfl⟩
  | .str _, _, _, e, h => by cases e; cases h; exact ⟨.str _, rfl⟩
  | .ty _, _, _, _, h => by cases h
  | .ref _, _, _, _, h => by cases h
  | .tup xs, _, _, e, h => by
    cases e with
    | tup hs r =>
      rw [dat] at h
      obtain ⟨ds, h1, rfl⟩ := Option.map_eq_some_iff.mp h
      obtain ⟨h2, h3⟩ := datL_ok s xs _ ds r h1
      exact ⟨.tup (sqT_mono s hs) h2, h3⟩
  | .lst xs, _, _, e, h => by
    cases e with
    | lst hs r =>
      rw [dat] at h
      obtain ⟨ds, h1, rfl⟩ := Option.map_eq_some_iff.mp h
      obtain ⟨h2, h3⟩ := datL_ok s xs _ ds r h1
      exact ⟨.lst (SqL.of (s _ _ hs)) h2, h3⟩
  | .tpx xs, _, _, e, h => by
    cases e with
    | tpx hs r =>
      rw [dat] at h
      obtain ⟨ds, h1, rfl⟩ := Option.map_eq_some_iff.mp h
      obtain ⟨h2, h3⟩ := datL_ok s xs _ ds r h1
      exact ⟨.tup (sqT_mono s hs.sq) h2, h3⟩
  | .rdl xs, _, _, e, h => by
    cases e with
    | rdl hs r =>
      rw [dat] at h
      obtain ⟨ds, h1, rfl⟩ := Option.map_eq_some_iff.mp h
      obtain ⟨h2, h3⟩ := datL_ok s xs _ ds r h1
      exact ⟨.lst (s.seq hs) h2, h3⟩
theorem datL_ok {K : Fg} {F H : Hp} (s : Same F H) : ∀ (xs : List PV) (vs : List V) (ds : List PyData), Reps K F xs vs → datL xs = some ds → DpAll K H vs ds ∧ PyData.plainAll ds = true
  | [], _, _, e, h => by cases e; rw [datL] at h; cases h; exact ⟨.nil, rfl⟩
  | x :: xs, _, _, e, h => by
    cases e with
    | cons e1 e2 =>
      rw [datL] at h
      split at h
      · rename_i d ds h1 h2
        cases h
        obtain ⟨a1, a2⟩ := dat_ok s x _ d e1 h1
        obtain ⟨b1, b2⟩ := datL_ok s xs _ ds e2 h2
        exact ⟨.cons a1 b1, by rw [PyData.plainAll, a2, b2]; rfl⟩
      · cases h
end
theorem datM_ok {K : Fg} {F : Hp} {M : PM} {H : Hp} (R : Rel K F M H) {x : PV} {v : V} {d : PyData} (e : Rep K F x v) (h : datM M x = some d) : Dp K H v d ∧ d.plain = true := by
  cases e with
  | ref a =>
    have h' : (match M a with | some (.lst xs) => (datL xs).map PyData.list | _ => none) = some d := h
    split at h'
    · rename_i xs e2
      obtain ⟨vs, e3, e4⟩ := R.getL e2
      obtain ⟨ds, h1, rfl⟩ := Option.map_eq_some_iff.mp h'
      obtain ⟨h2, h3⟩ := datL_ok R.sub xs _ ds e4 h1
      exact ⟨.lst (SqL.of e3) h2, h3⟩
    · cases h'
  | non => exact dat_ok R.sub _ _ _ .non h
  | bl b => exact dat_ok R.sub _ _ _ (.bl b) h
  | int b => exact dat_ok R.sub _ _ _ (.int b) h
  | str b => exact dat_ok R.sub _ _ _ (.str b) h
  | ty b => cases h
  | tup a b => exact dat_ok R.sub _ _ _ (.tup a b) h
  | tpx a b => exact dat_ok R.sub _ _ _ (.tpx a b) h
  | lst a b => exact dat_ok R.sub _ _ _ (.lst a b) h
  | rdl a b => exact dat_ok R.sub _ _ _ (.rdl a b) h
def opEq (neg : Bool) : Q2 := fun x y M k => ∃ d e, datM M x = some d ∧ datM M y = some e ∧ min d.depth e.depth ≤ 60 ∧ k (.bl (if neg then !PyData.eqv d e else PyData.eqv d e)) M
theorem oq_eq {c : Cf} : OQ c (compareOp .Eq) (opEq false) := fun X g pins s σ H x y v u Q I rx ry h => by
  obtain ⟨F, p, q, M, k, R, ep, eq_, ⟨d, e, hd, he, hz, ho⟩, hk⟩ := h
  obtain ⟨d1, d2⟩ := datM_ok R ep hd
  obtain ⟨e1, e2⟩ := datM_ok R eq_ he
  obtain ⟨as, r1⟩ := Dp.reads I d x v d1 rx
  obtain ⟨bs, r2⟩ := Dp.reads I e y u e1 ry
  have hu := g.room.units
  exact SeqAt.eq_plain r1 r2 d2 e2 (by omega) ⟨.bl _, H, I, rfl, hk _ _ _ _ _ ho (Same.refl _) R (.bl _)⟩
theorem oq_ne {c : Cf} : OQ c (compareOp .NotEq) (opEq true) := fun X g pins s σ H x y v u Q I rx ry h => by
  obtain ⟨F, p, q, M, k, R, ep, eq_, ⟨d, e, hd, he, hz, ho⟩, hk⟩ := h
  obtain ⟨d1, d2⟩ := datM_ok R ep hd
  obtain ⟨e1, e2⟩ := datM_ok R eq_ he
  obtain ⟨as, r1⟩ := Dp.reads I d x v d1 rx
  obtain ⟨bs, r2⟩ := Dp.reads I e y u e1 ry
  have hu := g.room.units
  exact SeqAt.ne_plain r1 r2 d2 e2 (by omega) ⟨.bl _, H, I, rfl, hk _ _ _ _ _ ho (Same.refl _) R (.bl _)⟩
@[simp] theorem opEq_int {neg : Bool} {i j : Int} {M : PM} {k : PK} : opEq neg (.int i) (.int j) M k ↔ k (.bl (if neg then !decide (i = j) else decide (i = j))) M := by
  simp [opEq, datM, dat, PyData.eqv, PyData.depth, Bool.beq_eq_decide_eq]
@[simp] theorem opEq_str {neg : Bool} {i j : Str} {M : PM} {k : PK} : opEq neg (.str i) (.str j) M k ↔ k (.bl (if neg then !(i == j) else (i == j))) M := by
  simp [opEq, datM, dat, PyData.eqv, PyData.depth]
@[simp] theorem opEq_bl {neg : Bool} {i j : Bool} {M : PM} {k : PK} : opEq neg (.bl i) (.bl j) M k ↔ k (.bl (if neg then !(i == j) else (i == j))) M := by
  simp [opEq, datM, dat, PyData.eqv, PyData.depth]
/-- is, is not: None on the right; two bools -/
def opIs (neg : Bool) : Q2
  | .non, .non, M, k => k (.bl (!neg)) M
  | .bl _, .non, M, k => k (.bl neg) M
  | .int _, .non, M, k => k (.bl neg) M
  | .str _, .non, M, k => k (.bl neg) M
  | .tup _, .non, M, k => k (.bl neg) M
  | .lst _, .non, M, k => k (.bl neg) M
  | .rdl _, .non, M, k => k (.bl neg) M
  | .tpx _, .non, M, k => k (.bl neg) M
  | .ref _, .non, M, k => k (.bl neg) M
  | .bl a, .bl b, M, k => k (.bl (if neg then !decide (a = b) else decide (a = b))) M
  | _, _, _, _ => False
set_option autoImplicit true in
@[simp] theorem opIs_s1 (neg : Bool) : opIs neg .non .non M k = (k (.bl (!neg)) M) := rfl
set_option autoImplicit true in
@[simp] theorem opIs_s2 (neg : Bool) : opIs neg (.bl w1) .non M k = (k (.bl neg) M) := rfl
set_option autoImplicit true in
@[simp] theorem opIs_s3 (neg : Bool) : opIs neg (.int w1) .non M k = (k (.bl neg) M) := rfl
set_option autoImplicit true in
@[simp] theorem opIs_s4 (neg : Bool) : opIs neg (.str w1) .non M k = (k (.bl neg) M) := rfl
set_option autoImplicit true in
@[simp] theorem opIs_s5 (neg : Bool) : opIs neg (.tup w1) .non M k = (k (.bl neg) M) := rfl
set_option autoImplicit true in
@[simp] theorem opIs_s6 (neg : Bool) : opIs neg (.lst w1) .non M k = (k (.bl neg) M) := rfl
set_option autoImplicit true in
@[simp] theorem opIs_s7 (neg : Bool) : opIs neg (.rdl w1) .non M k = (k (.bl neg) M) := rfl
set_option autoImplicit true in
@[simp] theorem opIs_s8 (neg : Bool) : opIs neg (.ref w1) .non M k = (k (.bl neg) M) := rfl
set_option autoImplicit true in
@[simp] theorem opIs_s9 (neg : Bool) : opIs neg (.bl a) (.bl b) M k = (k (.bl (if neg then !decide (a = b) else decide (a = b))) M) := rfl
theorem opIs_ok {K : Fg} {F : Hp} {H : Hp} {M : PM} {p q : PV} {x y : V} {k : PK} {neg : Bool} (ep : Rep K F p x) (eq_ : Rep K F q y) (h : opIs neg p q M k) :
    (y = .non ∧ k (.bl (if neg then !decide (x = .non) else decide (x = .non))) M) ∨ (∃ a b, x = .bl a ∧ y = .bl b ∧ k (.bl (if neg then !decide (a = b) else decide (a = b))) M) := by
  cases eq_ with
  | non =>
    refine .inl ⟨rfl, ?_⟩
    cases ep <;> (try exact h.elim) <;> (cases neg <;> exact h)
  | bl b =>
    cases ep with
    | bl a => exact .inr ⟨_, _, rfl, rfl, h⟩
    | _ => exact h.elim
  | _ => cases ep <;> exact h.elim
theorem oq_is {c : Cf} : OQ c (compareOp .Is) (opIs false) := by
  refine oq_of (t := fun X => _) (fun X g => op_isN.or op_isBl) fun X g x y H Q h => ?_
  obtain ⟨F, p, q, M, k, R, ep, eq_, ho, hk⟩ := h
  rcases opIs_ok (H := H) ep eq_ ho with ⟨rfl, ho⟩ | ⟨a, b, rfl, rfl, ho⟩
  · exact .inl ⟨rfl, hk _ _ _ _ _ ho (Same.refl _) R (.bl _)⟩
  · exact .inr ⟨a, b, rfl, rfl, hk _ _ _ _ _ ho (Same.refl _) R (.bl _)⟩
theorem oq_isnot {c : Cf} : OQ c (compareOp .IsNot) (opIs true) := by
  refine oq_of (t := fun X => _) (fun X g => op_notN.or op_notBl) fun X g x y H Q h => ?_
  obtain ⟨F, p, q, M, k, R, ep, eq_, ho, hk⟩ := h
  rcases opIs_ok (H := H) ep eq_ ho with ⟨rfl, ho⟩ | ⟨a, b, rfl, rfl, ho⟩
  · exact .inl ⟨rfl, hk _ _ _ _ _ ho (Same.refl _) R (.bl _)⟩
  · exact .inr ⟨a, b, rfl, rfl, hk _ _ _ _ _ ho (Same.refl _) R (.bl _)⟩

/-! ### one-place operators -/
def negP : PV → PM → PK → Prop
  | .int i, M', k => k (.int (-i)) M'
  | _, _, _ => False
set_option autoImplicit true in
@[simp] theorem negP_s1 : negP  (.int i) M' k = (k (.int (-i)) M') := rfl
@[simp] def qNeg (f : QE) : QE := fun τ M x k => f τ M x fun v M' => negP v M' k
theorem de_neg {c : Cf} {a : Expr} {pos : Pos} {f : QE} (h : DE c a f) : DE c (.UnaryOp .USub a pos) (qNeg f) := fun X g B => (pe_un un_neg (h X g B)).im fun σ H Q => by
  rintro ⟨F, τ, M, x, k, a, hf, tk, hk⟩
  refine ⟨F, τ, M, x, _, a, hf, tk, fun p M1 F1 v1 H1 h1 s1 r1 e1 => ?_⟩
  cases e1 with
  | int i => exact ⟨i, rfl, hk _ _ _ _ _ h1 s1 r1 (.int _)⟩
  | _ => exact h1.elim

/-! ### items -/
def opIx : Q2
  | .str z, .int i, M, k => z.length ≤ sizeLine ∧ match atI z.cps.toList i with
      | some c => k (.str ⟨#[c]⟩) M
      | none => False
  | .tup xs, .int i, M, k => match atI xs i with
      | some v => k v M
      | none => False
  | .lst xs, .int i, M, k => match atI xs i with
      | some v => k v M
      | none => False
  | .rdl xs, .int i, M, k => match atI xs i with
      | some v => k v M
      | none => False
  | .tpx xs, .int i, M, k => match atI xs i with
      | some v => k v M
      | none => False
  | .ref a, .int i, M, k => seqP (.ref a) M fun xs => match atI xs i with
      | some v => k v M
      | none => False
  | _, _, _, _ => False
set_option autoImplicit true in
@[simp] theorem opIx_s1 : opIx  (.str z) (.int i) M k = (z.length ≤ sizeLine ∧ match atI z.cps.toList i with
      | some c => k (.str ⟨#[c]⟩) M
      | none => False) := rfl
set_option autoImplicit true in
@[simp] theorem opIx_s2 : opIx  (.tup xs) (.int i) M k = (match atI xs i with
      | some v => k v M
      | none => False) := rfl
set_option autoImplicit true in
@[simp] theorem opIx_s6 : opIx  (.tpx xs) (.int i) M k = (match atI xs i with
      | some v => k v M
      | none => False) := rfl
set_option autoImplicit true in
@[simp] theorem opIx_s3 : opIx  (.lst xs) (.int i) M k = (match atI xs i with
      | some v => k v M
      | none => False) := rfl
set_option autoImplicit true in
@[simp] theorem opIx_s4 : opIx  (.rdl xs) (.int i) M k = (match atI xs i with
      | some v => k v M
      | none => False) := rfl
set_option autoImplicit true in
@[simp] theorem opIx_s5 : opIx  (.ref a) (.int i) M k = (seqP (.ref a) M fun xs => match atI xs i with
      | some v => k v M
      | none => False) := rfl
theorem reps_atI {K : Fg} {F : Hp} {xs : List PV} {vs : List V} {i : Int} {p : PV} (r : Reps K F xs vs) (h : atI xs i = some p) : ∃ v, atI vs i = some v ∧ Rep K F p v := by
  unfold atI at h ⊢
  rw [← r.length]
  cases e : ixN xs.length i with
  | none => rw [e] at h; cases h
  | some j =>
    rw [e] at h
    obtain ⟨v, h1, h2⟩ := r.get (show xs[j]? = some p from h)
    exact ⟨v, h1, h2⟩
theorem ix_q {K : Fg} {x y : V} {H : Hp} {Q : VK} (h : lR K opIx x y H Q) : rIx K x y H Q := by
  obtain ⟨F, p, q, M, k, R, ep, eq_, ho, hk⟩ := h
  have seq : ∀ {i : Int}, (seqP p M fun xs => match atI xs i with | some v => k v M | none => False) → y = .int i → rIx K x y H Q := fun {i} ho ey => by
    subst ey
    obtain ⟨a, vs, xs, rfl, hs, r, ho⟩ := seqP_ok R ep ho
    split at ho
    · rename_i e
      obtain ⟨v, e1, e2⟩ := reps_atI r e
      rcases hs with hs | hs
      · exact .inr (.inl ⟨_, _, _, _, rfl, rfl, hs, e1, hk _ _ _ _ _ ho (Same.refl _) R e2⟩)
      · exact .inl ⟨_, _, _, _, rfl, rfl, hs, e1, hk _ _ _ _ _ ho (Same.refl _) R e2⟩
    · exact ho.elim
  cases eq_ with
  | int i =>
    cases p with
    | str z =>
      cases ep
      obtain ⟨hz, ho⟩ := ho
      split at ho
      · rename_i e
        exact .inr (.inr ⟨_, _, _, rfl, rfl, hz, e, hk _ _ _ _ _ ho (Same.refl _) R (.str _)⟩)
      · exact ho.elim
    | tup xs => exact seq ho rfl
    | lst xs => exact seq ho rfl
    | rdl xs => exact seq ho rfl
    | tpx xs => exact seq ho rfl
    | ref xs => exact seq ho rfl
    | _ => exact ho.elim
  | _ => cases p <;> exact ho.elim
theorem de_ix {c : Cf} {a b : Expr} {pos : Pos} {fa fb : QE} (ha : DE c a fa) (hb : DE c b fb) (hs : PlainIx b := by intro _ _; rfl) : DE c (.Subscript a b pos) (qBin opIx fa fb) := fun X g B =>
  (pe_ix ix_seq (ha X g B) (hb X g B) hs).im fun σ H Q h => by
    obtain ⟨F, τ, M, x, k, a, hf, tk, hk⟩ := h
    refine ⟨F, τ, M, x, _, a, hf, tk, fun p M1 F1 v1 H1 h1 s1 r1 e1 => ?_⟩
    refine ⟨F1, τ, M1, x, _, a.next s1 r1, h1, tk, fun q M2 F2 v2 H2 h2 s2 r2 e2 => ?_⟩
    exact ix_q ⟨F2, p, q, M2, k, r2, e1.mono s2, e2, h2, fun z M' F' v H' hz s' r' e' => hk z M' F' v H' hz ((s1.trans s2).trans s') r' e'⟩
/-- xs[i] = e -/
def setP (v : PV) (τ : Tau) (k : Tau → PM → Prop) : PV → PV → PM → Prop
  | .ref a, .int i, Mz => match Mz a with
    | some (.lst xs) => match ixN xs.length i with
      | some j => k τ (updM Mz a (.lst (xs.set j v)))
      | none => False
    | _ => False
  | _, _, _ => False
set_option autoImplicit true in
@[simp] theorem setP_s1 (v : PV) (τ : Tau) (k : Tau → PM → Prop) : setP v τ k (.ref a) (.int i) Mz = (match Mz a with
    | some (.lst xs) => match ixN xs.length i with
      | some j => k τ (updM Mz a (.lst (xs.set j v)))
      | none => False
    | _ => False) := rfl
@[simp] def gItem (fo fi : QE) : QG := fun v τ M k => fo τ M (fun _ _ => False) fun o M1 => fi τ M1 (fun _ _ => False) fun i M2 => setP v τ k o i M2
theorem takes_f {X : Cx} {B : Hp} {τ : Tau} : Takes X (lW X.K B fun e τ' M' => τ' = τ ∧ False) := fun u s' x => by
  obtain ⟨_, _, _, _, _, _, _, _, _, _, _, _, _, _, _, _, z⟩ := x
  obtain ⟨_, _, _, _, _, _, _, _, _, w⟩ := z
  exact w.elim
theorem dg_item {c : Cf} {o i : Expr} {pos : Pos} {fo fi : QE} (ho : DE c o fo) (hi : DE c i fi) (ha : ∀ env v, assign (.Subscript o i pos) env v = (do
      let ov ← holding [v] (eval o env)
      let iv ← holding [v, ov] (eval i env)
      standAt pos
      holding [v, ov, iv] (setItem ov iv v)
      release [v, ov, iv] []) := by intro _ _; rfl) : DG c (.Subscript o i pos) (gItem fo fi) := fun X g B =>
  (pg_sub (ho X g.toGood B) (hi X g.toGood B) set_list (ha _)).im fun v σ H Q => by
    rintro ⟨F, τ, M, p, k, a, e, hg, hk⟩
    refine ⟨F, τ, M, _, _, a, hg, takes_f, fun q M1 F1 v1 H1 h1 s1 r1 e1 => ?_⟩
    refine ⟨F1, τ, M1, _, _, a.next s1 r1, h1, takes_f, fun w M2 F2 v2 H2 h2 s2 r2 e2 => ?_⟩
    have e1' := e1.mono s2
    unfold setP at h2
    split at h2
    · cases e1'; cases e2
      split at h2
      · rename_i e3
        split at h2
        · rename_i e4
          obtain ⟨vs, q1, q2⟩ := r2.getL e3
          refine ⟨_, _, _, _, rfl, rfl, q1, by rw [← q2.length]; exact e4, ?_⟩
          exact hk _ _ _ _ _ h2 (s1.trans s2) (r2.setL e3 (Reps.set ((e.mono s1).mono s2) _ q2)) (a.s.mono (s1.trans s2))
        · exact h2.elim
      · exact h2.elim
    · exact h2.elim

/-! ### built-in calls -/
abbrev QC := List PV → PM → PK → Prop
def lC (K : Fg) (r : QC) : List V → Hp → VK → Prop := fun vs H Q => ∃ F ps M k, Rel K F M H ∧ Reps K F ps vs ∧ r ps M k ∧ ∀ z M' F' v H', k z M' → Same F F' → Rel K F' M' H' → Rep K F' z v → Q v H'
def CQ (c : Cf) (f : Value) (r : QC) : Prop := ∀ X, Good c X → CallR X f (lC X.K r)
@[simp] def qCallB (r : QC) (fa : QA) : QE := fun τ M x k => fa τ M x fun ps M1 => r ps M1 k
theorem argsC {X : Cx} {B : Hp} {r : QC} {fa : QA} {σ : L2.St} {H : Hp} {Q : VK} (h : lE X B (qCallB r fa) σ H Q) : tCB (lC X.K r) (lA X B fa) σ H Q := by
  obtain ⟨F, τ, M, x, k, a, hf, tk, hk⟩ := h
  refine ⟨F, τ, M, x, _, a, hf, tk, fun ps M1 F1 vs H1 h1 s1 r1 e1 => ?_⟩
  exact ⟨F1, ps, M1, k, r1, e1, h1, fun z M' F' v H' hz s' r' e' => hk z M' F' v H' hz (s1.trans s') r' e'⟩
theorem de_callB {c : Cf} {x : Str} {id : String} {p pos : Pos} {e : Expr} {es : List Expr} {r : QC} {fa : QA} (hc : CQ c (.builtin id) r) (hg : c.sc.names.lookup x = some .globalImplicit) (hm : c.g.mg x = none) (hv : bootBuiltins x = some (.builtin id)) (ha : DA c (e :: es) fa)
    (hn : x ≠ "__name__" := by decide) (hdb : (x == ("__debug__" : Str)) = false := by decide) (he : ∀ env, starEach (e :: es) env = (false, eval e env) :: starEach es env := by intro _; rfl) (hpl : ∀ env, (backTo pos (starEach es env)).any (·.1) = false := by intro _; rfl) :
    DE c (.Call (.Name x p) (e :: es) [] pos) (qCallB r fa) := fun X g B =>
  (pe_callB (hc X g) (gl_of g.sc hg) (by rw [g.mg]; exact hm) hv (ha X g B) hn hdb (he _) (hpl _)).im fun _ _ _ h => argsC h
theorem de_callTy {c : Cf} {x : Str} {T : String} {p pos : Pos} {e : Expr} {es : List Expr} {r : QC} {fa : QA} (hc : CQ c (.type T) r) (hg : c.sc.names.lookup x = some .globalImplicit) (hm : c.g.mg x = none) (hv : bootBuiltins x = some (.type T)) (ha : DA c (e :: es) fa)
    (hn : x ≠ "__name__" := by decide) (hdb : (x == ("__debug__" : Str)) = false := by decide) (he : ∀ env, starEach (e :: es) env = (false, eval e env) :: starEach es env := by intro _; rfl) (hpl : ∀ env, (backTo pos (starEach es env)).any (·.1) = false := by intro _; rfl) :
    DE c (.Call (.Name x p) (e :: es) [] pos) (qCallB r fa) := fun X g B =>
  (pe_callTy (hc X g) (gl_of g.sc hg) (by rw [g.mg]; exact hm) hv (ha X g B) hn hdb (he _) (hpl _)).im fun _ _ _ h => argsC h
/-- len -/
def cLen : QC
  | [.str z], M, k => z.length ≤ sizeLine ∧ k (.int z.length) M
  | [.tup xs], M, k => k (.int xs.length) M
  | [.lst xs], M, k => k (.int xs.length) M
  | [.rdl xs], M, k => k (.int xs.length) M
  | [.tpx xs], M, k => k (.int xs.length) M
  | [.ref a], M, k => seqP (.ref a) M fun xs => k (.int xs.length) M
  | _, _, _ => False
set_option autoImplicit true in
@[simp] theorem cLen_s1 : cLen  [.str z] M k = (z.length ≤ sizeLine ∧ k (.int z.length) M) := rfl
set_option autoImplicit true in
@[simp] theorem cLen_s2 : cLen  [.tup xs] M k = (k (.int xs.length) M) := rfl
set_option autoImplicit true in
@[simp] theorem cLen_s6 : cLen  [.tpx xs] M k = (k (.int xs.length) M) := rfl
set_option autoImplicit true in
@[simp] theorem cLen_s3 : cLen  [.lst xs] M k = (k (.int xs.length) M) := rfl
set_option autoImplicit true in
@[simp] theorem cLen_s4 : cLen  [.rdl xs] M k = (k (.int xs.length) M) := rfl
set_option autoImplicit true in
@[simp] theorem cLen_s5 : cLen  [.ref a] M k = (seqP (.ref a) M fun xs => k (.int xs.length) M) := rfl
theorem cq_len {c : Cf} : CQ c (.builtin "len") cLen := fun X g pins s σ H xs us Q I r h => by
  refine (CallR.or call_len_seq call_len_str) pins s σ H xs us Q I r ?_
  obtain ⟨F, ps, M, k, R, ep, ho, hk⟩ := h
  cases ep with
  | nil => exact ho.elim
  | @cons p v ps vs e1 e2 =>
    cases e2 with
    | cons _ _ => cases p <;> exact ho.elim
    | nil =>
      have seq : (seqP p M fun xs => k (.int xs.length) M) → (∃ q ys, [v] = [V.ref q] ∧ (SqL X.K H q ys ∨ SqT X.K H q ys) ∧ Q (.int ys.length) H) := fun ho => by
        obtain ⟨a, vs, ys, rfl, hs, r', ho⟩ := seqP_ok R e1 ho
        exact ⟨a, vs, rfl, hs.symm, by rw [← r'.length]; exact hk _ _ _ _ _ ho (Same.refl _) R (.int _)⟩
      cases p with
      | str z =>
        cases e1
        exact .inr ⟨_, rfl, ho.1, hk _ _ _ _ _ ho.2 (Same.refl _) R (.int _)⟩
      | tup xs => exact .inl (seq ho)
      | lst xs => exact .inl (seq ho)
      | rdl xs => exact .inl (seq ho)
      | tpx xs => exact .inl (seq ho)
      | ref xs => exact .inl (seq ho)
      | _ => exact ho.elim
def cI2 (g : Int → Int → Int) : QC
  | [.int i, .int j], M, k => k (.int (g i j)) M
  | _, _, _ => False
set_option autoImplicit true in
@[simp] theorem cI2_s1 (g : Int → Int → Int) : cI2 g [.int i, .int j] M k = (k (.int (g i j)) M) := rfl
theorem cq_i2 {c : Cf} {f : Value} {gg : Int → Int → Int} (h : ∀ X, Good c X → CallR X f (fun xs H Q => ∃ i j, xs = [.int i, .int j] ∧ Q (.int (gg i j)) H)) : CQ c f (cI2 gg) := fun X g pins s σ H xs us Q I r hh => by
  refine h X g pins s σ H xs us Q I r ?_
  obtain ⟨F, ps, M, k, R, ep, ho, hk⟩ := hh
  unfold cI2 at ho
  split at ho
  · cases ep with
    | cons e1 e2 =>
      cases e1
      cases e2 with
      | cons e3 e4 =>
        cases e3; cases e4
        exact ⟨_, _, rfl, hk _ _ _ _ _ ho (Same.refl _) R (.int _)⟩
  · exact ho.elim
def maxI (i j : Int) : Int := if j > i then j else i
def minI (i j : Int) : Int := if j < i then j else i
theorem cq_max {c : Cf} : CQ c (.builtin "max") (cI2 maxI) := cq_i2 fun X g => call_max2 g.calm
theorem cq_min {c : Cf} : CQ c (.builtin "min") (cI2 minI) := cq_i2 fun X g => call_min2 g.calm
def cAbs : QC
  | [.int i], M, k => k (.int (if i < 0 then -i else i)) M
  | _, _, _ => False
set_option autoImplicit true in
@[simp] theorem cAbs_s1 : cAbs  [.int i] M k = (k (.int (if i < 0 then -i else i)) M) := rfl
theorem cq_abs {c : Cf} : CQ c (.builtin "abs") cAbs := fun X g pins s σ H xs us Q I r hh => by
  refine call_abs pins s σ H xs us Q I r ?_
  obtain ⟨F, ps, M, k, R, ep, ho, hk⟩ := hh
  unfold cAbs at ho
  split at ho
  · cases ep with
    | cons e1 e2 =>
      cases e1; cases e2
      exact ⟨_, rfl, hk _ _ _ _ _ ho (Same.refl _) R (.int _)⟩
  · exact ho.elim
/-- isinstance against a built-in type -/
inductive Tg where
  | int | bool | str | tup | lst | non | dct
def Tg.nm : Tg → String
  | .int => "int" | .bool => "bool" | .str => "str" | .tup => "tuple" | .lst => "list" | .non => "NoneType" | .dct => "dict"
@[simp] def tInt : Tg → Bool
  | .int => true | .bool => true | .str => false | .tup => false | .lst => false | .non => false | .dct => false
@[simp] def tBool : Tg → Bool
  | .int => false | .bool => true | .str => false | .tup => false | .lst => false | .non => false | .dct => false
@[simp] def tStr : Tg → Bool
  | .int => false | .bool => false | .str => true | .tup => false | .lst => false | .non => false | .dct => false
@[simp] def tTup : Tg → Bool
  | .int => false | .bool => false | .str => false | .tup => true | .lst => false | .non => false | .dct => false
@[simp] def tDct : Tg → Bool
  | .int => false | .bool => false | .str => false | .tup => false | .lst => false | .non => false | .dct => true
@[simp] def tLst : Tg → Bool
  | .int => false | .bool => false | .str => false | .tup => false | .lst => true | .non => false | .dct => false
def isTg (t : Tg) (n : String) : Option Bool :=
  if n = "int" then some (tInt t) else if n = "bool" then some (tBool t) else if n = "str" then some (tStr t)
  else if n = "tuple" then some (tTup t) else if n = "list" then some (tLst t) else if n = "dict" then some (tDct t) else none
@[simp] theorem isTg_int {t : Tg} : isTg t "int" = some (tInt t) := rfl
@[simp] theorem isTg_bool {t : Tg} : isTg t "bool" = some (tBool t) := rfl
@[simp] theorem isTg_str {t : Tg} : isTg t "str" = some (tStr t) := rfl
@[simp] theorem isTg_tup {t : Tg} : isTg t "tuple" = some (tTup t) := rfl
@[simp] theorem isTg_lst {t : Tg} : isTg t "list" = some (tLst t) := rfl
@[simp] theorem isTg_dict {t : Tg} : isTg t "dict" = some (tDct t) := rfl
theorem isTg_ok {t : Tg} {n : String} {b : Bool} (h : isTg t n = some b) : kitB t.nm n = some b := by
  unfold isTg at h
  split at h
  · rename_i e; subst e; rw [← h]; cases t <;> decide +kernel
  split at h
  · rename_i e; subst e; rw [← h]; cases t <;> decide +kernel
  split at h
  · rename_i e; subst e; rw [← h]; cases t <;> decide +kernel
  split at h
  · rename_i e; subst e; rw [← h]; cases t <;> decide +kernel
  split at h
  · rename_i e; subst e; rw [← h]; cases t <;> decide +kernel
  split at h
  · rename_i e; subst e; rw [← h]; cases t <;> decide +kernel
  · cases h
def tgP : PV → PM → (Tg → Prop) → Prop
  | .non, _, k => k .non
  | .bl _, _, k => k .bool
  | .int _, _, k => k .int
  | .str _, _, k => k .str
  | .tup _, _, k => k .tup
  | .lst _, _, k => k .lst
  | .rdl _, _, k => k .lst
  | .tpx _, _, k => k .tup
  | .ref a, M, k => match M a with
    | some (.lst _) => k .lst
    | some (.dK _) => k .dct
    | _ => False
  | .ty _, _, _ => False
set_option autoImplicit true in
@[simp] theorem tgP_s1 : tgP  .non w1 k = (k .non) := rfl
set_option autoImplicit true in
@[simp] theorem tgP_s2 : tgP  (.bl w1) w2 k = (k .bool) := rfl
set_option autoImplicit true in
@[simp] theorem tgP_s3 : tgP  (.int w1) w2 k = (k .int) := rfl
set_option autoImplicit true in
@[simp] theorem tgP_s4 : tgP  (.str w1) w2 k = (k .str) := rfl
set_option autoImplicit true in
@[simp] theorem tgP_s5 : tgP  (.tup w1) w2 k = (k .tup) := rfl
set_option autoImplicit true in
@[simp] theorem tgP_s9 : tgP  (.tpx w1) w2 k = (k .tup) := rfl
set_option autoImplicit true in
@[simp] theorem tgP_s6 : tgP  (.lst w1) w2 k = (k .lst) := rfl
set_option autoImplicit true in
@[simp] theorem tgP_s7 : tgP  (.rdl w1) w2 k = (k .lst) := rfl
set_option autoImplicit true in
@[simp] theorem tgP_s8 : tgP  (.ref a) M k = (match M a with
    | some (.lst _) => k .lst
    | some (.dK _) => k .dct
    | _ => False) := rfl
theorem tgP_ok {K : Fg} {F : Hp} {M : PM} {H : Hp} {p : PV} {v : V} {k : Tg → Prop} (R : Rel K F M H) (e : Rep K F p v) (h : tgP p M k) : ∃ t, TyX K H v (.type t.nm) ∧ k t := by
  cases e with
  | non => exact ⟨.non, .base .non, h⟩
  | bl b => exact ⟨.bool, .base (.bl b), h⟩
  | int b => exact ⟨.int, .base (.int b), h⟩
  | str b => exact ⟨.str, .base (.str b), h⟩
  | ty n => exact h.elim
  | ref a =>
    have h' : (match M a with | some (.lst _) => k .lst | some (.dK _) => k .dct | _ => False) := h
    split at h'
    · rename_i xs e2
      obtain ⟨vs, e3, e4⟩ := R.getL e2
      exact ⟨.lst, .base (.lst e3), h'⟩
    · rename_i kvs e2
      obtain ⟨ws, e3, e4⟩ := R.chg _ _ e2
      exact ⟨.dct, .base (.dK e3), h'⟩
    · exact h'.elim
  | tup hs r =>
    refine ⟨.tup, ?_, h⟩
    rcases hs with (hs | ⟨o, hs⟩) | ⟨o, its, n, h1, h2, _⟩
    · exact .base (.tup (R.sub _ _ hs))
    · exact .fTuple (R.sub _ _ hs)
    · exact .kTuple h1 h2
  | tpx hs r =>
    obtain ⟨o, hs, _⟩ := hs
    exact ⟨.tup, .fTuple (R.sub _ _ hs), h⟩
  | lst hs r => exact ⟨.lst, .base (.lst (R.sub _ _ hs)), h⟩
  | rdl hs r =>
    refine ⟨.lst, ?_, h⟩
    rcases hs with (hs | ⟨o, hs⟩) | ⟨o, its, n, h1, h2, _⟩
    · exact .base (.lst (R.sub _ _ hs))
    · exact .base (.frz (R.sub _ _ hs))
    · exact .kList h1 h2
def cIsi : QC
  | [p, .ty n], M, k => tgP p M fun t => match isTg t n with
    | some b => k (.bl b) M
    | none => False
  | _, _, _ => False
set_option autoImplicit true in
@[simp] theorem cIsi_s1 : cIsi  [p, .ty n] M k = (tgP p M fun t => match isTg t n with
    | some b => k (.bl b) M
    | none => False) := rfl
theorem cq_isi {c : Cf} : CQ c (.builtin "isinstance") cIsi := fun X g pins s σ H xs us Q I r hh => by
  refine call_isi pins s σ H xs us Q I r ?_
  obtain ⟨F, ps, M, k, R, ep, ho, hk⟩ := hh
  unfold cIsi at ho
  split at ho
  · cases ep with
    | cons e1 e2 =>
      cases e2 with
      | cons e3 e4 =>
        cases e3; cases e4
        obtain ⟨t, ht, ho⟩ := tgP_ok R e1 ho
        split at ho
        · rename_i b e
          exact ⟨_, _, _, _, b, rfl, .ty _, ht, kit_ty (isTg_ok e), hk _ _ _ _ _ ho (Same.refl _) R (.bl _)⟩
        · exact ho.elim
  · exact ho.elim

/-! ### a def's promise -/
abbrev PSp := List PV → PM → PK → PX → Prop
def toSp (K : Fg) (p : PSp) : Sp := fun vs H Q E => ∃ F ps M k x, Rel K F M H ∧ Reps K F ps vs ∧ p ps M k x ∧
  (∀ r M' F' v H', k r M' → Same F F' → Rel K F' M' H' → Rep K F' r v → Q v H') ∧ (∀ e M' F' cls d H', x e M' → Same F F' → Rel K F' M' H' → ExRep K F' e cls d → E cls d H')
/-- a def that keeps sp where no object is being shown (guards) -/
def FnG (gd : Bool) (P : Program) (w : World) (K : Fg) (mg : Str → Option Value) (base : Heap) (CX : CXT) (k : Nat) (f : Addr) (sp : Sp) : Prop :=
  ∀ (A : Around) (outer : List Env) (s : Shared) (H : Hp) (us : List Value) (vs : List V) (Q : VK) (E : XK), Room k A → (gd = true → A.guards = some []) → Env0 P w K mg base A outer s H → Vals vs us → sp vs H Q E → codeAny (model P w) A (.call (.ref f) ⟨us, []⟩) (CR CX outer P w H s Q E) s
theorem FnG.mono {gd : Bool} {P : Program} {w : World} {K : Fg} {mg : Str → Option Value} {base : Heap} {CX : CXT} {j k : Nat} {f : Addr} {sp : Sp} (F : FnG gd P w K mg base CX j f sp) (h : j ≤ k) : FnG gd P w K mg base CX k f sp :=
  fun A outer s H us vs Q E hr hg => F A outer s H us vs Q E (hr.mono h) hg
def FnQ (g : Glb) (k : Nat) (f : Addr) (p : PSp) : Prop := FnG g.gd g.P g.w g.K g.mg g.base (L2.CX g.P g.w) k f (toSp g.K p)
/-- the module's name x holds a def that keeps p -/
def Has (g : Glb) (x : Str) (k : Nat) (p : PSp) : Prop := ∃ f, g.mg x = some (.ref f) ∧ PySem.W.keepIn g.K (.ref f) = true ∧ FnQ g k f p
/-- what needs no guards, with guards -/
theorem Has.lift {P : Program} {w : World} {K : Fg} {mg : Str → Option Value} {base : Heap} {gd : Bool} {x : Str} {k : Nat} {p : PSp} (h : Has ⟨P, w, K, mg, base, false⟩ x k p) : Has ⟨P, w, K, mg, base, gd⟩ x k p := by
  obtain ⟨f, h1, h2, h3⟩ := h
  exact ⟨f, h1, h2, fun A outer s H us vs Q E hr _ => h3 A outer s H us vs Q E hr fun z => by cases z⟩
theorem run_fnRS {gd : Bool} {X : Cx} {pins : List (Addr × Obj)} {σ : L2.St} {H : Hp} {s : Shared} {CX : CXT} {k : Nat} {f : Addr} {sp : Sp} {E : XK} {Q : VK} {us : List Value} {vs : List V} (F : FnG gd X.prog X.w X.K X.mg X.base CX k f sp) (hr : Room k X.A) (hg : gd = true → X.A.guards = some []) (hx : PassesAt CX X σ E) (I : Inv X pins σ H s) (r : Vals vs us) (h : sp vs H Q E) :
    wpAny (model X.prog X.w) X.A (call (.ref f) us) (EP X pins σ Q) X.xe s := by
  refine wpAny_call (codeAny_mono (F X.A X.stack s H us vs Q E hr hg I.env0 r h) fun r s' hq => ?_)
  cases r with
  | error e => exact hx pins H s e s' I hq
  | ok fl =>
    cases fl with
    | ret u => exact I.after hq
    | next => exact False.elim hq
    | brk => exact False.elim hq
    | cont => exact False.elim hq
@[simp] def qCall (p : PSp) (fa : QA) : QE := fun τ M x k => fa τ M x fun ps M1 => p ps M1 k x
theorem fnX {c : Cf} {X : Cx} (g : Good c X) {k : Nat} {f : Addr} {p : PSp} (h : FnQ c.g k f p) (hk : k ≤ c.k) : FnG c.g.gd X.prog X.w X.K X.mg X.base (L2.CX X.prog X.w) c.k f (toSp X.K p) := by
  rw [g.prog, g.w, g.K, g.mg, g.base]
  exact FnG.mono h hk
/-- behind the arguments: the callee's promise -/
theorem run_call {c : Cf} {X : Cx} (g : Good c X) {B : Hp} {pins : List (Addr × Obj)} {σ : L2.St} {H : Hp} {s : Shared} {k : Nat} {f : Addr} {p : PSp} (h : FnQ c.g k f p) (hk : k ≤ c.k) {F : Hp} {τ : Tau} {M : PM} {x : PX} {kk : PK} {Q : VK} {ps : List PV} {vs : List V} {us : List Value}
    (a : At X.K B F τ M σ H) (tk : Takes X (lW X.K B fun e τ' M' => τ' = τ ∧ x e M')) (I : Inv X pins σ H s) (rv : Vals vs us) (re : Reps X.K F ps vs) (hp : p ps M kk x) (hq : ∀ r M' F' v H', kk r M' → Same F F' → Rel X.K F' M' H' → Rep X.K F' r v → Q v H') :
    wpAny (model X.prog X.w) X.A (call (.ref f) us) (EP X pins σ Q) X.xe s := by
  refine run_fnRS (fnX g h hk) g.room g.grd (passAt tk σ) I rv ⟨F, ps, M, kk, x, a.r, re, hp, hq, fun e M' F' cls d H' he s' r' er => ?_⟩
  exact ⟨F', τ, M', e, a.b.trans s', r', a.s.mono s', er, rfl, he⟩
theorem de_call {c : Cf} {nm : Str} {k : Nat} {p : PSp} {np pos : Pos} {e : Expr} {es : List Expr} {fa : QA} (hf : Has c.g nm k p) (ha : DA c (e :: es) fa) (hk : k ≤ c.k := by exact Nat.le_of_ble_eq_true rfl) (hg : c.sc.names.lookup nm = some .globalImplicit := by rfl)
    (hdb : (nm == ("__debug__" : Str)) = false := by decide) (he : ∀ env, starEach (e :: es) env = (false, eval e env) :: starEach es env := by intro _; rfl) (hpl : ∀ env, (backTo pos (starEach es env)).any (·.1) = false := by intro _; rfl) :
    DE c (.Call (.Name nm np) (e :: es) [] pos) (qCall p fa) := fun X g B => by
  obtain ⟨f, h1, h2, h3⟩ := hf
  refine ⟨fun pins s σ H Q I h => ?_⟩
  obtain ⟨F, τ, M, x, kk, a, hf, tk, hq⟩ := h
  refine wpAny_Call_Name_kw (ld_glob I (gl_of g.sc hg) (by rw [g.mg]; exact h1) ?_ hdb)
  refine PySem.W.callWith_K (K := X.K) (h₀ := X.base) I.ok.mod.kin (by rw [g.K]; exact h2) (thn ((ha X g B).run pos pins s σ H (fun vs H1 => ∃ ps M1 F1, p ps M1 kk x ∧ Same F F1 ∧ Rel X.K F1 M1 H1 ∧ Reps X.K F1 ps vs) I ⟨F, τ, M, x, _, a, hf, tk, fun ps M1 F1 vs H1 q1 q2 q3 q4 => ⟨ps, M1, F1, q1, q2, q3, q4⟩⟩) fun us s1 ⟨vs, H1, I1, rv, ps, M1, F1, q1, q2, q3, q4⟩ => ⟨I1.kIn, ?_⟩) (he _) (hpl _)
  exact run_call g h3 hk (a.next q2 q3) tk I1 rv q4 q1 fun r M' F' v H' z s' => hq r M' F' v H' z (q2.trans s')
theorem de_call0 {c : Cf} {nm : Str} {k : Nat} {p : PSp} {np pos : Pos} (hf : Has c.g nm k p) (hk : k ≤ c.k := by exact Nat.le_of_ble_eq_true rfl) (hg : c.sc.names.lookup nm = some .globalImplicit := by rfl) (hdb : (nm == ("__debug__" : Str)) = false := by decide) :
    DE c (.Call (.Name nm np) [] [] pos) (qCall p qNil) := fun X g B => by
  obtain ⟨f, h1, h2, h3⟩ := hf
  refine ⟨fun pins s σ H Q I h => ?_⟩
  obtain ⟨F, τ, M, x, kk, a, hf, tk, hq⟩ := h
  refine wpAny_Call_Name_kw (ld_glob I (gl_of g.sc hg) (by rw [g.mg]; exact h1) ?_ hdb)
  exact PySem.W.callWith_K0 (K := X.K) I.kIn (by rw [g.K]; exact h2) (run_call g h3 hk a tk I .nil .nil hf hq)
/-- f(*xs) -/
theorem de_callS1 {c : Cf} {nm : Str} {k : Nat} {p : PSp} {np sp_ pos : Pos} {e : Expr} {fe : QE} (hf : Has c.g nm k p) (ha : DE c e fe) (hk : k ≤ c.k := by exact Nat.le_of_ble_eq_true rfl) (hg : c.sc.names.lookup nm = some .globalImplicit := by rfl)
    (hdb : (nm == ("__debug__" : Str)) = false := by decide) (he : ∀ env, starEach [.Starred e sp_] env = [(true, eval e env)] := by intro _; rfl) :
    DE c (.Call (.Name nm np) [.Starred e sp_] [] pos) (fun τ M x k => fe τ M x fun v M1 => seqP v M1 fun ps => p ps M1 k x) := fun X g B => by
  obtain ⟨f, h1, h2, h3⟩ := hf
  refine ⟨fun pins s σ H Q I h => ?_⟩
  obtain ⟨F, τ, M, x, kk, a, hf, tk, hq⟩ := h
  refine wpAny_Call_Name_kw (ld_glob I (gl_of g.sc hg) (by rw [g.mg]; exact h1) ?_ hdb)
  refine PySem.W.callWith_S (K := X.K) (h₀ := X.base) I.ok.mod.kin (by rw [g.K]; exact h2) (thn ((ha X g B).run pins s σ H (fun v H1 => ∃ z M1 F1, (seqP z M1 fun ps => p ps M1 kk x) ∧ Same F F1 ∧ Rel X.K F1 M1 H1 ∧ Rep X.K F1 z v) I ⟨F, τ, M, x, _, a, hf, tk, fun z M1 F1 v H1 q1 q2 q3 q4 => ⟨z, M1, F1, q1, q2, q3, q4⟩⟩) fun u s1 ⟨v, H1, I1, rv, z, M1, F1, q1, q2, q3, q4⟩ => ?_) (he _)
  obtain ⟨ad, vs, xs, rfl, hs, rr, hp⟩ := seqP_ok q3 q4 q1
  obtain rfl : u = Value.ref ad := rv
  exact StX.star_any I1 hs fun us s2 I2 r2 => ⟨I2.kIn, run_call g h3 hk (a.next q2 q3) tk I2 r2 rr hp fun r M' F' v H' z s' => hq r M' F' v H' z (q2.trans s')⟩

/-! ### loops -/
/-- what a walk over xs (a list or a tuple, as it stands) asks: an invariant over the turn -/
def goes (xs : List PV) (g : QG) (b : QS) (d : PEnds) (τ : Tau) (M : PM) : Prop :=
  ∃ W : Nat → Tau → PM → Prop, W 0 τ M ∧ (∀ i x τ' M', xs[i]? = some x → W i τ' M' → g x τ' M' fun τ2 M2 => b { d with nx := W (i + 1), ct := W (i + 1), bk := d.nx } τ2 M2) ∧ (∀ τ' M', W xs.length τ' M' → d.nx τ' M')
/-- the same over a list that stands at an address (unchanged by the turns) -/
def stays : PV → List PV → PM → Prop
  | .ref a, xs, M => M a = some (.lst xs)
  | .non, _, _ => True
  | .bl _, _, _ => True
  | .int _, _, _ => True
  | .str _, _, _ => True
  | .ty _, _, _ => True
  | .tup _, _, _ => True
  | .lst _, _, _ => True
  | .rdl _, _, _ => True
  | .tpx _, _, _ => True
set_option autoImplicit true in
@[simp] theorem stays_s1 : stays  (.ref a) xs M = (M a = some (.lst xs)) := rfl
set_option autoImplicit true in
@[simp] theorem stays_s2 : stays  .non w1 w2 = (True) := rfl
set_option autoImplicit true in
@[simp] theorem stays_s3 : stays  (.bl w1) w2 w3 = (True) := rfl
set_option autoImplicit true in
@[simp] theorem stays_s4 : stays  (.int w1) w2 w3 = (True) := rfl
set_option autoImplicit true in
@[simp] theorem stays_s5 : stays  (.str w1) w2 w3 = (True) := rfl
set_option autoImplicit true in
@[simp] theorem stays_s6 : stays  (.ty w1) w2 w3 = (True) := rfl
set_option autoImplicit true in
@[simp] theorem stays_s7 : stays  (.tup w1) w2 w3 = (True) := rfl
set_option autoImplicit true in
@[simp] theorem stays_s10 : stays  (.tpx w1) w2 w3 = (True) := rfl
set_option autoImplicit true in
@[simp] theorem stays_s8 : stays  (.lst w1) w2 w3 = (True) := rfl
set_option autoImplicit true in
@[simp] theorem stays_s9 : stays  (.rdl w1) w2 w3 = (True) := rfl
def qFor (f : QE) (g : QG) (b : QS) : QS := fun d τ M => f τ M (dx d τ) fun v M1 => seqP v M1 fun xs =>
  ∃ W : Nat → Tau → PM → Prop, W 0 τ M1 ∧ (∀ i τ' M', W i τ' M' → stays v xs M') ∧ (∀ i x τ' M', xs[i]? = some x → W i τ' M' → g x τ' M' fun τ2 M2 => b { d with nx := W (i + 1), ct := W (i + 1), bk := d.nx } τ2 M2) ∧ (∀ τ' M', W xs.length τ' M' → d.nx τ' M')
/-- lists and tuples alike -/
def iSeq (K : Fg) (tl : TE) : TI := fun σ H R => tl σ H fun x H1 => ∃ a, x = .ref a ∧ (((∃ xs, SqL K H1 a xs) ∧ R (Itl K a) H1) ∨ ((∃ xs, SqT K H1 a xs) ∧ R (Itt K a) H1))
theorem pi_seq {X : Cx} {tg l : Expr} {tl : TE} (hl : PE X l tl) : PI X tg l (iSeq X.K tl) := by
  refine ⟨fun pins s σ H R I h => ?_⟩
  refine thn (hl.run pins s σ H _ I h) fun v s1 ⟨x, H1, I1, r1, q1⟩ => ?_
  obtain ⟨a, e, q⟩ := q1
  subst e
  cases r1
  rcases q with ⟨⟨xs, hq⟩, q⟩ | ⟨⟨xs, hq⟩, q⟩
  · obtain ⟨its, rv, p, hz⟩ := I1.list hq
    refine wpAny_pyIter_list p.isList ?_
    refine ⟨s1.heap.objs.size, [s1.heap.objs.size], _, _, H1, rfl, I1.kept (t' := s1.toks) fun b o e => Heap.get?_push_of_some _ e, turn_list a _, ⟨_, Heap.get?_push_size _ rfl, rfl, rfl⟩, fun b hb => ?_, q⟩
    have e : b = s1.heap.objs.size := by simpa using hb
    subst e
    exact I1.fpOk (Nat.le_refl _) (I1.hok.fresh (Nat.le_refl _))
  · obtain ⟨its, rv, p, hz⟩ := I1.tuple hq
    refine wpAny_pyIter_tuple (show s1.heap.IsTuple a its.toArray from p) ?_
    refine ⟨s1.heap.objs.size, [s1.heap.objs.size], _, _, H1, rfl, I1.kept (t' := s1.toks) fun b o e => Heap.get?_push_of_some _ e, turn_tuple a _, ⟨_, Heap.get?_push_size _ rfl, rfl, rfl⟩, fun b hb => ?_, q⟩
    have e : b = s1.heap.objs.size := by simpa using hb
    subst e
    exact I1.fpOk (Nat.le_refl _) (I1.hok.fresh (Nat.le_refl _))
theorem seqP_st {K : Fg} {F : Hp} {M : PM} {H : Hp} {p : PV} {v : V} {k : List PV → Prop} (R : Rel K F M H) (e : Rep K F p v) (h : seqP p M k) : ∃ a xs, v = .ref a ∧ k xs ∧
    ((∀ F' M' H', Same F F' → Rel K F' M' H' → stays p xs M' → ∃ vs, SqL K H' a vs ∧ Reps K F' xs vs) ∨ (∀ F' M' H', Same F F' → Rel K F' M' H' → stays p xs M' → ∃ vs, SqT K H' a vs ∧ Reps K F' xs vs)) := by
  cases e with
  | ref a =>
    have h' : (match M a with | some (.lst xs) => k xs | _ => False) := h
    split at h'
    · rename_i xs e2
      refine ⟨_, xs, rfl, h', .inl fun F' M' H' s' r' st => ?_⟩
      obtain ⟨vs, e3, e4⟩ := r'.getL st
      exact ⟨vs, SqL.of e3, e4⟩
    · exact h'.elim
  | tup hs r => exact ⟨_, _, rfl, h, .inr fun F' M' H' s' r' st => ⟨_, sqT_mono r'.sub (sqT_mono s' hs), r.mono s'⟩⟩
  | lst hs r => exact ⟨_, _, rfl, h, .inl fun F' M' H' s' r' st => ⟨_, SqL.of (r'.sub _ _ (s' _ _ hs)), r.mono s'⟩⟩
  | rdl hs r => exact ⟨_, _, rfl, h, .inl fun F' M' H' s' r' st => ⟨_, r'.sub.seq (s'.seq hs), r.mono s'⟩⟩
  | tpx hs r => exact ⟨_, _, rfl, h, .inr fun F' M' H' s' r' st => ⟨_, sqT_mono r'.sub (sqT_mono s' hs.sq), r.mono s'⟩⟩
  | _ => exact h.elim
theorem for_listQ {K : Fg} {a : Addr} {n : Nat} {g : TG} {tb : TS} {D : Ends} {σ : L2.St} {H : Hp} (Pv : Nat → L2.St → Hp → Prop) (h0 : Pv 0 σ H) (hl : ∀ i σ H, i ≤ n → Pv i σ H → ∃ vs, SqL K H a vs ∧ vs.length = n)
    (hs : ∀ i x σ H, (∀ vs, SqL K H a vs → vs[i]? = some x) → Pv i σ H → g x σ H fun σ2 H2 => tb { D with nx := Pv (i + 1), ct := Pv (i + 1), bk := D.nx } σ2 H2) (hd : ∀ σ H, Pv n σ H → D.nx σ H) :
    ∃ W : Nat → Nat → L2.St → Hp → Prop, (∃ m, W 0 m σ H) ∧ ∀ i m σ H, W i m σ H →
      ((Itl K a).stop i H ∧ D.nx σ H) ∨ ((Itl K a).go i H ∧ ∃ N : L2.St → Hp → Prop, (∀ σ' H', N σ' H' → ∃ m', m' < m ∧ W (i + 1) m' σ' H') ∧ ∀ x H', (Itl K a).yld i H x H' → g x σ H' fun σ2 H2 => tb { D with nx := N, ct := N, bk := D.nx } σ2 H2) := by
  refine ⟨fun i m σ H => m = n - i ∧ i ≤ n ∧ Pv i σ H, ⟨n, by simp, Nat.zero_le _, h0⟩, ?_⟩
  rintro i m σ H ⟨rfl, hi, p⟩
  obtain ⟨vs, q, hn⟩ := hl i σ H hi p
  by_cases hlt : i < n
  · have hlt' : i < vs.length := by omega
    refine .inr ⟨⟨vs, vs[i], q, by simp [hlt']⟩, Pv (i + 1), fun σ' H' p' => ⟨n - (i + 1), by omega, rfl, hlt, p'⟩, fun x H' y => ?_⟩
    obtain ⟨e, y⟩ := y
    subst e
    exact hs i x σ _ y p
  · have e : i = n := by omega
    subst e
    exact .inl ⟨⟨vs, q, Nat.le_of_eq hn⟩, hd σ H p⟩
theorem for_tupQ {K : Fg} {a : Addr} {n : Nat} {g : TG} {tb : TS} {D : Ends} {σ : L2.St} {H : Hp} (Pv : Nat → L2.St → Hp → Prop) (h0 : Pv 0 σ H) (hl : ∀ i σ H, i ≤ n → Pv i σ H → ∃ vs, SqT K H a vs ∧ vs.length = n)
    (hs : ∀ i x σ H, (∀ vs, SqT K H a vs → vs[i]? = some x) → Pv i σ H → g x σ H fun σ2 H2 => tb { D with nx := Pv (i + 1), ct := Pv (i + 1), bk := D.nx } σ2 H2) (hd : ∀ σ H, Pv n σ H → D.nx σ H) :
    ∃ W : Nat → Nat → L2.St → Hp → Prop, (∃ m, W 0 m σ H) ∧ ∀ i m σ H, W i m σ H →
      ((Itt K a).stop i H ∧ D.nx σ H) ∨ ((Itt K a).go i H ∧ ∃ N : L2.St → Hp → Prop, (∀ σ' H', N σ' H' → ∃ m', m' < m ∧ W (i + 1) m' σ' H') ∧ ∀ x H', (Itt K a).yld i H x H' → g x σ H' fun σ2 H2 => tb { D with nx := N, ct := N, bk := D.nx } σ2 H2) := by
  refine ⟨fun i m σ H => m = n - i ∧ i ≤ n ∧ Pv i σ H, ⟨n, by simp, Nat.zero_le _, h0⟩, ?_⟩
  rintro i m σ H ⟨rfl, hi, p⟩
  obtain ⟨vs, q, hn⟩ := hl i σ H hi p
  by_cases hlt : i < n
  · have hlt' : i < vs.length := by omega
    refine .inr ⟨⟨vs, vs[i], q, by simp [hlt']⟩, Pv (i + 1), fun σ' H' p' => ⟨n - (i + 1), by omega, rfl, hlt, p'⟩, fun x H' y => ?_⟩
    obtain ⟨e, y⟩ := y
    subst e
    exact hs i x σ _ y p
  · have e : i = n := by omega
    subst e
    exact .inl ⟨⟨vs, q, Nat.le_of_eq hn⟩, hd σ H p⟩
/-- one turn of a walk, told of the trees -/
theorem turnQ {X : Cx} {B F F1 : Hp} {d : PEnds} {D : Ends} {W : Nat → Tau → PM → Prop} {g : QG} {b : QS} {i : Nat} {x : PV} {v : V} {σ' : L2.St} {H' : Hp} (tk : Takes X (lW X.K B d.ex)) (hd : DOk X.K F d D) (s1 : Same F F1)
    (wgo : ∀ τ' M', W i τ' M' → g x τ' M' fun τ2 M2 => b { d with nx := W (i + 1), ct := W (i + 1), bk := d.nx } τ2 M2) {F' : Hp} {τ' : Tau} {M' : PM} (s' : Same F1 F') (a' : At X.K B F' τ' M' σ' H') (w : W i τ' M') (hv : Rep X.K F' x v) :
    lG X B g v σ' H' fun σ2 H2 => lS X B b { D with nx := fun σ3 H3 => ∃ F' τ' M', Same F1 F' ∧ At X.K B F' τ' M' σ3 H3 ∧ W (i + 1) τ' M', ct := fun σ3 H3 => ∃ F' τ' M', Same F1 F' ∧ At X.K B F' τ' M' σ3 H3 ∧ W (i + 1) τ' M', bk := D.nx } σ2 H2 := by
  refine ⟨F', τ', M', x, _, a', hv, wgo τ' M' w, fun τ2 M2 F2 σ2 H2 h2 s2 r2 sr2 => ?_⟩
  refine ⟨F2, τ2, M2, _, ⟨a'.b.trans s2, r2, sr2⟩, h2, tk, ⟨fun τ3 M3 F3 σ3 H3 q s3 r3 sr3 => ⟨F3, τ3, M3, (s'.trans s2).trans s3, ⟨(a'.b.trans s2).trans s3, r3, sr3⟩, q⟩, fun r M3 F3 v H3 q s3 => hd.rt r M3 F3 v H3 q (((s1.trans s').trans s2).trans s3),
    fun τ3 M3 F3 σ3 H3 q s3 => hd.nx τ3 M3 F3 σ3 H3 q (((s1.trans s').trans s2).trans s3), fun τ3 M3 F3 σ3 H3 q s3 r3 sr3 => ⟨F3, τ3, M3, (s'.trans s2).trans s3, ⟨(a'.b.trans s2).trans s3, r3, sr3⟩, q⟩⟩⟩
theorem ds_for {c : Cf} {tg iter : Expr} {body : List Stmt} {pos : Pos} {f : QE} {g : QG} {b : QS} (hi : DE c iter f) (hg : DG c tg g) (hb : DSs c body b) (hs : ∀ env x, foldedSetIterable iter env x = pure x := by intro _ _; rfl) : DS c (.For tg iter body [] pos) (qFor f g b) := fun X gd B =>
  (ps_for gd.pass gd.calm (pi_seq (hi X gd.toGood B)) (hg X gd B) (hb X gd B) (hs _)).im fun D σ H => by
    rintro ⟨F, τ, M, d, a, hf, tk, hd⟩
    refine ⟨F, τ, M, _, _, a, hf, takes_x tk, fun p M1 F1 v H1 h1 s1 r1 e1 => ?_⟩
    obtain ⟨ad, xs, rfl, ⟨W, w0, wst, wgo, wend⟩, hq⟩ := seqP_st r1 e1 h1
    have a1 : At X.K B F1 τ M1 σ H1 := a.next s1 r1
    have last : ∀ σ' H', (∃ F' τ' M', Same F1 F' ∧ At X.K B F' τ' M' σ' H' ∧ W xs.length τ' M') → D.nx σ' H' := by
      rintro σ' H' ⟨F', τ', M', s', a', w⟩
      exact hd.nx _ _ _ _ _ (wend τ' M' w) (s1.trans s') a'.r a'.s
    refine ⟨ad, rfl, ?_⟩
    rcases hq with hq | hq
    · obtain ⟨vs, q1, q2⟩ := hq F1 M1 H1 (Same.refl _) r1 (wst 0 τ M1 w0)
      refine .inl ⟨⟨vs, q1⟩, for_listQ (n := xs.length) (fun i σ' H' => ∃ F' τ' M', Same F1 F' ∧ At X.K B F' τ' M' σ' H' ∧ W i τ' M') ⟨F1, τ, M1, Same.refl _, a1, w0⟩ (fun i σ' H' _ w => ?_) (fun i v σ' H' hv w => ?_) last⟩
      · obtain ⟨F', τ', M', s', a', w⟩ := w
        obtain ⟨ws, z1, z2⟩ := hq F' M' H' s' a'.r (wst i τ' M' w)
        exact ⟨ws, z1, z2.length.symm⟩
      · obtain ⟨F', τ', M', s', a', w⟩ := w
        obtain ⟨us, z1, z2⟩ := hq F' M' H' s' a'.r (wst i τ' M' w)
        obtain ⟨x, hx, rx⟩ := z2.getV (hv us z1)
        exact turnQ tk hd s1 (fun τ' M' w => wgo i x τ' M' hx w) s' a' w rx
    · obtain ⟨vs, q1, q2⟩ := hq F1 M1 H1 (Same.refl _) r1 (wst 0 τ M1 w0)
      refine .inr ⟨⟨vs, q1⟩, for_tupQ (n := xs.length) (fun i σ' H' => ∃ F' τ' M', Same F1 F' ∧ At X.K B F' τ' M' σ' H' ∧ W i τ' M') ⟨F1, τ, M1, Same.refl _, a1, w0⟩ (fun i σ' H' _ w => ?_) (fun i v σ' H' hv w => ?_) last⟩
      · obtain ⟨F', τ', M', s', a', w⟩ := w
        obtain ⟨ws, z1, z2⟩ := hq F' M' H' s' a'.r (wst i τ' M' w)
        exact ⟨ws, z1, z2.length.symm⟩
      · obtain ⟨F', τ', M', s', a', w⟩ := w
        obtain ⟨us, z1, z2⟩ := hq F' M' H' s' a'.r (wst i τ' M' w)
        obtain ⟨x, hx, rx⟩ := z2.getV (hv us z1)
        exact turnQ tk hd s1 (fun τ' M' w => wgo i x τ' M' hx w) s' a' w rx
end Q
namespace Q
open PySem PySem.Spec PyProof.Rows L2

/-! ### for over a range, over a text -/
def goesR (lo : Int) (n : Nat) (g : QG) (b : QS) (d : PEnds) (τ : Tau) (M : PM) : Prop :=
  ∃ W : Nat → Tau → PM → Prop, W 0 τ M ∧ (∀ i τ' M', i < n → W i τ' M' → g (.int (lo + i)) τ' M' fun τ2 M2 => b { d with nx := W (i + 1), ct := W (i + 1), bk := d.nx } τ2 M2) ∧ (∀ τ' M', W n τ' M' → d.nx τ' M')
def rngB (i : Int) : Prop := -(2 ^ 62) ≤ i ∧ i < 2 ^ 62
def rP (g : QG) (b : QS) (d : PEnds) (τ : Tau) : List PV → PM → Prop
  | [.int j], Mz => rngB j ∧ goesR 0 j.toNat g b d τ Mz
  | _, _ => False
set_option autoImplicit true in
@[simp] theorem rP_s1 (g : QG) (b : QS) (d : PEnds) (τ : Tau) : rP g b d τ [.int j] Mz = (rngB j ∧ goesR 0 j.toNat g b d τ Mz) := rfl
def rP2 (g : QG) (b : QS) (d : PEnds) (τ : Tau) : List PV → PM → Prop
  | [.int i, .int j], Mz => (rngB i ∧ rngB j) ∧ goesR i (j - i).toNat g b d τ Mz
  | _, _ => False
set_option autoImplicit true in
@[simp] theorem rP2_s1 (g : QG) (b : QS) (d : PEnds) (τ : Tau) : rP2 g b d τ [.int i, .int j] Mz = ((rngB i ∧ rngB j) ∧ goesR i (j - i).toNat g b d τ Mz) := rfl
@[simp] def qForR (fa : QA) (g : QG) (b : QS) : QS := fun d τ M => fa τ M (dx d τ) fun ps M1 => rP g b d τ ps M1
@[simp] def qForR2 (fa : QA) (g : QG) (b : QS) : QS := fun d τ M => fa τ M (dx d τ) fun ps M1 => rP2 g b d τ ps M1
theorem goesR_ok {X : Cx} {B F F1 : Hp} {d : PEnds} {D : Ends} {g : QG} {b : QS} {lo : Int} {n : Nat} {τ : Tau} {M1 : PM} {σ : L2.St} {H1 : Hp} (tk : Takes X (lW X.K B d.ex)) (hd : DOk X.K F d D) (s1 : Same F F1) (a1 : At X.K B F1 τ M1 σ H1) (h : goesR lo n g b d τ M1) :
    ∃ W : Nat → Nat → L2.St → Hp → Prop, (∃ m, W 0 m σ H1) ∧ ∀ i m σ H, W i m σ H →
      ((Itr lo n).stop i H ∧ D.nx σ H) ∨ ((Itr lo n).go i H ∧ ∃ N : L2.St → Hp → Prop, (∀ σ' H', N σ' H' → ∃ m', m' < m ∧ W (i + 1) m' σ' H') ∧ ∀ x H', (Itr lo n).yld i H x H' → lG X B g x σ H' fun σ2 H2 => lS X B b { D with nx := N, ct := N, bk := D.nx } σ2 H2) := by
  obtain ⟨W, w0, wgo, wend⟩ := h
  refine for_range (fun i σ' H' => ∃ F' τ' M', Same F1 F' ∧ At X.K B F' τ' M' σ' H' ∧ W i τ' M') ⟨F1, τ, M1, Same.refl _, a1, w0⟩ (fun i σ' H' hi w => ?_) fun σ' H' w => ?_
  · obtain ⟨F', τ', M', s', a', w⟩ := w
    exact turnQ tk hd s1 (fun τ' M' w => wgo i τ' M' hi w) s' a' w (.int _)
  · obtain ⟨F', τ', M', s', a', w⟩ := w
    exact hd.nx _ _ _ _ _ (wend τ' M' w) (s1.trans s') a'.r a'.s
theorem ds_forR {c : Cf} {tg a : Expr} {body : List Stmt} {p pos pos' : Pos} {fa : QA} {g : QG} {b : QS} (hgl : c.sc.names.lookup ("range" : Str) = some .globalImplicit) (hm : c.g.mg ("range" : Str) = none) (ha : DA c [a] fa) (hg : DG c tg g) (hb : DSs c body b)
    (hs1 : ∀ env, starEach [a] env = [(false, eval a env)] := by intro _; rfl) (hs : ∀ env x, foldedSetIterable (.Call (.Name "range" p) [a] [] pos') env x = pure x := by intro _ _; rfl) : DS c (.For tg (.Call (.Name "range" p) [a] [] pos') body [] pos) (qForR fa g b) := fun X gd B =>
  (ps_for gd.pass gd.calm (pi_range1 (gl_of gd.sc hgl) (by rw [gd.mg]; exact hm) (ha X gd.toGood B) (hs1 _)) (hg X gd B) (hb X gd B) (hs _)).im fun D σ H => by
    rintro ⟨F, τ, M, d, a, hf, tk, hd⟩
    refine ⟨F, τ, M, _, _, a, hf, takes_x tk, fun ps M1 F1 vs H1 h1 s1 r1 e1 => ?_⟩
    unfold rP at h1
    split at h1
    · cases e1 with
      | cons e1 e2 =>
        cases e1; cases e2
        exact ⟨_, rfl, h1.1.1, h1.1.2, goesR_ok tk hd s1 (a.next s1 r1) h1.2⟩
    · exact h1.elim
theorem ds_forR2 {c : Cf} {tg a a2 : Expr} {body : List Stmt} {p pos pos' : Pos} {fa : QA} {g : QG} {b : QS} (hgl : c.sc.names.lookup ("range" : Str) = some .globalImplicit) (hm : c.g.mg ("range" : Str) = none) (ha : DA c [a, a2] fa) (hg : DG c tg g) (hb : DSs c body b)
    (hs1 : ∀ env, starEach [a, a2] env = [(false, eval a env), (false, eval a2 env)] := by intro _; rfl) (hs2 : ∀ env, starEach [a2] env = [(false, eval a2 env)] := by intro _; rfl) (hs : ∀ env x, foldedSetIterable (.Call (.Name "range" p) [a, a2] [] pos') env x = pure x := by intro _ _; rfl) : DS c (.For tg (.Call (.Name "range" p) [a, a2] [] pos') body [] pos) (qForR2 fa g b) := fun X gd B =>
  (ps_for gd.pass gd.calm (pi_range2 (gl_of gd.sc hgl) (by rw [gd.mg]; exact hm) (ha X gd.toGood B) (hs1 _) (hs2 _)) (hg X gd B) (hb X gd B) (hs _)).im fun D σ H => by
    rintro ⟨F, τ, M, d, a, hf, tk, hd⟩
    refine ⟨F, τ, M, _, _, a, hf, takes_x tk, fun ps M1 F1 vs H1 h1 s1 r1 e1 => ?_⟩
    unfold rP2 at h1
    split at h1
    · cases e1 with
      | cons e1 e2 =>
        cases e1
        cases e2 with
        | cons e3 e4 =>
          cases e3; cases e4
          exact ⟨_, _, rfl, ⟨h1.1.1.1, h1.1.1.2, h1.1.2.1, h1.1.2.2⟩, goesR_ok tk hd s1 (a.next s1 r1) h1.2⟩
    · exact h1.elim
/-- one sign -/
def sgn (c : Nat) : PV := .str ⟨#[c]⟩
def goesT (z : List Nat) (g : QG) (b : QS) (d : PEnds) (τ : Tau) (M1 : PM) : Prop :=
  ∃ W : Nat → Tau → PM → Prop, W 0 τ M1 ∧ (∀ i c τ' M', z[i]? = some c → W i τ' M' → g (sgn c) τ' M' fun τ2 M2 => b { d with nx := W (i + 1), ct := W (i + 1), bk := d.nx } τ2 M2) ∧ (∀ τ' M', W z.length τ' M' → d.nx τ' M')
def tP (g : QG) (b : QS) (d : PEnds) (τ : Tau) : PV → PM → Prop
  | .str z, Mz => goesT z.cps.toList g b d τ Mz
  | _, _ => False
set_option autoImplicit true in
@[simp] theorem tP_s1 (g : QG) (b : QS) (d : PEnds) (τ : Tau) : tP g b d τ (.str z) Mz = (goesT z.cps.toList g b d τ Mz) := rfl
@[simp] def qForT (f : QE) (g : QG) (b : QS) : QS := fun d τ M => f τ M (dx d τ) fun v M1 => tP g b d τ v M1
theorem ds_forT {c : Cf} {tg iter : Expr} {body : List Stmt} {pos : Pos} {f : QE} {g : QG} {b : QS} (hi : DE c iter f) (hg : DG c tg g) (hb : DSs c body b) (hs : ∀ env x, foldedSetIterable iter env x = pure x := by intro _ _; rfl) : DS c (.For tg iter body [] pos) (qForT f g b) := fun X gd B =>
  (ps_for gd.pass gd.calm (pi_str (hi X gd.toGood B)) (hg X gd B) (hb X gd B) (hs _)).im fun D σ H => by
    rintro ⟨F, τ, M, d, a, hf, tk, hd⟩
    refine ⟨F, τ, M, _, _, a, hf, takes_x tk, fun p M1 F1 v H1 h1 s1 r1 e1 => ?_⟩
    unfold tP at h1
    split at h1
    · rename_i z
      cases e1
      obtain ⟨W, w0, wgo, wend⟩ := h1
      have a1 : At X.K B F1 τ M1 σ H1 := a.next s1 r1
      refine ⟨z, rfl, fun i m σ' H' => m = z.cps.size - i ∧ i ≤ z.cps.size ∧ ∃ F' τ' M', Same F1 F' ∧ At X.K B F' τ' M' σ' H' ∧ W i τ' M', ⟨_, rfl, Nat.zero_le _, F1, τ, M1, Same.refl _, a1, w0⟩, ?_⟩
      rintro i m σ' H' ⟨rfl, hi, F', τ', M', s', a', w⟩
      by_cases hlt : i < z.cps.size
      · refine .inr ⟨hlt, _, fun σ2 H2 q => ⟨z.cps.size - (i + 1), by omega, rfl, hlt, q⟩, fun x H' y => ?_⟩
        obtain ⟨rfl, ch, hc, rfl⟩ := y
        exact turnQ (x := sgn ch) tk hd s1 (fun τ' M' w => wgo i ch τ' M' (by simpa using hc) w) s' a' w (.str _)
      · have e : i = z.cps.toList.length := by simp; omega
        refine .inl ⟨by show z.cps.size ≤ i; omega, hd.nx _ _ _ _ _ (wend τ' M' (by rw [← e]; exact w)) (s1.trans s') a'.r a'.s⟩
    · exact h1.elim

/-! ### while -/
def qWhile (t : QT) (b : QS) : QS := fun d τ M => ∃ W : Nat → Tau → PM → Prop, (∃ m, W m τ M) ∧ ∀ m τ M, W m τ M →
  t τ M (dx d τ) fun c M1 => way c (b { d with nx := fun τ' M' => ∃ m', m' < m ∧ W m' τ' M', ct := fun τ' M' => ∃ m', m' < m ∧ W m' τ' M', bk := d.nx } τ M1) (d.nx τ M1)
theorem ds_while {c : Cf} {t : Expr} {body : List Stmt} {pos : Pos} {ft : QT} {b : QS} (ht : DT c t ft) (hb : DSs c body b) : DS c (.While t body [] pos) (qWhile ft b) := fun X gd B =>
  (ps_while gd.pass (ht X gd.toGood B) (hb X gd B)).im fun D σ H => by
    rintro ⟨F, τ, M, d, a, ⟨W, ⟨m0, w0⟩, wgo⟩, tk, hd⟩
    refine ⟨fun m σ' H' => ∃ F' τ' M', Same F F' ∧ At X.K B F' τ' M' σ' H' ∧ W m τ' M', ⟨m0, F, τ, M, Same.refl _, a, w0⟩, ?_⟩
    rintro m σ' H' ⟨F', τ', M', s', a', w⟩
    refine ⟨F', τ', M', _, _, a', wgo m τ' M' w, takes_x tk, fun k M1 F1 H1 h1 s1 r1 => ?_⟩
    cases k with
    | true =>
      rw [if_pos rfl]
      refine ⟨fun σ2 H2 => ∃ m', m' < m ∧ ∃ F' τ' M', Same F F' ∧ At X.K B F' τ' M' σ2 H2 ∧ W m' τ' M', fun σ2 H2 q => q, ?_⟩
      refine ⟨F1, τ', M1, _, a'.next s1 r1, h1.1 rfl, tk, ⟨fun τ2 M2 F2 σ2 H2 q s2 r2 sr2 => ?_, fun r M2 F2 v H2 q s2 => hd.rt r M2 F2 v H2 q ((s'.trans s1).trans s2), fun τ2 M2 F2 σ2 H2 q s2 => hd.nx τ2 M2 F2 σ2 H2 q ((s'.trans s1).trans s2), fun τ2 M2 F2 σ2 H2 q s2 r2 sr2 => ?_⟩⟩
      · obtain ⟨m', hm, q⟩ := q
        exact ⟨m', hm, F2, τ2, M2, (s'.trans s1).trans s2, ⟨(a'.b.trans s1).trans s2, r2, sr2⟩, q⟩
      · obtain ⟨m', hm, q⟩ := q
        exact ⟨m', hm, F2, τ2, M2, (s'.trans s1).trans s2, ⟨(a'.b.trans s1).trans s2, r2, sr2⟩, q⟩
    | false =>
      rw [if_neg Bool.false_ne_true]
      exact hd.nx _ _ _ _ _ (h1.2 rfl) (s'.trans s1) r1 (a'.s.mono s1)

/-! ### a def keeps its promise -/
theorem fn_ok {g : Glb} {mk : Option Str} {x qual : Str} {st : Stmt} {f : Addr} {fd : FuncData} {N ps : List Str} {k : Nat} {psp : PSp} {fb : QS} (F : Fun g.K x qual st f fd) (S : FnScope N ps (defScope st)) (bi : Binds g.K fd ps []) (hb : DSs ⟨g, N, defScope st, k, mk⟩ (defBody st) fb)
    (spec : ∀ xs M kk ex, psp xs M kk ex → xs.length = ps.length ∧ fb { nx := fun _ M' => kk .non M', rt := kk, ex := fun e _ M' => ex e M' } (startQ N xs) M)
    (hmk : ∀ y, mk = some y → qual = y ∧ ∃ cc P, PySem.W.tabIn g.K y = some (cc, P) ∧ (∀ oc od kV doc pm an cdv ct osl, g.K.lookup f = some ⟨oc, od, .func (PySem.W.fnOf x qual (defArgs st) (defBody st) (defScope st) .none kV doc pm an cdv ct), osl⟩ → cdv = .ref cc) ∧ LamX.TabB g.base g.mg cc P := by intro y h; cases h) : FnQ g (k + 1) f psp := by
  obtain ⟨oc, od, kV, doc, pm, an, cdv, ct, osl, rfl, lk, hcd⟩ := F.ex
  intro A outer s H us vs Q E hr hg e0 r h
  obtain ⟨F0, xs, M, kk, ex, R, rs, hp, hq, hx⟩ := h
  obtain ⟨hl, h2⟩ := spec _ _ _ _ hp
  have hlv : vs.length = ps.length := by rw [← rs.length]; exact hl
  refine StX.run_bnd lk hcd S hr e0 (G := fun ys H2 => ys = vs ∧ H2 = H) (fun A' Ex Q' hh => ?_) fun s2 H2 ys hG hr' => ?_
  · have bt := bi s us (e0.mod.kin.keeps fun b o e => (e0.bs b o e).1) (by rw [List.append_nil, ← r.length]; exact hlv)
    rw [List.append_nil] at bt
    exact bt _ _ _ _ (hh s H vs us e0 Un.refl rfl (fun _ _ z => z) r hlv ⟨rfl, rfl⟩)
  · obtain ⟨rfl, rfl⟩ := hG
    refine ⟨_, hb _ ⟨⟨rfl, rfl, rfl, rfl, rfl, rfl, rfl, hr', rfl, hg, fun y hy => ?_⟩, rfl, rfl, rfl, rfl, passes_of rfl⟩ F0, F0, startQ N xs, M, _, ⟨Same.refl _, R, SRel.start rs⟩, h2, ?_, ?_⟩
    · obtain ⟨e1, cc, P, e2, e3, e4⟩ := hmk y hy
      exact ⟨by rw [← e1]; rfl, cc, P, e2, e3 _ _ _ _ _ _ _ _ _ lk, e4⟩
    · refine (takes_of (E := E) rfl rfl rfl rfl).imp fun cls d σ H' => ?_
      rintro ⟨F', τ', M', e, s', r', sr', er, he⟩
      exact hx e M' F' cls d H' he s' r' er
    · exact ⟨fun τ' M' F' σ' H' h' s' r' _ => hq _ _ _ _ _ h' s' r' .non, fun r M' F' v H' h' s' r' e' => hq _ _ _ _ _ h' s' r' e', fun _ _ _ _ _ z => z.elim, fun _ _ _ _ _ z => z.elim⟩
theorem has_fn {g : Glb} {mk : Option Str} {x qual : Str} {st : Stmt} {f : Addr} {fd : FuncData} {N ps : List Str} {k : Nat} {psp : PSp} {fb : QS} (F : Fun g.K x qual st f fd) (hm : g.mg x = some (.ref f)) (S : FnScope N ps (defScope st)) (b : Binds g.K fd ps []) (hb : DSs ⟨g, N, defScope st, k, mk⟩ (defBody st) fb)
    (spec : ∀ xs M kk ex, psp xs M kk ex → xs.length = ps.length ∧ fb { nx := fun _ M' => kk .non M', rt := kk, ex := fun e _ M' => ex e M' } (startQ N xs) M)
    (hmk : ∀ y, mk = some y → qual = y ∧ ∃ cc P, PySem.W.tabIn g.K y = some (cc, P) ∧ (∀ oc od kV doc pm an cdv ct osl, g.K.lookup f = some ⟨oc, od, .func (PySem.W.fnOf x qual (defArgs st) (defBody st) (defScope st) .none kV doc pm an cdv ct), osl⟩ → cdv = .ref cc) ∧ LamX.TabB g.base g.mg cc P := by intro y h; cases h) : Has g x (k + 1) psp :=
  ⟨f, hm, F.kp, fn_ok F S b hb spec hmk⟩
theorem reps_split {K : Fg} {F : Hp} : ∀ {ws rest : List PV} {vs : List V}, Reps K F (ws ++ rest) vs → ∃ v1 v2, vs = v1 ++ v2 ∧ Reps K F ws v1 ∧ Reps K F rest v2
  | [], rest, vs, r => ⟨[], vs, rfl, .nil, r⟩
  | _ :: ws, rest, _, .cons a r => by
    obtain ⟨v1, v2, e, r1, r2⟩ := reps_split (ws := ws) (rest := rest) r
    exact ⟨_ :: v1, v2, by rw [e]; rfl, .cons a r1, r2⟩
/-- def f(a, .., *r) -/
theorem has_star {g : Glb} {x qual pv : Str} {st : Stmt} {f : Addr} {fd : FuncData} {N ps : List Str} {k : Nat} {psp : PSp} {fb : QS} (F : Fun g.K x qual st f fd) (hm : g.mg x = some (.ref f)) (S : FnScope N (ps ++ [pv]) (defScope st))
    (hbi : ∀ (kV doc pm : Value) (an : Option Addr) (cdv ct : Value) (us rest : List Value), us.length = ps.length → bindArgs (PySem.W.fnOf x qual (defArgs st) (defBody st) (defScope st) .none kV doc pm an cdv ct) ⟨us ++ rest, []⟩ = (newTuple rest >>= fun t => pure (ps.zip us ++ [(pv, t)])))
    (hb : DSs ⟨g, N, defScope st, k, none⟩ (defBody st) fb)
    (spec : ∀ xs M kk ex, psp xs M kk ex → ∃ ws rest, xs = ws ++ rest ∧ ws.length = ps.length ∧ rest.length ≤ sizeLine ∧ fb { nx := fun _ M' => kk .non M', rt := kk, ex := fun e _ M' => ex e M' } (startQ N (ws ++ [.tup rest])) M) : Has g x (k + 1) psp := by
  refine ⟨f, hm, F.kp, ?_⟩
  obtain ⟨oc, od, kV, doc, pm, an, cdv, ct, osl, rfl, lk, hcd⟩ := F.ex
  intro A outer s H us vs Q E hr hg e0 r h
  obtain ⟨F0, xs, M, kk, ex, R, rs, hp, hq, hx⟩ := h
  obtain ⟨ws, rest, rfl, hl, hz, h2⟩ := spec _ _ _ _ hp
  obtain ⟨v1, v2, rfl, r1, r2⟩ := reps_split rs
  obtain ⟨u1, u2, rfl, q1, q2⟩ := StX.vals_split r
  have l1 : u1.length = ps.length := by rw [← q1.length, ← r1.length]; exact hl
  have l2 : u2.length ≤ sizeLine := by rw [← q2.length, ← r2.length]; exact hz
  have free : H s.heap.objs.size = none := e0.hok.fresh (Nat.le_refl _)
  refine StX.run_bnd lk hcd S hr e0 (G := fun ys H2 => ∃ p, H p = none ∧ ys = v1 ++ [.ref p] ∧ H2 = upd H p (.tup v2)) (fun A' Ex Q' hh => ?_) fun s2 H2 ys hG hr' => ?_
  · rw [hbi kV doc pm an cdv ct u1 u2 l1]
    have laid : ObjOk g.P g.w (upd H s.heap.objs.size (.tup v2)) (s.heap.push ({ cls := .type "tuple", data := .seq u2.toArray } : Obj)) s.heap.objs.size (.tup v2) := ⟨by rw [← r2.length]; exact hz, u2, q2, ⟨_, Heap.get?_push_size _ rfl, rfl, _, rfl⟩⟩
    have un := StX.un_laid (fs := frs outer) (s := s) (o := ({ cls := .type "tuple", data := .seq u2.toArray } : Obj)) (u := .tup v2) free
    have z := hh _ _ (v1 ++ [V.ref s.heap.objs.size]) (u1 ++ [Value.ref s.heap.objs.size]) (StX.env0_laid e0 laid) un rfl (fun e s' => StX.cxUp outer s H _ _ E e s' un (fun b o q => Heap.get?_push_of_some _ q) rfl) (q1.append (.cons rfl .nil)) (by rw [List.length_append, List.length_append, ← r1.length, hl]; rfl) ⟨_, free, rfl, rfl⟩
    rw [List.zip_append l1.symm] at z
    exact wpAny_bind (wpAny_newTuple (wpAny_pure z) l2)
  · obtain ⟨p, hn, rfl, rfl⟩ := hG
    obtain ⟨R2, s2'⟩ := R.newF hn (.tup v2)
    have rs' : Reps g.K (upd F0 p (.tup v2)) (ws ++ [.tup rest]) (v1 ++ [.ref p]) := (r1.mono s2').append (.cons (.tup (SqT.of upd_same) (r2.mono s2')) .nil)
    have sr0 : SRel g.K (upd F0 p (.tup v2)) (startQ N (ws ++ [.tup rest])) (L2.start N (v1 ++ [.ref p])) := SRel.start rs'
    refine ⟨_, hb _ ⟨⟨rfl, rfl, rfl, rfl, rfl, rfl, rfl, hr', rfl, hg, fun _ e => (nomatch e)⟩, rfl, rfl, rfl, rfl, passes_of rfl⟩ (upd F0 p (.tup v2)), (upd F0 p (.tup v2)), startQ N (ws ++ [PV.tup rest]), M, _, ⟨Same.refl _, R2, sr0⟩, h2, ?_, ?_⟩
    · refine (takes_of (E := E) rfl rfl rfl rfl).imp fun cls d σ H' => ?_
      rintro ⟨F', τ', M', e, s', r', sr', er, he⟩
      exact hx e M' F' cls d H' he (s2'.trans s') r' er
    · exact ⟨fun τ' M' F' σ' H' h' s' r' _ => hq _ _ _ _ _ h' (s2'.trans s') r' .non, fun r M' F' v H' h' s' r' e' => hq _ _ _ _ _ h' (s2'.trans s') r' e', fun _ _ _ _ _ z => z.elim, fun _ _ _ _ _ z => z.elim⟩

/-! ### the top's facts -/
section
variable {K : Fg} {mg : Str → Option Value} {h : Heap}
/-- the def st stands at the module's name x -/
def DefAt (K : Fg) (x : Str) (st : Stmt) : Prop := ∃ f, PySem.W.nsIn K mainGlobals x = some (some (.ref f)) ∧ ∃ fd, Fun K x x st f fd
theorem def_at {x : Str} {st : Stmt} {f : Addr} {od an : Option Addr} {sl : Array (Option Value)} {oc kV dc pm cd ct : Value} (a : PySem.W.nsIn K mainGlobals x = some (some (.ref f)))
    (l : K.lookup f = some ⟨oc, od, .func (PySem.W.fnOf x x (defArgs st) (defBody st) (defScope st) .none kV dc pm an cd ct), sl⟩) (c : PySem.W.codeIn K cd x = true) (k : PySem.W.keepIn K (.ref f) = true) : DefAt K x st := ⟨f, a, _, fun_mk l c k⟩
theorem sqT_K {F : Hp} {a : Addr} {dd : Option Addr} {its : List Value} {n : Nat} {sl : Array (Option Value)} {vs : List V} (l : K.lookup a = some ⟨.type "tuple", dd, .seq its.toArray n, sl⟩) (hz : its.length ≤ sizeLine) (r : Vals vs its) : SqT K F a vs :=
  .inr ⟨_, its.toArray, n, l, rfl, rfl, by simpa using hz, by simpa using r⟩
end

/-- a def's body, read at its promise -/
def BodyOk (N : List Str) (n : Nat) (psp : PSp) (fb : QS) : Prop := ∀ xs M kk ex, psp xs M kk ex → xs.length = n ∧ fb { nx := fun _ M' => kk .non M', rt := kk, ex := fun e _ M' => ex e M' } (startQ N xs) M
def BodyOkS (N : List Str) (n : Nat) (psp : PSp) (fb : QS) : Prop := ∀ xs M kk ex, psp xs M kk ex → ∃ ws rest, xs = ws ++ rest ∧ ws.length = n ∧ rest.length ≤ sizeLine ∧ fb { nx := fun _ M' => kk .non M', rt := kk, ex := fun e _ M' => ex e M' } (startQ N (ws ++ [.tup rest])) M

/-! ### the law -/
def spLaw : PSp := fun xs _ k _ => ∃ ns : List Int, xs = [.rdl (ns.map .int)] ∧ ns.length ≤ 63 ∧ (∀ z ∈ ns, Builtin.Int.intBits z ≤ 1048576) ∧ ∀ M', k (.bl true) M'
theorem law_start {K : Fg} {H : Hp} {a : Addr} {ns : List Int} (hl : ns.length ≤ 63) (hb : ∀ z ∈ ns, Builtin.Int.intBits z ≤ 1048576) (hS : SqL K H a (ns.map V.int)) : toSp K spLaw [.ref a] H (fun v _ => v = .bl true) fun _ _ _ => False :=
  ⟨H, [.rdl (ns.map .int)], fun _ => none, fun r _ => r = .bl true, fun _ _ => False, ⟨Same.refl _, fun _ _ e => (nomatch e), fun _ _ e => (nomatch e)⟩, .cons (.rdl hS (Reps.ints ns)) .nil, ⟨ns, rfl, hl, hb, fun _ => rfl⟩,
    fun r M' F' v H' h _ _ e => by subst h; cases e; rfl, fun _ _ _ _ _ _ h => h.elim⟩
theorem law_cx {P : Program} {w : World} {H : Hp} {s : Shared} {e : Value} {s' : Shared} (h : L2.CX P w [] H s (fun _ _ _ => False) e s') : False := by
  obtain ⟨_, _, _, _, _, _, _, _, _, _, _, _, z⟩ := h
  exact z
/-- the script's heap: what is tracked at the law's start -/
theorem law_heap {P : Program} {w : World} {K : Fg} {mg mb : Str → Option Value} {a : Addr} {s : Shared} {vs : List Value} {ns : List Int} (KX : K.In s.heap) (hns : s.heap.Ns mainGlobals mg) (hb : s.heap.Ns builtinsNs mb) (hbb : ∀ x : Str, x ≠ "__name__" → mb x = bootBuiltins x) (hlim : s.heap.NoLimit) (hg : s.gens = #[])
    (ha : s.heap.get? a = some { cls := .type "list", data := .seq vs.toArray }) (hi : IntsAre vs ns) (hl : ns.length ≤ sizeLine) :
    ∃ H : Hp, Only H ∧ SqL K H a (ns.map V.int) ∧ Env0 P w K mg (hidT s.heap H) callerA [] s H := by
  have rv := vals_ints hi
  have lv := hi.length
  suffices main : ∀ H : Hp, HOk P w H s.heap → (∀ b, H b ≠ none → b = a) → (H a ≠ none → K.lookup a = none) → Env0 P w K mg (hidT s.heap H) callerA [] s H by
    by_cases hk : ∃ o, K.lookup a = some o
    · obtain ⟨o, hk⟩ := hk
      have e := (KX a o hk).symm.trans ha
      cases e
      refine ⟨fun _ => none, fun _ => .inl rfl, .inr ⟨_, vs.toArray, _, hk, rfl, rfl, rfl, ?_, by simpa using rv⟩, main _ (fun b u z => nomatch z) (fun b z => (z rfl).elim) fun z => (z rfl).elim⟩
      rw [List.size_toArray, lv]; exact hl
    · have hk' : K.lookup a = none := by
        cases q : K.lookup a with
        | none => rfl
        | some o => exact (hk ⟨o, q⟩).elim
      have nb : ∀ b, b ≠ a → upd (fun _ => none) a (.frz { cls := .type "list", data := .seq vs.toArray } (.lst (ns.map V.int))) b = none := fun b h => upd_ne h
      refine ⟨upd (fun _ => none) a (.frz { cls := .type "list", data := .seq vs.toArray } (.lst (ns.map V.int))), fun b => ?_, .inl (.inr ⟨_, upd_same⟩), main _ (fun b u z => ?_) (fun b z => ?_) fun _ => hk'⟩
      · by_cases h : b = a
        · subst h; exact .inr ⟨_, _, upd_same⟩
        · exact .inl (nb b h)
      · by_cases h : b = a
        · subst h
          rw [upd_same] at z
          cases z
          exact ⟨ha, by rw [List.length_map]; exact hl, vs, _, rv, ha⟩
        · rw [nb b h] at z; cases z
      · by_cases h : b = a
        · exact h
        · exact (z (nb b h)).elim
  intro H hok hA hK
  have look : ∀ b o, s.heap.get? b = some o → (b = a → o.data ≠ .seq vs.toArray) → H b = none := fun b o e h => by
    cases q : H b with
    | none => rfl
    | some u =>
      have e1 := hA b (by rw [q]; simp)
      have e2 := h e1
      rw [e1, ha] at e
      cases e
      exact (e2 rfl).elim
  have ns2 : ∀ {b : Addr} {m : Str → Option Value}, s.heap.Ns b m → (hidT s.heap H).Ns b m := fun {b m} ⟨o, es, ep, e, d, r⟩ => ⟨o, es, ep, hidT_get e (look b o e fun _ => by rw [d]; intro z; cases z), d, r⟩
  have kin : K.In (hidT s.heap H) := fun b o e => hidT_get (KX b o e) (by
    cases q : H b with
    | none => rfl
    | some u =>
      have e1 := hA b (by rw [q]; simp)
      rw [e1] at q e
      have := hK (by rw [q]; simp)
      rw [this] at e; cases e)
  obtain ⟨mc, l1, l2⟩ := hlim
  exact ⟨rfl, ⟨kin, ns2 hns, ⟨mb, ns2 hb, hbb⟩, ⟨mc, ns2 l1, l2⟩⟩, fun b o e => of_hidT e, Nat.le_of_eq (hidT_size _ _), trivial, fun b hb => (List.not_mem_nil hb).elim, hok, .of_eq hg⟩
/-- the law's row, from its def's promise -/
theorem walk_ofG {l : PySem.W.OpenLaw} {k : Nat} {q : Program} {loose : List Str} {XP : (Str → Option Value) → Heap → Prop} {YP : World → Heap → Prop} {d : DefRec} {K : Params → Fg} (hn : l.most = some 63) (hdf : d.params.defaults = []) (hr : Room k callerA) (hY : ∀ (w : World) (h : Heap), YP w h → (K w.params).In h)
    (F : ∀ (w : World) (mg : Str → Option Value) (fa : Addr) (h : Heap), (K w.params).In h → h.Ns mainGlobals mg → mg d.name = some (.ref fa) → ∀ base : Heap, (K w.params).In base → base.Ns mainGlobals mg → FnG true l.prog w (K w.params) mg base (L2.CX l.prog w) k fa (toSp (K w.params) spLaw)) :
    PySem.W.WalkO q loose XP YP l.row.toRowW d [] (fun f vs => PySem.call f vs) := by
  refine Att.attach_callB hn hdf fun w s₀ s₁ mg mb fa o pm cd doc a vs ns G Y _ _ _ hmg hobj hints hlen hbits hg => ?_
  have KX := hY w _ Y
  have fn := F w mg fa _ KX G.T.g hmg
  obtain ⟨H, hO, hS, e0⟩ := law_heap (P := l.prog) (w := w) KX G.T.g G.T.b G.T.builtins G.T.nolimit hg hobj hints (Nat.le_trans hlen (by decide))
  have run := fn _ e0.mod.kin e0.mod.glob callerA [] s₁ H [.ref a] [.ref a] _ _ hr (fun _ => rfl) e0 (.cons rfl .nil) (law_start hlen hbits hS)
  refine codeAny_mono run fun r s' hc => ?_
  cases r with
  | error e => exact (law_cx hc).elim
  | ok fl =>
    cases fl with
    | ret u =>
      obtain ⟨v, H', os, bare, un, hok', rv, hv⟩ := hc
      have hv' : v = .bl true := hv
      subst hv'
      obtain rfl : u = Value.bool true := rv
      refine ⟨rfl, OldK.of_keep fun b x e => ?_, os, bare⟩
      rcases hO b with z | ⟨ob, xs, z⟩
      · exact un.keep b x e z (fun m => List.not_mem_nil m) fun m => List.not_mem_nil m
      · have e1 := (e0.hok b _ z).1
        have e2 := (hok' b _ (un.frzs b ob _ z)).1
        rw [e] at e1
        cases e1
        exact e2
    | next => exact hc.elim
    | brk => exact hc.elim
    | cont => exact hc.elim
/-- a matrix -/
@[simp] def mat (a b c d : Int) : PV := .tup [.tup [.int a, .int b], .tup [.int c, .int d]]
theorem hasC_mat {g : Glb} {h : Heap} {x : Str} {t p q : Addr} {a b c d : Int} {ta tb tc td : Tok} {d0 d1 d2 : Option Addr} {n0 n1 n2 : Nat} {s0 s1 s2 : Array (Option Value)} (X : g.K.In h) (G : h.Ns mainGlobals g.mg) (e : PySem.W.nsIn g.K mainGlobals x = some (some (.ref t)))
    (l0 : g.K.lookup t = some ⟨.type "tuple", d0, .seq [.ref p, .ref q].toArray n0, s0⟩) (l1 : g.K.lookup p = some ⟨.type "tuple", d1, .seq [.int a ta, .int b tb].toArray n1, s1⟩) (l2 : g.K.lookup q = some ⟨.type "tuple", d2, .seq [.int c tc, .int d td].toArray n2, s2⟩) : HasC g x (mat a b c d) := by
  have z2 : 2 ≤ sizeLine := by decide
  have v0 : Vals [.ref p, .ref q] [Value.ref p, Value.ref q] := .cons rfl (.cons rfl .nil)
  have v1 : Vals [.int a, .int b] [Value.int a ta, Value.int b tb] := .cons ⟨ta, rfl⟩ (.cons ⟨tb, rfl⟩ .nil)
  have v2 : Vals [.int c, .int d] [Value.int c tc, Value.int d td] := .cons ⟨tc, rfl⟩ (.cons ⟨td, rfl⟩ .nil)
  refine ⟨.ref t, .ref t, PySem.W.mg_of X G e, rfl, fun F => ?_⟩
  exact .tup (sqT_K l0 z2 v0) (.cons (.tup (sqT_K l1 z2 v1) (.cons (.int a) (.cons (.int b) .nil))) (.cons (.tup (sqT_K l2 z2 v2) (.cons (.int c) (.cons (.int d) .nil))) .nil))
theorem hasC_matK {gd : Bool} {P : Program} {w : World} {K : Fg} {mg : Str → Option Value} {base : Heap} {h : Heap} {x : Str} {t p q : Addr} {a b c d : Int} {ta tb tc td : Tok} {d0 d1 d2 : Option Addr} {n0 n1 n2 : Nat} {s0 s1 s2 : Array (Option Value)} (X : K.In h) (G : h.Ns mainGlobals mg) (e : PySem.W.nsIn K mainGlobals x = some (some (.ref t)))
    (l0 : K.lookup t = some ⟨.type "tuple", d0, .seq [.ref p, .ref q].toArray n0, s0⟩) (l1 : K.lookup p = some ⟨.type "tuple", d1, .seq [.int a ta, .int b tb].toArray n1, s1⟩) (l2 : K.lookup q = some ⟨.type "tuple", d2, .seq [.int c tc, .int d td].toArray n2, s2⟩) : HasC ⟨P, w, K, mg, base, gd⟩ x (mat a b c d) := hasC_mat (g := ⟨P, w, K, mg, base, gd⟩) X G e l0 l1 l2
theorem hasC_int {g : Glb} {h : Heap} {x : Str} {a : Int} {t : Tok} (X : g.K.In h) (G : h.Ns mainGlobals g.mg) (e : PySem.W.nsIn g.K mainGlobals x = some (some (.int a t))) : HasC g x (.int a) :=
  ⟨.int a, .int a t, PySem.W.mg_of X G e, ⟨t, rfl⟩, fun _ => .int a⟩
theorem bt_int : bootBuiltins "int" = some (.type "int") := by decide +kernel
theorem bt_bool : bootBuiltins "bool" = some (.type "bool") := by decide +kernel
theorem bt_str : bootBuiltins "str" = some (.type "str") := by decide +kernel
theorem bt_tuple : bootBuiltins "tuple" = some (.type "tuple") := by decide +kernel
theorem bt_list : bootBuiltins "list" = some (.type "list") := by decide +kernel
theorem bt_len : bootBuiltins "len" = some (.builtin "len") := by decide +kernel
theorem bt_max : bootBuiltins "max" = some (.builtin "max") := by decide +kernel
theorem bt_min : bootBuiltins "min" = some (.builtin "min") := by decide +kernel
theorem bt_abs : bootBuiltins "abs" = some (.builtin "abs") := by decide +kernel
theorem bt_sum : bootBuiltins "sum" = some (.builtin "sum") := by decide +kernel
theorem bt_repr : bootBuiltins "repr" = some (.builtin "repr") := by decide +kernel
theorem bt_isinstance : bootBuiltins "isinstance" = some (.builtin "isinstance") := by decide +kernel
end Q
namespace Q
open PySem PySem.Spec PyProof.Rows L2
theorem bt_ord : bootBuiltins "ord" = some (.builtin "ord") := by decide +kernel
/-- repr of what is no container -/
def cRepr : QC := fun ps M k => match ps with
  | [.int i] => i.natAbs.log2 < 1920 ∧ k (.str (toString i)) M
  | [.bl b] => k (.str (if b then "True" else "False")) M
  | [.str x] => (reprText x).length ≤ sizeLine ∧ k (.str (reprText x)) M
  | [.non] => k (.str "None") M
  | _ => False
set_option autoImplicit true in
@[simp] theorem cRepr_s1 : cRepr [.int i] M k = (i.natAbs.log2 < 1920 ∧ k (.str (toString i)) M) := rfl
set_option autoImplicit true in
@[simp] theorem cRepr_s2 : cRepr [.bl b] M k = (k (.str (if b then "True" else "False")) M) := rfl
set_option autoImplicit true in
@[simp] theorem cRepr_s3 : cRepr [.str x] M k = ((reprText x).length ≤ sizeLine ∧ k (.str (reprText x)) M) := rfl
theorem cq_repr {c : Cf} : CQ c (.builtin "repr") cRepr := fun X g pins s σ H xs us Q I r h => by
  obtain ⟨F, ps, M, k, R, ep, ho, hk⟩ := h
  unfold cRepr at ho
  split at ho
  · cases ep with
    | cons e1 e2 =>
      cases e1; cases e2
      obtain ⟨u, rfl, t, rfl⟩ := vals1 r
      exact PySem.P.repr_of_int ho.1 ⟨.str _, H, I.tok _, ⟨_, rfl⟩, hk _ _ _ _ _ ho.2 (Same.refl _) R (.str _)⟩
  · cases ep with
    | cons e1 e2 =>
      cases e1; cases e2
      obtain ⟨u, rfl, e⟩ := vals1 r
      cases e
      exact PySem.P.repr_of_bool ⟨.str _, H, I.tok _, ⟨_, rfl⟩, hk _ _ _ _ _ ho (Same.refl _) R (.str _)⟩
  · cases ep with
    | cons e1 e2 =>
      cases e1; cases e2
      obtain ⟨u, rfl, t, rfl⟩ := vals1 r
      exact PySem.P.repr_of_str ⟨.str _, H, I.tok _, ⟨_, rfl⟩, hk _ _ _ _ _ ho.2 (Same.refl _) R (.str _)⟩ ho.1
  · cases ep with
    | cons e1 e2 =>
      cases e1; cases e2
      obtain ⟨u, rfl, e⟩ := vals1 r
      cases e
      exact PySem.P.repr_of_none ⟨.str _, H, I.tok _, ⟨_, rfl⟩, hk _ _ _ _ _ ho (Same.refl _) R (.str _)⟩
  · exact ho.elim
end Q
namespace Q
open PySem PySem.Spec PyProof.Rows L2
/-! ### walks by their items -/
/-- J yields xs, as long as st holds -/
def Serves (K : Fg) (J : It) (F : Hp) (xs : List PV) (st : PM → Prop) : Prop := ∀ F' M H, Same F F' → Rel K F' M H → st M →
  J.stop xs.length H ∧ ∀ i x, xs[i]? = some x → J.go i H ∧ ∀ v H', J.yld i H v H' → ∃ F'', Same F' F'' ∧ Rel K F'' M H' ∧ Rep K F'' x v
abbrev QI := Tau → PM → PX → (List PV → (PM → Prop) → PM → Prop) → Prop
def lI (X : Cx) (B : Hp) (f : QI) : TI := fun σ H R => ∃ F τ M x k, At X.K B F τ M σ H ∧ f τ M x k ∧ Takes X (lW X.K B fun e τ' M' => τ' = τ ∧ x e M') ∧
  ∀ xs st M' F' J H', k xs st M' → Same F F' → Rel X.K F' M' H' → Serves X.K J F' xs st → R J H'
def DI (c : Cf) (tg iter : Expr) (f : QI) : Prop := ∀ X, Good c X → ∀ B, PI X tg iter (lI X B f)
theorem _root_.L2.PI.im {X : Cx} {tg e : Expr} {t t' : TI} (p : PI X tg e t) (h : ∀ σ H Q, t' σ H Q → t σ H Q) : PI X tg e t' := ⟨fun pins s σ H Q I hw => p.run pins s σ H Q I (h σ H Q hw)⟩
/-- over a list or a tuple -/
@[simp] def iSq (f : QE) : QI := fun τ M x k => f τ M x fun v M1 => seqP v M1 fun xs => k xs (stays v xs) M1
theorem seqP_stays {v : PV} {M : PM} {k : List PV → Prop} (h : seqP v M k) : seqP v M fun xs => k xs ∧ stays v xs M := by
  cases v with
  | ref a =>
    have h' : (match M a with | some (.lst xs) => k xs | _ => False) := h
    show (match M a with | some (.lst xs) => k xs ∧ stays (.ref a) xs M | _ => False)
    split at h'
    · rename_i xs e
      exact ⟨h', e⟩
    · exact h'.elim
  | tup xs => exact ⟨h, trivial⟩
  | lst xs => exact ⟨h, trivial⟩
  | rdl xs => exact ⟨h, trivial⟩
  | tpx xs => exact ⟨h, trivial⟩
  | _ => exact h
theorem di_seq {c : Cf} {tg e : Expr} {f : QE} (he : DE c e f) : DI c tg e (iSq f) := fun X g B => (pi_seq (he X g B)).im fun σ H R => by
  rintro ⟨F, τ, M, x, k, a, hf, tk, hk⟩
  refine ⟨F, τ, M, x, _, a, hf, tk, fun v M1 F1 u H1 h1 s1 r1 e1 => ?_⟩
  obtain ⟨b, xs, rfl, ⟨hx, st⟩, hs⟩ := seqP_st r1 e1 (seqP_stays h1)
  rcases hs with hs | hs
  · obtain ⟨vs, q1, q2⟩ := hs F1 M1 H1 (Same.refl _) r1 st
    refine ⟨b, rfl, .inl ⟨⟨vs, q1⟩, hk _ _ _ _ _ _ hx s1 r1 fun F' M' H' s' r' st' => ?_⟩⟩
    obtain ⟨ws, z1, z2⟩ := hs F' M' H' s' r' st'
    refine ⟨⟨ws, z1, by rw [← z2.length]; exact Nat.le_refl _⟩, fun i y hy => ?_⟩
    obtain ⟨w, w1, w2⟩ := z2.get hy
    exact ⟨⟨ws, w, z1, w1⟩, fun v H2 ⟨e, hv⟩ => by
      subst e
      have := hv ws z1
      rw [w1] at this
      cases this
      exact ⟨F', Same.refl _, r', w2⟩⟩
  · obtain ⟨vs, q1, q2⟩ := hs F1 M1 H1 (Same.refl _) r1 st
    refine ⟨b, rfl, .inr ⟨⟨vs, q1⟩, hk _ _ _ _ _ _ hx s1 r1 fun F' M' H' s' r' st' => ?_⟩⟩
    obtain ⟨ws, z1, z2⟩ := hs F' M' H' s' r' st'
    refine ⟨⟨ws, z1, by rw [← z2.length]; exact Nat.le_refl _⟩, fun i y hy => ?_⟩
    obtain ⟨w, w1, w2⟩ := z2.get hy
    exact ⟨⟨ws, w, z1, w1⟩, fun v H2 ⟨e, hv⟩ => by
      subst e
      have := hv ws z1
      rw [w1] at this
      cases this
      exact ⟨F', Same.refl _, r', w2⟩⟩
/-- over a range -/
def rngL (lo : Int) (n : Nat) : List PV := (List.range n).map fun (i : Nat) => PV.int (lo + (i : Int))
theorem serves_rng {K : Fg} {F : Hp} {lo : Int} {n : Nat} : Serves K (Itr lo n) F (rngL lo n) fun _ => True := fun F' M' H' s' r' _ => by
  have hl : (rngL lo n).length = n := by simp [rngL]
  refine ⟨by show n ≤ _; rw [hl]; exact Nat.le_refl _, fun i x hx => ?_⟩
  have hi : i < n := by
    have := (List.getElem?_eq_some_iff.mp hx).1
    rw [hl] at this
    exact this
  have e : x = .int (lo + i) := by
    unfold rngL at hx
    rw [List.getElem?_map, List.getElem?_range hi] at hx
    exact (Option.some.inj hx).symm
  subst e
  exact ⟨hi, fun v H2 ⟨e1, e2⟩ => by subst e1; subst e2; exact ⟨F', Same.refl _, r', .int _⟩⟩
def iR1 : List PV → (List PV → (PM → Prop) → PM → Prop) → PM → Prop
  | [.int j], k, M => rngB j ∧ k (rngL 0 j.toNat) (fun _ => True) M
  | _, _, _ => False
def iR2 : List PV → (List PV → (PM → Prop) → PM → Prop) → PM → Prop
  | [.int i, .int j], k, M => (rngB i ∧ rngB j) ∧ k (rngL i (j - i).toNat) (fun _ => True) M
  | _, _, _ => False
set_option autoImplicit true in
@[simp] theorem iR1_s : iR1 [.int j] k M = (rngB j ∧ k (rngL 0 j.toNat) (fun _ => True) M) := rfl
set_option autoImplicit true in
@[simp] theorem iR2_s : iR2 [.int i, .int j] k M = ((rngB i ∧ rngB j) ∧ k (rngL i (j - i).toNat) (fun _ => True) M) := rfl
@[simp] def iRg (fa : QA) : QI := fun τ M x k => fa τ M x fun ps M1 => iR1 ps k M1
@[simp] def iRg2 (fa : QA) : QI := fun τ M x k => fa τ M x fun ps M1 => iR2 ps k M1
theorem di_range {c : Cf} {tg a : Expr} {p pos : Pos} {fa : QA} (hgl : c.sc.names.lookup ("range" : Str) = some .globalImplicit) (hm : c.g.mg ("range" : Str) = none) (ha : DA c [a] fa) (hs1 : ∀ env, starEach [a] env = [(false, eval a env)] := by intro _; rfl) : DI c tg (.Call (.Name "range" p) [a] [] pos) (iRg fa) := fun X gd B =>
  (pi_range1 (gl_of gd.sc hgl) (by rw [gd.mg]; exact hm) (ha X gd B) (hs1 _)).im fun σ H R => by
    rintro ⟨F, τ, M, x, k, a, hf, tk, hk⟩
    refine ⟨F, τ, M, x, _, a, hf, tk, fun ps M1 F1 vs H1 h1 s1 r1 e1 => ?_⟩
    unfold iR1 at h1
    split at h1
    · cases e1 with
      | cons e1 e2 =>
        cases e1; cases e2
        exact ⟨_, rfl, h1.1.1, h1.1.2, hk _ _ _ _ _ _ h1.2 s1 r1 serves_rng⟩
    · exact h1.elim
theorem di_range2 {c : Cf} {tg a a2 : Expr} {p pos : Pos} {fa : QA} (hgl : c.sc.names.lookup ("range" : Str) = some .globalImplicit) (hm : c.g.mg ("range" : Str) = none) (ha : DA c [a, a2] fa) (hs1 : ∀ env, starEach [a, a2] env = [(false, eval a env), (false, eval a2 env)] := by intro _; rfl) (hs2 : ∀ env, starEach [a2] env = [(false, eval a2 env)] := by intro _; rfl) : DI c tg (.Call (.Name "range" p) [a, a2] [] pos) (iRg2 fa) := fun X gd B =>
  (pi_range2 (gl_of gd.sc hgl) (by rw [gd.mg]; exact hm) (ha X gd B) (hs1 _) (hs2 _)).im fun σ H R => by
    rintro ⟨F, τ, M, x, k, a, hf, tk, hk⟩
    refine ⟨F, τ, M, x, _, a, hf, tk, fun ps M1 F1 vs H1 h1 s1 r1 e1 => ?_⟩
    unfold iR2 at h1
    split at h1
    · cases e1 with
      | cons e1 e2 =>
        cases e1
        cases e2 with
        | cons e3 e4 =>
          cases e3; cases e4
          exact ⟨_, _, rfl, ⟨h1.1.1.1, h1.1.1.2, h1.1.2.1, h1.1.2.2⟩, hk _ _ _ _ _ _ h1.2 s1 r1 serves_rng⟩
    · exact h1.elim
/-- over a text -/
def chars (z : Str) : List PV := z.cps.toList.map sgn
def iT : PV → (List PV → (PM → Prop) → PM → Prop) → PM → Prop
  | .str z, k, M => k (chars z) (fun _ => True) M
  | _, _, _ => False
set_option autoImplicit true in
@[simp] theorem iT_s : iT (.str z) k M = (k (chars z) (fun _ => True) M) := rfl
@[simp] def iTx (f : QE) : QI := fun τ M x k => f τ M x fun v M1 => iT v k M1
theorem di_text {c : Cf} {tg e : Expr} {f : QE} (he : DE c e f) : DI c tg e (iTx f) := fun X g B => (pi_str (he X g B)).im fun σ H R => by
  rintro ⟨F, τ, M, x, k, a, hf, tk, hk⟩
  refine ⟨F, τ, M, x, _, a, hf, tk, fun v M1 F1 u H1 h1 s1 r1 e1 => ?_⟩
  unfold iT at h1
  split at h1
  · rename_i z
    cases e1
    refine ⟨z, rfl, hk _ _ _ _ _ _ h1 s1 r1 fun F' M' H' s' r' _ => ?_⟩
    refine ⟨?_, fun i y hy => ?_⟩
    · show z.cps.size ≤ (chars z).length
      simp [chars]
    · unfold chars at hy
      rw [List.getElem?_map] at hy
      obtain ⟨ch, h3, rfl⟩ := Option.map_eq_some_iff.mp hy
      have h4 : z.cps[i]? = some ch := by simpa using h3
      refine ⟨(Array.getElem?_eq_some_iff.mp h4).1, fun v H2 ⟨e1, c2, e2, e3⟩ => ?_⟩
      subst e1; subst e3
      rw [h4] at e2
      cases e2
      exact ⟨F', Same.refl _, r', .str _⟩
  · exact h1.elim

/-! ### list comprehensions, one clause -/
def wipeQ (τ : Tau) : List Nat → Tau
  | [] => τ
  | v :: vs => (wipeQ τ vs).set v none
@[simp] theorem wipeQ_nil {τ : Tau} : wipeQ τ [] = τ := rfl
@[simp] theorem wipeQ_cons {τ : Tau} {v : Nat} {vs : List Nat} : wipeQ τ (v :: vs) = (wipeQ τ vs).set v none := rfl
theorem wipe_rel {K : Fg} {F : Hp} {τ : Tau} {σ : L2.St} (r : SRel K F τ σ) : ∀ vs : List Nat, SRel K F (wipeQ τ vs) (wipe σ vs)
  | [] => r
  | v :: vs => (wipe_rel r vs).unset v
theorem Rel.freeze {K : Fg} {F : Hp} {M : PM} {H : Hp} (r : Rel K F M H) {D : Addr} {xs : List PV} (e : M D = some (.lst xs)) : ∃ vs, Rel K (upd F D (.lst vs)) (delM M D) H ∧ Same F (upd F D (.lst vs)) ∧ Reps K F xs vs := by
  obtain ⟨vs, e1, e2⟩ := r.getL e
  have hF := r.dis D _ e
  have hS : Same F (upd F D (.lst vs)) := fun b u e => by rw [upd_ne (ne_of_none e hF)]; exact e
  refine ⟨vs, ⟨fun b u q => ?_, fun a o q => ?_, fun a o q => ?_⟩, hS, e2⟩
  · by_cases hb : b = D
    · subst hb
      rw [upd_same] at q
      cases q
      exact e1
    · rw [upd_ne hb] at q
      exact r.sub b u q
  · unfold delM at q
    split at q
    · cases q
    · rename_i ha
      rw [upd_ne ha]
      exact r.dis a o q
  · unfold delM at q
    split at q
    · cases q
    · rename_i ha
      have z := r.chg a o q
      cases o with
      | lst xs =>
        obtain ⟨vs, e1, e2⟩ := z
        exact ⟨vs, e1, e2.mono hS⟩
      | dK xs =>
        obtain ⟨vs, e1, e2⟩ := z
        exact ⟨vs, e1, e2.mono hS⟩
      | ins C xs =>
        obtain ⟨dx, vs, e1, e2, e3⟩ := z
        exact ⟨dx, vs, e1, e2.mono hS, e3⟩
      | exc C xs =>
        obtain ⟨c, d, e1, e0, e2⟩ := z
        exact ⟨c, d, e1, e0, e2.mono hS⟩
      | tab x =>
        obtain ⟨e0, ps, e1, e2, e3⟩ := z
        refine ⟨e0, ps, e1, e2, fun pos cv hc => ?_⟩
        obtain ⟨c, q1, q2⟩ := e3 pos cv hc
        exact ⟨c, q1, hS _ _ q2⟩
theorem delM_updM {M : PM} {D : Addr} {o : MO} (h : M D = none) : delM (updM M D o) D = M := by
  funext b
  unfold delM updM
  by_cases hb : b = D
  · subst hb
    simp [h]
  · simp [hb]
/-- tests -/
@[simp] def qYes : QT := fun _ M _ k => k true M
/-- the block's target: a name, or a pair of names -/
inductive Tgt where
  | one (i : Nat)
  | two (i j : Nat)
def Tgt.own : Tgt → List Nat
  | .one i => [i]
  | .two i j => [i, j]
def Tgt.set : Tgt → PV → Tau → (Tau → Prop) → Prop
  | .one i, x, τ, k => k (τ.set i (some x))
  | .two i j, .tup [x, y], τ, k => k ((τ.set i (some x)).set j (some y))
  | _, _, _, _ => False
set_option autoImplicit true in
@[simp] theorem tgt_one : Tgt.set (.one i) x τ k = (k (τ.set i (some x))) := rfl
set_option autoImplicit true in
@[simp] theorem tgt_two : Tgt.set (.two i j) (.tup [x, y]) τ k = (k ((τ.set i (some x)).set j (some y))) := rfl
def comp (tg : Tgt) (t : QT) (e : QE) (st : PM → Prop) (D : Addr) (τ : Tau) : List PV → List PV → PM → (List PV → PM → Prop) → Prop
  | [], acc, M, k => st M ∧ M D = some (.lst acc) ∧ k acc (delM M D)
  | x :: xs, acc, M, k => st M ∧ tg.set x τ fun τ2 => t τ2 M (fun _ _ => False) fun b M1 =>
      way b (e τ2 M1 (fun _ _ => False) fun y M2 => M2 D = some (.lst acc) ∧ acc.length < sizeLine ∧ comp tg t e st D τ xs (acc ++ [y]) (updM M2 D (.lst (acc ++ [y]))) k) (comp tg t e st D τ xs acc M1 k)
@[simp] def qLc (fi : QI) (tg : Tgt) (t : QT) (e : QE) (own : List Nat) : QE := fun τ M x k => fi τ M x fun xs st M1 => ∀ D, M1 D = none → comp tg t e st D (wipeQ τ own) xs [] (updM M1 D (.lst [])) fun ys M2 => k (.lst ys) M2
@[simp] def qLcM (fi : QI) (tg : Tgt) (t : QT) (e : QE) (own : List Nat) : QE := fun τ M x k => fi τ M x fun xs st M1 => ∀ D, M1 D = none → comp tg t e st D (wipeQ τ own) xs [] (updM M1 D (.lst [])) fun ys M2 => k (.ref D) (updM M2 D (.lst ys))

def lE0 (K : Fg) (B : Hp) (f : QE) : TE := fun σ H Q => ∃ F τ M k, At K B F τ M σ H ∧ f τ M (fun _ _ => False) k ∧ ∀ r M' F' v H', k r M' → Same F F' → Rel K F' M' H' → Rep K F' r v → Q v H'
def lT0 (K : Fg) (B : Hp) (f : QT) : TT := fun σ H Q => ∃ F τ M k, At K B F τ M σ H ∧ f τ M (fun _ _ => False) k ∧ ∀ b M' F' H', k b M' → Same F F' → Rel K F' M' H' → Q b H'
theorem takes_no {X : Cx} {B : Hp} {τ : Tau} : Takes X (lW X.K B fun e τ' M' => τ' = τ ∧ (fun (_ : PEx) (_ : PM) => False) e M') := fun u s' ⟨a, B', sI, pins, σ, H, cls, d, e, I, nb, up, sky, na, os, ag, w⟩ => by
  obtain ⟨_, _, _, _, _, _, _, _, _, z⟩ := w
  exact z.elim
def DTs (c : Cf) (ifs : List Expr) (t : QT) : Prop := ∀ X, Good c X → ∀ B, PTs X ifs (lT0 X.K B t)
theorem dts_nil {c : Cf} : DTs c [] qYes := fun X g B => ⟨fun pins s σ H Q I h => by
  obtain ⟨F, τ, M, k, a, hf, hk⟩ := h
  exact pts_nil.run pins s σ H Q I (hk _ _ _ _ hf (Same.refl _) a.r)⟩
theorem dts_one {c : Cf} {e : Expr} {t : QT} (h : DT c e t) : DTs c [e] t := fun X g B => pts_one ((h X g B).im fun σ H Q => by
  rintro ⟨F, τ, M, k, a, hf, hk⟩
  exact ⟨F, τ, M, _, k, a, hf, takes_no, hk⟩)
def TgOk (K : Fg) (tg : Tgt) (g : TG) : Prop := ∀ (F : Hp) (x : PV) (v : V) (τ : Tau) (σ : L2.St) (H : Hp) (k : Tau → Prop) (Q : L2.St → Hp → Prop), Same F H → Rep K F x v → SRel K F (wipeQ τ tg.own) (wipe σ tg.own) → tg.set x (wipeQ τ tg.own) k →
  (∀ τ2 σ2, k τ2 → SRel K F τ2 σ2 → wipe σ2 tg.own = wipe σ tg.own → Q σ2 H) → g v (wipe σ tg.own) H Q
def DGb (c : Cf) (fn : Str → Bool) (e : Expr) (tg : Tgt) : Prop := ∃ g : Fg → TG, (∀ K, TgOk K tg (g K)) ∧ ∀ X, Good c X → X.fn = fn → PG X e (g X.K)
theorem dgb_one {c : Cf} {fn : Str → Bool} (i : Nat) {x : Str} {pos : Pos} (hN : c.N.Nodup) (hi : c.N[i]? = some x := by rfl) (hx : Loc c.sc x := by first | exact Or.inl rfl | exact Or.inr rfl) (hf : fn x = true ∨ c.sc.names.lookup x = some .local := by first | exact Or.inl rfl | exact Or.inr rfl) : DGb c fn (.Name x pos) (.one i) :=
  ⟨fun _ => gName i, fun K F x v τ σ H k Q hs e r h hk => by
    refine hk _ _ h (r.set e i) ?_
    simp [Tgt.own, wipe, List.set_set], fun X g hfn => pg_name (i := i) (by rw [g.N]; exact hN) (by rw [g.N]; exact hi) (by rw [g.sc]; exact hx) (by rw [hfn, g.sc]; exact hf)⟩
theorem own_two (σ : L2.St) (i j : Nat) (x y : Option V) : wipe (((wipe σ [i, j]).set i x).set j y) [i, j] = wipe σ [i, j] := by
  apply List.ext_getElem?
  intro n
  simp only [wipe, List.getElem?_set]
  grind
theorem dgb_two {c : Cf} {fn : Str → Bool} (i j : Nat) {x y : Str} {k : Nat} {p1 p2 pos : Pos} (hN : c.N.Nodup) (hi : c.N[i]? = some x := by rfl) (hj : c.N[j]? = some y := by rfl) (hx : Loc c.sc x := by first | exact Or.inl rfl | exact Or.inr rfl) (hy : Loc c.sc y := by first | exact Or.inl rfl | exact Or.inr rfl)
    (hf : fn x = true ∨ c.sc.names.lookup x = some .local := by first | exact Or.inl rfl | exact Or.inr rfl) (hf2 : fn y = true ∨ c.sc.names.lookup y = some .local := by first | exact Or.inl rfl | exact Or.inr rfl) : DGb c fn (.Tuple [.Name x p1, .Name y p2] k pos) (.two i j) :=
  ⟨fun K => gTup K 2 (gCons (gName i) (gCons (gName j) gNil)), fun K F x v τ σ H k Q hs e r h hk => by
    unfold Tgt.set at h
    split at h
    · rename_i heq; cases heq
    · rename_i i' j' x1 y1 τ' k' heq
      cases heq
      cases e with
      | tup hq rs =>
        cases rs with
        | cons e1 rs =>
          cases rs with
          | cons e2 rs =>
            cases rs
            exact ⟨_, _, rfl, sqT_mono hs hq, rfl, _, _, rfl, _, _, rfl, rfl, hk _ _ h ((r.set e1 i).set e2 j) (own_two σ i j _ _)⟩
    · exact h.elim,
    fun X g hfn => pg_tup g.calm (pgs_cons (pg_name (i := i) (by rw [g.N]; exact hN) (by rw [g.N]; exact hi) (by rw [g.sc]; exact hx) (by rw [hfn, g.sc]; exact hf)) (pgs_cons (pg_name (i := j) (by rw [g.N]; exact hN) (by rw [g.N]; exact hj) (by rw [g.sc]; exact hy) (by rw [hfn, g.sc]; exact hf2)) pgs_nil)) rfl rfl⟩
end Q
namespace Q
open PySem PySem.Spec PyProof.Rows L2
def blkCf (c : Cf) (scope : Scope) : Cf := ⟨c.g, c.N, relS scope c.sc, c.k, none⟩
theorem good_blk {c : Cf} {X : Cx} (g : Good c X) {scope : Scope} {s : Shared} {H : Hp} {C : Addr} {cl : List (Str × Addr)} {fp : List Addr} : Good (blkCf c scope) (X.blk s H scope (compEnvC scope cl C X.env) fp) :=
  ⟨g.prog, g.w, g.K, g.mg, g.base, g.N, by show relS scope X.env.scope = relS scope c.sc; rw [g.sc], g.room, g.calm, g.grd, fun _ e => (nomatch e)⟩
theorem lc_walk {K : Fg} {J : It} {F : Hp} {xs : List PV} {st : PM → Prop} {tg : Tgt} {t : QT} {e : QE} {D : Addr} {τ : Tau} {M : PM} {σ : L2.St} {H : Hp} {kq : List PV → PM → Prop} {g : TG} {Qd : Hp → Prop} (B : Hp) (hB : Same B F)
    (sv : Serves K J F xs st) (hg : TgOk K tg g) (r : Rel K F M H) (sr : SRel K F τ σ) (hD : H D = none)
    (hc : comp tg t e st D (wipeQ τ tg.own) xs [] (updM M D (.lst [])) kq)
    (hq : ∀ acc M' F' H', kq acc (delM M' D) → M' D = some (.lst acc) → Same F F' → Rel K F' M' H' → Qd H') :
    ∃ W : Nat → Nat → Hp → Prop, (∃ m, W 0 m (upd H D (.lst []))) ∧ ∀ i m H, W i m H →
      (J.stop i H ∧ Qd H) ∨ (J.go i H ∧ ∃ Nx : Hp → Prop, (∀ H', Nx H' → ∃ m', m' < m ∧ W (i + 1) m' H') ∧ ∀ x H', J.yld i H x H' → g x (wipe σ tg.own) H' fun σ2 H2 => wipe σ2 tg.own = wipe σ tg.own ∧ lT0 K B t σ2 H2 fun b H3 =>
        if b = true then lE0 K B e σ2 H3 fun y H4 => ∃ acc, H4 D = some (.lst acc) ∧ acc.length < sizeLine ∧ Nx (upd H4 D (.lst (acc ++ [y]))) else Nx H3) := by
  refine ⟨fun i m H => m = xs.length - i ∧ i ≤ xs.length ∧ ∃ F' M' acc, Same F F' ∧ Rel K F' M' H ∧ comp tg t e st D (wipeQ τ tg.own) (xs.drop i) acc M' kq,
    ⟨xs.length, by simp, Nat.zero_le _, F, _, [], Same.refl _, r.newL hD .nil, by simpa using hc⟩, ?_⟩
  rintro i m H ⟨rfl, hi, F', M', acc, s', r', h⟩
  by_cases hlt : i < xs.length
  · rw [List.drop_eq_getElem_cons hlt] at h
    obtain ⟨hst, h⟩ := h
    obtain ⟨go, yl⟩ := (sv F' M' H s' r' hst).2 i xs[i] (List.getElem?_eq_getElem hlt)
    refine .inr ⟨go, fun H' => (xs.length - (i + 1) < xs.length - i) ∧ i + 1 ≤ xs.length ∧ ∃ F' M' acc, Same F F' ∧ Rel K F' M' H' ∧ comp tg t e st D (wipeQ τ tg.own) (xs.drop (i + 1)) acc M' kq, fun H' ⟨p1, p2, p3⟩ => ⟨_, p1, rfl, p2, p3⟩, fun v H' hy => ?_⟩
    obtain ⟨F2, s2, r2, e2⟩ := yl v H' hy
    refine hg F2 _ v τ σ H' _ _ r2.sub e2 (wipe_rel (sr.mono (s'.trans s2)) _) h fun τ2 σ2 h2 sr2 hw => ⟨hw, ?_⟩
    refine ⟨F2, τ2, M', _, ⟨(hB.trans s').trans s2, r2, sr2⟩, h2, fun b M3 F3 H3 h3 s3 r3 => ?_⟩
    cases b with
    | false =>
      simp only [Bool.false_eq_true, if_false]
      exact ⟨by omega, hlt, F3, M3, acc, (s'.trans s2).trans s3, r3, h3.2 rfl⟩
    | true =>
      simp only [if_true]
      refine ⟨F3, τ2, M3, _, ⟨((hB.trans s').trans s2).trans s3, r3, sr2.mono s3⟩, h3.1 rfl, fun y M4 F4 u H4 h4 s4 r4 e4 => ?_⟩
      obtain ⟨h5, h6, h7⟩ := h4
      obtain ⟨vs, q1, q2⟩ := r4.getL h5
      refine ⟨vs, q1, by rw [← q2.length]; exact h6, by omega, hlt, F4, _, _, ((s'.trans s2).trans s3).trans s4, r4.setL h5 (q2.append (.cons e4 .nil)), h7⟩
  · have ei : i = xs.length := by omega
    subst ei
    rw [List.drop_length] at h
    obtain ⟨hst, h1, h2⟩ := h
    exact .inl ⟨(sv F' M' H s' r' hst).1, hq acc M' F' H h2 h1 s' r'⟩
theorem updM_delM {M : PM} {D : Addr} {o : MO} (h : M D = some o) : updM (delM M D) D o = M := by
  funext b
  unfold delM updM
  by_cases hb : b = D
  · subst hb
    simp [h]
  · simp [hb]
variable {c : Cf} {elt tge iter : Expr} {ifs : List Expr} {scope : Scope} {own : List (Str × Nat)} {pos : Pos} {fi : QI} {tg : Tgt} {t : QT} {e : QE}
theorem lc_parts {X : Cx} (g : Good c X) (B : Hp) (hg : DGb (blkCf c scope) (fun x => scope.names.lookup x == some .cell) tge tg) (ht : DTs (blkCf c scope) ifs t) (he : DE (blkCf c scope) elt e) :
    ∃ gr : TG, TgOk X.K tg gr ∧ (∀ (s : Shared) (H : Hp) (C : Addr) (cl : List (Str × Addr)) (fp : List Addr), PG (X.blk s H scope (compEnvC scope cl C X.env) fp) tge gr) ∧
      (∀ (s : Shared) (H : Hp) (C : Addr) (cl : List (Str × Addr)) (fp : List Addr), PTs (X.blk s H scope (compEnvC scope cl C X.env) fp) ifs (lT0 X.K B t)) ∧
      (∀ (s : Shared) (H : Hp) (C : Addr) (cl : List (Str × Addr)) (fp : List Addr), PE (X.blk s H scope (compEnvC scope cl C X.env) fp) elt (lE0 X.K B e)) := by
  obtain ⟨gf, h1, h2⟩ := hg
  refine ⟨gf X.K, h1 X.K, fun s H C cl fp => ?_, fun s H C cl fp => ?_, fun s H C cl fp => ?_⟩
  · exact h2 _ (good_blk g) rfl
  · exact ht _ (good_blk g) B
  · exact (he _ (good_blk g) B).im fun σ H Q ⟨F, τ, M, k, a, hf, hk⟩ => ⟨F, τ, M, _, k, a, hf, takes_no, hk⟩
theorem de_lc (hN : c.N.Nodup) (hi : DI c tge iter fi) (ok : BlkOk c.N c.sc scope own) (ho : own.map (·.2) = tg.own) (hg : DGb (blkCf c scope) (fun x => scope.names.lookup x == some .cell) tge tg) (ht : DTs (blkCf c scope) ifs t) (he : DE (blkCf c scope) elt e)
    (hs : ∀ env x, foldedSetIterable iter env x = pure x := by intro _ _; rfl) : DE c (.ListComp elt [⟨tge, iter, ifs, 0⟩] scope pos) (qLc fi tg t e tg.own) := fun X g B => by
  obtain ⟨gr, h1, h2, h3, h4⟩ := lc_parts g B hg ht he
  refine (pe_lc (own := own) (g := gr) (tt := lT0 X.K B t) (te := lE0 X.K B e) g.calm (by rw [g.N]; exact hN) (hi X g B) (by rw [g.N, g.sc]; exact ok) h2 h3 h4 (hs _)).im fun σ H Q => ?_
  rintro ⟨F, τ, M, x, k, a, hf, tk, hk⟩
  refine ⟨F, τ, M, x, _, a, hf, tk, fun xs st M1 F1 J H1 q1 s1 r1 sv D hD => ?_⟩
  rw [ho]
  refine lc_walk B (a.b.trans s1) sv h1 r1 (a.s.mono s1) hD (q1 D (r1.fresh hD).2) fun acc M' F' H' z1 z2 z3 z4 => ?_
  obtain ⟨vs, w1, w2, w3⟩ := z4.freeze z2
  exact hk _ _ _ _ _ z1 ((s1.trans z3).trans w2) w1 (.lst upd_same (w3.mono w2))
theorem de_lcM (hN : c.N.Nodup) (hi : DI c tge iter fi) (ok : BlkOk c.N c.sc scope own) (ho : own.map (·.2) = tg.own) (hg : DGb (blkCf c scope) (fun x => scope.names.lookup x == some .cell) tge tg) (ht : DTs (blkCf c scope) ifs t) (he : DE (blkCf c scope) elt e)
    (hs : ∀ env x, foldedSetIterable iter env x = pure x := by intro _ _; rfl) : DE c (.ListComp elt [⟨tge, iter, ifs, 0⟩] scope pos) (qLcM fi tg t e tg.own) := fun X g B => by
  obtain ⟨gr, h1, h2, h3, h4⟩ := lc_parts g B hg ht he
  refine (pe_lc (own := own) (g := gr) (tt := lT0 X.K B t) (te := lE0 X.K B e) g.calm (by rw [g.N]; exact hN) (hi X g B) (by rw [g.N, g.sc]; exact ok) h2 h3 h4 (hs _)).im fun σ H Q => ?_
  rintro ⟨F, τ, M, x, k, a, hf, tk, hk⟩
  refine ⟨F, τ, M, x, _, a, hf, tk, fun xs st M1 F1 J H1 q1 s1 r1 sv D hD => ?_⟩
  rw [ho]
  refine lc_walk B (a.b.trans s1) sv h1 r1 (a.s.mono s1) hD (q1 D (r1.fresh hD).2) fun acc M' F' H' z1 z2 z3 z4 => ?_
  rw [updM_delM z2] at z1
  exact hk _ _ _ _ _ z1 (s1.trans z3) z4 (.ref D)
/-- y = [..] -/
theorem ds_setLc (i : Nat) {y : Str} {py spos : Pos} (hN : c.N.Nodup) (hi : DI c tge iter fi) (ok : BlkOk c.N c.sc scope own) (ho : own.map (·.2) = tg.own) (hg : DGb (blkCf c scope) (fun x => scope.names.lookup x == some .cell) tge tg) (ht : DTs (blkCf c scope) ifs t) (he : DE (blkCf c scope) elt e)
    (hy : c.N[i]? = some y := by rfl) (hyl : c.sc.names.lookup y = some .local := by rfl) (hk : c.sc.kind = .function := by rfl) (hl : (py.line == pos.line) = true := by decide) (ha : (scope.names.any fun (n, k) => n == y && (k == .local || k == .cell)) = false := by decide)
    (hs : ∀ env x, foldedSetIterable iter env x = pure x := by intro _ _; rfl) : DS c (.Assign [.Name y py] (.ListComp elt [⟨tge, iter, ifs, 0⟩] scope pos) spos) (qAsg (qLc fi tg t e tg.own) (gSet i)) := fun X gd B => by
  have g := gd.toGood
  obtain ⟨gr, h1, h2, h3, h4⟩ := lc_parts g B hg ht he
  refine (ps_setLc (i := i) (own := own) (g := gr) (tt := lT0 X.K B t) (te := lE0 X.K B e) g.calm (by rw [g.N]; exact hN) (by rw [g.N]; exact hy) (by rw [g.sc]; exact hyl) (sw_true (by rw [g.sc]; exact hk) (by rw [g.sc]; exact hyl) hl ha) (hi X g B) (by rw [g.N, g.sc]; exact ok) h2 h3 h4 (hs _)).im fun E σ H => ?_
  rintro ⟨F, τ, M, d, a, hf, tk, hd⟩
  refine ⟨F, τ, M, _, _, a, hf, takes_x tk, fun xs st M1 F1 J H1 q1 s1 r1 sv D hD => ?_⟩
  rw [ho]
  refine lc_walk B (a.b.trans s1) sv h1 r1 (a.s.mono s1) hD (q1 D (r1.fresh hD).2) fun acc M' F' H' z1 z2 z3 z4 => ?_
  obtain ⟨vs, w1, w2, w3⟩ := z4.freeze z2
  have sF := (s1.trans z3).trans w2
  exact hd.nx _ _ _ _ _ z1 sF w1 ((a.s.mono sF).set (.lst upd_same (w3.mono w2)) i)
theorem ds_setLcM (i : Nat) {y : Str} {py spos : Pos} (hN : c.N.Nodup) (hi : DI c tge iter fi) (ok : BlkOk c.N c.sc scope own) (ho : own.map (·.2) = tg.own) (hg : DGb (blkCf c scope) (fun x => scope.names.lookup x == some .cell) tge tg) (ht : DTs (blkCf c scope) ifs t) (he : DE (blkCf c scope) elt e)
    (hy : c.N[i]? = some y := by rfl) (hyl : c.sc.names.lookup y = some .local := by rfl) (hk : c.sc.kind = .function := by rfl) (hl : (py.line == pos.line) = true := by decide) (ha : (scope.names.any fun (n, k) => n == y && (k == .local || k == .cell)) = false := by decide)
    (hs : ∀ env x, foldedSetIterable iter env x = pure x := by intro _ _; rfl) : DS c (.Assign [.Name y py] (.ListComp elt [⟨tge, iter, ifs, 0⟩] scope pos) spos) (qAsg (qLcM fi tg t e tg.own) (gSet i)) := fun X gd B => by
  have g := gd.toGood
  obtain ⟨gr, h1, h2, h3, h4⟩ := lc_parts g B hg ht he
  refine (ps_setLc (i := i) (own := own) (g := gr) (tt := lT0 X.K B t) (te := lE0 X.K B e) g.calm (by rw [g.N]; exact hN) (by rw [g.N]; exact hy) (by rw [g.sc]; exact hyl) (sw_true (by rw [g.sc]; exact hk) (by rw [g.sc]; exact hyl) hl ha) (hi X g B) (by rw [g.N, g.sc]; exact ok) h2 h3 h4 (hs _)).im fun E σ H => ?_
  rintro ⟨F, τ, M, d, a, hf, tk, hd⟩
  refine ⟨F, τ, M, _, _, a, hf, takes_x tk, fun xs st M1 F1 J H1 q1 s1 r1 sv D hD => ?_⟩
  rw [ho]
  refine lc_walk B (a.b.trans s1) sv h1 r1 (a.s.mono s1) hD (q1 D (r1.fresh hD).2) fun acc M' F' H' z1 z2 z3 z4 => ?_
  rw [updM_delM z2] at z1
  have sF := s1.trans z3
  exact hd.nx _ _ _ _ _ z1 sF z4 ((a.s.mono sF).set (.ref D) i)
theorem hasC_intK {gd : Bool} {P : Program} {w : World} {K : Fg} {mg : Str → Option Value} {base : Heap} {h : Heap} {x : Str} {a : Int} {t : Tok} (X : K.In h) (G : h.Ns mainGlobals mg) (e : PySem.W.nsIn K mainGlobals x = some (some (.int a t))) : HasC ⟨P, w, K, mg, base, gd⟩ x (.int a) := hasC_int (g := ⟨P, w, K, mg, base, gd⟩) X G e
end Q
namespace Q
open PySem PySem.Spec PyProof.Rows L2
/-! ### for over any walk -/
@[simp] def qForI (fi : QI) (g : QG) (b : QS) : QS := fun d τ M => fi τ M (dx d τ) fun xs st M1 =>
  ∃ W : Nat → Tau → PM → Prop, W 0 τ M1 ∧ (∀ i τ' M', W i τ' M' → st M') ∧ (∀ i x τ' M', xs[i]? = some x → W i τ' M' → g x τ' M' fun τ2 M2 => b { d with nx := W (i + 1), ct := W (i + 1), bk := d.nx } τ2 M2) ∧ (∀ τ' M', W xs.length τ' M' → d.nx τ' M')
theorem ds_forI {c : Cf} {tg iter : Expr} {body : List Stmt} {pos : Pos} {fi : QI} {g : QG} {b : QS} (hi : DI c tg iter fi) (hg : DG c tg g) (hb : DSs c body b) (hs : ∀ env x, foldedSetIterable iter env x = pure x := by intro _ _; rfl) : DS c (.For tg iter body [] pos) (qForI fi g b) := fun X gd B =>
  (ps_for gd.pass gd.calm (hi X gd.toGood B) (hg X gd B) (hb X gd B) (hs _)).im fun D σ H => by
    rintro ⟨F, τ, M, d, a, hf, tk, hd⟩
    refine ⟨F, τ, M, _, _, a, hf, takes_x tk, fun xs st M1 F1 J H1 h1 s1 r1 sv => ?_⟩
    obtain ⟨W, w0, wst, wgo, wend⟩ := h1
    have a1 : At X.K B F1 τ M1 σ H1 := a.next s1 r1
    refine ⟨fun i m σ' H' => m = xs.length - i ∧ i ≤ xs.length ∧ ∃ F' τ' M', Same F1 F' ∧ At X.K B F' τ' M' σ' H' ∧ W i τ' M', ⟨xs.length, by simp, Nat.zero_le _, F1, τ, M1, Same.refl _, a1, w0⟩, ?_⟩
    rintro i m σ' H' ⟨rfl, hi, F', τ', M', s', a', w⟩
    obtain ⟨sp1, sp2⟩ := sv F' M' H' s' a'.r (wst i τ' M' w)
    by_cases hlt : i < xs.length
    · obtain ⟨go, yl⟩ := sp2 i xs[i] (List.getElem?_eq_getElem hlt)
      refine .inr ⟨go, fun σ3 H3 => ∃ F' τ' M', Same F1 F' ∧ At X.K B F' τ' M' σ3 H3 ∧ W (i + 1) τ' M', fun σ3 H3 h => ⟨xs.length - (i + 1), by omega, rfl, hlt, h⟩, fun v H2 hy => ?_⟩
      obtain ⟨F2, s2, r2, e2⟩ := yl v H2 hy
      exact turnQ tk hd s1 (fun τ' M' w => wgo i xs[i] τ' M' (List.getElem?_eq_getElem hlt) w) (s'.trans s2) (a'.next s2 r2) w e2
    · have ei : i = xs.length := by omega
      subst ei
      exact .inl ⟨sp1, hd.nx _ _ _ _ _ (wend τ' M' w) (s1.trans s') a'.r a'.s⟩
/-! ### enumerate -/
def enumL (xs : List PV) : List PV := xs.mapIdx fun i x => .tup [.int (i : Nat), x]
theorem enumL_get {xs : List PV} {i : Nat} {y : PV} (h : (enumL xs)[i]? = some y) : ∃ x, xs[i]? = some x ∧ y = .tup [.int (i : Nat), x] := by
  unfold enumL at h
  rw [List.getElem?_mapIdx] at h
  obtain ⟨x, h1, h2⟩ := Option.map_eq_some_iff.mp h
  exact ⟨x, h1, h2.symm⟩
@[simp] theorem enumL_length {xs : List PV} : (enumL xs).length = xs.length := by simp [enumL]
def iE : List PV → PM → (List PV → (PM → Prop) → PM → Prop) → Prop
  | [.lst xs], M, k => k (enumL xs) (fun _ => True) M
  | [.rdl xs], M, k => k (enumL xs) (fun _ => True) M
  | [.ref a], M, k => seqP (.ref a) M fun xs => k (enumL xs) (fun M' => M' a = some (.lst xs)) M
  | _, _, _ => False
set_option autoImplicit true in
@[simp] theorem iE_s1 : iE [.lst xs] M k = k (enumL xs) (fun _ => True) M := rfl
set_option autoImplicit true in
@[simp] theorem iE_s2 : iE [.ref a] M k = (seqP (.ref a) M fun xs => k (enumL xs) (fun M' => M' a = some (.lst xs)) M) := rfl
@[simp] def iEnm (fa : QA) : QI := fun τ M x k => fa τ M x fun ps M1 => iE ps M1 k
theorem serves_enum {K : Fg} {F : Hp} {a : Addr} {xs : List PV} {st : PM → Prop} (h : ∀ F' M' H', Same F F' → Rel K F' M' H' → st M' → ∃ vs, SqL K H' a vs ∧ Reps K F' xs vs) : Serves K (Ite K a) F (enumL xs) st := fun F' M' H' s' r' hst => by
  obtain ⟨ws, z1, z2⟩ := h F' M' H' s' r' hst
  refine ⟨⟨ws, z1, by rw [← z2.length]; simp⟩, fun i y hy => ?_⟩
  obtain ⟨x, hx, rfl⟩ := enumL_get hy
  obtain ⟨w, w1, w2⟩ := z2.get hx
  refine ⟨⟨ws, w, z1, w1⟩, fun v H2 ⟨T, u, e1, e2, e3, hu⟩ => ?_⟩
  subst e1; subst e3
  have := hu ws z1
  rw [w1] at this
  cases this
  obtain ⟨r2, s2⟩ := r'.newF e2 (.tup [.int (i : Nat), w])
  exact ⟨_, s2, r2, .tup (SqT.of upd_same) (.cons (.int _) (.cons (w2.mono s2) .nil))⟩
theorem di_enum {c : Cf} {e : Expr} {elts : List Expr} {kk : Nat} {p pos tpos : Pos} {fa : QA} (hgl : c.sc.names.lookup ("enumerate" : Str) = some .globalImplicit) (hm : c.g.mg ("enumerate" : Str) = none) (ha : DA c [e] fa) (hs1 : ∀ env, starEach [e] env = [(false, eval e env)] := by intro _; rfl) :
    DI c (.Tuple elts kk tpos) (.Call (.Name "enumerate" p) [e] [] pos) (iEnm fa) := fun X gd B =>
  (pi_enum (gl_of gd.sc hgl) (by rw [gd.mg]; exact hm) (ha X gd B) (hs1 _)).im fun σ H R => by
    rintro ⟨F, τ, M, x, k, a, hf, tk, hk⟩
    refine ⟨F, τ, M, x, _, a, hf, tk, fun ps M1 F1 vs H1 h1 s1 r1 e1 => ?_⟩
    unfold iE at h1
    split at h1
    · cases e1 with
      | cons e1 e2 =>
        cases e2
        cases e1 with
        | lst hs rs => exact ⟨_, _, rfl, SqL.of (r1.sub _ _ hs), hk _ _ _ _ _ _ h1 s1 r1 (serves_enum fun F' M' H' s' r' _ => ⟨_, SqL.of (r'.sub _ _ (s' _ _ hs)), rs.mono s'⟩)⟩
    · cases e1 with
      | cons e1 e2 =>
        cases e2
        cases e1 with
        | rdl hs rs => exact ⟨_, _, rfl, r1.sub.seq hs, hk _ _ _ _ _ _ h1 s1 r1 (serves_enum fun F' M' H' s' r' _ => ⟨_, r'.sub.seq (s'.seq hs), rs.mono s'⟩)⟩
    · rename_i b
      cases e1 with
      | cons e1 e2 =>
        cases e2
        obtain ⟨b', xs, e3, ⟨hx, st⟩, hq⟩ := seqP_st r1 e1 (seqP_stays h1)
        cases e1
        cases e3
        have st' : M1 b = some (.lst xs) := st
        obtain ⟨vs, q1, q2⟩ := r1.getL st'
        exact ⟨_, _, rfl, SqL.of q1, hk _ _ _ _ _ _ hx s1 r1 (serves_enum fun F' M' H' s' r' h => by
          obtain ⟨vs, q1, q2⟩ := r'.getL h
          exact ⟨vs, SqL.of q1, q2⟩)⟩
    · exact h1.elim
/-! enumerate of a text -/
def Itn (x : Str) : It :=
  ⟨fun i _ => i < x.cps.size, fun i H v H' => ∃ T ch, v = .ref T ∧ H T = none ∧ x.cps[i]? = some ch ∧ H' = upd H T (.tup [.int (i : Nat), .str ⟨#[ch]⟩]), fun i _ => i = x.cps.size⟩
theorem turn_enumS {P : Program} {w : World} {K : PySem.W.Frag} {elts : List Expr} {kk : Nat} {tpos : Pos} (x : Str) (t : Tok) (e it : Addr) :
    Turn P w K (.Tuple elts kk tpos) (Itn x) [e, it] e (fun i h => (∃ old, IsEnum h e it ((i : Nat) : Int) old) ∧ h.IsStrIter it (strIterType x) x t i ∧ e ≠ it) where
  mem := by simp
  obj := fun i h st b hb => by
    obtain ⟨⟨old, he⟩, ⟨o, ho, hc, hd⟩, _⟩ := st
    have e' : b = e ∨ b = it := by simpa using hb
    rcases e' with z | z
    · rw [z]; exact ⟨_, he, fun v q => nomatch q⟩
    · rw [z]; exact ⟨o, ho, fun v q => by rw [hd] at q; cases q⟩
  keep := fun i h h' st k => by
    obtain ⟨⟨old, he⟩, ⟨o, ho, r⟩, hne⟩ := st
    exact ⟨⟨old, k e (by simp) _ he⟩, ⟨o, k it (by simp) o ho, r⟩, hne⟩
  item := by
    intro X hP hw hK hc i pins s σ H E I hf st hg
    subst hP hw hK
    obtain ⟨⟨old, he⟩, hit, hne⟩ := st
    have hh : X.A.in1.handled = none := I.ok.hd hc
    have D : Draws X.prog X.w X.A.in1 it [it] x.cps.size (fun i v => ∃ c u, x.cps[i]? = some c ∧ v = .str ⟨#[c]⟩ u) (fun i h => h.IsStrIter it (strIterType x) x t i) := by
      unfold strIterType
      cases x.cps.all (· < 128)
      · exact Draws.strWide hh it x t
      · exact Draws.strAscii hh it x t
    have hel : e < s.heap.objs.size := Heap.lt_size he
    have hil : it < s.heap.objs.size := by obtain ⟨_, q, _⟩ := hit; exact Heap.lt_size q
    refine wpAny_pyNext_enum_itemD D he hit hg hne (by simpa using hne) fun u h' tk hu ho hit' hT hsz hk => ?_
    obtain ⟨ch, tu, hch, rfl⟩ := hu
    refine ⟨_, rfl, wpAny_letOwnedTupleGo_enum (s := { s with heap := h', toks := tk + 1 }) ho fun h'' he' sb => ?_⟩
    have hT2 : h''.get? s.heap.objs.size = some { cls := .type "tuple", data := .seq #[.int i tk, .str ⟨#[ch]⟩ tu] } := (sb.2 _ (Nat.ne_of_gt hel)).trans hT
    have new : ObjOk X.prog X.w (upd H s.heap.objs.size (.tup [.int (i : Nat), .str ⟨#[ch]⟩])) h'' s.heap.objs.size (.tup [.int (i : Nat), .str ⟨#[ch]⟩]) :=
      ⟨by show 2 ≤ sizeLine; decide, [.int i tk, .str ⟨#[ch]⟩ tu], .cons ⟨_, rfl⟩ (.cons ⟨_, rfl⟩ .nil), ⟨_, hT2, rfl, _, rfl⟩⟩
    have I1 : Inv X pins σ (upd H s.heap.objs.size (.tup [.int (i : Nat), .str ⟨#[ch]⟩])) { s with heap := h'', toks := tk + 1 } :=
      I.turnedNew (ch := [e, it]) (fun b ob hb q => (sb.2 b (fun z => hb (by simp [z]))).trans (hk b ob (fun z => hb (by simp [z])) (fun z => hb (by simp [z])) q)) hf (Nat.le_refl _) new
    refine ⟨.ref s.heap.objs.size, _, I1, rfl, ⟨_, ch, rfl, I.hok.fresh (Nat.le_refl _), hch, rfl⟩, ⟨⟨.str ⟨#[ch]⟩ tu, ?_⟩, ?_, hne⟩, fun b hb => ?_⟩
    · have e1 : ((i + 1 : Nat) : Int) = (i : Int) + 1 := by omega
      rw [e1]; exact he'
    · obtain ⟨o, q, r⟩ := hit'
      exact ⟨o, (sb.2 it (Ne.symm hne)).trans q, r⟩
    · have hb' : b < s.heap.objs.size := by
        have e' : b = e ∨ b = it := by simpa using hb
        rcases e' with z | z
        · rw [z]; exact hel
        · rw [z]; exact hil
      rw [upd_ne (Nat.ne_of_lt hb')]
      exact (hf b hb).1
  done := by
    intro X hP hw hK hc i pins s σ H E I hf st hg
    subst hP hw hK
    obtain ⟨⟨old, he⟩, hit, hne⟩ := st
    have hh : X.A.in1.handled = none := I.ok.hd hc
    obtain ⟨f0, f1, f2, f3, f4, f5⟩ := hf it (by simp)
    have D : Draws X.prog X.w X.A.in1 it [it] x.cps.size (fun i v => ∃ c u, x.cps[i]? = some c ∧ v = .str ⟨#[c]⟩ u) (fun i h => h.IsStrIter it (strIterType x) x t i) := by
      unfold strIterType
      cases x.cps.all (· < 128)
      · exact Draws.strWide hh it x t
      · exact Draws.strAscii hh it x t
    have hg : i = x.cps.size := hg
    subst hg
    exact wpAny_pyNext_enum_endD D he hit fun h' eb => ⟨rfl, I.turned (t' := s.toks) (fun b o hb q => eb b o hb q) f0 f1 f3 f4 f5⟩
  self := fun A i s Q E st h => let ⟨⟨_, he⟩, _⟩ := st; wpAny_pyIter_enum he h
theorem pi_enumS {X : Cx} {tgx : Expr} {e : Expr} {ta : TA} {p pos tpos : Pos} {elts : List Expr} {kk : Nat} (hg : Gl X "enumerate") (hm : X.mg "enumerate" = none) (ha : PA X [e] ta) (hs : starEach [e] X.env = [(false, eval e X.env)] := by rfl) :
    PI X (.Tuple elts kk tpos) (.Call (.Name "enumerate" p) [e] [] pos) (fun σ H R => ta σ H fun vs H1 => ∃ z, vs = [.str z] ∧ R (Itn z) H1) := by
  refine ⟨fun pins s σ H R I h => ?_⟩
  refine Call_ (ld_blt I hg hm boot_enumerate (PyProof.Rows.callWith_type1 (thn (ha.run pos pins s σ H _ I h) fun us s1 ⟨vs, H1, I1, r1, q1⟩ => ?_) hs rfl))
  obtain ⟨z, ex, q⟩ := q1
  subst ex
  cases r1 with
  | cons r rr =>
    cases rr
    obtain ⟨t, rfl⟩ := r
    refine call_enumerate_str fun h' he hit hsz hk => wpAny_pyIter_enum he ?_
    have I2 : Inv X pins σ H1 { s1 with heap := h' } := I1.kept (t' := s1.toks) hk
    refine ⟨s1.heap.objs.size + 1, [s1.heap.objs.size + 1, s1.heap.objs.size], _, _, H1, rfl, I2, turn_enumS z t (s1.heap.objs.size + 1) s1.heap.objs.size, ⟨⟨.none, he⟩, hit, Nat.succ_ne_self _⟩, fun b hb => ?_, q⟩
    have e' : b = s1.heap.objs.size + 1 ∨ b = s1.heap.objs.size := by simpa using hb
    have hle : s1.heap.objs.size ≤ b := by
      rcases e' with z | z
      · rw [z]; exact Nat.le_add_right _ _
      · rw [z]; exact Nat.le_refl _
    exact I1.fpOk hle (I1.hok.fresh hle)
def iEt : List PV → PM → (List PV → (PM → Prop) → PM → Prop) → Prop
  | [.str z], M, k => k (enumL (chars z)) (fun _ => True) M
  | _, _, _ => False
set_option autoImplicit true in
@[simp] theorem iEt_s1 : iEt [.str z] M k = k (enumL (chars z)) (fun _ => True) M := rfl
@[simp] def iEnT (fa : QA) : QI := fun τ M x k => fa τ M x fun ps M1 => iEt ps M1 k
theorem di_enumT {c : Cf} {e : Expr} {elts : List Expr} {kk : Nat} {p pos tpos : Pos} {fa : QA} (hgl : c.sc.names.lookup ("enumerate" : Str) = some .globalImplicit) (hm : c.g.mg ("enumerate" : Str) = none) (ha : DA c [e] fa) (hs1 : ∀ env, starEach [e] env = [(false, eval e env)] := by intro _; rfl) :
    DI c (.Tuple elts kk tpos) (.Call (.Name "enumerate" p) [e] [] pos) (iEnT fa) := fun X gd B =>
  (pi_enumS (tgx := e) (gl_of gd.sc hgl) (by rw [gd.mg]; exact hm) (ha X gd B) (hs1 _)).im fun σ H R => by
    rintro ⟨F, τ, M, x, k, a, hf, tk, hk⟩
    refine ⟨F, τ, M, x, _, a, hf, tk, fun ps M1 F1 vs H1 h1 s1 r1 e1 => ?_⟩
    unfold iEt at h1
    split at h1
    · rename_i z
      cases e1 with
      | cons e1 e2 =>
        cases e2; cases e1
        refine ⟨z, rfl, hk _ _ _ _ _ _ h1 s1 r1 fun F' M' H' s' r' _ => ⟨?_, fun i y hy => ?_⟩⟩
        · show (enumL (chars z)).length = z.cps.size
          simp [chars]
        · obtain ⟨x, hx, rfl⟩ := enumL_get hy
          unfold chars at hx
          rw [List.getElem?_map] at hx
          obtain ⟨ch, h3, rfl⟩ := Option.map_eq_some_iff.mp hx
          have h4 : z.cps[i]? = some ch := by simpa using h3
          refine ⟨(Array.getElem?_eq_some_iff.mp h4).1, fun v H2 ⟨T, c2, e1, e2, e3, e4⟩ => ?_⟩
          subst e1; subst e4
          rw [h4] at e3
          cases e3
          obtain ⟨r2, s2⟩ := r'.newF e2 (.tup [.int (i : Nat), .str ⟨#[ch]⟩])
          exact ⟨_, s2, r2, .tup (SqT.of upd_same) (.cons (.int _) (.cons (.str _) .nil))⟩
    · exact h1.elim
end Q
namespace Q
open PySem PySem.Spec PyProof.Rows L2
/-! ### methods of lists -/
def isLst : PV → PM → (Addr → Prop) → Prop
  | .ref a, M, f => (∃ xs, M a = some (.lst xs)) ∧ f a
  | _, _, _ => False
set_option autoImplicit true in
@[simp] theorem isLst_s : isLst (.ref a) M f = ((∃ xs, M a = some (.lst xs)) ∧ f a) := rfl
def appP (a : Addr) (y : PV) (M : PM) (k : PK) : Prop := match M a with
  | some (.lst xs) => xs.length < sizeLine ∧ k .non (updM M a (.lst (xs ++ [y])))
  | _ => False
@[simp] def qApp (fo fe : QE) : QE := fun τ M x k => fo τ M x fun p M1 => isLst p M1 fun a => fe τ M1 x fun y M2 => appP a y M2 k
def popP (a : Addr) (M : PM) (k : PK) : Prop := match M a with
  | some (.lst xs) => match xs[xs.length - 1]? with
    | some y => k y (updM M a (.lst xs.dropLast))
    | none => False
  | _ => False
@[simp] def qPop (fo : QE) : QE := fun τ M x k => fo τ M x fun p M1 => isLst p M1 fun a => popP a M1 k
theorem isLst_ok {K : Fg} {F : Hp} {M : PM} {H : Hp} {p : PV} {v : V} {f : Addr → Prop} (R : Rel K F M H) (e : Rep K F p v) (h : isLst p M f) : ∃ a, p = .ref a ∧ v = .ref a ∧ f a ∧ tyV K "list" v H := by
  unfold isLst at h
  split at h
  · rename_i a
    obtain ⟨⟨xs, hx⟩, h⟩ := h
    obtain ⟨vs, e1, e2⟩ := R.getL hx
    cases e
    exact ⟨a, rfl, rfl, h, .inl ⟨rfl, vs, SqL.of e1⟩⟩
  · exact h.elim
theorem de_append {c : Cf} {o e : Expr} {apos cpos : Pos} {fo fe : QE} (ho : DE c o fo) (he : DE c e fe) (hbase : ∀ env, attributeBase o "append" env (eval o env) = eval o env := by intro _; rfl)
    (hfew : ∀ env, ((backTo cpos (starEach [e] env)).all (fun x => !x.1) && (backToKw cpos (keywordEach [] env)).all (fun x => x.1.isSome) && decide (([e] : List Expr).length + ([] : List Keyword).length + (if ([] : List Keyword).isEmpty then 0 else 1) < 30)) = true := by intro _; rfl)
    (hline : (apos.endLine == cpos.line) = true := by rfl) (hs : ∀ env, starEach [e] env = (false, eval e env) :: starEach [] env := by intro _; rfl) (hpl : ∀ env, (backTo cpos (starEach [] env)).any (·.1) = false := by intro _; rfl) :
    DE c (.Call (.Attribute o "append" apos) [e] [] cpos) (qApp fo fe) := fun X g B => by
  refine (pe_bm PySem.F.plainAttrs_list PySem.F.slot_list_append PySem.F.type_list_append (show MtR X _ _ from mt_append) (ho X g B) (pa_cons (he X g B) pa_nil (hs _)) (hbase _) (hfew _) hline (hs _) (hpl _)).im fun σ H Q => ?_
  rintro ⟨F, τ, M, x, k, a, hf, tk, hk⟩
  refine ⟨F, τ, M, x, _, a, hf, tk, fun p M1 F1 v H1 h1 s1 r1 e1 => ?_⟩
  obtain ⟨b, rfl, rfl, h1, ty⟩ := isLst_ok r1 e1 h1
  refine ⟨ty, F1, τ, M1, x, _, a.next s1 r1, h1, tk, fun y M2 F2 w H2 h2 s2 r2 e2 => ?_⟩
  unfold appP at h2
  split at h2
  · rename_i xs hx
    obtain ⟨vs, q1, q2⟩ := r2.getL hx
    exact ⟨b, vs, w, rfl, rfl, q1, by rw [← q2.length]; exact h2.1, hk _ _ _ _ _ h2.2 (s1.trans s2) (r2.setL hx (q2.append (.cons e2 .nil))) .non⟩
  · exact h2.elim
theorem de_pop {c : Cf} {o : Expr} {apos cpos : Pos} {fo : QE} (ho : DE c o fo) (hbase : ∀ env, attributeBase o "pop" env (eval o env) = eval o env := by intro _; rfl) (hline : (apos.endLine == cpos.line) = true := by rfl) :
    DE c (.Call (.Attribute o "pop" apos) [] [] cpos) (qPop fo) := fun X g B => by
  refine (pe_bm0 PySem.F.plainAttrs_list PySem.F.slot_list_pop PySem.F.type_list_pop (show MtR X _ _ from mt_pop) (ho X g B) (hbase _) hline).im fun σ H Q => ?_
  rintro ⟨F, τ, M, x, k, a, hf, tk, hk⟩
  refine ⟨F, τ, M, x, _, a, hf, tk, fun p M1 F1 v H1 h1 s1 r1 e1 => ?_⟩
  obtain ⟨b, rfl, rfl, h1, ty⟩ := isLst_ok r1 e1 h1
  refine ⟨ty, ?_⟩
  unfold popP at h1
  split at h1
  · rename_i xs hx
    obtain ⟨vs, q1, q2⟩ := r1.getL hx
    split at h1
    · rename_i y hy
      obtain ⟨w, w1, w2⟩ := q2.get hy
      exact ⟨b, vs, w, rfl, rfl, q1, by rw [← q2.length]; exact w1, hk _ _ _ _ _ h1 s1 (r1.setL hx q2.dropLast) w2⟩
    · exact h1.elim
  · exact h1.elim
/-! ### sep.join(xs) -/
def strOf : PV → Option Str
  | .str z => some z
  | _ => none
def strsOf : List PV → Option (List Str)
  | [] => some []
  | .str z :: r => match strsOf r with
    | some zs => some (z :: zs)
    | none => none
  | _ :: _ => none
theorem strsOf_map : ∀ zs : List Str, strsOf (zs.map PV.str) = some zs
  | [] => rfl
  | z :: zs => by
    show (match strsOf (zs.map PV.str) with | some zs => some (z :: zs) | none => none) = _
    rw [strsOf_map zs]
theorem strsOf_ok {K : Fg} {F : Hp} : ∀ {xs : List PV} {vs : List V} {zs : List Str}, Reps K F xs vs → strsOf xs = some zs → vs = zs.map V.str
  | [], _, _, r, h => by cases r; cases h; rfl
  | x :: xs, _, _, .cons a b, h => by
    unfold strsOf at h
    split at h
    · rename_i heq; cases heq
    · rename_i z r heq
      cases heq
      cases q : strsOf xs with
      | none => rw [q] at h; cases h
      | some ws =>
        rw [q] at h
        cases h
        cases a
        rw [strsOf_ok b q]
        rfl
    · cases h
def joinP : PV → PV → PM → PK → Prop
  | .str a, y, M, k => seqP y M fun xs => ∃ zs, strsOf xs = some zs ∧ (zs.map (·.length)).sum + zs.length * a.length ≤ 16777216 ∧ k (.str (Txt.join a zs)) M
  | _, _, _, _ => False
set_option autoImplicit true in
@[simp] theorem joinP_s : joinP (.str a) y M k = (seqP y M fun xs => ∃ zs, strsOf xs = some zs ∧ (zs.map (·.length)).sum + zs.length * a.length ≤ 16777216 ∧ k (.str (Txt.join a zs)) M) := rfl
def isStrP : PV → Prop → Prop
  | .str _, k => k
  | _, _ => False
@[simp] theorem isStrP_s {z : Str} {k : Prop} : isStrP (.str z) k = k := rfl
@[simp] def qJoin (fo fe : QE) : QE := fun τ M x k => fo τ M x fun p M1 => isStrP p (fe τ M1 x fun y M2 => joinP p y M2 k)
theorem de_join {c : Cf} {o e : Expr} {apos cpos : Pos} {fo fe : QE} (ho : DE c o fo) (he : DE c e fe) (hs : ∀ env, starEach [e] env = [(false, eval e env)] := by intro _; rfl) (hbase : ∀ env, attributeBase o "join" env (eval o env) = eval o env := by intro _; rfl) (hline : (apos.endLine == cpos.line) = true := by rfl) :
    DE c (.Call (.Attribute o "join" apos) [e] [] cpos) (qJoin fo fe) := fun X g B => by
  refine (pe_join (ho X g B) (he X g B) (hs _) (hbase _) hline).im fun σ H Q => ?_
  rintro ⟨F, τ, M, x, k, a, hf, tk, hk⟩
  refine ⟨F, τ, M, x, _, a, hf, tk, fun p M1 F1 v H1 h1 s1 r1 e1 => ?_⟩
  cases e1 with
  | str z =>
    refine ⟨⟨z, rfl⟩, F1, τ, M1, x, _, a.next s1 r1, h1, tk, fun y M2 F2 w H2 h2 s2 r2 e2 => ?_⟩
    obtain ⟨b, vs, xs, rfl, hs, rr, zs, h3, h4, h5⟩ := seqP_ok r2 e2 h2
    have := strsOf_ok rr h3
    subst this
    exact ⟨z, b, zs, rfl, rfl, hs.symm, h4, hk _ _ _ _ _ h5 (s1.trans s2) r2 (.str _)⟩
  | _ => exact h1.elim
/-! ### in, not in -/
def flatP : PV → Option V
  | .non => some .non
  | .bl b => some (.bl b)
  | .int i => some (.int i)
  | .str z => some (.str z)
  | _ => none
def flatPs : List PV → Option (List V)
  | [] => some []
  | x :: r => match flatP x, flatPs r with
    | some v, some vs => some (v :: vs)
    | _, _ => none
theorem flatP_ok {K : Fg} {F : Hp} {x : PV} {v w : V} (r : Rep K F x v) (h : flatP x = some w) : v = w ∧ flatV v = true := by
  cases r <;> cases h <;> exact ⟨rfl, rfl⟩
theorem flatPs_ok {K : Fg} {F : Hp} : ∀ {xs : List PV} {vs ws : List V}, Reps K F xs vs → flatPs xs = some ws → vs = ws ∧ vs.all flatV = true
  | [], _, _, r, h => by cases r; cases h; exact ⟨rfl, rfl⟩
  | x :: xs, _, _, .cons a b, h => by
    unfold flatPs at h
    split at h
    · rename_i v vs h1 h2
      cases h
      obtain ⟨e1, f1⟩ := flatP_ok a h1
      obtain ⟨e2, f2⟩ := flatPs_ok b h2
      subst e1; subst e2
      exact ⟨rfl, by rw [List.all_cons, f1, f2]; rfl⟩
    · cases h
def opIn (neg : Bool) : Q2 := fun x y M k => seqP y M fun xs => ∃ v ws, flatP x = some v ∧ flatPs xs = some ws ∧ k (.bl (if neg then !inV v ws else inV v ws)) M
theorem in_ok {K : Fg} {F : Hp} {H : Hp} {M : PM} {p q : PV} {x y : V} {k : PK} {neg : Bool} {Q : VK} (R : Rel K F M H) (ep : Rep K F p x) (eq_ : Rep K F q y) (h : opIn neg p q M k)
    (hk : ∀ z, k (.bl z) M → Q (.bl z) H) : rIn K neg x y H Q := by
  obtain ⟨a, vs, xs, rfl, hs, rr, v, ws, h1, h2, h3⟩ := seqP_ok R eq_ h
  obtain ⟨e1, f1⟩ := flatP_ok ep h1
  obtain ⟨e2, f2⟩ := flatPs_ok rr h2
  subst e1; subst e2
  exact ⟨a, _, rfl, hs.symm, f1, f2, hk _ h3⟩
theorem oq_in {c : Cf} : OQ c (compareOp .In) (opIn false) := fun X g pins s σ H x y v u Q I rx ry h => by
  obtain ⟨F, p, q, M, k, R, ep, eq_, ho, hk⟩ := h
  exact op_in_seq pins s σ H x y v u Q I rx ry (in_ok R ep eq_ ho fun z hz => hk _ _ _ _ _ hz (Same.refl _) R (.bl _))
theorem oq_notin {c : Cf} : OQ c (compareOp .NotIn) (opIn true) := fun X g pins s σ H x y v u Q I rx ry h => by
  obtain ⟨F, p, q, M, k, R, ep, eq_, ho, hk⟩ := h
  exact op_notIn_seq pins s σ H x y v u Q I rx ry (in_ok R ep eq_ ho fun z hz => hk _ _ _ _ _ hz (Same.refl _) R (.bl _))
/-! ### parts -/
abbrev QO := Tau → PM → PX → (Option Int → PM → Prop) → Prop
def lO (X : Cx) (B : Hp) (f : QO) : TO := fun σ H Q => ∃ F τ M x k, At X.K B F τ M σ H ∧ f τ M x k ∧ Takes X (lW X.K B fun e τ' M' => τ' = τ ∧ x e M') ∧ ∀ i M' F' H', k i M' → Same F F' → Rel X.K F' M' H' → Q i H'
def DO (c : Cf) (e : Option Expr) (f : QO) : Prop := ∀ X, Good c X → ∀ B, PO X e (lO X B f)
@[simp] def oNone : QO := fun _ M _ k => k none M
def isInt : PV → (Int → Prop) → Prop
  | .int i, k => k i
  | _, _ => False
@[simp] theorem isInt_s {i : Int} {k : Int → Prop} : isInt (.int i) k = k i := rfl
@[simp] def oSome (f : QE) : QO := fun τ M x k => f τ M x fun v M1 => isInt v fun i => k (some i) M1
theorem _root_.L2.PO.im {X : Cx} {e : Option Expr} {t t' : TO} (p : PO X e t) (h : ∀ σ H Q, t' σ H Q → t σ H Q) : PO X e t' := ⟨fun pins s σ H Q I hw => p.run pins s σ H Q I (h σ H Q hw)⟩
theorem do_none {c : Cf} : DO c none oNone := fun X g B => po_none.im fun σ H Q ⟨F, τ, M, x, k, a, hf, tk, hk⟩ => hk _ _ _ _ hf (Same.refl _) a.r
theorem do_some {c : Cf} {e : Expr} {f : QE} (h : DE c e f) : DO c (some e) (oSome f) := fun X g B => (po_some (h X g B)).im fun σ H Q ⟨F, τ, M, x, k, a, hf, tk, hk⟩ => by
  refine ⟨F, τ, M, x, _, a, hf, tk, fun p M1 F1 v H1 h1 s1 r1 e1 => ?_⟩
  cases e1 with
  | int i => exact ⟨i, rfl, hk _ _ _ _ h1 s1 r1⟩
  | _ => exact h1.elim
/-- a part of a text -/
def cutP : PV → Option Int → Option Int → PM → PK → Prop
  | .str z, lo, hi, M, k => z.length ≤ sizeLine ∧ k (.str (cutS z lo hi)) M
  | _, _, _, _, _ => False
set_option autoImplicit true in
@[simp] theorem cutP_s {l u : Option Int} : cutP (.str z) l u M k = (z.length ≤ sizeLine ∧ k (.str (cutS z l u)) M) := rfl
@[simp] def qCutS (f : QE) (fl fh : QO) : QE := fun τ M x k => f τ M x fun p M1 => fl τ M1 x fun lo M2 => fh τ M2 x fun hi M3 => cutP p lo hi M3 k
theorem de_cutS {c : Cf} {e : Expr} {lo hi : Option Expr} {p2 pos : Pos} {f : QE} {fl fh : QO} (he : DE c e f) (hl : DO c lo fl) (hh : DO c hi fh) : DE c (.Subscript e (.Slice lo hi none p2) pos) (qCutS f fl fh) := fun X g B => by
  refine (pe_slice sl_str (he X g B) (hl X g B) (hh X g B)).im fun σ H Q => ?_
  rintro ⟨F, τ, M, x, k, a, hf, tk, hk⟩
  refine ⟨F, τ, M, x, _, a, hf, tk, fun p M1 F1 v H1 h1 s1 r1 e1 => ?_⟩
  refine ⟨F1, τ, M1, x, _, a.next s1 r1, h1, tk, fun l M2 F2 H2 h2 s2 r2 => ?_⟩
  refine ⟨F2, τ, M2, x, _, (a.next s1 r1).next s2 r2, h2, tk, fun u M3 F3 H3 h3 s3 r3 => ?_⟩
  cases e1 with
  | str z => exact ⟨z, rfl, h3.1, hk _ _ _ _ _ h3.2 ((s1.trans s2).trans s3) r3 (.str _)⟩
  | _ => exact h3.elim
/-! ### tuple(xs) -/
def cTuple : QC := fun ps M k => match ps with
  | [p] => seqP p M fun xs => k (.tup xs) M
  | _ => False
@[simp] theorem cTuple_s {p : PV} {M : PM} {k : PK} : cTuple [p] M k = seqP p M fun xs => k (.tup xs) M := rfl
theorem cq_tuple {c : Cf} : CQ c (.type "tuple") cTuple := fun X g pins s σ H xs us Q I r h => by
  refine call_tuple_of pins s σ H xs us Q I r ?_
  obtain ⟨F, ps, M, k, R, ep, ho, hk⟩ := h
  unfold cTuple at ho
  split at ho
  · cases ep with
    | cons e1 e2 =>
      cases e2
      have fin : ∀ {xs : List PV} {vs : List V} {b : Addr}, SqL X.K H b vs → Reps X.K F xs vs → k (.tup xs) M → ∃ p ys, [V.ref b] = [V.ref p] ∧ ((SqL X.K H p ys ∧ ∀ l, H l = none → Q (.ref l) (upd H l (.tup ys))) ∨ (SqT X.K H p ys ∧ Q (.ref p) H)) := fun {xs vs b} hs rr ho => by
        refine ⟨b, vs, rfl, .inl ⟨hs, fun l hl => ?_⟩⟩
        obtain ⟨r2, s2⟩ := R.newF hl (.tup vs)
        exact hk _ _ _ _ _ ho s2 r2 (.tup (SqT.of upd_same) (rr.mono s2))
      cases e1 with
      | tup hs rr => exact ⟨_, _, rfl, .inr ⟨sqT_mono R.sub hs, hk _ _ _ _ _ ho (Same.refl _) R (.tup hs rr)⟩⟩
      | tpx hs rr => exact ⟨_, _, rfl, .inr ⟨sqT_mono R.sub hs.sq, hk _ _ _ _ _ ho (Same.refl _) R (.tup hs.sq rr)⟩⟩
      | lst hs rr => exact fin (SqL.of (R.sub _ _ hs)) rr ho
      | rdl hs rr => exact fin (R.sub.seq hs) rr ho
      | ref b =>
        have h' : (match M b with | some (.lst xs) => k (.tup xs) M | _ => False) := ho
        split at h'
        · rename_i xs e2
          obtain ⟨vs, e3, e4⟩ := R.getL e2
          exact fin (SqL.of e3) e4 h'
        · exact h'.elim
      | _ => exact ho.elim
  · exact ho.elim
/-! ### dicts that are written out -/
def qKV : List (Key × QE) → Tau → PM → PX → (List (Key × PV) → PM → Prop) → Prop
  | [], _, M, _, k => k [] M
  | kf :: r, τ, M, x, k => kf.2 τ M x fun v M1 => qKV r τ M1 x fun ps M2 => k ((kf.1, v) :: ps) M2
def KQ (kf : Key × QE) (X : Cx) (B : Hp) : TE × TE := (tC (kV kf.1), lE X B kf.2)
def DP (c : Cf) (pos : Pos) (keys : List (Option Expr)) (values : List Expr) (l : List (Key × QE)) : Prop := ∀ X, Good c X → ∀ B, PPs X pos keys values (l.map fun kf => KQ kf X B)
theorem dp_nil {c : Cf} {pos : Pos} : DP c pos [] [] [] := fun X g B => pps_nil
theorem dp_str {c : Cf} {pos p : Pos} {z : Str} {j : Nat} {v : Expr} {ks : List (Option Expr)} {vs : List Expr} {f : QE} {l : List (Key × QE)} (hv : DE c v f) (hr : DP c pos ks vs l) : DP c pos (some (.Constant (.str z) j p) :: ks) (v :: vs) ((.inr z, f) :: l) := fun X g B =>
  pps_cons pe_str (hv X g B) (hr X g B)
theorem mergeK_nodup : ∀ (more kvs : List (Key × V)), ((kvs ++ more).map (·.1)).Nodup → mergeK kvs more = kvs ++ more
  | [], kvs, _ => by simp [mergeK]
  | p :: r, kvs, h => by
    have hp : (kvs.any fun kv => decide (kv.1 = p.1)) = false := by
      rw [List.any_eq_false]
      intro kv hkv
      simp only [decide_eq_true_eq]
      intro e
      rw [List.map_append, List.nodup_append] at h
      exact h.2.2 _ (List.mem_map_of_mem hkv) _ (List.mem_map_of_mem (List.mem_cons_self)) e
    have e : putK kvs p.1 p.2 = kvs ++ [p] := by
      unfold putK
      rw [hp]
      rfl
    show mergeK (putK kvs p.1 p.2) r = _
    rw [e, mergeK_nodup r (kvs ++ [p]) (by simpa using h)]
    simp
theorem qKV_ok {X : Cx} {B : Hp} : ∀ {l : List (Key × QE)} {F : Hp} {τ : Tau} {M : PM} {x : PX} {k : List (Key × PV) → PM → Prop} {σ : L2.St} {H : Hp} {Q : List (V × V) → Hp → Prop}, At X.K B F τ M σ H → qKV l τ M x k → Takes X (lW X.K B fun e τ' M' => τ' = τ ∧ x e M') →
    (∀ ps M' F' ws H', k ps M' → Same F F' → Rel X.K F' M' H' → RepKV X.K F' ps ws → Q (ws.map fun kv => (kV kv.1, kv.2)) H') → tPairs (l.map fun kf => KQ kf X B) σ H Q
  | [], F, τ, M, x, k, σ, H, Q, a, hf, tk, hk => hk [] M F [] H hf (Same.refl _) a.r .nil
  | kf :: l, F, τ, M, x, k, σ, H, Q, a, hf, tk, hk => by
    refine ⟨F, τ, M, x, _, a, hf, tk, fun v M1 F1 u H1 h1 s1 r1 e1 => ?_⟩
    refine qKV_ok (a.next s1 r1) h1 tk fun ps M2 F2 ws H2 h2 s2 r2 e2 => ?_
    exact hk _ _ _ ((kf.1, u) :: ws) _ h2 (s1.trans s2) r2 (.cons (e1.mono s2) e2)
theorem RepKV.length {K : Fg} {F : Hp} : ∀ {xs : List (Key × PV)} {vs : List (Key × V)}, RepKV K F xs vs → xs.length = vs.length ∧ xs.map (·.1) = vs.map (·.1)
  | _, _, .nil => ⟨rfl, rfl⟩
  | _, _, .cons _ b => by
    obtain ⟨h1, h2⟩ := b.length
    exact ⟨by simp [h1], by simp [h2]⟩
@[simp] def qDict (l : List (Key × QE)) : QE := fun τ M x k => ∀ p, M p = none → qKV l τ (updM M p (.dK [])) x fun ps M2 => M2 p = some (.dK []) ∧ ps.length ≤ 15 ∧ (ps.map (·.1)).Nodup ∧ k (.ref p) (updM M2 p (.dK ps))
theorem de_dict {c : Cf} {pos : Pos} {keys : List (Option Expr)} {values : List Expr} {l : List (Key × QE)} (h : DP c pos keys values l) (hall : keys.all (·.isSome) = true := by rfl) (hl : keys.length = values.length := by rfl) (h0 : keys ≠ [] := by exact fun z => nomatch z) (h15 : keys.length ≤ 15 := by decide) :
    DE c (.Dict keys values pos) (qDict l) := fun X g B => by
  refine (pe_disp (h X g B) hall hl h0 h15).im fun σ H Q => ?_
  rintro ⟨F, τ, M, x, k, a, hf, tk, hk⟩ p hp
  have hF := a.r.fresh hp
  have r1 : Rel X.K F (updM M p (.dK [])) (upd H p (.dK [])) := a.r.put hF.1 (fun x e => by rw [hp] at e; cases e) ⟨[], upd_same, .nil⟩
  refine qKV_ok ⟨a.b, r1, a.s⟩ (hf p hF.2) tk fun ps M2 F2 ws H2 h2 s2 r2 e2 => ?_
  obtain ⟨h3, h4, h5, h6⟩ := h2
  obtain ⟨us, q1, q2⟩ := r2.chg p _ h3
  cases q2
  obtain ⟨l1, l2⟩ := e2.length
  refine ⟨q1, ws, rfl, by rw [← l1]; exact h4, ?_⟩
  rw [mergeK_nodup ws [] (by rw [List.nil_append, ← l2]; exact h5), List.nil_append]
  exact hk _ _ _ _ _ h6 s2 (r2.put (r2.dis p _ h3) (fun x z => by rw [q1] at z; cases z) ⟨ws, upd_same, e2⟩) (.ref p)
def getKV : List (Key × PV) → Key → Option PV
  | [], _ => none
  | kv :: r, k => if kv.1 = k then some kv.2 else getKV r k
theorem getKV_ok {K : Fg} {F : Hp} {k : Key} {x : PV} : ∀ {xs : List (Key × PV)} {vs : List (Key × V)}, RepKV K F xs vs → getKV xs k = some x → ∃ v, valV vs k = some v ∧ Rep K F x v
  | _, _, .nil, h => by cases h
  | _, _, .cons (k := k') a b, h => by
    unfold getKV at h
    split at h
    · rename_i e
      cases h
      exact ⟨_, valV_pos e, a⟩
    · rename_i e
      obtain ⟨v, h1, h2⟩ := getKV_ok b h
      exact ⟨v, by rw [valV_neg e]; exact h1, h2⟩
def keyP : PV → Option Key
  | .int i => some (.inl i)
  | .str z => some (.inr z)
  | _ => none
def dGet : PV → PV → PM → PK → Prop
  | .ref a, y, M, k => ∃ kvs key v, M a = some (.dK kvs) ∧ keyP y = some key ∧ getKV kvs key = some v ∧ k v M
  | _, _, _, _ => False
set_option autoImplicit true in
@[simp] theorem dGet_s : dGet (.ref a) y M k = ∃ kvs key v, M a = some (.dK kvs) ∧ keyP y = some key ∧ getKV kvs key = some v ∧ k v M := rfl
theorem de_dget {c : Cf} {o i : Expr} {pos : Pos} {fo fi : QE} (ho : DE c o fo) (hi : DE c i fi) (hs : NoSl i := by intro _ _; rfl) : DE c (.Subscript o i pos) (qBin dGet fo fi) := fun X g B => by
  have hu := g.room.un
  refine (pe_dget (by omega) (ho X g B) (hi X g B) hs).im fun σ H Q => ?_
  rintro ⟨F, τ, M, x, k, a, hf, tk, hk⟩
  refine ⟨F, τ, M, x, _, a, hf, tk, fun p M1 F1 v H1 h1 s1 r1 e1 => ?_⟩
  refine ⟨F1, τ, M1, x, _, a.next s1 r1, h1, tk, fun y M2 F2 w H2 h2 s2 r2 e2 => ?_⟩
  unfold dGet at h2
  split at h2
  · obtain ⟨kvs, key, z, h3, h4, h5, h6⟩ := h2
    cases e1
    obtain ⟨ws, q1, q2⟩ := r2.chg _ _ h3
    obtain ⟨u, q3, q4⟩ := getKV_ok q2 h5
    refine ⟨_, u, rfl, ?_, hk _ _ _ _ _ h6 (s1.trans s2) r2 q4⟩
    have ek : w = kV key := by
      cases e2 <;> cases h4 <;> rfl
    rw [ek, ← q3]
    exact DGet.k q1
  · exact h2.elim
end Q
namespace Q
open PySem PySem.Spec PyProof.Rows L2
/-! ### z[::-1] -/
def revS (z : Str) : Str := ⟨z.cps.toList.reverse.toArray⟩
theorem rev_pick (z : Str) : ((Builtin.Str.strSliceIndices none none (-1) z.length).filterMap (z.cps[·]?)) = z.cps.toList.reverse := by
  show ((sliceRange ((z.cps.size : Int) - 1) (-1) (-1)).filterMap (z.cps[·]?)) = _
  rw [PySem.W.krv_sliceRange, PySem.W.krv_range, List.filterMap_reverse, PySem.W.krv_all]
def revP : PV → PM → PK → Prop
  | .str z, M, k => z.length ≤ sizeLine ∧ k (.str (revS z)) M
  | _, _, _ => False
set_option autoImplicit true in
@[simp] theorem revP_s : revP (.str z) M k = (z.length ≤ sizeLine ∧ k (.str (revS z)) M) := rfl
@[simp] def qRevS (f : QE) : QE := fun τ M x k => f τ M x fun p M1 => revP p M1 k
theorem pe_revS {X : Cx} {e : Expr} {te : TE} {k : Nat} {p1 p2 p3 pos : Pos} (he : PE X e te) : PE X (.Subscript e (.Slice none none (some (.UnaryOp .USub (.Constant (.int 1) k p1) p2)) p3) pos)
    (fun σ H Q => te σ H fun x H1 => ∃ z, x = .str z ∧ z.length ≤ sizeLine ∧ Q (.str (revS z)) H1) := by
  refine ⟨fun pins s σ H Q I h => ?_⟩
  refine Subscript_ (thn (he.run pins s σ H _ I h) fun v s1 ⟨x, H1, I1, r1, q1⟩ => ?_)
  obtain ⟨z, ex, hz, q⟩ := q1
  subst ex
  obtain ⟨t, rfl⟩ := r1
  have hst : PO X (some (.UnaryOp .USub (.Constant (.int 1) k p1) p2)) (tPart (tUn (rU fun i => .int (-i)) (tC (.int 1)))) := po_some (pe_un un_neg pe_int)
  refine wpAny_Slice (thn (po_none.run pins s1 σ H1 (fun o H2 => o = none ∧ H2 = H1) I1 ⟨rfl, rfl⟩) fun vl s2 ⟨l, H2, I2, pl, el, e2⟩ => ?_)
  subst el e2
  refine thn (po_none.run pins s2 σ H2 (fun o H3 => o = none ∧ H3 = H2) I2 ⟨rfl, rfl⟩) fun vu s3 ⟨u, H3, I3, pu, eu, e3⟩ => ?_
  subst eu e3
  refine thn (hst.run pins s3 σ H3 (fun o H4 => o = some (-1) ∧ H4 = H3) I3 ⟨1, rfl, -1, rfl, rfl, rfl⟩) fun vs s4 ⟨o, H4, I4, ps, eo, e4⟩ => ?_
  subst eo e4
  cases pl
  cases pu
  cases ps with
  | int i tk =>
  have I5 : Inv X pins σ H4 { s4 with heap := s4.heap.push { cls := .type "slice", data := .fields #[.none, .none, .int (-1) tk] } } := I4.kept (t' := s4.toks) fun b ob q => Heap.get?_push_of_some _ q
  show wpAny (model X.prog X.w) X.A (subscriptTail e (.Slice none none (some (.UnaryOp .USub (.Constant (.int 1) k p1) p2)) p3) (.str z t) (.ref s4.heap.objs.size)) (EP X pins σ Q) X.xe { s4 with heap := s4.heap.push { cls := .type "slice", data := .fields #[.none, .none, .int (-1) tk] } }
  refine tail_any (ops := [.str z t, .ref s4.heap.objs.size]) (typeIs_str _ _ _) (F.slot_str_getitem.lookup) ?_ (by with_unfolding_all rfl)
  refine wpAny_getItem_str_slice (l := none) (u := none) (st := some (-1, tk)) ⟨_, Heap.get?_push_size _ rfl, rfl, rfl⟩ rfl ?_
  have hl : (revS z).length ≤ sizeLine := by
    have : (revS z).length = z.length := by simp [revS, Str.length]
    rw [this]; exact hz
  have e1 : sliceMade z t none none (some (-1, tk)) = Made.str (revS z) := by
    unfold sliceMade
    rw [if_neg (by simp)]
    show Made.str ⟨((Builtin.Str.strSliceIndices none none (-1) z.length).filterMap (z.cps[·]?)).toArray⟩ = _
    rw [rev_pick]
    rfl
  rw [e1]
  exact ⟨hl, .str _, H4, I5.tok _, ⟨_, rfl⟩, q⟩
theorem de_revS {c : Cf} {e : Expr} {k : Nat} {p1 p2 p3 pos : Pos} {f : QE} (he : DE c e f) : DE c (.Subscript e (.Slice none none (some (.UnaryOp .USub (.Constant (.int 1) k p1) p2)) p3) pos) (qRevS f) := fun X g B => by
  refine (pe_revS (he X g B)).im fun σ H Q => ?_
  rintro ⟨F, τ, M, x, k, a, hf, tk, hk⟩
  refine ⟨F, τ, M, x, _, a, hf, tk, fun p M1 F1 v H1 h1 s1 r1 e1 => ?_⟩
  cases e1 with
  | str z => exact ⟨z, rfl, h1.1, hk _ _ _ _ _ h1.2 s1 r1 (.str _)⟩
  | _ => exact h1.elim
/-- f(*xs) -/
@[simp] def qCallS (p : PSp) (fe : QE) : QE := fun τ M x k => fe τ M x fun v M1 => seqP v M1 fun ps => p ps M1 k x
end Q
namespace Q
open PySem PySem.Spec PyProof.Rows L2
/-! ### text * n -/
def opMulT : Q2
  | .str z, .int n, M, k => PySem.MulOk z n ∧ k (.str (PySem.Txt.mul z n)) M
  | _, _, _, _ => False
set_option autoImplicit true in
@[simp] theorem opMulT_s : opMulT (.str z) (.int n) M k = (PySem.MulOk z n ∧ k (.str (PySem.Txt.mul z n)) M) := rfl
theorem oq_mulT {c : Cf} : OQ c (binaryOp .Mult) opMulT := fun X g pins s σ H x y v u Q I rx ry hr => by
  obtain ⟨F, p, q, M, k, R, ep, eq_, ho, hk⟩ := hr
  unfold opMulT at ho
  split at ho
  · cases ep; cases eq_
    obtain ⟨t, rfl⟩ := rx
    obtain ⟨t', rfl⟩ := ry
    exact SB.mul ho.1 fun t' tk => ⟨.str _, H, I.tok tk, ⟨_, rfl⟩, hk _ _ _ _ _ ho.2 (Same.refl _) R (.str _)⟩
  · exact ho.elim
/-! ### sum(xs) -/
def intsOf : List PV → Option (List Int)
  | [] => some []
  | .int z :: r => match intsOf r with
    | some zs => some (z :: zs)
    | none => none
  | _ :: _ => none
theorem intsOf_map : ∀ zs : List Int, intsOf (zs.map PV.int) = some zs
  | [] => rfl
  | z :: zs => by
    show (match intsOf (zs.map PV.int) with | some zs => some (z :: zs) | none => none) = _
    rw [intsOf_map zs]
theorem intsOf_ok {K : Fg} {F : Hp} : ∀ {xs : List PV} {vs : List V} {zs : List Int}, Reps K F xs vs → intsOf xs = some zs → vs = zs.map V.int
  | [], _, _, r, h => by cases r; cases h; rfl
  | x :: xs, _, _, .cons a b, h => by
    unfold intsOf at h
    split at h
    · rename_i heq; cases heq
    · rename_i z r heq
      cases heq
      cases q : intsOf xs with
      | none => rw [q] at h; cases h
      | some ws =>
        rw [q] at h
        cases h
        cases a
        rw [intsOf_ok b q]
        rfl
    · cases h
def cSum : QC := fun ps M k => match ps with
  | [.lst xs] => ∃ ns, intsOf xs = some ns ∧ k (.int ns.sum) M
  | [.ref a] => ∃ xs ns, M a = some (.lst xs) ∧ intsOf xs = some ns ∧ k (.int ns.sum) M
  | _ => False
@[simp] theorem cSum_s {xs : List PV} {M : PM} {k : PK} : cSum [.lst xs] M k = ∃ ns, intsOf xs = some ns ∧ k (.int ns.sum) M := rfl
theorem cq_sum {c : Cf} : CQ c (.builtin "sum") cSum := fun X g pins s σ H xs us Q I r h => by
  refine cr_sum g.calm pins s σ H xs us Q I r ?_
  obtain ⟨F, ps, M, k, R, ep, ho, hk⟩ := h
  unfold cSum at ho
  split at ho
  · cases ep with
    | cons e1 e2 =>
      cases e2
      cases e1 with
      | lst hs rs =>
        obtain ⟨ns, h1, h2⟩ := ho
        have e := intsOf_ok rs h1
        subst e
        exact ⟨_, ns, rfl, SqL.of (R.sub _ _ hs), hk _ _ _ _ _ h2 (Same.refl _) R (.int _)⟩
  · cases ep with
    | cons e1 e2 =>
      cases e2
      cases e1 with
      | ref a =>
        obtain ⟨ys, ns, h0, h1, h2⟩ := ho
        obtain ⟨vs, q1, q2⟩ := R.chg _ _ h0
        have e := intsOf_ok q2 h1
        subst e
        exact ⟨_, ns, rfl, SqL.of q1, hk _ _ _ _ _ h2 (Same.refl _) R (.int _)⟩
  · exact ho.elim
end Q
namespace Q
open PySem PySem.Spec PyProof.Rows L2
/-! ### math.gcd by a module's name -/
def cGcd : QC := fun ps M k => match ps with
  | [.int a, .int b] => k (.int ((Nat.gcd a.natAbs b.natAbs : Nat) : Int)) M
  | _ => False
@[simp] theorem cGcd_s {a b : Int} {M : PM} {k : PK} : cGcd [.int a, .int b] M k = k (.int ((Nat.gcd a.natAbs b.natAbs : Nat) : Int)) M := rfl
theorem cq_gcd {c : Cf} : CQ c (.builtin "math.gcd") cGcd := fun X g pins s σ H xs us Q I r hh => by
  refine cr_gcd pins s σ H xs us Q I r ?_
  obtain ⟨F, ps, M, k, R, ep, ho, hk⟩ := hh
  unfold cGcd at ho
  split at ho
  · cases ep with
    | cons e1 e2 =>
      cases e2 with
      | cons e3 e4 =>
        cases e1; cases e3; cases e4
        exact ⟨_, _, rfl, hk _ _ _ _ _ ho (Same.refl _) R (.int _)⟩
  · exact ho.elim
theorem de_callF {c : Cf} {x : Str} {id : String} {p pos : Pos} {e : Expr} {es : List Expr} {r : QC} {fa : QA} (hc : CQ c (.builtin id) r) (hg : c.sc.names.lookup x = some .globalImplicit) (hm : c.g.mg x = some (.builtin id)) (ha : DA c (e :: es) fa)
    (hdb : (x == ("__debug__" : Str)) = false := by decide) (he : ∀ env, starEach (e :: es) env = (false, eval e env) :: starEach es env := by intro _; rfl) (hpl : ∀ env, (backTo pos (starEach es env)).any (·.1) = false := by intro _; rfl) :
    DE c (.Call (.Name x p) (e :: es) [] pos) (qCallB r fa) := fun X g B =>
  (pe_callBfun (hc X g) (gl_of g.sc hg) (by rw [g.mg]; exact hm) (ha X g B) hdb (he _) (hpl _)).im fun _ _ _ h => argsC h
/-! ### a < b < c -/
@[simp] def qChain (r r' : Q2) (fa fb fc : QE) : QE := fun τ M x k => fa τ M x fun p M1 => fb τ M1 x fun q M2 => r p q M2 fun z M3 => isBl z M3 fun b M4 => way b (fc τ M4 x fun w M5 => r' q w M5 k) (k (.bl false) M4)
theorem chain3 {X : Cx} {B : Hp} {fa fb fc : QE} {r r' : Q2} {σ : L2.St} {H : Hp} {Q : VK} (h : lE X B (qChain r r' fa fb fc) σ H Q) : tChain (lR X.K r) (lR X.K r') (lE X B fa) (lE X B fb) (lE X B fc) σ H Q := by
  obtain ⟨F, τ, M, x, k, a, hf, tk, hk⟩ := h
  refine ⟨F, τ, M, x, _, a, hf, tk, fun p M1 F1 v1 H1 h1 s1 r1 e1 => ?_⟩
  have a1 := a.next s1 r1
  refine ⟨F1, τ, M1, x, _, a1, h1, tk, fun q M2 F2 v2 H2 h2 s2 r2 e2 => ?_⟩
  have a2 := a1.next s2 r2
  refine ⟨F2, p, q, M2, _, r2, e1.mono s2, e2, h2, fun z M3 F3 v3 H3 h3 s3 r3 e3 => ?_⟩
  have a3 := a2.next s3 r3
  cases e3 with
  | bl b =>
    refine ⟨b, rfl, ?_⟩
    have h3' : way b (fc τ M3 x fun w M5 => r' q w M5 k) (k (.bl false) M3) := h3
    cases b with
    | false =>
      rw [if_neg Bool.false_ne_true]
      exact hk _ _ _ _ _ (h3'.2 rfl) ((s1.trans s2).trans s3) r3 (.bl _)
    | true =>
      rw [if_pos rfl]
      refine ⟨F3, τ, M3, x, _, a3, h3'.1 rfl, tk, fun w M4 F4 v4 H4 h4 s4 r4 e4 => ?_⟩
      exact ⟨F4, q, w, M4, k, r4, (e2.mono s3).mono s4, e4, h4, fun z M' F' v H' hz s' r' e' => hk z M' F' v H' hz ((((s1.trans s2).trans s3).trans s4).trans s') r' e'⟩
  | _ => exact h3.elim
theorem de_chain {c : Cf} {a b d : Expr} {op op' : CmpOp} {pos : Pos} {r r' : Q2} {fa fb fc : QE} (ho : OQ c (compareOp op) r) (ho' : OQ c (compareOp op') r') (ha : DE c a fa) (hb : DE c b fb) (hc : DE c d fc) (hm : lastMarks [op, op'] [b, d] = false := by with_unfolding_all rfl) :
    DE c (.Compare a [op, op'] [b, d] pos) (qChain r r' fa fb fc) := fun X g B =>
  (pe_chain (ho X g) (ho' X g) (ha X g B) (hb X g B) (hc X g B) hm).im fun _ _ _ h => chain3 h
theorem dt_chain {c : Cf} {a b d : Expr} {op op' : CmpOp} {pos : Pos} {r r' : Q2} {fa fb fc : QE} (ho : OQ c (compareOp op) r) (ho' : OQ c (compareOp op') r') (ha : DE c a fa) (hb : DE c b fb) (hc : DE c d fc) (hm : lastMarks [op, op'] [b, d] = false := by with_unfolding_all rfl) :
    DT c (.Compare a [op, op'] [b, d] pos) (qTest (qChain r r' fa fb fc)) := fun X g B => by
  refine (pt_chain (ho X g) (ho' X g) (ha X g B) (hb X g B) (hc X g B) hm).im fun σ H Q => ?_
  rintro ⟨F, τ, M, x, k, a, hf, tk, hk⟩
  refine chain3 ⟨F, τ, M, x, _, a, hf, tk, fun r M' F' v H' h' s' r' e' => ?_⟩
  cases e' with
  | bl b => exact ⟨b, rfl, hk _ _ _ _ h' s' r'⟩
  | _ => exact h'.elim
end Q
namespace Q
open PySem PySem.Spec PyProof.Rows L2
/-! ### repr of data -/
mutual
/-- a bound of the text's length -/
def wt : PyData → Nat
  | .none => 5
  | .bool _ => 5
  | .int i => i.natAbs.log2 + 3
  | .str x => (reprText x).length
  | .list xs => wtAll xs + 2
  | .tuple xs => wtAll xs + 3
  | .dict _ => 0
def wtAll : List PyData → Nat
  | [] => 0
  | x :: xs => wt x + 2 + wtAll xs
end
theorem textFrom_le : ∀ (ts : List Str) (k : Nat) (acc : Str), (textFrom k acc ts).length ≤ acc.length + piled ts
  | [], _, _ => Nat.le_add_right _ _
  | t :: r, k, acc => by
    have ih := textFrom_le r (k + 1) (acc ++ (if k > 0 then ", " else "" : String) ++ t)
    have e : (acc ++ (if k > 0 then ", " else "" : String) ++ t).length ≤ acc.length + 2 + t.length := by
      rw [strLen_append, strLen_append]
      split
      · exact Nat.le_refl _
      · have : (Str.ofString "").length = 0 := rfl
        omega
    rw [piled_cons]
    show (textFrom (k + 1) _ r).length ≤ _
    omega
theorem join_le (ts : List Str) : (Str.join ", " ts).length ≤ piled ts := by
  by_cases h : ts = []
  · subst h; exact Nat.zero_le _
  · have := join_length_add ts h
    omega
mutual
theorem shown_le : ∀ d : PyData, d.hasDict = false → d.shown.length ≤ wt d
  | .none, _ => by simp only [PyData.shown, wt]; decide
  | .bool b, _ => by cases b <;> simp only [PyData.shown, wt] <;> decide
  | .int i, _ => by
    simp only [PyData.shown, wt]
    have h := int_text_length_le (a := i) (k := i.natAbs.log2 + 1) (by omega) (by omega)
    have e : (Str.ofString (toString i)).length = (toString i).length := PySem.ofString_length _
    rw [e]
    omega
  | .str x, _ => by simp only [PyData.shown, wt]; exact Nat.le_refl _
  | .list xs, h => by
    simp only [PyData.shown, wt]
    have ih := shownAll_le xs (by simpa [PyData.hasDict] using h)
    unfold listText
    rw [strLen_append]
    have h1 := textFrom_le (PyData.shownAll xs) 0 "["
    have e1 : (Str.ofString "[").length = 1 := rfl
    have e2 : (Str.ofString "]").length = 1 := rfl
    omega
  | .tuple xs, h => by
    simp only [PyData.shown, wt]
    have ih := shownAll_le xs (by simpa [PyData.hasDict] using h)
    unfold tupleText
    rw [strLen_append, strLen_append]
    have h1 := join_le (PyData.shownAll xs)
    have e1 : (Str.ofString "(").length = 1 := rfl
    have e2 : (Str.ofString (if (PyData.shownAll xs).length == 1 then ",)" else ")")).length ≤ 2 := by split <;> decide
    omega
  | .dict _, h => by simp [PyData.hasDict] at h
theorem shownAll_le : ∀ ds : List PyData, PyData.hasDictAll ds = false → piled (PyData.shownAll ds) ≤ wtAll ds
  | [], _ => by simp [PyData.shownAll, piled_nil, wtAll]
  | d :: ds, h => by
    simp only [PyData.hasDictAll, Bool.or_eq_false_iff] at h
    have h1 := shown_le d h.1
    have h2 := shownAll_le ds h.2
    simp only [PyData.shownAll, piled_cons, wtAll]
    omega
end
/-- data that repr shows -/
def shows (d : PyData) : Prop := d.showable = true ∧ d.hasDict = false ∧ d.depth ≤ 60 ∧ d.shown.length ≤ sizeLine
def cReprD : QC := fun ps M k => match ps with
  | [.int i] => cRepr [.int i] M k
  | [.bl b] => cRepr [.bl b] M k
  | [.str x] => cRepr [.str x] M k
  | [.non] => cRepr [.non] M k
  | [p] => (∃ d, datM M p = some d ∧ shows d ∧ k (.str d.shown) M) ∨ (∃ a, p = .ref a ∧ M a = some (.dK []) ∧ k (.str (PyData.shown (.dict []))) M)
  | _ => False
@[simp] theorem cReprD_i {i : Int} {M : PM} {k : PK} : cReprD [.int i] M k = cRepr [.int i] M k := rfl
@[simp] theorem cReprD_b {b : Bool} {M : PM} {k : PK} : cReprD [.bl b] M k = cRepr [.bl b] M k := rfl
@[simp] theorem cReprD_s {x : Str} {M : PM} {k : PK} : cReprD [.str x] M k = cRepr [.str x] M k := rfl
@[simp] theorem cReprD_n {M : PM} {k : PK} : cReprD [.non] M k = cRepr [.non] M k := rfl
theorem reprD_of {p : PV} {d : PyData} {M : PM} {k : PK} (h1 : datM M p = some d) (h2 : shows d) (hp : (∃ xs, p = .tup xs) ∨ (∃ xs, p = .lst xs) ∨ (∃ xs, p = .rdl xs) ∨ (∃ a, p = .ref a)) (h : k (.str d.shown) M) : cReprD [p] M k := by
  rcases hp with ⟨_, rfl⟩ | ⟨_, rfl⟩ | ⟨_, rfl⟩ | ⟨_, rfl⟩ <;> exact .inl ⟨d, h1, h2, h⟩
theorem reprD_dict {a : Addr} {M : PM} {k : PK} (h1 : M a = some (.dK [])) (h : k (.str (PyData.shown (.dict []))) M) : cReprD [.ref a] M k := .inr ⟨a, rfl, h1, h⟩
theorem cq_reprD {c : Cf} (hgd : c.g.gd = true) : CQ c (.builtin "repr") cReprD := fun X g pins s σ H xs us Q I r h => by
  obtain ⟨F, ps, M, k, R, ep, ho, hk⟩ := h
  unfold cReprD at ho
  split at ho
  · exact cq_repr X g pins s σ H xs us Q I r ⟨F, _, M, k, R, ep, ho, hk⟩
  · exact cq_repr X g pins s σ H xs us Q I r ⟨F, _, M, k, R, ep, ho, hk⟩
  · exact cq_repr X g pins s σ H xs us Q I r ⟨F, _, M, k, R, ep, ho, hk⟩
  · exact cq_repr X g pins s σ H xs us Q I r ⟨F, _, M, k, R, ep, ho, hk⟩
  · rename_i p n1 n2 n3 n4
    rcases ho with ⟨d, h1, ⟨s1, s2, s3, s4⟩, h2⟩ | ⟨a, rfl, hM, h2⟩
    rotate_left
    · cases ep with
      | cons e1 e2 =>
        cases e2
        cases e1
        obtain ⟨u, rfl, ru⟩ := vals1 r
        obtain rfl : u = Value.ref a := ru
        obtain ⟨ws, hH, rk⟩ := R.chg _ _ hM
        cases rk
        obtain ⟨_, hsys, vs, kv, o, es, ep', ho, hex, hd, _, hp, _⟩ := I.hok a _ hH
        cases kv
        have hes : es.toList = [] := by
          generalize es.toList = l at hp
          cases hp
          rfl
        have rd : Reads s.heap (.ref a) (.dict []) (a :: [] ++ []) := .dict ho hex.1 hd (by rw [hes]; exact .nil) (by rw [hes]; exact .nil)
        have hu := g.room.un
        refine repr_of_reads' (prog := X.prog) (w := X.w) (A := X.A) (Q := EP X pins σ Q) (E := X.xe) rd rfl (fun _ m => ?_) (g.grd hgd) ?_ (fun b o e => e) (fun h' u' tk kp => ⟨.str _, H, I.kept kp, ⟨_, rfl⟩, hk _ _ _ _ _ h2 (Same.refl _) R (.str _)⟩) (by decide +kernel)
        · have m' : sysModules ∈ [a] := m
          rw [List.mem_singleton] at m'
          subst m'
          simp at hsys
        · show X.A.units + (PyData.depth (.dict []) + 1) < _
          have : PyData.depth (.dict []) ≤ 2 := by decide
          omega
    cases ep with
    | cons e1 e2 =>
      cases e2
      obtain ⟨u, rfl, ru⟩ := vals1 r
      obtain ⟨hd, hp⟩ := datM_ok R e1 h1
      obtain ⟨as, rd⟩ := Dp.reads I d _ u hd ru
      have fin : ∀ a, u = .ref a → wpAny (model X.prog X.w) X.A (call (.builtin "repr") [u]) (EP X pins σ Q) X.xe s := fun a e => by
        subst e
        have hu := g.room.un
        exact repr_of_reads' (prog := X.prog) (w := X.w) (A := X.A) (Q := EP X pins σ Q) (E := X.xe) rd s1 (fun z => by rw [s2] at z; cases z) (g.grd hgd) (by omega) (fun b o e => e)
          (fun h' u' tk kp => ⟨.str _, H, I.kept kp, ⟨_, rfl⟩, hk _ _ _ _ _ h2 (Same.refl _) R (.str _)⟩) s4
      cases e1 with
      | non => exact (n4 rfl).elim
      | bl b => exact (n2 _ rfl).elim
      | int i => exact (n1 _ rfl).elim
      | str x => exact (n3 _ rfl).elim
      | ty n => simp [datM, dat] at h1
      | ref a => exact fin _ ru
      | tup _ _ => exact fin _ ru
      | lst _ _ => exact fin _ ru
      | rdl _ _ => exact fin _ ru
      | tpx _ _ => exact fin _ ru
  · exact ho.elim
/-! ### str(n) -/
def cStr : QC := fun ps M k => match ps with
  | [.int i] => i.natAbs.log2 < 1920 ∧ k (.str (toString i)) M
  | [.non] => k (.str "None") M
  | _ => False
@[simp] theorem cStr_i {i : Int} {M : PM} {k : PK} : cStr [.int i] M k = (i.natAbs.log2 < 1920 ∧ k (.str (toString i)) M) := rfl
@[simp] theorem cStr_n {M : PM} {k : PK} : cStr [.non] M k = k (.str "None") M := rfl
theorem cq_str {c : Cf} : CQ c (.type "str") cStr := fun X g pins s σ H xs us Q I r h => by
  obtain ⟨F, ps, M, k, R, ep, ho, hk⟩ := h
  unfold cStr at ho
  split at ho
  · cases ep with
    | cons e1 e2 =>
      cases e1; cases e2
      exact call_str_int pins s σ H _ us Q I r ⟨_, rfl, ho.1, hk _ _ _ _ _ ho.2 (Same.refl _) R (.str _)⟩
  · cases ep with
    | cons e1 e2 =>
      cases e1; cases e2
      obtain ⟨u, rfl, ru⟩ := vals1 r
      obtain rfl : u = Value.none := ru
      exact PySem.P.str_of_none ⟨.str _, H, I.tok _, ⟨_, rfl⟩, hk _ _ _ _ _ ho (Same.refl _) R (.str _)⟩
  · exact ho.elim
/-- {} -/
@[simp] def qDict0 : QE := fun _ M _ k => ∀ p, M p = none → k (.ref p) (updM M p (.dK []))
theorem de_dict0 {c : Cf} {pos : Pos} : DE c (.Dict [] [] pos) qDict0 := fun X g B => pe_dnewK.im fun σ H Q => by
  rintro ⟨F, τ, M, x, k, a, hf, tk, hk⟩ p hp
  exact hk _ _ _ _ _ (hf p (a.r.fresh hp).2) (Same.refl _) (a.r.put (a.r.fresh hp).1 (fun x e => by rw [hp] at e; cases e) ⟨[], upd_same, .nil⟩) (.ref p)
/-! ### a, b, c = x, y, z -/
def parP3 (i j l : Nat) (d : PEnds) (τ : Tau) : List PV → PM → Prop
  | [p, q, r], M' => d.nx (((τ.set i (some p)).set j (some q)).set l (some r)) M'
  | _, _ => False
set_option autoImplicit true in
@[simp] theorem parP3_s1 (i j l : Nat) (d : PEnds) (τ : Tau) : parP3 i j l d τ [p, q, r] M' = (d.nx (((τ.set i (some p)).set j (some q)).set l (some r)) M') := rfl
@[simp] def qPar3 (i j l : Nat) (r : QA) : QS := fun d τ M => r τ M (dx d τ) fun ps M' => parP3 i j l d τ ps M'
theorem ds_par3 {c : Cf} {i j l : Nat} {x y z : Str} {a b e : Expr} {r : QA} {px py pz pt pos : Pos} {kt k2 pt2} (hN : c.N.Nodup) (hi : c.N[i]? = some x) (hj : c.N[j]? = some y) (hl : c.N[l]? = some z) (hij : i ≠ j) (hil : i ≠ l) (hjl : j ≠ l) (hx : c.sc.names.lookup x = some .local) (hy : c.sc.names.lookup y = some .local) (hz : c.sc.names.lookup z = some .local) (ha : DA c [a, b, e] r)
    (hw : ∀ env, env.scope = c.sc → swappedStores [.Tuple [.Name x px, .Name y py, .Name z pz] kt pt] (.Tuple [a, b, e] k2 pt2) env = pure (some [x, y, z]))
    (hs : ∀ env, swapsWithSole [.Tuple [.Name x px, .Name y py, .Name z pz] kt pt] (.Tuple [a, b, e] k2 pt2) pos.line env = pure false := by intro _; rfl) : DS c (.Assign [.Tuple [.Name x px, .Name y py, .Name z pz] kt pt] (.Tuple [a, b, e] k2 pt2) pos) (qPar3 i j l r) := fun X gd B =>
  (ps_par3 (i := i) (j := j) (l := l) gd.calm (by rw [gd.N]; exact hN) (by rw [gd.N]; exact hi) (by rw [gd.N]; exact hj) (by rw [gd.N]; exact hl) hij hil hjl (by rw [gd.sc]; exact hx) (by rw [gd.sc]; exact hy) (by rw [gd.sc]; exact hz) (ha X gd.toGood B) (hw _ gd.sc) (hs _)).im fun D σ H => by
    rintro ⟨F, τ, M, d, a, hf, tk, hd⟩
    refine ⟨F, τ, M, _, _, a, hf, takes_x tk, fun ps M' F' vs H' h' s' r' e' => ?_⟩
    cases e' with
    | nil => exact h'.elim
    | cons e1 e2 =>
      cases e2 with
      | nil => exact h'.elim
      | cons e3 e4 =>
        cases e4 with
        | nil => exact h'.elim
        | cons e5 e6 =>
          cases e6 with
          | cons _ _ => exact h'.elim
          | nil => exact ⟨_, _, _, rfl, hd.nx _ _ _ _ _ h' s' r' ((((a.s.mono s').set e1 i).set e3 j).set e5 l)⟩
end Q
namespace Q
open PySem PySem.Spec PyProof.Rows L2
/-! What a reading asks, evaluated from the outside in: each construct's head is opened before what follows is looked at. Keeps the goals and the proofs of large bodies small. -/
@[simp ↓] theorem dx_mk {nx : Tau → PM → Prop} {rt : PK} {bk ct : Tau → PM → Prop} {ex : PXW} {τ : Tau} : dx ⟨nx, rt, bk, ct, ex⟩ τ = fun e M => ex e τ M := rfl
@[simp ↓] theorem pv0 {x : PV} {k : PK} : qVar 0 (some x :: r) M e k = k x M := rfl
@[simp ↓] theorem pg0 {v : PV} {k : Tau → PM → Prop} : gSet 0 v (b :: r) M k = k (some v :: r) M := rfl
@[simp ↓] theorem pv1 {x : PV} {k : PK} : qVar 1 (a0 :: some x :: r) M e k = k x M := rfl
@[simp ↓] theorem pg1 {v : PV} {k : Tau → PM → Prop} : gSet 1 v (a0 :: b :: r) M k = k (a0 :: some v :: r) M := rfl
@[simp ↓] theorem pv2 {x : PV} {k : PK} : qVar 2 (a0 :: a1 :: some x :: r) M e k = k x M := rfl
@[simp ↓] theorem pg2 {v : PV} {k : Tau → PM → Prop} : gSet 2 v (a0 :: a1 :: b :: r) M k = k (a0 :: a1 :: some v :: r) M := rfl
@[simp ↓] theorem pv3 {x : PV} {k : PK} : qVar 3 (a0 :: a1 :: a2 :: some x :: r) M e k = k x M := rfl
@[simp ↓] theorem pg3 {v : PV} {k : Tau → PM → Prop} : gSet 3 v (a0 :: a1 :: a2 :: b :: r) M k = k (a0 :: a1 :: a2 :: some v :: r) M := rfl
@[simp ↓] theorem pv4 {x : PV} {k : PK} : qVar 4 (a0 :: a1 :: a2 :: a3 :: some x :: r) M e k = k x M := rfl
@[simp ↓] theorem pg4 {v : PV} {k : Tau → PM → Prop} : gSet 4 v (a0 :: a1 :: a2 :: a3 :: b :: r) M k = k (a0 :: a1 :: a2 :: a3 :: some v :: r) M := rfl
@[simp ↓] theorem pv5 {x : PV} {k : PK} : qVar 5 (a0 :: a1 :: a2 :: a3 :: a4 :: some x :: r) M e k = k x M := rfl
@[simp ↓] theorem pg5 {v : PV} {k : Tau → PM → Prop} : gSet 5 v (a0 :: a1 :: a2 :: a3 :: a4 :: b :: r) M k = k (a0 :: a1 :: a2 :: a3 :: a4 :: some v :: r) M := rfl
@[simp ↓] theorem pv6 {x : PV} {k : PK} : qVar 6 (a0 :: a1 :: a2 :: a3 :: a4 :: a5 :: some x :: r) M e k = k x M := rfl
@[simp ↓] theorem pg6 {v : PV} {k : Tau → PM → Prop} : gSet 6 v (a0 :: a1 :: a2 :: a3 :: a4 :: a5 :: b :: r) M k = k (a0 :: a1 :: a2 :: a3 :: a4 :: a5 :: some v :: r) M := rfl
@[simp ↓] theorem pv7 {x : PV} {k : PK} : qVar 7 (a0 :: a1 :: a2 :: a3 :: a4 :: a5 :: a6 :: some x :: r) M e k = k x M := rfl
@[simp ↓] theorem pg7 {v : PV} {k : Tau → PM → Prop} : gSet 7 v (a0 :: a1 :: a2 :: a3 :: a4 :: a5 :: a6 :: b :: r) M k = k (a0 :: a1 :: a2 :: a3 :: a4 :: a5 :: a6 :: some v :: r) M := rfl
@[simp ↓] theorem pv8 {x : PV} {k : PK} : qVar 8 (a0 :: a1 :: a2 :: a3 :: a4 :: a5 :: a6 :: a7 :: some x :: r) M e k = k x M := rfl
@[simp ↓] theorem pg8 {v : PV} {k : Tau → PM → Prop} : gSet 8 v (a0 :: a1 :: a2 :: a3 :: a4 :: a5 :: a6 :: a7 :: b :: r) M k = k (a0 :: a1 :: a2 :: a3 :: a4 :: a5 :: a6 :: a7 :: some v :: r) M := rfl
@[simp ↓] theorem pv9 {x : PV} {k : PK} : qVar 9 (a0 :: a1 :: a2 :: a3 :: a4 :: a5 :: a6 :: a7 :: a8 :: some x :: r) M e k = k x M := rfl
@[simp ↓] theorem pg9 {v : PV} {k : Tau → PM → Prop} : gSet 9 v (a0 :: a1 :: a2 :: a3 :: a4 :: a5 :: a6 :: a7 :: a8 :: b :: r) M k = k (a0 :: a1 :: a2 :: a3 :: a4 :: a5 :: a6 :: a7 :: a8 :: some v :: r) M := rfl
@[simp ↓] theorem pv10 {x : PV} {k : PK} : qVar 10 (a0 :: a1 :: a2 :: a3 :: a4 :: a5 :: a6 :: a7 :: a8 :: a9 :: some x :: r) M e k = k x M := rfl
@[simp ↓] theorem pg10 {v : PV} {k : Tau → PM → Prop} : gSet 10 v (a0 :: a1 :: a2 :: a3 :: a4 :: a5 :: a6 :: a7 :: a8 :: a9 :: b :: r) M k = k (a0 :: a1 :: a2 :: a3 :: a4 :: a5 :: a6 :: a7 :: a8 :: a9 :: some v :: r) M := rfl
@[simp ↓] theorem pv11 {x : PV} {k : PK} : qVar 11 (a0 :: a1 :: a2 :: a3 :: a4 :: a5 :: a6 :: a7 :: a8 :: a9 :: a10 :: some x :: r) M e k = k x M := rfl
@[simp ↓] theorem pg11 {v : PV} {k : Tau → PM → Prop} : gSet 11 v (a0 :: a1 :: a2 :: a3 :: a4 :: a5 :: a6 :: a7 :: a8 :: a9 :: a10 :: b :: r) M k = k (a0 :: a1 :: a2 :: a3 :: a4 :: a5 :: a6 :: a7 :: a8 :: a9 :: a10 :: some v :: r) M := rfl
@[simp ↓] theorem pv12 {x : PV} {k : PK} : qVar 12 (a0 :: a1 :: a2 :: a3 :: a4 :: a5 :: a6 :: a7 :: a8 :: a9 :: a10 :: a11 :: some x :: r) M e k = k x M := rfl
@[simp ↓] theorem pg12 {v : PV} {k : Tau → PM → Prop} : gSet 12 v (a0 :: a1 :: a2 :: a3 :: a4 :: a5 :: a6 :: a7 :: a8 :: a9 :: a10 :: a11 :: b :: r) M k = k (a0 :: a1 :: a2 :: a3 :: a4 :: a5 :: a6 :: a7 :: a8 :: a9 :: a10 :: a11 :: some v :: r) M := rfl
@[simp ↓] theorem pv13 {x : PV} {k : PK} : qVar 13 (a0 :: a1 :: a2 :: a3 :: a4 :: a5 :: a6 :: a7 :: a8 :: a9 :: a10 :: a11 :: a12 :: some x :: r) M e k = k x M := rfl
@[simp ↓] theorem pg13 {v : PV} {k : Tau → PM → Prop} : gSet 13 v (a0 :: a1 :: a2 :: a3 :: a4 :: a5 :: a6 :: a7 :: a8 :: a9 :: a10 :: a11 :: a12 :: b :: r) M k = k (a0 :: a1 :: a2 :: a3 :: a4 :: a5 :: a6 :: a7 :: a8 :: a9 :: a10 :: a11 :: a12 :: some v :: r) M := rfl
@[simp ↓] theorem pv14 {x : PV} {k : PK} : qVar 14 (a0 :: a1 :: a2 :: a3 :: a4 :: a5 :: a6 :: a7 :: a8 :: a9 :: a10 :: a11 :: a12 :: a13 :: some x :: r) M e k = k x M := rfl
@[simp ↓] theorem pg14 {v : PV} {k : Tau → PM → Prop} : gSet 14 v (a0 :: a1 :: a2 :: a3 :: a4 :: a5 :: a6 :: a7 :: a8 :: a9 :: a10 :: a11 :: a12 :: a13 :: b :: r) M k = k (a0 :: a1 :: a2 :: a3 :: a4 :: a5 :: a6 :: a7 :: a8 :: a9 :: a10 :: a11 :: a12 :: a13 :: some v :: r) M := rfl
@[simp ↓] theorem pv15 {x : PV} {k : PK} : qVar 15 (a0 :: a1 :: a2 :: a3 :: a4 :: a5 :: a6 :: a7 :: a8 :: a9 :: a10 :: a11 :: a12 :: a13 :: a14 :: some x :: r) M e k = k x M := rfl
@[simp ↓] theorem pg15 {v : PV} {k : Tau → PM → Prop} : gSet 15 v (a0 :: a1 :: a2 :: a3 :: a4 :: a5 :: a6 :: a7 :: a8 :: a9 :: a10 :: a11 :: a12 :: a13 :: a14 :: b :: r) M k = k (a0 :: a1 :: a2 :: a3 :: a4 :: a5 :: a6 :: a7 :: a8 :: a9 :: a10 :: a11 :: a12 :: a13 :: a14 :: some v :: r) M := rfl
@[simp ↓] theorem pv16 {x : PV} {k : PK} : qVar 16 (a0 :: a1 :: a2 :: a3 :: a4 :: a5 :: a6 :: a7 :: a8 :: a9 :: a10 :: a11 :: a12 :: a13 :: a14 :: a15 :: some x :: r) M e k = k x M := rfl
@[simp ↓] theorem pg16 {v : PV} {k : Tau → PM → Prop} : gSet 16 v (a0 :: a1 :: a2 :: a3 :: a4 :: a5 :: a6 :: a7 :: a8 :: a9 :: a10 :: a11 :: a12 :: a13 :: a14 :: a15 :: b :: r) M k = k (a0 :: a1 :: a2 :: a3 :: a4 :: a5 :: a6 :: a7 :: a8 :: a9 :: a10 :: a11 :: a12 :: a13 :: a14 :: a15 :: some v :: r) M := rfl
@[simp ↓] theorem pv17 {x : PV} {k : PK} : qVar 17 (a0 :: a1 :: a2 :: a3 :: a4 :: a5 :: a6 :: a7 :: a8 :: a9 :: a10 :: a11 :: a12 :: a13 :: a14 :: a15 :: a16 :: some x :: r) M e k = k x M := rfl
@[simp ↓] theorem pg17 {v : PV} {k : Tau → PM → Prop} : gSet 17 v (a0 :: a1 :: a2 :: a3 :: a4 :: a5 :: a6 :: a7 :: a8 :: a9 :: a10 :: a11 :: a12 :: a13 :: a14 :: a15 :: a16 :: b :: r) M k = k (a0 :: a1 :: a2 :: a3 :: a4 :: a5 :: a6 :: a7 :: a8 :: a9 :: a10 :: a11 :: a12 :: a13 :: a14 :: a15 :: a16 :: some v :: r) M := rfl
@[simp ↓] theorem pv18 {x : PV} {k : PK} : qVar 18 (a0 :: a1 :: a2 :: a3 :: a4 :: a5 :: a6 :: a7 :: a8 :: a9 :: a10 :: a11 :: a12 :: a13 :: a14 :: a15 :: a16 :: a17 :: some x :: r) M e k = k x M := rfl
@[simp ↓] theorem pg18 {v : PV} {k : Tau → PM → Prop} : gSet 18 v (a0 :: a1 :: a2 :: a3 :: a4 :: a5 :: a6 :: a7 :: a8 :: a9 :: a10 :: a11 :: a12 :: a13 :: a14 :: a15 :: a16 :: a17 :: b :: r) M k = k (a0 :: a1 :: a2 :: a3 :: a4 :: a5 :: a6 :: a7 :: a8 :: a9 :: a10 :: a11 :: a12 :: a13 :: a14 :: a15 :: a16 :: a17 :: some v :: r) M := rfl
@[simp ↓] theorem pv19 {x : PV} {k : PK} : qVar 19 (a0 :: a1 :: a2 :: a3 :: a4 :: a5 :: a6 :: a7 :: a8 :: a9 :: a10 :: a11 :: a12 :: a13 :: a14 :: a15 :: a16 :: a17 :: a18 :: some x :: r) M e k = k x M := rfl
@[simp ↓] theorem pg19 {v : PV} {k : Tau → PM → Prop} : gSet 19 v (a0 :: a1 :: a2 :: a3 :: a4 :: a5 :: a6 :: a7 :: a8 :: a9 :: a10 :: a11 :: a12 :: a13 :: a14 :: a15 :: a16 :: a17 :: a18 :: b :: r) M k = k (a0 :: a1 :: a2 :: a3 :: a4 :: a5 :: a6 :: a7 :: a8 :: a9 :: a10 :: a11 :: a12 :: a13 :: a14 :: a15 :: a16 :: a17 :: a18 :: some v :: r) M := rfl
@[simp ↓] theorem pv20 {x : PV} {k : PK} : qVar 20 (a0 :: a1 :: a2 :: a3 :: a4 :: a5 :: a6 :: a7 :: a8 :: a9 :: a10 :: a11 :: a12 :: a13 :: a14 :: a15 :: a16 :: a17 :: a18 :: a19 :: some x :: r) M e k = k x M := rfl
@[simp ↓] theorem pg20 {v : PV} {k : Tau → PM → Prop} : gSet 20 v (a0 :: a1 :: a2 :: a3 :: a4 :: a5 :: a6 :: a7 :: a8 :: a9 :: a10 :: a11 :: a12 :: a13 :: a14 :: a15 :: a16 :: a17 :: a18 :: a19 :: b :: r) M k = k (a0 :: a1 :: a2 :: a3 :: a4 :: a5 :: a6 :: a7 :: a8 :: a9 :: a10 :: a11 :: a12 :: a13 :: a14 :: a15 :: a16 :: a17 :: a18 :: a19 :: some v :: r) M := rfl
@[simp ↓] theorem pv21 {x : PV} {k : PK} : qVar 21 (a0 :: a1 :: a2 :: a3 :: a4 :: a5 :: a6 :: a7 :: a8 :: a9 :: a10 :: a11 :: a12 :: a13 :: a14 :: a15 :: a16 :: a17 :: a18 :: a19 :: a20 :: some x :: r) M e k = k x M := rfl
@[simp ↓] theorem pg21 {v : PV} {k : Tau → PM → Prop} : gSet 21 v (a0 :: a1 :: a2 :: a3 :: a4 :: a5 :: a6 :: a7 :: a8 :: a9 :: a10 :: a11 :: a12 :: a13 :: a14 :: a15 :: a16 :: a17 :: a18 :: a19 :: a20 :: b :: r) M k = k (a0 :: a1 :: a2 :: a3 :: a4 :: a5 :: a6 :: a7 :: a8 :: a9 :: a10 :: a11 :: a12 :: a13 :: a14 :: a15 :: a16 :: a17 :: a18 :: a19 :: a20 :: some v :: r) M := rfl
@[simp ↓] theorem pv22 {x : PV} {k : PK} : qVar 22 (a0 :: a1 :: a2 :: a3 :: a4 :: a5 :: a6 :: a7 :: a8 :: a9 :: a10 :: a11 :: a12 :: a13 :: a14 :: a15 :: a16 :: a17 :: a18 :: a19 :: a20 :: a21 :: some x :: r) M e k = k x M := rfl
@[simp ↓] theorem pg22 {v : PV} {k : Tau → PM → Prop} : gSet 22 v (a0 :: a1 :: a2 :: a3 :: a4 :: a5 :: a6 :: a7 :: a8 :: a9 :: a10 :: a11 :: a12 :: a13 :: a14 :: a15 :: a16 :: a17 :: a18 :: a19 :: a20 :: a21 :: b :: r) M k = k (a0 :: a1 :: a2 :: a3 :: a4 :: a5 :: a6 :: a7 :: a8 :: a9 :: a10 :: a11 :: a12 :: a13 :: a14 :: a15 :: a16 :: a17 :: a18 :: a19 :: a20 :: a21 :: some v :: r) M := rfl
@[simp ↓] theorem pv23 {x : PV} {k : PK} : qVar 23 (a0 :: a1 :: a2 :: a3 :: a4 :: a5 :: a6 :: a7 :: a8 :: a9 :: a10 :: a11 :: a12 :: a13 :: a14 :: a15 :: a16 :: a17 :: a18 :: a19 :: a20 :: a21 :: a22 :: some x :: r) M e k = k x M := rfl
@[simp ↓] theorem pg23 {v : PV} {k : Tau → PM → Prop} : gSet 23 v (a0 :: a1 :: a2 :: a3 :: a4 :: a5 :: a6 :: a7 :: a8 :: a9 :: a10 :: a11 :: a12 :: a13 :: a14 :: a15 :: a16 :: a17 :: a18 :: a19 :: a20 :: a21 :: a22 :: b :: r) M k = k (a0 :: a1 :: a2 :: a3 :: a4 :: a5 :: a6 :: a7 :: a8 :: a9 :: a10 :: a11 :: a12 :: a13 :: a14 :: a15 :: a16 :: a17 :: a18 :: a19 :: a20 :: a21 :: a22 :: some v :: r) M := rfl
@[simp ↓] theorem pv24 {x : PV} {k : PK} : qVar 24 (a0 :: a1 :: a2 :: a3 :: a4 :: a5 :: a6 :: a7 :: a8 :: a9 :: a10 :: a11 :: a12 :: a13 :: a14 :: a15 :: a16 :: a17 :: a18 :: a19 :: a20 :: a21 :: a22 :: a23 :: some x :: r) M e k = k x M := rfl
@[simp ↓] theorem pg24 {v : PV} {k : Tau → PM → Prop} : gSet 24 v (a0 :: a1 :: a2 :: a3 :: a4 :: a5 :: a6 :: a7 :: a8 :: a9 :: a10 :: a11 :: a12 :: a13 :: a14 :: a15 :: a16 :: a17 :: a18 :: a19 :: a20 :: a21 :: a22 :: a23 :: b :: r) M k = k (a0 :: a1 :: a2 :: a3 :: a4 :: a5 :: a6 :: a7 :: a8 :: a9 :: a10 :: a11 :: a12 :: a13 :: a14 :: a15 :: a16 :: a17 :: a18 :: a19 :: a20 :: a21 :: a22 :: a23 :: some v :: r) M := rfl
@[simp ↓] theorem pv25 {x : PV} {k : PK} : qVar 25 (a0 :: a1 :: a2 :: a3 :: a4 :: a5 :: a6 :: a7 :: a8 :: a9 :: a10 :: a11 :: a12 :: a13 :: a14 :: a15 :: a16 :: a17 :: a18 :: a19 :: a20 :: a21 :: a22 :: a23 :: a24 :: some x :: r) M e k = k x M := rfl
@[simp ↓] theorem pg25 {v : PV} {k : Tau → PM → Prop} : gSet 25 v (a0 :: a1 :: a2 :: a3 :: a4 :: a5 :: a6 :: a7 :: a8 :: a9 :: a10 :: a11 :: a12 :: a13 :: a14 :: a15 :: a16 :: a17 :: a18 :: a19 :: a20 :: a21 :: a22 :: a23 :: a24 :: b :: r) M k = k (a0 :: a1 :: a2 :: a3 :: a4 :: a5 :: a6 :: a7 :: a8 :: a9 :: a10 :: a11 :: a12 :: a13 :: a14 :: a15 :: a16 :: a17 :: a18 :: a19 :: a20 :: a21 :: a22 :: a23 :: a24 :: some v :: r) M := rfl
@[simp ↓] theorem p_C {v : PV} {k : PK} : qC v τ M e k = k v M := rfl
@[simp ↓] theorem p_Bin {k : PK} : qBin r fa fb τ M x k = fa τ M x fun p M1 => fb τ M1 x fun q M2 => r p q M2 k := rfl
@[simp ↓] theorem p_Test {k : Bool → PM → Prop} : qTest f τ M x k = f τ M x fun v M' => isBl v M' k := rfl
@[simp ↓] theorem p_Truth {k : Bool → PM → Prop} : qTruth f τ M x k = f τ M x fun v M' => truthP v M' k := rfl
@[simp ↓] theorem p_AndT {k : Bool → PM → Prop} : qAndT fa fb τ M x k = fa τ M x fun b M1 => way b (fb τ M1 x k) (k false M1) := rfl
@[simp ↓] theorem p_OrT {k : Bool → PM → Prop} : qOrT fa fb τ M x k = fa τ M x fun b M1 => way b (k true M1) (fb τ M1 x k) := rfl
@[simp ↓] theorem p_NotT {k : Bool → PM → Prop} : qNotT fa τ M x k = fa τ M x fun b M1 => k (!b) M1 := rfl
@[simp ↓] theorem p_AndV {k : PK} : qAndV fa fb τ M x k = fa τ M x fun v M1 => truthP v M1 fun b M2 => way b (fb τ M2 x k) (k v M2) := rfl
@[simp ↓] theorem p_OrV {k : PK} : qOrV fa fb τ M x k = fa τ M x fun v M1 => truthP v M1 fun b M2 => way b (k v M2) (fb τ M2 x k) := rfl
@[simp ↓] theorem p_NotV {k : PK} : qNotV fa τ M x k = fa τ M x fun v M1 => truthP v M1 fun b M2 => k (.bl (!b)) M2 := rfl
@[simp ↓] theorem p_If {k : PK} : qIf t fa fb τ M x k = t τ M x fun b M1 => way b (fa τ M1 x k) (fb τ M1 x k) := rfl
@[simp ↓] theorem p_Nil {k : List PV → PM → Prop} : qNil τ M x k = k [] M := rfl
@[simp ↓] theorem p_Cons {k : List PV → PM → Prop} : qCons f r τ M x k = f τ M x fun p M1 => r τ M1 x fun ps M2 => k (p :: ps) M2 := rfl
@[simp ↓] theorem p_Star {k : List PV → PM → Prop} : qStar f r τ M x k = f τ M x fun p M1 => seqP p M1 fun xs => r τ M1 x fun ps M2 => k (xs ++ ps) M2 := rfl
@[simp ↓] theorem p_Tup {k : PK} : qTup r τ M x k = r τ M x fun ps M1 => ps.length ≤ sizeLine ∧ k (.tup ps) M1 := rfl
@[simp ↓] theorem p_Lst {k : PK} : qLst r τ M x k = r τ M x fun ps M1 => ps.length ≤ sizeLine ∧ k (.lst ps) M1 := rfl
@[simp ↓] theorem p_LstM {k : PK} : qLstM r τ M x k = r τ M x fun ps M1 => ps.length ≤ sizeLine ∧ ∀ a, M1 a = none → k (.ref a) (updM M1 a (.lst ps)) := rfl
@[simp ↓] theorem p_Neg {k : PK} : qNeg f τ M x k = f τ M x fun v M' => negP v M' k := rfl
@[simp ↓] theorem p_CallB {k : PK} : qCallB r fa τ M x k = fa τ M x fun ps M1 => r ps M1 k := rfl
@[simp ↓] theorem p_Call {k : PK} : qCall p fa τ M x k = fa τ M x fun ps M1 => p ps M1 k x := rfl
@[simp ↓] theorem p_CallS {k : PK} : qCallS p fe τ M x k = fe τ M x fun v M1 => seqP v M1 fun ps => p ps M1 k x := rfl
@[simp ↓] theorem p_App {k : PK} : qApp fo fe τ M x k = fo τ M x fun p M1 => isLst p M1 fun a => fe τ M1 x fun y M2 => appP a y M2 k := rfl
@[simp ↓] theorem p_Pop {k : PK} : qPop fo τ M x k = fo τ M x fun p M1 => isLst p M1 fun a => popP a M1 k := rfl
@[simp ↓] theorem p_Join {k : PK} : qJoin fo fe τ M x k = fo τ M x fun p M1 => isStrP p (fe τ M1 x fun y M2 => joinP p y M2 k) := rfl
@[simp ↓] theorem p_CutS {k : PK} : qCutS f fl fh τ M x k = f τ M x fun p M1 => fl τ M1 x fun lo M2 => fh τ M2 x fun hi M3 => cutP p lo hi M3 k := rfl
@[simp ↓] theorem p_RevS {k : PK} : qRevS f τ M x k = f τ M x fun p M1 => revP p M1 k := rfl
@[simp ↓] theorem p_Chain {k : PK} : qChain r r' fa fb fc τ M x k = fa τ M x fun p M1 => fb τ M1 x fun q M2 => r p q M2 fun z M3 => isBl z M3 fun b M4 => way b (fc τ M4 x fun w M5 => r' q w M5 k) (k (.bl false) M4) := rfl
@[simp ↓] theorem p_Dict0 {k : PK} : qDict0 τ M x k = ∀ p, M p = none → k (.ref p) (updM M p (.dK [])) := rfl
@[simp ↓] theorem p_oSome {k : Option Int → PM → Prop} : oSome f τ M x k = f τ M x fun v M1 => isInt v fun i => k (some i) M1 := rfl
@[simp ↓] theorem p_oNone {k : Option Int → PM → Prop} : oNone τ M x k = k none M := rfl

@[simp ↓] theorem p_Next : qNext ⟨nx, rt, bk, ct, ex⟩ τ M = nx τ M := rfl
@[simp ↓] theorem p_Seq : qSeq f g ⟨nx, rt, bk, ct, ex⟩ τ M = f ⟨fun τ M => g ⟨nx, rt, bk, ct, ex⟩ τ M, rt, bk, ct, ex⟩ τ M := rfl
@[simp ↓] theorem p_Ret : qRet f ⟨nx, rt, bk, ct, ex⟩ τ M = f τ M (fun e M => ex e τ M) fun v M' => rt v M' := rfl
@[simp ↓] theorem p_Drop : qDrop f ⟨nx, rt, bk, ct, ex⟩ τ M = f τ M (fun e M => ex e τ M) fun _ M' => nx τ M' := rfl
@[simp ↓] theorem p_IfS : qIfS t f g ⟨nx, rt, bk, ct, ex⟩ τ M = t τ M (fun e M => ex e τ M) fun b M1 => way b (f ⟨nx, rt, bk, ct, ex⟩ τ M1) (g ⟨nx, rt, bk, ct, ex⟩ τ M1) := rfl
@[simp ↓] theorem p_Never {d : PEnds} : qNever d τ M = False := rfl
@[simp ↓] theorem p_Asg : qAsg f g ⟨nx, rt, bk, ct, ex⟩ τ M = f τ M (fun e M => ex e τ M) fun v M' => g v τ M' nx := rfl
@[simp ↓] theorem p_Par : qPar i j r ⟨nx, rt, bk, ct, ex⟩ τ M = r τ M (fun e M => ex e τ M) fun ps M' => parP i j ⟨nx, rt, bk, ct, ex⟩ τ ps M' := rfl
@[simp ↓] theorem p_Par3 : qPar3 i j l r ⟨nx, rt, bk, ct, ex⟩ τ M = r τ M (fun e M => ex e τ M) fun ps M' => parP3 i j l ⟨nx, rt, bk, ct, ex⟩ τ ps M' := rfl
@[simp ↓] theorem p_parP : parP i j ⟨nx, rt, bk, ct, ex⟩ τ [p, q] M = gSet i p τ M fun τ M => gSet j q τ M nx := rfl
@[simp ↓] theorem p_parP3 : parP3 i j l ⟨nx, rt, bk, ct, ex⟩ τ [p, q, s] M = gSet i p τ M fun τ M => gSet j q τ M fun τ M => gSet l s τ M nx := rfl
@[simp ↓] theorem p_gNil {k : Tau → PM → Prop} : gsNil [] τ M k = k τ M := rfl
@[simp ↓] theorem p_gCons {k : Tau → PM → Prop} : gsCons g r (v :: ws) τ M k = g v τ M fun τ' M' => r ws τ' M' k := rfl
@[simp ↓] theorem p_gTup1 {k : Tau → PM → Prop} : gTupQ 1 r (.tup [x]) τ M k = r [x] τ M k := by simp [gTupQ]
@[simp ↓] theorem p_gTup2 {k : Tau → PM → Prop} : gTupQ 2 r (.tup [x, y]) τ M k = r [x, y] τ M k := by simp [gTupQ]
@[simp ↓] theorem p_gTup3 {k : Tau → PM → Prop} : gTupQ 3 r (.tup [x, y, z]) τ M k = r [x, y, z] τ M k := by simp [gTupQ]
@[simp ↓] theorem p_gTup4 {k : Tau → PM → Prop} : gTupQ 4 r (.tup [x, y, z, u]) τ M k = r [x, y, z, u] τ M k := by simp [gTupQ]
@[simp ↓] theorem p_onI {f : Int → Int → Prop} : onI (.int i) (.int j) f = f i j := rfl
@[simp ↓] theorem p_Sub {k : PK} : opSub (.int i) (.int j) M k = k (.int (i - j)) M := rfl
@[simp ↓] theorem p_Add {k : PK} : opAdd (.int i) (.int j) M k = k (.int (i + j)) M := rfl
@[simp ↓] theorem p_AddL {k : PK} : opAdd (.lst a) (.lst b) M k = (a.length + b.length ≤ sizeLine ∧ k (.lst (a ++ b)) M) := rfl
@[simp ↓] theorem p_Mul {k : PK} : opMul (.int i) (.int j) M k = (MulOk i j ∧ k (.int (i * j)) M) := rfl
@[simp ↓] theorem p_Div {k : PK} : opDiv (.int i) (.int j) M k = (DivOk j ∧ k (.int (i / j)) M) := rfl
@[simp ↓] theorem p_Mod {k : PK} : opMod (.int i) (.int j) M k = (0 < j ∧ k (.int (i % j)) M) := rfl
@[simp ↓] theorem p_Pow {k : PK} : opPow (.int i) (.int j) M k = ((0 ≤ j ∧ j ≤ 1000000 ∧ i.natAbs < 2 ^ 64) ∧ k (.int (i ^ j.toNat)) M) := rfl
@[simp ↓] theorem p_I {k : PK} : opI p (.int i) (.int j) M k = k (.bl (p i j)) M := rfl
@[simp ↓] theorem p_isBl {k : Bool → PM → Prop} : isBl (.bl b) M k = k b M := rfl
@[simp ↓] theorem p_tr_b {k : Bool → PM → Prop} : truthP (.bl b) M k = k b M := rfl
@[simp ↓] theorem p_neg {k : PK} : negP (.int i) M k = k (.int (-i)) M := rfl
@[simp ↓] theorem p_EqI {neg : Bool} {i j : Int} {M : PM} {k : PK} : opEq neg (.int i) (.int j) M k = k (.bl (if neg then !decide (i = j) else decide (i = j))) M := propext opEq_int
@[simp ↓] theorem p_EqS {neg : Bool} {i j : Str} {M : PM} {k : PK} : opEq neg (.str i) (.str j) M k = k (.bl (if neg then !(i == j) else (i == j))) M := propext opEq_str
@[simp ↓] theorem p_EqB {neg : Bool} {i j : Bool} {M : PM} {k : PK} : opEq neg (.bl i) (.bl j) M k = k (.bl (if neg then !(i == j) else (i == j))) M := propext opEq_bl
@[simp ↓] theorem p_ixT0 {k : PK} : opIx (.tup (x :: xs)) (.int 0) M k = k x M := by
  have : (0 : Int) < (xs.length : Int) + 1 := by omega
  simp [atI, ixN, this]
@[simp ↓] theorem p_ixT1 {k : PK} : opIx (.tup (x :: y :: xs)) (.int 1) M k = k y M := by
  have : (1 : Int) < (xs.length : Int) + 1 + 1 := by omega
  simp [atI, ixN, this]
@[simp ↓] theorem p_lenL {k : PK} : cLen [.lst xs] M k = k (.int xs.length) M := rfl
@[simp ↓] theorem p_lenT {k : PK} : cLen [.tup xs] M k = k (.int xs.length) M := rfl
end Q
namespace Q
open PySem PySem.Spec PyProof.Rows L2
open PySem.W (minD dataLt AlikeAll alike alikeAll keyToksAll alike_unique min_list_data dataLt_str dataLt_tuple dataLt_all_yes dataLt_all_no)
/-! ### min of a list of data -/
theorem minD_mem : ∀ (xs : List PyData) (x : PyData), minD x xs ∈ x :: xs
  | [], x => List.mem_cons_self
  | y :: xs, x => by
    show minD (if dataLt y x then y else x) xs ∈ _
    have := minD_mem xs (if dataLt y x then y else x)
    rcases List.mem_cons.mp this with e | e
    · rw [e]
      split
      · exact List.mem_cons_of_mem _ List.mem_cons_self
      · exact List.mem_cons_self
    · exact List.mem_cons_of_mem _ (List.mem_cons_of_mem _ e)
def cMinD : QC := fun ps M k => match ps with
  | [.lst xs] => ∃ d ds, datL xs = some (d :: ds) ∧ AlikeAll (d :: ds) ∧ PyData.depthAll (d :: ds) ≤ 60 ∧ ∀ (i : Nat) (x : PV), xs[i]? = some x → dat x = some (minD d ds) → k x M
  | [.int i, .int j] => k (.int (minI i j)) M
  | _ => False
@[simp] theorem cMinD_i {i j : Int} {M : PM} {k : PK} : cMinD [.int i, .int j] M k = k (.int (minI i j)) M := rfl
@[simp] theorem cMinD_l {xs : List PV} {M : PM} {k : PK} : cMinD [.lst xs] M k = ∃ d ds, datL xs = some (d :: ds) ∧ AlikeAll (d :: ds) ∧ PyData.depthAll (d :: ds) ≤ 60 ∧ ∀ (i : Nat) (x : PV), xs[i]? = some x → dat x = some (minD d ds) → k x M := rfl
theorem datL_get : ∀ {xs : List PV} {ds : List PyData} {i : Nat} {x : PV}, datL xs = some ds → xs[i]? = some x → ∃ d, ds[i]? = some d ∧ dat x = some d
  | [], _, _, _, _, h => by simp at h
  | x :: xs, ds, i, y, h, hx => by
    have h' : (match dat x, datL xs with | some x, some y => some (x :: y) | _, _ => none) = some ds := h
    split at h'
    · rename_i d e h1 h2
      cases h'
      cases i with
      | zero => simp at hx; subst hx; exact ⟨d, rfl, h1⟩
      | succ i => simpa using datL_get h2 (by simpa using hx)
    · cases h'
theorem vals_get_r : ∀ {xs : List V} {us : List Value} {i : Nat} {u : Value}, Vals xs us → us[i]? = some u → ∃ x, xs[i]? = some x ∧ RelV x u
  | _, _, _, _, .nil, e => by simp at e
  | _, _, 0, _, .cons a _, e => by
    simp only [List.getElem?_cons_zero, Option.some.injEq] at e
    subst e
    exact ⟨_, rfl, a⟩
  | _, _, i + 1, _, .cons _ b, e => by
    simp only [List.getElem?_cons_succ] at e
    simpa using vals_get_r b e
theorem cq_minD {c : Cf} : CQ c (.builtin "min") cMinD := fun X g pins s σ H xs us Q I r h => by
  obtain ⟨F, ps, M, k, R, ep, ho, hk⟩ := h
  unfold cMinD at ho
  split at ho
  · rename_i xs
    obtain ⟨d, ds, h1, ha, hdp, h2⟩ := ho
    cases ep with
    | cons e1 e2 =>
      cases e2
      cases e1 with
      | @lst a _ vs hs rs =>
        obtain ⟨u, rfl, ru⟩ := vals1 r
        obtain rfl : u = Value.ref a := ru
        have hd : datM M (.lst xs) = some (.list (d :: ds)) := by simp only [datM, dat, h1]; rfl
        obtain ⟨hD, _⟩ := datM_ok R (.lst hs rs) hd
        have hH := R.sub _ _ hs
        obtain ⟨its, rv, p, hz⟩ := I.list (SqL.of hH)
        obtain ⟨as, rd⟩ := Dp.reads I (.list (d :: ds)) (.ref a) _ hD rfl
        cases rd with
        | @list _ o vs' n _ as q1 q2 q3 q4 =>
          have hl : s.heap.IsList a vs' := ⟨o, q1, q2, n, q3⟩
          refine min_list_data (prog := X.prog) (w := X.w) (A := X.A) (Q := EP X pins σ Q) (E := X.xe) g.room.hd hl q4 ha (by have := g.room.un; omega) fun i v h' tk bs hv hr kp => ?_
          have he : vs'.toList = its := by
            obtain ⟨o2, k1, k2, n2, k3⟩ := (show s.heap.IsList a its.toArray from p.isList)
            rw [q1] at k1
            cases k1
            rw [q3] at k3
            cases k3
            simp
          have hv' : its[i]? = some v := by rw [← he]; simpa using hv
          obtain ⟨x, hx, rx⟩ := vals_get_r rv hv'
          obtain ⟨px, hpx, rpx⟩ := rs.getV hx
          obtain ⟨dx, hdx, hdat⟩ := datL_get h1 hpx
          have hmem : dx ∈ d :: ds := List.mem_of_getElem? hdx
          have hdp := (dat_ok R.sub px x dx rpx hdat).1
          obtain ⟨bs', rd'⟩ := Dp.reads I dx x v hdp rx
          have e : dx = minD d ds := alike_unique dx (minD d ds) v bs' bs (ha.1 dx hmem _ (minD_mem ds d)) (Reads.keeps kp rd') hr
          rw [e] at hdat
          exact ⟨x, H, I.kept kp, rx, hk _ _ _ _ _ (h2 i px hpx hdat) (Same.refl _) R rpx⟩
  · cases ep with
    | cons e1 e2 =>
      cases e2 with
      | cons e3 e4 =>
        cases e4
        exact cq_min X g pins s σ H _ us Q I r ⟨F, _, M, k, R, .cons e1 (.cons e3 .nil), ho, hk⟩
  · exact ho.elim
end Q
namespace Q
open PySem PySem.Spec PyProof.Rows L2
/-! ### range(i, j, c), upwards -/
def rngC (lo c : Int) (n : Nat) : List PV := (List.range n).map fun (i : Nat) => PV.int (lo + (i : Int) * c)
theorem serves_rngC {K : Fg} {F : Hp} {lo c : Int} {n : Nat} : Serves K (Itc lo c n) F (rngC lo c n) fun _ => True := fun F' M' H' s' r' _ => by
  have hl : (rngC lo c n).length = n := by simp [rngC]
  refine ⟨by show n ≤ _; rw [hl]; exact Nat.le_refl _, fun i x hx => ?_⟩
  have hi : i < n := by
    have := (List.getElem?_eq_some_iff.mp hx).1
    rw [hl] at this
    exact this
  have e : x = .int (lo + (i : Int) * c) := by
    unfold rngC at hx
    rw [List.getElem?_map, List.getElem?_range hi] at hx
    exact (Option.some.inj hx).symm
  subst e
  exact ⟨hi, fun v H2 ⟨e1, e2⟩ => by subst e1; subst e2; exact ⟨F', Same.refl _, r', .int _⟩⟩
def iR3 : List PV → (List PV → (PM → Prop) → PM → Prop) → PM → Prop
  | [.int i, .int j, .int c], k, M => ∃ n, RgC i j c n ∧ k (rngC i c n) (fun _ => True) M
  | _, _, _ => False
@[simp] theorem iR3_s {i j c : Int} {k : List PV → (PM → Prop) → PM → Prop} {M : PM} : iR3 [.int i, .int j, .int c] k M = ∃ n, RgC i j c n ∧ k (rngC i c n) (fun _ => True) M := rfl
@[simp] def iRg3 (fa : QA) : QI := fun τ M x k => fa τ M x fun ps M1 => iR3 ps k M1
theorem di_range3 {c : Cf} {tg a b d : Expr} {p pos : Pos} {fa : QA} (hgl : c.sc.names.lookup ("range" : Str) = some .globalImplicit) (hm : c.g.mg ("range" : Str) = none) (ha : DA c [a, b, d] fa)
    (hs : ∀ env, starEach [a, b, d] env = (false, eval a env) :: starEach [b, d] env := by intro _; rfl) (hpl : ∀ env, (backTo pos (starEach [b, d] env)).any (·.1) = false := by intro _; rfl) : DI c tg (.Call (.Name "range" p) [a, b, d] [] pos) (iRg3 fa) := fun X gd B =>
  (pi_range3 (gl_of gd.sc hgl) (by rw [gd.mg]; exact hm) (ha X gd B) (hs _) (hpl _)).im fun σ H R => by
    rintro ⟨F, τ, M, x, k, a, hf, tk, hk⟩
    refine ⟨F, τ, M, x, _, a, hf, tk, fun ps M1 F1 vs H1 h1 s1 r1 e1 => ?_⟩
    unfold iR3 at h1
    split at h1
    · cases e1 with
      | cons e1 e2 =>
        cases e1
        cases e2 with
        | cons e3 e4 =>
          cases e3
          cases e4 with
          | cons e5 e6 =>
            cases e5; cases e6
            obtain ⟨n, h2, h3⟩ := h1
            exact ⟨_, _, _, n, rfl, h2, hk _ _ _ _ _ _ h3 s1 r1 serves_rngC⟩
    · exact h1.elim
/-- range(0, n, 2) -/
theorem rgc_two {n : Int} (h0 : 0 < n) (h1 : n < 2 ^ 40) : RgC 0 n 2 ((n + 1) / 2).toNat := by
  have hs : Builtin.Range.rangeSize 0 n 2 = (n + 1) / 2 := by
    unfold Builtin.Range.rangeSize
    rw [if_pos (by decide), if_pos h0]
    omega
  refine ⟨by decide, by decide, ?_, by rw [hs]; omega⟩
  unfold Builtin.Range.small
  rw [hs]
  simp only [Builtin.Range.rangeFitsLong, Bool.and_eq_true, Bool.or_eq_true, decide_eq_true_eq, beq_iff_eq, show ((2 : Int) > 0) by decide, if_true]
  omega
end Q
/-! raise, try, what a caught exception tells -/
namespace L2
open PySem PySem.Spec PyProof.Rows Q
theorem excAt_own {a x : Addr} {c : Value} {d : Option Addr} : excAt a c d ≠ .own x := fun z => by
  have z' : HO.ext _ = HO.own x := z
  cases z'
/-- a record that was not tracked is tracked from here on -/
theorem Inv.note {X : Cx} {pins : List (Addr × Obj)} {σ : L2.St} {H : Hp} {s : Shared} {a : Addr} {cls : Value} {d : Option Addr} (I : Inv X pins σ H s) (he : ∃ oe vs, s.heap.get? a = some oe ∧ oe.cls = cls ∧ oe.dict = d ∧ oe.data = .fields vs) (na : H a = none)
    (n0 : X.s_0.heap.get? a = none) (nL : a ≠ X.env.locals) (nC : ∀ x c, X.env.cells.lookup x = some c → c ≠ a) (nP : ∀ p ∈ X.pn ++ pins, p.1 ≠ a) : Inv X pins σ (upd H a (excAt a cls d)) s := by
  have ne0 : ∀ b o, X.s_0.heap.get? b = some o → b ≠ a := fun b o e z => by rw [z, n0] at e; cases e
  have neH : ∀ b u, H b = some u → b ≠ a := fun b u e z => by rw [z, na] at e; cases e
  refine ⟨I.ok, I.os, I.bare, ⟨I.base.keep, I.base.slot, fun b o e n hx => ?_, I.base.there, fun b xs e => ?_, fun b o u e => ?_, fun b ps e => ?_⟩, I.loc, I.cell, ?_, fun x c e => ?_, fun p hp => ?_, fun b u e => ?_, I.len⟩
  · rw [upd_ne (ne0 b o e)]
    exact I.base.free b o e n hx
  · have q := I.base.tups b xs e
    rw [upd_ne (neH _ _ q)]
    exact q
  · have q := I.base.frzs b o u e
    rw [upd_ne (neH _ _ q)]
    exact q
  · obtain ⟨more, q⟩ := I.base.tbls b ps e
    exact ⟨more, by rw [upd_ne (neH _ _ q)]; exact q⟩
  · rw [upd_ne (Ne.symm nL)]
    exact I.free
  · rw [upd_ne (nC x c e)]
    exact I.freeC x c e
  · obtain ⟨e, n, r⟩ := I.pin p hp
    exact ⟨e, by rw [upd_ne (nP p hp)]; exact n, r⟩
  · by_cases hb : b = a
    · subst hb
      rw [upd_same] at e
      cases e
      obtain ⟨oe, vs, h1, h2, h3, h4⟩ := he
      exact ⟨⟨oe, vs, h1, h2, h3, h4⟩, ⟨oe, h1⟩, fun h1 h2 ⟨oe, vs, q1, q2⟩ k => ⟨oe, vs, k _ q1, q2⟩⟩
    · rw [upd_ne hb] at e
      refine (I.hok b u e).stay (fun _ _ _ q => q) (fun c q => ?_) fun c xs q => ?_
      · rw [upd_ne (neH _ _ q)]; exact q
      · rw [upd_ne (neH _ _ q)]; exact q
theorem TracedZ.keeps {h h' base : Heap} {e : Addr} {Z : Obj → Prop} {fl : Value} (x : PySem.HandSPX.TracedZ h base e Z fl) (k : ∀ b o, h.get? b = some o → h'.get? b = some o) : PySem.HandSPX.TracedZ h' base e Z fl := by
  obtain ⟨oe, vs, T, oT, ts, he, hz, hd, h1, hn, hne, hT, hdT, h3⟩ := x
  exact ⟨oe, vs, T, oT, ts, k _ _ he, hz, hd, h1, hn, hne, k _ _ hT, hdT, h3⟩
theorem FlyingZ.keeps {base h h' : Heap} {l : List Env} {e : Addr} {Z : Obj → Prop} (x : PySem.HandSPX.FlyingZ base l e Z h) (k : ∀ b o, h.get? b = some o → h'.get? b = some o) : PySem.HandSPX.FlyingZ base l e Z h' :=
  ⟨fun b o q => k _ _ (x.1 b o q), x.2.1, x.2.2.1.of_keeps fun b o q _ => ⟨o, k b o q, rfl⟩, TracedZ.keeps x.2.2.2 k⟩
/-- try: body; except (x1, x2, x3) as n: y = n -/
def wTold (K : PySem.W.Frag) (c1 c2 c3 : Value) (i j : Nat) (D : Ends) : WX := fun cls d σ H =>
  PySem.W.exmAny K cls [c1, c2, c3] = some true ∧ ∀ a, H a = none → D.nx (((σ.set i (some (.ref a))).set j (some (.ref a))).set i none) (upd H a (excAt a cls d))
section
variable {X : Cx} {x1 x2 x3 n y : Str} {c1 c2 c3 : Value} {i j kk : Nat} {body : List Stmt} {p1 p2 p3 tp p4 p5 p6 pos pos' : Pos} {tb : WX → TS}
theorem ps_told (hs : X.stack = X.env :: X.outer) (hf : X.env.frame = some X.env.locals) (hex : X.ex = []) (hN : X.N.Nodup) (hi : X.N[i]? = some n) (hj : X.N[j]? = some y) (hln : X.env.kindOf n = some .local) (hly : X.env.kindOf y = some .local)
    (n1 : Names X x1 c1) (n2 : Names X x2 c2) (n3 : Names X x3 c3) (hdn : (n == ("__debug__" : Str)) = false) (hcn : (n == ("__classdict__" : Str)) = false)
    (hb : ∀ (W : WX) (pn : List (Addr × Obj)) (xe : Value → Shared → Prop), Takes (X.tr pn xe) W → PassesOwn (model X.prog X.w) X.A X.env xe → PSs (X.tr pn xe) body (tb W)) :
    PS X (.Try body [.ExceptHandler (some (.Tuple [.Name x1 p1, .Name x2 p2, .Name x3 p3] kk tp)) (some n) [.Assign [.Name y p4] (.Name n p5) p6] pos'] [] [] pos) (fun D σ H => tb (wTold X.K c1 c2 c3 i j D) D σ H) := by
  refine ⟨fun pins s σ H D I h => ?_⟩
  have ok := I.ok
  have hfr : X.A.frames = some (X.env :: X.outer) := by rw [ok.frames, hs]
  have hloc : Loc X.env.scope n := .inl hln
  have hlocy : Loc X.env.scope y := .inl hly
  refine wpAny_Try_except ?_
  refine wpAny_mono ((hb (wTold X.K c1 c2 c3 i j D) (X.pn ++ pins) (fun e s₁ => wpAny (model X.prog X.w) X.A (noteFrame e X.env) (fun _ s₂ => wpAny (model X.prog X.w) X.A (setFlight e none) (fun _ s₃ =>
    wpAny (model X.prog X.w) X.A (handleBy e X.env [.ExceptHandler (some (.Tuple [.Name x1 p1, .Name x2 p2, .Name x3 p3] kk tp)) (some n) [.Assign [.Name y p4] (.Name n p5) p6] pos']) (SP X pins D) X.xe s₃) X.xe s₂) X.xe s₁) (fun u s' xx => ?_) PassesOwn.looking).run [] s σ H D (I.toTry _) h) (fun f s1 hsp => ?_) (fun e s1 he => he)
  · -- the catch
    obtain ⟨a, B, sI, pins', σ', H', cls, d, rfl, J', nb, up, sky, na, os, ag, hb1, hyes⟩ := xx
    have J : Inv X pins σ' H' sI := J'.ofTry ok
    have sky' : Sky B (X.env :: X.outer) a (Zc cls d) X.env.locals s'.heap := by rw [← hs]; exact sky
    show wpAny (model X.prog X.w) X.A (noteFrame (.ref a) X.env) _ _ _
    refine Sky.land Zc.steady hfr hf sky' fun h3 fl3 up3 => ?_
    have J3 : Inv X pins σ' H' { s' with heap := h3 } := J.landed nb fl3.1 (up.trans up3) os ag
    obtain ⟨oe3, vs3, he3, hz3, hd3⟩ := fl3.there
    have notFr : ∀ {h : Heap} {o : Obj} {vs : Array Value}, h.FunFrames B (X.env :: X.outer) → h.get? a = some o → o.data = .fields vs → a ∉ frs (X.env :: X.outer) := fun {h o vs} ff e dd hm => by
      obtain ⟨_, o', e', hnf⟩ := ff.mem hm
      rw [e] at e'; cases e'
      exact hnf _ dd
    have nfr := notFr fl3.2.2.1 he3 hd3
    have nL : a ≠ X.env.locals := fun z => nfr (List.mem_filterMap.mpr ⟨X.env, List.mem_cons_self, by rw [hf, z]⟩)
    have nF : a ∉ X.fs := fun hm => by
      obtain ⟨e, he, q⟩ := List.mem_filterMap.mp hm
      exact nfr (List.mem_filterMap.mpr ⟨e, List.mem_cons_of_mem _ he, q⟩)
    have hnew : sI.heap.get? a = none := by
      cases q : sI.heap.get? a with
      | none => rfl
      | some o =>
        have z := nb a o q (by rw [hs]; exact nfr)
        rw [fl3.2.1] at z
        cases z
    have hnew0 : X.s_0.heap.get? a = none := by
      cases q : X.s_0.heap.get? a with
      | none => rfl
      | some o =>
        obtain ⟨o', z⟩ := J.base.there a o q (by rw [hex]; simp)
        rw [hnew] at z
        cases z
    have nC : ∀ x c, X.env.cells.lookup x = some c → c ≠ a := fun x c e z => by
      obtain ⟨v, o, ho, _⟩ := J.cell x c e
      rw [z, hnew] at ho
      cases ho
    have nP : ∀ p ∈ X.pn ++ pins, p.1 ≠ a := fun p hp z => by
      have q := (J.pin p hp).1
      rw [z, hnew] at q
      cases q
    have S3 := J3.suite he3 hd3 na nL nF
    refine wpAny_handleBy_cons (codeAny_handlers_test ?_) (by intro q; cases q)
    have LT : PySem.W.Looks (model X.prog X.w) h3 (typeOf (.ref a)) cls := fun A Q E s k q => wpAny_typeOf_ref (k _ _ he3) (by rw [hz3.1]; exact q)
    have test : ∀ {x : Str} {c : Value} {np : Pos} {Q : Value → Shared → Prop} {E : Value → Shared → Prop}, Names X x c → Q c { s' with heap := h3 } → wpAny (model X.prog X.w) (X.A.mark (some (.ref a))) (eval (.Name x np) X.env) Q E { s' with heap := h3 } := fun {x c np Q E} hc q => by
      obtain ⟨hg, hdbg, hm | ⟨hm, hv, hnn⟩⟩ := hc
      · exact ld_glob (X := X.suite a ((a, oe3) :: (X.pn ++ pins))) S3 hg hm q hdbg
      · exact ld_blt (X := X.suite a ((a, oe3) :: (X.pn ++ pins))) S3 hg hm hv q hnn hdbg
    refine wpAny_Tuple ?_
    refine wpAny_items_cons (test n1 ?_)
    refine wpAny_items_cons (test n2 ?_)
    refine wpAny_items_cons (test n3 ?_)
    refine wpAny_items_nil ⟨by size_fits, ?_⟩
    have kp : ∀ q o, h3.get? q = some o → (h3.push { cls := .type "tuple", data := .seq [c1, c2, c3].toArray }).get? q = some o := fun _ _ z => Heap.get?_push_of_some _ z
    refine (PySem.W.exm_tup3 (J3.kIn.keeps kp) (LT.keeps kp) (Heap.get?_push_size h3 rfl) hb1).here ?_
    have fl3' := FlyingZ.keeps fl3 kp
    have upk : h3.UpToSlots (h3.push { cls := .type "tuple", data := .seq [c1, c2, c3].toArray }) := Heap.UpToSlots.of_keeps kp
    refine codeAny_handlers_suite_as ?_
    refine HandSPX.lands_againZ fl3' fun h4 fl4 up4 => ?_
    have J4 : Inv X pins σ' H' { s' with heap := h4 } := J.landed nb fl4.1 (((up.trans up3).trans upk).trans up4) os ag
    obtain ⟨oe4, vs4, he4, hz4, hd4⟩ := fl4.there
    have S4 := J4.suite he4 hd4 na nL nF
    refine store_ok (X := X.suite a ((a, oe4) :: (X.pn ++ pins))) (v := .ref a) S4 hN hi hloc rfl (fun s5 S5 => ?_) (.inr hln)
    have hn5 : PE (X.suite a ((a, oe4) :: (X.pn ++ pins))) (.Name n p5) (tVar i) := pe_var (X := X.suite a ((a, oe4) :: (X.pn ++ pins))) (i := i) hi (.inl hln) hdn hcn
    have hps : PS (X.suite a ((a, oe4) :: (X.pn ++ pins))) (.Assign [.Name y p4] (.Name n p5) p6) (tAsg (tVar i) (gName j)) := ps_set (X := X.suite a ((a, oe4) :: (X.pn ++ pins))) (i := j) hN hj hlocy hn5 (by rfl) (.inr hly)
    have hil : i < σ'.length := by rw [J.len]; exact (List.getElem?_eq_some_iff.mp hi).1
    refine wpAny_mono ((pss_one hps).run [] s5 _ H' { nx := fun σ6 H6 => σ6 = (σ'.set i (some (.ref a))).set j (some (.ref a)) ∧ H6 = H', rt := fun _ _ => False } S5 ⟨.ref a, List.getElem?_set_self hil, rfl, rfl⟩) (fun f s6 hsp => ?_) (fun _ _ z => False.elim z)
    cases f with
    | next =>
      obtain ⟨σ6, H6, S6, q6, q7⟩ := hsp
      subst q6 q7
      obtain ⟨g1, g2, _⟩ := S6.pin (a, oe4) (List.mem_append.mpr (.inl List.mem_cons_self))
      have K6 := (S6.unsuite ok).note (a := a) (cls := cls) (d := d) ⟨oe4, vs4, g1, hz4.1, hz4.2, hd4⟩ g2 hnew0 nL nC nP
      exact gone_ok K6 hN hi hln fun s7 J7 => ⟨_, _, J7, hyes a na⟩
    | brk =>
      obtain ⟨σ6, H6, S6, q6⟩ := hsp
      exact q6.elim
    | cont =>
      obtain ⟨σ6, H6, S6, q6⟩ := hsp
      exact q6.elim
    | ret u =>
      obtain ⟨v6, σ6, H6, S6, r6, q6⟩ := hsp
      exact q6.elim
  · cases f with
    | next =>
      obtain ⟨σ', H', J', q⟩ := hsp
      exact wpAny_execs_nil ⟨σ', H', J'.ofTry ok, q⟩
    | brk =>
      obtain ⟨σ', H', J', q⟩ := hsp
      exact ⟨σ', H', J'.ofTry ok, q⟩
    | cont =>
      obtain ⟨σ', H', J', q⟩ := hsp
      exact ⟨σ', H', J'.ofTry ok, q⟩
    | ret u =>
      obtain ⟨v, σ', H', J', r, q⟩ := hsp
      exact ⟨v, σ', H', J'.ofTry ok, r, q⟩
end
/-- isinstance(e, C), e a caught exception of the class at D -/
def rIsX (K : PySem.W.Frag) (C : Addr) : List V → Hp → VK → Prop := fun xs H Q => ∃ (a D : Addr) (d : Option Addr) (b : Bool), xs = [.ref a, .ref C] ∧ H a = some (excAt a (.ref D) d) ∧ (∀ dd, d = some dd → ∃ gs, H dd = some (.xd gs)) ∧ ExcC K D ∧ PySem.W.kitOne K (.ref D) (.ref C) = some b ∧ Q (.bl b) H
theorem call_isX {X : Cx} {C : Addr} : CallR X (.builtin "isinstance") (rIsX X.K C) := by
  intro pins s σ H xs us Q I r h
  obtain ⟨a, D, d, b, rfl, ha, hd, E, e, q⟩ := h
  cases r with
  | cons rx rr =>
    cases rr with
    | cons rt rr =>
      cases rr
      cases rx
      cases rt
      have z := I.hok a _ ha
      obtain ⟨⟨oe, vs, hget, h1, h2, h3⟩, _⟩ := z
      obtain ⟨cdD, hcD, _⟩ := PySem.W.any_some E.hd
      have J : ∃ od, PySem.W.InstAt s.heap a oe D od := by
        obtain ⟨oc, oda, odt, osl⟩ := oe
        dsimp only at h1 h2 h3
        subst h1 h2 h3
        cases oda with
        | none => exact ⟨none, hget, rfl, rfl, trivial⟩
        | some dd =>
          obtain ⟨gs, hg⟩ := hd dd rfl
          obtain ⟨mA, ⟨o, es, ep, ho, _⟩, _⟩ : ObjOk X.prog X.w H s.heap dd (.xd gs) := I.hok dd _ hg
          exact ⟨some o, hget, rfl, rfl, ho⟩
      obtain ⟨od, J⟩ := J
      exact PySem.W.kia_one (PySem.W.kitx_exc (by rw [hcD]; rfl) E.hg E.hk E.hs E.ha E.hn E.ht E.hm) I.kIn J e (fun z => nomatch z) fun tk => ⟨.bl b, H, I.kept (t' := tk) fun _ _ z => z, rfl, q⟩
end L2
namespace Q
open PySem PySem.Spec PyProof.Rows L2
/-! ### raise X('..'), X an own class without __init__ -/
structure HasE (g : Glb) (x : Str) : Prop where
  ok : ∃ (C : Addr) (bmB : List Value) (B newId initId : String), ExcBaseFacts B newId initId bmB ∧ PySem.W.nsIn g.K mainGlobals x = some (some (.ref C)) ∧ g.mg x = some (.ref C) ∧ PySem.W.excIn g.K C bmB newId = true ∧ PySem.W.keepIn g.K (.ref C) = true ∧
    PySem.W.subIn g.K (.ref C) (.type "BaseException") = some true ∧ PySem.W.typeIn g.K (.ref C) = some (.type "type")
@[simp] def qRaise (e : PEx) : QS := fun d τ M => d.ex e τ M
theorem ds_raise0 {c : Cf} {x m : Str} {j : Nat} {p p2 pos pos' : Pos} (h : HasE c.g x) (hg : c.sc.names.lookup x = some .globalImplicit := by rfl) (hdb : (x == ("__debug__" : Str)) = false := by decide) :
    DS c (.Raise (some (.Call (.Name x p) [.Constant (.str m) j p2] [] pos)) none pos') (qRaise ⟨x, none⟩) := fun X g B => ⟨fun pins s σ H D I hh => by
  obtain ⟨F', τ, M, d, a, hf, tk, ok⟩ := hh
  obtain ⟨C, bmB, Bn, newId, initId, F, h0, h1, h2, h3, h4, h5⟩ := h.ok
  refine (ps_raise g.calm tk (pmk_own F (by rw [g.K]; exact h2) (by rw [g.mg]; exact h1) (by rw [g.K]; exact h3) (raises_own (by rw [g.K]; exact h4) (by rw [g.K]; exact h5)) (gl_of g.sc hg) hdb)).run pins s σ H D I ?_
  have er : ExRep X.K F' ⟨x, none⟩ (.ref C) none := ⟨by rw [g.K]; exact h0, trivial⟩
  exact ⟨F', τ, M, ⟨x, none⟩, a.1, a.2, a.3, er, hf⟩⟩
/-! ### try: body; except (X1, X2, X3) as n: y = n -/
structure HasT (g : Glb) (x1 x2 x3 : Str) (ys : List Str) : Prop where
  ok : ∃ c1 c2 c3, g.mg x1 = some c1 ∧ g.mg x2 = some c2 ∧ g.mg x3 = some c3 ∧ ∀ nm ∈ ys, ∃ cls, PySem.W.nsIn g.K mainGlobals nm = some (some cls) ∧ PySem.W.exmAny g.K cls [c1, c2, c3] = some true
def qTold (i j : Nat) (ys : List Str) (f : QS) : QS := fun d τ M => f { d with ex := fun e τ' M' => e.nm ∈ ys ∧ ∀ a, M' a = none → d.nx (((τ'.set i (some (.ref a))).set j (some (.ref a))).set i none) (updM M' a (.exc e.nm e.fs)) } τ M
theorem ds_told {c : Cf} (i j : Nat) {x1 x2 x3 n y : Str} {ys : List Str} {body : List Stmt} {f : QS} {kk : Nat} {p1 p2 p3 tp p4 p5 p6 pos pos' : Pos} (hN : c.N.Nodup) (h : HasT c.g x1 x2 x3 ys) (hb : DSs c body f) (hi : c.N[i]? = some n := by rfl) (hj : c.N[j]? = some y := by rfl)
    (hln : c.sc.names.lookup n = some .local := by rfl) (hly : c.sc.names.lookup y = some .local := by rfl) (g1 : c.sc.names.lookup x1 = some .globalImplicit := by rfl) (g2 : c.sc.names.lookup x2 = some .globalImplicit := by rfl) (g3 : c.sc.names.lookup x3 = some .globalImplicit := by rfl)
    (d1 : (x1 == ("__debug__" : Str)) = false := by decide) (d2 : (x2 == ("__debug__" : Str)) = false := by decide) (d3 : (x3 == ("__debug__" : Str)) = false := by decide) (dn : (n == ("__debug__" : Str)) = false := by decide) (dc : (n == ("__classdict__" : Str)) = false := by decide) :
    DS c (.Try body [.ExceptHandler (some (.Tuple [.Name x1 p1, .Name x2 p2, .Name x3 p3] kk tp)) (some n) [.Assign [.Name y p4] (.Name n p5) p6] pos'] [] [] pos) (qTold i j ys f) := fun X gd B => by
  obtain ⟨c1, c2, c3, m1, m2, m3, ht⟩ := h.ok
  have kl : ∀ {z : Str} {k : NameKind}, c.sc.names.lookup z = some k → X.env.kindOf z = some k := fun {z k} e => by
    show List.lookup z X.env.scope.names = _
    rw [gd.sc]; exact e
  have nm : ∀ {z : Str} {v : Value}, c.sc.names.lookup z = some .globalImplicit → (z == ("__debug__" : Str)) = false → c.g.mg z = some v → Names X z v := fun {z v} a b e => ⟨gl_of gd.sc a, b, .inl (by rw [gd.mg]; exact e)⟩
  refine (ps_told (X := X) (i := i) (j := j) (tb := fun W D σ H => ∃ F τ M d, At X.K F F τ M σ H ∧ f d τ M ∧ (∀ cls dd σ H, lW X.K F d.ex cls dd σ H → W cls dd σ H) ∧ DOk X.K F d D)
    gd.stk gd.fr gd.ex (by rw [gd.N]; exact hN) (by rw [gd.N]; exact hi) (by rw [gd.N]; exact hj) (kl hln) (kl hly) (nm g1 d1 m1) (nm g2 d2 m2) (nm g3 d3 m3) dn dc ?_).im fun D σ H => ?_
  · intro W pn xe tk ps
    have gd' : GoodS c (X.tr pn xe) := ⟨⟨gd.prog, gd.w, gd.K, gd.mg, gd.base, gd.N, gd.sc, gd.room, gd.calm, gd.grd, gd.me⟩, gd.stk, gd.fr, gd.ex, gd.fn, ps⟩
    refine ⟨fun pins s σ H D I hw => ?_⟩
    obtain ⟨F, τ, M, d, a, hf, hw, hd⟩ := hw
    exact (hb (X.tr pn xe) gd' F).run pins s σ H D I ⟨F, τ, M, d, a, hf, tk.imp hw, hd⟩
  · rintro ⟨F, τ, M, d, a, hf, tk, hd⟩
    refine ⟨F, τ, M, _, ⟨Same.refl _, a.r, a.s⟩, hf, fun cls dd σ' H' hx => ?_, ⟨hd.nx, hd.rt, hd.bk, hd.ct⟩⟩
    obtain ⟨F', τ', M', e, s1, r1, sr1, er, hy, hk⟩ := hx
    obtain ⟨cls', q1, q2⟩ := ht _ hy
    have ec : cls = cls' := by
      have z := er.1
      rw [gd.K, q1] at z
      exact ((Option.some.inj (Option.some.inj z))).symm
    subst ec
    refine ⟨by rw [gd.K]; exact q2, fun x hx => ?_⟩
    have hFM := r1.fresh hx
    refine hd.nx _ _ _ _ _ (hk x hFM.2) s1 (r1.put hFM.1 (fun y z => by rw [hx] at z; cases z) ⟨cls, dd, upd_same, er.1, er.2⟩) (((sr1.set (.ref x) i).set (.ref x) j).unset i)
/-! ### isinstance(e, X), e a caught exception without fields -/
structure IsiX (g : Glb) (x : Str) (tb : List (Str × Bool)) : Prop where
  ok : ∃ C : Addr, g.mg x = some (.ref C) ∧ ∀ nm b, tb.lookup nm = some b → ∃ D, PySem.W.nsIn g.K mainGlobals nm = some (some (.ref D)) ∧ ExcC g.K D ∧ PySem.W.kitOne g.K (.ref D) (.ref C) = some b
def isiXP (tb : List (Str × Bool)) : PV → PM → PK → Prop
  | .ref a, M, k => match M a with
    | some (.exc nm _) => (match tb.lookup nm with
      | some b => k (.bl b) M
      | none => False)
    | _ => False
  | _, _, _ => False
set_option autoImplicit true in
@[simp] theorem isiXP_s1 : isiXP tb (.ref a) M k = (match M a with
    | some (.exc nm _) => (match tb.lookup nm with
      | some b => k (.bl b) M
      | none => False)
    | _ => False) := rfl
@[simp] def qIsiX (tb : List (Str × Bool)) (f : QE) : QE := fun τ M x k => f τ M x fun v M1 => isiXP tb v M1 k
theorem de_isiX {c : Cf} {x : Str} {tb : List (Str × Bool)} {e : Expr} {f : QE} {p px pos : Pos} (T : IsiX c.g x tb) (hm : c.g.mg "isinstance" = none) (he : DE c e f) (hg : c.sc.names.lookup ("isinstance" : Str) = some .globalImplicit := by rfl) (hgx : c.sc.names.lookup x = some .globalImplicit := by rfl)
    (hdx : (x == ("__debug__" : Str)) = false := by decide) (hs : ∀ env, starEach (e :: [.Name x px]) env = (false, eval e env) :: starEach [.Name x px] env := by intro _; rfl) :
    DE c (.Call (.Name "isinstance" p) [e, .Name x px] [] pos) (qIsiX tb f) := fun X g B => by
  obtain ⟨C, mC, ht⟩ := T.ok
  have hc : PE X (.Name x px) (tC (.ref C)) := pe_glob (gl_of g.sc hgx) (by rw [g.mg]; exact mC) rfl hdx
  refine (pe_callB (call_isX (X := X) (C := C)) (gl_of g.sc hg) (by rw [g.mg]; exact hm) (by rfl) (pa_cons (he X g B) (pa_cons hc pa_nil) (hs _)) (he := hs _)).im fun σ H Q => ?_
  rintro ⟨F, τ, M, x, k, a, hf, tk, hk⟩
  refine ⟨F, τ, M, x, _, a, hf, tk, fun r M' F' v H' h' s' r' e' => ?_⟩
  cases e' with
  | ref b =>
    simp only [isiXP_s1] at h'
    split at h'
    · rename_i nm fs0 hM
      split at h'
      · rename_i bb hl
        obtain ⟨D, q1, q2, q3⟩ := ht _ _ hl
        obtain ⟨cls, d, w1, w2, w3⟩ := r'.chg _ _ hM
        have ec : cls = .ref D := by
          rw [g.K, q1] at w2
          exact ((Option.some.inj (Option.some.inj w2))).symm
        subst ec
        refine ⟨b, D, d, bb, rfl, w1, fun dd ed => ?_, by rw [g.K]; exact q2, by rw [g.K]; exact q3, hk _ _ _ _ _ h' s' r' (.bl bb)⟩
        subst ed
        cases fs0 with
        | none => exact w3.elim
        | some fs =>
          obtain ⟨gs, w4, _⟩ := w3
          exact ⟨gs, r'.sub _ _ w4⟩
      · exact h'.elim
    · exact h'.elim
  | _ => exact h'.elim
/-! ### the facts of the classes -/
abbrev bmVE : List Value := [.type "ValueError", .type "Exception", .type "BaseException", .type "object"]
structure ClsAt (K : Fg) (x : Str) (C : Addr) : Prop where
  ns : PySem.W.nsIn K mainGlobals x = some (some (.ref C))
  ex : PySem.W.excIn K C bmVE "ValueError.__new__" = true
  kp : PySem.W.keepIn K (.ref C) = true
  sb : PySem.W.subIn K (.ref C) (.type "BaseException") = some true
  ty : PySem.W.typeIn K (.ref C) = some (.type "type")
theorem cls_at {K : Fg} {x : Str} {C : Addr} (ns : PySem.W.nsIn K mainGlobals x = some (some (.ref C))) (ex : PySem.W.excIn K C bmVE "ValueError.__new__" = true) (kp : PySem.W.keepIn K (.ref C) = true) (sb : PySem.W.subIn K (.ref C) (.type "BaseException") = some true)
    (ty : PySem.W.typeIn K (.ref C) = some (.type "type")) : ∃ C, ClsAt K x C := ⟨C, ns, ex, kp, sb, ty⟩
theorem hasE_mk {gd : Bool} {P : Program} {w : World} {K : Fg} {mg : Str → Option Value} {base : Heap} {h : Heap} {x : Str} (X : K.In h) (G : h.Ns mainGlobals mg) (c : ∃ C, ClsAt K x C) : HasE ⟨P, w, K, mg, base, gd⟩ x := by
  obtain ⟨C, c⟩ := c
  exact ⟨C, bmVE, _, _, _, PySem.F.excBase_ValueError, c.ns, PySem.W.mg_of X G c.ns, c.ex, c.kp, c.sb, c.ty⟩
def AllT (K : Fg) (c1 c2 c3 : Value) (ys : List Str) : Prop := ∀ nm ∈ ys, ∃ cls, PySem.W.nsIn K mainGlobals nm = some (some cls) ∧ PySem.W.exmAny K cls [c1, c2, c3] = some true
theorem allT_nil {K : Fg} {c1 c2 c3 : Value} : AllT K c1 c2 c3 [] := fun _ h => nomatch h
theorem kit_ref {K : Fg} {C D : Addr} {b : Bool} (hdct : PySem.W.hasDictIn K C = true) (ht : PySem.W.typeIn K (.ref C) = some (.type "type")) (h4 : PySem.W.subIn K (.ref D) (.ref C) = some b) (h5 : D = C → b = true) : PySem.W.kitOne K (.ref D) (.ref C) = some b := by
  obtain ⟨cd, hc, _⟩ := PySem.W.any_some hdct
  have e2 : ((PySem.W.clsIn K C).isSome && PySem.W.typeIn K (.ref C) == some (.type "type")) = true := by rw [hc, ht] <;> rfl
  unfold PySem.W.kitOne
  by_cases e : D = C
  · rw [if_pos (by rw [e]; exact beq_self_eq_true _), h5 e]
  · have ne : ¬ ((Value.ref D == Value.ref C) = true) := fun z => e (Value.ref.inj (beq_iff_eq.mp z))
    rw [if_neg ne]
    show (if ((PySem.W.clsIn K C).isSome && PySem.W.typeIn K (.ref C) == some (.type "type")) = true then PySem.W.subIn K (.ref D) (.ref C) else none) = some b
    rw [if_pos e2]
    exact h4
theorem exm3 {K : Fg} {C1 C2 C3 : Addr} {cls : Value} {b1 b2 b3 : Bool} (s1 : PySem.W.subIn K (.ref C1) (.type "BaseException") = some true) (d1 : PySem.W.hasDictIn K C1 = true) (t1 : PySem.W.typeIn K (.ref C1) = some (.type "type"))
    (s2 : PySem.W.subIn K (.ref C2) (.type "BaseException") = some true) (d2 : PySem.W.hasDictIn K C2 = true) (t2 : PySem.W.typeIn K (.ref C2) = some (.type "type"))
    (s3 : PySem.W.subIn K (.ref C3) (.type "BaseException") = some true) (d3 : PySem.W.hasDictIn K C3 = true) (t3 : PySem.W.typeIn K (.ref C3) = some (.type "type"))
    (q1 : PySem.W.subIn K cls (.ref C1) = some b1) (q2 : PySem.W.subIn K cls (.ref C2) = some b2) (q3 : PySem.W.subIn K cls (.ref C3) = some b3) (hb : (b1 || (b2 || (b3 || false))) = true) : PySem.W.exmAny K cls [.ref C1, .ref C2, .ref C3] = some true := by
  have e1 := PySem.W.exm_ref s1 d1 t1 q1
  have e2 := PySem.W.exm_ref s2 d2 t2 q2
  have e3 := PySem.W.exm_ref s3 d3 t3 q3
  simp only [PySem.W.exmAny, e1, e2, e3, hb]
theorem allT_cons {K : Fg} {c1 c2 c3 cls : Value} {nm : Str} {ys : List Str} (a : PySem.W.nsIn K mainGlobals nm = some (some cls)) (b : PySem.W.exmAny K cls [c1, c2, c3] = some true) (r : AllT K c1 c2 c3 ys) : AllT K c1 c2 c3 (nm :: ys) := fun z hz => by
  rcases List.mem_cons.mp hz with e | e
  · subst e; exact ⟨cls, a, b⟩
  · exact r z e
def TldAt (K : Fg) (x1 x2 x3 : Str) (ys : List Str) : Prop := ∃ c1 c2 c3, PySem.W.nsIn K mainGlobals x1 = some (some c1) ∧ PySem.W.nsIn K mainGlobals x2 = some (some c2) ∧ PySem.W.nsIn K mainGlobals x3 = some (some c3) ∧ AllT K c1 c2 c3 ys
theorem tld_at {K : Fg} {x1 x2 x3 : Str} {c1 c2 c3 : Value} {ys : List Str} (a1 : PySem.W.nsIn K mainGlobals x1 = some (some c1)) (a2 : PySem.W.nsIn K mainGlobals x2 = some (some c2)) (a3 : PySem.W.nsIn K mainGlobals x3 = some (some c3)) (r : AllT K c1 c2 c3 ys) : TldAt K x1 x2 x3 ys := ⟨c1, c2, c3, a1, a2, a3, r⟩
theorem hasT_mk {gd : Bool} {P : Program} {w : World} {K : Fg} {mg : Str → Option Value} {base : Heap} {h : Heap} {x1 x2 x3 : Str} {ys : List Str} (X : K.In h) (G : h.Ns mainGlobals mg) (t : TldAt K x1 x2 x3 ys) : HasT ⟨P, w, K, mg, base, gd⟩ x1 x2 x3 ys := by
  obtain ⟨c1, c2, c3, a1, a2, a3, r⟩ := t
  exact ⟨c1, c2, c3, PySem.W.mg_of X G a1, PySem.W.mg_of X G a2, PySem.W.mg_of X G a3, r⟩
def AllI (K : Fg) (C : Addr) (tb : List (Str × Bool)) : Prop := ∀ nm b, tb.lookup nm = some b → ∃ D, PySem.W.nsIn K mainGlobals nm = some (some (.ref D)) ∧ ExcC K D ∧ PySem.W.kitOne K (.ref D) (.ref C) = some b
theorem allI_nil {K : Fg} {C : Addr} : AllI K C [] := fun _ _ h => nomatch h
theorem allI_cons {K : Fg} {C D : Addr} {nm : Str} {b : Bool} {tb : List (Str × Bool)} (a : PySem.W.nsIn K mainGlobals nm = some (some (.ref D))) (k : PySem.W.kitOne K (.ref D) (.ref C) = some b)
    (hg : PySem.W.findIn K (.ref D) "__getattribute__" = some (some (.builtin "BaseException.__getattribute__"))) (hk : PySem.W.findIn K (.ref D) "__getattr__" = some none) (hs : PySem.W.subIn K (.ref D) (.type "BaseException") = some true) (hd : PySem.W.hasDictIn K D = true)
    (ha : PySem.W.findIn K (.ref D) "__class__" = some (some (.builtin "object.__class__"))) (hn : PySem.W.specialIn K (.builtin "object.__class__") "__get__" = some (some (.builtin "getset_descriptor.__get__"))) (ht : PySem.W.takesIn K (.builtin "object.__class__") = some true) (hm : PySem.W.mroIn K D (.type "object") = some true)
    (r : AllI K C tb) : AllI K C ((nm, b) :: tb) := fun z y hz => by
  simp only [List.lookup] at hz
  split at hz
  · rename_i e
    cases hz
    rw [beq_iff_eq] at e
    subst e
    exact ⟨D, a, ⟨hg, hk, hs, hd, ha, hn, ht, hm⟩, k⟩
  · exact r z y hz
def IsiAt (K : Fg) (x : Str) (tb : List (Str × Bool)) : Prop := ∃ C, PySem.W.nsIn K mainGlobals x = some (some (.ref C)) ∧ AllI K C tb
theorem isi_at {K : Fg} {x : Str} {C : Addr} {tb : List (Str × Bool)} (a : PySem.W.nsIn K mainGlobals x = some (some (.ref C))) (r : AllI K C tb) : IsiAt K x tb := ⟨C, a, r⟩
theorem isiX_mk {gd : Bool} {P : Program} {w : World} {K : Fg} {mg : Str → Option Value} {base : Heap} {h : Heap} {x : Str} {tb : List (Str × Bool)} (X : K.In h) (G : h.Ns mainGlobals mg) (t : IsiAt K x tb) : IsiX ⟨P, w, K, mg, base, gd⟩ x tb := by
  obtain ⟨C, a, r⟩ := t
  exact ⟨C, PySem.W.mg_of X G a, r⟩
end Q
/-! an own exception class with one field, whose __init__ calls super().__init__('..') over a class without one -/
namespace PySem
namespace SupX
open PySem.W PySem.Calls PyProof.Rows PySem.HandSPX
def iA (f : Str) (p1 p2 : Pos) : Arguments := { posonlyargs := [], args := [{ arg := "self", annotation := none, pos := p1 }, { arg := f, annotation := none, pos := p2 }], vararg := none, kwonlyargs := [], kw_defaults := [], kwarg := none, defaults := [] }
def iB (f msg : Str) (j : Nat) (r0 r1 r2 r3 r4 r5 q1 q2 q3 q4 : Pos) : List Stmt :=
  [.Expr (.Call (.Attribute (.Call (.Name "super" r0) [] [] r1) "__init__" r2) [.Constant (.str msg) j r3] [] r4) r5, .Assign [.Attribute (.Name "self" q1) f q2] (.Name f q3) q4]
def iS (f : Str) : Scope := { kind := .function, names := [(PySem.Str.ofString "self", .local), (f, .local), (PySem.Str.ofString "__class__", .free), (PySem.Str.ofString "super", .globalImplicit)], isGenerator := false, isCoroutine := false, more := [] }
structure FOk (f : Str) : Prop where
  s1 : (f == ("self" : Str)) = false
  s2 : (("self" : Str) == f) = false
  c2 : (("__class__" : Str) == f) = false
  u2 : (("super" : Str) == f) = false
  d : (f == ("__debug__" : Str)) = false
  cd : (f == ("__classdict__" : Str)) = false
  b : ∀ (qual : Str) (doc pm ct cdv : Value) (an : Option Addr) (cc : Addr) (body : List Stmt) (p1 p2 : Pos) (x v : Value), bindArgs (ksFn "__init__" qual (iA f p1 p2) body (iS f) .none .none doc pm an cdv ct cc) ⟨[x, v], []⟩ = pure [(("self" : Str), x), (f, v)]
/-- own classes, then a built-in class's order -/
def refsT (tl : List Value) : List Value → Bool
  | .ref _ :: r => refsT tl r
  | l => l == tl
theorem refsT_cases {tl : List Value} (a : Value) (r : List Value) (e : refsT tl (a :: r) = true) : (∃ c, a = .ref c ∧ refsT tl r = true) ∨ a :: r = tl := by
  cases a <;> first
    | exact .inl ⟨_, rfl, e⟩
    | exact .inr (beq_iff_eq.mp e)
/-- a built-in exception class that may stand above own ones -/
structure Kind (B newId initId : String) (tl : List Value) : Prop where
  base : ExcBaseFacts B newId initId tl
  kx : KxsFacts B initId
  pass : ∀ self : Value, refuseLoop self "__setattr__" tl = pure ()
  obj : tl.contains (.type "object") = true
  ne : tl.isEmpty = false
theorem refsT_has {tl : List Value} (X : String) : ∀ l : List Value, refsT tl l = true → l.contains (.type X) = tl.contains (.type X)
  | [], e => by rw [show ([] : List Value) = tl from beq_iff_eq.mp e]
  | a :: r, e => by
    rcases refsT_cases a r e with ⟨c, rfl, h⟩ | q
    · rw [List.contains_cons, refsT_has X r h]; rfl
    · rw [q]
theorem refsT_pass {tl : List Value} (self : Value) (h : refuseLoop self "__setattr__" tl = pure ()) : ∀ l : List Value, refsT tl l = true → refuseLoop self "__setattr__" l = pure ()
  | [], e => by rw [show ([] : List Value) = tl from beq_iff_eq.mp e]; exact h
  | a :: r, e => by
    rcases refsT_cases a r e with ⟨c, rfl, h'⟩ | q
    · rw [refuseLoop_ref]; exact refsT_pass self h r h'
    · rw [q]; exact h
theorem refsT_ne {tl : List Value} (h : tl.isEmpty = false) : ∀ l : List Value, refsT tl l = true → l.isEmpty = false
  | [], e => by rw [show ([] : List Value) = tl from beq_iff_eq.mp e]; exact h
  | _ :: _, _ => rfl
section
open Builtin Builtin.ObjectAttr
variable {prog : Program} {w : World} {A : Around} {E : Value → Shared → Prop} {R : Result → Shared → Prop} {hp : Heap} {g : Array GenState} {d : Drawn} {t : Nat} {os : OsState}
/-- self.name = v on an exception without a dict, whatever the class above is -/
theorem osa_first {K : W.Frag} {name : Str} {tk : Tok} {v : Value} {x C : Addr} {fv : Array Value} {cd : ClassData} (X : K.In hp) (hx : hp.get? x = some { cls := .ref C, data := .fields fv }) (hcd : W.clsIn K C = some cd) (ne : cd.mro.isEmpty = false) (hob : cd.mro.contains (.type "object") = true)
    (ps : refuseLoop (.ref x) "__setattr__" cd.mro = pure ()) (hh : cd.hasDict = true) (ha : W.findIn K (.ref C) name = some none)
    (hq : ∀ h' tk' dx, (∀ b o, b ≠ x → hp.get? b = some o → h'.get? b = some o) → hp.objs.size ≤ dx → dx ≠ x → h'.get? x = some { cls := .ref C, dict := some dx, data := .fields fv } → h'.Ns1 dx (fun y => if y = name then some v else none) → R (.ok (.ret .none)) ⟨h', g, d, tk', os⟩) :
    codeAny (model prog w) A (.call (.builtin "object.__setattr__") ⟨[.ref x, .str name tk, v], []⟩) R ⟨hp, g, d, t, os⟩ := by
  have I : W.InstAt hp x { cls := .ref C, data := .fields fv } C none := ⟨hx, rfl, rfl, trivial⟩
  have SF := F.store_object
  have far : x ≠ hp.objs.size := Nat.ne_of_lt (Heap.lt_size hx)
  have sub : W.Looks (model prog w) hp (isInstance (.ref x) (.type "object")) true := I.type.andThen (W.looks_mroIn X (by unfold W.mroIn; rw [hcd, Option.bind_some, if_neg (by rw [ne]; decide), hob]))
  refine codeAny_call_builtin SF.slot.plain SF.entry (@W.check_slot (model prog w) _ _ ⟨hp, g, d, t, os⟩ "object.__setattr__" "object" "__setattr__" (.ref x) [.str name tk, v] [] _ SF.kind SF.split sub (SF.args (.ref x) (.str name tk) v) ?_)
  have seen : W.Looks (model prog w) hp (classData C) cd := W.looks_clsIn X hcd
  have order : W.Looks (model prog w) hp (mroOf (.ref C)) cd.mro := seen.andThen .now
  have none3 : W.Looks (model prog w) hp (storeTaker? none) none := .now
  rw [W.osa_eq, refuse_eq]
  refine wpAny_bind (wpAny_bind (I.type.at (wpAny_bind (order.at ?_))))
  rw [ps]
  refine wpAny_pure (wpAny_bind (I.type.at (wpAny_bind ((W.looks_findIn X ha).at (wpAny_bind (none3.at ?_))))))
  show wpAny _ _ (storeInOwnDict (.ref x) (.ref C) (.str name tk) name v false) _ _ _
  obtain ⟨_, _, _, _, _, hd, _, _, _, _, _⟩ := cd
  dsimp only at hh
  subst hh
  unfold storeInOwnDict ownDictForStores
  repeat (first | with_reducible refine store_in_new ?_ ?_ | with_reducible refine wpAny_loadPart_at hx ?_ | with_reducible refine seen.at ?_ | wp_step)
  · exact ⟨_, #[], _, (Heap.get?_update_ne _ _ _ _ far.symm).trans (Heap.get?_push_at rfl rfl), rfl, fun e he => absurd he (by simp), fun _ => rfl⟩
  · intro h' tk' hn' hs
    have at1 : (hp.push { cls := .type "dict", data := .dict #[] }).get? x = some { cls := .ref C, data := .fields fv } := Heap.get?_push_of_some _ hx
    exact hq h' tk' hp.objs.size (fun b o hb ho => (hs.2 b (Nat.ne_of_lt (Heap.lt_size ho))).trans ((Heap.get?_update_ne _ _ _ _ hb).trans (Heap.get?_push_of_some _ ho))) (Nat.le_refl _) far.symm ((hs.2 x far).trans (Heap.get?_update_self _ at1 rfl)) hn'
end
/-- what the written part says of the class at C, of its __init__, at fI -/
structure SupC (B newId initId : String) (tl : List Value) (prog : Program) (K : Frag) (C fI cc cda : Addr) (f msg : Str) : Prop where
  cls : ∃ nm q N bs bm sn sub ab col dd k0 k1 k2 k3 k5, K.lookup C = some (excClassObj nm q C N bs bm true sn sub ab col dd k0 k1 k2 k3 k5 newId) ∧ refsT tl bm = true
  sa : findIn K (.ref C) "__setattr__" = some (some (.builtin "object.__setattr__"))
  ga : findIn K (.ref C) "__getattribute__" = some (some (.builtin "BaseException.__getattribute__"))
  gg : findIn K (.ref C) "__getattr__" = some none
  noN : findIn K (.ref C) f = some none
  iC : findIn K (.ref C) "__init__" = some (some (.ref fI))
  tC : typeIn K (.ref fI) = some (.type "function")
  kC : keepIn K (.ref C) = true
  exC : subIn K (.ref C) (.type "BaseException") = some true
  veC : subIn K (.ref C) (.type B) = some true
  tyC : typeIn K (.ref C) = some (.type "type")
  hdC : hasDictIn K C = true
  mro : mroIn K C (.ref C) = some true
  sup : ks_superIn K C C "__init__" = some (some (.builtin initId))
  st : nsIn K cStatics "thirdparty.any" = some none
  su : nsIn K mainGlobals "super" = some none
  cell : ∃ cl cld csl, K.lookup cc = some ⟨cl, cld, .cell (some (.ref C)), csl⟩
  code : ∃ ccl cdd vs ccs file tf, K.lookup cda = some ⟨ccl, cdd, .fields vs, ccs⟩ ∧ vs[2]? = some (.str file tf) ∧ ((prog.main.file : Str) == file) = true
  top : (prog.main.scope.names.lookup ("super" : Str)).isSome = false
  fn : ∃ (qual : Str) (oc : Value) (od : Option Addr) (doc pm : Value) (an : Option Addr) (ct : Value) (osl : Array (Option Value)) (j : Nat) (p1 p2 r0 r1 r2 r3 r4 r5 q1 q2 q3 q4 : Pos),
    K.lookup fI = some ⟨oc, od, .func (ksFn "__init__" qual (iA f p1 p2) (iB f msg j r0 r1 r2 r3 r4 r5 q1 q2 q3 q4) (iS f) .none .none doc pm an (.ref cda) ct cc), osl⟩ ∧ codeIn K (.ref cda) qual = true ∧ (r2.endLine == r4.line) = true
theorem ev_call (env : Env) (msg : Str) (j) (r0 r1 r2 r3 r4 : Pos) (hp : (r2.endLine == r4.line) = true) : eval (.Call (.Attribute (.Call (.Name "super" r0) [] [] r1) "__init__" r2) [.Constant (.str msg) j r3] [] r4) env = (do
    let ov ← attributeBase (.Call (.Name "super" r0) [] [] r1) "__init__" env (eval (.Call (.Name "super" r0) [] [] r1) env)
    standAt r2.atName
    let (fx, first) ← holding [ov] (getMethod ov "__init__" (do return (← importBound (.Call (.Name "super" r0) [] [] r1) env).getD true))
    callWith r4 fx first (backTo r4 (starEach [.Constant (.str msg) j r3] env)) []) := by
  have e : methodCallPos true (.Call (.Name "super" r0) [] [] r1) env r2 r4 = pure r4 := by
    unfold methodCallPos
    rw [hp]
    rfl
  show (do
    let ov ← attributeBase (.Call (.Name "super" r0) [] [] r1) "__init__" env (eval (.Call (.Name "super" r0) [] [] r1) env)
    standAt r2.atName
    let (f, first) ← holding [ov] (calleeOf true (.Call (.Name "super" r0) [] [] r1) env ov "__init__")
    let callPos ← methodCallPos true (.Call (.Name "super" r0) [] [] r1) env r2 r4
    callWith callPos f first (backTo r4 (starEach [.Constant (.str msg) j r3] env)) []) = _
  rw [e]
  rfl
/-- what __init__ leaves of a fresh exception at x -/
structure InitEnd (h h' : Heap) (x C dx t1 : Addr) (f : Str) (v : Value) : Prop where
  keep : ∀ b o, b ≠ x → h.get? b = some o → h'.get? b = some o
  obj : h'.get? x = some { cls := .ref C, dict := some dx, data := .fields #[.ref t1, .none, .none, .none, .bool false, .none] }
  dbig : h.objs.size ≤ dx
  dne : dx ≠ x
  ns : h'.Ns1 dx (fun y => if y = f then some v else none)
section
variable {B newId initId : String} {tl : List Value} {prog : Program} {w : World} {A : Around} {E : Value → Shared → Prop} {R : Result → Shared → Prop} {s : Shared} {K : Frag} {mg mb : Str → Option Value} {C fI cc cda : Addr} {f msg : Str}
theorem sup_init (KD : Kind B newId initId tl) (T : SupC B newId initId tl prog K C fI cc cda f msg) (fo : FOk f) {x t0 : Addr} {v : Value} (X : K.In s.heap) (hlim : s.heap.NoLimit) (hx : s.heap.get? x = some (excO C t0)) (hnx : K.lookup x = none) (hg : s.heap.Ns mainGlobals mg) (hmg : mg "super" = none) (hb : s.heap.Ns builtinsNs mb) (hmb : mb "super" = some (.type "super")) (hroom : A.depth < recursionLimit)
    (hq : ∀ h' tk dx t1, InitEnd s.heap h' x C dx t1 f v → R (.ok (.ret .none)) { s with heap := h', toks := tk }) :
    codeAny (model prog w) A (.call (.ref fI) ⟨[.ref x, v], []⟩) R s := by
  obtain ⟨qual, oc, od, doc, pm, an, ct, osl, j, p1, p2, r0, r1, r2, r3, r4, r5, q1, q2, q3, q4, ho, hcd, hpos⟩ := T.fn
  obtain ⟨nm, q, N, bs, bm, sn, sub, ab, col, dd, k0, k1, k2, k3, k5, hC, hbm⟩ := T.cls
  obtain ⟨ccl, cdd, vs, ccs, file, tf, hcode, hvs, hfile⟩ := T.code
  obtain ⟨cl, cld, csl, hcell⟩ := T.cell
  have hcl : clsIn K C = some { name := nm, bases := bs, mro := .ref C :: bm, ns := N, qualname := q, hasDict := true, slotNames := sn, subclasses := sub, abstract := ab, collection := col, hasDel := false } := by unfold clsIn; rw [hC] <;> rfl
  refine ks_codeAny_call_defAt (fd := ksFn "__init__" qual (iA f p1 p2) (iB f msg j r0 r1 r2 r3 r4 r5 q1 q2 q3 q4) (iS f) .none .none doc pm an (.ref cda) ct cc) (body := iB f msg j r0 r1 r2 r3 r4 r5 q1 q2 q3 q4) (binds := [(("self" : Str), .ref x), (f, v)]) hroom (X _ _ ho) rfl hlim (codeRec_of X hcd) rfl (BindsTo.of_eq (fo.b _ _ _ _ _ _ _ _ _ _ _ _)) ?_ ?_ (fun h₁ hn k => ?_) rfl rfl rfl
  · intro y hy
    simp [iS] at hy
    rcases hy with rfl | rfl | rfl | rfl <;> simp
  · intro y hy
    simp at hy
    rcases hy with rfl | rfl <;> simp [iS, List.lookup, fo.s1]
  have hxL : x ≠ s.heap.objs.size := Nat.ne_of_lt (Heap.lt_size hx)
  have X₁ : K.In h₁ := X.keeps k
  have hx₁ := k _ _ hx
  have hg₁ : h₁.Ns mainGlobals mg := hg.keeps k
  have hb₁ : h₁.Ns builtinsNs mb := hb.keeps k
  have xC : x ≠ C := fun z => by rw [z, hC] at hnx; cases hnx
  obtain ⟨oD, hD1, hD2⟩ : ∃ oD, h₁.get? C = some oD ∧ oD.data = .cls { name := nm, bases := bs, mro := .ref C :: bm, ns := N, qualname := q, hasDict := true, slotNames := sn, subclasses := sub, abstract := ab, collection := col, hasDel := false } := ⟨_, X₁ _ _ hC, rfl⟩
  have hkf : ∀ z : Str, (ksEnv qual (iS f) s.heap.objs.size fI (.ref cda) cc).kindOf z = (iS f).names.lookup z := fun _ => rfl
  have ksu : (iS f).names.lookup ("super" : Str) = some .globalImplicit := by simp [iS, List.lookup, fo.u2]; rfl
  have kcl : (iS f).names.lookup ("__class__" : Str) = some .free := by simp [iS, List.lookup, fo.c2]; rfl
  have kse : (iS f).names.lookup ("self" : Str) = some .local := by simp [iS, List.lookup]
  have kff : (iS f).names.lookup f = some .local := by simp [iS, List.lookup, fo.s1]
  have mse : [(("self" : Str), Value.ref x), (f, v)].reverse.lookup ("self" : Str) = some (.ref x) := by simp [List.lookup, fo.s2]
  have mff : [(("self" : Str), Value.ref x), (f, v)].reverse.lookup f = some v := by simp [List.lookup]
  refine ks_wpAt_execs_cons (ks_wpAt_Expr_any (ks_wpAt_MethodCall ?_ (ev_call _ _ _ _ _ _ _ _ hpos)))
  refine ks_wpAt_super_base ksu kcl rfl rfl (X₁ _ _ ho) rfl rfl rfl (X₁ _ _ hcode) rfl hvs hfile T.top ?_
  refine ks_loadName_global rfl ksu (Calls.loadGlobal_builtin hg₁ hmg hb₁ hmb ⟨rfl, ?_⟩)
  refine wpAny_loadName_free rfl kcl rfl ⟨_, X₁ _ _ hcell, rfl⟩ ?_
  refine wpAny_loadName_local rfl kse hn mse ?_
  refine ks_wpAny_isType_cls hD1 hD2 ⟨rfl, ?_⟩
  refine ks_wpAny_call_super hD1 hD2 hx₁ rfl (fun c e => by cases e) (looks_mroIn X₁ T.mro) (fun h2 e2 k2 => ?_)
  have X₂ : K.In h2 := X₁.keeps k2
  have hx₂ := k2 _ _ hx₁
  have hsup : alongIn K "__init__" (((Value.ref C :: bm).dropWhile (· != .ref C)).drop 1) = some (some (.builtin initId)) := by
    have z := T.sup
    unfold ks_superIn at z
    rw [hcl] at z
    exact z
  have hI : Looks (model prog w) h2 (isInstance (.ref x) (.type B)) true := Looks.andThen (a := .ref C) (fun A Q E s k q => wpAny_typeOf_ref (k _ _ hx₂) q) (looks_subIn X₂ T.veC)
  refine kxs_getMethod KD.kx e2 (looks_opaque X₂ T.st) (l₀ := .ref C :: bm) (fun A Q E s k q => wpAny_bind ((looks_clsIn X₂ hcl) A _ E s k (wpAny_pure q))) rfl X₂ hsup hI xC rfl ?_
  have k3 : ∀ b o, h2.get? b = some o → (h2.push (kxs_mw initId x)).get? b = some o := fun b o e => Heap.get?_push_of_some _ e
  have hmw : (h2.push (kxs_mw initId x)).get? h2.objs.size = some (kxs_mw initId x) := Heap.get?_push_size h2 rfl
  have hx₃ := k3 _ _ hx₂
  refine kxs_callWith (i := initId) (x := x) rfl (evalArgs_plain (spliced_more (pos := r4) (Calls.Constant_str (spliced_none ⟨hmw, ?_⟩))))
  have X₃ : K.In (h2.push (kxs_mw initId x)) := X₂.keeps k3
  refine wpAny_call (codeAny_of_tree ?_)
  show wpAny _ _ (callAny (.ref h2.objs.size) ⟨_, []⟩) _ _ _
  simp only [callAny]
  refine wpAny_bind (wpAny_load hmw ?_)
  simp only [kxs_mw, show (Value.type "method-wrapper" == Value.type "method" || Value.type "method-wrapper" == Value.type "builtin_function_or_method" || Value.type "method-wrapper" == Value.type "method-wrapper") = true by decide, if_true]
  refine KFB.if_so (by decide) ?_
  refine wpAny_bind (check_bound_init KD.base.toExcCallFacts (X₃ _ _ hC) hx₃ rfl ?_)
  refine wpAny_bind (wpAny_pure (wpAny_pure ?_))
  refine ⟨plainId_quiet KD.base.init.plain _, codeAny_builtin KD.base.initEntry ?_⟩
  refine exc_init_tree (cls := .ref C) (t0 := t0) (dv := none) (c2 := .none) (c3 := .none) (b4 := .bool false) hx₃ (by rw [sizeLine_eq]; simp) (fun h4 k4 hx₄ ht₄ => ?_)
  have ke : ∀ b o, b ≠ x → h₁.get? b = some o → h4.get? b = some o := fun b o ne e => k4 b o ne (k3 b o (k2 b o e))
  have X₄ : K.In h4 := fun b o e => k4 b o (fun z => by rw [z, hnx] at e; cases e) (X₃ b o e)
  have hn₄ : h4.Ns s.heap.objs.size (fun z => [(("self" : Str), Value.ref x), (f, v)].reverse.lookup z) := hn.at fun o e => ke _ _ (Ne.symm hxL) e
  refine wpAt_of_wpAny ?_
  show wpAny _ _ (execs [_] _) _ _ _
  refine wpAny_execs_cons (plainObj_wpAny_Assign_Attribute ?_)
  refine wpAny_Name (wpAny_loadName_local rfl kff hn₄ mff ?_) fo.d
  refine wpAny_Name (wpAny_loadName_local rfl kse hn₄ mse ?_) (by decide)
  refine set_plain X₄ (ox := excO C (h2.push (kxs_mw initId x)).objs.size) (od := none) ⟨hx₄, rfl, rfl, trivial⟩ T.sa ?_
  refine osa_first X₄ hx₄ hcl (refsT_ne KD.ne _ (show refsT tl (.ref C :: bm) = true from hbm)) ((refsT_has _ _ (show refsT tl (.ref C :: bm) = true from hbm)).trans KD.obj) (refsT_pass _ (KD.pass _) _ (show refsT tl (.ref C :: bm) = true from hbm)) rfl T.noN (fun h₅ tk₅ dx k₅ dn dne hx₅ hn₅ => ?_)
  have big : s.heap.objs.size ≤ h4.objs.size := by
    have z := hn₄.lt
    exact Nat.le_of_lt z
  exact wpAny_execs_nil (hq h₅ tk₅ dx _ ⟨fun b o hb e => k₅ b o hb (ke b o hb (k b o e)), hx₅, Nat.le_trans big dn, dne, hn₅⟩)
/-- a made one -/
structure OwnMade (h h' : Heap) (e C d : Addr) (f : Str) (v : Value) : Prop where
  keep : ∀ b o, h.get? b = some o → h'.get? b = some o
  new : h.objs.size ≤ e
  obj : ∃ oe vs, h'.get? e = some oe ∧ oe.cls = .ref C ∧ oe.dict = some d ∧ oe.data = .fields vs ∧ vs[1]? = some .none
  dbig : h.objs.size ≤ d
  dne : d ≠ e
  ns : h'.Ns1 d (fun y => if y = f then some v else none)
theorem one_size (v : Value) : [v].length ≤ sizeLine := by
  rw [sizeLine_eq]
  exact (by decide : 1 ≤ 16777216)
theorem sup_made (KD : Kind B newId initId tl) (T : SupC B newId initId tl prog K C fI cc cda f msg) (fo : FOk f) {v : Value} (X : K.In s.heap) (hlim : s.heap.NoLimit) (hg : s.heap.Ns mainGlobals mg) (hmg : mg "super" = none) (hb : s.heap.Ns builtinsNs mb) (hmb : mb "super" = some (.type "super")) (hroom : A.depth + 1 < recursionLimit)
    (hq : ∀ h' tk e d, OwnMade s.heap h' e C d f v → R (.ok (.ret (.ref e))) { s with heap := h', toks := tk }) :
    codeAny (model prog w) A (.call (.ref C) ⟨[v], []⟩) R s := by
  obtain ⟨nm, q, N, bs, bm, sn, sub, ab, col, dd, k0, k1, k2, k3, k5, hC, hbm⟩ := T.cls
  obtain ⟨hp, g, dr, tk, os⟩ := s
  have k : ∀ b o, hp.get? b = some o → ((hp.push (kdv_tup [v])).push (excO C hp.objs.size)).get? b = some o := fun b o e => Heap.get?_push_of_some _ (Heap.get?_push_of_some _ e)
  have hget : ((hp.push (kdv_tup [v])).push (excO C hp.objs.size)).get? (hp.objs.size + 1) = some (excO C hp.objs.size) := by heap_get
  have hnx : K.lookup (hp.objs.size + 1) = none := by
    cases e : K.lookup (hp.objs.size + 1) with
    | none => rfl
    | some o =>
      have z : hp.get? (hp.objs.size + 1) = some o := X _ _ e
      exact absurd (Nat.lt_of_succ_lt (Heap.lt_size z)) (Nat.lt_irrefl _)
  refine call_own KD.base (fun X => refsT_has X bm hbm) (X _ _ hC) (looks_findIn X T.iC) (fun self => bind_fn X self T.tC) (one_size v) ?_
  refine sup_init (s := ⟨(hp.push (kdv_tup [v])).push (excO C hp.objs.size), g, dr, tk, os⟩) KD T fo (X.keeps k) (hlim.keeps k) hget hnx (hg.keeps k) hmg (hb.keeps k) hmb ?_ fun h' tk' dx t1 ⟨k', hx, dn, dne, hns⟩ => ?_
  · show A.depth + 1 < recursionLimit
    exact hroom
  · have old : ∀ b o, hp.get? b = some o → h'.get? b = some o := fun b o e => k' b o (Nat.ne_of_lt (Nat.lt_succ_of_lt (Heap.lt_size e))) (k b o e)
    have z : hp.objs.size + 1 + 1 ≤ dx := by
      first
        | (simpa only [Heap.size_push] using dn)
        | exact dn
        | (have q := dn; rw [Heap.size_push, Heap.size_push] at q; exact q)
    exact ⟨rfl, hq h' tk' (hp.objs.size + 1) dx ⟨old, Nat.le_succ _, ⟨_, _, hx, rfl, rfl, rfl, rfl⟩, Nat.le_trans (Nat.le_trans (Nat.le_succ _) (Nat.le_succ _)) z, dne, hns⟩⟩
end
end SupX
end PySem
namespace L2
open PySem PySem.Spec PyProof.Rows
theorem relO_one {v : V} {v' : Value} (r : RelV v v') (f g : Str) : RelO (List.lookup g [(f, v)]) (if g = f then some v' else none) := by
  by_cases hw : g = f
  · subst hw
    rw [if_pos rfl]
    have q : List.lookup g [(g, v)] = some v := by simp [List.lookup]
    rw [q]
    exact r
  · rw [if_neg hw]
    have qw : (g == f) = false := by simpa using hw
    have q2 : List.lookup g [(f, v)] = none := by simp [List.lookup, qw]
    rw [q2]
    trivial
section
variable {B newId initId : String} {tl : List Value} {X : Cx} {C fI cc cda : Addr} {f msg : Str}
/-- X(e) -/
def tMkS (C : Addr) (f : Str) (ta : TA) : L2.St → Hp → XK → Prop := fun σ H Q => ta σ H fun vs H1 => ∃ v, vs = [v] ∧ ∀ d, H1 d = none → Q (.ref C) (some d) (upd H1 d (.xd [(f, v)]))
theorem pmk_sup {a : Expr} {ta : TA} {x : Str} {p pos : Pos} {k : Nat} (KD : PySem.SupX.Kind B newId initId tl) (T : PySem.SupX.SupC B newId initId tl X.prog X.K C fI cc cda f msg) (fo : PySem.SupX.FOk f) (gC : X.mg x = some (.ref C)) (gs : X.mg "super" = none) (hr : Room k X.A) (ha : PA X [a] ta) (hg : Gl X x)
    (hdb : (x == ("__debug__" : Str)) = false := by decide) (he : starEach (a :: []) X.env = (false, eval a X.env) :: starEach [] X.env := by rfl) (hpl : (backTo pos (starEach [] X.env)).any (·.1) = false := by rfl) :
    PMk X (.Call (.Name x p) [a] [] pos) (tMkS C f ta) := by
  intro pins s σ H Q I h
  refine wpAny_Call_Name_kw (ld_glob I hg gC ?_ hdb)
  refine PySem.W.callWith_K (h₀ := X.base) I.ok.mod.kin T.kC (thn (ha.run pos pins s σ H _ I h) fun us s1 hh => ?_) he hpl
  obtain ⟨vs, H1, I1, r1, v, ev, q1⟩ := hh
  subst ev
  refine ⟨I1.kIn, ?_⟩
  cases r1 with
  | cons rv rn =>
    rename_i v' us'
    cases rn
    show wpAny _ _ (call (.ref C) [v']) _ _ _
    have hlim := I1.nolimit
    obtain ⟨mb, hb1, hb2⟩ := I1.mod.blt
    have hG := I1.mod.glob.keeps I1.bk
    have hB := hb1.keeps I1.bk
    have hmb : mb "super" = some (.type "super") := (hb2 "super" (by decide)).trans (by first | rfl | decide +kernel)
    obtain ⟨hp, g, dr, tk, os⟩ := s1
    refine wpAny_call (PySem.SupX.sup_made KD T fo I1.kIn hlim hG gs hB hmb (by have := hr.dp; omega) fun h' tk' e d M => ?_)
    show MkP X pins σ Q (.ref e) ⟨h', g, dr, tk', os⟩
    obtain ⟨oe, fv, hoe, hc, hd, hdat, h1⟩ := M.obj
    have hns := M.ns
    obtain ⟨G', g1, g2⟩ := restrict h' fun b => decide (b ≠ e)
    have gk : ∀ b, b ≠ e → G'.get? b = h'.get? b := fun b hb => g1 b (decide_eq_true hb)
    have ge : G'.get? e = none := g2 e (by simp)
    have old : ∀ b o, hp.get? b = some o → G'.get? b = some o := fun b o q => (gk b (Nat.ne_of_lt (Nat.lt_of_lt_of_le (Heap.lt_size q) M.new))).trans (M.keep b o q)
    have ob : ObjOk X.prog X.w (upd H1 d (.xd [(f, v)])) G' d (.xd [(f, v)]) := ⟨_, hns.at (fun o q => (gk d M.dne).trans q), fun g => relO_one rv f g⟩
    have J : Inv X pins σ (upd H1 d (.xd [(f, v)])) ⟨G', g, dr, tk', os⟩ := I1.laid (t' := tk') old M.dbig ob
    refine ⟨e, oe, fv, ⟨G', g, dr, tk', os⟩, _, .ref C, some d, rfl, J, fun b o q => ?_, ge, hoe, ⟨hc, hd⟩, hdat, h1, ?_, rfl, I1.bare, raises_own T.exC T.tyC, q1 d (I1.hok.fresh M.dbig)⟩
    · by_cases hb : b = e
      · have q' : G'.get? b = some o := q
        rw [hb, ge] at q'; cases q'
      · exact (gk b hb).symm.trans q
    · rw [upd_ne (Ne.symm M.dne)]
      exact I1.hok.fresh M.new
end
end L2
namespace Q
open PySem PySem.Spec PyProof.Rows L2
/-! ### raise X(e), X with a field -/
structure HasS (g : Glb) (x f : Str) : Prop where
  ok : ∃ (B newId initId : String) (tl : List Value) (C fI cc cda : Addr) (msg : Str), PySem.SupX.Kind B newId initId tl ∧ PySem.SupX.SupC B newId initId tl g.P g.K C fI cc cda f msg ∧ PySem.SupX.FOk f ∧ PySem.W.nsIn g.K mainGlobals x = some (some (.ref C)) ∧ g.mg x = some (.ref C) ∧ g.mg "super" = none
@[simp] def qRaiseF (x f : Str) (fe : QE) : QS := fun d τ M => fe τ M (dx d τ) fun v M1 => d.ex ⟨x, some [(f, v)]⟩ τ M1
theorem ds_raiseF {c : Cf} {x f : Str} {e : Expr} {fe : QE} {p pos pos' : Pos} (h : HasS c.g x f) (he : DE c e fe) (hg : c.sc.names.lookup x = some .globalImplicit := by rfl) (hdb : (x == ("__debug__" : Str)) = false := by decide)
    (hs : ∀ env, starEach (e :: []) env = (false, eval e env) :: starEach [] env := by intro _; rfl) : DS c (.Raise (some (.Call (.Name x p) [e] [] pos)) none pos') (qRaiseF x f fe) := fun X g B => by
  obtain ⟨B1, newId, initId, tl, C, fI, cc, cda, msg, KD, T, fo, h0, h1, h2⟩ := h.ok
  have T' : PySem.SupX.SupC B1 newId initId tl X.prog X.K C fI cc cda f msg := by rw [g.prog, g.K]; exact T
  refine ⟨fun pins s σ H D I hh => ?_⟩
  obtain ⟨F', τ, M, d, a, hf, tk, ok⟩ := hh
  refine (ps_raise g.calm tk (pmk_sup KD T' fo (by rw [g.mg]; exact h1) (by rw [g.mg]; exact h2) g.room (pa_cons (he X g.toGood B) pa_nil (hs _)) (gl_of g.sc hg) hdb (hs _))).run pins s σ H D I ?_
  refine ⟨F', τ, M, _, _, a, hf, takes_x tk, fun v M1 F1 u H1 w1 s1 r1 e1 => ⟨u, rfl, fun dd hdd => ?_⟩⟩
  obtain ⟨r2, s2⟩ := r1.newF hdd (.xd [(f, u)])
  have er : ExRep X.K (upd F1 dd (.xd [(f, u)])) ⟨x, some [(f, v)]⟩ (.ref C) (some dd) := ⟨by rw [g.K]; exact h0, [(f, u)], upd_same, .cons (e1.mono s2) .nil⟩
  exact ⟨upd F1 dd (.xd [(f, u)]), τ, M1, ⟨x, some [(f, v)]⟩, (a.b.trans s1).trans s2, r2, a.s.mono (s1.trans s2), er, w1⟩
/-! ### e.f, e a caught exception with fields -/
structure AttrX (g : Glb) (f : Str) (ys : List Str) : Prop where
  ok : ∀ nm ∈ ys, ∃ D, PySem.W.nsIn g.K mainGlobals nm = some (some (.ref D)) ∧ PySem.W.findIn g.K (.ref D) "__getattribute__" = some (some (.builtin "BaseException.__getattribute__")) ∧ PySem.W.findIn g.K (.ref D) "__getattr__" = some none ∧
    PySem.W.subIn g.K (.ref D) (.type "BaseException") = some true ∧ PySem.W.hasDictIn g.K D = true ∧ PySem.W.findIn g.K (.ref D) f = some none
def attrXP (f : Str) (ys : List Str) : PV → PM → PK → Prop
  | .ref a, M, k => match M a with
    | some (.exc nm (some fs)) => nm ∈ ys ∧ (match fs.lookup f with
      | some y => k y M
      | none => False)
    | _ => False
  | _, _, _ => False
set_option autoImplicit true in
@[simp] theorem attrXP_s1 : attrXP f ys (.ref a) M k = (match M a with
    | some (.exc nm (some fs)) => nm ∈ ys ∧ (match fs.lookup f with
      | some y => k y M
      | none => False)
    | _ => False) := rfl
@[simp] def qAttrX (f : Str) (ys : List Str) (fe : QE) : QE := fun τ M x k => fe τ M x fun v M1 => attrXP f ys v M1 k
theorem repFs_get {K : Fg} {F : Hp} {f : Str} : ∀ {fs : List (Str × PV)} {gs : List (Str × V)} {y : PV}, RepFs K F fs gs → fs.lookup f = some y → ∃ v, gs.lookup f = some v ∧ Rep K F y v
  | _, _, _, .nil, e => by cases e
  | _, _, y, .cons (k := k) (x := x) (v := v) (xs := xs) (vs := vs) a b, e => by
    have e' : (match f == k with | true => some x | false => List.lookup f xs) = some y := e
    show ∃ w, (match f == k with | true => some v | false => List.lookup f vs) = some w ∧ Rep K F y w
    cases h : f == k with
    | true =>
      rw [h] at e'
      cases e'
      exact ⟨_, rfl, a⟩
    | false =>
      rw [h] at e'
      exact repFs_get b e'
theorem de_attrX {c : Cf} {f : Str} {ys : List Str} {e : Expr} {fe : QE} {pos : Pos} (T : AttrX c.g f ys) (he : DE c e fe) (hb : ∀ env, attributeBase e f env (eval e env) = eval e env := by intro _; rfl) : DE c (.Attribute e f pos) (qAttrX f ys fe) := fun X g B => by
  refine ⟨fun pins s σ H Q I h => ?_⟩
  refine attr_of (hb _) (thn ((he X g B).run pins s σ H (fun v H1 => ∃ F1 p M1, attrXP f ys p M1 (fun y M2 => ∀ F2 u H2, Same F1 F2 → Rel X.K F2 M2 H2 → Rep X.K F2 y u → Q u H2) ∧ Rel X.K F1 M1 H1 ∧ Rep X.K F1 p v) I ?_) fun u s1 hh => ?_)
  · obtain ⟨F, τ, M, x, k, a, hf, tk, hk⟩ := h
    refine ⟨F, τ, M, x, _, a, hf, tk, fun r M' F' v H' h' s' r' e' => ⟨F', r, M', ?_, r', e'⟩⟩
    cases r with
    | ref b =>
      simp only [attrXP_s1] at h' ⊢
      split at h'
      · rename_i nm fs hM
        refine ⟨h'.1, ?_⟩
        have h2 := h'.2
        split at h2
        · rename_i y hy
          exact fun F2 u H2 s2 r2 e2 => hk _ _ _ _ _ h2 (s'.trans s2) r2 e2
        · exact h2.elim
      · exact h'.elim
    | _ => exact h'.elim
  · obtain ⟨v, H1, I1, rv, F1, p, M1, hp, r1, e1⟩ := hh
    cases e1 with
    | ref b =>
      obtain rfl : u = Value.ref b := rv
      simp only [attrXP_s1] at hp
      split at hp
      · rename_i nm fs hM
        obtain ⟨hy, hp⟩ := hp
        split at hp
        · rename_i y hl
          obtain ⟨D, q1, q2, q3, q4, q5, q6⟩ := T.ok nm hy
          obtain ⟨cls, d, w1, w2, w3⟩ := r1.chg _ _ hM
          have ec : cls = .ref D := by
            rw [g.K, q1] at w2
            exact ((Option.some.inj (Option.some.inj w2))).symm
          subst ec
          cases d with
          | none => exact w3.elim
          | some dd =>
            obtain ⟨gs, w4, w5⟩ := w3
            obtain ⟨v, hv, rv2⟩ := repFs_get w5 hl
            obtain ⟨⟨oe, vs, hget, z1, z2, z3⟩, _⟩ := I1.hok b _ w1
            obtain ⟨mA, hns, hr⟩ : ObjOk X.prog X.w H1 s1.heap dd (.xd gs) := I1.hok dd _ (r1.sub _ _ w4)
            obtain ⟨od, ho, hlk⟩ := lookIn_ns hns
            obtain ⟨u, hu, ru⟩ := RelO.some_of (v := v) (o := mA f) (by rw [← hv]; exact hr f)
            have J : PySem.W.InstAt s1.heap b oe D (some od) := ⟨hget, z1, by unfold PySem.W.notCls; rw [z3] <;> rfl, by rw [z2]; exact ho⟩
            refine HandSPX.exc_get I1.kIn J (by rw [g.K]; exact q2) (by rw [g.K]; exact q3) (by rw [g.K]; exact q4) (PySem.W.findObj_own (by rw [g.K]; exact q5) (by rw [g.K]; exact q6) rfl (by rw [hlk, hu])) (handed_of ru) ⟨v, H1, I1.tok _, ru, hp _ _ _ (Same.refl _) r1 rv2⟩
        · exact hp.elim
      · exact hp.elim
    | _ => exact hp.elim
def SupAt (P : Program) (K : Fg) (x f : Str) : Prop := ∃ (B newId initId : String) (tl : List Value) (C fI cc cda : Addr) (msg : Str), PySem.SupX.Kind B newId initId tl ∧ PySem.SupX.SupC B newId initId tl P K C fI cc cda f msg ∧ PySem.SupX.FOk f ∧ PySem.W.nsIn K mainGlobals x = some (some (.ref C))
section
open PySem.W PySem.HandSPX PySem.SupX
theorem sup_at {B newId initId : String} {tl : List Value} {P : Program} {K : Fg} {x f msg : Str} {C fI cc cda : Addr} {nm q qual file : Str} {N : Addr} {bs bm : List Value} {sn : List Str} {sub : List Value} {ab : Bool} {col : Option Bool} {dd : Option Addr} {k0 k1 k2 k3 k5 : Option Value} {oc doc pm ct cl ccl : Value} {od an cld cdd : Option Addr} {osl csl ccs : Array (Option Value)} {vs : Array Value} {tf : Tok} {j : Nat} {p1 p2 r0 r1 r2 r3 r4 r5 q1 q2 q3 q4 : Pos}
    (KD : Kind B newId initId tl) (ns : nsIn K mainGlobals x = some (some (.ref C))) (xL : K.lookup C = some (excClassObj nm q C N bs bm true sn sub ab col dd k0 k1 k2 k3 k5 newId)) (hbm : refsT tl bm = true) (sa : findIn K (.ref C) "__setattr__" = some (some (.builtin "object.__setattr__")))
    (ga : findIn K (.ref C) "__getattribute__" = some (some (.builtin "BaseException.__getattribute__"))) (gg : findIn K (.ref C) "__getattr__" = some none) (noN : findIn K (.ref C) f = some none) (iC : findIn K (.ref C) "__init__" = some (some (.ref fI))) (tC : typeIn K (.ref fI) = some (.type "function"))
    (l1 : K.lookup fI = some ⟨oc, od, .func (ksFn "__init__" qual (iA f p1 p2) (iB f msg j r0 r1 r2 r3 r4 r5 q1 q2 q3 q4) (iS f) .none .none doc pm an (.ref cda) ct cc), osl⟩) (c1 : codeIn K (.ref cda) qual = true) (hp : (r2.endLine == r4.line) = true)
    (cell : K.lookup cc = some ⟨cl, cld, .cell (some (.ref C)), csl⟩) (code : K.lookup cda = some ⟨ccl, cdd, .fields vs, ccs⟩) (hvs : vs[2]? = some (.str file tf)) (hfile : ((P.main.file : Str) == file) = true) (top : (P.main.scope.names.lookup ("super" : Str)).isSome = false)
    (kC : keepIn K (.ref C) = true) (exC : subIn K (.ref C) (.type "BaseException") = some true) (veC : subIn K (.ref C) (.type B) = some true) (tyC : typeIn K (.ref C) = some (.type "type")) (hdC : hasDictIn K C = true) (mro : mroIn K C (.ref C) = some true)
    (sup : ks_superIn K C C "__init__" = some (some (.builtin initId))) (st : nsIn K cStatics "thirdparty.any" = some none) (su : nsIn K mainGlobals "super" = some none) (fo : FOk f) : SupAt P K x f :=
  ⟨B, newId, initId, tl, C, fI, cc, cda, msg, KD, ⟨⟨nm, q, N, bs, bm, sn, sub, ab, col, dd, k0, k1, k2, k3, k5, xL, hbm⟩, sa, ga, gg, noN, iC, tC, kC, exC, veC, tyC, hdC, mro, sup, st, su, ⟨cl, cld, csl, cell⟩, ⟨ccl, cdd, vs, ccs, file, tf, code, hvs, hfile⟩, top, ⟨qual, oc, od, doc, pm, an, ct, osl, j, p1, p2, r0, r1, r2, r3, r4, r5, q1, q2, q3, q4, l1, c1, hp⟩⟩, fo, ns⟩
end
theorem hasS_mk {gd : Bool} {P : Program} {w : World} {K : Fg} {mg : Str → Option Value} {base : Heap} {h : Heap} {x f : Str} (X : K.In h) (G : h.Ns mainGlobals mg) (c : SupAt P K x f) : HasS ⟨P, w, K, mg, base, gd⟩ x f := by
  obtain ⟨B, newId, initId, tl, C, fI, cc, cda, msg, KD, T, fo, ns⟩ := c
  exact ⟨B, newId, initId, tl, C, fI, cc, cda, msg, KD, T, fo, ns, PySem.W.mg_of X G ns, PySem.W.mg_none_of X G T.su⟩
theorem kind_V : PySem.SupX.Kind "ValueError" "ValueError.__new__" "ValueError.__init__" [.type "ValueError", .type "Exception", .type "BaseException", .type "object"] := ⟨PySem.F.excBase_ValueError, PySem.W.kxs_ValueError, PySem.F.store_ValueError.passes, by decide +kernel, rfl⟩
theorem kind_A : PySem.SupX.Kind "ArithmeticError" "ArithmeticError.__new__" "ArithmeticError.__init__" [.type "ArithmeticError", .type "Exception", .type "BaseException", .type "object"] := ⟨PySem.F.excBase_ArithmeticError, PySem.W.kxs_ArithmeticError, PySem.F.store_ArithmeticError.passes, by decide +kernel, rfl⟩
theorem fok_limit : PySem.SupX.FOk "limit" := ⟨by decide, by decide, by decide, by decide, by decide, by decide, fun _ _ _ _ _ _ _ _ _ _ _ _ => rfl⟩
theorem fok_index : PySem.SupX.FOk "index" := ⟨by decide, by decide, by decide, by decide, by decide, by decide, fun _ _ _ _ _ _ _ _ _ _ _ _ => rfl⟩
theorem fok_value : PySem.SupX.FOk "value" := ⟨by decide, by decide, by decide, by decide, by decide, by decide, fun _ _ _ _ _ _ _ _ _ _ _ _ => rfl⟩
theorem fok_part : PySem.SupX.FOk "part" := ⟨by decide, by decide, by decide, by decide, by decide, by decide, fun _ _ _ _ _ _ _ _ _ _ _ _ => rfl⟩
theorem attrX_nil {g : Glb} {f : Str} : AttrX g f [] := ⟨fun _ h => nomatch h⟩
def AttrAt (K : Fg) (f : Str) (ys : List Str) : Prop := ∀ nm ∈ ys, ∃ D, PySem.W.nsIn K mainGlobals nm = some (some (.ref D)) ∧ PySem.W.findIn K (.ref D) "__getattribute__" = some (some (.builtin "BaseException.__getattribute__")) ∧ PySem.W.findIn K (.ref D) "__getattr__" = some none ∧
    PySem.W.subIn K (.ref D) (.type "BaseException") = some true ∧ PySem.W.hasDictIn K D = true ∧ PySem.W.findIn K (.ref D) f = some none
theorem attr_nil {K : Fg} {f : Str} : AttrAt K f [] := fun _ h => nomatch h
theorem attr_cons {K : Fg} {f nm : Str} {D : Addr} {ys : List Str} (a : PySem.W.nsIn K mainGlobals nm = some (some (.ref D))) (b : PySem.W.findIn K (.ref D) "__getattribute__" = some (some (.builtin "BaseException.__getattribute__"))) (c : PySem.W.findIn K (.ref D) "__getattr__" = some none)
    (d : PySem.W.subIn K (.ref D) (.type "BaseException") = some true) (e : PySem.W.hasDictIn K D = true) (h : PySem.W.findIn K (.ref D) f = some none) (r : AttrAt K f ys) : AttrAt K f (nm :: ys) := fun z hz => by
  rcases List.mem_cons.mp hz with q | q
  · subst q; exact ⟨D, a, b, c, d, e, h⟩
  · exact r z q
theorem attrX_mk {gd : Bool} {P : Program} {w : World} {K : Fg} {mg : Str → Option Value} {base : Heap} {f : Str} {ys : List Str} (h : AttrAt K f ys) : AttrX ⟨P, w, K, mg, base, gd⟩ f ys := ⟨h⟩
end Q
namespace Q
open PySem PySem.Spec PyProof.Rows L2
/-! ### one sign in a text -/
def opInS (neg : Bool) : Q2 := fun x y M k => ∃ (c : Nat) (z : Str), x = .str ⟨#[c]⟩ ∧ y = .str z ∧ k (.bl (if neg then !decide (c ∈ z.cps.toList) else decide (c ∈ z.cps.toList))) M
theorem oq_inS {c : Cf} : OQ c (compareOp .In) (opInS false) := fun X g pins s σ H x y v u Q I rx ry h => by
  obtain ⟨F, p, q, M, k, R, ep, eq_, ⟨ch, z, rfl, rfl, ho⟩, hk⟩ := h
  cases ep; cases eq_
  exact op_in_sign pins s σ H _ _ v u Q I rx ry ⟨ch, z, rfl, rfl, hk _ _ _ _ _ ho (Same.refl _) R (.bl _)⟩
theorem oq_notinS {c : Cf} : OQ c (compareOp .NotIn) (opInS true) := fun X g pins s σ H x y v u Q I rx ry h => by
  obtain ⟨F, p, q, M, k, R, ep, eq_, ⟨ch, z, rfl, rfl, ho⟩, hk⟩ := h
  cases ep; cases eq_
  exact op_notIn_sign pins s σ H _ _ v u Q I rx ry ⟨ch, z, rfl, rfl, hk _ _ _ _ _ ho (Same.refl _) R (.bl _)⟩
end Q
/-! a lambda without parameters, handed to a def of the module that calls it -/
namespace L2
open PySem PySem.Spec PyProof.Rows Q LamX
section
variable {X : Cx} {pins : List (Addr × Obj)} {σ : L2.St} {H : Hp} {s : Shared}
theorem lam_makeQ {c P : Addr} {ps : Array Value} {params : Arguments} {body : Expr} {scope : Scope} {pos : Pos} {E : Value → Shared → Prop} {Q : Value → Shared → Prop} (I : Inv X pins σ H s) (TB : TabB X.base X.mg c P) (hcode : X.env.code = .ref c)
    (hP : H P = some (.tbl ps)) (ht : TriplesOk ps.toList) (ha : ∀ (pos : Pos) (cv : Value), codeAmong pos ps.toList = some cv → ∃ c, cv = .ref c ∧ H c = some (CodeO c (X.env.qual ++ "<lambda>"))) (hdef : defaultsOf params X.env = ([], [])) (hfree : ∀ y ∈ scope.names, y.2 = .free → ∃ c, X.env.cells.lookup y.1 = some c)
    (hit : ∀ (f c' : Addr) (pm ctv : Value) (s' : Shared), codeAmong pos ps.toList = some (.ref c') → Inv X pins σ H s' → s'.heap.get? f = some (PySem.W.kla_obj "<lambda>" (X.env.qual ++ "<lambda>") params body scope (cloFrom X.env.cells scope.names []) pm c' ctv) → H f = none → f ∉ frs X.stack → Q (.ref f) s')
    (new : ∀ (f c' : Addr) (pm ctv : Value) (s' : Shared), H c' = none → Inv X pins σ (upd (upd H P (.tbl (ps ++ #[rawInt pos.line, rawInt pos.col, .ref c']))) c' (CodeO c' (X.env.qual ++ "<lambda>"))) s' → s'.heap.get? f = some (PySem.W.kla_obj "<lambda>" (X.env.qual ++ "<lambda>") params body scope (cloFrom X.env.cells scope.names []) pm c' ctv) →
      upd (upd H P (.tbl (ps ++ #[rawInt pos.line, rawInt pos.col, .ref c']))) c' (CodeO c' (X.env.qual ++ "<lambda>")) f = none → f ∉ frs X.stack → Q (.ref f) s') :
    wpAny (model X.prog X.w) X.A (eval (.Lambda params body scope pos) X.env) Q E s := by
  refine PySem.W.kla_eval hdef ?_
  have bP : s.heap.BuiltinsAt X.mg P := TB.bm.keeps I.bk
  have hP' : s.heap.get? P = some { cls := .none, data := .fields ps } := I.hok P _ hP
  have nofr : ∀ f, s.heap.objs.size ≤ f → f ∉ frs X.stack := fun f hf z => by
    rcases List.mem_cons.mp (I.stkSub _ z) with e | e
    · have h1 := I.lt
      rw [← e] at h1
      exact Nat.lt_irrefl _ (Nat.lt_of_lt_of_le h1 hf)
    · exact I.nofs hf e
  cases hc : codeAmong pos ps.toList with
  | none =>
    refine PySem.W.kla_makeFunction (mg := X.mg) (c := c) (P := P) (ps := ps) (closure_ok hfree) I.ok.glob (I.mod.glob.keeps I.bk) hcode (TB.code.keeps I.bk) hP' ht hc TB.gP bP fun c' ctv h' tk hx hge hlt hrec htb => ?_
    obtain ⟨c2, oc, vs, t, e2, hoc, hd, hv⟩ := hrec
    cases e2
    have hsz : s.heap.objs.size ≤ h'.objs.size := Nat.le_trans hge (Nat.le_of_lt hlt)
    have nC : H c' = none := I.hok.fresh hge
    have I1 := inv_table (t' := tk) (more := #[rawInt pos.line, rawInt pos.col, .ref c']) (h' := h'.push (PySem.W.kla_obj "<lambda>" (X.env.qual ++ "<lambda>") params body scope (cloFrom X.env.cells scope.names []) ((X.mg "__name__").getD .none) c' ctv)) I hP
      (fun b o hb e => Heap.get?_push_of_some _ (hx b o hb e)) (Heap.get?_push_of_some _ htb) hge ⟨oc, vs, t, Heap.get?_push_of_some _ hoc, hd, hv⟩
    refine new h'.objs.size c' ((X.mg "__name__").getD .none) ctv _ nC I1 (Heap.get?_push_size _ rfl) ?_ (nofr _ hsz)
    have n1 : h'.objs.size ≠ c' := Nat.ne_of_gt hlt
    have n2 : h'.objs.size ≠ P := Nat.ne_of_gt (Nat.lt_of_lt_of_le (Heap.lt_size hP') hsz)
    rw [upd_ne n1, upd_ne n2]
    exact I.hok.fresh hsz
  | some cv =>
    obtain ⟨c', e, hco⟩ := ha pos cv hc
    subst e
    refine PySem.W.kla_makeFunctionHit (mg := X.mg) (c := c) (P := P) (ps := ps) (closure_ok hfree) I.ok.glob (I.mod.glob.keeps I.bk) hcode (TB.code.keeps I.bk) hP' ht hc bP fun ctv h' tk hx hsz => ?_
    have I1 : Inv X pins σ H { s with heap := h'.push (PySem.W.kla_obj "<lambda>" (X.env.qual ++ "<lambda>") params body scope (cloFrom X.env.cells scope.names []) ((X.mg "__name__").getD .none) c' ctv), toks := tk } := I.kept fun b o e => Heap.get?_push_of_some _ (hx b o e)
    exact hit h'.objs.size c' ((X.mg "__name__").getD .none) ctv _ hc I1 (Heap.get?_push_size _ rfl) (I.hok.fresh hsz) (nofr _ hsz)
end
section
variable {X : Cx} {pins : List (Addr × Obj)} {σ : L2.St} {H HZ : Hp} {s s1 : Shared}
/-- x(), in the def that got the lambda -/
theorem pe_actQ {CXg : CXT} {Eg : XK} {Ng : List Str} {qg : Str} {sg : Scope} {g f c' : Addr} {cdg pm ctv : Value} {params : Arguments} {body : Expr} {scope : Scope} {k i : Nat} {a : Str} {pn : List (Addr × Obj)} {xe : Value → Shared → Prop} {W : WX} {E : XK} {tb : TE} {p1 p2 : Pos}
    (I : Inv X pins σ H s) (L : LamS X.env.scope scope) (hf : s.heap.get? f = some (PySem.W.kla_obj "<lambda>" (X.env.qual ++ "<lambda>") params body scope (cloFrom X.env.cells scope.names []) pm c' ctv)) (hfn : H f = none) (hfr : f ∉ frs X.stack) (hgu : X.A.guards = some [])
    (hbind : bindArgs (PySem.W.kla_fn "<lambda>" (X.env.qual ++ "<lambda>") params body scope (cloFrom X.env.cells scope.names []) pm (.ref c') ctv) ⟨[], []⟩ = pure [])
    (tk : Takes ((cxOf CXg X.prog X.w X.K X.mg X.base Ng qg sg g cdg X.A X.stack s H Eg).tr pn xe) W) (hW : ∀ cls d σ' H', σ'.length = Ng.length → E cls d H' → W cls d σ' H') (hr : Room (k + 1) (X.A.deeper (envOfC qg sg s.heap.objs.size g cdg)))
    (hbody : ∀ (A : Around) (outer : List Env) (s : Shared) (H : Hp), A.guards = some [] → Room k (A.deeper (lamEnv X scope s.heap.objs.size f c')) → PE (lamCx X A outer s H E scope f c') body tb)
    (hN : Ng[i]? = some a) (hv : Vis sg a) (hd : (a == ("__debug__" : Str)) = false := by decide) (hcd : (a == ("__classdict__" : Str)) = false := by decide) :
    PE ((cxOf CXg X.prog X.w X.K X.mg X.base Ng qg sg g cdg X.A X.stack s H Eg).tr pn xe) (.Call (.Name a p1) [] [] p2)
      (fun σZ HZ Q => σZ[i]? = some (some (.ref f)) ∧ HZ c' = some (CodeO c' (X.env.qual ++ "<lambda>")) ∧ tb σ HZ Q) := by
  refine ⟨fun pinsZ sZ σZ HZ Q IZ h => ?_⟩
  obtain ⟨hs, hc, ht⟩ := h
  refine wpAny_Call_Name_kw (thn ((pe_var (pos := p1) (i := i) hN hv hd hcd).run pinsZ sZ σZ HZ (fun v H1 => v = .ref f ∧ H1 = HZ) IZ ⟨.ref f, hs, rfl, rfl⟩) fun u s1 ⟨v, H1, I1, r1, q1⟩ => ?_)
  obtain ⟨ev, eH⟩ := q1
  subst ev
  rw [eH] at I1
  obtain rfl : u = Value.ref f := r1
  have of1 : s1.heap.get? f = some (PySem.W.kla_obj "<lambda>" (X.env.qual ++ "<lambda>") params body scope (cloFrom X.env.cells scope.names []) pm c' ctv) := I1.base.keep f _ hf hfn hfr (fun z => nomatch (show f ∈ ([] : List Addr) from z))
  refine PySem.W.callWith_F0 ⟨_, _, _, _, of1⟩ ?_
  have un : Un (frs X.stack) [] H HZ s.heap s1.heap := I1.base
  obtain ⟨⟨oc, vs, t, hoc, hdc, hvc⟩, _, _⟩ := I1.hok c' _ hc
  have rc : codeAny (model X.prog X.w) (X.A.deeper (envOfC qg sg s.heap.objs.size g cdg)) (.call (.ref f) ⟨[], []⟩) (CR (L2.CX X.prog X.w) (envOfC qg sg s.heap.objs.size g cdg :: X.stack) X.prog X.w HZ s1 Q E) s1 := by
    refine PySem.W.kla_callFunE hr.depth of1 rfl L.co L.gen rfl ⟨c', oc, vs, t, rfl, hoc, hdc, hvc⟩ ?_
    rw [hbind]
    refine wpAny_pure (wpAny_newFunctionEnv (fun y hy => (L.own y hy).2) (fun y hy => absurd hy (by simp)) (fun h₁ hns hsb => ⟨I1.nolimit.fresh _ hsb, ?_⟩) L.kind)
    show codeAny _ _ (.expr body (lamEnv X scope s1.heap.objs.size f c')) _ _
    have kp : ∀ b o, s1.heap.get? b = some o → h₁.get? b = some o := fun b o e => hsb.extBut b o (Nat.ne_of_lt (Heap.lt_size e)) (Heap.get?_push_of_some _ e)
    have J : Inv (lamCx X (X.A.deeper (envOfC qg sg s.heap.objs.size g cdg)) (envOfC qg sg s.heap.objs.size g cdg :: X.stack) s1 HZ E scope f c') [] σ HZ { s1 with heap := h₁, toks := s1.toks + ([] : List (Str × Value)).length } :=
      lam_start2 I L I1.env0 hr.hd un hns kp
    refine PySem.W.kla_codeExpr (wpAny_mono ((hbody (X.A.deeper (envOfC qg sg s.heap.objs.size g cdg)) _ s1 HZ (show (X.A.deeper (envOfC qg sg s.heap.objs.size g cdg)).guards = some [] from hgu) (hr.deeper _)).run [] _ _ HZ Q J ht) (fun v s' hq => ?_) fun e s' hq => hq)
    obtain ⟨w', H', J', rv, q⟩ := hq
    exact ⟨w', H', J'.os, J'.bare, J'.base, J'.hok, rv, q⟩
  have hx : ∀ e s', L2.CX X.prog X.w (envOfC qg sg s.heap.objs.size g cdg :: X.stack) HZ s1 E e s' → ((cxOf CXg X.prog X.w X.K X.mg X.base Ng qg sg g cdg X.A X.stack s H Eg).tr pn xe).xe e s' := fun e s' c => tk e s' (XE.of_call I1 (fun cls d H' h => hW cls d σZ H' I1.len h) c)
  refine wpAny_call (codeAny_mono rc fun r s' hq => ?_)
  cases r with
  | error e => exact hx e s' hq
  | ok fl =>
    cases fl with
    | ret u => exact I1.after hq
    | next => exact False.elim hq
    | brk => exact False.elim hq
    | cont => exact False.elim hq
end
end L2
namespace Q
open PySem PySem.Spec PyProof.Rows L2 LamX
/-! ### the lambda's reading, the hole -/
/-- what a lambda does, at the slots of its maker -/
abbrev QH := PM → PX → PK → Prop
def lH (K : Fg) (B : Hp) (t : QH) : XK → Hp → VK → Prop := fun E H Q => ∃ F M x k, Same B F ∧ Rel K F M H ∧ t M x k ∧ (∀ e M' F' cls d H', x e M' → Same F F' → Rel K F' M' H' → ExRep K F' e cls d → E cls d H') ∧
  ∀ r M' F' v H', k r M' → Same F F' → Rel K F' M' H' → Rep K F' r v → Q v H'
/-- Z: the context of the def that got the lambda at f (its code object at c') in its slot 0 -/
def HoleAt (Z : Cx) (a : Str) (f c' : Addr) (q : Str) (B : Hp) (t : QH) : Prop := ∀ (W : WX) (pn : List (Addr × Obj)) (xe : Value → Shared → Prop) (E : XK) (p1 p2 : Pos), Takes (Z.tr pn xe) W → (∀ cls d σ' H', σ'.length = Z.N.length → E cls d H' → W cls d σ' H') →
  PE (Z.tr pn xe) (.Call (.Name a p1) [] [] p2) (fun σZ HZ Q => σZ[0]? = some (some (.ref f)) ∧ HZ c' = some (CodeO c' q) ∧ lH Z.K B t E HZ Q)
/-- try: a() (or n = a()); except (X1, X2, X3) as e: y = e -/
def qToldH (i j n : Nat) (ys : List Str) (f : Addr) (t : QH) (nx : PEnds → Tau → PV → PM → Prop) : QS := fun d τ M => τ[0]? = some (some (.ref f)) ∧
  t M (fun e M' => e.nm ∈ ys ∧ ∀ a, M' a = none → d.nx ((((List.replicate n none).set i (some (.ref a))).set j (some (.ref a))).set i none) (updM M' a (.exc e.nm e.fs))) (fun v M' => nx d τ v M')
theorem srel_none {K : Fg} {F : Hp} {σ : L2.St} {n : Nat} (h : σ.length = n) : SRel K F (List.replicate n none) σ := ⟨by simp [h], fun i x e => by
  rw [List.getElem?_replicate] at e
  split at e <;> cases e⟩
theorem pz_cons {Z : Cx} {B : Hp} {st : Stmt} {rest : List Stmt} {f g : QS} (h1 : PS Z st (lS Z B f)) (h2 : PSs Z rest (lS Z B g)) : PSs Z (st :: rest) (lS Z B (qSeq f g)) := by
  refine (pss_cons h1 h2).im fun D σ H => ?_
  rintro ⟨F, τ, M, d, a, hf, tk, hd⟩
  refine ⟨F, τ, M, _, a, hf, tk, ⟨fun τ' M' F' σ' H' q s r sr => ?_, hd.rt, hd.bk, hd.ct⟩⟩
  exact ⟨F', τ', M', d, ⟨a.b.trans s, r, sr⟩, q, tk, hd.mono s⟩
theorem ps_toldH {c : Cf} {Z : Cx} (gd : GoodS c Z) {B : Hp} (i j n : Nat) {x1 x2 x3 nm y a : Str} {ys : List Str} {f c' : Addr} {q : Str} {t : QH} {kk : Nat} {b1 b2 b3 p1 p2 p3 tp p4 p5 p6 pos pos' : Pos} (hN : c.N.Nodup) (h : HasT c.g x1 x2 x3 ys) (ho : HoleAt Z a f c' q B t) (hB : B c' = some (CodeO c' q)) (hn : c.N.length = n := by rfl) (hi : c.N[i]? = some nm := by rfl) (hj : c.N[j]? = some y := by rfl)
    (hln : c.sc.names.lookup nm = some .local := by rfl) (hly : c.sc.names.lookup y = some .local := by rfl) (g1 : c.sc.names.lookup x1 = some .globalImplicit := by rfl) (g2 : c.sc.names.lookup x2 = some .globalImplicit := by rfl) (g3 : c.sc.names.lookup x3 = some .globalImplicit := by rfl)
    (d1 : (x1 == ("__debug__" : Str)) = false := by decide) (d2 : (x2 == ("__debug__" : Str)) = false := by decide) (d3 : (x3 == ("__debug__" : Str)) = false := by decide) (dn : (nm == ("__debug__" : Str)) = false := by decide) (dc : (nm == ("__classdict__" : Str)) = false := by decide) :
    PS Z (.Try [.Expr (.Call (.Name a b1) [] [] b2) b3] [.ExceptHandler (some (.Tuple [.Name x1 p1, .Name x2 p2, .Name x3 p3] kk tp)) (some nm) [.Assign [.Name y p4] (.Name nm p5) p6] pos'] [] [] pos) (lS Z B (qToldH i j n ys f t fun d τ _ M' => d.nx τ M')) := by
  obtain ⟨c1, c2, c3, m1, m2, m3, ht⟩ := h.ok
  have kl : ∀ {z : Str} {k : NameKind}, c.sc.names.lookup z = some k → Z.env.kindOf z = some k := fun {z k} e => by
    show List.lookup z Z.env.scope.names = _
    rw [gd.sc]; exact e
  have nmz : ∀ {z : Str} {v : Value}, c.sc.names.lookup z = some .globalImplicit → (z == ("__debug__" : Str)) = false → c.g.mg z = some v → Names Z z v := fun {z v} a b e => ⟨gl_of gd.sc a, b, .inl (by rw [gd.mg]; exact e)⟩
  refine (ps_told (X := Z) (i := i) (j := j) (tb := fun W D σ H => ∃ Ech : XK, (∀ cls d σ' H', σ'.length = Z.N.length → Ech cls d H' → W cls d σ' H') ∧ σ[0]? = some (some (.ref f)) ∧ H c' = some (CodeO c' q) ∧ lH Z.K B t Ech H (fun _ H' => D.nx σ H'))
    gd.stk gd.fr gd.ex (by rw [gd.N]; exact hN) (by rw [gd.N]; exact hi) (by rw [gd.N]; exact hj) (kl hln) (kl hly) (nmz g1 d1 m1) (nmz g2 d2 m2) (nmz g3 d3 m3) dn dc ?_).im fun D σ H => ?_
  · intro W pn xe tk ps
    refine ⟨fun pins s σ H D I hw => ?_⟩
    obtain ⟨E, hW, h1, h2, h3⟩ := hw
    exact (pss_one (ps_expr (ho W pn xe E b1 b2 tk hW) (by rfl))).run pins s σ H D I ⟨h1, h2, h3⟩
  · rintro ⟨F, τ, M, d, a, ⟨hf, ht0⟩, tk, hd⟩
    obtain ⟨v, e1, e2⟩ := a.s.at_ 0 _ hf
    cases e2
    refine ⟨fun cls dd H' => ∃ F' M' e, Same F F' ∧ Rel Z.K F' M' H' ∧ ExRep Z.K F' e cls dd ∧ e.nm ∈ ys ∧ ∀ a, M' a = none → d.nx ((((List.replicate n none).set i (some (.ref a))).set j (some (.ref a))).set i none) (updM M' a (.exc e.nm e.fs)), fun cls dd σ' H' hl hx => ?_, e1, a.r.sub _ _ (a.b _ _ hB), F, M, _, _, a.b, a.r, ht0, fun e M' F' cls dd H' hx s' r' er => ⟨F', M', e, s', r', er, hx.1, hx.2⟩, fun r M' F' v H' hk s' r' e' => hd.nx _ _ _ _ _ hk s' r' (a.s.mono s')⟩
    obtain ⟨F', M', e, s1, r1, er, hy, hk⟩ := hx
    obtain ⟨cls', q1, q2⟩ := ht _ hy
    have ec : cls = cls' := by
      have z := er.1
      rw [gd.K, q1] at z
      exact ((Option.some.inj (Option.some.inj z))).symm
    subst ec
    refine ⟨by rw [gd.K]; exact q2, fun x hx => ?_⟩
    have hFM := r1.fresh hx
    have sr1 : SRel Z.K F' (List.replicate n none) σ' := srel_none (by rw [hl, gd.N, hn])
    refine hd.nx _ _ _ _ _ (hk x hFM.2) s1 (r1.put hFM.1 (fun y z => by rw [hx] at z; cases z) ⟨cls, dd, upd_same, er.1, er.2⟩) (((sr1.set (.ref x) i).set (.ref x) j).unset i)
theorem ps_toldHA {c : Cf} {Z : Cx} (gd : GoodS c Z) {B : Hp} (kx i j n : Nat) {x0 x1 x2 x3 nm y a : Str} {ys : List Str} {f c' : Addr} {q : Str} {t : QH} {kk : Nat} {b0 b1 b2 b3 p1 p2 p3 tp p4 p5 p6 pos pos' : Pos} (hN : c.N.Nodup) (h : HasT c.g x1 x2 x3 ys) (ho : HoleAt Z a f c' q B t) (hB : B c' = some (CodeO c' q)) (hn : c.N.length = n := by rfl) (hk0 : c.N[kx]? = some x0 := by rfl) (hl0 : c.sc.names.lookup x0 = some .local := by rfl) (hi : c.N[i]? = some nm := by rfl) (hj : c.N[j]? = some y := by rfl)
    (hln : c.sc.names.lookup nm = some .local := by rfl) (hly : c.sc.names.lookup y = some .local := by rfl) (g1 : c.sc.names.lookup x1 = some .globalImplicit := by rfl) (g2 : c.sc.names.lookup x2 = some .globalImplicit := by rfl) (g3 : c.sc.names.lookup x3 = some .globalImplicit := by rfl)
    (d1 : (x1 == ("__debug__" : Str)) = false := by decide) (d2 : (x2 == ("__debug__" : Str)) = false := by decide) (d3 : (x3 == ("__debug__" : Str)) = false := by decide) (dn : (nm == ("__debug__" : Str)) = false := by decide) (dc : (nm == ("__classdict__" : Str)) = false := by decide) :
    PS Z (.Try [.Assign [.Name x0 b0] (.Call (.Name a b1) [] [] b2) b3] [.ExceptHandler (some (.Tuple [.Name x1 p1, .Name x2 p2, .Name x3 p3] kk tp)) (some nm) [.Assign [.Name y p4] (.Name nm p5) p6] pos'] [] [] pos) (lS Z B (qToldH i j n ys f t fun d τ v M' => d.nx (τ.set kx (some v)) M')) := by
  obtain ⟨c1, c2, c3, m1, m2, m3, ht⟩ := h.ok
  have kl : ∀ {z : Str} {k : NameKind}, c.sc.names.lookup z = some k → Z.env.kindOf z = some k := fun {z k} e => by
    show List.lookup z Z.env.scope.names = _
    rw [gd.sc]; exact e
  have nmz : ∀ {z : Str} {v : Value}, c.sc.names.lookup z = some .globalImplicit → (z == ("__debug__" : Str)) = false → c.g.mg z = some v → Names Z z v := fun {z v} a b e => ⟨gl_of gd.sc a, b, .inl (by rw [gd.mg]; exact e)⟩
  refine (ps_told (X := Z) (i := i) (j := j) (tb := fun W D σ H => ∃ Ech : XK, (∀ cls d σ' H', σ'.length = Z.N.length → Ech cls d H' → W cls d σ' H') ∧ σ[0]? = some (some (.ref f)) ∧ H c' = some (CodeO c' q) ∧ lH Z.K B t Ech H (fun v H' => D.nx (σ.set kx (some v)) H'))
    gd.stk gd.fr gd.ex (by rw [gd.N]; exact hN) (by rw [gd.N]; exact hi) (by rw [gd.N]; exact hj) (kl hln) (kl hly) (nmz g1 d1 m1) (nmz g2 d2 m2) (nmz g3 d3 m3) dn dc ?_).im fun D σ H => ?_
  · intro W pn xe tk ps
    refine ⟨fun pins s σ H D I hw => ?_⟩
    obtain ⟨E, hW, h1, h2, h3⟩ := hw
    exact (pss_one (ps_set (i := kx) (by show Z.N.Nodup; rw [gd.N]; exact hN) (by show Z.N[kx]? = _; rw [gd.N]; exact hk0) (by show Loc Z.env.scope x0; rw [gd.sc]; exact .inl hl0) (ho W pn xe E b1 b2 tk hW) (by rfl) (.inl (by show Z.fn x0 = true; rw [gd.fn])))).run pins s σ H D I ⟨h1, h2, h3⟩
  · rintro ⟨F, τ, M, d, a, ⟨hf, ht0⟩, tk, hd⟩
    obtain ⟨v, e1, e2⟩ := a.s.at_ 0 _ hf
    cases e2
    refine ⟨fun cls dd H' => ∃ F' M' e, Same F F' ∧ Rel Z.K F' M' H' ∧ ExRep Z.K F' e cls dd ∧ e.nm ∈ ys ∧ ∀ a, M' a = none → d.nx ((((List.replicate n none).set i (some (.ref a))).set j (some (.ref a))).set i none) (updM M' a (.exc e.nm e.fs)), fun cls dd σ' H' hl hx => ?_, e1, a.r.sub _ _ (a.b _ _ hB), F, M, _, _, a.b, a.r, ht0, fun e M' F' cls dd H' hx s' r' er => ⟨F', M', e, s', r', er, hx.1, hx.2⟩, fun r M' F' v H' hk s' r' e' => hd.nx _ _ _ _ _ hk s' r' ((a.s.mono s').set e' kx)⟩
    obtain ⟨F', M', e, s1, r1, er, hy, hk⟩ := hx
    obtain ⟨cls', q1, q2⟩ := ht _ hy
    have ec : cls = cls' := by
      have z := er.1
      rw [gd.K, q1] at z
      exact ((Option.some.inj (Option.some.inj z))).symm
    subst ec
    refine ⟨by rw [gd.K]; exact q2, fun x hx => ?_⟩
    have hFM := r1.fresh hx
    have sr1 : SRel Z.K F' (List.replicate n none) σ' := srel_none (by rw [hl, gd.N, hn])
    refine hd.nx _ _ _ _ _ (hk x hFM.2) s1 (r1.put hFM.1 (fun y z => by rw [hx] at z; cases z) ⟨cls, dd, upd_same, er.1, er.2⟩) (((sr1.set (.ref x) i).set (.ref x) j).unset i)
/-! ### x(lambda: body) -/
theorem mrep_keep {K : Fg} {F F' H H' : Hp} {a : Addr} {o : MO} (s : Same F F') (e : ∀ b, b = a ∨ H b = some (.own a) → H' b = H b) (h : MRep K F H a o) : MRep K F' H' a o := by
  have ea := e a (.inl rfl)
  cases o with
  | lst xs => obtain ⟨vs, e1, e2⟩ := h; exact ⟨vs, by rw [ea]; exact e1, e2.mono s⟩
  | dK xs => obtain ⟨vs, e1, e2⟩ := h; exact ⟨vs, by rw [ea]; exact e1, e2.mono s⟩
  | ins C xs => obtain ⟨dx, vs, e1, e2, e3⟩ := h; exact ⟨dx, vs, by rw [ea]; exact e1, e2.mono s, by rw [e dx (.inr e3)]; exact e3⟩
  | exc nm fs => obtain ⟨c, d, e1, e2, e3⟩ := h; exact ⟨c, d, by rw [ea]; exact e1, e2, e3.mono s⟩
  | tab x =>
    obtain ⟨e0, ps, e1, e2, e3⟩ := h
    refine ⟨e0, ps, by rw [ea]; exact e1, e2, fun pos cv hc => ?_⟩
    obtain ⟨c, q1, q2⟩ := e3 pos cv hc
    exact ⟨c, q1, s _ _ q2⟩
theorem rel_tab {K : Fg} {F : Hp} {M : PM} {H : Hp} (r : Rel K F M H) {P c' : Addr} {m : Str} {ps : Array Value} {pos : Pos} (hP : M P = some (.tab m)) (e1 : H P = some (.tbl ps)) (ht : TriplesOk ps.toList) (hn : H c' = none) :
    Rel K (upd F c' (CodeO c' (lamQ m))) M (upd (upd H P (.tbl (ps ++ #[rawInt pos.line, rawInt pos.col, .ref c']))) c' (CodeO c' (lamQ m))) ∧ Same F (upd F c' (CodeO c' (lamQ m))) := by
  have hF := (r.fresh hn).1
  have hFP := r.dis P _ hP
  have hS : Same F (upd F c' (CodeO c' (lamQ m))) := fun b u e => by rw [upd_ne (ne_of_none e hF)]; exact e
  have nPc : P ≠ c' := fun z => by rw [z, hn] at e1; cases e1
  refine ⟨⟨fun b u e => ?_, fun a o e => ?_, fun a o e => ?_⟩, hS⟩
  · by_cases hb : b = c'
    · subst hb
      rw [upd_same] at e ⊢
      exact e
    · rw [upd_ne hb] at e ⊢
      rw [upd_ne (ne_of_none e hFP)]
      exact r.sub b u e
  · have : a ≠ c' := fun z => by
      obtain ⟨w, q⟩ := (r.chg a o e).some
      rw [z, hn] at q; cases q
    rw [upd_ne this]
    exact r.dis a o e
  · have z := r.chg a o e
    by_cases ha : a = P
    · subst ha
      rw [hP] at e
      cases e
      obtain ⟨e0, ps', q1, q2, q3⟩ := z
      rw [e1] at q1
      cases q1
      refine ⟨e0, _, by rw [upd_ne nPc, upd_same], by simpa using PySem.TriplesOk_snoc _ _ _ _ ht, fun pos' cv hc => ?_⟩
      have eL : (ps ++ #[rawInt pos.line, rawInt pos.col, .ref c']).toList = ps.toList ++ [rawInt pos.line, rawInt pos.col, .ref c'] := by simp
      rw [eL] at hc
      rcases among_app _ ht hc with w | w
      · obtain ⟨c, w1, w2⟩ := q3 pos' cv w
        exact ⟨c, w1, hS _ _ w2⟩
      · exact ⟨c', w, upd_same⟩
    · refine mrep_keep hS (fun b hb => ?_) z
      obtain ⟨w, q⟩ := z.some
      rcases hb with rfl | hb
      · have : b ≠ c' := fun z => by rw [z, hn] at q; cases q
        rw [upd_ne this, upd_ne ha]
      · have n1 : b ≠ c' := fun z => by rw [z, hn] at hb; cases hb
        have n2 : b ≠ P := fun z => by rw [z, e1] at hb; cases hb
        rw [upd_ne n1, upd_ne n2]
/-- a def that calls what it gets -/
abbrev PSpH := QH → PM → PK → PX → Prop
def HasH (g : Glb) (x : Str) (k : Nat) (T : PSpH) : Prop := ∃ (fa : Addr) (qual : Str) (sg : Scope) (Ng : List Str) (cdg : Value) (a : Str), g.mg x = some (.ref fa) ∧ PySem.W.keepIn g.K (.ref fa) = true ∧ Ng[0]? = some a ∧ Vis sg a ∧ (a == ("__debug__" : Str)) = false ∧ (a == ("__classdict__" : Str)) = false ∧
  ∀ (A : Around) (outer : List Env) (s : Shared) (H : Hp) (f c' : Addr) (q : Str) (t : QH) (F : Hp) (M : PM) (kk : PK) (ex : PX) (Q : VK) (E : XK), Room k A → A.guards = some [] → Env0 g.P g.w g.K g.mg g.base A outer s H →
    HoleAt (cxOf (L2.CX g.P g.w) g.P g.w g.K g.mg g.base Ng qual sg fa cdg A outer s H E) a f c' q F t → F c' = some (CodeO c' q) → Rel g.K F M H → T t M kk ex →
    (∀ r M' F' v H', kk r M' → Same F F' → Rel g.K F' M' H' → Rep g.K F' r v → Q v H') → (∀ e M' F' cls d H', ex e M' → Same F F' → Rel g.K F' M' H' → ExRep g.K F' e cls d → E cls d H') →
    codeAny (model g.P g.w) A (.call (.ref fa) ⟨[.ref f], []⟩) (CR (L2.CX g.P g.w) outer g.P g.w H s Q E) s
theorem hasH_fn {g : Glb} {x qual a : Str} {st : Stmt} {fa : Addr} {fd : FuncData} {N : List Str} {k : Nat} {T : PSpH} {fb : Addr → QH → QS} (F : Fun g.K x qual st fa fd) (hm : g.mg x = some (.ref fa)) (S : FnScope N [a] (defScope st)) (b : Binds g.K fd [a] [])
    (hN : N[0]? = some a) (hv : Vis (defScope st) a) (hd : (a == ("__debug__" : Str)) = false) (hcd : (a == ("__classdict__" : Str)) = false)
    (hb : ∀ Z, GoodS ⟨g, N, defScope st, k, none⟩ Z → ∀ B f c' q t, HoleAt Z a f c' q B t → B c' = some (CodeO c' q) → PSs Z (defBody st) (lS Z B (fb f t)))
    (spec : ∀ f t M kk ex, T t M kk ex → fb f t { nx := fun _ M' => kk .non M', rt := kk, ex := fun e _ M' => ex e M' } (startQ N [.ref f]) M) : HasH g x (k + 1) T := by
  obtain ⟨oc, od, kV, doc, pm, an, cdv, ct, osl, rfl, lk, hcd'⟩ := F.ex
  refine ⟨fa, qual, defScope st, N, cdv, a, hm, F.kp, hN, hv, hd, hcd, fun A outer s H f c' q t F0 M kk ex Q E hr hg e0 ho hc R hT hq hx => ?_⟩
  refine run_ofS (N := N) (ps := [a]) (us := [.ref f]) (vs := [.ref f]) lk hcd' S hr e0 (b s [.ref f] (e0.mod.kin.keeps fun b o e => (e0.bs b o e).1) rfl) (.cons rfl .nil) rfl fun hr' => ?_
  refine ⟨_, hb _ ⟨⟨rfl, rfl, rfl, rfl, rfl, rfl, rfl, hr', rfl, fun _ => hg, fun _ e => (nomatch e)⟩, rfl, rfl, rfl, rfl, passes_of rfl⟩ F0 f c' q t ho hc, F0, startQ N [.ref f], M, _, ⟨Same.refl _, R, SRel.start (.cons (.ref f) .nil)⟩, spec f t M kk ex hT, ?_, ?_⟩
  · refine (takes_of (E := E) rfl rfl rfl rfl).imp fun cls d σ H' => ?_
    rintro ⟨F', τ', M', e, s', r', sr', er, he⟩
    exact hx e M' F' cls d H' he s' r' er
  · exact ⟨fun τ' M' F' σ' H' h' s' r' _ => hq _ _ _ _ _ h' s' r' .non, fun r M' F' v H' h' s' r' e' => hq _ _ _ _ _ h' s' r' e', fun _ _ _ _ _ z => z.elim, fun _ _ _ _ _ z => z.elim⟩
@[simp] def qLam (m : Str) (fb : QE) (T : PSpH) : QE := fun τ M x k => (∃ P, M P = some (.tab m)) ∧ T (fun M' x' k' => fb τ M' x' k') M k x
theorem de_lam {c : Cf} {m x : Str} {k kl : Nat} {T : PSpH} {fb : QE} {params : Arguments} {body : Expr} {scope : Scope} {p lpos pos : Pos} (h : HasH c.g x k T) (hme : c.me = some m) (hl : DE ⟨c.g, c.N, scope, kl, none⟩ body fb) (L : lamSB c.sc scope = true)
    (hk : k ≤ c.k := by exact Nat.le_of_ble_eq_true rfl) (hkl : kl + 2 ≤ c.k := by exact Nat.le_of_ble_eq_true rfl) (hg : c.sc.names.lookup x = some .globalImplicit := by rfl) (hdef : ∀ env, defaultsOf params env = ([], []) := by intro _; rfl)
    (hbind : ∀ (q : Str) (cl : List (Str × Addr)) (pm cv ctv : Value), bindArgs (PySem.W.kla_fn "<lambda>" q params body scope cl pm cv ctv) ⟨[], []⟩ = pure [] := by intro _ _ _ _ _; rfl) (hdb : (x == ("__debug__" : Str)) = false := by decide) (hgd : c.g.gd = true := by assumption) :
    DE c (.Call (.Name x p) [.Lambda params body scope lpos] [] pos) (qLam m fb T) := fun X g B => by
  obtain ⟨fa, qual, sg, Ng, cdg, a, hm, hkp, hN, hv, hd, hcd, run⟩ := h
  obtain ⟨hq, cc, P, htab, hcode, TB⟩ := g.me m hme
  have hqual : X.env.qual ++ ("<lambda>" : Str) = lamQ m := by rw [hq]; rfl
  have LS : LamS X.env.scope scope := by rw [g.sc]; exact lamS_by L
  refine ⟨fun pins s σ H Q I h => ?_⟩
  obtain ⟨F, τ, M, x0, k0, at0, ⟨⟨P', hP'⟩, hT⟩, tk, hk0⟩ := h
  obtain ⟨⟨c0, e0⟩, ps, e1, e2, e3⟩ := at0.r.chg _ _ hP'
  have eP : P' = P := by
    rw [htab] at e0
    cases e0
    rfl
  subst eP
  refine wpAny_Call_Name_kw (ld_glob I (gl_of g.sc hg) (by rw [g.mg]; exact hm) ?_ hdb)
  refine PySem.W.callWith_K (K := X.K) (h₀ := X.base) I.ok.mod.kin (by rw [g.K]; exact hkp) ?_ (by rfl) (by rfl)
  show wpAny _ _ (spliced ((false, eval (.Lambda params body scope lpos) X.env) :: backTo pos (starEach [] X.env))) _ _ s
  -- behind the making
  have go : ∀ (F1 H1 : Hp) (f c' : Addr) (pm' ctv : Value) (s' : Shared), Same F F1 → Rel X.K F1 M H1 → F1 c' = some (CodeO c' (lamQ m)) → Inv X pins σ H1 s' → s'.heap.get? f = some (PySem.W.kla_obj "<lambda>" (X.env.qual ++ "<lambda>") params body scope (cloFrom X.env.cells scope.names []) pm' c' ctv) → H1 f = none → f ∉ frs X.stack →
      wpAny (model X.prog X.w) X.A (call (.ref fa) [.ref f]) (EP X pins σ Q) X.xe s' := by
    intro F1 H1 f c' pm' ctv s' sF R1 hc1 I1 hf hfn hfr
    have hr2 : ∀ env, Room (kl + 1) (X.A.deeper env) := fun env => (g.room.mono hkl).deeper env
    refine wpAny_call (codeAny_mono (R := CR (L2.CX X.prog X.w) X.stack X.prog X.w H1 s' Q fun cls d H' => lW X.K B (fun e τ' M' => τ' = τ ∧ x0 e M') cls d σ H') ?_ fun r s2 hq2 => ?_)
    · have rr := run X.A X.stack s' H1 f c' (lamQ m) (fun M' x' k' => fb τ M' x' k') F1 M k0 x0 Q (fun cls d H' => lW X.K B (fun e τ' M' => τ' = τ ∧ x0 e M') cls d σ H') (g.room.mono hk) (g.grd hgd) (by have := I1.env0; rw [g.prog, g.w, g.K, g.mg, g.base] at this; exact this)
      have hole : HoleAt (cxOf (L2.CX c.g.P c.g.w) c.g.P c.g.w c.g.K c.g.mg c.g.base Ng qual sg fa cdg X.A X.stack s' H1 fun cls d H' => lW X.K B (fun e τ' M' => τ' = τ ∧ x0 e M') cls d σ H') a f c' (lamQ m) F1 (fun M' x' k' => fb τ M' x' k') := by
        intro W pn xe E p1 p2 tk2 hW
        rw [← g.prog, ← g.w, ← g.K, ← g.mg, ← g.base] at tk2 ⊢
        have act := pe_actQ (CXg := L2.CX X.prog X.w) (Eg := fun cls d H' => lW X.K B (fun e τ' M' => τ' = τ ∧ x0 e M') cls d σ H') (Ng := Ng) (qg := qual) (sg := sg) (g := fa) (cdg := cdg) (i := 0) (a := a) (pn := pn) (xe := xe) (W := W) (E := E) (p1 := p1) (p2 := p2) (k := kl)
          (tb := fun σ' H Q => σ' = σ ∧ lH X.K F1 (fun M' x' k' => fb τ M' x' k') E H Q) I1 LS hf hfn hfr (g.grd hgd) (hbind _ _ _ _ _) tk2 hW (hr2 _) (fun A outer s3 H3 hgA hrA => ?_) hN hv hd hcd
        · rw [hqual] at act
          exact act.im fun σZ HZ Q ⟨h1, h2, h3⟩ => ⟨h1, h2, rfl, h3⟩
        · refine ⟨fun pins2 s2 σ2 H2 Q2 I2 h2 => ?_⟩
          obtain ⟨eσ, F2, M2, x2, k2, sF2, R2, ht2, hx2, hk2⟩ := h2
          refine (hl (lamCx X A outer s3 H3 E scope f c') ⟨g.prog, g.w, g.K, g.mg, g.base, g.N, rfl, hrA, rfl, fun _ => hgA, fun _ e => (nomatch e)⟩ F2).run pins2 s2 σ2 H2 Q2 I2 ⟨F2, τ, M2, x2, k2, ⟨Same.refl _, R2, by rw [eσ]; exact at0.s.mono (sF.trans sF2)⟩, ht2, ?_, hk2⟩
          refine (takes_of (X := lamCx X A outer s3 H3 E scope f c') (E := E) rfl rfl rfl rfl).imp fun cls d σ3 H4 => ?_
          rintro ⟨F4, τ4, M4, e, s4, r4, sr4, er, he⟩
          exact hx2 e M4 F4 cls d H4 he.2 s4 r4 er
      have rr2 := rr hole hc1 (by rw [← g.K]; exact R1) hT (fun r M' F' v H' h1 h2 h3 h4 => hk0 r M' F' v H' h1 (sF.trans h2) (by rw [g.K]; exact h3) (by rw [g.K]; exact h4)) (fun e M' F' cls d H' h1 h2 h3 h4 => ⟨F', τ, M', e, (at0.b.trans sF).trans h2, by rw [g.K]; exact h3, at0.s.mono (sF.trans h2), by rw [g.K]; exact h4, rfl, h1⟩)
      rw [← g.prog, ← g.w] at rr2
      exact rr2
    · cases r with
      | error e => exact tk e s2 (XE.of_call I1 (fun cls d H' h => h) hq2)
      | ok fl =>
        cases fl with
        | ret u => exact I1.after hq2
        | next => exact False.elim hq2
        | brk => exact False.elim hq2
        | cont => exact False.elim hq2
  have e3' : ∀ (pos : Pos) (cv : Value), codeAmong pos ps.toList = some cv → ∃ c, cv = .ref c ∧ H c = some (CodeO c (X.env.qual ++ "<lambda>")) := fun pos cv hc => by
    obtain ⟨c1, q1, q2⟩ := e3 pos cv hc
    exact ⟨c1, q1, by rw [hqual]; exact at0.r.sub _ _ q2⟩
  refine Calls.spliced_cons (lam_makeQ I TB hcode e1 e2 e3' (hdef _) (LS.has I.ok) (fun f c' pm ctv s' hc I1 hf hfn hfr => ?_) (fun f c' pm ctv s' hn I1 hf hfn hfr => ?_))
  · refine Calls.spliced_nil ⟨I1.kIn, ?_⟩
    obtain ⟨c1, q1, q2⟩ := e3 _ _ hc
    cases q1
    exact go F H f c' pm ctv s' (Same.refl _) at0.r q2 I1 hf hfn hfr
  · refine Calls.spliced_nil ⟨I1.kIn, ?_⟩
    rw [hqual] at I1
    obtain ⟨R1, sF⟩ := rel_tab (pos := lpos) at0.r hP' e1 e2 hn
    rw [hqual] at hfn
    exact go _ _ f c' pm ctv s' sF R1 upd_same I1 hf hfn hfr
end Q
/-! the law's start, where lambdas are made -/
namespace Q
open PySem PySem.Spec PyProof.Rows L2 LamX
def spLawT (ms : List Str) : PSp := fun xs M k _ => ∃ ns : List Int, xs = [.rdl (ns.map .int)] ∧ ns.length ≤ 63 ∧ (∀ z ∈ ns, Builtin.Int.intBits z ≤ 1048576) ∧ (∀ m ∈ ms, ∃ P, M P = some (.tab m)) ∧ ∀ M', k (.bl true) M'
theorem tab_code {K : Fg} {x : Str} {f cc P : Addr} {oc : Value} {od : Option Addr} {fd : FuncData} {osl : Array (Option Value)} (a : PySem.W.nsIn K mainGlobals x = some (some (.ref f))) (ht : PySem.W.tabIn K x = some (cc, P)) (lk : K.lookup f = some ⟨oc, od, .func fd, osl⟩) : fd.code = .ref cc := by
  unfold PySem.W.tabIn at ht
  rw [a] at ht
  dsimp only at ht
  rw [lk] at ht
  dsimp only at ht
  split at ht
  · rename_i c hc
    split at ht
    · split at ht
      · cases ht
        exact hc
      · cases ht
    · cases ht
  · cases ht
/-- the tables at the law's start -/
structure TabsOk (h : Heap) (K : Fg) (cs : List (Str × Addr × Addr)) : Prop where
  tab : ∀ p ∈ cs, PySem.W.tabIn K p.1 = some (p.2.1, p.2.2)
  emp : ∀ p ∈ cs, h.get? p.2.2 = some { cls := .none, data := .fields #[] }
  out : ∀ p ∈ cs, K.lookup p.2.2 = none
  hd : ∀ p ∈ cs, PySem.W.CodeHd h p.2.1 p.2.2
  nod : ∀ p ∈ cs, ∀ q ∈ cs, p.2.2 = q.2.2 → p.1 = q.1
open Classical in
/-- what is tracked at the start: the tables, what H has -/
noncomputable def startM (cs : List (Str × Addr × Addr)) : PM := fun b => (cs.find? fun p => p.2.2 == b).map fun p => .tab p.1
def startH (cs : List (Str × Addr × Addr)) (H : Hp) : Hp := fun b => if (cs.any fun p => p.2.2 == b) = true then some (.tbl #[]) else H b
theorem any_tab {cs : List (Str × Addr × Addr)} {b : Addr} : (cs.any fun p => p.2.2 == b) = true ↔ ∃ p ∈ cs, p.2.2 = b := by simp
theorem startH_t {cs : List (Str × Addr × Addr)} {H : Hp} {p : Str × Addr × Addr} (h : p ∈ cs) : startH cs H p.2.2 = some (.tbl #[]) := if_pos (any_tab.mpr ⟨p, h, rfl⟩)
theorem startH_n {cs : List (Str × Addr × Addr)} {H : Hp} {b : Addr} (h : ∀ p ∈ cs, p.2.2 ≠ b) : startH cs H b = H b := if_neg fun z => by
  obtain ⟨p, hp, e⟩ := any_tab.mp z
  exact h p hp e
theorem startM_t {cs : List (Str × Addr × Addr)} {p : Str × Addr × Addr} (h : p ∈ cs) (nod : ∀ p ∈ cs, ∀ q ∈ cs, p.2.2 = q.2.2 → p.1 = q.1) : startM cs p.2.2 = some (.tab p.1) := by
  unfold startM
  cases e : cs.find? fun q => q.2.2 == p.2.2 with
  | none =>
    have := List.find?_eq_none.mp e p h
    simp at this
  | some q =>
    have h1 := List.mem_of_find?_eq_some e
    have h2 := List.find?_some e
    simp at h2
    show some (MO.tab q.1) = some (MO.tab p.1)
    rw [nod q h1 p h h2]
theorem startM_some {cs : List (Str × Addr × Addr)} {b : Addr} {o : MO} (h : startM cs b = some o) : ∃ p ∈ cs, p.2.2 = b ∧ o = .tab p.1 := by
  unfold startM at h
  obtain ⟨p, h1, h2⟩ := Option.map_eq_some_iff.mp h
  have h3 := List.find?_some h1
  simp at h3
  exact ⟨p, List.mem_of_find?_eq_some h1, h3, h2.symm⟩
theorem law_startT {K : Fg} {h : Heap} {H : Hp} {a : Addr} {ns : List Int} {cs : List (Str × Addr × Addr)} (T : TabsOk h K cs) (hHc : ∀ p ∈ cs, H p.2.2 = none) (hl : ns.length ≤ 63) (hb : ∀ z ∈ ns, Builtin.Int.intBits z ≤ 1048576) (hS : SqL K H a (ns.map V.int)) :
    toSp K (spLawT (cs.map (·.1))) [.ref a] (startH cs H) (fun v _ => v = .bl true) fun _ _ _ => False := by
  have sm : Same H (startH cs H) := fun b o e => by
    rw [startH_n fun p hp z => by rw [← z, hHc p hp] at e; cases e]
    exact e
  refine ⟨H, [.rdl (ns.map .int)], startM cs, fun r _ => r = .bl true, fun _ _ => False, ⟨sm, fun b o e => ?_, fun b o e => ?_⟩, .cons (.rdl hS (Reps.ints ns)) .nil, ⟨ns, rfl, hl, hb, fun m hm => ?_, fun _ => rfl⟩, fun r M' F' v H' h _ _ e => by subst h; cases e; rfl, fun _ _ _ _ _ _ h => h.elim⟩
  · obtain ⟨p, hp, rfl, rfl⟩ := startM_some e
    exact hHc p hp
  · obtain ⟨p, hp, rfl, rfl⟩ := startM_some e
    refine ⟨⟨_, T.tab p hp⟩, #[], startH_t hp, trivial, fun pos cv hc => ?_⟩
    have z : codeAmong pos [] = some cv := hc
    simp [codeAmong] at z
  · obtain ⟨p, hp, rfl⟩ := List.mem_map.mp hm
    exact ⟨p.2.2, startM_t hp T.nod⟩
/-- the heap at the start -/
theorem law_heapT {P : Program} {w : World} {K : Fg} {mg mb : Str → Option Value} {a : Addr} {s : Shared} {vs : List Value} {ns : List Int} {cs : List (Str × Addr × Addr)} (KX : K.In s.heap) (hns : s.heap.Ns mainGlobals mg) (hb : s.heap.Ns builtinsNs mb) (hbb : ∀ x : Str, x ≠ "__name__" → mb x = bootBuiltins x) (hlim : s.heap.NoLimit) (hg : s.gens = #[])
    (hbm : ∃ (bm : Addr) (ob : Obj), mg "__builtins__" = some (.ref bm) ∧ bm ≠ builtinsNs ∧ s.heap.get? bm = some ob ∧ ob.cls = .type "module" ∧ ob.dict = some builtinsNs ∧ ob.data = .plain) (T : TabsOk s.heap K cs)
    (ha : s.heap.get? a = some { cls := .type "list", data := .seq vs.toArray }) (hi : IntsAre vs ns) (hl : ns.length ≤ sizeLine) :
    ∃ H : Hp, Only H ∧ (∀ p ∈ cs, H p.2.2 = none) ∧ SqL K H a (ns.map V.int) ∧ HOk P w (startH cs H) s.heap ∧ Env0 P w K mg (hidT s.heap (startH cs H)) callerA [] s (startH cs H) ∧ ∀ p ∈ cs, TabB (hidT s.heap (startH cs H)) mg p.2.1 p.2.2 := by
  have rv := vals_ints hi
  have lv := hi.length
  have aT : ∀ p ∈ cs, p.2.2 ≠ a := fun p hp z => by
    have q := T.emp p hp
    rw [z, ha] at q
    have z' : Data.seq vs.toArray _ = Data.fields #[] := congrArg Obj.data (Option.some.inj q)
    cases z'
  suffices main : ∀ H : Hp, HOk P w H s.heap → (∀ b, H b ≠ none → b = a) → (H a ≠ none → K.lookup a = none) → (∀ p ∈ cs, H p.2.2 = none) ∧ HOk P w (startH cs H) s.heap ∧ Env0 P w K mg (hidT s.heap (startH cs H)) callerA [] s (startH cs H) ∧ ∀ p ∈ cs, TabB (hidT s.heap (startH cs H)) mg p.2.1 p.2.2 by
    by_cases hk : ∃ o, K.lookup a = some o
    · obtain ⟨o, hk⟩ := hk
      have e := (KX a o hk).symm.trans ha
      cases e
      obtain ⟨m1, m2, m3, m4⟩ := main (fun _ => none) (fun b u z => nomatch z) (fun b z => (z rfl).elim) fun z => (z rfl).elim
      refine ⟨fun _ => none, fun _ => .inl rfl, m1, .inr ⟨_, vs.toArray, _, hk, rfl, rfl, rfl, ?_, by simpa using rv⟩, m2, m3, m4⟩
      rw [List.size_toArray, lv]; exact hl
    · have hk' : K.lookup a = none := by
        cases q : K.lookup a with
        | none => rfl
        | some o => exact (hk ⟨o, q⟩).elim
      have nb : ∀ b, b ≠ a → upd (fun _ => none) a (.frz { cls := .type "list", data := .seq vs.toArray } (.lst (ns.map V.int))) b = none := fun b h => upd_ne h
      obtain ⟨m1, m2, m3, m4⟩ := main (upd (fun _ => none) a (.frz { cls := .type "list", data := .seq vs.toArray } (.lst (ns.map V.int)))) (fun b u z => by
        by_cases h : b = a
        · subst h
          rw [upd_same] at z
          cases z
          exact ⟨ha, by rw [List.length_map]; exact hl, vs, _, rv, ha⟩
        · rw [nb b h] at z; cases z) (fun b z => by
        by_cases h : b = a
        · exact h
        · exact (z (nb b h)).elim) fun _ => hk'
      refine ⟨_, fun b => ?_, m1, .inl (.inr ⟨_, upd_same⟩), m2, m3, m4⟩
      by_cases h : b = a
      · subst h; exact .inr ⟨_, _, upd_same⟩
      · exact .inl (nb b h)
  intro H hok hA hK
  have hHc : ∀ p ∈ cs, H p.2.2 = none := fun p hp => by
    cases q : H p.2.2 with
    | none => rfl
    | some u => exact (aT p hp (hA _ (by rw [q]; simp))).elim
  -- what is neither the script nor a table is not tracked
  have free : ∀ b o, s.heap.get? b = some o → (∀ xs n, o.data ≠ .seq xs n) → o.data ≠ .fields #[] → startH cs H b = none := fun b o e h1 h2 => by
    rw [startH_n fun p hp z => by
      rw [← z, T.emp p hp] at e
      cases e
      exact h2 rfl]
    cases q : H b with
    | none => rfl
    | some u =>
      have e1 := hA b (by rw [q]; simp)
      rw [e1, ha] at e
      cases e
      exact (h1 _ _ rfl).elim
  have ns2 : ∀ {b : Addr} {m : Str → Option Value}, s.heap.Ns b m → (hidT s.heap (startH cs H)).Ns b m := fun {b m} ⟨o, es, ep, e, d, r⟩ => ⟨o, es, ep, hidT_get e (free b o e (fun xs n => by rw [d]; intro z; cases z) (by rw [d]; intro z; cases z)), d, r⟩
  have kin : K.In (hidT s.heap (startH cs H)) := fun b o e => hidT_get (KX b o e) (by
    have nT : ∀ p ∈ cs, p.2.2 ≠ b := fun p hp z => by rw [← z, T.out p hp] at e; cases e
    rw [startH_n nT]
    cases q : H b with
    | none => rfl
    | some u =>
      have e1 := hA b (by rw [q]; simp)
      rw [e1] at q e
      rw [hK (by rw [q]; simp)] at e
      cases e)
  have hok' : HOk P w (startH cs H) s.heap := fun b u z => by
    by_cases hb : ∃ p ∈ cs, p.2.2 = b
    · obtain ⟨p, hp, rfl⟩ := hb
      rw [startH_t hp] at z
      cases z
      exact T.emp p hp
    · have nT : ∀ p ∈ cs, p.2.2 ≠ b := fun p hp e => hb ⟨p, hp, e⟩
      rw [startH_n nT] at z
      have keepT : ∀ c v, H c = some v → startH cs H c = some v := fun c v e => by
        rw [startH_n fun p hp y => by rw [← y, hHc p hp] at e; cases e]
        exact e
      exact (hok b u z).stay (fun _ _ _ q => q) (fun c q => keepT _ _ q) fun c xs q => keepT _ _ q
  obtain ⟨mc, l1, l2⟩ := hlim
  refine ⟨hHc, hok', ⟨rfl, ⟨kin, ns2 hns, ⟨mb, ns2 hb, hbb⟩, ⟨mc, ns2 l1, l2⟩⟩, fun b o e => of_hidT e, Nat.le_of_eq (hidT_size _ _), trivial, fun b hb => (List.not_mem_nil hb).elim, hok', .of_eq hg⟩, fun p hp => ⟨?_, ?_, fun z => ?_⟩⟩
  · obtain ⟨o, us, file, tf, flags, tg, inF, text, tt, e1, e2, e3, e4, rest⟩ := T.hd p hp
    refine ⟨o, us, file, tf, flags, tg, inF, text, tt, hidT_get e1 (free _ o e1 (fun xs n y => by rw [e3] at y; cases y) (fun y => ?_)), e2, e3, e4, rest⟩
    rw [e3] at y
    cases y
    simp at e4
  · obtain ⟨bm, ob, b1, b2, b3, b4, b5, b6⟩ := hbm
    refine ⟨bm, ob, b1, b2, fun y => ?_, fun y => ?_, hidT_get b3 (free _ ob b3 (fun xs n y => by rw [b6] at y; cases y) (fun y => by rw [b6] at y; cases y)), b4, b5, b6⟩
    · obtain ⟨o, es, ep, e, d, _⟩ := hns
      rw [y, e] at b3
      cases b3
      rw [d] at b6
      cases b6
    · rw [y, T.emp p hp] at b3
      cases b3
      cases b6
  · obtain ⟨o, es, ep, e, d, _⟩ := hns
    rw [z, T.emp p hp] at e
    cases e
    cases d
/-- the law's row, from its def's promise, where lambdas are made -/
theorem walk_ofGT {l : PySem.W.OpenLaw} {k : Nat} {q : Program} {loose : List Str} {XP : (Str → Option Value) → Heap → Prop} {YP : World → Heap → Prop} {d : DefRec} {K : Params → Fg} {ms : List Str} (hn : l.most = some 63) (hdf : d.params.defaults = []) (hr : Room k callerA) (hY : ∀ (w : World) (h : Heap), YP w h → (K w.params).In h)
    (hrec : ∀ m ∈ ms, ∃ e, (recsOf q).find? (fun e => e.name == m) = some e)
    (F : ∀ (w : World) (mg : Str → Option Value) (fa : Addr) (h : Heap), (K w.params).In h → h.Ns mainGlobals mg → mg d.name = some (.ref fa) → ∃ cs : List (Str × Addr × Addr), cs.map (·.1) = ms ∧ (∀ p ∈ cs, PySem.W.tabIn (K w.params) p.1 = some (p.2.1, p.2.2)) ∧ (∀ p ∈ cs, (K w.params).lookup p.2.2 = none) ∧
      (∀ p ∈ cs, ∀ q ∈ cs, p.2.2 = q.2.2 → p.1 = q.1) ∧ ∀ base : Heap, (K w.params).In base → base.Ns mainGlobals mg → (∀ p ∈ cs, TabB base mg p.2.1 p.2.2) → FnG true l.prog w (K w.params) mg base (L2.CX l.prog w) k fa (toSp (K w.params) (spLawT ms))) :
    PySem.W.WalkO q loose XP YP l.row.toRowW d [] (fun f vs => PySem.call f vs) := by
  refine Att.attach_callB hn hdf fun w s₀ s₁ mg mb fa o pm cd doc a vs ns G Y _ _ _ hmg hobj hints hlen hbits hg => ?_
  have KX := hY w _ Y
  obtain ⟨cs, rfl, t1, t2, t3, fn⟩ := F w mg fa _ KX G.T.g hmg
  have T : TabsOk s₁.heap (K w.params) cs := by
    have both : ∀ p ∈ cs, PySem.W.CodeHd s₁.heap p.2.1 p.2.2 ∧ s₁.heap.get? p.2.2 = some (PySem.W.tabObj #[]) := fun p hp => by
      obtain ⟨e, he⟩ := hrec p.1 (List.mem_map.mpr ⟨p, hp, rfl⟩)
      exact PySem.W.tab_of G.T KX he (t1 p hp)
    exact ⟨t1, fun p hp => (both p hp).2, t2, fun p hp => (both p hp).1, t3⟩
  obtain ⟨H, hO, hHc, hS, hok0, e0, TB⟩ := law_heapT (P := l.prog) (w := w) KX G.T.g G.T.b G.T.builtins G.T.nolimit hg G.T.bmain T hobj hints (Nat.le_trans hlen (by decide))
  have run := fn _ e0.mod.kin e0.mod.glob TB callerA [] s₁ (startH cs H) [.ref a] [.ref a] _ _ hr (fun _ => rfl) e0 (.cons rfl .nil) (law_startT T hHc hlen hbits hS)
  refine codeAny_mono run fun r s' hc => ?_
  cases r with
  | error e => exact (law_cx hc).elim
  | ok fl =>
    cases fl with
    | ret u =>
      obtain ⟨v, H', os, bare, un, hok', rv, hv⟩ := hc
      have hv' : v = .bl true := hv
      subst hv'
      obtain rfl : u = Value.bool true := rv
      have kept : ∀ b x, (∀ p ∈ cs, p.2.2 ≠ b) → s₁.heap.get? b = some x → s'.heap.get? b = some x := fun b x nT e => by
        have eH : startH cs H b = H b := startH_n nT
        rcases hO b with z | ⟨ob, xs, z⟩
        · exact un.keep b x e (by rw [eH]; exact z) (fun m => List.not_mem_nil m) fun m => List.not_mem_nil m
        · have z' : startH cs H b = some (.frz ob (.lst xs)) := by rw [eH]; exact z
          have e1 := (hok0 b _ z').1
          have e2 := (hok' b _ (un.frzs b ob _ z')).1
          rw [e] at e1
          cases e1
          exact e2
      refine ⟨rfl, ⟨fun b x e => ?_, fun b x e => ?_⟩, os, bare⟩
      · by_cases hb : ∃ p ∈ cs, p.2.2 = b
        · obtain ⟨p, hp, rfl⟩ := hb
          obtain ⟨more, z⟩ := un.tbls p.2.2 #[] (startH_t hp)
          have g : s'.heap.get? p.2.2 = some { cls := .none, data := .fields (#[] ++ more) } := hok' p.2.2 _ z
          have e1 := T.emp p hp
          rw [e] at e1
          cases e1
          exact .inr (.inl ⟨((T.hd p hp).tab (T.emp p hp)).isCodeTable, rfl, #[], more, rfl, g⟩)
        · exact .inl (kept b x (fun p hp z => hb ⟨p, hp, z⟩) e)
      · by_cases hb : ∃ p ∈ cs, p.2.2 = b
        · obtain ⟨p, hp, rfl⟩ := hb
          obtain ⟨more, z⟩ := un.tbls p.2.2 #[] (startH_t hp)
          exact ⟨_, hok' p.2.2 _ z⟩
        · exact ⟨x, kept b x (fun p hp z => hb ⟨p, hp, z⟩) e⟩
    | next => exact False.elim hc
    | brk => exact False.elim hc
    | cont => exact False.elim hc
end Q
namespace Q
open PySem PySem.Spec PyProof.Rows L2 LamX
theorem mk_tabs1 {K : Fg} {mg : Str → Option Value} {m1 : Str} {c1 P1 : Addr} {D : Heap → Prop} (t1 : PySem.W.tabIn K m1 = some (c1, P1)) (o1 : K.lookup P1 = none) (fn : ∀ base : Heap, K.In base → base.Ns mainGlobals mg → TabB base mg c1 P1 → D base) :
    ∃ cs : List (Str × Addr × Addr), cs.map (·.1) = [m1] ∧ (∀ p ∈ cs, PySem.W.tabIn K p.1 = some (p.2.1, p.2.2)) ∧ (∀ p ∈ cs, K.lookup p.2.2 = none) ∧ (∀ p ∈ cs, ∀ q ∈ cs, p.2.2 = q.2.2 → p.1 = q.1) ∧ ∀ base : Heap, K.In base → base.Ns mainGlobals mg → (∀ p ∈ cs, TabB base mg p.2.1 p.2.2) → D base := by
  refine ⟨[(m1, c1, P1)], rfl, fun p hp => ?_, fun p hp => ?_, fun p hp q hq _ => ?_, fun base h1 h2 h3 => fn base h1 h2 (h3 _ List.mem_cons_self)⟩
  · simp only [List.mem_singleton] at hp; subst hp; exact t1
  · simp only [List.mem_singleton] at hp; subst hp; exact o1
  · simp only [List.mem_singleton] at hp hq; subst hp hq; rfl
theorem mk_tabs2 {K : Fg} {mg : Str → Option Value} {m1 m2 : Str} {c1 P1 c2 P2 : Addr} {D : Heap → Prop} (t1 : PySem.W.tabIn K m1 = some (c1, P1)) (t2 : PySem.W.tabIn K m2 = some (c2, P2)) (o1 : K.lookup P1 = none) (o2 : K.lookup P2 = none) (ne : P1 ≠ P2)
    (fn : ∀ base : Heap, K.In base → base.Ns mainGlobals mg → TabB base mg c1 P1 → TabB base mg c2 P2 → D base) :
    ∃ cs : List (Str × Addr × Addr), cs.map (·.1) = [m1, m2] ∧ (∀ p ∈ cs, PySem.W.tabIn K p.1 = some (p.2.1, p.2.2)) ∧ (∀ p ∈ cs, K.lookup p.2.2 = none) ∧ (∀ p ∈ cs, ∀ q ∈ cs, p.2.2 = q.2.2 → p.1 = q.1) ∧ ∀ base : Heap, K.In base → base.Ns mainGlobals mg → (∀ p ∈ cs, TabB base mg p.2.1 p.2.2) → D base := by
  refine ⟨[(m1, c1, P1), (m2, c2, P2)], rfl, fun p hp => ?_, fun p hp => ?_, fun p hp q hq e => ?_, fun base h1 h2 h3 => fn base h1 h2 (h3 _ List.mem_cons_self) (h3 _ (List.mem_cons_of_mem _ List.mem_cons_self))⟩
  · simp only [List.mem_cons, List.not_mem_nil, or_false] at hp; rcases hp with rfl | rfl
    · exact t1
    · exact t2
  · simp only [List.mem_cons, List.not_mem_nil, or_false] at hp; rcases hp with rfl | rfl
    · exact o1
    · exact o2
  · simp only [List.mem_cons, List.not_mem_nil, or_false] at hp hq
    rcases hp with rfl | rfl <;> rcases hq with rfl | rfl
    · rfl
    · exact (ne e).elim
    · exact (ne e.symm).elim
    · rfl
end Q
namespace Q
open PySem PySem.Spec PyProof.Rows L2 LamX
theorem tab_at {K : Fg} {x : Str} {f c P : Addr} {oc oc2 : Value} {od od2 : Option Addr} {fd : FuncData} {osl osl2 : Array (Option Value)} {vs : Array Value} (a : PySem.W.nsIn K mainGlobals x = some (some (.ref f))) (l : K.lookup f = some ⟨oc, od, .func fd, osl⟩) (hc : fd.code = .ref c) (l2 : K.lookup c = some ⟨oc2, od2, .fields vs, osl2⟩) (e : vs[11]? = some (.ref P)) :
    PySem.W.tabIn K x = some (c, P) := by
  unfold PySem.W.tabIn
  rw [a]
  dsimp only
  rw [l]
  dsimp only
  rw [hc]
  dsimp only
  rw [l2]
  dsimp only
  rw [e]
end Q
namespace Q
open PySem PySem.Spec PyProof.Rows L2 LamX
theorem mk_tabs3 {K : Fg} {mg : Str → Option Value} {m1 m2 m3 : Str} {c1 P1 c2 P2 c3 P3 : Addr} {D : Heap → Prop} (t1 : PySem.W.tabIn K m1 = some (c1, P1)) (t2 : PySem.W.tabIn K m2 = some (c2, P2)) (t3 : PySem.W.tabIn K m3 = some (c3, P3)) (o1 : K.lookup P1 = none) (o2 : K.lookup P2 = none) (o3 : K.lookup P3 = none) (n12 : P1 ≠ P2) (n13 : P1 ≠ P3) (n23 : P2 ≠ P3)
    (fn : ∀ base : Heap, K.In base → base.Ns mainGlobals mg → TabB base mg c1 P1 → TabB base mg c2 P2 → TabB base mg c3 P3 → D base) :
    ∃ cs : List (Str × Addr × Addr), cs.map (·.1) = [m1, m2, m3] ∧ (∀ p ∈ cs, PySem.W.tabIn K p.1 = some (p.2.1, p.2.2)) ∧ (∀ p ∈ cs, K.lookup p.2.2 = none) ∧ (∀ p ∈ cs, ∀ q ∈ cs, p.2.2 = q.2.2 → p.1 = q.1) ∧ ∀ base : Heap, K.In base → base.Ns mainGlobals mg → (∀ p ∈ cs, TabB base mg p.2.1 p.2.2) → D base := by
  refine ⟨[(m1, c1, P1), (m2, c2, P2), (m3, c3, P3)], rfl, fun p hp => ?_, fun p hp => ?_, fun p hp q hq e => ?_, fun base h1 h2 h3 => fn base h1 h2 (h3 (m1, c1, P1) (by simp)) (h3 (m2, c2, P2) (by simp)) (h3 (m3, c3, P3) (by simp))⟩
  · simp only [List.mem_cons, List.not_mem_nil, or_false] at hp; rcases hp with rfl | rfl | rfl
    · exact t1
    · exact t2
    · exact t3
  · simp only [List.mem_cons, List.not_mem_nil, or_false] at hp; rcases hp with rfl | rfl | rfl
    · exact o1
    · exact o2
    · exact o3
  · simp only [List.mem_cons, List.not_mem_nil, or_false] at hp hq
    rcases hp with rfl | rfl | rfl <;> rcases hq with rfl | rfl | rfl <;> first
      | rfl
      | exact (n12 e).elim
      | exact (n13 e).elim
      | exact (n23 e).elim
      | exact (n12 e.symm).elim
      | exact (n13 e.symm).elim
      | exact (n23 e.symm).elim
end Q
/-! a def that hands out by `yield from` a list, and list(..) of its call -/
namespace L2
open PySem PySem.Spec PyProof.Rows
section
variable {prog : Program} {w : World} {A : Around} {E : Value → Shared → Prop} {s : Shared}
theorem lstIt_more {it l : Addr} {i : Nat} {vs : Array Value} {x : Value} {Q : Option Value → Shared → Prop} (hi : s.heap.IsListIter it l i) (hl : s.heap.IsList l vs) (hx : vs[i]? = some x)
    (go : ∀ h', h'.IsListIter it l (i + 1) → Heap.SameBut it s.heap h' → Q (some x) { s with heap := h' }) : wpAny (model prog w) A (callSpecial? (.ref it) "__next__") Q E s := by
  obtain ⟨oi, e1, e2, e3⟩ := id hi
  obtain ⟨oL, f1, _, nL, f3⟩ := hl
  refine wpAny_callSpecial?_slot (name := Str.ofString "__next__") hi.typeIs slot_listiter_next (wpAny_call_entry slot_listiter_next hi.typeIs entry_listiter_next ?_ (args_listiter_next _))
  show wpAny _ _ (field (.ref it) 0 >>= _) _ _ s
  refine wpAny_bind (wpAny_field e1 e3 (x := .ref l) rfl ?_)
  show wpAny _ _ (if (Value.ref l == Value.none) = true then _ else _) _ _ s
  rw [if_neg (by exact Bool.false_ne_true : ¬ ((Value.ref l == Value.none) = true))]
  show wpAny _ _ (field (.ref it) 1 >>= _) _ _ s
  refine wpAny_bind (wpAny_field e1 e3 (x := .int i 0) rfl ?_)
  show wpAny _ _ (seqItems? (.ref l) >>= _) _ _ s
  refine wpAny_bind (wpAny_seqItems f1 f3 ?_)
  simp only [Int.toNat_natCast, hx]
  refine wpAny_bind (wpAny_setField e1 e3 (by simp) (wpAny_pure ⟨x, rfl, go _ ?_ (Heap.SameBut.update ..)⟩))
  exact ⟨_, Heap.get?_update_self _ e1 (Obj.isFreed_of_fields (Obj.data_mapFields e3 _)), (Obj.cls_mapFields ..).trans e2, by rw [Obj.data_mapFields e3]; simp [rawInt]⟩
theorem lstIt_over {it l : Addr} {i : Nat} {vs : Array Value} {Q : Option Value → Shared → Prop} (hh : A.handled = none) (hi : s.heap.IsListIter it l i) (hl : s.heap.IsList l vs) (hx : vs[i]? = none)
    (go : ∀ e h', StopX e h' → Heap.ExtBut it s.heap h' → E e { s with heap := h' }) : wpAny (model prog w) A (callSpecial? (.ref it) "__next__") Q E s := by
  obtain ⟨oi, e1, e2, e3⟩ := id hi
  obtain ⟨oL, f1, _, nL, f3⟩ := hl
  refine wpAny_callSpecial?_slot (name := Str.ofString "__next__") hi.typeIs slot_listiter_next (wpAny_call_entry slot_listiter_next hi.typeIs entry_listiter_next ?_ (args_listiter_next _))
  show wpAny _ _ (field (.ref it) 0 >>= _) _ _ s
  refine wpAny_bind (wpAny_field e1 e3 (x := .ref l) rfl ?_)
  show wpAny _ _ (if (Value.ref l == Value.none) = true then _ else _) _ _ s
  rw [if_neg (by exact Bool.false_ne_true : ¬ ((Value.ref l == Value.none) = true))]
  show wpAny _ _ (field (.ref it) 1 >>= _) _ _ s
  refine wpAny_bind (wpAny_field e1 e3 (x := .int i 0) rfl ?_)
  show wpAny _ _ (seqItems? (.ref l) >>= _) _ _ s
  refine wpAny_bind (wpAny_seqItems f1 f3 ?_)
  simp only [Int.toNat_natCast, hx]
  refine wpAny_bind (wpAny_rule (wpAny_bind (wpAny_setField e1 e3 (by simp) ?_)))
  show wpAny _ _ (newExc (.type "StopIteration") [] >>= _) _ _ _
  refine wpAny_bind ?_
  simp only [newExc, newTuple]
  refine wpAny_bind (wpAny_newObj_type ?_ (by size_fits))
  refine wpAny_bind (m := firstArgMember _ _) (wpAny_of_eq (a := Value.none) (by first | rfl | (simp only [firstArgMember]; rfl)) ?_)
  refine wpAny_newObj_type ?_ (by size_fits)
  simp only [raiseNew]
  refine wpAny_bind (wpAny_handled ?_)
  first | rw [show A.in1.handled = none from hh] | rw [hh]
  refine wpAny_bind (wpAny_pure (wpAny_throw ?_))
  refine go _ _ ⟨_, _, _, rfl, Heap.get?_push_size _ rfl, rfl, rfl, ?_⟩ (((Heap.SameBut.update ..).extBut.push _).push _)
  first
    | rfl
    | (rw [Array.getElem?_append_left (by decide)]; rfl)
    | kernel_rfl
end
section
variable {X : Cx} {e : Expr} {te : TE}
def tYfLst (te : TE) : TYf := fun σ H Q => te σ H fun x H1 => ∃ a xs, x = .ref a ∧ H1 a = some (.lst xs) ∧ Q xs H1
theorem close_lst : typeLookup (.type "list_iterator") "close" = pure none := by rw [typeLookup_type, builtinLookup_eq_fast]; kernel_rfl
theorem yf_lst (he : PE X e te) : YfE X e (tYfLst te) := by
  refine ⟨fun pins s σ H Q I h => ?_⟩
  refine thn (he.run pins s σ H _ I h) fun v s1 ⟨x, H1, I1, r1, a, xs, ex, ha, hq⟩ => ?_
  subst ex
  obtain rfl : v = Value.ref a := r1
  obtain ⟨hlen, its, nn, rits, hget⟩ := I1.hok a _ ha
  have ht : s1.heap.IsList a its.toArray := ⟨_, hget, rfl, nn, rfl⟩
  refine ⟨"list", ⟨_, hget, rfl⟩, by decide, wpAny_pyIter_list ht ?_⟩
  have young : ∀ b o, s1.heap.get? b = some o → b ≠ s1.heap.objs.size := fun b o e => Nat.ne_of_lt (Heap.lt_size e)
  have kp : ∀ b o, s1.heap.get? b = some o → (s1.heap.push { cls := .type "list_iterator", data := .fields #[.ref a, .int 0 0] }).get? b = some o := fun b o e => Heap.get?_push_of_some _ e
  have keepL : ∀ {h h' : Heap}, h.IsList a its.toArray → (∀ o, h.get? a = some o → h'.get? a = some o) → h'.IsList a its.toArray := fun ⟨o, z, r⟩ k => ⟨o, k o z, r⟩
  refine ⟨s1.heap.objs.size, H1, xs, fun j h => h.IsListIter s1.heap.objs.size a j ∧ h.IsList a its.toArray, rfl, I1.kept (t' := s1.toks) kp, .inr I1.sz, Nat.ne_of_gt I1.lt, fun y c hy => ?_, I1.hok.fresh (Nat.le_refl _), fun p hp => ?_,
    ⟨⟨_, Heap.get?_push_size _ rfl, rfl, rfl⟩, keepL ht fun o z => kp _ o z⟩, ⟨⟨"list_iterator", fun j h q => ?_, close_lst, by decide⟩, fun j h h' q hk => ?_, fun A' j x s2 Q' E' hA hx q hQ => ?_, fun A' s2 Q' E' hA q hE => ?_⟩, hq⟩
  · obtain ⟨v, o, ho, _⟩ := I1.cell y c hy
    exact young c o ho
  · exact young p.1 _ (I1.pin p hp).1
  · obtain ⟨⟨o, ho, hc, _⟩, _⟩ := q
    exact ⟨o, ho, hc⟩
  · obtain ⟨⟨o, ho, r⟩, q2⟩ := q
    exact ⟨⟨o, hk _ o (.inl rfl) ho, r⟩, keepL q2 fun o2 z => hk _ o2 (.inr (by rw [ha]; exact fun z => by cases z)) z⟩
  · obtain ⟨q1, q2⟩ := q
    obtain ⟨u, hu, ru⟩ := rits.get hx
    have hne : a ≠ s1.heap.objs.size := young a _ hget
    exact lstIt_more q1 q2 (x := u) (by simpa using hu) fun h' q1' hs => hQ u h' s2.toks ru ⟨q1', keepL q2 fun o z => hs.extBut _ o hne z⟩ fun b o hb eb => hs.extBut b o hb eb
  · obtain ⟨q1, q2⟩ := q
    have hnone : its.toArray[xs.length]? = none := by
      have e := rits.length
      have e2 : its[xs.length]? = none := List.getElem?_eq_none_iff.mpr (by omega)
      simpa using e2
    exact lstIt_over hA q1 q2 hnone fun e h' hS hk => hE e h' s2.toks hS fun b o hb eb => hk b o hb eb
end
end L2
namespace Q
open PySem PySem.Spec PyProof.Rows L2
/-! ### a generator def -/
abbrev PSpG := List PV → PM → (List PV → PM → Prop) → Prop
def toSpG (K : Fg) (p : PSpG) : SpG := fun vs H Q _ => ∃ F ps M k, Rel K F M H ∧ Reps K F ps vs ∧ p ps M k ∧ ∀ out M' F' us H', k out M' → Same F F' → Rel K F' M' H' → Reps K F' out us → Q us H'
structure HasG (g : Glb) (x : Str) (k : Nat) (p : PSpG) : Prop where
  ok : ∃ (f : Addr) (fd : FuncData) (ps : List Str), g.mg x = some (.ref f) ∧ PySem.W.keepIn g.K (.ref f) = true ∧ Binds g.K fd ps [] ∧ GFn g.P g.w g.K g.mg g.base k f fd ps (toSpG g.K p)
/-- list(f(..)) -/
@[simp] def qListG (p : PSpG) (fa : QA) : QE := fun τ M x k => fa τ M x fun ps M1 => p ps M1 fun out M2 => k (.lst out) M2
theorem de_listG {c : Cf} {x : Str} {k : Nat} {p : PSpG} {e : Expr} {es : List Expr} {fa : QA} {p1 p2 pos pos' : Pos} (h : HasG c.g x k p) (ha : DA c (e :: es) fa) (hl : c.g.mg ("list" : Str) = none) (hgl : c.sc.names.lookup ("list" : Str) = some .globalImplicit := by rfl)
    (hk : k + 3 ≤ c.k := by exact Nat.le_of_ble_eq_true rfl) (hg : c.sc.names.lookup x = some .globalImplicit := by rfl) (hdb : (x == ("__debug__" : Str)) = false := by decide)
    (he : ∀ env, starEach (e :: es) env = (false, eval e env) :: starEach es env := by intro _; rfl) (hpl : ∀ env, (backTo pos' (starEach es env)).any (·.1) = false := by intro _; rfl)
    (he1 : ∀ env, starEach [.Call (.Name x p1) (e :: es) [] pos'] env = (false, eval (.Call (.Name x p1) (e :: es) [] pos') env) :: starEach [] env := by intro _; rfl) :
    DE c (.Call (.Name "list" p2) [.Call (.Name x p1) (e :: es) [] pos'] [] pos) (qListG p fa) := fun X g B => by
  obtain ⟨f, fd, ps, h1, h2, h3, F⟩ := h.ok
  have F' : GFn X.prog X.w X.K X.mg X.base k f fd ps (toSpG X.K p) := by rw [g.prog, g.w, g.K, g.mg, g.base]; exact F
  have no : Passes (L2.CX X.prog X.w) X fun _ _ _ => False := fun pins σ H s e s' I z => by
    obtain ⟨_, _, _, _, _, _, _, _, _, _, _, _, q⟩ := z
    exact q.elim
  have pg := pgen_call (X := X) (E := fun _ _ _ => False) (p := p1) (pos' := pos') F' (g.room.mono (by omega)) (gl_of g.sc hg) (by rw [g.mg]; exact h1) (by rw [g.K]; exact h2) (by rw [g.K]; exact h3) .nil (ha X g B) hdb (he _) (hpl _)
  refine (pe_listG (p := p2) (pos := pos) pg no (fun _ _ _ z => z.elim) (g.room.mono hk) (gl_of g.sc hgl) (by rw [g.mg]; exact hl) (by first | rfl | decide +kernel) (he := he1 _)).im fun σ H Q => ?_
  rintro ⟨F0, τ, M, x0, k0, a, hf, tk, hk0⟩
  refine ⟨F0, τ, M, x0, _, a, hf, tk, fun ps' M1 F1 vs H1 hp s1 r1 e1 => ?_⟩
  show toSpG X.K p (vs ++ []) H1 _ _
  rw [List.append_nil]
  refine ⟨F1, ps', M1, _, r1, e1, hp, fun out M2 F2 us H2 ho s2 r2 e2 q hq => ?_⟩
  have hF := r2.fresh hq
  obtain ⟨r3, s3⟩ := r2.newF hq (.lst us)
  exact hk0 _ _ _ _ _ ho ((s1.trans s2).trans s3) r3 (.lst upd_same (e2.mono s3))
theorem takes_noS {X : Cx} {B : Hp} : Takes X (lW X.K B fun _ _ _ => False) := fun u s' ⟨a, B', sI, pins, σ, H, cls, d, e, I, nb, up, sky, na, os, ag, w⟩ => by
  obtain ⟨_, _, _, _, _, _, _, _, z⟩ := w
  exact z.elim
/-- def f(..): s1; s2; yield from e -/
theorem has_gen {g : Glb} {x qual : Str} {st s1 s2 : Stmt} {e : Expr} {yp yp2 : Pos} {f : Addr} {fd : FuncData} {N ps : List Str} {k : Nat} {p : PSpG} {f1 f2 : QS} {fe : QE} (F : Fun g.K x qual st f fd) (hm : g.mg x = some (.ref f)) (S : GScope N ps (defScope st)) (b : Binds g.K fd ps []) (hgd : g.gd = false)
    (hb : defBody st = [s1, s2, .Expr (.YieldFrom e yp) yp2]) (h1 : DS ⟨g, N, defScope st, k, none⟩ s1 f1) (h2 : DS ⟨g, N, defScope st, k, none⟩ s2 f2) (h3 : DE ⟨g, N, defScope st, k, none⟩ e fe)
    (spec : ∀ xs M kk, p xs M kk → xs.length = ps.length ∧ qSeq f1 f2 { nx := fun τ M' => fe τ M' (fun _ _ => False) fun v M1 => ∃ a ys, v = .ref a ∧ M1 a = some (.lst ys) ∧ ys.length ≤ sizeLine ∧ kk ys M1, rt := fun _ _ => False, ex := fun _ _ _ => False } (startQ N xs) M) : HasG g x (k + 1) p := by
  obtain ⟨oc, od, kV, doc, pm, an, cdv, ct, osl, rfl, lk, hcd⟩ := F.ex
  refine ⟨f, _, ps, hm, F.kp, b, ?_⟩
  refine gfn_of lk hcd S (fun vs H Q E hp => ?_) fun A outer s H vs Q E pn hr hp => ?_
  · obtain ⟨F0, xs, M, kk, R, rs, hp, _⟩ := hp
    rw [← rs.length]
    exact (spec _ _ _ hp).1
  · obtain ⟨F0, xs, M, kk, R, rs, hp, hq⟩ := hp
    obtain ⟨_, hs⟩ := spec _ _ _ hp
    have gd : GoodS ⟨g, N, defScope st, k, none⟩ (gcxOf g.P g.w g.K g.mg g.base N qual (defScope st) f cdv A outer s H E pn) := ⟨⟨rfl, rfl, rfl, rfl, rfl, rfl, rfl, hr, rfl, (fun z => by rw [hgd] at z; cases z), fun _ z => (nomatch z)⟩, rfl, rfl, rfl, rfl, owns_gcx⟩
    rw [hb]
    refine ⟨_, gss_cons (gs_ps (h1 _ gd F0)) (gss_cons (gs_ps (h2 _ gd F0)) (gss_cons (gs_yieldFrom (yf_lst (h3 _ gd.toGood F0)) hr.hd (hi := by show interactive (envOfC qual (defScope st) s.heap.objs.size f cdv) = false; simp [interactive, envOfC, S.kind])) gss_nil)), ?_⟩
    refine ⟨F0, startQ N xs, M, _, ⟨Same.refl _, R, SRel.start rs⟩, hs, takes_noS, ⟨fun τ1 M1 F1 σ1 H1 n1 t1 r1 q1 => ?_, fun _ _ _ _ _ z => z.elim, fun _ _ _ _ _ z => z.elim, fun _ _ _ _ _ z => z.elim⟩⟩
    show lS _ F0 f2 _ σ1 H1
    refine ⟨F1, τ1, M1, _, ⟨t1, r1, q1⟩, n1, takes_noS, ⟨fun τ2 M2 F2 σ2 H2 n2 t2 r2 q2 => ?_, fun _ _ _ _ _ z => z.elim, fun _ _ _ _ _ z => z.elim, fun _ _ _ _ _ z => z.elim⟩⟩
    show lE _ F0 fe σ2 H2 _
    refine ⟨F2, τ2, M2, _, _, ⟨t1.trans t2, r2, q2⟩, n2, takes_no, fun r M' F' v H' hk s' r' e' => ?_⟩
    obtain ⟨a, ys, rfl, hM, hl, hkk⟩ := hk
    cases e'
    obtain ⟨us, e1, e2⟩ := r'.chg _ _ hM
    have hlen : us.length ≤ sizeLine := by rw [← e2.length]; exact hl
    refine ⟨a, us, rfl, e1, by rw [List.length_nil, Nat.zero_add]; exact hlen, ?_⟩
    show Q ([] ++ us) H'
    rw [List.nil_append]
    exact hq _ _ _ _ _ hkk ((t1.trans t2).trans s') r' e2
end Q
/-! parts of lists, zip -/
namespace Q
open PySem PySem.Spec PyProof.Rows L2
theorem reps_drop {K : Fg} {F : Hp} : ∀ {xs : List PV} {vs : List V} (n : Nat), Reps K F xs vs → Reps K F (xs.drop n) (vs.drop n)
  | _, _, 0, r => r
  | _, _, n + 1, .nil => .nil
  | _, _, n + 1, .cons _ r => reps_drop n r
theorem reps_take {K : Fg} {F : Hp} : ∀ {xs : List PV} {vs : List V} (n : Nat), Reps K F xs vs → Reps K F (xs.take n) (vs.take n)
  | _, _, 0, _ => .nil
  | _, _, n + 1, .nil => .nil
  | _, _, n + 1, .cons a r => .cons a (reps_take n r)
theorem reps_app {K : Fg} {F : Hp} : ∀ {xs ys : List PV} {vs ws : List V}, Reps K F xs vs → Reps K F ys ws → Reps K F (xs ++ ys) (vs ++ ws)
  | _, _, _, _, .nil, r => r
  | _, _, _, _, .cons a r, r' => .cons a (reps_app r r')
theorem reps_rev {K : Fg} {F : Hp} : ∀ {xs : List PV} {vs : List V}, Reps K F xs vs → Reps K F xs.reverse vs.reverse
  | _, _, .nil => .nil
  | _, _, .cons a r => by
    rw [List.reverse_cons, List.reverse_cons]
    exact reps_app (reps_rev r) (.cons a .nil)
def cutQ (xs : List PV) (lo hi : Option Int) : List PV := (xs.drop (HT.sIx xs.length 0 lo)).take (HT.sIx xs.length xs.length hi - HT.sIx xs.length 0 lo)
theorem reps_cut {K : Fg} {F : Hp} {xs : List PV} {vs : List V} {lo hi : Option Int} (r : Reps K F xs vs) : Reps K F (cutQ xs lo hi) (cutV vs lo hi) := by
  unfold cutQ cutV
  rw [r.length]
  exact reps_take _ (reps_drop _ r)
/-- a part of a list, new -/
def cutPL : PV → Option Int → Option Int → PM → PK → Prop
  | .lst xs, lo, hi, M, k => k (.lst (cutQ xs lo hi)) M
  | .ref a, lo, hi, M, k => ∃ xs, M a = some (.lst xs) ∧ k (.lst (cutQ xs lo hi)) M
  | _, _, _, _, _ => False
set_option autoImplicit true in
@[simp] theorem cutPL_s {l u : Option Int} : cutPL (.lst xs) l u M k = k (.lst (cutQ xs l u)) M := rfl
set_option autoImplicit true in
@[simp] theorem cutPL_r {l u : Option Int} : cutPL (.ref a) l u M k = ∃ xs, M a = some (.lst xs) ∧ k (.lst (cutQ xs l u)) M := rfl
@[simp] def qCutL (f : QE) (fl fh : QO) : QE := fun τ M x k => f τ M x fun p M1 => fl τ M1 x fun lo M2 => fh τ M2 x fun hi M3 => cutPL p lo hi M3 k
theorem de_cutL {c : Cf} {e : Expr} {lo hi : Option Expr} {p2 pos : Pos} {f : QE} {fl fh : QO} (he : DE c e f) (hl : DO c lo fl) (hh : DO c hi fh) : DE c (.Subscript e (.Slice lo hi none p2) pos) (qCutL f fl fh) := fun X g B => by
  refine (pe_slice sl_list (he X g B) (hl X g B) (hh X g B)).im fun σ H Q => ?_
  rintro ⟨F, τ, M, x, k, a, hf, tk, hk⟩
  refine ⟨F, τ, M, x, _, a, hf, tk, fun p M1 F1 v H1 h1 s1 r1 e1 => ?_⟩
  refine ⟨F1, τ, M1, x, _, a.next s1 r1, h1, tk, fun l M2 F2 H2 h2 s2 r2 => ?_⟩
  refine ⟨F2, τ, M2, x, _, (a.next s1 r1).next s2 r2, h2, tk, fun u M3 F3 H3 h3 s3 r3 => ?_⟩
  have fin : ∀ (xs : List PV) (vs : List V), Reps X.K F3 xs vs → k (.lst (cutQ xs l u)) M3 → ∀ p, H3 p = none → Q (.ref p) (upd H3 p (.lst (cutV vs l u))) := fun xs vs rs hk3 p hp => by
    obtain ⟨r4, s4⟩ := r3.newF hp (.lst (cutV vs l u))
    exact hk _ _ _ _ _ hk3 (((s1.trans s2).trans s3).trans s4) r4 (.lst upd_same ((reps_cut rs).mono s4))
  cases e1 with
  | lst hs rs =>
    have s13 := s2.trans s3
    exact ⟨_, _, rfl, SqL.of (r3.sub _ _ (s13 _ _ hs)), fin _ _ (rs.mono s13) h3⟩
  | ref b =>
    obtain ⟨xs, hM, h4⟩ := h3
    obtain ⟨vs, q1, q2⟩ := r3.chg _ _ hM
    exact ⟨_, _, rfl, SqL.of q1, fin _ _ q2 h4⟩
  | _ => exact h3.elim
def revPL : PV → PM → PK → Prop
  | .lst xs, M, k => k (.lst xs.reverse) M
  | .ref a, M, k => ∃ xs, M a = some (.lst xs) ∧ k (.lst xs.reverse) M
  | _, _, _ => False
set_option autoImplicit true in
@[simp] theorem revPL_s : revPL (.lst xs) M k = k (.lst xs.reverse) M := rfl
set_option autoImplicit true in
@[simp] theorem revPL_r : revPL (.ref a) M k = ∃ xs, M a = some (.lst xs) ∧ k (.lst xs.reverse) M := rfl
@[simp] def qRevL (f : QE) : QE := fun τ M x k => f τ M x fun p M1 => revPL p M1 k
theorem de_revL {c : Cf} {e : Expr} {j : Nat} {p1 p2 p3 pos : Pos} {f : QE} (he : DE c e f) : DE c (.Subscript e (.Slice none none (some (.UnaryOp .USub (.Constant (.int 1) j p1) p2)) p3) pos) (qRevL f) := fun X g B => by
  refine (pe_revL (he X g B)).im fun σ H Q => ?_
  rintro ⟨F, τ, M, x, k, a, hf, tk, hk⟩
  refine ⟨F, τ, M, x, _, a, hf, tk, fun p M1 F1 v H1 h1 s1 r1 e1 => ?_⟩
  have fin : ∀ (xs : List PV) (vs : List V), Reps X.K F1 xs vs → k (.lst xs.reverse) M1 → ∀ p, H1 p = none → Q (.ref p) (upd H1 p (.lst vs.reverse)) := fun xs vs rs hk3 p hp => by
    obtain ⟨r4, s4⟩ := r1.newF hp (.lst vs.reverse)
    exact hk _ _ _ _ _ hk3 (s1.trans s4) r4 (.lst upd_same ((reps_rev rs).mono s4))
  cases e1 with
  | lst hs rs => exact ⟨_, _, rfl, SqL.of (r1.sub _ _ hs), fin _ _ rs h1⟩
  | ref b =>
    obtain ⟨xs, hM, h4⟩ := h1
    obtain ⟨vs, q1, q2⟩ := r1.chg _ _ hM
    exact ⟨_, _, rfl, SqL.of q1, fin _ _ q2 h4⟩
  | _ => exact h1.elim
/-! ### zip of two lists -/
def zipQ (xs ys : List PV) : List PV := List.zipWith (fun x y => .tup [x, y]) xs ys
def iZ : List PV → PM → (List PV → (PM → Prop) → PM → Prop) → Prop
  | [.lst xs, .lst ys], M, k => k (zipQ xs ys) (fun _ => True) M
  | _, _, _ => False
set_option autoImplicit true in
@[simp] theorem iZ_s : iZ [.lst xs, .lst ys] M k = k (zipQ xs ys) (fun _ => True) M := rfl
@[simp] def iZip (fa : QA) : QI := fun τ M x k => fa τ M x fun ps M1 => iZ ps M1 k
theorem di_zip {c : Cf} {e e2 : Expr} {elts : List Expr} {kk : Nat} {p pos tpos : Pos} {fa : QA} (hgl : c.sc.names.lookup ("zip" : Str) = some .globalImplicit) (hm : c.g.mg ("zip" : Str) = none) (ha : DA c [e, e2] fa)
    (hs1 : ∀ env, starEach [e, e2] env = (false, eval e env) :: starEach [e2] env := by intro _; rfl) (hpl : ∀ env, (backTo pos (starEach [e2] env)).any (·.1) = false := by intro _; rfl) :
    DI c (.Tuple elts kk tpos) (.Call (.Name "zip" p) [e, e2] [] pos) (iZip fa) := fun X gd B =>
  (RZ.pi_zipA (gl_of gd.sc hgl) (by rw [gd.mg]; exact hm) (ha X gd B) (hs1 _) (hpl _)).im fun σ H R => by
    rintro ⟨F, τ, M, x, k, a, hf, tk, hk⟩
    refine ⟨F, τ, M, x, _, a, hf, tk, fun ps M1 F1 vs H1 h1 s1 r1 e1 => ?_⟩
    unfold iZ at h1
    split at h1
    · cases e1 with
      | cons e1 e2 =>
        cases e2 with
        | cons e3 e4 =>
          cases e4
          cases e1 with
          | lst hs rs =>
            cases e3 with
            | lst hs2 rs2 =>
              rename_i xs ys va vxs vb vys
              refine ⟨_, _, _, _, rfl, .inl ⟨SqL.of (r1.sub _ _ hs), SqL.of (r1.sub _ _ hs2), hk _ _ _ _ _ _ h1 s1 r1 fun F' M' H' s' r' _ => ?_⟩⟩
              have q1 := SqL.of (K := X.K) (r'.sub _ _ (s' _ _ hs))
              have q2 := SqL.of (K := X.K) (r'.sub _ _ (s' _ _ hs2))
              refine ⟨⟨_, _, q1, q2, ?_⟩, fun i z hz => ?_⟩
              · have l1 := rs.length
                have l2 := rs2.length
                simp only [zipQ, List.length_zipWith]
                omega
              · unfold zipQ at hz
                rw [List.getElem?_zipWith] at hz
                split at hz
                · rename_i x1 y1 hx1 hy1
                  cases hz
                  obtain ⟨u1, w1, w2⟩ := rs.get hx1
                  obtain ⟨u2, w3, w4⟩ := rs2.get hy1
                  refine ⟨⟨_, _, _, _, q1, q2, w1, w3⟩, fun v H2 ⟨T, x2, y2, z1, z2, z3, z4, z5⟩ => ?_⟩
                  subst z1; subst z3
                  have c1 := z4 _ q1
                  rw [w1] at c1
                  cases c1
                  have c2 := z5 _ q2
                  rw [w3] at c2
                  cases c2
                  obtain ⟨r2, s2⟩ := r'.newF z2 (.tup [u1, u2])
                  exact ⟨_, s2, r2, .tup (SqT.of upd_same) (.cons (w2.mono (s'.trans s2)) (.cons (w4.mono (s'.trans s2)) .nil))⟩
                · cases hz
    · exact h1.elim
end Q
/-! dicts that change -/
namespace Q
open PySem PySem.Spec PyProof.Rows L2
def putKV (kvs : List (Key × PV)) (k : Key) (v : PV) : List (Key × PV) := if (kvs.any fun kv => decide (kv.1 = k)) = true then kvs.map (fun kv => if kv.1 = k then (kv.1, v) else kv) else kvs ++ [(k, v)]
theorem repKV_any {K : Fg} {F : Hp} {k : Key} : ∀ {xs : List (Key × PV)} {vs : List (Key × V)}, RepKV K F xs vs → (xs.any fun kv => decide (kv.1 = k)) = (vs.any fun kv => decide (kv.1 = k))
  | _, _, .nil => rfl
  | _, _, .cons _ b => by rw [List.any_cons, List.any_cons, repKV_any b]
theorem repKV_map {K : Fg} {F : Hp} {k : Key} {x : PV} {v : V} (e : Rep K F x v) : ∀ {xs : List (Key × PV)} {vs : List (Key × V)}, RepKV K F xs vs → RepKV K F (xs.map fun kv => if kv.1 = k then (kv.1, x) else kv) (vs.map fun kv => if kv.1 = k then (kv.1, v) else kv)
  | _, _, .nil => .nil
  | _, _, .cons (k := k') a b => by
    rw [List.map_cons, List.map_cons]
    by_cases h : k' = k
    · simp only [h, if_true]
      exact .cons e (repKV_map e b)
    · simp only [h, if_false]
      exact .cons a (repKV_map e b)
theorem repKV_app {K : Fg} {F : Hp} : ∀ {xs ys : List (Key × PV)} {vs ws : List (Key × V)}, RepKV K F xs vs → RepKV K F ys ws → RepKV K F (xs ++ ys) (vs ++ ws)
  | _, _, _, _, .nil, r => r
  | _, _, _, _, .cons a b, r => .cons a (repKV_app b r)
theorem repKV_put {K : Fg} {F : Hp} {k : Key} {x : PV} {v : V} {xs : List (Key × PV)} {vs : List (Key × V)} (r : RepKV K F xs vs) (e : Rep K F x v) : RepKV K F (putKV xs k x) (putK vs k v) := by
  unfold putKV putK
  rw [repKV_any r]
  split
  · exact repKV_map e r
  · exact repKV_app r (.cons e .nil)
theorem getKV_none {K : Fg} {F : Hp} {k : Key} : ∀ {xs : List (Key × PV)} {vs : List (Key × V)}, RepKV K F xs vs → getKV xs k = none → valV vs k = none
  | _, _, .nil, _ => rfl
  | _, _, .cons (k := k') a b, h => by
    unfold getKV at h
    split at h
    · cases h
    · rename_i e
      rw [valV_neg e]
      exact getKV_none b h
/-- d[y] = v -/
def dPutP : PV → PV → PV → PM → (PM → Prop) → Prop
  | .ref a, y, v, M, k => ∃ kvs key, M a = some (.dK kvs) ∧ keyP y = some key ∧ kvs.length < sizeLine ∧ k (updM M a (.dK (putKV kvs key v)))
  | _, _, _, _, _ => False
set_option autoImplicit true in
@[simp] theorem dPutP_s : dPutP (.ref a) y v M k = ∃ kvs key, M a = some (.dK kvs) ∧ keyP y = some key ∧ kvs.length < sizeLine ∧ k (updM M a (.dK (putKV kvs key v))) := rfl
@[simp] def qDPut (fo fi fv : QE) : QS := fun d τ M => fv τ M (dx d τ) fun v M1 => fo τ M1 (dx d τ) fun o M2 => fi τ M2 (dx d τ) fun y M3 => dPutP o y v M3 fun M4 => d.nx τ M4
theorem ds_dput {c : Cf} {o i value : Expr} {pos pos' : Pos} {fo fi fv : QE} (ho : DE c o fo) (hi : DE c i fi) (hv : DE c value fv) (hs : ∀ env, swapsWith value (some (.Subscript o i pos')) pos.line env = pure false := by intro _; rfl) :
    DS c (.Assign [.Subscript o i pos'] value pos) (qDPut fo fi fv) := fun X g B => by
  have hu := g.room.un
  refine (ps_dput (by omega) (ho X g.toGood B) (hi X g.toGood B) (hv X g.toGood B) (hs _)).im fun D σ H => ?_
  rintro ⟨F, τ, M, d, a, hf, tk, hd⟩
  refine ⟨F, τ, M, _, _, a, hf, takes_x tk, fun v M1 F1 w H1 h1 s1 r1 e1 => ?_⟩
  refine ⟨F1, τ, M1, _, _, a.next s1 r1, h1, takes_x tk, fun po M2 F2 u H2 h2 s2 r2 e2 => ?_⟩
  refine ⟨F2, τ, M2, _, _, (a.next s1 r1).next s2 r2, h2, takes_x tk, fun y M3 F3 z H3 h3 s3 r3 e3 => ?_⟩
  cases e2 with
  | ref b =>
    obtain ⟨kvs, key, k1, k2, k3, k4⟩ := h3
    obtain ⟨ws, q1, q2⟩ := r3.chg _ _ k1
    have ek : z = kV key := by
      cases e3 <;> cases k2 <;> rfl
    refine ⟨b, _, rfl, .inl ⟨ws, key, q1, ek, by rw [← q2.length.1]; exact k3, rfl⟩, ?_⟩
    have s03 := (s1.trans s2).trans s3
    exact hd.nx _ _ _ _ _ k4 s03 (r3.put (r3.dis _ _ k1) (fun x q => by rw [q1] at q; cases q) ⟨_, upd_same, repKV_put q2 (e1.mono (s2.trans s3))⟩) (a.s.mono s03)
  | _ => exact h3.elim
/-- y in d -/
def opInD (neg : Bool) : Q2 := fun y p M k => ∃ a kvs key, p = .ref a ∧ M a = some (.dK kvs) ∧ keyP y = some key ∧ k (.bl (if neg then (getKV kvs key).isNone else (getKV kvs key).isSome)) M
theorem val_of {K : Fg} {F : Hp} {k : Key} {xs : List (Key × PV)} {vs : List (Key × V)} (r : RepKV K F xs vs) : (valV vs k).isSome = (getKV xs k).isSome := by
  cases e : getKV xs k with
  | none => rw [getKV_none r e]; rfl
  | some x =>
    obtain ⟨v, h, _⟩ := getKV_ok r e
    rw [h]; rfl
theorem oq_inD {c : Cf} : OQ c (compareOp .In) (opInD false) := fun X g pins s σ H x y v u Q I rx ry h => by
  have hu := g.room.un
  obtain ⟨F, p, q, M, k, R, ep, eq_, ⟨a, kvs, key, rfl, hM, hk1, ho⟩, hk⟩ := h
  cases eq_
  obtain ⟨ws, q1, q2⟩ := R.chg _ _ hM
  obtain rfl : u = Value.ref a := ry
  have ek : x = kV key := by
    cases ep <;> cases hk1 <;> rfl
  subst ek
  refine d_in (by omega) I (DGet.k q1) rx fun s3 I3 => ⟨.bl _, H, I3, rfl, ?_⟩
  rw [val_of q2]
  exact hk _ _ _ _ _ ho (Same.refl _) R (.bl _)
theorem oq_notinD {c : Cf} : OQ c (compareOp .NotIn) (opInD true) := fun X g pins s σ H x y v u Q I rx ry h => by
  have hu := g.room.un
  obtain ⟨F, p, q, M, k, R, ep, eq_, ⟨a, kvs, key, rfl, hM, hk1, ho⟩, hk⟩ := h
  cases eq_
  obtain ⟨ws, q1, q2⟩ := R.chg _ _ hM
  obtain rfl : u = Value.ref a := ry
  have ek : x = kV key := by
    cases ep <;> cases hk1 <;> rfl
  subst ek
  refine d_notIn (by omega) I (DGet.k q1) rx fun s3 I3 => ⟨.bl _, H, I3, rfl, ?_⟩
  have e : (!(valV ws key).isSome) = (getKV kvs key).isNone := by
    rw [val_of q2]
    cases getKV kvs key <;> rfl
  rw [e]
  exact hk _ _ _ _ _ ho (Same.refl _) R (.bl _)
end Q
/-! list(xs), xs.pop(i) -/
namespace Q
open PySem PySem.Spec PyProof.Rows L2
/-- what list and tuple are handed -/
theorem seq_at {X : Cx} {F : Hp} {M : PM} {H : Hp} {p : PV} {v : V} {f : List PV → Prop} (R : Rel X.K F M H) (e : Rep X.K F p v) (h : seqP p M f) : ∃ b xs vs, v = .ref b ∧ f xs ∧ Reps X.K F xs vs ∧ (SqL X.K H b vs ∨ SqT X.K H b vs) := by
  cases e with
  | tup hs rr => exact ⟨_, _, _, rfl, h, rr, .inr (sqT_mono R.sub hs)⟩
  | lst hs rr => exact ⟨_, _, _, rfl, h, rr, .inl (SqL.of (R.sub _ _ hs))⟩
  | rdl hs rr => exact ⟨_, _, _, rfl, h, rr, .inl (R.sub.seq hs)⟩
  | tpx hs rr => exact ⟨_, _, _, rfl, h, rr, .inr (sqT_mono R.sub hs.sq)⟩
  | ref b =>
    have h' : (match M b with | some (.lst xs) => f xs | _ => False) := h
    split at h'
    · rename_i xs e2
      obtain ⟨vs, e3, e4⟩ := R.getL e2
      exact ⟨_, _, _, rfl, h', e4, .inl (SqL.of e3)⟩
    · exact h'.elim
  | _ => exact h.elim
def cList : QC := fun ps M k => match ps with
  | [p] => seqP p M fun xs => k (.lst xs) M
  | _ => False
@[simp] theorem cList_s {p : PV} {M : PM} {k : PK} : cList [p] M k = seqP p M fun xs => k (.lst xs) M := rfl
theorem cq_list {c : Cf} : CQ c (.type "list") cList := fun X g pins s σ H xs us Q I r h => by
  refine call_list_of pins s σ H xs us Q I r ?_
  obtain ⟨F, ps, M, k, R, ep, ho, hk⟩ := h
  unfold cList at ho
  split at ho
  · cases ep with
    | cons e1 e2 =>
      cases e2
      obtain ⟨b, ys, vs, rfl, hf, rr, hs⟩ := seq_at R e1 ho
      refine ⟨b, vs, rfl, hs, fun l hl => ?_⟩
      obtain ⟨r2, s2⟩ := R.newF hl (.lst vs)
      exact hk _ _ _ _ _ hf s2 r2 (.lst upd_same (rr.mono s2))
  · exact ho.elim
/-- .. a list that will change -/
def cListM : QC := fun ps M k => match ps with
  | [p] => seqP p M fun xs => ∀ a, M a = none → k (.ref a) (updM M a (.lst xs))
  | _ => False
@[simp] theorem cListM_s {p : PV} {M : PM} {k : PK} : cListM [p] M k = seqP p M fun xs => ∀ a, M a = none → k (.ref a) (updM M a (.lst xs)) := rfl
theorem cq_listM {c : Cf} : CQ c (.type "list") cListM := fun X g pins s σ H xs us Q I r h => by
  refine call_list_of pins s σ H xs us Q I r ?_
  obtain ⟨F, ps, M, k, R, ep, ho, hk⟩ := h
  unfold cListM at ho
  split at ho
  · cases ep with
    | cons e1 e2 =>
      cases e2
      obtain ⟨b, ys, vs, rfl, hf, rr, hs⟩ := seq_at R e1 ho
      exact ⟨b, vs, rfl, hs, fun l hl => hk _ _ _ _ _ (hf l (R.fresh hl).2) (Same.refl _) (R.newL hl rr) (.ref l)⟩
  · exact ho.elim
theorem reps_erase {K : Fg} {F : Hp} : ∀ {xs : List PV} {vs : List V} (n : Nat), Reps K F xs vs → Reps K F (xs.eraseIdx n) (vs.eraseIdx n)
  | _, _, _, .nil => .nil
  | _, _, 0, .cons _ r => r
  | _, _, n + 1, .cons a r => .cons a (reps_erase n r)
/-- xs.pop(i), i from the front -/
def popAtP (a : Addr) : PV → PM → PK → Prop
  | .int i, M, k => ∃ xs y, M a = some (.lst xs) ∧ 0 ≤ i ∧ i < xs.length ∧ xs.length ≤ 1000000 ∧ xs[i.toNat]? = some y ∧ k y (updM M a (.lst (xs.eraseIdx i.toNat)))
  | _, _, _ => False
set_option autoImplicit true in
@[simp] theorem popAtP_s : popAtP a (.int i) M k = ∃ xs y, M a = some (.lst xs) ∧ 0 ≤ i ∧ i < xs.length ∧ xs.length ≤ 1000000 ∧ xs[i.toNat]? = some y ∧ k y (updM M a (.lst (xs.eraseIdx i.toNat))) := rfl
@[simp] def qPopAt (fo fe : QE) : QE := fun τ M x k => fo τ M x fun p M1 => isLst p M1 fun a => fe τ M1 x fun y M2 => popAtP a y M2 k
theorem de_popAt {c : Cf} {o e : Expr} {apos cpos : Pos} {fo fe : QE} (ho : DE c o fo) (he : DE c e fe) (hbase : ∀ env, attributeBase o "pop" env (eval o env) = eval o env := by intro _; rfl)
    (hfew : ∀ env, ((backTo cpos (starEach [e] env)).all (fun x => !x.1) && (backToKw cpos (keywordEach [] env)).all (fun x => x.1.isSome) && decide (([e] : List Expr).length + ([] : List Keyword).length + (if ([] : List Keyword).isEmpty then 0 else 1) < 30)) = true := by intro _; rfl)
    (hline : (apos.endLine == cpos.line) = true := by rfl) (hs : ∀ env, starEach [e] env = (false, eval e env) :: starEach [] env := by intro _; rfl) (hpl : ∀ env, (backTo cpos (starEach [] env)).any (·.1) = false := by intro _; rfl) :
    DE c (.Call (.Attribute o "pop" apos) [e] [] cpos) (qPopAt fo fe) := fun X g B => by
  refine (pe_bm PySem.F.plainAttrs_list PySem.F.slot_list_pop PySem.F.type_list_pop (show MtR X _ _ from mt_popAt) (ho X g B) (pa_cons (he X g B) pa_nil (hs _)) (hbase _) (hfew _) hline (hs _) (hpl _)).im fun σ H Q => ?_
  rintro ⟨F, τ, M, x, k, a, hf, tk, hk⟩
  refine ⟨F, τ, M, x, _, a, hf, tk, fun p M1 F1 v H1 h1 s1 r1 e1 => ?_⟩
  obtain ⟨b, rfl, rfl, h1, ty⟩ := isLst_ok r1 e1 h1
  refine ⟨ty, F1, τ, M1, x, _, a.next s1 r1, h1, tk, fun y M2 F2 w H2 h2 s2 r2 e2 => ?_⟩
  cases e2 with
  | int i =>
    obtain ⟨xs, z, hM, h0, h1', hl, hz, hk2⟩ := h2
    obtain ⟨vs, q1, q2⟩ := r2.getL hM
    obtain ⟨u, w1, w2⟩ := q2.get hz
    have hlen := q2.length
    refine ⟨b, vs, i, i.toNat, u, rfl, rfl, q1, by omega, by omega, ?_, w1, hk _ _ _ _ _ hk2 (s1.trans s2) (r2.setL hM (reps_erase _ q2)) w2⟩
    rw [← hlen]
    unfold seqIndex?
    simp
    omega
  | _ => exact h2.elim
end Q
/-! all(xs), t.index(i) -/
namespace L2
open PySem PySem.Spec PyProof.Rows
/-- where i stands first in a tuple of ints -/
theorem mt_indexI {X : Cx} : MtR X "tuple.index" (fun x xs H Q => ∃ p, ∃ ys : List Int, ∃ z j, x = .ref p ∧ xs = [.int z] ∧ SqT X.K H p (ys.map V.int) ∧ ys[j]? = some z ∧ (∀ m, m < j → ys[m]? ≠ some z) ∧ Q (.int (j : Nat)) H) := by
  intro pins s σ H x xs v us Q I rx rs h
  obtain ⟨p, ys, z, j, rfl, rfl, hq, hy, hno, q⟩ := h
  cases rx
  obtain ⟨u, rfl, t, rfl⟩ := vals1 rs
  obtain ⟨its, r, ⟨ob, ho, hc, n, hd⟩, hz⟩ := I.tuple hq
  obtain ⟨cls, dd, dt, sl⟩ := ob
  simp only at hc hd
  subst hc
  subst hd
  have size : its.toArray.size = ys.length := by rw [List.size_toArray, ← r.length, List.length_map]
  have here : ∀ (m : Nat) (hm : m < its.toArray.size), ∃ y t', ys[m]? = some y ∧ its.toArray[m] = Value.int y t' := fun m hm => by
    have hm' : m < ys.length := by rw [← size]; exact hm
    obtain ⟨w, hw, t', hw'⟩ := r.get (i := m) (x := .int ys[m]) (by simp [hm'])
    refine ⟨ys[m], t', List.getElem?_eq_getElem hm', ?_⟩
    rw [← hw', ← (List.getElem?_eq_some_iff.mp hw).2]
    simp
  have hj : j < its.toArray.size := by rw [size]; exact (List.getElem?_eq_some_iff.mp hy).1
  have flat : (ys.map V.int).all flatV = true := by
    rw [List.all_map]
    exact List.all_eq_true.mpr fun _ _ => rfl
  refine call_meets PySem.F.slot_tuple_index ⟨_, ho, rfl⟩ PySem.F.entry_tuple_index (PySem.F.args_tuple_index_2 _ _) (TI.tuple_indexAt p its.toArray n dd sl (.int z t) (eqU (.int z)) j hj ?_ ?_)
    ⟨ho, fun w hw => mem_eqAt (x := .int z) ⟨t, rfl⟩ rfl r flat w (by simpa using hw), ⟨.int (j : Nat), H, I.tok _, ⟨_, rfl⟩, q⟩⟩
  · obtain ⟨y, t', h1, h2⟩ := here j hj
    rw [hy] at h1
    cases h1
    rw [h2]
    show (z == z) = true
    exact beq_self_eq_true z
  · intro m hm hmj
    obtain ⟨y, t', h1, h2⟩ := here m hm
    rw [h2]
    show (y == z) = false
    exact beq_eq_false_iff_ne.mpr fun e => hno m hmj (e ▸ h1)
end L2
namespace Q
open PySem PySem.Spec PyProof.Rows L2
def blsOf : List PV → Option (List Bool)
  | [] => some []
  | .bl b :: r => match blsOf r with
    | some bs => some (b :: bs)
    | none => none
  | _ :: _ => none
theorem blsOf_map : ∀ bs : List Bool, blsOf (bs.map PV.bl) = some bs
  | [] => rfl
  | b :: bs => by
    show (match blsOf (bs.map PV.bl) with | some cs => some (b :: cs) | none => none) = _
    rw [blsOf_map bs]
theorem blsOf_ok {K : Fg} {F : Hp} : ∀ {xs : List PV} {vs : List V} {bs : List Bool}, Reps K F xs vs → blsOf xs = some bs → vs = bs.map V.bl
  | _, _, _, .nil, h => by cases h; rfl
  | _, _, _, .cons (x := x) a r, h => by
    cases x with
    | bl b =>
      have h' : (match blsOf _ with | some cs => some (b :: cs) | none => none) = some _ := h
      split at h'
      · rename_i cs hc
        cases h'
        cases a
        rw [blsOf_ok r hc]
        rfl
      · cases h'
    | _ => cases h
/-- all(xs) of bools -/
def cAll : QC := fun ps M k => match ps with
  | [.lst xs] => ∃ bs, blsOf xs = some bs ∧ k (.bl (bs.all id)) M
  | _ => False
@[simp] theorem cAll_s {xs : List PV} {M : PM} {k : PK} : cAll [.lst xs] M k = ∃ bs, blsOf xs = some bs ∧ k (.bl (bs.all id)) M := rfl
theorem cq_all {c : Cf} : CQ c (.builtin "all") cAll := fun X g pins s σ H xs us Q I r h => by
  refine cr_all g.calm pins s σ H xs us Q I r ?_
  obtain ⟨F, ps, M, k, R, ep, ho, hk⟩ := h
  unfold cAll at ho
  split at ho
  · cases ep with
    | cons e1 e2 =>
      cases e2
      cases e1 with
      | lst hs rs =>
        obtain ⟨bs, h1, h2⟩ := ho
        have e := blsOf_ok rs h1
        subst e
        exact ⟨_, bs, rfl, SqL.of (R.sub _ _ hs), hk _ _ _ _ _ h2 (Same.refl _) R (.bl _)⟩
  · exact ho.elim
theorem bt_all : bootBuiltins "all" = some (.builtin "all") := by decide +kernel
/-- t.index(i) -/
def tixP : PV → PV → PM → PK → Prop
  | .tup xs, .int z, M, k => ∃ ns j, intsOf xs = some ns ∧ ns[j]? = some z ∧ (∀ m, m < j → ns[m]? ≠ some z) ∧ k (.int (j : Nat)) M
  | _, _, _, _ => False
set_option autoImplicit true in
@[simp] theorem tixP_s : tixP (.tup xs) (.int z) M k = ∃ ns j, intsOf xs = some ns ∧ ns[j]? = some z ∧ (∀ m, m < j → ns[m]? ≠ some z) ∧ k (.int (j : Nat)) M := rfl
end Q
namespace Q
open PySem PySem.Spec PyProof.Rows L2
/-- {key: value} -/
@[simp] def qDict1 (fk fv : QE) : QE := fun τ M x k => ∀ p, M p = none → fk τ (updM M p (.dK [])) x fun y M1 => fv τ M1 x fun v M2 => ∃ key, keyP y = some key ∧ M2 p = some (.dK []) ∧ k (.ref p) (updM M2 p (.dK [(key, v)]))
theorem de_dict1 {c : Cf} {pos : Pos} {ke ve : Expr} {fk fv : QE} (hk : DE c ke fk) (hv : DE c ve fv) : DE c (.Dict [some ke] [ve] pos) (qDict1 fk fv) := fun X g B => by
  refine (pe_disp (pps_cons (hk X g B) (hv X g B) pps_nil) rfl rfl (fun z => nomatch z) (show 1 ≤ 15 by decide)).im fun σ H Q => ?_
  rintro ⟨F, τ, M, x, k, a, hf, tk, hk0⟩ p hp
  have hF := a.r.fresh hp
  have r1 : Rel X.K F (updM M p (.dK [])) (upd H p (.dK [])) := a.r.put hF.1 (fun x e => by rw [hp] at e; cases e) ⟨[], upd_same, .nil⟩
  have a1 : At X.K B F τ (updM M p (.dK [])) σ (upd H p (.dK [])) := ⟨a.b, r1, a.s⟩
  refine ⟨F, τ, updM M p (.dK []), x, _, a1, hf p hF.2, tk, fun y M1 F1 v H1 h1 s1 q1 e1 => ?_⟩
  refine ⟨F1, τ, M1, x, _, a1.next s1 q1, h1, tk, fun z M2 F2 w H2 h2 s2 q2 e2 => ?_⟩
  obtain ⟨key, k1, k2, k3⟩ := h2
  obtain ⟨us, u1, u2⟩ := q2.chg p _ k2
  cases u2
  have ek : v = kV key := by
    cases e1 <;> cases k1 <;> rfl
  refine ⟨u1, [(key, w)], by rw [ek]; rfl, (show 1 ≤ 15 by decide), ?_⟩
  rw [mergeK_nodup [(key, w)] [] (by simp), List.nil_append]
  exact hk0 _ _ _ _ _ k3 (s1.trans s2) (q2.put (q2.dis p _ k2) (fun x z => by rw [u1] at z; cases z) ⟨[(key, w)], upd_same, .cons e2 .nil⟩) (.ref p)
end Q
/-! list(zip([], g)) -/
namespace L2
open PySem PySem.Spec PyProof.Rows
abbrev zgH1 (h : Heap) (l1 : Addr) : Heap := h.push { cls := .type "list_iterator", data := .fields #[.ref l1, .int 0 0] }
abbrev zgH2 (h : Heap) (l1 a : Addr) : Heap := (zgH1 h l1).push { cls := .type "tuple", data := .seq #[.ref h.objs.size, .ref a] }
abbrev zgH3 (h : Heap) (l1 a : Addr) : Heap := (zgH2 h l1 a).push { cls := .type "tuple", data := .seq #[.none, .none] }
abbrev zgH4 (h : Heap) (l1 a : Addr) : Heap := (zgH3 h l1 a).push { cls := .type "zip", data := .fields #[.none, .bool false, .bool false, .ref (zgH1 h l1).objs.size, .ref (zgH2 h l1 a).objs.size] }
theorem zg_new (l1 a g : Nat) (xs : Array Value) :
    Meets (Builtin.«zip.__new__» ⟨[.type "zip", .ref l1, .ref a], []⟩) (fun _ R s => s.heap.IsList l1 xs ∧ s.heap.IsGen a g ∧
      R (.ok (.ret (.ref (zgH3 s.heap l1 a).objs.size))) { s with heap := zgH4 s.heap l1 a }) :=
  .of_wp fun prog w A R s h => by
    obtain ⟨hp, gg, d, tk, os⟩ := s; obtain ⟨hl1, hl2, h⟩ := h
    have hsub := sub_zip
    have hL1 : Heap.IsList (Shared.heap ⟨hp, gg, d, tk, os⟩) l1 xs := hl1
    have hL2 : Heap.IsGen (Shared.heap ⟨hp.push { cls := .type "list_iterator", data := .fields #[.ref l1, .int 0 0] }, gg, d, tk, os⟩) a g := hl2.keeps fun b o e => Heap.get?_push_of_some _ e
    wp_walk using wpAny_pyIter_list hL1, wpAny_pyIter_gen hL2
    exact ⟨_, rfl, h⟩
section
variable {prog : Program} {w : World} {A : Around} {E : Value → Shared → Prop} {s : Shared}
theorem zg_call {l1 a g : Nat} {xs : Array Value} {Q : Value → Shared → Prop} (hl1 : s.heap.IsList l1 xs) (hg : s.heap.IsGen a g)
    (h : ∀ h', IsZip h' (s.heap.objs.size + 3) (s.heap.objs.size + 1) (s.heap.objs.size + 2) .none → IsPair h' (s.heap.objs.size + 1) (.ref s.heap.objs.size) (.ref a) →
      h'.IsListIter s.heap.objs.size l1 0 → h'.objs.size = s.heap.objs.size + 4 → (∀ c o, s.heap.get? c = some o → h'.get? c = some o) → Q (.ref (s.heap.objs.size + 3)) { s with heap := h' }) :
    wpAny (model prog w) A (call (.type "zip") [.ref l1, .ref a]) Q E s := by
  refine callType_new F.called_zip (by decide) (F.typeCall_zip_2 _ _) (F.newCall_zip_2 _ _) (fun obj => F.args_object_init_3 obj _ _) F.entry_zip_new (zg_new l1 a g xs) ⟨hl1, hg, ?_⟩
  have z1 : (zgH1 s.heap l1).objs.size = s.heap.objs.size + 1 := Heap.size_push ..
  have z2 : (zgH2 s.heap l1 a).objs.size = s.heap.objs.size + 2 := by rw [Heap.size_push, z1]
  have z3 : (zgH3 s.heap l1 a).objs.size = s.heap.objs.size + 3 := by rw [Heap.size_push, z2]
  have z4 : (zgH4 s.heap l1 a).objs.size = s.heap.objs.size + 4 := by rw [Heap.size_push, z3]
  have g4 : (zgH4 s.heap l1 a).get? (zgH3 s.heap l1 a).objs.size = some _ := Heap.get?_push_size _ rfl
  have g2 : (zgH4 s.heap l1 a).get? (zgH1 s.heap l1).objs.size = some _ := Heap.get?_push_of_some _ (Heap.get?_push_of_some _ (Heap.get?_push_size _ rfl))
  have g1 : (zgH4 s.heap l1 a).get? s.heap.objs.size = some _ := Heap.get?_push_of_some _ (Heap.get?_push_of_some _ (Heap.get?_push_of_some _ (Heap.get?_push_size _ rfl)))
  show _ ∧ _
  rw [z1, z2, z3] at g4
  rw [z1] at g2
  rw [z3]
  exact ⟨⟨_, g4, rfl⟩, h _ g4 g2 ⟨_, g1, rfl, rfl⟩ z4 fun c o x => Heap.get?_push_of_some _ (Heap.get?_push_of_some _ (Heap.get?_push_of_some _ (Heap.get?_push_of_some _ x)))⟩
theorem zg_end {z TI TO i1 l1 : Addr} {v2 : Value} {k1 : Nat} {xs : Array Value} {Q : Fin → Shared → Prop} (hh : A.handled = none) (hi : i1 ≠ z) (hl : l1 ≠ z)
    (hz : IsZip s.heap z TI TO .none) (hTI : IsPair s.heap TI (.ref i1) v2) (h1 : s.heap.IsListIter i1 l1 k1) (hl1 : s.heap.IsList l1 xs) (hx : xs[k1]? = none)
    (hE : ∀ h' e, (∀ c o, c ≠ z → c ≠ i1 → s.heap.get? c = some o → h'.get? c = some o) → (∃ o, h'.get? e = some o ∧ o.cls = .type "StopIteration") → E (.ref e) { s with heap := h' }) :
    wpAny (model prog w) A (Builtin.«zip.__next__» ⟨[.ref z], []⟩) Q E s := by
  show wpAny _ _ (field (.ref z) 2 >>= _) _ _ _
  refine wpAny_bind (wpAny_field hz rfl (x := .bool false) rfl ?_)
  show wpAny _ _ (field (.ref z) 3 >>= _) _ _ _
  refine wpAny_bind (wpAny_field hz rfl (x := .ref TI) rfl ?_)
  refine wpAny_bind (wpAny_seqItems hTI rfl ?_)
  show wpAny _ _ (Builtin.SmallTypes.ownedTupleIsFree (.ref z) >>= _) _ _ _
  refine wpAny_bind ?_
  unfold Builtin.SmallTypes.ownedTupleIsFree
  refine wpAny_bind (wpAny_field hz rfl (x := .none) rfl (wpAny_pure ?_))
  simp only [if_true]
  refine wpAny_bind (wpAny_rule ?_)
  refine wpAny_bind (wpAny_field hz rfl (x := .ref TO) rfl ?_)
  refine wpAny_bind (wpAny_setField_rec hz (by simp) fun h₁ hz₁ hs₁ => ?_)
  replace hz₁ : IsZip h₁ z TI TO .ellipsis := hz₁
  refine wpAny_bind ?_
  simp only [List.zipIdx_cons, List.zipIdx_nil, List.forIn_cons, List.forIn_nil]
  refine wpAny_bind (wpAny_bind (wpAny_onRaise ?_))
  show wpAny _ _ (Builtin.SmallTypes.nextOf (.ref i1) >>= _) _ _ _
  refine wpAny_bind (wpAny_nextOf_list_end hh (h1.extBut hs₁.extBut hi) (hl1.extBut hs₁.extBut hl) hx fun h₂ e hs₂ he => ?_)
  obtain ⟨oe, hoe, hce⟩ := he
  have hz₂ : IsZip h₂ z TI TO .ellipsis := hs₂ _ _ hi.symm hz₁
  have hez : e ≠ z := fun x => by subst x; rw [hz₂] at hoe; cases hoe; simp at hce
  exact wpAny_setField_rec hz₂ (by simp) fun h₃ _ hs₃ => hE h₃ e (fun c o c1 c3 x => hs₃.extBut _ _ c1 (hs₂ _ _ c3 (hs₁.extBut _ _ c1 x))) ⟨oe, hs₃.extBut _ _ hez hoe, hce⟩
theorem zg_none {z TI TO i1 l1 : Addr} {v2 : Value} {k1 : Nat} {xs : Array Value} {Q : Option Value → Shared → Prop} (hh : A.handled = none) (hi : i1 ≠ z) (hl : l1 ≠ z)
    (hz : IsZip s.heap z TI TO .none) (hTI : IsPair s.heap TI (.ref i1) v2) (h1 : s.heap.IsListIter i1 l1 k1) (hl1 : s.heap.IsList l1 xs) (hx : xs[k1]? = none)
    (hQ : ∀ h', (∀ c o, c ≠ z → c ≠ i1 → s.heap.get? c = some o → h'.get? c = some o) → Q none { s with heap := h' }) : wpAny (model prog w) A (pyNext (.ref z)) Q E s := by
  have hT : s.TypeIs (.ref z) "zip" := ⟨_, hz, rfl⟩
  unfold pyNext
  refine wpAny_bind (wpAny_attempt (wpAny_callSpecial?_slot (name := Str.ofString "__next__") hT F.slot_zip_next
    (wpAny_call_entry F.slot_zip_next hT F.entry_zip_next (zg_end hh hi hl hz hTI h1 hl1 hx fun h' e hk he => ?_) (F.args_zip_next_1 _))))
  obtain ⟨o, ho, hc⟩ := he
  refine wpAny_bind (wpAny_isInstance (T := "StopIteration") (b := true) ⟨o, ho, hc⟩ isSubtype_stop ?_)
  exact wpAny_pure (hQ _ hk)
theorem zip_no_len : typeLookup (.type "zip") "__len__" = pure none := by rw [typeLookup_type, builtinLookup_eq_fast]; kernel_rfl
theorem zip_no_hint : typeLookup (.type "zip") "__length_hint__" = pure none := by rw [typeLookup_type, builtinLookup_eq_fast]; kernel_rfl
theorem zg_list {z TI TO i1 l1 : Addr} {v2 : Value} {k1 : Nat} {xs : Array Value} {Q : Value → Shared → Prop} (hh : A.handled = none) (hi : i1 ≠ z) (hl : l1 ≠ z)
    (hz : IsZip s.heap z TI TO .none) (hTI : IsPair s.heap TI (.ref i1) v2) (h1 : s.heap.IsListIter i1 l1 k1) (hl1 : s.heap.IsList l1 xs) (hx : xs[k1]? = none)
    (hQ : ∀ h' c, (∀ b o, b ≠ z → b ≠ i1 → s.heap.get? b = some o → h'.get? b = some o) → h'.get? s.heap.objs.size = some (lstObj #[] c) → Q (.ref s.heap.objs.size) { s with heap := h' }) :
    wpAny (model prog w) A (call (.type "list") [.ref z]) Q E s := by
  have hSz : s.heap.objs.size ≠ z := Nat.ne_of_gt (Heap.lt_size hz)
  have hSi : s.heap.objs.size ≠ i1 := by obtain ⟨_, e, _⟩ := h1; exact Nat.ne_of_gt (Heap.lt_size e)
  refine callType_codes (Q₁ := fun obj s₁ => obj = .ref s.heap.objs.size ∧ s₁ = { s with heap := s.heap.push { cls := .type "list", data := .seq #[] } }) F.called_list (F.typeCall_list_1 _) F.entry_list_init
    (code_list_new _ ⟨rfl, rfl⟩) fun obj s₁ h₁ => ?_
  obtain ⟨rfl, rfl⟩ := h₁
  have hS : (s.heap.push { cls := .type "list", data := .seq #[] }).get? s.heap.objs.size = some { cls := .type "list", data := .seq #[] } := Heap.get?_push_size _ rfl
  refine ⟨⟨_, hS, rfl⟩, F.args_list_init_2 _ _, ?_⟩
  show wpAny _ A.in1.in1 (do let old ← Builtin.List.listItems (.ref s.heap.objs.size); Builtin.List.listUpdate (.ref s.heap.objs.size) (fun _ => #[]); letGo old.toList.reverse; Builtin.List.listExtendWith (.ref s.heap.objs.size) (.ref z) .none) _ _ _
  refine wpAny_bind ?_
  unfold Builtin.List.listItems
  refine wpAny_bind (wpAny_seqItems hS rfl (wpAny_pure ?_))
  show wpAny _ A.in1.in1 (updateSeq s.heap.objs.size (fun _ => #[]) >>= fun _ => letGo (#[] : Array Value).toList.reverse >>= fun _ => Builtin.List.listExtendWith (.ref s.heap.objs.size) (.ref z) .none) _ _ _
  refine wpAny_bind (wpAny_updateSeq hS rfl ?_)
  have hS2 := Heap.get?_update_self (Obj.mapSeq (fun _ => (#[] : Array Value))) hS rfl
  refine wpAny_bind (wpAny_letGo ?_)
  unfold Builtin.List.listExtendWith
  have up : ∀ (h : Heap) (f : Obj → Obj), (∀ b o, s.heap.get? b = some o → h.get? b = some o) → ∀ b o, s.heap.get? b = some o → (h.update s.heap.objs.size f).get? b = some o := fun h f q b o e =>
    (Heap.get?_update_other _ _ (Ne.symm (Nat.ne_of_lt (Heap.lt_size e)))).trans (q b o e)
  have k1' : ∀ b o, s.heap.get? b = some o → (s.heap.push { cls := .type "list", data := .seq #[] }).get? b = some o := fun b o e => Heap.get?_push_of_some _ e
  have k2 := up _ (Obj.mapSeq (fun _ => (#[] : Array Value))) k1'
  have zty : ∀ {h : Heap}, (∀ b o, s.heap.get? b = some o → h.get? b = some o) → ({ s with heap := h } : Shared).TypeIs (.ref z) "zip" := fun {h} q => ⟨_, q _ _ hz, rfl⟩
  refine wpAny_bind (wpAny_typeOf (zty k2) ?_)
  have h1' : Builtin.List.listSameRef (.ref s.heap.objs.size) (.ref z) = false := by simp [Builtin.List.listSameRef, hSz]
  have h2 : (Value.type "zip" == Value.type "list") = false := by decide
  have h3 : (Value.type "zip" == Value.type "tuple") = false := by decide
  simp only [h1', h2, h3, Bool.or_false, Bool.false_eq_true, if_false]
  refine wpAny_bind (wpAny_pyIter_zip (s := { s with heap := _ }) (k2 _ _ hz) ?_)
  refine wpAny_bind (wpAny_holding ?_)
  unfold Builtin.List.listLengthHint
  refine wpAny_bind (wpAny_specialOf (zty k2) zip_no_len ?_)
  show wpAny _ A.in1.in1 (specialOf (Value.ref z) (Str.ofString "__length_hint__") >>= _) _ _ _
  refine wpAny_bind (wpAny_specialOf (zty k2) zip_no_hint ?_)
  refine wpAny_pure ?_
  show wpAny _ A.in1.in1 (rule "list.extend.makes-room" >>= fun _ => Builtin.List.listTouch (.ref s.heap.objs.size) >>= fun _ =>
    again (.builtin "list.extend.loop" ⟨[.ref s.heap.objs.size, .ref z, .none], []⟩)) _ _ _
  refine wpAny_bind (wpAny_rule ?_)
  refine wpAny_bind ?_
  show wpAny _ A.in1.in1 (updateSeq s.heap.objs.size (·.push .none) >>= fun _ => updateSeq s.heap.objs.size (·.pop)) _ _ _
  refine wpAny_bind (wpAny_updateSeq hS2 rfl ?_)
  have hS3 := Heap.get?_update_self (Obj.mapSeq (·.push Value.none)) hS2 rfl
  refine wpAny_updateSeq (hz := by seq_fits) hS3 rfl ?_
  have hS4 := Heap.get?_update_self (Obj.mapSeq (·.pop)) hS3 rfl
  have k4 := up _ (Obj.mapSeq (·.pop)) (up _ (Obj.mapSeq (·.push Value.none)) k2)
  refine wpAny_pure ⟨plainId_quiet F.plain_extend_loop _, ?_⟩
  refine codeAny_builtin F.entry_extend_loop ?_
  rw [Around.under_plainId F.plain_extend_loop _]
  show wpAny _ _ (pyNext (.ref z) >>= _) _ _ _
  refine wpAny_bind (zg_none hh hi hl (k4 _ _ hz) (k4 _ _ hTI) (by obtain ⟨o, e, r⟩ := h1; exact ⟨o, k4 _ _ e, r⟩) (by obtain ⟨o, e, r⟩ := hl1; exact ⟨o, k4 _ _ e, r⟩) hx fun h' hk => ?_)
  exact wpAny_pure ⟨rfl, hQ h' _ (fun b o n1 n2 e => hk b o n1 n2 (k4 b o e)) (hk _ _ hSz hSi hS4)⟩
end
end L2
/-! generator defs that may raise -/
namespace Q
open PySem PySem.Spec PyProof.Rows L2
abbrev PSpX := List PV → PM → (List PV → PM → Prop) → PX → Prop
def NoSt (K : Fg) (y : Str) : Prop := ∀ cls, PySem.W.nsIn K mainGlobals y = some (some cls) → PySem.W.subIn K cls (.type "StopIteration") = some false
theorem nost_at {K : Fg} {y : Str} {C : Value} (a : PySem.W.nsIn K mainGlobals y = some (some C)) (b : PySem.W.subIn K C (.type "StopIteration") = some false) : NoSt K y := fun cls h => by
  rw [a] at h
  cases h
  exact b
def toSpX (K : Fg) (ys : List Str) (p : PSpX) : SpG := fun vs H Q E => ∃ F ps M k x, Rel K F M H ∧ Reps K F ps vs ∧ p ps M k x ∧ (∀ out M' F' us H', k out M' → Same F F' → Rel K F' M' H' → Reps K F' out us → Q us H') ∧
  ∀ e M' F' cls d H', e.nm ∈ ys → x e M' → Same F F' → Rel K F' M' H' → ExRep K F' e cls d → E cls d H'
structure HasX (g : Glb) (x : Str) (k : Nat) (ys : List Str) (p : PSpX) : Prop where
  ok : ∃ (f : Addr) (fd : FuncData) (ps : List Str), g.mg x = some (.ref f) ∧ PySem.W.keepIn g.K (.ref f) = true ∧ Binds g.K fd ps [] ∧ GFn g.P g.w g.K g.mg g.base k f fd ps (toSpX g.K ys p)
  nost : ∀ y ∈ ys, NoSt g.K y
/-- list(f(..)) -/
@[simp] def qListX (p : PSpX) (fa : QA) : QE := fun τ M x k => fa τ M x fun ps M1 => p ps M1 (fun out M2 => k (.lst out) M2) x
theorem de_listX {c : Cf} {x : Str} {k : Nat} {ys : List Str} {p : PSpX} {e : Expr} {es : List Expr} {fa : QA} {p1 p2 pos pos' : Pos} (h : HasX c.g x k ys p) (ha : DA c (e :: es) fa) (hl : c.g.mg ("list" : Str) = none) (hgl : c.sc.names.lookup ("list" : Str) = some .globalImplicit := by rfl)
    (hk : k + 3 ≤ c.k := by exact Nat.le_of_ble_eq_true rfl) (hg : c.sc.names.lookup x = some .globalImplicit := by rfl) (hdb : (x == ("__debug__" : Str)) = false := by decide)
    (he : ∀ env, starEach (e :: es) env = (false, eval e env) :: starEach es env := by intro _; rfl) (hpl : ∀ env, (backTo pos' (starEach es env)).any (·.1) = false := by intro _; rfl)
    (he1 : ∀ env, starEach [.Call (.Name x p1) (e :: es) [] pos'] env = (false, eval (.Call (.Name x p1) (e :: es) [] pos') env) :: starEach [] env := by intro _; rfl) :
    DE c (.Call (.Name "list" p2) [.Call (.Name x p1) (e :: es) [] pos'] [] pos) (qListX p fa) := fun X g B => by
  obtain ⟨⟨f, fd, ps, h1, h2, h3, F⟩, nost⟩ := h
  have F' : GFn X.prog X.w X.K X.mg X.base k f fd ps (toSpX X.K ys p) := by rw [g.prog, g.w, g.K, g.mg, g.base]; exact F
  refine ⟨fun pins s σ H Q I hq => ?_⟩
  obtain ⟨F0, τ, M, x0, k0, a, hf, tk, hk0⟩ := hq
  have pg := pgen_call (X := X) (E := fun cls d H' => ∃ F' M' e, Same B F' ∧ Rel X.K F' M' H' ∧ SRel X.K F' τ σ ∧ ExRep X.K F' e cls d ∧ e.nm ∈ ys ∧ x0 e M') (p := p1) (pos' := pos') F' (g.room.mono (by omega)) (gl_of g.sc hg) (by rw [g.mg]; exact h1) (by rw [g.K]; exact h2) (by rw [g.K]; exact h3) .nil (ha X g B) hdb (he _) (hpl _)
  have hr : Room (k + 3) X.A := g.room.mono hk
  refine wpAny_Call_Name_kw (ld_blt I (gl_of g.sc hgl) (by rw [g.mg]; exact hl) (by first | rfl | decide +kernel) ?_ (by decide) (by decide))
  refine PyProof.Rows.callWith_type1 ?_ (he1 _) rfl
  rw [he1]
  show wpAny _ _ (spliced ((false, eval (.Call (.Name x p1) (e :: es) [] pos') X.env) :: backTo pos (starEach [] X.env))) _ _ s
  refine Calls.spliced_cons (thn (pg.run pins s σ H (fun out H2 => ∀ p, H2 p = none → Q (.ref p) (upd H2 p (.lst out))) I ?_) fun u s1 ⟨H1, sc, ex, I1, hex, hG⟩ => ?_)
  · refine ⟨F0, τ, M, x0, _, a, hf, tk, fun ps' M1 F1 vs H1 hp s1 r1 e1 => ?_⟩
    show toSpX X.K ys p (vs ++ []) H1 _ _
    rw [List.append_nil]
    refine ⟨F1, ps', M1, _, x0, r1, e1, hp, fun out M2 F2 us H2 ho s2 r2 e2 q hq => ?_, fun e M' F' cls d H' hy hx s2 r2 er => ⟨F', M', e, (a.b.trans s1).trans s2, r2, a.s.mono (s1.trans s2), er, hy, hx⟩⟩
    have hF := r2.fresh hq
    obtain ⟨r3, s3⟩ := r2.newF hq (.lst us)
    exact hk0 _ _ _ _ _ ho ((s1.trans s2).trans s3) r3 (.lst upd_same (e2.mono s3))
  · refine Calls.spliced_nil ?_
    have hsz : sc.heap.objs.size ≤ s1.heap.objs.size := by
      obtain ⟨a, g, c, _, h1, h2, _⟩ := hG
      exact Nat.le_trans h1 (Nat.le_of_lt h2)
    refine call_list_new hr I1.ok.frames hG (fun S s' acc c H' ys q0 q1 q2 hl q3 q4 q5 q6 q7 q8 => ?_) fun e s' g2 hc => ?_
    · exact ⟨.ref S, upd H' S (.lst ys), I1.drained (Nat.le_trans hsz q0) hl q1 q2 hex q3 q4 q5 q6 q7, rfl, q8 S q7⟩
    · have kin : X.K.In s'.heap := by
        obtain ⟨a, B, H', cls, d, _, fl, _, ub, _⟩ := id hc
        refine I1.ok.mod.kin.keeps fun b o eb => fl.1 b o (ub.keep b o (I1.bs b o eb).1 (I1.bs b o eb).2 fun hm => ?_)
        rcases List.mem_cons.mp (I1.stkSub b hm) with z | z
        · have h1 := Heap.lt_size eb
          have h2 := Nat.le_trans I1.ok.bsz I1.ok.above
          rw [z] at h1
          exact absurd (Nat.lt_of_lt_of_le h1 h2) (Nat.lt_irrefl _)
        · exact I1.ok.nofr eb z
      refine ⟨notStop_of (K := X.K) (fun cls d H' z => ?_) kin hc, tk e _ (XE.of_call I1 (W := lW X.K B fun e τ' M' => τ' = τ ∧ x0 e M') (s' := s'.setGen g2 .finished) (E := fun cls d H' => ∃ F' M' e, Same B F' ∧ Rel X.K F' M' H' ∧ SRel X.K F' τ σ ∧ ExRep X.K F' e cls d ∧ e.nm ∈ ys ∧ x0 e M') (fun cls d H' z => ?_) ?_)⟩
      · obtain ⟨F', M', e, _, _, _, er, hy, _⟩ := z
        exact nost _ hy _ (by rw [← g.K]; exact er.1) |> fun q => by rw [g.K]; exact q
      · obtain ⟨F', M', e, s', r', sr', er, hy, hx⟩ := z
        exact ⟨F', τ, M', e, s', r', sr', er, rfl, hx⟩
      · obtain ⟨a, B, H', cls, d, z1, fl, z2, ub, z3, z4, z5, z6⟩ := hc
        exact ⟨a, B, H', cls, d, z1, fl, z2, ub, z3, z4, allBare_setGen z5 rfl, z6⟩
/-- def f(..): s1; s2; yield from e -/
theorem has_genX {g : Glb} {x qual : Str} {st s1 s2 : Stmt} {e : Expr} {yp yp2 : Pos} {f : Addr} {fd : FuncData} {N ps : List Str} {k : Nat} {ys : List Str} {p : PSpX} {f1 f2 : QS} {fe : QE} (F : Fun g.K x qual st f fd) (hm : g.mg x = some (.ref f)) (S : GScope N ps (defScope st)) (b : Binds g.K fd ps []) (hgd : g.gd = false)
    (hb : defBody st = [s1, s2, .Expr (.YieldFrom e yp) yp2]) (h1 : DS ⟨g, N, defScope st, k, none⟩ s1 f1) (h2 : DS ⟨g, N, defScope st, k, none⟩ s2 f2) (h3 : DE ⟨g, N, defScope st, k, none⟩ e fe) (nost : ∀ y ∈ ys, NoSt g.K y)
    (spec : ∀ xs M kk ex, p xs M kk ex → xs.length = ps.length ∧ qSeq f1 f2 { nx := fun τ M' => fe τ M' (fun _ _ => False) fun v M1 => ∃ a zs, v = .ref a ∧ M1 a = some (.lst zs) ∧ zs.length ≤ sizeLine ∧ kk zs M1, rt := fun _ _ => False, ex := fun e _ M' => e.nm ∈ ys ∧ ex e M' } (startQ N xs) M) : HasX g x (k + 1) ys p := by
  obtain ⟨oc, od, kV, doc, pm, an, cdv, ct, osl, rfl, lk, hcd⟩ := F.ex
  refine ⟨⟨f, _, ps, hm, F.kp, b, ?_⟩, nost⟩
  refine gfn_of lk hcd S (fun vs H Q E hp => ?_) fun A outer s H vs Q E pn hr hp => ?_
  · obtain ⟨F0, xs, M, kk, ex, R, rs, hp, _⟩ := hp
    rw [← rs.length]
    exact (spec _ _ _ _ hp).1
  · obtain ⟨F0, xs, M, kk, ex, R, rs, hp, hq, hx⟩ := hp
    obtain ⟨_, hs⟩ := spec _ _ _ _ hp
    have gd : GoodS ⟨g, N, defScope st, k, none⟩ (gcxOf g.P g.w g.K g.mg g.base N qual (defScope st) f cdv A outer s H E pn) := ⟨⟨rfl, rfl, rfl, rfl, rfl, rfl, rfl, hr, rfl, (fun z => by rw [hgd] at z; cases z), fun _ z => (nomatch z)⟩, rfl, rfl, rfl, rfl, owns_gcx⟩
    have tk : Takes (gcxOf g.P g.w g.K g.mg g.base N qual (defScope st) f cdv A outer s H E pn) (lW g.K F0 fun e (_ : Tau) M' => e.nm ∈ ys ∧ ex e M') := takes_gcx.imp fun cls d σ H' => by
      rintro ⟨F', τ', M', e, s', r', sr', er, he⟩
      exact hx e M' F' cls d H' he.1 he.2 s' r' er
    rw [hb]
    refine ⟨_, gss_cons (gs_ps (h1 _ gd F0)) (gss_cons (gs_ps (h2 _ gd F0)) (gss_cons (gs_yieldFrom (yf_lst (h3 _ gd.toGood F0)) hr.hd (hi := by show interactive (envOfC qual (defScope st) s.heap.objs.size f cdv) = false; simp [interactive, envOfC, S.kind])) gss_nil)), ?_⟩
    refine ⟨F0, startQ N xs, M, _, ⟨Same.refl _, R, SRel.start rs⟩, hs, tk, ⟨fun τ1 M1 F1 σ1 H1 n1 t1 r1 q1 => ?_, fun _ _ _ _ _ z => z.elim, fun _ _ _ _ _ z => z.elim, fun _ _ _ _ _ z => z.elim⟩⟩
    show lS _ F0 f2 _ σ1 H1
    refine ⟨F1, τ1, M1, _, ⟨t1, r1, q1⟩, n1, tk, ⟨fun τ2 M2 F2 σ2 H2 n2 t2 r2 q2 => ?_, fun _ _ _ _ _ z => z.elim, fun _ _ _ _ _ z => z.elim, fun _ _ _ _ _ z => z.elim⟩⟩
    show lE _ F0 fe σ2 H2 _
    refine ⟨F2, τ2, M2, _, _, ⟨t1.trans t2, r2, q2⟩, n2, takes_no, fun r M' F' v H' hk s' r' e' => ?_⟩
    obtain ⟨a, zs, rfl, hM, hl, hkk⟩ := hk
    cases e'
    obtain ⟨us, e1, e2⟩ := r'.chg _ _ hM
    have hlen : us.length ≤ sizeLine := by rw [← e2.length]; exact hl
    refine ⟨a, us, rfl, e1, by rw [List.length_nil, Nat.zero_add]; exact hlen, ?_⟩
    show Q ([] ++ us) H'
    rw [List.nil_append]
    exact hq _ _ _ _ _ hkk ((t1.trans t2).trans s') r' e2
/-- list(zip([], f(..))) -/
@[simp] def qListZ (p : PSpX) (fa : QA) : QE := fun τ M x k => fa τ M x fun ps M1 => (∃ k' x', p ps M1 k' x') ∧ k (.lst []) M1
theorem de_listZ {c : Cf} {x : Str} {k : Nat} {ys : List Str} {p : PSpX} {e : Expr} {es : List Expr} {fa : QA} {p1 p2 p3 p4 pos pos' pos2 : Pos} (h : HasX c.g x k ys p) (ha : DA c (e :: es) fa) (hl : c.g.mg ("list" : Str) = none) (hz : c.g.mg ("zip" : Str) = none) (hgl : c.sc.names.lookup ("list" : Str) = some .globalImplicit := by rfl) (hgz : c.sc.names.lookup ("zip" : Str) = some .globalImplicit := by rfl)
    (hk : k + 3 ≤ c.k := by exact Nat.le_of_ble_eq_true rfl) (hg : c.sc.names.lookup x = some .globalImplicit := by rfl) (hdb : (x == ("__debug__" : Str)) = false := by decide)
    (he : ∀ env, starEach (e :: es) env = (false, eval e env) :: starEach es env := by intro _; rfl) (hpl : ∀ env, (backTo pos' (starEach es env)).any (·.1) = false := by intro _; rfl) :
    DE c (.Call (.Name "list" p2) [.Call (.Name "zip" p3) [.List [] p4, .Call (.Name x p1) (e :: es) [] pos'] [] pos2] [] pos) (qListZ p fa) := fun X g B => by
  obtain ⟨⟨f, fd, ps, h1, h2, h3, F⟩, nost⟩ := h
  have F' : GFn X.prog X.w X.K X.mg X.base k f fd ps (toSpX X.K ys p) := by rw [g.prog, g.w, g.K, g.mg, g.base]; exact F
  refine ⟨fun pins s σ H Q I hq => ?_⟩
  obtain ⟨F0, τ, M, x0, k0, a, hf, tk, hk0⟩ := hq
  have hr : Room (k + 3) X.A := g.room.mono hk
  refine wpAny_Call_Name_kw (ld_blt I (gl_of g.sc hgl) (by rw [g.mg]; exact hl) (by first | rfl | decide +kernel) ?_ (by decide) (by decide))
  refine PyProof.Rows.callWith_type1 ?_ (by rfl) rfl
  refine Calls.spliced_cons ?_
  refine wpAny_Call_Name_kw (ld_blt I (gl_of g.sc hgz) (by rw [g.mg]; exact hz) PyProof.Rows.boot_zip ?_ (by decide) (by decide))
  refine PyProof.Rows.callWith_type1 ?_ (by rfl) rfl
  refine Calls.spliced_cons (thn ((de_lst (pos := p4) (c := c) da_nil X g B).run pins s σ H (fun v H' => ∃ F' b, v = .ref b ∧ Same F0 F' ∧ Rel X.K F' M H' ∧ F' b = some (.lst [])) I ?_) fun v s1 ⟨y, H1, I1, r1, F1, b, ey, sF, R1, hb⟩ => ?_)
  · refine ⟨F0, τ, M, x0, fun v M' => v = .lst [] ∧ M' = M, a, ⟨Nat.zero_le _, rfl, rfl⟩, tk, ?_⟩
    rintro r M' F2 v H' ⟨rfl, rfl⟩ s2 r2 e2
    cases e2 with
    | lst q1 q2 =>
      cases q2
      exact ⟨F2, _, rfl, s2, r2, q1⟩
  subst ey
  obtain rfl : v = Value.ref b := r1
  refine Calls.spliced_cons ?_
  refine wpAny_Call_Name_kw (ld_glob I1 (gl_of g.sc hg) (by rw [g.mg]; exact h1) ?_ hdb)
  refine PySem.W.callWith_K (h₀ := X.base) I1.ok.mod.kin (by rw [g.K]; exact h2) (thn ((ha X g B).run pos' pins s1 σ H1 (fun vs H2 => ∃ F2 ps' M2, Same F1 F2 ∧ Rel X.K F2 M2 H2 ∧ Reps X.K F2 ps' vs ∧ (∃ k' x', p ps' M2 k' x') ∧ k0 (.lst []) M2) I1 ?_) fun us s2 ⟨vs, H2, I2, r2, F2, ps', M2, sF2, R2, rp, ⟨k', x', hp⟩, hk⟩ => ⟨I2.kIn, ?_⟩) (he _) (hpl _)
  · refine ⟨F1, τ, M, x0, _, a.next sF R1, hf, tk, ?_⟩
    rintro vs M2 F2 ws H2 ⟨hp, hk⟩ s2 r2 e2
    exact ⟨F2, vs, M2, s2, r2, e2, hp, hk⟩
  have sp : toSpX X.K ys p vs H2 (fun _ _ => True) (fun _ _ _ => True) := ⟨F2, ps', M2, k', x', R2, rp, hp, fun _ _ _ _ _ _ _ _ _ => trivial, fun _ _ _ _ _ _ _ _ _ _ _ => trivial⟩
  have hl2 : us.length = ps.length := by rw [← r2.length]; exact F'.len _ _ _ _ sp
  refine wpAny_call (codeAny_mono (F'.run X.A X.stack s2 H2 ⟨us, []⟩ us vs (fun _ _ => True) (fun _ _ _ => True) (hr.mono (by omega)) I2.env0 (by have z := (show Binds X.K fd ps [] by rw [g.K]; exact h3) s2 us I2.kIn (by rw [List.append_nil]; exact hl2); rw [List.append_nil] at z; exact z) r2 sp) fun r s3 hq => ?_)
  cases r with
  | error e => exact False.elim hq
  | ok fl =>
    cases fl with
    | next => exact False.elim hq
    | brk => exact False.elim hq
    | cont => exact False.elim hq
    | ret u =>
      obtain ⟨ga, gn, gc, rfl, z1, z2, z3, z4, os, ba, nl, kp, _⟩ := hq
      have I3 : Inv X pins σ H2 s3 := I2.call' (ch := []) os (Un.kept kp) (I2.hok.kept kp) ba fun b z => by simp at z
      refine Calls.spliced_nil ?_
      obtain ⟨its, rv, pl, _⟩ := I3.list (show SqL X.K H2 b [] from SqL.of (R2.sub _ _ (sF2 _ _ hb)))
      cases rv
      refine zg_call pl.isList z3 fun h' hz hTI hit hsz hkp => ?_
      have I4 : Inv X pins σ H2 { s3 with heap := h' } := I3.kept (t' := s3.toks) hkp
      refine Calls.spliced_nil ?_
      have lb : b < s3.heap.objs.size := pl.lt
      have ne1 : s3.heap.objs.size ≠ s3.heap.objs.size + 3 := by omega
      have ne2 : b ≠ s3.heap.objs.size + 3 := Nat.ne_of_lt (Nat.lt_of_lt_of_le lb (Nat.le_add_right _ _))
      refine zg_list (A := X.A) (s := { s3 with heap := h' }) (I4.ok.hd g.calm) ne1 ne2 hz hTI hit (pl.isList.at fun o e => hkp b o e) rfl fun h2 cc hk2 hS => ?_
      have kp2 : ∀ b o, s3.heap.get? b = some o → h2.get? b = some o := fun b o e => hk2 b o (Nat.ne_of_lt (Nat.lt_of_lt_of_le (Heap.lt_size e) (Nat.le_add_right _ _))) (Nat.ne_of_lt (Heap.lt_size e)) (hkp b o e)
      have I5 : Inv X pins σ (upd H2 h'.objs.size (.lst [])) { s3 with heap := h2 } := I3.laid (t' := s3.toks) kp2 (by rw [hsz]; omega) (show ObjOk X.prog X.w _ h2 _ (.lst []) from ⟨by show 0 ≤ sizeLine; decide, [], cc, .nil, hS⟩)
      have fr : H2 h'.objs.size = none := I3.hok.fresh (by rw [hsz]; omega)
      have hF := R2.fresh fr
      obtain ⟨r3, s3'⟩ := R2.newF fr (.lst [])
      exact ⟨.ref h'.objs.size, _, I5, rfl, hk0 _ _ _ _ _ hk ((sF.trans sF2).trans s3') r3 (.lst upd_same .nil)⟩
end Q
/-! tuples without a dict of their own (tuple(xs), t.index(i)); dicts walked by their keys; dict comprehensions; two clauses; xs + ys, [x] * n that will change; list(range(n)) -/
namespace L2
open PySem PySem.Spec PyProof.Rows
/-- tuple(xs) of a list: the new object is known -/
theorem call_tuple_frz {X : Cx} : CallR X (.type "tuple") (fun xs H Q => ∃ p ys, xs = [.ref p] ∧ SqL X.K H p ys ∧ ∀ (l : Addr) (o : Obj), H l = none → o.dict = none → Q (.ref l) (upd H l (.frz o (.tup ys)))) := by
  intro pins s σ H xs us Q I r h
  obtain ⟨p, ys, rfl, hq, q⟩ := h
  obtain ⟨u, rfl, rx⟩ := vals1 r
  cases rx
  obtain ⟨its, rv, pl, hz⟩ := I.list hq
  refine call_tuple_list pl.isList (fun h' hk => ?_) (by rw [List.size_toArray, ← rv.length]; exact hz)
  have J : Inv X pins σ H { s with heap := h' } := I.kept (t' := s.toks) hk
  have J2 : Inv X pins σ (upd H h'.objs.size (.frz { cls := .type "tuple", data := .seq its.toArray } (.tup ys))) { s with heap := h'.push { cls := .type "tuple", data := .seq its.toArray } } :=
    J.laid (t' := s.toks) (fun b o e => Heap.get?_push_of_some _ e) (Nat.le_refl _) ⟨Heap.get?_push_size _ rfl, hz, its, rv, IsTup.new _ _⟩
  exact ⟨.ref h'.objs.size, _, J2, rfl, q _ _ (J.hok.fresh (Nat.le_refl _)) rfl⟩
/-- an expression whose dict is locked when it is done -/
def tLk (t : TE) : TE := fun σ H Q => t σ H fun v H1 => ∃ d ws, v = .ref d ∧ H1 d = some (.dK ws) ∧ ∀ od, Q (.ref d) (upd H1 d (.frz od (.dK ws)))
theorem pe_lk {X : Cx} {e : Expr} {t : TE} (h : PE X e t) : PE X e (tLk t) := by
  refine ⟨fun pins s σ H Q I hw => ?_⟩
  refine thn (h.run pins s σ H _ I hw) fun v s1 ⟨x, H1, J, r, d, ws, ex, hd, q⟩ => ?_
  subst ex
  obtain ⟨od, J2⟩ := J.lock hd trivial
  exact ⟨.ref d, _, J2, r, q od⟩
theorem wipe_getQ (σ : St) : ∀ (vs : List Nat) (i : Nat), (wipe σ vs)[i]? = if i ∈ vs then (σ[i]?).map fun _ => none else σ[i]?
  | [], i => by simp [wipe]
  | v :: vs, i => by
    unfold wipe
    rw [List.getElem?_set, wipe_getQ σ vs i, wipe_length]
    by_cases h : v = i
    · subst h
      by_cases hl : v < σ.length
      · simp [hl]
      · simp [hl]
    · have h' : ¬ i = v := fun e => h e.symm
      simp [h, h']
theorem wipe_inQ (σ : St) {vs ws : List Nat} (h : ∀ i ∈ vs, i ∈ ws) : wipe (wipe σ ws) vs = wipe σ ws := by
  apply List.ext_getElem?
  intro i
  rw [wipe_getQ, wipe_getQ]
  by_cases hv : i ∈ vs
  · simp [hv, h i hv, Function.comp_def]
  · simp [hv]
theorem wipe_back {σ σ' : St} {vs ws : List Nat} (h : ∀ i ∈ vs, i ∈ ws) (e : wipe σ' vs = wipe σ ws) : wipe σ' ws = wipe σ ws := by
  have z : wipe (wipe σ' vs) ws = wipe σ' ws := by
    apply List.ext_getElem?
    intro i
    rw [wipe_getQ, wipe_getQ, wipe_getQ]
    by_cases hw : i ∈ ws
    · by_cases hv : i ∈ vs <;> simp [hw, hv, Function.comp_def]
    · simp only [hw, if_false]
      rw [if_neg fun q => hw (h i q)]
  rw [← z, e, wipe_inQ σ fun i hi => hi]
section
variable {X : Cx}
/-- y = {k: v for ..}: the dict is stored while the block still stands -/
theorem ps_setDcQ {i : Nat} {y : Str} {py : Pos} {kx vx tg iter : Expr} {ifs : List Expr} {scope : Scope} {own : List (Str × Nat)} {pos spos : Pos} {wi : TI} {g : TG} {tt : TT} {tk tv : TE} (hc : X.calm = true) (hN : X.N.Nodup) (hy : X.N[i]? = some y) (hyl : X.env.scope.names.lookup y = some .local)
    (hsw : swapsWith (.DictComp kx vx [⟨tg, iter, ifs, 0⟩] scope pos) (some (.Name y py)) spos.line X.env = pure true) (hi : PI X tg iter wi) (ok : BlkOk X.N X.env.scope scope own)
    (hg : ∀ (s : Shared) (H : Hp) (C : Addr) (cl : List (Str × Addr)) (fp : List Addr), PG (X.blk s H scope (compEnvC scope cl C X.env) fp) tg g) (ht : ∀ (s : Shared) (H : Hp) (C : Addr) (cl : List (Str × Addr)) (fp : List Addr), PTs (X.blk s H scope (compEnvC scope cl C X.env) fp) ifs tt)
    (hk : ∀ (s : Shared) (H : Hp) (C : Addr) (cl : List (Str × Addr)) (fp : List Addr), PE (X.blk s H scope (compEnvC scope cl C X.env) fp) kx tk)
    (he : ∀ (s : Shared) (H : Hp) (C : Addr) (cl : List (Str × Addr)) (fp : List Addr), PE (X.blk s H scope (compEnvC scope cl C X.env) fp) vx tv) (hs : ∀ x, foldedSetIterable iter X.env x = pure x) :
    PS X (.Assign [.Name y py] (.DictComp kx vx [⟨tg, iter, ifs, 0⟩] scope pos) spos) (tAsg (tDc wi g tt tk tv (own.map (·.2))) (gName i)) := by
  refine ⟨fun pins s σ H D J h => ?_⟩
  rw [exec_Assign_Name_used _ _ _ _ hsw]
  refine wpAny_bind (wpAny_standAt (wpAny_bind ?_))
  have step : tDc wi g tt tk tv (own.map (·.2)) σ H (fun z H1 => gName i z σ H1 D.nx) := h
  have core := dc_core (pos := pos) (pos' := firstIterPos [⟨tg, iter, ifs, 0⟩] pos) (use := some (assign (.Name y py) X.env)) (Qf := fun _ s' => SP X pins D .next s') hc hN J hi ok hg ht hk he hs step fun L C s' m H' J' q hn f => by
    show wpAny _ _ (assign (.Name y py) X.env (.ref L)) _ _ _
    refine wpAny_assign_Name (store_ok2 (v := V.ref L) J' hN hy (.inl hyl) rfl (fun s2 J2 ⟨a, sb, ha⟩ => ?_) (.inr hyl))
    obtain ⟨f0, f1, f2, f3, f4, f5⟩ := f
    have far : C ≠ a := by
      rcases ha with z | z
      · rw [z]; exact f1
      · exact fun e => f4 y a z e.symm
    exact ⟨m, hn.sameBut sb far, fun h3 sb3 => ⟨_, H', J2.turned (t' := s2.toks) (fun b o hb e => (sb3.2 b hb).trans e) f0 f1 f3 f4 f5, q⟩⟩
  exact wpAny_bind (thn core fun _ s' hq => wpAny_pure (wpAny_pure hq))
theorem swDc {kx vx : Expr} {gs : List Comprehension} {scope : Scope} {pos py : Pos} {y : Str} {l : Nat} {env : Env} (h1 : env.scope.kind = .function) (h2 : env.scope.names.lookup y = some .local) (h3 : (py.line == pos.line) = true)
    (h4 : (scope.names.any fun (n, k) => n == y && (k == .local || k == .cell)) = false) : swapsWith (.DictComp kx vx gs scope pos) (some (.Name y py)) l env = pure true := by
  have e1 : env.blockKind = .function := by unfold Env.blockKind; rw [h1]; rfl
  have e2 : env.kindOf y = some .local := h2
  unfold swapsWith
  simp only [e1, e2, h4, Expr.pos, h3]
  rfl
end
end L2
namespace Q
open PySem PySem.Spec PyProof.Rows L2
/-! ### tuple(xs) of a list, known to the object -/
def lsqP : PV → PM → (List PV → Prop) → Prop
  | .lst xs, _, k => k xs
  | .rdl xs, _, k => k xs
  | .ref a, M, k => seqP (.ref a) M k
  | _, _, _ => False
set_option autoImplicit true in
@[simp] theorem lsqP_s1 : lsqP (.lst xs) M k = k xs := rfl
set_option autoImplicit true in
@[simp] theorem lsqP_s2 : lsqP (.rdl xs) M k = k xs := rfl
set_option autoImplicit true in
@[simp] theorem lsqP_s3 : lsqP (.ref a) M k = seqP (.ref a) M k := rfl
def cTupX : QC := fun ps M k => match ps with
  | [p] => lsqP p M fun xs => k (.tpx xs) M
  | _ => False
@[simp] theorem cTupX_s {p : PV} {M : PM} {k : PK} : cTupX [p] M k = lsqP p M fun xs => k (.tpx xs) M := rfl
theorem cq_tupx {c : Cf} : CQ c (.type "tuple") cTupX := fun X g pins s σ H xs us Q I r h => by
  refine call_tuple_frz pins s σ H xs us Q I r ?_
  obtain ⟨F, ps, M, k, R, ep, ho, hk⟩ := h
  unfold cTupX at ho
  split at ho
  · cases ep with
    | cons e1 e2 =>
      cases e2
      have fin : ∀ {xs : List PV} {vs : List V} {b : Addr}, SqL X.K H b vs → Reps X.K F xs vs → k (.tpx xs) M → ∃ p ys, [V.ref b] = [V.ref p] ∧ SqL X.K H p ys ∧ ∀ (l : Addr) (o : Obj), H l = none → o.dict = none → Q (.ref l) (upd H l (.frz o (.tup ys))) := fun {xs vs b} hs rr ho => by
        refine ⟨b, vs, rfl, hs, fun l o hl hd => ?_⟩
        obtain ⟨r2, s2⟩ := R.newF hl (.frz o (.tup vs))
        exact hk _ _ _ _ _ ho s2 r2 (.tpx ⟨o, upd_same, hd⟩ (rr.mono s2))
      cases e1 with
      | lst hs rr => exact fin (SqL.of (R.sub _ _ hs)) rr ho
      | rdl hs rr => exact fin (R.sub.seq hs) rr ho
      | ref b =>
        have h' : (match M b with | some (.lst xs) => k (.tpx xs) M | _ => False) := ho
        split at h'
        · rename_i xs e2
          obtain ⟨vs, e3, e4⟩ := R.getL e2
          exact fin (SqL.of e3) e4 h'
        · exact h'.elim
      | _ => exact ho.elim
  · exact ho.elim
/-! ### t.index(i) -/
def isTpx : PV → (List PV → Prop) → Prop
  | .tpx xs, k => k xs
  | _, _ => False
@[simp] theorem isTpx_s {xs : List PV} {k : List PV → Prop} : isTpx (.tpx xs) k = k xs := rfl
def tixX (xs : List PV) : PV → PM → PK → Prop
  | .int z, M, k => ∃ ns j, intsOf xs = some ns ∧ ns[j]? = some z ∧ (∀ m, m < j → ns[m]? ≠ some z) ∧ k (.int (j : Nat)) M
  | _, _, _ => False
@[simp] theorem tixX_s {xs : List PV} {z : Int} {M : PM} {k : PK} : tixX xs (.int z) M k = ∃ ns j, intsOf xs = some ns ∧ ns[j]? = some z ∧ (∀ m, m < j → ns[m]? ≠ some z) ∧ k (.int (j : Nat)) M := rfl
@[simp] def qTix (fo fe : QE) : QE := fun τ M x k => fo τ M x fun p M1 => isTpx p fun xs => fe τ M1 x fun y M2 => tixX xs y M2 k
theorem de_tix {c : Cf} {o e : Expr} {apos cpos : Pos} {fo fe : QE} (ho : DE c o fo) (he : DE c e fe) (hbase : ∀ env, attributeBase o "index" env (eval o env) = eval o env := by intro _; rfl)
    (hfew : ∀ env, ((backTo cpos (starEach [e] env)).all (fun x => !x.1) && (backToKw cpos (keywordEach [] env)).all (fun x => x.1.isSome) && decide (([e] : List Expr).length + ([] : List Keyword).length + (if ([] : List Keyword).isEmpty then 0 else 1) < 30)) = true := by intro _; rfl)
    (hline : (apos.endLine == cpos.line) = true := by rfl) (hs : ∀ env, starEach [e] env = (false, eval e env) :: starEach [] env := by intro _; rfl) (hpl : ∀ env, (backTo cpos (starEach [] env)).any (·.1) = false := by intro _; rfl) :
    DE c (.Call (.Attribute o "index" apos) [e] [] cpos) (qTix fo fe) := fun X g B => by
  refine ⟨fun pins s σ H Q I h => ?_⟩
  obtain ⟨F, τ, M, x, k, a, hf, tk, hk⟩ := h
  have run := (ho X g B).run pins s σ H (fun v H1 => ∃ b vs xs M1 F1, v = .ref b ∧ TpX F1 b vs ∧ Reps X.K F1 xs vs ∧ Same F F1 ∧ Rel X.K F1 M1 H1 ∧ fe τ M1 x fun y M2 => tixX xs y M2 k) I ⟨F, τ, M, x, _, a, hf, tk, fun p M1 F1 v H1 h1 s1 r1 e1 => by
    cases e1 with
    | tpx ht rr => exact ⟨_, _, _, M1, F1, rfl, ht, rr, s1, r1, h1⟩
    | _ => exact h1.elim⟩
  refine wpAny_Call_method_late (hbase _) (hfew _) hline rfl (thn run fun v s1 ⟨x1, H1, J, r1, b, vs, xs, M1, F1, ex, ht, rr, s1', R1, q1⟩ => ?_)
  subst ex
  obtain rfl : v = Value.ref b := r1
  obtain ⟨ob, e1, e2⟩ := ht
  have hb := R1.sub _ _ e1
  obtain ⟨g1, _⟩ := (show ObjOk X.prog X.w H1 s1.heap b (.frz ob (.tup vs)) from J.hok b _ hb)
  obtain ⟨its, _, pl, _⟩ := J.tuple (show SqT X.K H1 b vs from .inl (.inr ⟨ob, hb⟩))
  refine ⟨"tuple", "tuple.index", PySem.F.plainAttrs_tuple, PySem.F.slot_tuple_index, PySem.F.type_tuple_index, pl.typeIs, fun a' e' => ?_, ?_⟩
  · cases e'
    exact ⟨ob, g1, e2⟩
  have hA := (pa_cons (he X g B) pa_nil (hs X.env)).run cpos pins s1 σ H1 (fun xs2 H2 => ∃ (ns : List Int) (z : Int) (j : Nat), xs2 = [V.int z] ∧ vs = ns.map V.int ∧ SqT X.K H2 b vs ∧ ns[j]? = some z ∧ (∀ m, m < j → ns[m]? ≠ some z) ∧ Q (.int (j : Nat)) H2) J
    ⟨F1, τ, M1, x, _, a.next s1' R1, q1, tk, fun y M2 F2 w H2 h2 s2 r2 e4 => by
      cases e4 with
      | int z =>
        obtain ⟨ns, j, n1, n2, n3, n4⟩ := h2
        exact ⟨ns, z, j, rfl, intsOf_ok rr n1, .inl (.inr ⟨ob, r2.sub _ _ (s2 _ _ e1)⟩), n2, n3, hk _ _ _ _ _ n4 (s1'.trans s2) r2 (.int _)⟩
      | _ => exact h2.elim⟩
  rw [hs] at hA ⊢
  refine Calls.callWith_builtin (by show (false || (backTo cpos (starEach [] X.env)).any (·.1)) = false; rw [hpl] <;> rfl) (Calls.evalArgs_plain ?_)
  refine thn hA fun us s2 ⟨ys, H2, J2, r2, ns, z, j, ey, ev, hq, w1, w2, w3⟩ => ?_
  subst ey
  subst ev
  exact mt_indexI pins s2 σ H2 (.ref b) [.int z] (.ref b) us Q J2 rfl r2 ⟨b, ns, z, j, rfl, rfl, hq, w1, w2, w3⟩
/-! ### a dict walked by its keys: from then on nobody changes it -/
def keyV : Key → PV
  | .inl i => .int i
  | .inr z => .str z
theorem Rel.lockK {K : Fg} {F : Hp} {M : PM} {H : Hp} (r : Rel K F M H) {a : Addr} {kvs : List (Key × PV)} (e : M a = some (.dK kvs)) : ∃ ws, H a = some (.dK ws) ∧ RepKV K F kvs ws ∧
    ∀ od, Rel K (upd F a (.frz od (.dK ws))) (delM M a) (upd H a (.frz od (.dK ws))) ∧ Same F (upd F a (.frz od (.dK ws))) := by
  obtain ⟨ws, e1, e2⟩ := r.chg a _ e
  have hF := r.dis a _ e
  refine ⟨ws, e1, e2, fun od => ?_⟩
  have hS : Same F (upd F a (.frz od (.dK ws))) := fun b u q => by rw [upd_ne (ne_of_none q hF)]; exact q
  refine ⟨⟨fun b u q => ?_, fun b o q => ?_, fun b o q => ?_⟩, hS⟩
  · by_cases hb : b = a
    · subst hb
      rw [upd_same] at q ⊢
      exact q
    · rw [upd_ne hb] at q ⊢
      exact r.sub b u q
  · unfold delM at q
    split at q
    · cases q
    · rename_i hb
      rw [upd_ne hb]
      exact r.dis b o q
  · unfold delM at q
    split at q
    · cases q
    · rename_i hb
      refine mrep_keep hS (fun b' h' => ?_) (r.chg b o q)
      have n : b' ≠ a := by
        rcases h' with rfl | h'
        · exact hb
        · intro z
          rw [z, e1] at h'
          cases h'
      rw [upd_ne n]
def keysP : PV → PM → (List PV → (PM → Prop) → PM → Prop) → Prop
  | .ref a, M, k => ∃ kvs, M a = some (.dK kvs) ∧ k (kvs.map fun p => keyV p.1) (fun _ => True) (delM M a)
  | _, _, _ => False
@[simp] theorem keysP_s {a : Addr} {M : PM} {k : List PV → (PM → Prop) → PM → Prop} : keysP (.ref a) M k = ∃ kvs, M a = some (.dK kvs) ∧ k (kvs.map fun p => keyV p.1) (fun _ => True) (delM M a) := rfl
@[simp] def iKeysQ (f : QE) : QI := fun τ M x k => f τ M x fun v M1 => keysP v M1 k
theorem repKV_keys {K : Fg} {F : Hp} : ∀ {xs : List (Key × PV)} {vs : List (Key × V)}, RepKV K F xs vs → xs.map (·.1) = vs.map (·.1)
  | _, _, .nil => rfl
  | _, _, .cons _ b => by rw [List.map_cons, List.map_cons, repKV_keys b]
theorem rep_key {K : Fg} {F : Hp} (k : Key) : Rep K F (keyV k) (kV k) := by
  cases k with
  | inl i => exact .int i
  | inr z => exact .str z
theorem di_keys {c : Cf} {tg e : Expr} {f : QE} (he : DE c e f) : DI c tg e (iKeysQ f) := fun X g B => (pi_keys (pe_lk (he X g B))).im fun σ H R => by
  rintro ⟨F, τ, M, x, k, a, hf, tk, hk⟩
  refine ⟨F, τ, M, x, _, a, hf, tk, fun v M1 F1 u H1 h1 s1 r1 e1 => ?_⟩
  cases e1 with
  | ref d =>
    obtain ⟨kvs, hM, h2⟩ := h1
    obtain ⟨ws, g1, g2, g3⟩ := r1.lockK hM
    refine ⟨d, ws, rfl, g1, fun od => ⟨d, od, rfl, .inl ⟨ws, upd_same, ?_⟩⟩⟩
    obtain ⟨g4, g5⟩ := g3 od
    refine hk _ _ _ _ _ _ h2 (s1.trans g5) g4 fun F' M' H' s' r' _ => ?_
    have hH : H' d = some (.frz od (.dK ws)) := r'.sub _ _ (s' _ _ upd_same)
    have hl : (kvs.map fun p => keyV p.1).length = ws.length := by rw [List.length_map]; exact (RepKV.length g2).1
    refine ⟨⟨hH, by rw [hl]; exact Nat.le_refl _⟩, fun i y hy => ?_⟩
    rw [List.getElem?_map] at hy
    obtain ⟨p, hp, rfl⟩ := Option.map_eq_some_iff.mp hy
    have hi : i < ws.length := by
      rw [← (RepKV.length g2).1]
      exact (List.getElem?_eq_some_iff.mp hp).1
    refine ⟨⟨hH, hi⟩, fun v H2 ⟨eH, k', v', hk', ev⟩ => ?_⟩
    subst eH
    subst ev
    have ek : k' = p.1 := by
      have z := congrArg (fun l => l[i]?) (repKV_keys g2)
      simp only [List.getElem?_map, hp, hk', Option.map_some, Option.some.injEq] at z
      exact z.symm
    rw [ek]
    exact ⟨F', Same.refl _, r', rep_key _⟩
  | _ => exact h1.elim
/-! ### dict comprehensions -/
def compD (tg : Tgt) (t : QT) (fk fv : QE) (st : PM → Prop) (D : Addr) (τ : Tau) : List PV → List (Key × PV) → PM → (PM → Prop) → Prop
  | [], acc, M, k => st M ∧ M D = some (.dK acc) ∧ k M
  | x :: xs, acc, M, k => st M ∧ tg.set x τ fun τ2 => t τ2 M (fun _ _ => False) fun b M1 =>
      way b (fk τ2 M1 (fun _ _ => False) fun y M2 => fv τ2 M2 (fun _ _ => False) fun z M3 => ∃ key, keyP y = some key ∧ M3 D = some (.dK acc) ∧ acc.length < sizeLine ∧ compD tg t fk fv st D τ xs (putKV acc key z) (updM M3 D (.dK (putKV acc key z))) k) (compD tg t fk fv st D τ xs acc M1 k)
@[simp] def qDc (fi : QI) (tg : Tgt) (t : QT) (fk fv : QE) (own : List Nat) : QE := fun τ M x k => fi τ M x fun xs st M1 => ∀ D, M1 D = none → compD tg t fk fv st D (wipeQ τ own) xs [] (updM M1 D (.dK [])) fun M2 => k (.ref D) M2
variable {c : Cf} {elt kx vx tge iter : Expr} {ifs : List Expr} {scope : Scope} {own : List (Str × Nat)} {pos : Pos} {fi : QI} {tg : Tgt} {t : QT} {e fk fv : QE}
theorem dc_walk {X : Cx} {B : Hp} {gr : TG} {F1 : Hp} {τ : Tau} {σ : L2.St} {M1 : PM} {H1 : Hp} {J : It} {xs : List PV} {st : PM → Prop} {D : Addr} {kq : PM → Prop} {Qd : Hp → Prop} (h1 : TgOk X.K tg gr) (hB : Same B F1) (sr : SRel X.K F1 τ σ) (r1 : Rel X.K F1 M1 H1) (sv : Serves X.K J F1 xs st) (hD : H1 D = none)
    (q1 : compD tg t fk fv st D (wipeQ τ tg.own) xs [] (updM M1 D (.dK [])) kq) (hq : ∀ M' F' H', kq M' → Same F1 F' → Rel X.K F' M' H' → Qd H') :
    ∃ W : Nat → Nat → Hp → Prop, (∃ m, W 0 m (upd H1 D (.dK []))) ∧ ∀ i m H, W i m H →
      (J.stop i H ∧ Qd H) ∨ (J.go i H ∧ ∃ Nx : Hp → Prop, (∀ H', Nx H' → ∃ m', m' < m ∧ W (i + 1) m' H') ∧ ∀ x H', J.yld i H x H' → gr x (wipe σ tg.own) H' fun σ2 H2 => wipe σ2 tg.own = wipe σ tg.own ∧ lT0 X.K B t σ2 H2 fun b H3 =>
        if b = true then lE0 X.K B fk σ2 H3 fun y H4 => lE0 X.K B fv σ2 H4 fun z H5 => ∃ kvs k, y = kV k ∧ H5 D = some (.dK kvs) ∧ kvs.length < sizeLine ∧ Nx (upd H5 D (.dK (putK kvs k z))) else Nx H3) := by
  have r0 : Rel X.K F1 (updM M1 D (.dK [])) (upd H1 D (.dK [])) := r1.put (r1.fresh hD).1 (fun x e => by rw [hD] at e; cases e) ⟨[], upd_same, .nil⟩
  refine ⟨fun i m H => m = xs.length - i ∧ i ≤ xs.length ∧ ∃ F' M' acc, Same F1 F' ∧ Rel X.K F' M' H ∧ compD tg t fk fv st D (wipeQ τ tg.own) (xs.drop i) acc M' kq,
    ⟨xs.length, by simp, Nat.zero_le _, F1, _, [], Same.refl _, r0, by simpa using q1⟩, ?_⟩
  rintro i m H ⟨rfl, hi, F', M', acc, s', r', h⟩
  by_cases hlt : i < xs.length
  · rw [List.drop_eq_getElem_cons hlt] at h
    obtain ⟨hst, h⟩ := h
    obtain ⟨go, yl⟩ := (sv F' M' H s' r' hst).2 i xs[i] (List.getElem?_eq_getElem hlt)
    refine .inr ⟨go, fun H' => (xs.length - (i + 1) < xs.length - i) ∧ i + 1 ≤ xs.length ∧ ∃ F' M' acc, Same F1 F' ∧ Rel X.K F' M' H' ∧ compD tg t fk fv st D (wipeQ τ tg.own) (xs.drop (i + 1)) acc M' kq, fun H' ⟨p1, p2, p3⟩ => ⟨_, p1, rfl, p2, p3⟩, fun v H' hy => ?_⟩
    obtain ⟨F2, s2, r2, e2⟩ := yl v H' hy
    refine h1 F2 _ v τ σ H' _ _ r2.sub e2 (wipe_rel (sr.mono (s'.trans s2)) _) h fun τ2 σ2 h2 sr2 hw => ⟨hw, ?_⟩
    refine ⟨F2, τ2, M', _, ⟨(hB.trans s').trans s2, r2, sr2⟩, h2, fun b M3 F3 H3 h3 s3 r3 => ?_⟩
    cases b with
    | false =>
      simp only [Bool.false_eq_true, if_false]
      exact ⟨by omega, hlt, F3, M3, acc, (s'.trans s2).trans s3, r3, h3.2 rfl⟩
    | true =>
      simp only [if_true]
      refine ⟨F3, τ2, M3, _, ⟨((hB.trans s').trans s2).trans s3, r3, sr2.mono s3⟩, h3.1 rfl, fun y M4 F4 u H4 h4 s4 r4 e4 => ?_⟩
      refine ⟨F4, τ2, M4, _, ⟨(((hB.trans s').trans s2).trans s3).trans s4, r4, (sr2.mono s3).mono s4⟩, h4, fun z M5 F5 w H5 h5 s5 r5 e5 => ?_⟩
      obtain ⟨key, k1, k2, k3, k4⟩ := h5
      obtain ⟨ws, q1, q2⟩ := r5.chg _ _ k2
      have ek : u = kV key := by
        cases e4 <;> cases k1 <;> rfl
      refine ⟨ws, key, ek, q1, by rw [← (RepKV.length q2).1]; exact k3, by omega, hlt, F5, _, _, (((s'.trans s2).trans s3).trans s4).trans s5, ?_, k4⟩
      exact r5.put (r5.dis _ _ k2) (fun x z => by rw [q1] at z; cases z) ⟨_, upd_same, repKV_put q2 e5⟩
  · have ei : i = xs.length := by omega
    subst ei
    rw [List.drop_length] at h
    obtain ⟨hst, h1', h2'⟩ := h
    exact .inl ⟨(sv F' M' H s' r' hst).1, hq _ _ _ h2' s' r'⟩
theorem de_dc (hN : c.N.Nodup) (hi : DI c tge iter fi) (ok : BlkOk c.N c.sc scope own) (ho : own.map (·.2) = tg.own) (hg : DGb (blkCf c scope) (fun x => scope.names.lookup x == some .cell) tge tg) (ht : DTs (blkCf c scope) ifs t) (hk1 : DE (blkCf c scope) kx fk) (hv1 : DE (blkCf c scope) vx fv)
    (hs : ∀ env x, foldedSetIterable iter env x = pure x := by intro _ _; rfl) : DE c (.DictComp kx vx [⟨tge, iter, ifs, 0⟩] scope pos) (qDc fi tg t fk fv tg.own) := fun X g B => by
  obtain ⟨gr, h1, h2, h3, h4⟩ := lc_parts g B hg ht hk1
  obtain ⟨_, _, _, _, h5⟩ := lc_parts g B hg ht hv1
  refine (pe_dc (own := own) (g := gr) (tt := lT0 X.K B t) (tk := lE0 X.K B fk) (tv := lE0 X.K B fv) g.calm (by rw [g.N]; exact hN) (hi X g B) (by rw [g.N, g.sc]; exact ok) h2 h3 h4 h5 (hs _)).im fun σ H Q => ?_
  rintro ⟨F, τ, M, x, k, a, hf, tk, hk⟩
  refine ⟨F, τ, M, x, _, a, hf, tk, fun xs st M1 F1 J H1 q1 s1 r1 sv D hD => ?_⟩
  rw [ho]
  exact dc_walk h1 (a.b.trans s1) (a.s.mono s1) r1 sv hD (q1 D (r1.fresh hD).2) fun M' F' H' z1 z2 z3 => hk _ _ _ _ _ z1 (s1.trans z2) z3 (.ref D)
/-- y = {..} -/
theorem ds_setDc (i : Nat) {y : Str} {py spos : Pos} (hN : c.N.Nodup) (hi : DI c tge iter fi) (ok : BlkOk c.N c.sc scope own) (ho : own.map (·.2) = tg.own) (hg : DGb (blkCf c scope) (fun x => scope.names.lookup x == some .cell) tge tg) (ht : DTs (blkCf c scope) ifs t) (hk1 : DE (blkCf c scope) kx fk) (hv1 : DE (blkCf c scope) vx fv)
    (hy : c.N[i]? = some y := by rfl) (hyl : c.sc.names.lookup y = some .local := by rfl) (hkf : c.sc.kind = .function := by rfl) (hl : (py.line == pos.line) = true := by decide) (ha : (scope.names.any fun (n, k) => n == y && (k == .local || k == .cell)) = false := by decide)
    (hs : ∀ env x, foldedSetIterable iter env x = pure x := by intro _ _; rfl) : DS c (.Assign [.Name y py] (.DictComp kx vx [⟨tge, iter, ifs, 0⟩] scope pos) spos) (qAsg (qDc fi tg t fk fv tg.own) (gSet i)) := fun X gd B => by
  have g := gd.toGood
  obtain ⟨gr, h1, h2, h3, h4⟩ := lc_parts g B hg ht hk1
  obtain ⟨_, _, _, _, h5⟩ := lc_parts g B hg ht hv1
  refine (ps_setDcQ (i := i) (own := own) (g := gr) (tt := lT0 X.K B t) (tk := lE0 X.K B fk) (tv := lE0 X.K B fv) g.calm (by rw [g.N]; exact hN) (by rw [g.N]; exact hy) (by rw [g.sc]; exact hyl) (swDc (by rw [g.sc]; exact hkf) (by rw [g.sc]; exact hyl) hl ha) (hi X g B) (by rw [g.N, g.sc]; exact ok) h2 h3 h4 h5 (hs _)).im fun E σ H => ?_
  rintro ⟨F, τ, M, d, a, hf, tk, hd⟩
  refine ⟨F, τ, M, _, _, a, hf, takes_x tk, fun xs st M1 F1 J H1 q1 s1 r1 sv D hD => ?_⟩
  rw [ho]
  exact dc_walk h1 (a.b.trans s1) (a.s.mono s1) r1 sv hD (q1 D (r1.fresh hD).2) fun M' F' H' z1 z2 z3 => hd.nx _ _ _ _ _ z1 (s1.trans z2) z3 ((a.s.mono (s1.trans z2)).set (.ref D) i)
/-! ### list comprehensions of two clauses -/
def comp1 (tg : Tgt) (t : QT) (e : QE) (st : PM → Prop) (D : Addr) (τ : Tau) : List PV → List PV → PM → (List PV → PM → Prop) → Prop
  | [], acc, M, k => st M ∧ M D = some (.lst acc) ∧ k acc M
  | x :: xs, acc, M, k => st M ∧ tg.set x τ fun τ2 => t τ2 M (fun _ _ => False) fun b M1 =>
      way b (e τ2 M1 (fun _ _ => False) fun y M2 => M2 D = some (.lst acc) ∧ acc.length < sizeLine ∧ comp1 tg t e st D τ xs (acc ++ [y]) (updM M2 D (.lst (acc ++ [y]))) k) (comp1 tg t e st D τ xs acc M1 k)
def comp2 (tg : Tgt) (t : QT) (fi1 : QI) (tg1 : Tgt) (t1 : QT) (e : QE) (st : PM → Prop) (D : Addr) (τ : Tau) : List PV → List PV → PM → (List PV → PM → Prop) → Prop
  | [], acc, M, k => st M ∧ M D = some (.lst acc) ∧ k acc (delM M D)
  | x :: xs, acc, M, k => st M ∧ tg.set x τ fun τ2 => t τ2 M (fun _ _ => False) fun b M1 =>
      way b (fi1 τ2 M1 (fun _ _ => False) fun ys st1 M2 => comp1 tg1 t1 e st1 D (wipeQ τ2 tg1.own) ys acc M2 fun acc' M3 => comp2 tg t fi1 tg1 t1 e st D τ xs acc' M3 k) (comp2 tg t fi1 tg1 t1 e st D τ xs acc M1 k)
@[simp] def qLc2 (fi : QI) (tg : Tgt) (t : QT) (fi1 : QI) (tg1 : Tgt) (t1 : QT) (e : QE) (own : List Nat) : QE := fun τ M x k => fi τ M x fun xs st M1 => ∀ D, M1 D = none → comp2 tg t fi1 tg1 t1 e st D (wipeQ τ own) xs [] (updM M1 D (.lst [])) fun ys M2 => k (.lst ys) M2
def lI0 (K : Fg) (B : Hp) (f : QI) : TI := fun σ H R => ∃ F τ M k, At K B F τ M σ H ∧ f τ M (fun _ _ => False) k ∧
  ∀ xs st M' F' J H', k xs st M' → Same F F' → Rel K F' M' H' → Serves K J F' xs st → R J H'
variable {tge1 iter1 : Expr} {ifs1 : List Expr} {fi1 : QI} {tg1 : Tgt} {t1 : QT}
theorem wipeQ_get (τ : Tau) : ∀ (vs : List Nat) (i : Nat), (wipeQ τ vs)[i]? = if i ∈ vs then (τ[i]?).map fun _ => none else τ[i]?
  | [], i => by simp [wipeQ]
  | v :: vs, i => by
    have hl : (wipeQ τ vs).length = τ.length := by
      induction vs with
      | nil => rfl
      | cons a b ih => simp [wipeQ, ih]
    unfold wipeQ
    rw [List.getElem?_set, wipeQ_get τ vs i, hl]
    by_cases h : v = i
    · subst h
      by_cases hl : v < τ.length
      · simp [hl]
      · simp [hl]
    · have h' : ¬ i = v := fun e => h e.symm
      simp [h, h']
theorem wipeQ_inQ (τ : Tau) {vs ws : List Nat} (h : ∀ i ∈ vs, i ∈ ws) : wipeQ (wipeQ τ ws) vs = wipeQ τ ws := by
  apply List.ext_getElem?
  intro i
  rw [wipeQ_get, wipeQ_get]
  by_cases hv : i ∈ vs
  · simp [hv, h i hv, Function.comp_def]
  · simp [hv]
theorem de_lc2 (hN : c.N.Nodup) (hi : DI c tge iter fi) (ok : BlkOk c.N c.sc scope own) (ho : ∀ i ∈ tg.own, i ∈ own.map (·.2)) (ho1 : ∀ i ∈ tg1.own, i ∈ own.map (·.2)) (hg : DGb (blkCf c scope) (fun x => scope.names.lookup x == some .cell) tge tg) (ht : DTs (blkCf c scope) ifs t)
    (hi1 : DI (blkCf c scope) tge1 iter1 fi1) (hg1 : DGb (blkCf c scope) (fun x => scope.names.lookup x == some .cell) tge1 tg1) (ht1 : DTs (blkCf c scope) ifs1 t1) (he : DE (blkCf c scope) elt e)
    (hs : ∀ env x, foldedSetIterable iter env x = pure x := by intro _ _; rfl) (hs1 : ∀ env x, foldedSetIterable iter1 env x = pure x := by intro _ _; rfl) : DE c (.ListComp elt [⟨tge, iter, ifs, 0⟩, ⟨tge1, iter1, ifs1, 0⟩] scope pos) (qLc2 fi tg t fi1 tg1 t1 e (own.map (·.2))) := fun X g B => by
  obtain ⟨gr, h1, h2, h3, h4⟩ := lc_parts g B hg ht he
  obtain ⟨gr1, k1, k2, k3, _⟩ := lc_parts g B hg1 ht1 he
  refine (pe_lc2 (own := own) (vs1 := tg1.own) (g := gr) (tt := lT0 X.K B t) (wi1 := lI0 X.K B fi1) (g1 := gr1) (tt1 := lT0 X.K B t1) (te := lE0 X.K B e) g.calm (by rw [g.N]; exact hN) (hi X g B) (by rw [g.N, g.sc]; exact ok) ho1 h2 h3
    (fun s H C cl fp => (hi1 _ (good_blk g) B).im fun σ H Q ⟨F, τ, M, k, a, hf, hk⟩ => ⟨F, τ, M, _, k, a, hf, takes_no, hk⟩) k2 k3 h4 (hs _) hs1).im fun σ H Q => ?_
  rintro ⟨F, τ, M, x, k, a, hf, tk, hk⟩
  refine ⟨F, τ, M, x, _, a, hf, tk, fun xs st M1 F1 J H1 q1 s1 r1 sv D hD => ?_⟩
  have sr := a.s.mono s1
  have hB := a.b.trans s1
  generalize hw : own.map (·.2) = ws at ho ho1 q1 ⊢
  refine ⟨fun i m H => m = xs.length - i ∧ i ≤ xs.length ∧ ∃ F' M' acc, Same F1 F' ∧ Rel X.K F' M' H ∧ comp2 tg t fi1 tg1 t1 e st D (wipeQ τ ws) (xs.drop i) acc M' (fun ys M2 => k (.lst ys) M2),
    ⟨xs.length, by simp, Nat.zero_le _, F1, _, [], Same.refl _, r1.newL hD .nil, by simpa using q1 D (r1.fresh hD).2⟩, ?_⟩
  rintro i m H ⟨rfl, hi, F', M', acc, s', r', h⟩
  by_cases hlt : i < xs.length
  · rw [List.drop_eq_getElem_cons hlt] at h
    obtain ⟨hst, h⟩ := h
    obtain ⟨go, yl⟩ := (sv F' M' H s' r' hst).2 i xs[i] (List.getElem?_eq_getElem hlt)
    refine .inr ⟨go, fun H' => (xs.length - (i + 1) < xs.length - i) ∧ i + 1 ≤ xs.length ∧ ∃ F' M' acc, Same F1 F' ∧ Rel X.K F' M' H' ∧ comp2 tg t fi1 tg1 t1 e st D (wipeQ τ ws) (xs.drop (i + 1)) acc M' (fun ys M2 => k (.lst ys) M2), fun H' ⟨p1, p2, p3⟩ => ⟨_, p1, rfl, p2, p3⟩, fun v H' hy => ?_⟩
    obtain ⟨F2, s2, r2, e2⟩ := yl v H' hy
    have hg2 := h1 F2 xs[i] v (wipeQ τ ws) (wipe σ ws) H'
    rw [wipe_inQ σ ho, wipeQ_inQ τ ho] at hg2
    refine hg2 _ _ r2.sub e2 (wipe_rel (sr.mono (s'.trans s2)) _) h fun τ2 σ2 h2 sr2 hw2 => ⟨wipe_back ho hw2, ?_⟩
    refine ⟨F2, τ2, M', _, ⟨(hB.trans s').trans s2, r2, sr2⟩, h2, fun b M3 F3 H3 h3 s3 r3 => ?_⟩
    cases b with
    | false =>
      simp only [Bool.false_eq_true, if_false]
      exact ⟨by omega, hlt, F3, M3, acc, (s'.trans s2).trans s3, r3, h3.2 rfl⟩
    | true =>
      simp only [if_true]
      have sr3 := sr2.mono s3
      refine ⟨F3, τ2, M3, _, ⟨((hB.trans s').trans s2).trans s3, r3, sr3⟩, h3.1 rfl, fun ys st1 M4 F4 J1 H4 h4 s4 r4 sv1 => ?_⟩
      have sr4 := sr3.mono s4
      refine ⟨fun j m H => m = ys.length - j ∧ j ≤ ys.length ∧ ∃ F' M' acc, Same F4 F' ∧ Rel X.K F' M' H ∧ comp1 tg1 t1 e st1 D (wipeQ τ2 tg1.own) (ys.drop j) acc M' (fun acc' M3 => comp2 tg t fi1 tg1 t1 e st D (wipeQ τ ws) (xs.drop (i + 1)) acc' M3 fun ys M2 => k (.lst ys) M2),
        ⟨ys.length, by simp, Nat.zero_le _, F4, _, acc, Same.refl _, r4, by simpa using h4⟩, ?_⟩
      rintro j m H5 ⟨rfl, hj, F5, M5, acc5, s5, r5, h5⟩
      by_cases hlt1 : j < ys.length
      · rw [List.drop_eq_getElem_cons hlt1] at h5
        obtain ⟨hst1, h5⟩ := h5
        obtain ⟨go1, yl1⟩ := (sv1 F5 M5 H5 s5 r5 hst1).2 j ys[j] (List.getElem?_eq_getElem hlt1)
        refine .inr ⟨go1, fun H' => (ys.length - (j + 1) < ys.length - j) ∧ j + 1 ≤ ys.length ∧ ∃ F' M' acc, Same F4 F' ∧ Rel X.K F' M' H' ∧ comp1 tg1 t1 e st1 D (wipeQ τ2 tg1.own) (ys.drop (j + 1)) acc M' (fun acc' M3 => comp2 tg t fi1 tg1 t1 e st D (wipeQ τ ws) (xs.drop (i + 1)) acc' M3 fun ys M2 => k (.lst ys) M2), fun H' ⟨p1, p2, p3⟩ => ⟨_, p1, rfl, p2, p3⟩, fun v H' hy => ?_⟩
        obtain ⟨F6, s6, r6, e6⟩ := yl1 v H' hy
        refine k1 F6 _ v τ2 σ2 H' _ _ r6.sub e6 (wipe_rel (sr4.mono (s5.trans s6)) _) h5 fun τ3 σ3 h6 sr6 hw6 => ⟨hw6, ?_⟩
        have hB6 := (((((hB.trans s').trans s2).trans s3).trans s4).trans s5).trans s6
        refine ⟨F6, τ3, M5, _, ⟨hB6, r6, sr6⟩, h6, fun b M7 F7 H7 h7 s7 r7 => ?_⟩
        cases b with
        | false =>
          simp only [Bool.false_eq_true, if_false]
          exact ⟨by omega, hlt1, F7, M7, acc5, (s5.trans s6).trans s7, r7, h7.2 rfl⟩
        | true =>
          simp only [if_true]
          refine ⟨F7, τ3, M7, _, ⟨hB6.trans s7, r7, sr6.mono s7⟩, h7.1 rfl, fun y M8 F8 u H8 h8 s8 r8 e8 => ?_⟩
          obtain ⟨p5, p6, p7⟩ := h8
          obtain ⟨vs, w1, w2⟩ := r8.getL p5
          exact ⟨vs, w1, by rw [← w2.length]; exact p6, by omega, hlt1, F8, _, _, ((s5.trans s6).trans s7).trans s8, r8.setL p5 (w2.append (.cons e8 .nil)), p7⟩
      · have ej : j = ys.length := by omega
        subst ej
        rw [List.drop_length] at h5
        obtain ⟨hst1, p1, p2⟩ := h5
        exact .inl ⟨(sv1 F5 M5 H5 s5 r5 hst1).1, by omega, hlt, F5, M5, acc5, (((s'.trans s2).trans s3).trans s4).trans s5, r5, p2⟩
  · have ei : i = xs.length := by omega
    subst ei
    rw [List.drop_length] at h
    obtain ⟨hst, p1, p2⟩ := h
    obtain ⟨vs, w1, w2, w3⟩ := r'.freeze p1
    exact .inl ⟨(sv F' M' H s' r' hst).1, hk _ _ _ _ _ p2 ((s1.trans s').trans w2) w1 (.lst upd_same (w3.mono w2))⟩
/-! ### lists that will change -/
def opAddM : Q2 := fun x y M k => lstP x M fun a => lstP y M fun b => a.length + b.length ≤ sizeLine ∧ ∀ p, M p = none → k (.ref p) (updM M p (.lst (a ++ b)))
theorem oq_addM {c : Cf} : OQ c (binaryOp .Add) opAddM := by
  refine oq_of (t := fun X => _) (fun X g => op_cat) fun X g x y H Q h => ?_
  obtain ⟨F, p, q, M, k, R, ep, eq_, ho, hk⟩ := h
  obtain ⟨a, vs, xs, rfl, h1, r1, hl⟩ := lstP_ok R ep ho
  obtain ⟨b, ws, ys, rfl, h2, r2, hz, hl⟩ := lstP_ok R eq_ hl
  exact ⟨a, b, vs, ws, rfl, rfl, h1, h2, by rw [← r1.length, ← r2.length]; exact hz, fun p hp => hk _ _ _ _ _ (hl p (R.fresh hp).2) (Same.refl _) (R.newL hp (r1.append r2)) (.ref p)⟩
def opMulM : Q2
  | .lst a, .int j, M, k => (0 ≤ j ∧ j < 2 ^ 63 ∧ a.length * j.toNat ≤ sizeLine) ∧ ∀ p, M p = none → k (.ref p) (updM M p (.lst (List.replicate j.toNat a).flatten))
  | _, _, _, _ => False
set_option autoImplicit true in
@[simp] theorem opMulM_s : opMulM (.lst a) (.int j) M k = ((0 ≤ j ∧ j < 2 ^ 63 ∧ a.length * j.toNat ≤ sizeLine) ∧ ∀ p, M p = none → k (.ref p) (updM M p (.lst (List.replicate j.toNat a).flatten))) := rfl
theorem oq_mulM {c : Cf} : OQ c (binaryOp .Mult) opMulM := by
  refine oq_of (t := fun X => _) (fun X g => op_rep) fun X g x y H Q h => ?_
  obtain ⟨F, p, q, M, k, R, ep, eq_, ho, hk⟩ := h
  unfold opMulM at ho
  split at ho
  · cases ep with
    | lst ha ra =>
      cases eq_
      obtain ⟨⟨h0, h1, h2⟩, ho⟩ := ho
      exact ⟨_, _, _, rfl, rfl, R.sub _ _ ha, by omega, h1, by rw [← ra.length]; exact h2, fun p hp => hk _ _ _ _ _ (ho p (R.fresh hp).2) (Same.refl _) (R.newL hp (ra.rep _)) (.ref p)⟩
  · exact ho.elim
/-! ### list(range(n)) -/
def lrgP : List PV → PM → PK → Prop
  | [.int n], M, k => 0 ≤ n ∧ n ≤ 1000000 ∧ k (.lst (rngL 0 n.toNat)) M
  | _, _, _ => False
@[simp] theorem lrgP_s {n : Int} {M : PM} {k : PK} : lrgP [.int n] M k = (0 ≤ n ∧ n ≤ 1000000 ∧ k (.lst (rngL 0 n.toNat)) M) := rfl
@[simp] def qLrg (fa : QA) : QE := fun τ M x k => fa τ M x fun ps M1 => lrgP ps M1 k
theorem reps_rng {K : Fg} {F : Hp} (n : Nat) : Reps K F (rngL 0 n) (rgV 0 n) := by
  have e : rgV 0 n = ((List.range n).map fun (i : Nat) => (0 : Int) + (i : Int)).map V.int := by
    unfold rgV
    rw [List.map_map]
    have : ((n : Int) - 0).toNat = n := by omega
    rw [this]
    rfl
  have e' : rngL 0 n = ((List.range n).map fun (i : Nat) => (0 : Int) + (i : Int)).map PV.int := by
    unfold rngL
    rw [List.map_map]
    rfl
  rw [e, e']
  exact Reps.ints _
theorem de_listRg {c : Cf} {a : Expr} {p p2 pos pos2 : Pos} {f : QE} (hgl : c.sc.names.lookup ("list" : Str) = some .globalImplicit) (hm : c.g.mg ("list" : Str) = none) (hgl2 : c.sc.names.lookup ("range" : Str) = some .globalImplicit) (hm2 : c.g.mg ("range" : Str) = none) (ha : DE c a f)
    (na : ∀ env, starEach [a] env = (false, eval a env) :: starEach [] env := by intro _; rfl) (na2 : ∀ env, starEach [.Call (.Name "range" p2) [a] [] pos2] env = (false, eval (.Call (.Name "range" p2) [a] [] pos2) env) :: starEach [] env := by intro _; rfl) :
    DE c (.Call (.Name "list" p) [.Call (.Name "range" p2) [a] [] pos2] [] pos) (qLrg (qCons f qNil)) := fun X g B => by
  refine (pe_listRg g.calm (gl_of g.sc hgl) (by rw [g.mg]; exact hm) (prg_1 (gl_of g.sc hgl2) (by rw [g.mg]; exact hm2) (ha X g B) (na _)) (na2 _)).im fun σ H Q => ?_
  rintro ⟨F, τ, M, x, k, a, hf, tk, hk⟩
  refine ⟨F, τ, M, x, _, a, hf, tk, fun v M1 F1 u H1 h1 s1 r1 e1 => ?_⟩
  cases e1 with
  | int n =>
    obtain ⟨h0, h2, h3⟩ := h1
    refine ⟨n, rfl, RgOk.of_le (by omega) (by omega) (by omega) h0, fun q hq => ?_⟩
    obtain ⟨n', rfl⟩ := Int.eq_ofNat_of_zero_le h0
    obtain ⟨r2, s2⟩ := r1.newF hq (.lst (rgV 0 (n' : Int)))
    exact hk _ _ _ _ _ h3 (s1.trans s2) r2 (.lst upd_same (reps_rng _))
  | _ => exact h1.elim
/-! ### a promise taken with what is weaker -/
mutual
def unX : PV → PV
  | .tup xs => .tup (unXs xs)
  | .tpx xs => .tup (unXs xs)
  | .lst xs => .lst (unXs xs)
  | .rdl xs => .rdl (unXs xs)
  | .non => .non
  | .bl b => .bl b
  | .int i => .int i
  | .str z => .str z
  | .ty n => .ty n
  | .ref a => .ref a
def unXs : List PV → List PV
  | [] => []
  | x :: xs => unX x :: unXs xs
end
mutual
theorem rep_un {K : Fg} {F : Hp} : ∀ {x : PV} {v : V}, Rep K F x v → Rep K F (unX x) v
  | _, _, .non => .non
  | _, _, .bl b => .bl b
  | _, _, .int b => .int b
  | _, _, .str b => .str b
  | _, _, .ty b => .ty b
  | _, _, .ref b => .ref b
  | _, _, .tup h r => .tup h (reps_un r)
  | _, _, .tpx h r => .tup h.sq (reps_un r)
  | _, _, .lst h r => .lst h (reps_un r)
  | _, _, .rdl h r => .rdl h (reps_un r)
theorem reps_un {K : Fg} {F : Hp} : ∀ {xs : List PV} {vs : List V}, Reps K F xs vs → Reps K F (unXs xs) vs
  | _, _, .nil => .nil
  | _, _, .cons a b => .cons (rep_un a) (reps_un b)
end
def spW (sp : PSp) : PSp := fun xs M k x => sp (unXs xs) M k x
end Q
/-! enumerate over a tuple -/
namespace L2
open PySem PySem.Spec PyProof.Rows
set_option maxHeartbeats 1000000 in
theorem meets_enumQ {v : Value} {o : Obj} {P : Heap → Prop} (B : Begins v o P) :
    Meets (Builtin.«enumerate.__new__» ⟨[.type "enumerate", v], []⟩) (fun _ R s => P s.heap ∧
      R (.ok (.ret (.ref (s.heap.push o).objs.size))) { s with heap := (s.heap.push o).push { cls := .type "enumerate", data := .fields #[.none, .bool false, .ref s.heap.objs.size, rawInt 0, .none, .none] } }) :=
  .of_wp fun prog w A R s hh => by
    obtain ⟨hp, gn, dr, tk, os⟩ := s
    obtain ⟨p1, hh⟩ := hh
    have subE := sub_enumerate
    have q1 : ∀ {A2 : Around} {E2 : Value → Shared → Prop} {Q2 : Value → Shared → Prop}, Q2 (.ref hp.objs.size) ⟨hp.push o, gn, dr, tk, os⟩ → wpAny (model prog w) A2 (pyIter v) Q2 E2 ⟨hp, gn, dr, tk, os⟩ :=
      fun q => B.iter prog w _ _ ⟨hp, gn, dr, tk, os⟩ _ p1 q
    wp_walk using q1
    refine wpAny_stack_any fun _ => wpAny_pure ?_
    split
    · rename_i cl _ _ _ _ _
      cases (cl == Value.type "enumerate") <;> (wp_walk using q1; exact ⟨_, rfl, hh⟩)
    · wp_walk using q1
      exact ⟨_, rfl, hh⟩
theorem call_enumQ {prog : Program} {w : World} {A : Around} {E : Value → Shared → Prop} {s : Shared} {v : Value} {o : Obj} {P : Heap → Prop} {Q : Value → Shared → Prop} (B : Begins v o P) (p1 : P s.heap)
    (h : ∀ h', IsEnum h' (s.heap.objs.size + 1) s.heap.objs.size 0 .none → h'.get? s.heap.objs.size = some o → (∀ b u, s.heap.get? b = some u → h'.get? b = some u) → Q (.ref (s.heap.objs.size + 1)) { s with heap := h' }) :
    wpAny (model prog w) A (call (.type "enumerate") [v]) Q E s := by
  refine callType_new F.called_enumerate (by decide) (F.typeCall_enumerate_1 _) (F.newCall_enumerate_1 _) (fun obj => F.args_object_init_2 obj _) F.entry_enumerate_new (meets_enumQ B) ⟨p1, ?_⟩
  have sz : (s.heap.push o).objs.size = s.heap.objs.size + 1 := Heap.size_push ..
  have en : IsEnum ((s.heap.push o).push { cls := .type "enumerate", data := .fields #[.none, .bool false, .ref s.heap.objs.size, rawInt 0, .none, .none] }) (s.heap.objs.size + 1) s.heap.objs.size 0 .none := by
    have z := Heap.get?_push_size (s.heap.push o) (o := { cls := .type "enumerate", data := .fields #[.none, .bool false, .ref s.heap.objs.size, rawInt 0, .none, .none] }) rfl
    rw [sz] at z
    exact z
  show _ ∧ _
  rw [sz]
  exact ⟨⟨_, en, rfl⟩, h _ en (Heap.get?_push_of_some _ (Heap.get?_push_size _ B.free)) fun b u x => Heap.get?_push_of_some _ (Heap.get?_push_of_some _ x)⟩
/-- (0, x0), (1, x1), .. : new tuples over the tuple at a -/
def ItTe (K : PySem.W.Frag) (a : Addr) : It :=
  ⟨fun i H => ∃ xs x, SqT K H a xs ∧ xs[i]? = some x, fun i H v H' => ∃ T x, v = .ref T ∧ H T = none ∧ H' = upd H T (.tup [.int (i : Nat), x]) ∧ ∀ ys, SqT K H a ys → ys[i]? = some x, fun i H => ∃ xs, SqT K H a xs ∧ xs.length = i⟩
theorem turn_enumTQ {P : Program} {w : World} {K : PySem.W.Frag} {elts : List Expr} {kk : Nat} {tpos : Pos} (a e it : Addr) :
    Turn P w K (.Tuple elts kk tpos) (ItTe K a) [e, it] e (fun i h => (∃ old, IsEnum h e it ((i : Nat) : Int) old) ∧ h.IsTupleIter it a i ∧ e ≠ it ∧ a ≠ it ∧ a ≠ e) where
  mem := by simp
  obj := fun i h st b hb => by
    obtain ⟨⟨old, he⟩, ⟨o, ho, c1, d1⟩, _⟩ := st
    rcases (show b = e ∨ b = it by simpa using hb) with z | z
    · rw [z]; exact ⟨_, he, fun v q => nomatch q⟩
    · rw [z]; exact ⟨o, ho, fun v q => by rw [d1] at q; cases q⟩
  keep := fun i h h' st k => by
    obtain ⟨⟨old, he⟩, hi, r⟩ := st
    exact ⟨⟨old, k e (by simp) _ he⟩, hi.at fun o q => k it (by simp) o q, r⟩
  item := by
    intro X hP hw hK hc i pins s σ H E I hf st hg
    subst hP hw hK
    obtain ⟨⟨old, he⟩, hit, hne, na, nae⟩ := st
    obtain ⟨xs, x, hq, hx⟩ := hg
    obtain ⟨its, rv, p, hz⟩ := I.tuple hq
    obtain ⟨u, hu, ru⟩ := rv.get hx
    have tp : s.heap.IsTuple a its.toArray := p
    have le : e < s.heap.objs.size := Heap.lt_size he
    have li : it < s.heap.objs.size := by obtain ⟨_, q, _⟩ := hit; exact Heap.lt_size q
    have D := Draws.tuple (prog := X.prog) (w := X.w) (A := X.A.in1) (I.ok.hd hc) it a na its.toArray
    have hlt : i < its.toArray.size := by
      rw [List.size_toArray]
      exact (List.getElem?_eq_some_iff.mp hu).1
    refine wpAny_pyNext_enum_itemD D he ⟨hit, tp⟩ hlt hne (by simp [hne, Ne.symm nae]) fun u2 h' tk hu2 ho hst' hT hsz hk => ?_
    have eu : u2 = u := by
      have : its.toArray[i]? = some u2 := hu2
      rw [List.getElem?_toArray, hu] at this
      exact (Option.some.inj this).symm
    subst eu
    refine ⟨_, rfl, wpAny_letOwnedTupleGo_enum (s := { s with heap := h', toks := tk + 1 }) ho fun h'' he' sb => ?_⟩
    have T2 : h''.get? s.heap.objs.size = some { cls := .type "tuple", data := .seq #[.int i tk, u2] } := (sb.2 _ (Nat.ne_of_gt le)).trans hT
    have new : ObjOk X.prog X.w (upd H s.heap.objs.size (.tup [.int (i : Nat), x])) h'' s.heap.objs.size (.tup [.int (i : Nat), x]) :=
      ⟨by show 2 ≤ sizeLine; decide, [.int i tk, u2], .cons ⟨_, rfl⟩ (.cons ru .nil), ⟨_, T2, rfl, _, rfl⟩⟩
    have I1 : Inv X pins σ (upd H s.heap.objs.size (.tup [.int (i : Nat), x])) { s with heap := h'', toks := tk + 1 } :=
      I.turnedNew (ch := [e, it]) (fun b ob hb q => (sb.2 b (fun z => hb (by simp [z]))).trans (hk b ob (fun z => hb (by simp [z])) (fun z => hb (by simp [z])) q)) hf (Nat.le_refl _) new
    refine ⟨.ref s.heap.objs.size, _, I1, rfl, ⟨_, x, rfl, I.hok.fresh (Nat.le_refl _), rfl, fun ys hy => by rw [I.tuple_inj hy hq]; exact hx⟩, ⟨⟨u2, ?_⟩, hst'.1.at fun o q => (sb.2 it (Ne.symm hne)).trans q, hne, na, nae⟩, fun b hb => ?_⟩
    · rw [show ((i + 1 : Nat) : Int) = (i : Int) + 1 by omega]
      exact he'
    · have lb : b < s.heap.objs.size := by
        rcases (show b = e ∨ b = it by simpa using hb) with z | z
        · rw [z]; exact le
        · rw [z]; exact li
      rw [upd_ne (Nat.ne_of_lt lb)]
      exact (hf b hb).1
  done := by
    intro X hP hw hK hc i pins s σ H E I hf st hg
    subst hP hw hK
    obtain ⟨⟨old, he⟩, hit, hne, na, nae⟩ := st
    obtain ⟨xs, hq, hx⟩ := hg
    obtain ⟨its, rv, p, hz⟩ := I.tuple hq
    obtain ⟨f0, f1, f2, f3, f4, f5⟩ := hf it (by simp)
    have D := Draws.tuple (prog := X.prog) (w := X.w) (A := X.A.in1) (I.ok.hd hc) it a na its.toArray
    have hl : its.toArray.size = i := by rw [List.size_toArray, ← rv.length]; exact hx
    have hend : (fun (i : Nat) (h : Heap) => h.IsTupleIter it a i ∧ h.IsTuple a its.toArray) its.toArray.size s.heap := by
      rw [hl]
      exact ⟨hit, p⟩
    exact wpAny_pyNext_enum_endD D he hend fun h' eb => ⟨rfl, I.turned (t' := s.toks) (fun b o hb q => eb b o hb q) f0 f1 f3 f4 f5⟩
  self := fun A i s Q E st h => let ⟨⟨_, he⟩, _⟩ := st; wpAny_pyIter_enum he h
theorem pi_enumTQ {X : Cx} {e : Expr} {ta : TA} {p pos tpos : Pos} {elts : List Expr} {kk : Nat} (hg : Gl X "enumerate") (hm : X.mg "enumerate" = none) (ha : PA X [e] ta) (hs : starEach [e] X.env = [(false, eval e X.env)] := by rfl) :
    PI X (.Tuple elts kk tpos) (.Call (.Name "enumerate" p) [e] [] pos) (fun σ H R => ta σ H fun vs H1 => ∃ a xs, vs = [.ref a] ∧ SqT X.K H1 a xs ∧ R (ItTe X.K a) H1) := by
  refine ⟨fun pins s σ H R I h => ?_⟩
  refine Call_ (ld_blt I hg hm boot_enumerate (PyProof.Rows.callWith_type1 (thn (ha.run pos pins s σ H _ I h) fun us s1 ⟨vs, H1, J, r1, q1⟩ => ?_) hs rfl))
  obtain ⟨a, xs, ex, hq, q⟩ := q1
  subst ex
  cases r1 with
  | cons r rr =>
    cases rr
    cases r
    obtain ⟨its, rv, pt, hz⟩ := J.tuple hq
    have tp : s1.heap.IsTuple a its.toArray := pt
    have la : a < s1.heap.objs.size := by obtain ⟨_, q, _⟩ := tp; exact Heap.lt_size q
    refine call_enumQ (begins_tuple a its.toArray) tp fun h' he ho hk => wpAny_pyIter_enum he ?_
    have J2 : Inv X pins σ H1 { s1 with heap := h' } := J.kept (t' := s1.toks) hk
    refine ⟨s1.heap.objs.size + 1, [s1.heap.objs.size + 1, s1.heap.objs.size], _, _, H1, rfl, J2, turn_enumTQ a (s1.heap.objs.size + 1) s1.heap.objs.size, ⟨⟨.none, he⟩, ⟨_, ho, rfl, rfl⟩, Nat.succ_ne_self _, Nat.ne_of_lt la, Nat.ne_of_lt (Nat.lt_succ_of_lt la)⟩, fun b hb => ?_, q⟩
    have lb : s1.heap.objs.size ≤ b := by
      rcases (show b = s1.heap.objs.size + 1 ∨ b = s1.heap.objs.size by simpa using hb) with z | z
      · rw [z]; exact Nat.le_add_right _ _
      · rw [z]; exact Nat.le_refl _
    exact J.fpOk lb (J.hok.fresh lb)
end L2
namespace Q
open PySem PySem.Spec PyProof.Rows L2
def iETu : List PV → PM → (List PV → (PM → Prop) → PM → Prop) → Prop
  | [.tup xs], M, k => k (enumL xs) (fun _ => True) M
  | [.tpx xs], M, k => k (enumL xs) (fun _ => True) M
  | _, _, _ => False
set_option autoImplicit true in
@[simp] theorem iETu_s1 : iETu [.tup xs] M k = k (enumL xs) (fun _ => True) M := rfl
set_option autoImplicit true in
@[simp] theorem iETu_s2 : iETu [.tpx xs] M k = k (enumL xs) (fun _ => True) M := rfl
@[simp] def iEnTu (fa : QA) : QI := fun τ M x k => fa τ M x fun ps M1 => iETu ps M1 k
theorem serves_enumT' {K : Fg} {F : Hp} {a : Addr} {xs : List PV} {vs : List V} (h : SqT K F a vs) (rr : Reps K F xs vs) : Serves K (ItTe K a) F (enumL xs) fun _ => True := fun F' M' H' s' r' _ => by
  have z1 : SqT K H' a vs := sqT_mono r'.sub (sqT_mono s' h)
  refine ⟨⟨vs, z1, by rw [← rr.length]; simp⟩, fun i y hy => ?_⟩
  obtain ⟨x, hx, rfl⟩ := enumL_get hy
  obtain ⟨w, w1, w2⟩ := rr.get hx
  refine ⟨⟨vs, w, z1, w1⟩, fun v H2 ⟨T, u, e1, e2, e3, hu⟩ => ?_⟩
  subst e1; subst e3
  have := hu vs z1
  rw [w1] at this
  cases this
  obtain ⟨r2, s2⟩ := r'.newF e2 (.tup [.int (i : Nat), w])
  exact ⟨_, s2, r2, .tup (SqT.of upd_same) (.cons (.int _) (.cons (w2.mono (s'.trans s2)) .nil))⟩
theorem di_enumTu {c : Cf} {e : Expr} {elts : List Expr} {kk : Nat} {p pos tpos : Pos} {fa : QA} (hgl : c.sc.names.lookup ("enumerate" : Str) = some .globalImplicit) (hm : c.g.mg ("enumerate" : Str) = none) (ha : DA c [e] fa) (hs1 : ∀ env, starEach [e] env = [(false, eval e env)] := by intro _; rfl) :
    DI c (.Tuple elts kk tpos) (.Call (.Name "enumerate" p) [e] [] pos) (iEnTu fa) := fun X gd B =>
  (pi_enumTQ (gl_of gd.sc hgl) (by rw [gd.mg]; exact hm) (ha X gd B) (hs1 _)).im fun σ H R => by
    rintro ⟨F, τ, M, x, k, a, hf, tk, hk⟩
    refine ⟨F, τ, M, x, _, a, hf, tk, fun ps M1 F1 vs H1 h1 s1 r1 e1 => ?_⟩
    unfold iETu at h1
    split at h1
    · cases e1 with
      | cons e1 e2 =>
        cases e2
        cases e1 with
        | tup hs rs => exact ⟨_, _, rfl, sqT_mono r1.sub hs, hk _ _ _ _ _ _ h1 s1 r1 (serves_enumT' hs rs)⟩
    · cases e1 with
      | cons e1 e2 =>
        cases e2
        cases e1 with
        | tpx hs rs => exact ⟨_, _, rfl, sqT_mono r1.sub hs.sq, hk _ _ _ _ _ _ h1 s1 r1 (serves_enumT' hs.sq rs)⟩
    · exact h1.elim
end Q
namespace Q
open PySem PySem.Spec PyProof.Rows L2
/-! ### matrices -/
structure Mt where
  a : Int
  b : Int
  c : Int
  d : Int
  deriving DecidableEq
namespace Mt
@[simp] def pv (m : Mt) : PV := mat m.a m.b m.c m.d
def det (m : Mt) : Int := m.a * m.d - m.b * m.c
def ok (m : Mt) : Prop := m.det = 1 ∧ (0 < m.c ∨ (m.c = 0 ∧ m.a = 1))
def mul (m n : Mt) : Mt := ⟨m.a * n.a + m.b * n.c, m.a * n.b + m.b * n.d, m.c * n.a + m.d * n.c, m.c * n.b + m.d * n.d⟩
def neg (m : Mt) : Mt := ⟨-m.a, -m.b, -m.c, -m.d⟩
def one : Mt := ⟨1, 0, 0, 1⟩
def nf (m : Mt) : Mt := if m.c < 0 ∨ (m.c = 0 ∧ m.a < 0) then m.neg else m
/-- as the law's own text says it -/
def sg (m : Mt) : Mt := if 0 < m.c ∨ (m.c = 0 ∧ 0 < m.a) then m else m.neg
def adj (m : Mt) : Mt := ⟨m.d, -m.b, -m.c, m.a⟩
def bd (n : Nat) (m : Mt) : Prop := m.a.natAbs < 2 ^ n ∧ m.b.natAbs < 2 ^ n ∧ m.c.natAbs < 2 ^ n ∧ m.d.natAbs < 2 ^ n
theorem ext' {m n : Mt} (h1 : m.a = n.a) (h2 : m.b = n.b) (h3 : m.c = n.c) (h4 : m.d = n.d) : m = n := by
  cases m; cases n; simp_all
theorem mul_assoc (m n p : Mt) : (m.mul n).mul p = m.mul (n.mul p) := by
  simp only [mul, mk.injEq]
  refine ⟨?_, ?_, ?_, ?_⟩ <;> grind
theorem one_mul (m : Mt) : one.mul m = m := by cases m; simp [mul, one]
theorem mul_one (m : Mt) : m.mul one = m := by cases m; simp [mul, one]
theorem neg_neg (m : Mt) : m.neg.neg = m := by cases m; simp [neg]
theorem neg_mul (m n : Mt) : m.neg.mul n = (m.mul n).neg := by
  simp only [mul, neg, mk.injEq]
  refine ⟨?_, ?_, ?_, ?_⟩ <;> grind
theorem mul_neg (m n : Mt) : m.mul n.neg = (m.mul n).neg := by
  simp only [mul, neg, mk.injEq]
  refine ⟨?_, ?_, ?_, ?_⟩ <;> grind
theorem det_mul (m n : Mt) : (m.mul n).det = m.det * n.det := by simp only [mul, det]; grind
theorem det_neg (m : Mt) : m.neg.det = m.det := by simp only [neg, det]; grind
theorem det_adj (m : Mt) : m.adj.det = m.det := by simp only [adj, det]; grind
theorem det_nf (m : Mt) : m.nf.det = m.det := by unfold nf; split; exact det_neg m; rfl
theorem mul_adj (m : Mt) (h : m.det = 1) : m.mul m.adj = one := by
  simp only [det] at h
  simp only [mul, adj, one, mk.injEq]
  refine ⟨?_, ?_, ?_, ?_⟩ <;> grind
theorem adj_mul (m : Mt) (h : m.det = 1) : m.adj.mul m = one := by
  simp only [det] at h
  simp only [mul, adj, one, mk.injEq]
  refine ⟨?_, ?_, ?_, ?_⟩ <;> grind
theorem adj_mul_rev (m n : Mt) : (m.mul n).adj = n.adj.mul m.adj := by
  simp only [mul, adj, mk.injEq]
  refine ⟨?_, ?_, ?_, ?_⟩ <;> grind
theorem adj_neg (m : Mt) : m.neg.adj = m.adj.neg := by simp [adj, neg]
theorem adj_adj (m : Mt) : m.adj.adj = m := by cases m; simp [adj]
/-- a row of zeros has no determinant 1 -/
theorem nz {m : Mt} (h : m.det = 1) (hc : m.c = 0) : m.a = 1 ∧ m.d = 1 ∨ m.a = -1 ∧ m.d = -1 := by
  unfold det at h
  rw [hc] at h
  have h' : m.a * m.d = 1 := by simpa using h
  have e : m.a.natAbs * m.d.natAbs = 1 := by rw [← Int.natAbs_mul, h']; rfl
  have ea : m.a.natAbs = 1 := Nat.eq_one_of_mul_eq_one_right e
  rcases (show m.a = 1 ∨ m.a = -1 by omega) with z | z
  · left; rw [z] at h'; omega
  · right; rw [z] at h'; omega
theorem ok_nf {m : Mt} (h : m.det = 1) : m.nf.ok := by
  refine ⟨by rw [det_nf]; exact h, ?_⟩
  unfold nf
  split
  · rename_i q
    simp only [neg]
    rcases q with q | ⟨q, r⟩
    · left; omega
    · rcases nz h q with z | z
      · omega
      · right; omega
  · rename_i q
    by_cases hc : m.c = 0
    · rcases nz h hc with z | z
      · right; exact ⟨hc, z.1⟩
      · omega
    · left; omega
theorem nf_ok {m : Mt} (h : m.ok) : m.nf = m := by
  unfold nf
  rw [if_neg]
  have := h.2
  omega
theorem sg_nf {m : Mt} (h : m.det = 1) : m.sg = m.nf := by
  unfold sg nf
  by_cases hc : m.c = 0
  · rcases nz h hc with z | z
    · rw [if_pos (by omega), if_neg (by omega)]
    · rw [if_neg (by omega), if_pos (by omega)]
  · by_cases h2 : 0 < m.c
    · rw [if_pos (by omega), if_neg (by omega)]
    · rw [if_neg (by omega), if_pos (by omega)]
theorem nf_neg {m : Mt} (h : m.det = 1) : m.neg.nf = m.nf := by
  unfold nf
  have e1 : m.neg.c = -m.c := rfl
  have e2 : m.neg.a = -m.a := rfl
  rw [e1, e2, neg_neg]
  by_cases hc : m.c = 0
  · rcases nz h hc with z | z
    · rw [if_pos (by omega), if_neg (by omega)]
    · rw [if_neg (by omega), if_pos (by omega)]
  · by_cases h2 : 0 < m.c
    · rw [if_pos (by omega), if_neg (by omega)]
    · rw [if_neg (by omega), if_pos (by omega)]
theorem nf_pm (m : Mt) : m.nf = m ∨ m.nf = m.neg := by unfold nf; split; exact .inr rfl; exact .inl rfl
theorem det1_mul {m n : Mt} (h : m.det = 1) (h' : n.det = 1) : (m.mul n).det = 1 := by rw [det_mul, h, h']; rfl
theorem nf_mul_l {m n : Mt} (h : m.det = 1) (h' : n.det = 1) : (m.nf.mul n).nf = (m.mul n).nf := by
  rcases nf_pm m with e | e <;> rw [e]
  rw [neg_mul, nf_neg (det1_mul h h')]
theorem nf_mul_r {m n : Mt} (h : m.det = 1) (h' : n.det = 1) : (m.mul n.nf).nf = (m.mul n).nf := by
  rcases nf_pm n with e | e <;> rw [e]
  rw [mul_neg, nf_neg (det1_mul h h')]
theorem nf_adj {m : Mt} (h : m.det = 1) : m.nf.adj.nf = m.adj.nf := by
  rcases nf_pm m with e | e <;> rw [e]
  rw [adj_neg, nf_neg (by rw [det_adj]; exact h)]
theorem one_ok : one.ok := ⟨rfl, .inr ⟨rfl, rfl⟩⟩
theorem nf_nf {m : Mt} (h : m.det = 1) : m.nf.nf = m.nf := nf_ok (ok_nf h)
theorem bd.mono {m : Mt} {i j : Nat} (h : m.bd i) (hij : i ≤ j) : m.bd j := by
  have := Nat.pow_le_pow_right (show 0 < 2 by decide) hij
  exact ⟨Nat.lt_of_lt_of_le h.1 this, Nat.lt_of_lt_of_le h.2.1 this, Nat.lt_of_lt_of_le h.2.2.1 this, Nat.lt_of_lt_of_le h.2.2.2 this⟩
theorem bd.neg {m : Mt} {i : Nat} (h : m.bd i) : m.neg.bd i := by simpa [bd, Mt.neg, Int.natAbs_neg] using h
theorem bd.nf {m : Mt} {i : Nat} (h : m.bd i) : m.nf.bd i := by
  rcases nf_pm m with e | e <;> rw [e]
  · exact h
  · exact h.neg
theorem bd.adj {m : Mt} {i : Nat} (h : m.bd i) : m.adj.bd i := by
  simp only [bd, Mt.adj, Int.natAbs_neg] at h ⊢
  exact ⟨h.2.2.2, h.2.1, h.2.2.1, h.1⟩
theorem abs2 {x y z w : Int} {i j : Nat} (hx : x.natAbs < 2 ^ i) (hy : y.natAbs < 2 ^ j) (hz : z.natAbs < 2 ^ i) (hw : w.natAbs < 2 ^ j) : (x * y + z * w).natAbs < 2 ^ (i + j + 1) := by
  have h1 := wide_lt hx hy
  have h2 := wide_lt hz hw
  have h3 : (x * y + z * w).natAbs ≤ (x * y).natAbs + (z * w).natAbs := Int.natAbs_add_le _ _
  rw [Nat.pow_succ]
  omega
theorem bd.mul {m n : Mt} {i j : Nat} (h : m.bd i) (h' : n.bd j) : (m.mul n).bd (i + j + 1) :=
  ⟨abs2 h.1 h'.1 h.2.1 h'.2.2.1, abs2 h.1 h'.2.1 h.2.1 h'.2.2.2, abs2 h.2.2.1 h'.1 h.2.2.2 h'.2.2.1, abs2 h.2.2.1 h'.2.1 h.2.2.2 h'.2.2.2⟩
theorem one_bd : one.bd 1 := by simp [bd, one]
end Mt
end Q
namespace Q
open PySem PySem.Spec PyProof.Rows L2
/-! ### texts -/
@[simp] theorem eS : Str.ofString "S" = ⟨#[83]⟩ := rfl
@[simp] theorem eR : Str.ofString "R" = ⟨#[82]⟩ := rfl
@[simp] theorem er : Str.ofString "r" = ⟨#[114]⟩ := rfl
@[simp] theorem eE : Str.ofString "" = ⟨#[]⟩ := rfl
@[simp] theorem str_eq (a b : Array Nat) : ((⟨a⟩ : Str) == ⟨b⟩) = decide (a = b) := by
  by_cases h : a = b
  · subst h; simp
  · have : (⟨a⟩ : Str) ≠ ⟨b⟩ := fun e => h (Str.mk.inj e)
    rw [decide_eq_false h]
    exact beq_false_of_ne this
/-! ### letters, words -/
inductive Ltr where
  | S | R | r
  deriving DecidableEq
def Ltr.code : Ltr → Nat
  | .S => 83 | .R => 82 | .r => 114
def Ltr.mt : Ltr → Mt
  | .S => ⟨0, -1, 1, 0⟩ | .R => ⟨0, -1, 1, 1⟩ | .r => ⟨-1, -1, 1, 0⟩
def Ltr.pv (l : Ltr) : PV := .str ⟨#[l.code]⟩
def wstr (w : List Ltr) : Str := ⟨(w.map Ltr.code).toArray⟩
def wpv (w : List Ltr) : PV := .str (wstr w)
/-- S beside R or r -/
def Ltr.fits (x y : Ltr) : Bool := (x == .S) != (y == .S)
def isW : List Ltr → Bool
  | [] => true
  | [_] => true
  | x :: y :: r => Ltr.fits x y && isW (y :: r)
/-- the matrix of letters -/
def wmt (w : List Ltr) : Mt := w.foldl (fun m l => (m.mul l.mt).sg) Mt.one

/-! ### the source of numbers -/
def Src (M : PM) (a : Addr) (n : Nat) : Prop := ∃ p q r : Int, M a = some (.lst [.int p, .int q, .int r]) ∧ 0 ≤ q ∧ q ≤ n ∧ 0 ≤ r
def SrcUp (M M' : PM) (a : Addr) (n : Nat) : Prop := Src M' a n ∧ ∀ b, b ≠ a → M' b = M b
theorem SrcUp.trans {M M1 M2 : PM} {a : Addr} {i j : Nat} (h1 : SrcUp M M1 a i) (h2 : SrcUp M1 M2 a j) : SrcUp M M2 a j := ⟨h2.1, fun b hb => (h2.2 b hb).trans (h1.2 b hb)⟩
theorem Src.mono {M : PM} {a : Addr} {i j : Nat} (h : Src M a i) (hij : i ≤ j) : Src M a j := by
  obtain ⟨p, q, r, h1, h2, h3, h4⟩ := h
  exact ⟨p, q, r, h1, h2, by omega, h4⟩
theorem SrcUp.mono {M M' : PM} {a : Addr} {i j : Nat} (h : SrcUp M M' a i) (hij : i ≤ j) : SrcUp M M' a j := ⟨h.1.mono hij, h.2⟩
theorem SrcUp.refl {M : PM} {a : Addr} {i : Nat} (h : Src M a i) : SrcUp M M a i := ⟨h, fun _ _ => rfl⟩
def lim : Nat := 1000000000000

def sp_L_source : PSp := fun xs M k _ => ∃ (ns : List Int) (i : Int), xs = [.rdl (ns.map .int), .int i] ∧ ns.length ≤ 63 ∧ 0 ≤ i ∧ i ≤ 10 ∧ ∀ a M', M a = none → SrcUp M M' a 30 → k (.ref a) M'
def sp_L_next : PSp := fun xs M k _ => ∃ (a : Addr) (m : Int) (n : Nat), xs = [.ref a, .int m] ∧ Src M a n ∧ n < lim ∧ 0 < m ∧ m < 10 ^ 30 ∧ ∀ r M', 0 ≤ r → r < m → SrcUp M M' a (n + 1) → k (.int r) M'
def sp_L_signed : PSp := fun xs M k _ => ∃ a b c d : Int, xs = [mat a b c d] ∧ k (Mt.mk a b c d).sg.pv M
def sp_L_times : PSp := fun xs M k _ => ∃ a b c d e f g h : Int, xs = [mat a b c d, mat e f g h] ∧ (∃ i j, (Mt.mk a b c d).bd i ∧ (Mt.mk e f g h).bd j ∧ 0 < i ∧ 0 < j ∧ i + j ≤ 900000) ∧ k ((Mt.mk a b c d).mul (Mt.mk e f g h)).sg.pv M
def sp_L_back : PSp := fun xs M k _ => ∃ a b c d : Int, xs = [mat a b c d] ∧ k (Mt.mk a b c d).adj.sg.pv M
def sp_L_of : PSp := fun xs M k _ => ∃ l : Ltr, xs = [l.pv] ∧ k l.mt.pv M
def sp_L_matrix : PSp := fun xs M k _ => ∃ w : List Ltr, xs = [wpv w] ∧ w.length ≤ 4000 ∧ k (wmt w).pv M
def sp_L_text : PSp := fun xs M k _ => ∃ (a : Addr) (s : Int) (n : Nat), xs = [.ref a, .int s] ∧ Src M a n ∧ 0 ≤ s ∧ s ≤ 4000 ∧ n + 2 * s.toNat < lim ∧ ∀ w M', isW w = true → w.length = s.toNat → SrcUp M M' a (n + 2 * s.toNat) → k (wpv w) M'
/-! ### the program -/
def Tg.whole : Tg → Bool
  | .int => true
  | _ => false
def sp_is_whole : PSp := fun xs M k _ => ∃ v, xs = [v] ∧ tgP v M fun t => k (.bl t.whole) M
/-- a value of the kinds that are spoken of here -/
def fine1 : PV → Bool
  | .ty _ => false
  | .ref _ => false
  | .tpx _ => false
  | _ => true
def fineR : PV → Bool
  | .tup ys => ys.all fine1
  | y => fine1 y
def fineV : PV → Bool
  | .tup xs => xs.all fineR
  | x => fine1 x
def isIntV : PV → Bool
  | .int _ => true
  | _ => false
def isRowV : PV → Bool
  | .tup [x, y] => isIntV x && isIntV y
  | _ => false
/-- the matrix that a value is -/
def asMt : PV → Option Mt
  | .tup [.tup [.int a, .int b], .tup [.int c, .int d]] => some ⟨a, b, c, d⟩
  | _ => none
def hasDet (v : PV) : Bool := match asMt v with
  | some m => decide (m.det = 1)
  | none => false
def isMat (v : PV) : Bool := match asMt v with
  | some m => decide (m.det = 1) && decide (m.nf = m)
  | none => false
def room (v : PV) : Prop := ∀ m, asMt v = some m → ∃ n, m.bd n ∧ 0 < n ∧ n ≤ 400000
/-- .. or a dict -/
def fineM (M : PM) (v : PV) : Prop := fineR v = true ∨ ∃ a kvs, v = .ref a ∧ M a = some (.dK kvs)
def sp_is_pair : PSp := fun xs M k _ => ∃ v, xs = [v] ∧ fineM M v ∧ k (.bl (isRowV v)) M
def sp_u_has_determinant_one : PSp := fun xs M k _ => ∃ v, xs = [v] ∧ fineV v = true ∧ room v ∧ k (.bl (hasDet v)) M
def sp_u_normal_form : PSp := fun xs M k _ => ∃ a b c d : Int, xs = [mat a b c d] ∧ k (Mt.mk a b c d).nf.pv M
def sp_u_times : PSp := fun xs M k _ => ∃ a b c d e f g h : Int, xs = [mat a b c d, mat e f g h] ∧ (∃ i j, (Mt.mk a b c d).bd i ∧ (Mt.mk e f g h).bd j ∧ 0 < i ∧ 0 < j ∧ i + j ≤ 900000) ∧ k ((Mt.mk a b c d).mul (Mt.mk e f g h)).pv M
def sp_is_matrix : PSp := fun xs M k _ => ∃ v, xs = [v] ∧ fineV v = true ∧ room v ∧ k (.bl (isMat v)) M
/-- .. where it is one -/
def sp_check_matrix : PSp := fun xs M k _ => ∃ v, xs = [v] ∧ fineV v = true ∧ room v ∧ isMat v = true ∧ k .non M
def sp_product : PSp := fun xs M k _ => ∃ ms : List Mt, xs = ms.map Mt.pv ∧ ms.length ≤ 1000000 ∧ (∃ n, 0 < n ∧ (ms.length + 1) * (n + 1) ≤ 400000 ∧ ∀ m ∈ ms, m.ok ∧ m.bd n) ∧ k (ms.foldl Mt.mul Mt.one).nf.pv M
def sp_inverse : PSp := fun xs M k _ => ∃ a b c d : Int, xs = [mat a b c d] ∧ (Mt.mk a b c d).ok ∧ (∃ n, (Mt.mk a b c d).bd n ∧ 0 < n ∧ n ≤ 400000) ∧ k (Mt.mk a b c d).adj.nf.pv M
theorem isMat_ok {a b c d : Int} (h : (Mt.mk a b c d).ok) : isMat (mat a b c d) = true := by
  show (decide ((Mt.mk a b c d).det = 1) && decide ((Mt.mk a b c d).nf = Mt.mk a b c d)) = true
  rw [Mt.nf_ok h, h.1]
  simp
theorem fine_mat {a b c d : Int} : fineV (mat a b c d) = true := rfl
theorem room_mat {a b c d : Int} {n : Nat} (h : (Mt.mk a b c d).bd n) (h0 : 0 < n) (hn : n ≤ 400000) : room (mat a b c d) := fun m e => by
  have e' : Mt.mk a b c d = m := Option.some.inj e
  subst e'
  exact ⟨n, h, h0, hn⟩
def sp_L_drawn_matrix : PSp := fun xs M k _ => ∃ (a : Addr) (n : Nat), xs = [.ref a] ∧ Src M a n ∧ n + 100 < lim ∧ ∀ (m : Mt) M', m.ok → m.bd 40 → SrcUp M M' a (n + 40) → k m.pv M'
def sp_L_triple_right : PSp := fun xs M k _ => ∃ (a : Addr) (n : Nat), xs = [.ref a] ∧ Src M a n ∧ n + 500 < lim ∧ ∀ M', SrcUp M M' a (n + 120) → k (.bl true) M'
end Q
namespace Q
open PySem PySem.Spec PyProof.Rows L2
theorem whole_of {v : PV} {M : PM} {k : PK} {ex : PX} (hf : fine1 v = true) (h : k (.bl (isIntV v)) M) : sp_is_whole [v] M k ex := by
  refine ⟨v, rfl, ?_⟩
  cases v <;> simp_all [fine1, isIntV, Tg.whole]
theorem row_of {v : PV} {M : PM} {k : PK} {ex : PX} (hf : fineR v = true) (h : k (.bl (isRowV v)) M) : sp_is_pair [v] M k ex := ⟨v, rfl, .inl hf, h⟩
theorem isRow_iff {v : PV} (h : isRowV v = true) : ∃ i j, v = .tup [.int i, .int j] := by
  unfold isRowV at h
  split at h
  · rename_i x y
    cases x <;> cases y <;> simp_all [isIntV]
  · cases h
theorem asMt_row {x y : PV} (h : isRowV x = false ∨ isRowV y = false) : asMt (.tup [x, y]) = none := by
  unfold asMt
  split
  · rename_i e
    cases e
    simp [isRowV, isIntV] at h
  · rfl
theorem prime_at {i : Int} (h0 : 0 ≤ i) (h1 : i < 11) : ∃ P : Int, atI [PV.int 2147483647, PV.int 2147483629, PV.int 2147483587, PV.int 2147483579, PV.int 2147483563, PV.int 2147483549, PV.int 2147483543, PV.int 2147483497, PV.int 2147483489, PV.int 2147483477, PV.int 2147483423] i = some (.int P) ∧ 2147483423 ≤ P ∧ P ≤ 2147483647 := by
  rcases (show i = 0 ∨ i = 1 ∨ i = 2 ∨ i = 3 ∨ i = 4 ∨ i = 5 ∨ i = 6 ∨ i = 7 ∨ i = 8 ∨ i = 9 ∨ i = 10 by omega) with e | e | e | e | e | e | e | e | e | e | e <;> subst e
  all_goals exact ⟨_, rfl, by decide, by decide⟩
@[simp] theorem atI0 {α : Type} (x : α) (xs : List α) : atI (x :: xs) 0 = some x := by
  have : (0 : Int) < (xs.length : Int) + 1 := by omega
  simp [atI, ixN, this]
@[simp] theorem atI1 {α : Type} (x y : α) (xs : List α) : atI (x :: y :: xs) 1 = some y := by
  have : (1 : Int) < (xs.length : Int) + 1 + 1 := by omega
  simp [atI, ixN, this]
@[simp] theorem atI2 {α : Type} (x y z : α) (xs : List α) : atI (x :: y :: z :: xs) 2 = some z := by
  have : (2 : Int) < (xs.length : Int) + 1 + 1 + 1 := by omega
  simp [atI, ixN, this]
theorem datL_ints : ∀ ns : List Int, datL (ns.map PV.int) = some (ns.map PyData.int)
  | [] => rfl
  | n :: ns => by simp [datL, dat, datL_ints ns]
@[simp] theorem ne_nil {ns : List Int} {M : PM} {k : PK} : opEq true (.rdl (ns.map .int)) (.lst []) M k ↔ k (.bl (!ns.isEmpty)) M := by
  have e : PyData.eqv (.list (ns.map PyData.int)) (.list []) = ns.isEmpty := by cases ns <;> rfl
  have d : PyData.depth (.list []) ≤ 60 := by decide
  simp only [opEq, datM, dat, datL_ints, datL, Option.map_some, if_true]
  constructor
  · rintro ⟨d, e', h1, h2, _, h⟩
    cases h1; cases h2
    rw [← e]; exact h
  · intro h
    exact ⟨_, _, rfl, rfl, by omega, by rw [e]; exact h⟩
theorem mod_at {ns : List Int} {i : Int} (h0 : 0 ≤ i) (hne : ns ≠ []) : ∃ z, atI (ns.map PV.int) (i % (ns.length : Int)) = some (.int z) := by
  have hp : 0 < (ns.length : Int) := by
    have : 0 < ns.length := List.length_pos_iff.mpr hne
    omega
  have h1 := Int.emod_nonneg i (show (ns.length : Int) ≠ 0 by omega)
  have h2 := Int.emod_lt_of_pos i hp
  obtain ⟨j, hj⟩ : ∃ j : Nat, i % (ns.length : Int) = j := ⟨_, (Int.toNat_of_nonneg h1).symm⟩
  rw [hj] at h2 ⊢
  have hlt : j < ns.length := by omega
  refine ⟨ns[j], atI_nat ?_⟩
  rw [List.getElem?_map, List.getElem?_eq_getElem hlt]
  rfl
theorem lt_bd (l : Ltr) : l.mt.bd 1 := by cases l <;> simp [Mt.bd, Ltr.mt]
theorem sg_bd {m : Mt} {i : Nat} (h : m.bd i) : m.sg.bd i := by
  unfold Mt.sg
  split
  · exact h
  · exact h.neg
theorem wmt_snoc (w : List Ltr) (l : Ltr) : wmt (w ++ [l]) = ((wmt w).mul l.mt).sg := by simp [wmt, List.foldl_append]
theorem wmt_bd' : ∀ n (w : List Ltr), w.length = n → (wmt w).bd (2 * w.length + 1)
  | 0, w, h => by
    have : w = [] := List.length_eq_zero_iff.mp h
    subst this
    exact Mt.one_bd
  | n + 1, w, h => by
    rcases List.eq_nil_or_concat w with e | ⟨u, l, e⟩
    · subst e; simp at h
    · rw [List.concat_eq_append] at e
      subst e
      have hu : u.length = n := by simpa using h
      have := wmt_bd' n u hu
      rw [wmt_snoc]
      have z := sg_bd (this.mul (lt_bd l))
      refine z.mono ?_
      simp
      omega
theorem wmt_bd (w : List Ltr) : (wmt w).bd (2 * w.length + 1) := wmt_bd' _ w rfl
theorem wstr_get {w : List Ltr} {i c : Nat} (h : (wstr w).cps.toList[i]? = some c) : ∃ l, w[i]? = some l ∧ c = l.code := by
  simp only [wstr, List.getElem?_map] at h
  obtain ⟨l, h1, h2⟩ := Option.map_eq_some_iff.mp h
  exact ⟨l, h1, h2.symm⟩
theorem wstr_len (w : List Ltr) : (wstr w).cps.toList.length = w.length := by simp [wstr]
theorem wstr_nil : wstr [] = ⟨#[]⟩ := rfl
theorem wstr_snoc (u : List Ltr) (l : Ltr) : wstr u ++ (⟨#[l.code]⟩ : Str) = wstr (u ++ [l]) := by
  show Str.mk ((wstr u).cps ++ #[l.code]) = _
  simp [wstr]
theorem isW_snoc : ∀ {u : List Ltr} {l : Ltr}, isW u = true → (∀ x, u.getLast? = some x → Ltr.fits x l = true) → isW (u ++ [l]) = true
  | [], _, _, _ => rfl
  | [x], l, _, h => by simpa [isW] using h x rfl
  | x :: y :: r, l, h1, h2 => by
    simp only [isW, Bool.and_eq_true] at h1
    have ih := isW_snoc (u := y :: r) (l := l) h1.2 (fun z hz => h2 z (by rw [List.getLast?_cons_cons]; exact hz))
    show (Ltr.fits x y && isW (y :: (r ++ [l]))) = true
    rw [h1.1]
    exact ih
theorem wstr_last (u : List Ltr) (x : Ltr) : atI (wstr (u ++ [x])).cps.toList (-1) = some x.code := by
  have : (wstr (u ++ [x])).cps.toList = u.map Ltr.code ++ [x.code] := by simp [wstr]
  rw [this]
  exact atI_last _ _
theorem wstr_size (u : List Ltr) : (wstr u).length = u.length := by simp [wstr, Str.length]
theorem pv_inj {m n : Mt} (h : m.pv = n.pv) : m = n := by
  cases m; cases n
  simp at h
  simp [h]
theorem dat_pv (m : Mt) : dat m.pv = some (.tuple [.tuple [.int m.a, .int m.b], .tuple [.int m.c, .int m.d]]) := by simp [dat, datL]
theorem eqv_pv (m n : Mt) : PyData.eqv (.tuple [.tuple [.int m.a, .int m.b], .tuple [.int m.c, .int m.d]]) (.tuple [.tuple [.int n.a, .int n.b], .tuple [.int n.c, .int n.d]]) = decide (m = n) := by
  simp [PyData.eqv, PyData.eqvAll, Bool.beq_eq_decide_eq]
  cases m; cases n
  simp [Bool.and_assoc]
theorem opEq_mat {neg : Bool} {m n : Mt} {M : PM} {k : PK} (h : k (.bl (if neg then !decide (m = n) else decide (m = n))) M) : opEq neg m.pv n.pv M k := by
  refine ⟨_, _, dat_pv m, dat_pv n, by simp [PyData.depth, PyData.depthAll], ?_⟩
  rw [eqv_pv]
  exact h
def dmat (m : Mt) : PyData := .tuple [.tuple [.int m.a, .int m.b], .tuple [.int m.c, .int m.d]]
theorem datL_mats : ∀ ms : List Mt, datL (ms.map Mt.pv) = some (ms.map dmat)
  | [] => rfl
  | m :: ms => by
    show (match dat m.pv, datL (ms.map Mt.pv) with | some x, some y => some (x :: y) | _, _ => none) = _
    rw [dat_pv, datL_mats ms]
    rfl
theorem eqvAll_mats : ∀ ms ns : List Mt, PyData.eqvAll (ms.map dmat) (ns.map dmat) = decide (ms = ns)
  | [], [] => rfl
  | [], _ :: _ => rfl
  | _ :: _, [] => rfl
  | m :: ms, n :: ns => by
    show (PyData.eqv (dmat m) (dmat n) && PyData.eqvAll (ms.map dmat) (ns.map dmat)) = _
    rw [eqvAll_mats ms ns]
    unfold dmat
    rw [eqv_pv]
    simp
theorem depthAll_mats : ∀ ms : List Mt, PyData.depthAll (ms.map dmat) ≤ 10
  | [] => by decide
  | m :: ms => by
    have := depthAll_mats ms
    simp [PyData.depthAll, dmat, PyData.depth] at *
    omega
theorem opEq_mats {neg : Bool} (ms ns : List Mt) {M : PM} {k : PK} (h : k (.bl (if neg then !decide (ms = ns) else decide (ms = ns))) M) : opEq neg (.lst (ms.map Mt.pv)) (.lst (ns.map Mt.pv)) M k := by
  have e : ∀ ms : List Mt, datM M (.lst (ms.map Mt.pv)) = some (.list (ms.map dmat)) := fun ms => by
    simp only [datM, dat, datL_mats]; rfl
  refine ⟨_, _, e ms, e ns, ?_, ?_⟩
  · have := depthAll_mats ms
    simp only [PyData.depth]
    omega
  · have : PyData.eqv (.list (ms.map dmat)) (.list (ns.map dmat)) = decide (ms = ns) := eqvAll_mats ms ns
    rw [this]
    exact h
theorem fold_bd {n : Nat} : ∀ {ms : List Mt} {m : Mt} {i : Nat}, (∀ x ∈ ms, x.bd n) → m.bd i → (ms.foldl Mt.mul m).bd (i + ms.length * (n + 1))
  | [], m, i, _, h => by simpa using h
  | x :: ms, m, i, hx, h => by
    have := fold_bd (ms := ms) (fun y hy => hx y (List.mem_cons_of_mem _ hy)) (h.mul (hx x List.mem_cons_self))
    refine this.mono ?_
    rw [List.length_cons, Nat.add_mul]
    omega
theorem prod_of {ms : List Mt} {M : PM} {k : PK} {ex : PX} (hl : ms.length ≤ 20) (hb : ∀ m ∈ ms, m.ok ∧ m.bd 100) (h : k (ms.foldl Mt.mul Mt.one).nf.pv M) : sp_product (ms.map Mt.pv) M k ex :=
  ⟨ms, rfl, by omega, ⟨100, by omega, by
    have : (ms.length + 1) * 101 ≤ 21 * 101 := Nat.mul_le_mul_right _ (by omega)
    omega, hb⟩, h⟩
theorem inv_of {m : Mt} {M : PM} {k : PK} {ex : PX} (hb : m.ok ∧ m.bd 100) (h : k m.adj.nf.pv M) : sp_inverse [m.pv] M k ex :=
  ⟨m.a, m.b, m.c, m.d, rfl, hb.1, ⟨100, hb.2, by omega, by omega⟩, h⟩
theorem ltimes_of {m n : Mt} {M : PM} {k : PK} {ex : PX} (hm : m.ok ∧ m.bd 100) (hn : n.ok ∧ n.bd 100) (h : k (m.mul n).nf.pv M) : sp_L_times [m.pv, n.pv] M k ex :=
  ⟨m.a, m.b, m.c, m.d, n.a, n.b, n.c, n.d, rfl, ⟨100, 100, hm.2, hn.2, by omega, by omega, by omega⟩, by
    have : (m.mul n).sg = (m.mul n).nf := Mt.sg_nf (Mt.det1_mul hm.1.1 hn.1.1)
    rw [← this] at h; exact h⟩
theorem lback_of {m : Mt} {M : PM} {k : PK} {ex : PX} (hm : m.ok) (h : k m.adj.nf.pv M) : sp_L_back [m.pv] M k ex :=
  ⟨m.a, m.b, m.c, m.d, rfl, by
    have : m.adj.sg = m.adj.nf := Mt.sg_nf (by rw [Mt.det_adj]; exact hm.1)
    rw [← this] at h; exact h⟩
theorem lt_det (l : Ltr) : l.mt.det = 1 := by cases l <;> rfl
theorem sg_ok {m : Mt} (h : m.det = 1) : m.sg.ok := by rw [Mt.sg_nf h]; exact Mt.ok_nf h
theorem wmt_ok' : ∀ n (w : List Ltr), w.length = n → (wmt w).ok
  | 0, w, h => by
    have : w = [] := List.length_eq_zero_iff.mp h
    subst this
    exact Mt.one_ok
  | n + 1, w, h => by
    rcases List.eq_nil_or_concat w with e | ⟨u, l, e⟩
    · subst e; simp at h
    · rw [List.concat_eq_append] at e
      subst e
      have hu : u.length = n := by simpa using h
      rw [wmt_snoc]
      exact sg_ok (Mt.det1_mul (wmt_ok' n u hu).1 (lt_det l))
theorem wmt_ok (w : List Ltr) : (wmt w).ok := wmt_ok' _ w rfl
def mS : Mt := ⟨0, -1, 1, 0⟩
def mR : Mt := ⟨0, -1, 1, 1⟩
theorem mS_ok : mS.ok ∧ mS.bd 100 := ⟨by simp [Mt.ok, Mt.det, mS], by simp [Mt.bd, mS]⟩
theorem mR_ok : mR.ok ∧ mR.bd 100 := ⟨by simp [Mt.ok, Mt.det, mR], by simp [Mt.bd, mR]⟩
theorem mRi_ok : mR.adj.nf.ok ∧ mR.adj.nf.bd 100 := ⟨Mt.ok_nf (by rw [Mt.det_adj]; exact mR_ok.1.1), mR_ok.2.adj.nf⟩
end Q
namespace Q
open PySem PySem.Spec PyProof.Rows L2
def sp_normal : PSp := fun xs M k _ => ∃ a b c d : Int, xs = [mat a b c d] ∧ (Mt.mk a b c d).det = 1 ∧ (∃ n, (Mt.mk a b c d).bd n ∧ 0 < n ∧ n ≤ 400000) ∧ k (Mt.mk a b c d).nf.pv M
def sp_L_far : PSp := fun xs M k _ => ∃ (a : Addr) (n : Nat), xs = [.ref a] ∧ Src M a n ∧ n + 100 < lim ∧ ∀ (i : Int) M', i.natAbs < 2 ^ 100 → SrcUp M M' a (n + 7) → k (.int i) M'
def sp_L_great : PSp := fun xs M k _ => ∃ (a : Addr) (n : Nat), xs = [.ref a] ∧ Src M a n ∧ n + 200 < lim ∧ ∀ (m : Mt) M', m.ok → m.bd 700 → SrcUp M M' a (n + 50) → k m.pv M'
end Q
namespace Q
open PySem PySem.Spec PyProof.Rows L2
theorem prodN {ms : List Mt} (n : Nat) {M : PM} {k : PK} {ex : PX} (hl : ms.length ≤ 12) (h0 : 0 < n) (hn : n ≤ 30000) (hb : ∀ m ∈ ms, m.ok ∧ m.bd n) (h : k (ms.foldl Mt.mul Mt.one).nf.pv M) : sp_product (ms.map Mt.pv) M k ex :=
  ⟨ms, rfl, by omega, ⟨n, h0, by
    have : (ms.length + 1) * (n + 1) ≤ 13 * (n + 1) := Nat.mul_le_mul_right _ (by omega)
    omega, hb⟩, h⟩
theorem invN {m : Mt} (n : Nat) {M : PM} {k : PK} {ex : PX} (h0 : 0 < n) (hn : n ≤ 400000) (hb : m.ok ∧ m.bd n) (h : k m.adj.nf.pv M) : sp_inverse [m.pv] M k ex :=
  ⟨m.a, m.b, m.c, m.d, rfl, hb.1, ⟨n, hb.2, h0, hn⟩, h⟩
theorem ltimesN {m p : Mt} (n : Nat) {M : PM} {k : PK} {ex : PX} (h0 : 0 < n) (hn : n ≤ 400000) (hm : m.ok ∧ m.bd n) (hp : p.ok ∧ p.bd n) (h : k (m.mul p).nf.pv M) : sp_L_times [m.pv, p.pv] M k ex :=
  ⟨m.a, m.b, m.c, m.d, p.a, p.b, p.c, p.d, rfl, ⟨n, n, hm.2, hp.2, by omega, by omega, by omega⟩, by
    have : (m.mul p).sg = (m.mul p).nf := Mt.sg_nf (Mt.det1_mul hm.1.1 hp.1.1)
    rw [← this] at h; exact h⟩
theorem isMN {m : Mt} (n : Nat) {M : PM} {k : PK} {ex : PX} (h0 : 0 < n) (hn : n ≤ 400000) (hb : m.bd n) (h : k (.bl (decide (m.det = 1) && decide (m.nf = m))) M) : sp_is_matrix [m.pv] M k ex :=
  ⟨m.pv, rfl, fine_mat, room_mat (a := m.a) (b := m.b) (c := m.c) (d := m.d) hb h0 hn, h⟩
theorem isM_ok {m : Mt} (n : Nat) {M : PM} {k : PK} {ex : PX} (h0 : 0 < n) (hn : n ≤ 400000) (hm : m.ok ∧ m.bd n) (h : k (.bl true) M) : sp_is_matrix [m.pv] M k ex :=
  isMN n h0 hn hm.2 (by rw [hm.1.1, Mt.nf_ok hm.1]; simpa using h)
theorem lsigned_of {m : Mt} {M : PM} {k : PK} {ex : PX} (hm : m.det = 1) (h : k m.nf.pv M) : sp_L_signed [m.pv] M k ex :=
  ⟨m.a, m.b, m.c, m.d, rfl, by
    have : m.sg = m.nf := Mt.sg_nf hm
    rw [← this] at h; exact h⟩
theorem normal_of {m : Mt} (n : Nat) {M : PM} {k : PK} {ex : PX} (h0 : 0 < n) (hn : n ≤ 400000) (hm : m.det = 1) (hb : m.bd n) (h : k m.nf.pv M) : sp_normal [m.pv] M k ex :=
  ⟨m.a, m.b, m.c, m.d, rfl, hm, ⟨n, hb, h0, hn⟩, h⟩
end Q
namespace Q
open PySem PySem.Spec PyProof.Rows L2
def Mt.npow (m : Mt) : Nat → Mt
  | 0 => Mt.one
  | n + 1 => (m.npow n).mul m
def Mt.zp (m : Mt) (e : Int) : Mt := if 0 < e then m.npow e.natAbs else m.adj.npow e.natAbs
def Mt.tr (m : Mt) : Int := m.a + m.d
def Mt.ord (m : Mt) : Int := if m = Mt.one then 1 else if m.tr = 0 then 2 else if m.tr = 1 ∨ m.tr = -1 then 3 else 0
def sp_power : PSp := fun xs M k _ => ∃ (m : Mt) (e : Int) (n : Nat), xs = [m.pv, .int e] ∧ m.ok ∧ m.bd n ∧ 0 < n ∧ n ≤ 1000 ∧ -200 ≤ e ∧ e ≤ 200 ∧ k (m.zp e).nf.pv M
def sp_order : PSp := fun xs M k _ => ∃ (m : Mt) (n : Nat), xs = [m.pv] ∧ m.ok ∧ m.bd n ∧ 0 < n ∧ n ≤ 1000 ∧ k (.int m.ord) M
def sp_L_repeated : PSp := fun xs M k _ => ∃ (m : Mt) (j : Int) (n : Nat), xs = [m.pv, .int j] ∧ m.ok ∧ m.bd n ∧ 0 < n ∧ n ≤ 1000 ∧ 0 ≤ j ∧ j ≤ 200 ∧ k (m.npow j.toNat).nf.pv M
def sp_L_powers_right : PSp := fun xs M k _ => ∃ (a : Addr) (m : Mt) (n : Nat), xs = [.ref a, m.pv] ∧ Src M a n ∧ n + 100 < lim ∧ m.ok ∧ m.bd 40 ∧ ∀ M', SrcUp M M' a (n + 2) → k (.bl true) M'
end Q
namespace Q
open PySem PySem.Spec PyProof.Rows L2
namespace Mt
theorem npow_det {m : Mt} (h : m.det = 1) : ∀ n, (m.npow n).det = 1
  | 0 => rfl
  | n + 1 => det1_mul (npow_det h n) h
theorem npow_bd {m : Mt} {b : Nat} (h : m.bd b) : ∀ n, (m.npow n).bd (1 + n * (b + 1))
  | 0 => one_bd.mono (by omega)
  | n + 1 => ((npow_bd h n).mul h).mono (by rw [Nat.succ_mul]; omega)
theorem npow_nf {m : Mt} (h : m.det = 1) : ∀ n, (m.nf.npow n).nf = (m.npow n).nf
  | 0 => rfl
  | n + 1 => by
    have h1 : m.nf.det = 1 := by rw [det_nf]; exact h
    show ((m.nf.npow n).mul m.nf).nf = ((m.npow n).mul m).nf
    rw [← nf_mul_l (npow_det h1 n) h1, npow_nf h n, nf_mul_l (npow_det h n) h1, nf_mul_r (npow_det h n) h]
theorem zp_zero (m : Mt) : m.zp 0 = one := rfl
theorem zp_nat (m : Mt) (n : Nat) : m.zp n = m.npow n := by
  unfold zp
  split
  · rfl
  · have : n = 0 := by omega
    subst this; rfl
theorem zp_neg (m : Mt) (n : Nat) : m.zp (-(n : Int)) = m.adj.npow n := by
  unfold zp
  rw [if_neg (by omega), Int.natAbs_neg, Int.natAbs_natCast]
theorem zp_succ {m : Mt} (h : m.det = 1) (e : Int) : m.zp (e + 1) = (m.zp e).mul m := by
  by_cases he : 0 ≤ e
  · obtain ⟨n, rfl⟩ : ∃ n : Nat, e = n := ⟨e.toNat, by omega⟩
    rw [show ((n : Int) + 1) = ((n + 1 : Nat) : Int) by omega, zp_nat, zp_nat]
    rfl
  · obtain ⟨n, rfl⟩ : ∃ n : Nat, e = -((n + 1 : Nat) : Int) := ⟨(-e).toNat - 1, by omega⟩
    rw [show (-((n + 1 : Nat) : Int) + 1) = -(n : Int) by omega, zp_neg, zp_neg]
    show _ = ((m.adj.npow n).mul m.adj).mul m
    rw [mul_assoc, adj_mul _ h, mul_one]
theorem zp_pred {m : Mt} (h : m.det = 1) (e : Int) : m.zp (e - 1) = (m.zp e).mul m.adj := by
  have := zp_succ h (e - 1)
  rw [show e - 1 + 1 = e by omega] at this
  rw [this, mul_assoc, mul_adj _ h, mul_one]
theorem zp_add_nat {m : Mt} (h : m.det = 1) (a : Int) : ∀ n : Nat, (m.zp a).mul (m.zp n) = m.zp (a + n)
  | 0 => by
    show (m.zp a).mul (m.zp 0) = m.zp (a + 0)
    rw [zp_zero, mul_one, Int.add_zero]
  | n + 1 => by
    rw [show ((n + 1 : Nat) : Int) = (n : Int) + 1 by omega, zp_succ h, ← mul_assoc, zp_add_nat h a n, ← Int.add_assoc, zp_succ h]
theorem zp_add_neg {m : Mt} (h : m.det = 1) (a : Int) : ∀ n : Nat, (m.zp a).mul (m.zp (-(n : Int))) = m.zp (a + -(n : Int))
  | 0 => by
    show (m.zp a).mul (m.zp 0) = m.zp (a + 0)
    rw [zp_zero, mul_one, Int.add_zero]
  | n + 1 => by
    rw [show (-((n + 1 : Nat) : Int)) = -(n : Int) - 1 by omega, zp_pred h, ← mul_assoc, zp_add_neg h a n, show a + (-(n : Int) - 1) = (a + -(n : Int)) - 1 by omega, zp_pred h]
theorem zp_add {m : Mt} (h : m.det = 1) (a b : Int) : (m.zp a).mul (m.zp b) = m.zp (a + b) := by
  by_cases hb : 0 ≤ b
  · obtain ⟨n, rfl⟩ : ∃ n : Nat, b = n := ⟨b.toNat, by omega⟩
    exact zp_add_nat h a n
  · obtain ⟨n, rfl⟩ : ∃ n : Nat, b = -(n : Int) := ⟨(-b).toNat, by omega⟩
    exact zp_add_neg h a n
theorem zp_det {m : Mt} (h : m.det = 1) (e : Int) : (m.zp e).det = 1 := by
  unfold zp
  split
  · exact npow_det h _
  · exact npow_det (by rw [det_adj]; exact h) _
theorem zp_bd {m : Mt} {b : Nat} (h : m.bd b) {e : Int} {n : Nat} (he : e.natAbs ≤ n) : (m.zp e).bd (1 + n * (b + 1)) := by
  have z := Nat.mul_le_mul_right (b + 1) he
  unfold zp
  split
  · exact (npow_bd h _).mono (by omega)
  · exact (npow_bd h.adj _).mono (by omega)
/-! the order -/
def cheb (t : Int) : Nat → Int
  | 0 => 0
  | 1 => 1
  | n + 2 => t * cheb t (n + 1) - cheb t n
theorem npow_cheb (m : Mt) (h : m.det = 1) : ∀ n, m.npow (n + 1) = ⟨cheb m.tr (n + 1) * m.a - cheb m.tr n, cheb m.tr (n + 1) * m.b, cheb m.tr (n + 1) * m.c, cheb m.tr (n + 1) * m.d - cheb m.tr n⟩
  | 0 => by
    show one.mul m = _
    rw [one_mul]
    simp [cheb]
  | n + 1 => by
    show (m.npow (n + 1)).mul m = _
    rw [npow_cheb m h n]
    simp only [mul, cheb, mk.injEq, tr, det] at h ⊢
    refine ⟨?_, ?_, ?_, ?_⟩ <;> grind
theorem cheb_grow {t : Int} (ht : 2 ≤ t ∨ t ≤ -2) : ∀ n, (cheb t n).natAbs < (cheb t (n + 1)).natAbs
  | 0 => by simp [cheb]
  | n + 1 => by
    have ih := cheb_grow ht n
    show (cheb t (n + 1)).natAbs < (t * cheb t (n + 1) - cheb t n).natAbs
    have h2 : 2 * (cheb t (n + 1)).natAbs ≤ (t * cheb t (n + 1)).natAbs := by
      rw [Int.natAbs_mul]
      exact Nat.mul_le_mul_right _ (by omega)
    omega
theorem npow_ne {m : Mt} (h : m.ok) (ht : 2 ≤ m.tr ∨ m.tr ≤ -2) (hm : m ≠ one) (n : Nat) : (m.npow (n + 1)).nf ≠ one := fun e => by
  have hp : (cheb m.tr (n + 1)) ≠ 0 := fun z => by
    have := cheb_grow ht n
    rw [z] at this
    simp at this
  have e2 : m.npow (n + 1) = one ∨ m.npow (n + 1) = one.neg := by
    rcases nf_pm (m.npow (n + 1)) with q | q
    · left; rw [← q, e]
    · right; rw [← e, q, neg_neg]
  rw [npow_cheb m h.1 n] at e2
  have fin : ∀ s : Int, cheb m.tr (n + 1) * m.a - cheb m.tr n = s → cheb m.tr (n + 1) * m.b = 0 → cheb m.tr (n + 1) * m.c = 0 → cheb m.tr (n + 1) * m.d - cheb m.tr n = s → False := fun s h1 h2 h3 h4 => by
    have hb : m.b = 0 := by rcases Int.mul_eq_zero.mp h2 with z | z; exact (hp z).elim; exact z
    have hc : m.c = 0 := by rcases Int.mul_eq_zero.mp h3 with z | z; exact (hp z).elim; exact z
    have had : m.a = m.d := Int.eq_of_mul_eq_mul_left hp (by omega)
    rcases nz h.1 hc with z | z
    · exact hm (ext' z.1 hb hc z.2)
    · have := h.2
      omega
  rcases e2 with q | q
  · simp only [one, mk.injEq] at q
    exact fin 1 q.1 q.2.1 q.2.2.1 q.2.2.2
  · simp only [one, neg, mk.injEq, Int.neg_zero] at q
    exact fin (-1) q.1 q.2.1 q.2.2.1 q.2.2.2
theorem npow2 {m : Mt} (h : m.det = 1) : m.npow 2 = ⟨m.tr * m.a - 1, m.tr * m.b, m.tr * m.c, m.tr * m.d - 1⟩ := by
  have := npow_cheb m h 1
  simpa [cheb] using this
theorem npow3 {m : Mt} (h : m.det = 1) : m.npow 3 = ⟨(m.tr * m.tr - 1) * m.a - m.tr, (m.tr * m.tr - 1) * m.b, (m.tr * m.tr - 1) * m.c, (m.tr * m.tr - 1) * m.d - m.tr⟩ := by
  have := npow_cheb m h 2
  simpa [cheb] using this
theorem npow1 (m : Mt) : m.npow 1 = m := one_mul m
/-- the least power that is the identity -/
def first (m : Mt) : Int := match ([1, 2, 3, 4, 5, 6] : List Nat).filter (fun j => decide ((m.npow j).nf = one)) with
  | [] => 0
  | j :: _ => (j : Int)
theorem first_eq {m : Mt} (h : m.ok) : m.first = m.ord := by
  have f1 : (m.npow 1).nf = m := by rw [npow1, nf_ok h]
  by_cases h1 : m = one
  · subst h1
    unfold first ord
    rw [List.filter_cons_of_pos (by simp [f1]), if_pos rfl]
    rfl
  · have n1 : ¬ ((m.npow 1).nf = one) := by rw [f1]; exact h1
    by_cases h2 : m.tr = 0
    · have f2 : (m.npow 2).nf = one := by
        rw [npow2 h.1, h2]
        simp [nf, neg, one]
      unfold first ord
      rw [List.filter_cons_of_neg (by simp [n1]), List.filter_cons_of_pos (by simp [f2]), if_neg h1, if_pos h2]
      rfl
    · by_cases h3 : m.tr = 1 ∨ m.tr = -1
      · have tt : m.tr * m.tr = 1 := by rcases h3 with z | z <;> rw [z] <;> rfl
        have f3 : (m.npow 3).nf = one := by
          rw [npow3 h.1, tt]
          rcases h3 with z | z <;> rw [z] <;> simp [nf, neg, one]
        have n2 : ¬ ((m.npow 2).nf = one) := fun e => by
          have e2 : m.npow 2 = one ∨ m.npow 2 = one.neg := by
            rcases nf_pm (m.npow 2) with q | q
            · left; rw [← q, e]
            · right; rw [← e, q, neg_neg]
          rw [npow2 h.1] at e2
          have hd : m.a + m.d = m.tr := rfl
          rcases e2 with q | q <;> rcases h3 with z | z <;> rw [z] at q hd <;> simp only [one, neg, mk.injEq] at q <;> omega
        unfold first ord
        rw [List.filter_cons_of_neg (by simp [n1]), List.filter_cons_of_neg (by simp [n2]), List.filter_cons_of_pos (by simp [f3]), if_neg h1, if_neg h2, if_pos h3]
        rfl
      · have ht : 2 ≤ m.tr ∨ m.tr ≤ -2 := by omega
        have nn : ∀ n, ¬ ((m.npow (n + 1)).nf = one) := npow_ne h ht h1
        unfold first ord
        rw [List.filter_cons_of_neg (by simp [nn 0]), List.filter_cons_of_neg (by simp [nn 1]), List.filter_cons_of_neg (by simp [nn 2]), List.filter_cons_of_neg (by simp [nn 3]), List.filter_cons_of_neg (by simp [nn 4]), List.filter_cons_of_neg (by simp [nn 5]), if_neg h1, if_neg h2, if_neg h3]
        rfl
end Mt
/-! comprehensions that change nothing -/
theorem comp_pure {tg : Tgt} {t : QT} {e : QE} {st : PM → Prop} {D : Addr} {τ : Tau} {M : PM} {k : List PV → PM → Prop} (hM : M D = none) (hst : ∀ acc, st (updM M D (.lst acc))) (p : PV → Bool) (f : PV → PV) : ∀ (xs acc : List PV),
    (∀ x ∈ xs, ∃ τ2, (∀ k : Tau → Prop, k τ2 → tg.set x τ k) ∧ (∀ M k, k (p x) M → t τ2 M (fun _ _ => False) k) ∧ (∀ M k, p x = true → k (f x) M → e τ2 M (fun _ _ => False) k)) →
    acc.length + xs.length ≤ sizeLine → k (acc ++ (xs.filter p).map f) M → comp tg t e st D τ xs acc (updM M D (.lst acc)) k
  | [], acc, _, _, h => ⟨hst acc, updM_same, by rw [delM_updM hM]; simpa using h⟩
  | x :: xs, acc, hx, hl, h => by
    obtain ⟨τ2, h1, h2, h3⟩ := hx x List.mem_cons_self
    refine ⟨hst acc, h1 _ (h2 _ _ ⟨fun hp => ?_, fun hp => ?_⟩)⟩
    · refine h3 _ _ hp ⟨updM_same, by rw [List.length_cons] at hl; omega, ?_⟩
      rw [updM_updM]
      refine comp_pure hM hst p f xs (acc ++ [f x]) (fun y hy => hx y (List.mem_cons_of_mem _ hy)) (by simp at hl ⊢; omega) ?_
      rw [List.filter_cons_of_pos hp] at h
      simpa using h
    · refine comp_pure hM hst p f xs acc (fun y hy => hx y (List.mem_cons_of_mem _ hy)) (by simp at hl ⊢; omega) ?_
      rw [List.filter_cons_of_neg (by simp [hp])] at h
      exact h
@[simp] theorem ne_nilL {ns : List Int} {M : PM} {k : PK} : opEq true (.lst (ns.map .int)) (.lst []) M k ↔ k (.bl (!ns.isEmpty)) M := by
  have e : PyData.eqv (.list (ns.map PyData.int)) (.list []) = ns.isEmpty := by cases ns <;> rfl
  have d : PyData.depth (.list []) ≤ 60 := by decide
  simp only [opEq, datM, dat, datL_ints, datL, Option.map_some, if_true]
  constructor
  · rintro ⟨d, e', h1, h2, _, h⟩
    cases h1; cases h2
    rw [← e]; exact h
  · intro h
    exact ⟨_, _, rfl, rfl, by omega, by rw [e]; exact h⟩
theorem Mt.ord_small (m : Mt) : 0 ≤ m.ord ∧ m.ord ≤ 3 := by
  unfold Mt.ord
  split
  · omega
  · split
    · omega
    · split <;> omega
theorem log2_small {i : Int} (h0 : 0 ≤ i) (h : i ≤ 10) : i.natAbs.log2 < 1920 := by
  have h1 : i.natAbs < 2 ^ 4 := by omega
  exact Nat.lt_of_lt_of_le (PySem.Flt.log2_lt_of (by decide) h1) (by decide)
end Q
namespace Q
open PySem PySem.Spec PyProof.Rows L2
def Ltr.inv : Ltr → Ltr
  | .S => .S | .R => .r | .r => .R
/-- one letter behind a stack (its top first) -/
def rst : List Ltr → Ltr → List Ltr
  | [], x => [x]
  | y :: t, x => if Ltr.fits y x then x :: y :: t else if x = .S ∨ y ≠ x then t else x.inv :: t
def red (w : List Ltr) : List Ltr := (w.foldl rst []).reverse
def turned (w : List Ltr) : List Ltr := w.reverse.map Ltr.inv
/-- more stands there, what stood there is the same -/
def Ext (M M' : PM) : Prop := ∀ b o, M b = some o → M' b = some o
theorem Ext.refl (M : PM) : Ext M M := fun _ _ e => e
theorem Ext.trans {M M' M'' : PM} (h : Ext M M') (h' : Ext M' M'') : Ext M M'' := fun b o e => h' b o (h b o e)
theorem Ext.put {M : PM} {a : Addr} {o : MO} (h : M a = none) : Ext M (updM M a o) := fun b u e => by
  have : b ≠ a := fun z => by subst z; rw [h] at e; cases e
  rw [updM_ne this]; exact e
theorem Ext.put' {M M' : PM} {a : Addr} {o : MO} (hx : Ext M M') (h : M a = none) : Ext M (updM M' a o) := fun b u e => by
  have : b ≠ a := fun z => by subst z; rw [h] at e; cases e
  rw [updM_ne this]; exact hx b u e
theorem Src.ext {M M' : PM} {a : Addr} {n : Nat} (h : Src M a n) (e : Ext M M') : Src M' a n := by
  obtain ⟨p, q, r, h1, h2⟩ := h
  exact ⟨p, q, r, e _ _ h1, h2⟩
def sp_u_first_wrong : PSp := fun xs M k _ => ∃ w : List Ltr, xs = [wpv w] ∧ isW w = true ∧ k .non M
def sp_is_word : PSp := fun xs M k _ => ∃ w : List Ltr, xs = [wpv w] ∧ isW w = true ∧ w.length ≤ 2000 ∧ k (.bl true) M
def sp_check_word : PSp := fun xs M k _ => ∃ w : List Ltr, xs = [wpv w] ∧ isW w = true ∧ w.length ≤ 2000 ∧ k .non M
def sp_u_matrix_of_letters : PSp := fun xs M k _ => ∃ w : List Ltr, xs = [wpv w] ∧ w.length ≤ 2000 ∧ ∀ M', Ext M M' → k (wmt w).pv M'
def sp_matrix_of_word : PSp := fun xs M k _ => ∃ w : List Ltr, xs = [wpv w] ∧ isW w = true ∧ w.length ≤ 2000 ∧ ∀ M', Ext M M' → k (wmt w).pv M'
def sp_u_reduced : PSp := fun xs M k _ => ∃ (ws : List (List Ltr)) (v : PV), xs = [v] ∧ (v = .tup (ws.map wpv) ∨ v = .lst (ws.map wpv)) ∧ ws.length ≤ 1000 ∧ ws.flatten.length ≤ 100000 ∧ (red ws.flatten).length ≤ 2000 ∧ ∀ M', Ext M M' → k (wpv (red ws.flatten)) M'
def sp_joined : PSp := fun xs M k _ => ∃ ws : List (List Ltr), xs = ws.map wpv ∧ ws.length ≤ 20 ∧ (∀ w ∈ ws, isW w = true ∧ w.length ≤ 2000) ∧ (red ws.flatten).length ≤ 2000 ∧ ∀ M', Ext M M' → k (wpv (red ws.flatten)) M'
def sp_L_turned : PSp := fun xs M k _ => ∃ w : List Ltr, xs = [wpv w] ∧ w.length ≤ 2000 ∧ k (wpv (turned w)) M
def sp_L_cancelled : PSp := fun xs M k _ => ∃ w : List Ltr, xs = [wpv w] ∧ w.length ≤ 4000 ∧ ∀ M', Ext M M' → k (wpv (red w)) M'
def sp_L_words_right : PSp := fun xs M k _ => ∃ (a : Addr) (n : Nat), xs = [.ref a] ∧ Src M a n ∧ n + 1000 < lim ∧ ∀ M', Src M' a (n + 300) → k (.bl true) M'
end Q
namespace Q
open PySem PySem.Spec PyProof.Rows L2
theorem rst_cons (y : Ltr) (t : List Ltr) (x : Ltr) : rst (y :: t) x = if Ltr.fits y x then x :: y :: t else if x = .S ∨ y ≠ x then t else x.inv :: t := rfl
theorem fits_symm (x y : Ltr) : Ltr.fits x y = Ltr.fits y x := by cases x <;> cases y <;> rfl
theorem isW_cons {x : Ltr} {w : List Ltr} (hw : isW w = true) (h : ∀ y, w.head? = some y → Ltr.fits x y = true) : isW (x :: w) = true := by
  cases w with
  | nil => rfl
  | cons y w =>
    show (Ltr.fits x y && isW (y :: w)) = true
    rw [h y rfl, hw]
    rfl
theorem isW_head {x y : Ltr} {w : List Ltr} (h : isW (x :: y :: w) = true) : Ltr.fits x y = true := by
  have h : (Ltr.fits x y && isW (y :: w)) = true := h
  rw [Bool.and_eq_true] at h
  exact h.1
theorem isW_tail {x : Ltr} {w : List Ltr} (h : isW (x :: w) = true) : isW w = true := by
  cases w with
  | nil => rfl
  | cons y w =>
    have h : (Ltr.fits x y && isW (y :: w)) = true := h
    rw [Bool.and_eq_true] at h
    exact h.2
theorem isW_take : ∀ (w : List Ltr) (n : Nat), isW w = true → isW (w.take n) = true
  | [], n, _ => by simp [isW]
  | x :: w, 0, _ => rfl
  | x :: w, n + 1, h => by
    rw [List.take_succ_cons]
    refine isW_cons (isW_take w n (isW_tail h)) fun y hy => ?_
    cases w with
    | nil => simp at hy
    | cons z w =>
      cases n with
      | zero => simp at hy
      | succ n =>
        simp at hy
        subst hy
        exact isW_head h
theorem isW_rev : ∀ w : List Ltr, isW w = true → isW w.reverse = true
  | [], _ => rfl
  | x :: w, h => by
    rw [List.reverse_cons]
    refine isW_snoc (isW_rev w (isW_tail h)) fun y hy => ?_
    rw [List.getLast?_reverse] at hy
    cases w with
    | nil => cases hy
    | cons z w =>
      cases hy
      rw [fits_symm]
      exact isW_head h
theorem fits_inv (x y : Ltr) : Ltr.fits x.inv y.inv = Ltr.fits x y := by cases x <;> cases y <;> rfl
theorem isW_inv : ∀ w : List Ltr, isW w = true → isW (w.map Ltr.inv) = true
  | [], _ => rfl
  | x :: w, h => by
    rw [List.map_cons]
    refine isW_cons (isW_inv w (isW_tail h)) fun y hy => ?_
    cases w with
    | nil => simp at hy
    | cons z w =>
      simp at hy
      subst hy
      rw [fits_inv]
      exact isW_head h
theorem isW_turned {w : List Ltr} (h : isW w = true) : isW (turned w) = true := isW_inv _ (isW_rev _ h)
theorem isW_rst {st : List Ltr} {x : Ltr} (h : isW st = true) : isW (rst st x) = true := by
  cases st with
  | nil => rfl
  | cons y t =>
    rw [rst_cons]
    split
    · rename_i hf
      exact isW_cons h fun z hz => by
        cases hz
        rw [fits_symm]; exact hf
    · split
      · exact isW_tail h
      · rename_i h1 h2
        refine isW_cons (isW_tail h) fun z hz => ?_
        cases t with
        | nil => cases hz
        | cons u t =>
          cases hz
          have hu := isW_head h
          have hxy : y = x := by
            rw [not_or] at h2
            exact Decidable.not_not.mp h2.2
          subst hxy
          cases y <;> cases z <;> first | rfl | exact absurd hu (by decide)
theorem isW_fold : ∀ (w st : List Ltr), isW st = true → isW (w.foldl rst st) = true
  | [], _, h => h
  | x :: w, st, h => isW_fold w _ (isW_rst h)
theorem isW_red (w : List Ltr) : isW (red w) = true := isW_rev _ (isW_fold w [] rfl)
theorem fold_word : ∀ (w st : List Ltr), isW w = true → (∀ y x, st.head? = some y → w.head? = some x → Ltr.fits y x = true) → w.foldl rst st = w.reverse ++ st
  | [], st, _, _ => rfl
  | x :: w, st, h, hh => by
    have e : rst st x = x :: st := by
      cases st with
      | nil => rfl
      | cons y t =>
        rw [rst_cons]
        rw [if_pos (hh y x rfl rfl)]
    rw [List.foldl_cons, e, fold_word w (x :: st) (isW_tail h) fun y z hy hz => by
      cases hy
      cases w with
      | nil => cases hz
      | cons u w =>
        cases hz
        exact isW_head h]
    simp
theorem red_word {w : List Ltr} (h : isW w = true) : red w = w := by
  unfold red
  rw [fold_word w [] h (fun y x hy => nomatch hy)]
  simp
theorem red_red (u v : List Ltr) : red (red u ++ v) = red (u ++ v) := by
  unfold red
  rw [List.foldl_append, List.foldl_append]
  have := fold_word (red u) [] (isW_red u) (fun y x hy => nomatch hy)
  unfold red at this
  rw [this]
  simp
theorem fold_back : ∀ u : List Ltr, (u.map Ltr.inv).foldl rst u = []
  | [] => rfl
  | y :: t => by
    rw [List.map_cons, List.foldl_cons]
    have e : rst (y :: t) y.inv = t := by cases y <;> rfl
    rw [e, fold_back t]
theorem red_turned {w : List Ltr} (h : isW w = true) : red (w ++ turned w) = [] := by
  unfold red turned
  rw [List.foldl_append, fold_word w [] h (fun y x hy => nomatch hy), List.append_nil, fold_back]
  rfl
theorem rst_len (st : List Ltr) (x : Ltr) : (rst st x).length ≤ st.length + 1 := by
  cases st with
  | nil => simp [rst]
  | cons y t =>
    rw [rst_cons]
    split
    · simp
    · split <;> simp <;> omega
theorem fold_len : ∀ (w st : List Ltr), (w.foldl rst st).length ≤ st.length + w.length
  | [], st => by simp
  | x :: w, st => by
    have h1 := fold_len w (rst st x)
    have h2 := rst_len st x
    rw [List.foldl_cons, List.length_cons]
    omega
theorem red_len (w : List Ltr) : (red w).length ≤ w.length := by
  unfold red
  rw [List.length_reverse]
  have := fold_len w []
  simpa using this
theorem wmt_rst {st : List Ltr} {x : Ltr} : wmt (rst st x).reverse = ((wmt st.reverse).mul x.mt).sg := by
  cases st with
  | nil => exact wmt_snoc [] x
  | cons y t =>
    rw [rst_cons]
    split
    · rw [List.reverse_cons]; exact wmt_snoc _ x
    · rename_i hf
      have A := wmt_ok t.reverse
      have dy := lt_det y
      have dx := lt_det x
      have e1 : ((wmt (y :: t).reverse).mul x.mt).sg = ((wmt t.reverse).mul (y.mt.mul x.mt)).nf := by
        rw [List.reverse_cons, wmt_snoc, Mt.sg_nf (Mt.det1_mul A.1 dy), Mt.sg_nf (Mt.det1_mul (Mt.ok_nf (Mt.det1_mul A.1 dy)).1 dx), Mt.nf_mul_l (Mt.det1_mul A.1 dy) dx, Mt.mul_assoc]
      rw [e1]
      have fin : ∀ Z : Mt, Z.det = 1 → (y.mt.mul x.mt = Z ∨ y.mt.mul x.mt = Z.neg) → ((wmt t.reverse).mul (y.mt.mul x.mt)).nf = ((wmt t.reverse).mul Z).nf := fun Z hZ hz => by
        rcases hz with z | z
        · rw [z]
        · rw [z, Mt.mul_neg, Mt.nf_neg (Mt.det1_mul A.1 hZ)]
      split
      · rename_i h2
        rw [fin Mt.one rfl (by cases y <;> cases x <;> simp_all [Ltr.fits] <;> decide), Mt.mul_one, Mt.nf_ok A]
      · rename_i h2
        rw [fin x.inv.mt (lt_det _) (by cases y <;> cases x <;> simp_all [Ltr.fits] <;> decide), List.reverse_cons, wmt_snoc, Mt.sg_nf (Mt.det1_mul A.1 (lt_det _))]
theorem wmt_fold : ∀ (w st : List Ltr), wmt (w.foldl rst st).reverse = w.foldl (fun m l => (m.mul l.mt).sg) (wmt st.reverse)
  | [], st => rfl
  | x :: w, st => by rw [List.foldl_cons, List.foldl_cons, wmt_fold w (rst st x), wmt_rst]
theorem wmt_red (w : List Ltr) : wmt (red w) = wmt w := wmt_fold w []
theorem fold_nf : ∀ (w : List Ltr) (m : Mt), m.det = 1 → (w.map Ltr.mt).foldl Mt.mul m = (w.map Ltr.mt).foldl Mt.mul m ∧ ((w.map Ltr.mt).foldl Mt.mul m).nf = w.foldl (fun m l => (m.mul l.mt).sg) m.nf ∧ ((w.map Ltr.mt).foldl Mt.mul m).det = 1
  | [], m, h => ⟨rfl, rfl, h⟩
  | x :: w, m, h => by
    have d := Mt.det1_mul h (lt_det x)
    obtain ⟨_, h1, h2⟩ := fold_nf w (m.mul x.mt) d
    refine ⟨rfl, ?_, h2⟩
    rw [List.map_cons, List.foldl_cons, List.foldl_cons, h1, Mt.sg_nf (Mt.det1_mul (Mt.ok_nf h).1 (lt_det x)), Mt.nf_mul_l h (lt_det x)]
theorem wmt_prod (w : List Ltr) : ((w.map Ltr.mt).foldl Mt.mul Mt.one).nf = wmt w := (fold_nf w Mt.one rfl).2.1
/-! texts -/
theorem wstr_app (u v : List Ltr) : wstr u ++ wstr v = wstr (u ++ v) := by
  show (⟨(u.map Ltr.code).toArray ++ (v.map Ltr.code).toArray⟩ : Str) = ⟨((u ++ v).map Ltr.code).toArray⟩
  simp
theorem wstr_emp_app (v : List Ltr) : (⟨#[]⟩ : Str) ++ wstr v = wstr v := wstr_app [] v
theorem join_w : ∀ ws : List (List Ltr), Txt.join ⟨#[]⟩ (ws.map wstr) = wstr ws.flatten
  | [] => rfl
  | [u] => by
    show wstr u = wstr (u ++ [])
    rw [List.append_nil]
  | u :: v :: r => by
    have ih := join_w (v :: r)
    rw [TL.join_eq] at ih ⊢
    show wstr u ++ (⟨#[]⟩ : Str) ++ Str.join ⟨#[]⟩ ((v :: r).map wstr) = wstr (u ++ (v :: r).flatten)
    rw [ih, ← wstr_app]
    congr 1
theorem strs_w (ws : List (List Ltr)) : strsOf (ws.map wpv) = some (ws.map wstr) := by
  have := strsOf_map (ws.map wstr)
  rw [List.map_map] at this
  exact this
theorem sum_w (ws : List (List Ltr)) : ((ws.map wstr).map (·.length)).sum = ws.flatten.length := by
  induction ws with
  | nil => rfl
  | cons u r ih =>
    rw [List.map_cons, List.map_cons, List.sum_cons, ih, List.flatten_cons, List.length_append, wstr_size]
theorem flat1 : ∀ w : List Ltr, (w.map fun l => [l]).flatten = w
  | [] => rfl
  | x :: w => by rw [List.map_cons, List.flatten_cons, flat1 w]; rfl
/-- the letters one by one -/
theorem join_l (w : List Ltr) : Txt.join ⟨#[]⟩ (w.map fun l => (⟨#[l.code]⟩ : Str)) = wstr w := by
  have := join_w (w.map fun l => [l])
  rw [List.map_map] at this
  rw [flat1] at this
  exact this
theorem strs_l (w : List Ltr) : strsOf (w.map Ltr.pv) = some (w.map fun l => (⟨#[l.code]⟩ : Str)) := by
  have := strsOf_map (w.map fun l => (⟨#[l.code]⟩ : Str))
  rw [List.map_map] at this
  exact this
theorem sum_l (w : List Ltr) : ((w.map fun l => (⟨#[l.code]⟩ : Str)).map (·.length)).sum = w.length := by
  induction w with
  | nil => rfl
  | cons u r ih =>
    rw [List.map_cons, List.map_cons, List.sum_cons, ih, List.length_cons]
    show 1 + r.length = r.length + 1
    omega
theorem chars_w (w : List Ltr) : chars (wstr w) = w.map Ltr.pv := by
  unfold chars wstr
  simp [sgn, Ltr.pv]
theorem rev_w (w : List Ltr) : revS (wstr w) = wstr w.reverse := by
  unfold revS wstr
  simp
theorem cut_w (w : List Ltr) (n : Int) (h0 : 0 ≤ n) : cutS (wstr w) none (some n) = wstr (w.take n.toNat) := by
  unfold cutS
  have e : (wstr w).length = w.length := wstr_size w
  rw [e, HT.sIx_none]
  obtain ⟨m, rfl⟩ : ∃ m : Nat, n = m := ⟨n.toNat, by omega⟩
  rw [HT.sIx_nat]
  unfold wstr
  simp
theorem comp_pure2 {tg : Tgt} {t : QT} {e : QE} {st : PM → Prop} {D : Addr} {τ : Tau} {M : PM} {k : List PV → PM → Prop} (hM : M D = none) (hst : ∀ acc, st (updM M D (.lst acc))) (p : PV → Bool) (f : PV → PV) : ∀ (xs acc : List PV),
    (∀ x ∈ xs, ∃ τ2, (∀ k : Tau → Prop, k τ2 → tg.set x τ k) ∧ (∀ acc k, k (p x) (updM M D (.lst acc)) → t τ2 (updM M D (.lst acc)) (fun _ _ => False) k) ∧ (∀ acc k, p x = true → k (f x) (updM M D (.lst acc)) → e τ2 (updM M D (.lst acc)) (fun _ _ => False) k)) →
    acc.length + xs.length ≤ sizeLine → k (acc ++ (xs.filter p).map f) M → comp tg t e st D τ xs acc (updM M D (.lst acc)) k
  | [], acc, _, _, h => ⟨hst acc, updM_same, by rw [delM_updM hM]; simpa using h⟩
  | x :: xs, acc, hx, hl, h => by
    obtain ⟨τ2, h1, h2, h3⟩ := hx x List.mem_cons_self
    refine ⟨hst acc, h1 _ (h2 _ _ ⟨fun hp => ?_, fun hp => ?_⟩)⟩
    · refine h3 _ _ hp ⟨updM_same, by rw [List.length_cons] at hl; omega, ?_⟩
      rw [updM_updM]
      refine comp_pure2 hM hst p f xs (acc ++ [f x]) (fun y hy => hx y (List.mem_cons_of_mem _ hy)) (by simp at hl ⊢; omega) ?_
      rw [List.filter_cons_of_pos hp] at h
      simpa using h
    · refine comp_pure2 hM hst p f xs acc (fun y hy => hx y (List.mem_cons_of_mem _ hy)) (by simp at hl ⊢; omega) ?_
      rw [List.filter_cons_of_neg (by simp [hp])] at h
      exact h
theorem isW_get : ∀ {w : List Ltr} {i : Nat} {x y : Ltr}, isW w = true → w[i]? = some x → w[i + 1]? = some y → Ltr.fits x y = true
  | [], _, _, _, _, h, _ => by simp at h
  | [_], 0, _, _, _, _, h => by simp at h
  | [_], i + 1, _, _, _, h, _ => by simp at h
  | a :: b :: r, 0, x, y, hw, h1, h2 => by
    simp at h1 h2
    subst h1; subst h2
    exact isW_head hw
  | a :: b :: r, i + 1, x, y, hw, h1, h2 => isW_get (isW_tail hw) (by simpa using h1) (by simpa using h2)
theorem opIn_ltr {l : Ltr} {M : PM} {k : PK} (h : k (.bl false) M) : opIn true l.pv (.tup [.str ⟨#[83]⟩, .str ⟨#[82]⟩, .str ⟨#[114]⟩]) M k := by
  cases l <;> exact ⟨_, _, rfl, rfl, h⟩
theorem emp_len : (⟨#[]⟩ : Str).length = 0 := rfl
theorem ixN_last {n : Nat} : ixN (n + 1) (-1) = some n := by
  unfold ixN
  simp
  omega
theorem snoc_pv (t : List Ltr) (y : Ltr) : ((y :: t).reverse.map Ltr.pv) = t.reverse.map Ltr.pv ++ [y.pv] := by simp
theorem set_last (ps : List PV) (x y : PV) : (ps ++ [x]).set ps.length y = ps ++ [y] := by simp
theorem datL_pv : ∀ ls : List Ltr, datL (ls.map Ltr.pv) = some (ls.map fun l => PyData.str ⟨#[l.code]⟩)
  | [] => rfl
  | l :: ls => by
    show (match dat l.pv, datL (ls.map Ltr.pv) with | some x, some y => some (x :: y) | _, _ => none) = _
    rw [datL_pv ls]
    rfl
theorem eq_emp {M : PM} {a : Addr} {ls : List Ltr} {k : PK} (h : M a = some (.lst (ls.map Ltr.pv))) : opEq false (.ref a) (.lst []) M k ↔ k (.bl ls.isEmpty) M := by
  have e : PyData.eqv (.list (ls.map fun l => PyData.str ⟨#[l.code]⟩)) (.list []) = ls.isEmpty := by cases ls <;> rfl
  have d : PyData.depth (.list []) ≤ 60 := by decide
  have dm : datM M (.ref a) = some (.list (ls.map fun l => PyData.str ⟨#[l.code]⟩)) := by
    show (match M a with | some (.lst xs) => (datL xs).map PyData.list | _ => none) = _
    rw [h]
    show (datL (ls.map Ltr.pv)).map PyData.list = _
    rw [datL_pv]
    rfl
  constructor
  · rintro ⟨d1, e1, h1, h2, _, h⟩
    rw [dm] at h1
    cases h1; cases h2
    rw [← e]; exact h
  · intro h
    exact ⟨_, _, dm, rfl, by omega, by rw [if_neg (by simp), e]; exact h⟩
end Q
namespace Q
open PySem PySem.Spec PyProof.Rows L2
/-! two different words have different matrices -/
/-- the product, not made normal -/
def rawM (w : List Ltr) : Mt := (w.map Ltr.mt).foldl Mt.mul Mt.one
theorem fold_mul : ∀ (ms : List Mt) (m : Mt), ms.foldl Mt.mul m = m.mul (ms.foldl Mt.mul Mt.one)
  | [], m => by simp [Mt.mul_one]
  | x :: ms, m => by
    rw [List.foldl_cons, List.foldl_cons, fold_mul ms (m.mul x), fold_mul ms (Mt.one.mul x), Mt.one_mul, Mt.mul_assoc]
theorem rawM_app (u v : List Ltr) : rawM (u ++ v) = (rawM u).mul (rawM v) := by
  unfold rawM
  rw [List.map_append, List.foldl_append, fold_mul]
theorem rawM_nf (w : List Ltr) : (rawM w).nf = wmt w := wmt_prod w
theorem rawM_det (w : List Ltr) : (rawM w).det = 1 := (fold_nf w Mt.one rfl).2.2
theorem wmt_app (u v : List Ltr) : wmt (u ++ v) = ((wmt u).mul (wmt v)).nf := by
  rw [← rawM_nf, rawM_app, ← rawM_nf u, ← rawM_nf v, Mt.nf_mul_l (rawM_det u) (by rw [Mt.det_nf]; exact rawM_det v), Mt.nf_mul_r (rawM_det u) (rawM_det v)]
/-- T and F -/
def tf : Bool → Mt
  | true => ⟨1, 1, 0, 1⟩
  | false => ⟨1, 0, 1, 1⟩
def tfw : Bool → List Ltr
  | true => [.S, .R]
  | false => [.S, .r]
def tfs (ps : List Bool) : List Ltr := ps.flatMap tfw
def tfm (ps : List Bool) : Mt := (ps.map tf).foldl Mt.mul Mt.one
theorem tfm_cons (p : Bool) (ps : List Bool) : tfm (p :: ps) = (tf p).mul (tfm ps) := by
  unfold tfm
  rw [List.map_cons, List.foldl_cons, fold_mul, Mt.one_mul]
theorem tf_det (p : Bool) : (tf p).det = 1 := by cases p <;> rfl
theorem tfm_det : ∀ ps, (tfm ps).det = 1
  | [] => rfl
  | p :: ps => by rw [tfm_cons]; exact Mt.det1_mul (tf_det p) (tfm_det ps)
theorem tfw_m (p : Bool) : wmt (tfw p) = (tf p).nf := by cases p <;> decide
theorem wmt_tfs : ∀ ps, wmt (tfs ps) = (tfm ps).nf
  | [] => rfl
  | p :: ps => by
    show wmt (tfw p ++ tfs ps) = _
    rw [wmt_app, tfw_m, wmt_tfs ps, tfm_cons, Mt.nf_mul_l (tf_det p) (by rw [Mt.det_nf]; exact tfm_det ps), Mt.nf_mul_r (tf_det p) (tfm_det ps)]
/-- entries, and how they grow -/
theorem tfm_pos : ∀ ps, (0 ≤ (tfm ps).a ∧ 0 ≤ (tfm ps).b ∧ 0 ≤ (tfm ps).c ∧ 0 ≤ (tfm ps).d ∧ 1 ≤ (tfm ps).a + (tfm ps).b ∧ 1 ≤ (tfm ps).c + (tfm ps).d) ∧ 2 + (ps.length : Int) ≤ (tfm ps).a + (tfm ps).b + (tfm ps).c + (tfm ps).d
  | [] => by simp [tfm, Mt.one]
  | p :: ps => by
    obtain ⟨⟨h1, h2, h3, h4, h5, h6⟩, h7⟩ := tfm_pos ps
    rw [tfm_cons, List.length_cons]
    generalize tfm ps = m at h1 h2 h3 h4 h5 h6 h7 ⊢
    cases p <;> simp [tf, Mt.mul] <;> omega
theorem nf_one {m : Mt} (h : m.nf = Mt.one) : m = Mt.one ∨ m = Mt.one.neg := by
  rcases Mt.nf_pm m with q | q
  · left; rw [← q, h]
  · right; rw [← h, q, Mt.neg_neg]
theorem nf_S {m : Mt} (h : m.nf = mS) : m = mS ∨ m = mS.neg := by
  rcases Mt.nf_pm m with q | q
  · left; rw [← q, h]
  · right; rw [← h, q, Mt.neg_neg]
theorem tfm_not_S (ps : List Bool) : (tfm ps).nf ≠ mS := fun h => by
  obtain ⟨⟨h1, h2, h3, h4, h5, h6⟩, h7⟩ := tfm_pos ps
  rcases nf_S h with q | q <;> rw [q] at h2 h3 <;> simp [mS, Mt.neg] at h2 h3
theorem tfm_one {ps : List Bool} (h : (tfm ps).nf = Mt.one) : ps = [] := by
  obtain ⟨⟨h1, h2, h3, h4, h5, h6⟩, h7⟩ := tfm_pos ps
  rcases nf_one h with q | q
  · rw [q] at h7
    simp [Mt.one] at h7
    exact List.length_eq_zero_iff.mp (by omega)
  · rw [q] at h1
    simp [Mt.one, Mt.neg] at h1
/-- a word: S and a turn by turns, behind a turn perhaps, before an S perhaps -/
theorem word_shape : ∀ (n : Nat) (w : List Ltr), w.length = n → isW w = true → ∃ ps : List Bool, w = tfs ps ∨ w = tfs ps ++ [.S] ∨ (∃ p, .S :: w = tfs (p :: ps)) ∨ (∃ p, .S :: w = tfs (p :: ps) ++ [.S])
  | 0, w, hn, h => ⟨[], .inl (List.length_eq_zero_iff.mp hn)⟩
  | n + 1, w, hn, h => by
    cases w with
    | nil => cases hn
    | cons x w =>
      have hn' : w.length = n := by simpa using hn
      obtain ⟨ps, hp⟩ := word_shape n w hn' (isW_tail h)
      by_cases hx : x = .S
      · subst hx
        rcases hp with hp | hp | ⟨p, hp⟩ | ⟨p, hp⟩
        · -- w = tfs ps, it starts with S, or is empty
          cases ps with
          | nil =>
            subst hp
            exact ⟨[], .inr (.inl rfl)⟩
          | cons p ps =>
            subst hp
            exfalso
            cases p <;> exact absurd (isW_head (w := _ :: tfs ps) h) (by decide)
        · cases ps with
          | nil =>
            subst hp
            exact absurd (isW_head h) (by decide)
          | cons p ps =>
            subst hp
            exfalso
            cases p <;> exact absurd (isW_head (w := _ :: (tfs ps ++ [Ltr.S])) h) (by decide)
        · exact ⟨p :: ps, .inl hp⟩
        · exact ⟨p :: ps, .inr (.inl hp)⟩
      · have hw : ∀ v, .S :: x :: v = .S :: x :: w → ∃ p, tfw p = [.S, x] := fun v _ => by
          cases x with
          | S => exact (hx rfl).elim
          | R => exact ⟨true, rfl⟩
          | r => exact ⟨false, rfl⟩
        obtain ⟨p, hpx⟩ := hw w rfl
        rcases hp with hp | hp | ⟨q, hp⟩ | ⟨q, hp⟩
        · refine ⟨ps, .inr (.inr (.inl ⟨p, ?_⟩))⟩
          show _ = tfw p ++ tfs ps
          rw [hpx, hp]; rfl
        · refine ⟨ps, .inr (.inr (.inr ⟨p, ?_⟩))⟩
          show _ = (tfw p ++ tfs ps) ++ [.S]
          rw [hpx, hp]; rfl
        · exfalso
          cases w with
          | nil =>
            have := congrArg List.length hp
            cases q <;> simp [tfs, tfw] at this
          | cons y w =>
            have hf := isW_head h
            have : y ≠ .S := by
              rintro rfl
              cases q <;> simp [tfs, tfw] at hp
            cases x <;> cases y <;> simp_all [Ltr.fits] <;> revert hf <;> decide
        · exfalso
          cases w with
          | nil =>
            have := congrArg List.length hp
            cases q <;> simp [tfs, tfw] at this
          | cons y w =>
            have hf := isW_head h
            have : y ≠ .S := by
              rintro rfl
              cases q <;> simp [tfs, tfw] at hp
            cases x <;> cases y <;> simp_all [Ltr.fits] <;> revert hf <;> decide
theorem wmt_S : wmt [.S] = mS := by decide
theorem mS_sq : (mS.mul mS).nf = Mt.one := by decide
theorem word_one {w : List Ltr} (h : isW w = true) (h1 : wmt w = Mt.one) : w = [] := by
  obtain ⟨ps, hp⟩ := word_shape _ w rfl h
  have hS : wmt (.S :: w) = mS := by
    show wmt ([.S] ++ w) = mS
    rw [wmt_app, h1, Mt.mul_one, wmt_S]
    rfl
  rcases hp with hp | hp | ⟨p, hp⟩ | ⟨p, hp⟩
  · rw [hp, wmt_tfs] at h1
    rw [hp, tfm_one h1]
    rfl
  · exfalso
    rw [hp, wmt_app, wmt_S, wmt_tfs] at h1
    have hd : (tfm ps).nf.det = 1 := by rw [Mt.det_nf]; exact tfm_det ps
    have e : ((((tfm ps).nf.mul mS).nf).mul mS).nf = (tfm ps).nf := by
      rw [Mt.nf_mul_l (Mt.det1_mul hd rfl) rfl, Mt.mul_assoc, ← Mt.nf_mul_r hd (Mt.det1_mul rfl rfl), mS_sq, Mt.mul_one, Mt.nf_nf (tfm_det ps)]
    rw [h1, Mt.one_mul] at e
    exact tfm_not_S ps e.symm
  · exfalso
    rw [hp, wmt_tfs] at hS
    exact tfm_not_S _ hS
  · exfalso
    rw [hp, wmt_app, wmt_S, wmt_tfs] at hS
    have hd : (tfm (p :: ps)).nf.det = 1 := by rw [Mt.det_nf]; exact tfm_det _
    have e : ((((tfm (p :: ps)).nf.mul mS).nf).mul mS).nf = (tfm (p :: ps)).nf := by
      rw [Mt.nf_mul_l (Mt.det1_mul hd rfl) rfl, Mt.mul_assoc, ← Mt.nf_mul_r hd (Mt.det1_mul rfl rfl), mS_sq, Mt.mul_one, Mt.nf_nf (tfm_det _)]
    rw [hS, mS_sq] at e
    have := tfm_one e.symm
    cases this
theorem inv_mt (l : Ltr) : l.inv.mt = l.mt.adj.nf := by cases l <;> decide
/-- the word of the inverse -/
theorem wmt_turned : ∀ w : List Ltr, wmt (turned w) = (wmt w).adj.nf
  | [] => rfl
  | x :: w => by
    have e : turned (x :: w) = turned w ++ [x.inv] := by simp [turned]
    have e1 : wmt [x.inv] = (wmt [x]).adj.nf := by cases x <;> decide
    have A := wmt_ok w
    have B := wmt_ok [x]
    have dA : (wmt w).adj.det = 1 := by rw [Mt.det_adj]; exact A.1
    have dB : (wmt [x]).adj.det = 1 := by rw [Mt.det_adj]; exact B.1
    show _ = (wmt ([x] ++ w)).adj.nf
    rw [e, wmt_app, wmt_turned w, e1, wmt_app, Mt.nf_adj (Mt.det1_mul B.1 A.1), Mt.adj_mul_rev, Mt.nf_mul_l dA (Mt.ok_nf dB).1, Mt.nf_mul_r dA dB]
theorem rst_undo {st : List Ltr} {x : Ltr} (h : isW st = true) : rst (rst st x) x.inv = st := by
  cases st with
  | nil => cases x <;> rfl
  | cons y t =>
    rw [rst_cons]
    split
    · rw [rst_cons, if_neg (by cases x <;> decide), if_pos (by cases x <;> simp [Ltr.inv])]
    · rename_i hf
      split
      · rename_i h2
        have hy : y = x.inv := by cases x <;> cases y <;> simp_all [Ltr.fits, Ltr.inv] <;> revert hf <;> decide
        subst hy
        cases t with
        | nil => rfl
        | cons z t =>
          rw [rst_cons, if_pos (by rw [fits_symm]; exact isW_head h)]
      · rename_i h2
        rw [not_or] at h2
        have hy : y = x := Decidable.not_not.mp h2.2
        subst hy
        rw [rst_cons, if_neg (by cases y <;> decide), if_neg (by cases y <;> simp_all [Ltr.inv])]
        cases y <;> rfl
theorem fold_undo : ∀ (v st : List Ltr), isW st = true → (turned v).foldl rst (v.foldl rst st) = st
  | [], st, _ => rfl
  | x :: v, st, h => by
    have e : turned (x :: v) = turned v ++ [x.inv] := by simp [turned]
    have ih := fold_undo v (rst st x) (isW_rst h)
    rw [e, List.foldl_append]
    show rst ((turned v).foldl rst (v.foldl rst (rst st x))) x.inv = st
    rw [ih]
    exact rst_undo h
theorem turned_turned (v : List Ltr) : turned (turned v) = v := by
  unfold turned
  rw [← List.map_reverse, List.reverse_reverse, List.map_map]
  have : Ltr.inv ∘ Ltr.inv = id := by funext x; cases x <;> rfl
  rw [this, List.map_id]
/-- two different words have different matrices -/
theorem word_inj {u v : List Ltr} (hu : isW u = true) (hv : isW v = true) (h : wmt u = wmt v) : u = v := by
  have V := wmt_ok v
  have dV : (wmt v).adj.det = 1 := by rw [Mt.det_adj]; exact V.1
  have h1 : wmt (red (u ++ turned v)) = Mt.one := by
    rw [wmt_red, wmt_app, wmt_turned, h, Mt.nf_mul_r V.1 dV, Mt.mul_adj _ V.1]
    rfl
  have h2 := word_one (isW_red _) h1
  have fu := fold_word u [] hu (fun y x hy => nomatch hy)
  have fv := fold_word v [] hv (fun y x hy => nomatch hy)
  rw [List.append_nil] at fu fv
  unfold red at h2
  rw [List.foldl_append, fu] at h2
  have h3 : (turned v).foldl rst u.reverse = [] := List.reverse_eq_nil_iff.mp h2
  have h4 := fold_undo (turned v) u.reverse (isW_rev _ hu)
  rw [h3, turned_turned, fv] at h4
  have h5 := congrArg List.reverse h4
  rw [List.reverse_reverse, List.reverse_reverse] at h5
  exact h5.symm
end Q
namespace Q
open PySem PySem.Spec PyProof.Rows L2
/-! the sum of the quotients of a / c, in absolute value, and what the letters do to it -/
def qsum (a c : Int) : Nat := if h : 0 < c then (a / c).natAbs + qsum c (a % c) else 0
termination_by c.toNat
decreasing_by
  have h1 := Int.emod_nonneg a (show c ≠ 0 by omega)
  have h2 := Int.emod_lt_of_pos a h
  omega
theorem qsum_pos {a c : Int} (h : 0 < c) : qsum a c = (a / c).natAbs + qsum c (a % c) := by
  rw [qsum, dif_pos h]
theorem qsum_zero {a c : Int} (h : ¬ 0 < c) : qsum a c = 0 := by
  rw [qsum, dif_neg h]
theorem qsum_shift {a c k : Int} (h : 0 < c) : qsum (a + k * c) c = (a / c + k).natAbs + qsum c (a % c) := by
  rw [qsum_pos h, Int.add_mul_ediv_right _ _ (show c ≠ 0 by omega), Int.add_mul_emod_self_right]
theorem qsum_shift_le {a c k : Int} (h : 0 < c) : qsum (a + k * c) c ≤ qsum a c + k.natAbs := by
  rw [qsum_shift h, qsum_pos h]
  omega
theorem qsum_swap_lt {a c : Int} (ha : 0 < a) (h : a < c) : qsum a c = qsum c a := by
  rw [qsum_pos (show 0 < c by omega), Int.ediv_eq_zero_of_lt (by omega) h, Int.emod_eq_of_lt (by omega) h]
  simp
theorem qsum_swap {a c : Int} (ha : 0 < a) (hc : 0 < c) : qsum a c = qsum c a := by
  rcases Int.lt_trichotomy a c with h | h | h
  · exact qsum_swap_lt ha h
  · rw [h]
  · exact (qsum_swap_lt hc h).symm
theorem qsum_co_lt {a r : Int} (hr : 0 < r) (h : 2 * r < a) : qsum a (a - r) = qsum a r := by
  have e1 : qsum a (a - r) = 1 + qsum (a - r) r := by
    have := qsum_shift (a := r) (c := a - r) (k := 1) (by omega)
    rw [show r + 1 * (a - r) = a by omega, Int.ediv_eq_zero_of_lt (by omega) (by omega), Int.emod_eq_of_lt (by omega) (by omega)] at this
    simpa using this
  have e2 : qsum a r = 1 + qsum (a - r) r := by
    have := qsum_shift (a := a - r) (c := r) (k := 1) hr
    rw [show a - r + 1 * r = a by omega] at this
    rw [this, qsum_pos (a := a - r) hr]
    have : 0 ≤ (a - r) / r := Int.ediv_nonneg (by omega) (by omega)
    omega
  rw [e1, e2]
theorem qsum_co {a r : Int} (hr : 0 < r) (h : r < a) : qsum a (a - r) = qsum a r := by
  rcases Int.lt_trichotomy (2 * r) a with z | z | z
  · exact qsum_co_lt hr z
  · rw [show a - r = r by omega]
  · have := qsum_co_lt (a := a) (r := a - r) (by omega) (by omega)
    rw [show a - (a - r) = r by omega] at this
    exact this.symm
theorem qsum_neg {a c : Int} (hc : 0 < c) : qsum (-a) c ≤ qsum a c + 1 := by
  have h1 := Int.emod_nonneg a (show c ≠ 0 by omega)
  have h2 := Int.emod_lt_of_pos a hc
  have h3 := Int.emod_add_mul_ediv a c
  by_cases hr : a % c = 0
  · have e : -a = 0 + (-(a / c)) * c := by rw [hr] at h3; grind
    rw [e, qsum_shift hc, qsum_pos (a := a) hc, hr]
    simp
  · have e : -a = (c - a % c) + (-(a / c) - 1) * c := by grind
    rw [e, qsum_shift hc, Int.ediv_eq_zero_of_lt (by omega) (by omega), Int.emod_eq_of_lt (a := c - a % c) (by omega) (by omega), qsum_co (by omega) h2, qsum_pos (a := a) hc]
    omega
/-- of a column, up to its sign -/
def csum (a c : Int) : Nat := if c < 0 then qsum (-a) (-c) else qsum a c
theorem csum_neg (a c : Int) : csum (-a) (-c) = csum a c := by
  unfold csum
  by_cases h : c < 0
  · rw [if_neg (by omega), if_pos h]
  · by_cases h2 : c = 0
    · subst h2
      simp [qsum_zero (show ¬ (0 : Int) < 0 by omega)]
    · rw [if_pos (by omega), if_neg h, Int.neg_neg, Int.neg_neg]
theorem csum_T {a c : Int} (k : Int) : csum (a + k * c) c ≤ csum a c + k.natAbs := by
  unfold csum
  by_cases h : c < 0
  · rw [if_pos h, if_pos h, show -(a + k * c) = -a + k * (-c) by grind]
    exact qsum_shift_le (by omega)
  · rw [if_neg h, if_neg h]
    by_cases h2 : c = 0
    · subst h2
      simp [qsum_zero (show ¬ (0 : Int) < 0 by omega)]
    · exact qsum_shift_le (by omega)
theorem csum_S (a c : Int) : csum (-c) a ≤ csum a c + 1 := by
  have base : ∀ a c : Int, 0 ≤ c → csum (-c) a ≤ qsum a c + 1 := fun a c hc => by
    unfold csum
    by_cases h0 : c = 0
    · subst h0
      split
      · rename_i h
        rw [qsum_pos (by omega)]
        simp [qsum_zero (show ¬ (0 : Int) < 0 by omega)]
      · by_cases h1 : 0 < a
        · rw [qsum_pos h1]
          simp [qsum_zero (show ¬ (0 : Int) < 0 by omega)]
        · rw [qsum_zero h1]
          omega
    · split
      · rename_i h
        rw [Int.neg_neg, qsum_swap (by omega) (by omega)]
        exact qsum_neg (by omega)
      · by_cases h1 : 0 < a
        · have h2 := qsum_neg (a := c) h1
          rw [qsum_swap (a := c) (by omega) h1] at h2
          exact h2
        · rw [qsum_zero h1]
          omega
  by_cases h : c < 0
  · have h2 := base (-a) (-c) (by omega)
    rw [csum_neg] at h2
    unfold csum at h2 ⊢
    rw [if_pos h]
    exact h2
  · have h2 := base a c (by omega)
    have e : csum a c = qsum a c := by unfold csum; rw [if_neg h]
    rw [e]
    exact h2
theorem csum_letter (l : Ltr) (m : Mt) : csum (l.mt.mul m).a (l.mt.mul m).c ≤ csum m.a m.c + 2 := by
  cases l
  · have := csum_S m.a m.c
    simpa [Ltr.mt, Mt.mul] using Nat.le_succ_of_le this
  · have h1 := csum_T (a := m.a) (c := m.c) 1
    have h2 := csum_S (m.a + 1 * m.c) m.c
    have e : csum (Ltr.R.mt.mul m).a (Ltr.R.mt.mul m).c = csum (-m.c) (m.a + 1 * m.c) := by simp [Ltr.mt, Mt.mul]
    rw [e]
    simp at h1 h2 ⊢
    omega
  · have h1 := csum_S m.a m.c
    have h2 := csum_T (a := -m.c) (c := m.a) (-1)
    have e : csum (Ltr.r.mt.mul m).a (Ltr.r.mt.mul m).c = csum (-m.c + -1 * m.a) m.a := by
      simp [Ltr.mt, Mt.mul]
      congr 1
      omega
    rw [e]
    simp at h1 h2 ⊢
    omega
theorem csum_raw : ∀ w : List Ltr, csum (rawM w).a (rawM w).c ≤ 2 * w.length
  | [] => by
    show csum 1 0 ≤ 0
    unfold csum
    rw [if_neg (by omega), qsum_zero (by omega)]
    omega
  | l :: w => by
    have e : rawM (l :: w) = l.mt.mul (rawM w) := by
      have := rawM_app [l] w
      have e1 : rawM [l] = l.mt := by unfold rawM; simp [Mt.one_mul]
      rw [e1] at this
      exact this
    rw [e, List.length_cons]
    have h1 := csum_letter l (rawM w)
    have h2 := csum_raw w
    omega
theorem csum_wmt (w : List Ltr) : csum (wmt w).a (wmt w).c ≤ 2 * w.length := by
  rw [← rawM_nf]
  rcases Mt.nf_pm (rawM w) with q | q <;> rw [q]
  · exact csum_raw w
  · show csum (-(rawM w).a) (-(rawM w).c) ≤ _
    rw [csum_neg]
    exact csum_raw w
end Q
namespace Q
open PySem PySem.Spec PyProof.Rows L2
/-! the quotients, and the powers of T and F that they tell -/
def quots (a c : Int) : List Int := if h : 0 < c then (a / c) :: quots c (a % c) else []
termination_by c.toNat
decreasing_by
  have h1 := Int.emod_nonneg a (show c ≠ 0 by omega)
  have h2 := Int.emod_lt_of_pos a h
  omega
theorem quots_pos {a c : Int} (h : 0 < c) : quots a c = (a / c) :: quots c (a % c) := by
  rw [quots, dif_pos h]
theorem quots_zero {a c : Int} (h : ¬ 0 < c) : quots a c = [] := by
  rw [quots, dif_neg h]
def tgm : Bool → Int → Mt
  | true, q => ⟨1, q, 0, 1⟩
  | false, q => ⟨1, 0, q, 1⟩
def tprod : Bool → List Int → Mt
  | _, [] => Mt.one
  | b, q :: qs => (tgm b q).mul (tprod (!b) qs)
/-- the last is a T -/
def lastT : Bool → List Int → Bool
  | b, [] => !b
  | b, _ :: qs => lastT (!b) qs
def tailM : Bool → Int → Mt
  | true, k => ⟨0, -1, 1, k⟩
  | false, k => ⟨1, k, 0, 1⟩
def rowsOk : Bool → Mt → Prop
  | true, Z => 0 ≤ Z.a ∧ Z.a < Z.b ∧ 0 ≤ Z.c ∧ Z.c < Z.d
  | false, Z => 0 ≤ Z.b ∧ Z.b < Z.a ∧ 0 ≤ Z.d ∧ Z.d < Z.c
theorem rows_T {L : Bool} {Z : Mt} {q : Int} (hq : 0 ≤ q) (h : rowsOk L Z) : rowsOk L ((tgm true q).mul Z) := by
  cases L <;> simp [rowsOk, tgm, Mt.mul] at h ⊢
  · obtain ⟨h1, h2, h3, h4⟩ := h
    have e1 := Int.mul_nonneg hq h3
    have e2 := Int.mul_le_mul_of_nonneg_left (Int.le_of_lt h4) hq
    omega
  · obtain ⟨h1, h2, h3, h4⟩ := h
    have e1 := Int.mul_nonneg hq h3
    have e2 := Int.mul_le_mul_of_nonneg_left (Int.le_of_lt h4) hq
    omega
theorem rows_F {L : Bool} {Z : Mt} {q : Int} (hq : 0 ≤ q) (h : rowsOk L Z) : rowsOk L ((tgm false q).mul Z) := by
  cases L <;> simp [rowsOk, tgm, Mt.mul] at h ⊢
  · obtain ⟨h1, h2, h3, h4⟩ := h
    have e1 := Int.mul_nonneg hq h1
    have e2 := Int.mul_le_mul_of_nonneg_left (Int.le_of_lt h2) hq
    omega
  · obtain ⟨h1, h2, h3, h4⟩ := h
    have e1 := Int.mul_nonneg hq h1
    have e2 := Int.mul_le_mul_of_nonneg_left (Int.le_of_lt h2) hq
    omega
theorem one_of_mul {a b : Int} (ha : 0 < a) (h : a * b = 1) : a = 1 ∧ b = 1 := by
  have h1 : a.natAbs * b.natAbs = 1 := by rw [← Int.natAbs_mul, h]; rfl
  have h2 : a.natAbs = 1 := Nat.eq_one_of_mul_eq_one_right h1
  have h3 : a = 1 := by omega
  subst h3
  exact ⟨rfl, by omega⟩
theorem euclid : ∀ (n : Nat) (b : Bool) (X : Mt), X.det = 1 → (b = true → 0 < X.c ∧ X.c < X.a ∧ X.c ≤ n) → (b = false → 0 < X.a ∧ X.a < X.c ∧ X.a ≤ n) →
    ∃ k, X = (tprod b (if b then quots X.a X.c else quots X.c X.a)).mul (tailM (lastT b (if b then quots X.a X.c else quots X.c X.a)) k) ∧ rowsOk (lastT b (if b then quots X.a X.c else quots X.c X.a)) (tprod b (if b then quots X.a X.c else quots X.c X.a))
  | 0, true, X, hd, h1, _ => by have := h1 rfl; omega
  | 0, false, X, hd, _, h2 => by have := h2 rfl; omega
  | n + 1, true, ⟨a, b, c, d⟩, hd, h1, _ => by
    obtain ⟨hc, hca, hcn⟩ := h1 rfl
    simp only at hc hca hcn
    have e := Int.emod_add_mul_ediv a c
    have m0 := Int.emod_nonneg a (show c ≠ 0 by omega)
    have m1 := Int.emod_lt_of_pos a hc
    have q0 : 0 ≤ a / c := Int.ediv_nonneg (by omega) (by omega)
    simp only [Mt.det] at hd
    simp only [if_true]
    rw [quots_pos hc]
    generalize hq : a / c = q at *
    generalize hr : a % c = r at *
    have hX : Mt.mk a b c d = (tgm true q).mul ⟨r, b - q * d, c, d⟩ := by
      simp only [tgm, Mt.mul, Mt.mk.injEq]
      refine ⟨by grind, by grind, by grind, by grind⟩
    by_cases hz : r = 0
    · subst hz
      have hb : c * (q * d - b) = 1 := by grind
      obtain ⟨c1, b1⟩ := one_of_mul hc hb
      subst c1
      rw [quots_zero (by omega)]
      refine ⟨d, ?_, ?_⟩
      · rw [hX]
        simp only [tprod, lastT, tailM, Mt.mul_one, Bool.not_true, Bool.not_false]
        rw [show b - q * d = -1 by omega]
      · simp only [tprod, lastT, Mt.mul_one, Bool.not_true, Bool.not_false, rowsOk, tgm]
        omega
    · have hdX : (Mt.mk r (b - q * d) c d).det = 1 := by simp only [Mt.det]; grind
      obtain ⟨k, ih1, ih2⟩ := euclid n false ⟨r, b - q * d, c, d⟩ hdX (fun z => nomatch z) (fun _ => ⟨by show 0 < r; omega, by show r < c; omega, by show r ≤ (n : Int); omega⟩)
      simp only [Bool.false_eq_true, if_false] at ih1 ih2
      refine ⟨k, ?_, ?_⟩
      · show _ = ((tgm true q).mul (tprod false (quots c r))).mul (tailM (lastT false (quots c r)) k)
        rw [Mt.mul_assoc, ← ih1]
        exact hX
      · exact rows_T q0 ih2
  | n + 1, false, ⟨a, b, c, d⟩, hd, _, h2 => by
    obtain ⟨hc, hca, hcn⟩ := h2 rfl
    simp only at hc hca hcn
    have e := Int.emod_add_mul_ediv c a
    have m0 := Int.emod_nonneg c (show a ≠ 0 by omega)
    have m1 := Int.emod_lt_of_pos c hc
    have q0 : 0 ≤ c / a := Int.ediv_nonneg (by omega) (by omega)
    simp only [Mt.det] at hd
    simp only [Bool.false_eq_true, if_false]
    rw [quots_pos hc]
    generalize hq : c / a = q at *
    generalize hr : c % a = r at *
    have hX : Mt.mk a b c d = (tgm false q).mul ⟨a, b, r, d - q * b⟩ := by
      simp only [tgm, Mt.mul, Mt.mk.injEq]
      refine ⟨by grind, by grind, by grind, by grind⟩
    by_cases hz : r = 0
    · subst hz
      have hb : a * (d - q * b) = 1 := by grind
      obtain ⟨c1, b1⟩ := one_of_mul hc hb
      subst c1
      rw [quots_zero (by omega)]
      refine ⟨b, ?_, ?_⟩
      · rw [hX]
        simp only [tprod, lastT, tailM, Mt.mul_one, Bool.not_true, Bool.not_false]
        rw [b1]
      · simp only [tprod, lastT, Mt.mul_one, Bool.not_true, Bool.not_false, rowsOk, tgm]
        omega
    · have hdX : (Mt.mk a b r (d - q * b)).det = 1 := by simp only [Mt.det]; grind
      obtain ⟨k, ih1, ih2⟩ := euclid n true ⟨a, b, r, d - q * b⟩ hdX (fun _ => ⟨by show 0 < r; omega, by show r < a; omega, by show r ≤ (n : Int); omega⟩) (fun z => nomatch z)
      simp only [if_true] at ih1 ih2
      refine ⟨k, ?_, ?_⟩
      · show _ = ((tgm false q).mul (tprod true (quots a r))).mul (tailM (lastT true (quots a r)) k)
        rw [Mt.mul_assoc, ← ih1]
        exact hX
      · exact rows_F q0 ih2
/-- the last exponent, as the program tells it -/
def lastX (m : Mt) : Int := if lastT true (quots m.a m.c) then -((-m.d) / m.c) else m.d / m.c
theorem expand {m : Mt} (hd : m.det = 1) (hc : 0 < m.c) : m = (tprod true (quots m.a m.c)).mul (tailM (lastT true (quots m.a m.c)) (lastX m)) := by
  have main : ∃ k, m = (tprod true (quots m.a m.c)).mul (tailM (lastT true (quots m.a m.c)) k) ∧ (if lastT true (quots m.a m.c) then 0 ≤ (tprod true (quots m.a m.c)).c ∧ (tprod true (quots m.a m.c)).c < (tprod true (quots m.a m.c)).d else 0 ≤ (tprod true (quots m.a m.c)).d ∧ (tprod true (quots m.a m.c)).d < (tprod true (quots m.a m.c)).c) := by
    obtain ⟨a, b, c, d⟩ := m
    simp only at hc ⊢
    have e := Int.emod_add_mul_ediv a c
    have m0 := Int.emod_nonneg a (show c ≠ 0 by omega)
    have m1 := Int.emod_lt_of_pos a hc
    simp only [Mt.det] at hd
    rw [quots_pos hc]
    generalize hq : a / c = q at *
    generalize hr : a % c = r at *
    have hX : Mt.mk a b c d = (tgm true q).mul ⟨r, b - q * d, c, d⟩ := by
      simp only [tgm, Mt.mul, Mt.mk.injEq]
      refine ⟨by grind, by grind, by grind, by grind⟩
    by_cases hz : r = 0
    · subst hz
      have hb : c * (q * d - b) = 1 := by grind
      obtain ⟨c1, b1⟩ := one_of_mul hc hb
      subst c1
      rw [quots_zero (by omega)]
      refine ⟨d, ?_, ?_⟩
      · rw [hX]
        simp only [tprod, lastT, tailM, Mt.mul_one, Bool.not_true, Bool.not_false]
        rw [show b - q * d = -1 by omega]
      · simp only [tprod, lastT, Mt.mul_one, Bool.not_true, Bool.not_false, tgm, if_true]
        omega
    · have hdX : (Mt.mk r (b - q * d) c d).det = 1 := by simp only [Mt.det]; grind
      obtain ⟨k, ih1, ih2⟩ := euclid r.toNat false ⟨r, b - q * d, c, d⟩ hdX (fun z => nomatch z) (fun _ => ⟨by show 0 < r; omega, by show r < c; omega, by show r ≤ (r.toNat : Int); omega⟩)
      simp only [Bool.false_eq_true, if_false] at ih1 ih2
      refine ⟨k, ?_, ?_⟩
      · show _ = ((tgm true q).mul (tprod false (quots c r))).mul (tailM (lastT false (quots c r)) k)
        rw [Mt.mul_assoc, ← ih1]
        exact hX
      · show (if lastT false (quots c r) = true then _ else _)
        show (if lastT false (quots c r) = true then 0 ≤ ((tgm true q).mul (tprod false (quots c r))).c ∧ ((tgm true q).mul (tprod false (quots c r))).c < ((tgm true q).mul (tprod false (quots c r))).d else 0 ≤ ((tgm true q).mul (tprod false (quots c r))).d ∧ ((tgm true q).mul (tprod false (quots c r))).d < ((tgm true q).mul (tprod false (quots c r))).c)
        revert ih2
        generalize tprod false (quots c r) = Z
        generalize lastT false (quots c r) = L
        intro ih2
        cases L <;> simp [rowsOk, tgm, Mt.mul] at ih2 ⊢ <;> omega
  obtain ⟨k, h1, h2⟩ := main
  have hk : lastX m = k := by
    unfold lastX
    revert h1 h2
    generalize tprod true (quots m.a m.c) = Z
    generalize lastT true (quots m.a m.c) = L
    intro h1 h2
    cases L
    · simp only [Bool.false_eq_true, if_false, tailM] at h1 h2 ⊢
      have ec : m.c = Z.c := by rw [h1]; simp [Mt.mul]
      have ed : m.d = Z.d + k * Z.c := by rw [h1]; simp only [Mt.mul]; grind
      rw [ec, ed, Int.add_mul_ediv_right _ _ (show Z.c ≠ 0 by omega), Int.ediv_eq_zero_of_lt h2.1 h2.2]
      omega
    · simp only [if_true, tailM] at h1 h2 ⊢
      have ec : m.c = Z.d := by rw [h1]; simp [Mt.mul]
      have ed : -m.d = Z.c + (-k) * Z.d := by rw [h1]; simp only [Mt.mul]; grind
      rw [ec, ed, Int.add_mul_ediv_right _ _ (show Z.d ≠ 0 by omega), Int.ediv_eq_zero_of_lt h2.1 h2.2]
      omega
  rw [hk]
  exact h1
end Q
namespace Q
open PySem PySem.Spec PyProof.Rows L2
inductive Pw where
  | T | F | S
  deriving DecidableEq
def Pw.code : Pw → Nat
  | .T => 84 | .F => 70 | .S => 83
def Pw.pv (p : Pw) : PV := .str ⟨#[p.code]⟩
def pwv (p : Pw × Int) : PV := .tup [p.1.pv, .int p.2]
def pm : Pw × Int → Mt
  | (.T, n) => ⟨1, n, 0, 1⟩
  | (.F, n) => ⟨1, 0, n, 1⟩
  | (.S, _) => mS
def rep (n : Nat) (u : List Ltr) : List Ltr := (List.replicate n u).flatten
def lop : Pw × Int → List Ltr
  | (.T, n) => if n < 0 then rep (-n).toNat [.r, .S] else rep n.toNat [.S, .R]
  | (.F, n) => rep n.toNat [.S, .r]
  | (.S, _) => [.S]
theorem rep_succ (n : Nat) (u : List Ltr) : rep (n + 1) u = u ++ rep n u := by
  unfold rep
  rw [List.replicate_succ, List.flatten_cons]
theorem nfT (n : Int) : (Mt.mk 1 n 0 1).nf = ⟨1, n, 0, 1⟩ := by
  unfold Mt.nf
  rw [if_neg (by simp only; omega)]
theorem nfF {n : Int} (h : 0 ≤ n) : (Mt.mk 1 0 n 1).nf = ⟨1, 0, n, 1⟩ := by
  unfold Mt.nf
  rw [if_neg (by simp only; omega)]
theorem wmt_SR : ∀ n : Nat, wmt (rep n [.S, .R]) = ⟨1, n, 0, 1⟩
  | 0 => rfl
  | n + 1 => by
    rw [rep_succ, wmt_app, wmt_SR n, show wmt [.S, .R] = ⟨1, 1, 0, 1⟩ by decide, show (Mt.mk 1 1 0 1).mul ⟨1, n, 0, 1⟩ = ⟨1, ((n + 1 : Nat) : Int), 0, 1⟩ by simp [Mt.mul], nfT]
theorem wmt_Sr : ∀ n : Nat, wmt (rep n [.S, .r]) = ⟨1, 0, n, 1⟩
  | 0 => rfl
  | n + 1 => by
    rw [rep_succ, wmt_app, wmt_Sr n, show wmt [.S, .r] = ⟨1, 0, 1, 1⟩ by decide, show (Mt.mk 1 0 1 1).mul ⟨1, 0, n, 1⟩ = ⟨1, 0, ((n + 1 : Nat) : Int), 1⟩ by simp [Mt.mul]; omega, nfF (by omega)]
theorem wmt_rS : ∀ n : Nat, wmt (rep n [.r, .S]) = ⟨1, -n, 0, 1⟩
  | 0 => rfl
  | n + 1 => by
    rw [rep_succ, wmt_app, wmt_rS n, show wmt [.r, .S] = ⟨1, -1, 0, 1⟩ by decide, show (Mt.mk 1 (-1) 0 1).mul ⟨1, -(n : Int), 0, 1⟩ = ⟨1, -((n + 1 : Nat) : Int), 0, 1⟩ by simp [Mt.mul]; omega, nfT]
def pwOk : Pw × Int → Prop
  | (.F, n) => 0 ≤ n
  | _ => True
theorem pm_det (p : Pw × Int) : (pm p).det = 1 := by
  obtain ⟨p, n⟩ := p
  cases p <;> simp [pm, Mt.det, mS]
theorem wmt_lop {p : Pw × Int} (h : pwOk p) : wmt (lop p) = (pm p).nf := by
  obtain ⟨p, n⟩ := p
  cases p
  · show wmt (if n < 0 then rep (-n).toNat [.r, .S] else rep n.toNat [.S, .R]) = (Mt.mk 1 n 0 1).nf
    rw [nfT]
    split
    · rw [wmt_rS, show -(((-n).toNat : Nat) : Int) = n by omega]
    · rw [wmt_SR, show ((n.toNat : Nat) : Int) = n by omega]
  · have h : 0 ≤ n := h
    show wmt (rep n.toNat [.S, .r]) = (Mt.mk 1 0 n 1).nf
    rw [nfF h, wmt_Sr, show ((n.toNat : Nat) : Int) = n by omega]
  · show wmt [.S] = mS.nf
    decide
def prodP (l : List (Pw × Int)) : Mt := l.foldr (fun p m => (pm p).mul m) Mt.one
theorem prodP_cons (p : Pw × Int) (l : List (Pw × Int)) : prodP (p :: l) = (pm p).mul (prodP l) := rfl
theorem prodP_det : ∀ l, (prodP l).det = 1
  | [] => rfl
  | p :: l => Mt.det1_mul (pm_det p) (prodP_det l)
theorem prodP_app : ∀ u v, prodP (u ++ v) = (prodP u).mul (prodP v)
  | [], v => (Mt.one_mul _).symm
  | p :: u, v => by rw [List.cons_append, prodP_cons, prodP_app u v, prodP_cons, Mt.mul_assoc]
theorem wmt_lops : ∀ l : List (Pw × Int), (∀ p ∈ l, pwOk p) → wmt (l.flatMap lop) = (prodP l).nf
  | [], _ => rfl
  | p :: l, h => by
    rw [List.flatMap_cons, wmt_app, wmt_lop (h p List.mem_cons_self), wmt_lops l fun q hq => h q (List.mem_cons_of_mem _ hq), prodP_cons, Mt.nf_mul_l (pm_det p) (by rw [Mt.det_nf]; exact prodP_det l), Mt.nf_mul_r (pm_det p) (prodP_det l)]
def keep (p : Pw × Int) : Bool := p.2 != 0
theorem prodP_keep : ∀ l : List (Pw × Int), (∀ p ∈ l, p.1 = .S → p.2 ≠ 0) → prodP (l.filter keep) = prodP l
  | [], _ => rfl
  | p :: l, h => by
    have ih := prodP_keep l fun q hq => h q (List.mem_cons_of_mem _ hq)
    by_cases hk : keep p = true
    · rw [List.filter_cons_of_pos hk, prodP_cons, prodP_cons, ih]
    · rw [List.filter_cons_of_neg hk, prodP_cons, ih]
      have hp := h p List.mem_cons_self
      obtain ⟨x, n⟩ := p
      have hn : n = 0 := by simpa [keep] using hk
      subst hn
      have : pm (x, 0) = Mt.one := by
        cases x
        · rfl
        · rfl
        · exact absurd rfl (hp rfl)
      rw [this, Mt.one_mul]
def tagged : Bool → List Int → List (Pw × Int)
  | _, [] => []
  | b, q :: qs => ((if b then .T else .F), q) :: tagged (!b) qs
theorem prodP_tagged : ∀ (b : Bool) (qs : List Int), prodP (tagged b qs) = tprod b qs
  | _, [] => rfl
  | b, q :: qs => by
    show prodP (_ :: tagged (!b) qs) = (tgm b q).mul (tprod (!b) qs)
    rw [prodP_cons, prodP_tagged (!b) qs]
    cases b <;> rfl
theorem lastT_len : ∀ (b : Bool) (qs : List Int), lastT b qs = (b == decide (qs.length % 2 = 1))
  | b, [] => by cases b <;> rfl
  | b, q :: qs => by
    show lastT (!b) qs = _
    rw [lastT_len (!b) qs, List.length_cons]
    rcases (show qs.length % 2 = 0 ∨ qs.length % 2 = 1 by omega) with z | z
    · have : (qs.length + 1) % 2 = 1 := by omega
      rw [z, this]; cases b <;> rfl
    · have : (qs.length + 1) % 2 = 0 := by omega
      rw [z, this]; cases b <;> rfl
def tailP (m : Mt) : List (Pw × Int) := if (quots m.a m.c).length % 2 = 0 then [(.T, m.d / m.c)] else [(.S, 1), (.T, -((-m.d) / m.c))]
def fullP (m : Mt) : List (Pw × Int) := if m.c = 0 then [(.T, m.b)] else tagged true (quots m.a m.c) ++ tailP m
def expn (m : Mt) : List (Pw × Int) := (fullP m).filter keep
theorem prodP_full {m : Mt} (h : m.ok) : prodP (fullP m) = m := by
  unfold fullP
  split
  · rename_i hc
    have ha : m.a = 1 := by have := h.2; omega
    have hd := h.1
    simp only [Mt.det, ha, hc] at hd
    show (pm (.T, m.b)).mul Mt.one = m
    rw [Mt.mul_one]
    exact Mt.ext' ha.symm rfl hc.symm (by show 1 = m.d; omega)
  · rename_i hc
    have hc' : 0 < m.c := by have := h.2; omega
    rw [prodP_app, prodP_tagged]
    have e := expand h.1 hc'
    have e2 : prodP (tailP m) = tailM (lastT true (quots m.a m.c)) (lastX m) := by
      unfold tailP lastX
      rw [lastT_len]
      rcases (show (quots m.a m.c).length % 2 = 0 ∨ (quots m.a m.c).length % 2 = 1 by omega) with z | z
      · rw [z]
        simp [prodP, pm, tailM, Mt.mul_one]
      · rw [z]
        simp [prodP, pm, tailM, Mt.mul_one, mS, Mt.mul, Mt.one]
    rw [e2]
    exact e.symm
theorem quots_nonneg : ∀ (n : Nat) (a c : Int), c.toNat ≤ n → 0 ≤ a → ∀ q ∈ quots a c, 0 ≤ q
  | 0, a, c, hn, ha, q, hq => by
    rw [quots_zero (by omega)] at hq
    cases hq
  | n + 1, a, c, hn, ha, q, hq => by
    by_cases hc : 0 < c
    · rw [quots_pos hc] at hq
      have m1 := Int.emod_lt_of_pos a hc
      rcases List.mem_cons.mp hq with rfl | hq
      · exact Int.ediv_nonneg ha (by omega)
      · exact quots_nonneg n c (a % c) (by omega) (by omega) q hq
    · rw [quots_zero hc] at hq
      cases hq
theorem tagged_ok : ∀ (b : Bool) (qs : List Int), (∀ q ∈ qs, 0 ≤ q) → ∀ p ∈ tagged b qs, pwOk p
  | _, [], _, p, hp => by cases hp
  | b, q :: qs, h, p, hp => by
    rcases List.mem_cons.mp hp with rfl | hp
    · cases b
      · exact h q List.mem_cons_self
      · trivial
    · exact tagged_ok (!b) qs (fun q hq => h q (List.mem_cons_of_mem _ hq)) p hp
theorem tagged_noS : ∀ (b : Bool) (qs : List Int), ∀ p ∈ tagged b qs, p.1 ≠ .S
  | _, [], p, hp => by cases hp
  | b, q :: qs, p, hp => by
    rcases List.mem_cons.mp hp with rfl | hp
    · cases b <;> simp
    · exact tagged_noS (!b) qs p hp
theorem full_ok (m : Mt) : ∀ p ∈ fullP m, pwOk p ∧ (p.1 = .S → p.2 ≠ 0) := by
  intro p hp
  unfold fullP at hp
  split at hp
  · have : p = (.T, m.b) := by simpa using hp
    subst this
    exact ⟨trivial, fun z => nomatch z⟩
  · rcases List.mem_append.mp hp with hp | hp
    · refine ⟨?_, fun z => absurd z (tagged_noS _ _ p hp)⟩
      by_cases hc : 0 < m.c
      · rw [quots_pos hc] at hp
        rcases List.mem_cons.mp hp with rfl | hp
        · trivial
        · have m0 := Int.emod_nonneg m.a (show m.c ≠ 0 by omega)
          exact tagged_ok _ _ (quots_nonneg _ m.c (m.a % m.c) (Nat.le_refl _) (by omega)) p hp
      · rw [quots_zero hc] at hp
        cases hp
    · unfold tailP at hp
      split at hp
      · have : p = (.T, m.d / m.c) := by simpa using hp
        subst this
        exact ⟨trivial, fun z => nomatch z⟩
      · rcases List.mem_cons.mp hp with rfl | hp
        · exact ⟨trivial, fun _ => by decide⟩
        · have : p = (.T, -((-m.d) / m.c)) := by simpa using hp
          subst this
          exact ⟨trivial, fun z => nomatch z⟩
theorem expn_ok (m : Mt) : ∀ p ∈ expn m, pwOk p := fun p hp => (full_ok m p (List.mem_filter.mp hp).1).1
/-- the letters of the powers give the matrix back -/
theorem wmt_expn {m : Mt} (h : m.ok) : wmt ((expn m).flatMap lop) = m := by
  rw [wmt_lops _ (expn_ok m)]
  unfold expn
  rw [prodP_keep _ (fun p hp => (full_ok m p hp).2), prodP_full h, Mt.nf_ok h]
/-! how great the exponents are -/
def esum (l : List (Pw × Int)) : Nat := (l.map fun p => p.2.natAbs).sum
theorem esum_app (u v : List (Pw × Int)) : esum (u ++ v) = esum u + esum v := by simp [esum]
theorem esum_keep : ∀ l : List (Pw × Int), esum (l.filter keep) = esum l
  | [] => rfl
  | p :: l => by
    have ih := esum_keep l
    by_cases hk : keep p = true
    · rw [List.filter_cons_of_pos hk]
      simp only [esum, List.map_cons, List.sum_cons] at ih ⊢
      omega
    · rw [List.filter_cons_of_neg hk, ih]
      have hn : p.2 = 0 := by simpa [keep] using hk
      simp [esum, hn]
theorem esum_tagged : ∀ (b : Bool) (qs : List Int), esum (tagged b qs) = (qs.map Int.natAbs).sum
  | _, [] => rfl
  | b, q :: qs => by
    have := esum_tagged (!b) qs
    simp only [esum, tagged, List.map_cons, List.sum_cons] at this ⊢
    rw [this]
theorem quots_sum : ∀ (n : Nat) (a c : Int), c.toNat ≤ n → ((quots a c).map Int.natAbs).sum = qsum a c
  | 0, a, c, hn => by rw [quots_zero (by omega), qsum_zero (by omega)]; rfl
  | n + 1, a, c, hn => by
    by_cases hc : 0 < c
    · have m1 := Int.emod_lt_of_pos a hc
      rw [quots_pos hc, qsum_pos hc, List.map_cons, List.sum_cons, quots_sum n c (a % c) (by omega)]
    · rw [quots_zero hc, qsum_zero hc]; rfl
theorem quots_len : ∀ (n : Nat) (a c : Int), c.toNat ≤ n → c ≤ a → (quots a c).length ≤ qsum a c
  | 0, a, c, hn, _ => by rw [quots_zero (by omega), qsum_zero (by omega)]; simp
  | n + 1, a, c, hn, ha => by
    by_cases hc : 0 < c
    · have m1 := Int.emod_lt_of_pos a hc
      have ih := quots_len n c (a % c) (by omega) (by omega)
      have hq : 1 ≤ a / c := (Int.le_ediv_iff_mul_le hc).mpr (by omega)
      rw [quots_pos hc, qsum_pos hc, List.length_cons]
      omega
    · rw [quots_zero hc, qsum_zero hc]; simp
theorem quots_len1 {a c : Int} (hc : 0 < c) : (quots a c).length ≤ qsum a c + 1 := by
  have m1 := Int.emod_lt_of_pos a hc
  have := quots_len _ c (a % c) (Nat.le_refl _) (by omega)
  rw [quots_pos hc, qsum_pos hc, List.length_cons]
  omega
theorem div_neg_le {d c : Int} (hc : 0 < c) : (d / c).natAbs ≤ ((-d) / c).natAbs + 1 := by
  have h1 := Int.emod_add_mul_ediv d c
  have m0 := Int.emod_nonneg d (show c ≠ 0 by omega)
  have m1 := Int.emod_lt_of_pos d hc
  by_cases hz : d % c = 0
  · have e : -d = 0 + (-(d / c)) * c := by rw [hz] at h1; grind
    rw [e, Int.add_mul_ediv_right _ _ (show c ≠ 0 by omega)]
    simp
  · have e : -d = (c - d % c) + (-(d / c) - 1) * c := by grind
    rw [e, Int.add_mul_ediv_right _ _ (show c ≠ 0 by omega), Int.ediv_eq_zero_of_lt (a := c - d % c) (b := c) (by omega) (by omega)]
    omega
theorem turned_len (w : List Ltr) : (turned w).length = w.length := by simp [turned]
theorem expn_bound (w : List Ltr) : esum (expn (wmt w)) ≤ 4 * w.length + 4 ∧ (0 < (wmt w).c → (quots (wmt w).a (wmt w).c).length ≤ 2 * w.length + 1) := by
  have ok := wmt_ok w
  have c1 := csum_wmt w
  have c2 := csum_wmt (turned w)
  rw [turned_len, wmt_turned] at c2
  have c3 := csum_wmt (turned w ++ [.S])
  rw [List.length_append, turned_len, wmt_app, wmt_turned, wmt_S] at c3
  unfold expn
  rw [esum_keep]
  generalize wmt w = m at ok c1 c2 c3
  by_cases hc : m.c = 0
  · refine ⟨?_, fun h => by omega⟩
    have ha : m.a = 1 := by have := ok.2; omega
    have hd := ok.1
    simp only [Mt.det, ha, hc] at hd
    have hd : m.d = 1 := by omega
    have e : (m.adj.nf.mul mS).nf = ⟨-m.b, -1, 1, 0⟩ := by
      simp [Mt.adj, Mt.nf, hc, hd, ha, mS, Mt.mul]
    rw [e] at c3
    have e2 : csum (-m.b) 1 = m.b.natAbs := by
      unfold csum
      rw [if_neg (by omega), qsum_pos (by omega)]
      simp [qsum_zero (show ¬ (0 : Int) < 0 by omega)]
    simp only [e2] at c3
    unfold fullP
    rw [if_pos hc]
    simp [esum] at c3 ⊢
    omega
  · have hc' : 0 < m.c := by have := ok.2; omega
    have e1 : csum m.a m.c = qsum m.a m.c := by unfold csum; rw [if_neg (by omega)]
    have e2 : m.adj.nf = ⟨-m.d, m.b, m.c, -m.a⟩ := by
      unfold Mt.nf Mt.adj
      rw [if_pos (by simp only; omega)]
      simp [Mt.neg]
    rw [e2] at c2
    have e3 : csum (-m.d) m.c = qsum (-m.d) m.c := by unfold csum; rw [if_neg (by omega)]
    simp only [e3] at c2
    rw [qsum_pos hc'] at c2
    rw [e1] at c1
    refine ⟨?_, fun _ => ?_⟩
    · unfold fullP
      rw [if_neg hc, esum_app, esum_tagged, quots_sum _ _ _ (Nat.le_refl _)]
      have dn := div_neg_le (d := m.d) hc'
      unfold tailP
      split
      · simp [esum]
        omega
      · simp [esum]
        omega
    · have := quots_len1 (a := m.a) hc'
      omega
end Q
namespace Q
open PySem PySem.Spec PyProof.Rows L2
@[simp] theorem eT : Str.ofString "T" = ⟨#[84]⟩ := rfl
@[simp] theorem eF : Str.ofString "F" = ⟨#[70]⟩ := rfl
def sp_quotients : PSp := fun xs M k _ => ∃ a c : Int, xs = [.int a, .int c] ∧ 0 ≤ c ∧ c.natAbs < 2 ^ 8000 ∧ (quots a c).length ≤ 16000 ∧ ∀ b, M b = none → k (.ref b) (updM M b (.lst ((quots a c).map .int)))
def sp_expansion : PSp := fun xs M k _ => ∃ (m : Mt) (n : Nat), xs = [m.pv] ∧ m.ok ∧ m.bd n ∧ 0 < n ∧ n ≤ 8000 ∧ ∀ M', Ext M M' → k (.tup ((expn m).map pwv)) M'
def sp_u_letters_of_power : PSp := fun xs M k _ => ∃ (p : Pw) (n : Int), xs = [p.pv, .int n] ∧ pwOk (p, n) ∧ -2000 ≤ n ∧ n ≤ 2000 ∧ k (wpv (lop (p, n))) M
def sp_word_of : PSp := fun xs M k _ => ∃ w : List Ltr, xs = [(wmt w).pv] ∧ isW w = true ∧ w.length ≤ 200 ∧ ∀ M', Ext M M' → k (wpv w) M'
def sp_L_word_right : PSp := fun xs M k _ => ∃ (a : Addr) (n : Nat), xs = [.ref a] ∧ Src M a n ∧ n + 1000 < lim ∧ ∀ M', Src M' a (n + 300) → k (.bl true) M'
end Q
namespace Q
open PySem PySem.Spec PyProof.Rows L2
/-! ### cyclic words: conjugate ones are rounds of one another -/
theorem isW_split : ∀ {u v : List Ltr}, isW (u ++ v) = true → isW u = true ∧ isW v = true ∧ ∀ x y, u.getLast? = some x → v.head? = some y → Ltr.fits x y = true
  | [], v, h => ⟨rfl, h, fun x y h1 => by cases h1⟩
  | [a], [], h => ⟨rfl, rfl, fun x y _ h2 => by cases h2⟩
  | [a], b :: v, h => ⟨rfl, isW_tail h, fun x y h1 h2 => by cases h1; cases h2; exact isW_head h⟩
  | a :: b :: u, v, h => by
    obtain ⟨h1, h2, h3⟩ := isW_split (u := b :: u) (v := v) (isW_tail h)
    exact ⟨isW_cons h1 fun y e => by cases e; exact isW_head h, h2, fun x y e1 e2 => h3 x y (by rw [List.getLast?_cons_cons] at e1; exact e1) e2⟩
theorem isW_app : ∀ {u v : List Ltr}, isW u = true → isW v = true → (∀ x y, u.getLast? = some x → v.head? = some y → Ltr.fits x y = true) → isW (u ++ v) = true
  | [], v, _, h, _ => h
  | [a], v, _, h, hj => isW_cons h fun y e => hj a y rfl e
  | a :: b :: u, v, h1, h2, hj => isW_cons (isW_app (u := b :: u) (isW_tail h1) h2 fun x y e1 e2 => hj x y (by rw [List.getLast?_cons_cons]; exact e1) e2) fun y e => by cases e; exact isW_head h1
theorem fitsL_inv {x y : Ltr} : Ltr.fits x.inv y = Ltr.fits x y := by cases x <;> cases y <;> rfl
theorem fitsR_inv {x y : Ltr} : Ltr.fits x y.inv = Ltr.fits x y := by cases x <;> cases y <;> rfl
theorem fitsC {x y : Ltr} : Ltr.fits x y = Ltr.fits y x := by cases x <;> cases y <;> rfl
theorem turned_app (u v : List Ltr) : turned (u ++ v) = turned v ++ turned u := by simp [turned]
theorem turned_one (x : Ltr) : turned [x] = [x.inv] := rfl
def Cyc (u : List Ltr) : Prop := isW u = true ∧ (u.length < 2 ∨ ∃ m y, u = .S :: (m ++ [y]) ∧ y ≠ .S)
theorem nc_ends {a b : Ltr} {m : List Ltr} (h : Ltr.fits a b = false) : ¬ Cyc (a :: (m ++ [b])) := by
  rintro ⟨_, h1 | ⟨m', y, e, hy⟩⟩
  · simp at h1; omega
  · obtain ⟨rfl, e2⟩ := List.cons.inj e
    have := List.append_inj' e2 rfl
    have e3 : b = y := by simpa using this.2
    subst e3
    cases b <;> simp_all [Ltr.fits]
theorem nc_first {a b : Ltr} {t : List Ltr} (h : a ≠ .S) : ¬ Cyc (a :: b :: t) := by
  rintro ⟨_, h1 | ⟨m', y, e, hy⟩⟩
  · simp at h1; omega
  · exact h (List.cons.inj e).1
theorem nc_around {C : List Ltr} (X : List Ltr) (hC : C ≠ []) : ¬ Cyc (C ++ X ++ turned C) := by
  cases C with
  | nil => exact (hC rfl).elim
  | cons h t =>
    have e : (h :: t) ++ X ++ turned (h :: t) = h :: ((t ++ X ++ turned t) ++ [h.inv]) := by simp [turned]
    rw [e]
    exact nc_ends (by rw [fitsR_inv]; cases h <;> rfl)
theorem wmt_mid {b b' : List Ltr} (h : wmt b = wmt b') (a c : List Ltr) : wmt (a ++ b ++ c) = wmt (a ++ b' ++ c) := by
  rw [wmt_app, wmt_app (a ++ b'), wmt_app a b, wmt_app a b', h]
/-- a round by two letters -/
def r2 (u : List Ltr) : List Ltr := u.drop 2 ++ u.take 2
/-- one of the rounds -/
def memR (u v : List Ltr) : Prop := ∃ k, 2 * k < max 1 u.length ∧ v = u.drop (2 * k) ++ u.take (2 * k)
theorem memR_r2 {u : List Ltr} (he : u.length % 2 = 0) (h2 : 2 ≤ u.length) (v : List Ltr) : memR (r2 u) v ↔ memR u v := by
  have hl : (r2 u).length = u.length := by simp [r2]; omega
  have step : ∀ k, 2 * k + 2 ≤ u.length → (r2 u).drop (2 * k) ++ (r2 u).take (2 * k) = u.drop (2 * k + 2) ++ u.take (2 * k + 2) := fun k hk => by
    unfold r2
    have l1 : (u.drop 2).length = u.length - 2 := by simp
    rw [List.drop_append_of_le_length (by omega), List.take_append_of_le_length (by omega), List.drop_drop]
    rw [show 2 + 2 * k = 2 * k + 2 by omega]
    have : u.take (2 * k + 2) = u.take 2 ++ (u.drop 2).take (2 * k) := by
      rw [show 2 * k + 2 = 2 + 2 * k by omega, List.take_add]
    rw [this, List.append_assoc]
  constructor
  · rintro ⟨k, hk, rfl⟩
    rw [hl] at hk
    have hk2 : 2 * k + 2 ≤ u.length := by omega
    rw [step k hk2]
    by_cases hz : 2 * k + 2 = u.length
    · exact ⟨0, by omega, by rw [hz]; simp⟩
    · exact ⟨k + 1, by omega, by rw [show 2 * (k + 1) = 2 * k + 2 by omega]⟩
  · rintro ⟨k, hk, rfl⟩
    cases k with
    | zero =>
      have := step (u.length / 2 - 1) (by omega)
      refine ⟨u.length / 2 - 1, by rw [hl]; omega, ?_⟩
      rw [this, show 2 * (u.length / 2 - 1) + 2 = u.length by omega]
      simp
    | succ k =>
      refine ⟨k, by rw [hl]; omega, ?_⟩
      rw [step k (by omega), show 2 * (k + 1) = 2 * k + 2 by omega]
theorem word_par : ∀ {m : List Ltr} {a b : Ltr}, isW (a :: (m ++ [b])) = true → (Ltr.fits a b = true ↔ m.length % 2 = 0)
  | [], a, b, h => by have := isW_head (w := []) h; simp [this]
  | x :: m, a, b, h => by
    have h1 := isW_head h
    have ih := word_par (isW_tail h)
    rw [List.length_cons]
    have : Ltr.fits a b = !Ltr.fits x b := by
      clear ih h
      revert h1
      cases a <;> cases x <;> cases b <;> decide
    rw [this]
    cases q : Ltr.fits x b <;> simp [q] at ih ⊢ <;> omega
theorem cyc_even {u : List Ltr} (h : Cyc u) (h2 : 2 ≤ u.length) : u.length % 2 = 0 := by
  rcases h with ⟨hw, h1 | ⟨m, y, rfl, hy⟩⟩
  · omega
  · have := (word_par hw).mp (by cases y <;> simp_all [Ltr.fits])
    simp; omega
end Q
namespace Q
open PySem PySem.Spec PyProof.Rows L2
theorem head_turned {C : List Ltr} {x y : Ltr} (h1 : C.getLast? = some x) (h2 : (turned C).head? = some y) : y = x.inv := by
  unfold turned at h2
  rw [List.head?_map, List.head?_reverse, h1] at h2
  exact (Option.some.inj h2).symm
/-- C, X and C turned: reduced where X fits behind C -/
theorem isW_around {C X : List Ltr} (hC : isW C = true) (hX : isW X = true) (hne : X ≠ []) (h1 : ∀ x y, C.getLast? = some x → X.head? = some y → Ltr.fits x y = true) (h2 : ∀ x y, C.getLast? = some x → X.getLast? = some y → Ltr.fits x y = true) : isW (C ++ X ++ turned C) = true := by
  refine isW_app (isW_app hC hX h1) (isW_turned hC) fun x y e1 e2 => ?_
  have e1' : X.getLast? = some x := by
    cases q : X.getLast? with
    | none => exact (hne (List.getLast?_eq_none_iff.mp q)).elim
    | some l => rw [List.getLast?_append, q] at e1; simpa using e1
  cases q : C.getLast? with
  | none =>
    have : C = [] := List.getLast?_eq_none_iff.mp q
    subst this
    cases e2
  | some z =>
    have := head_turned q e2
    subst this
    rw [fitsR_inv, fitsC]
    exact h2 z x q e1'
def Same2 (u v : List Ltr) : Prop := ∀ z, memR u z ↔ memR v z
theorem snoc_split (C : List Ltr) (h : C ≠ []) : ∃ C' c, C = C' ++ [c] := by
  rcases List.eq_nil_or_concat C with e | ⟨u, l, e⟩
  · exact (h e).elim
  · exact ⟨u, l, by rw [e, List.concat_eq_append]⟩
theorem cj_cut {C' u u' : List Ltr} {c : Ltr} (h : wmt ([c] ++ u ++ [c.inv]) = wmt u') : wmt ((C' ++ [c]) ++ u ++ turned (C' ++ [c])) = wmt (C' ++ u' ++ turned C') := by
  have e : (C' ++ [c]) ++ u ++ turned (C' ++ [c]) = C' ++ ([c] ++ u ++ [c.inv]) ++ turned C' := by simp [turned_app, turned_one]
  rw [e]
  exact wmt_mid h _ _
theorem pair_one (x : Ltr) : wmt [x, x.inv] = wmt [] ∧ wmt [x.inv, x] = wmt [] := by cases x <;> decide
theorem pair_same {x y : Ltr} (hx : x ≠ .S) (hy : y ≠ .S) (h : y ≠ x.inv) : ∃ z, z ≠ .S ∧ wmt [x, y] = wmt [z] := by
  cases x <;> cases y <;> simp_all [Ltr.inv]
  · exact ⟨.r, by decide, by decide⟩
  · exact ⟨.R, by decide, by decide⟩
theorem fits_S {x : Ltr} (h : x ≠ .S) : Ltr.fits .S x = true ∧ Ltr.fits x .S = true := by cases x <;> simp_all [Ltr.fits]
theorem nc_lastS {t : List Ltr} {b : Ltr} : ¬ Cyc (t ++ [b, .S]) := by
  rintro ⟨_, h1 | ⟨m', y, e, hy⟩⟩
  · simp at h1; omega
  · have e2 : (t ++ [b]) ++ [Ltr.S] = (.S :: m') ++ [y] := by simpa using e
    have := (List.append_inj' e2 rfl).2
    exact hy (by simpa using this.symm)
theorem bad_of {C X u v : List Ltr} (hv : Cyc v) (h1 : isW (C ++ X ++ turned C) = true) (h2 : wmt (C ++ X ++ turned C) = wmt v) (h3 : ¬ Cyc X) : Same2 u v := by
  have e1 := word_inj h1 hv.1 h2
  exfalso
  by_cases hz : C = []
  · subst hz
    exact h3 (by rw [show X = v by simpa [turned] using e1]; exact hv)
  · refine nc_around X hz ?_
    rw [e1]; exact hv
theorem nS_fits {x y : Ltr} (h : Ltr.fits x y = true) (hy : y ≠ .S) : x = .S := by revert h hy; cases x <;> cases y <;> decide
theorem fits_nS {x y : Ltr} (h : Ltr.fits x y = true) (hx : x ≠ .S) : y = .S := by revert h hx; cases x <;> cases y <;> decide
theorem S_fits {x : Ltr} (h : Ltr.fits x .S = true) : x ≠ .S := by intro z; subst z; cases h
theorem last_of {u : List Ltr} {x : Ltr} : (u ++ [x]).getLast? = some x := by simp
/-- conjugate cyclic words have the same rounds -/
theorem cyc_conj : ∀ (n : Nat) (C u v : List Ltr), C.length ≤ n → isW C = true → Cyc u → Cyc v → wmt (C ++ u ++ turned C) = wmt v → Same2 u v
  | n, [], u, v, _, _, hu, hv, h => by
    have : u = v := word_inj hu.1 hv.1 (by simpa [turned] using h)
    subst this
    exact fun _ => Iff.rfl
  | 0, _ :: _, _, _, hl, _, _, _, _ => by simp at hl
  | n + 1, x0 :: C0, u, v, hl, hC, hu, hv, h => by
    obtain ⟨C, c, e⟩ := snoc_split (x0 :: C0) (by simp)
    rw [e] at hl hC h
    have ihl : C.length ≤ n := by simp at hl; omega
    obtain ⟨wC, _, jC⟩ := isW_split hC
    have jc : ∀ x, C.getLast? = some x → Ltr.fits x c = true := fun x hx => jC x c hx rfl
    rcases hu with ⟨wu, h2 | ⟨m, y, eu, hy⟩⟩
    · cases u with
      | nil =>
        have : wmt ((C ++ [c]) ++ [] ++ turned (C ++ [c])) = wmt (C ++ [] ++ turned C) := cj_cut (by simpa using (pair_one c).1)
        rw [this] at h
        exact cyc_conj n C [] v ihl wC ⟨wu, .inl h2⟩ hv h
      | cons a t =>
        have : t = [] := by cases t with | nil => rfl | cons _ _ => simp at h2; omega
        subst this
        by_cases hf : Ltr.fits c a = true
        · have hf2 : Ltr.fits a c.inv = true := by rw [fitsR_inv, fitsC]; exact hf
          have hw : isW (C ++ [c, a, c.inv] ++ turned C) = true := isW_around wC (by simp [isW, hf, hf2]) (by simp) (fun x y e1 e2 => by cases e2; exact jc x e1) (fun x y e1 e2 => by
            have : c.inv = y := by simpa using e2
            rw [← this, fitsR_inv]; exact jc x e1)
          refine bad_of hv hw ?_ (nc_ends (m := [a]) (by rw [fitsR_inv]; cases c <;> rfl))
          rw [← h]; simp [turned_app, turned_one]
        · have hc : wmt ([c] ++ [a] ++ [c.inv]) = wmt [a] := by
            cases c <;> cases a <;> first | exact absurd rfl hf | decide
          rw [cj_cut hc] at h
          exact cyc_conj n C [a] v ihl wC ⟨wu, .inl h2⟩ hv h
    · have wu' := wu
      rw [eu] at wu'
      have ev : u.length % 2 = 0 := cyc_even ⟨wu, .inr ⟨m, y, eu, hy⟩⟩ (by rw [eu]; simp)
      have len2 : 2 ≤ u.length := by rw [eu]; simp
      have wt := isW_tail wu'
      by_cases hc : c = .S
      · subst hc
        obtain ⟨z0, t, et⟩ : ∃ z0 t, m ++ [y] = z0 :: t := by cases m with | nil => exact ⟨_, _, rfl⟩ | cons a b => exact ⟨_, _, rfl⟩
        have hz0 : z0 ≠ .S := by
          have := wu'
          rw [et] at this
          have := isW_head this
          intro z; subst z; cases this
        have lastt : ∀ x, (z0 :: t).getLast? = some x → x ≠ .S := fun x hx => by
          rw [← et] at hx
          simp at hx
          rw [← hx]; exact hy
        have wt2 : isW ((z0 :: t) ++ [.S]) = true := isW_app (by rw [← et]; exact wt) rfl fun x y e1 e2 => by cases e2; exact (fits_S (lastt x e1)).2
        have k1 : wmt ([.S] ++ u ++ [Ltr.S.inv]) = wmt ((z0 :: t) ++ [.S]) := by
          have : [Ltr.S] ++ u ++ [Ltr.S.inv] = [] ++ [Ltr.S, Ltr.S.inv] ++ ((z0 :: t) ++ [.S]) := by rw [eu, et]; rfl
          rw [this, wmt_mid (pair_one .S).1]
          simp
        rw [cj_cut k1] at h
        by_cases hz : C = []
        · subst hz
          have lt : ∃ t' b, (z0 :: t) ++ [Ltr.S] = t' ++ [b, .S] := by
            obtain ⟨t', b, e3⟩ := snoc_split (z0 :: t) (by simp)
            exact ⟨t', b, by rw [e3]; simp⟩
          obtain ⟨t', b, e3⟩ := lt
          exact bad_of hv (by simpa [turned] using wt2) h (by rw [e3]; exact nc_lastS)
        · obtain ⟨D, x, eD⟩ := snoc_split C hz
          subst eD
          have hx : x ≠ .S := S_fits (jc x last_of)
          obtain ⟨wD, _, jD⟩ := isW_split wC
          have jd : ∀ d, D.getLast? = some d → d = .S := fun d hd => nS_fits (jD d x hd rfl) hx
          have lD : D.length ≤ n := by simp at ihl; omega
          by_cases hxz : z0 = x.inv
          · have e2 : r2 u = t ++ [.S, z0] := by rw [eu, et]; rfl
            have k2 : wmt ([x] ++ ((z0 :: t) ++ [.S]) ++ [x.inv]) = wmt (r2 u) := by
              have : [x] ++ ((z0 :: t) ++ [Ltr.S]) ++ [x.inv] = [] ++ [x, x.inv] ++ (t ++ [.S, z0]) := by rw [hxz]; simp
              rw [this, wmt_mid (pair_one x).1, e2]
              simp
            rw [cj_cut k2] at h
            have cy : Cyc (r2 u) := by
              rw [e2]
              cases t with
              | nil => exact ⟨by simp [isW, (fits_S hz0).1], .inr ⟨[], z0, rfl, hz0⟩⟩
              | cons b t' =>
                have hb : b = .S := fits_nS (isW_head wt2) hz0
                subst hb
                refine ⟨isW_app (isW_tail (isW_split wt2).1) (by simp [isW, (fits_S hz0).1]) fun x y e1 e3 => ?_, .inr ⟨t' ++ [.S], z0, by simp, hz0⟩⟩
                cases e3
                exact (fits_S (lastt x (by rw [List.getLast?_cons_cons]; exact e1))).2
            have ih := cyc_conj n D (r2 u) v lD wD cy hv h
            exact fun z => (memR_r2 ev len2 z).symm.trans (ih z)
          · obtain ⟨z', hz', ez⟩ := pair_same hx hz0 hxz
            have k2 : wmt ([x] ++ ((z0 :: t) ++ [.S]) ++ [x.inv]) = wmt (z' :: (t ++ [.S, x.inv])) := by
              have : [x] ++ ((z0 :: t) ++ [Ltr.S]) ++ [x.inv] = [] ++ [x, z0] ++ (t ++ [.S, x.inv]) := by simp
              rw [this, wmt_mid ez]
              simp
            rw [cj_cut k2] at h
            have wts : isW (t ++ [.S]) = true := isW_tail wt2
            have wx : isW (t ++ [.S, x.inv]) = true := by
              have : t ++ [.S, x.inv] = (t ++ [.S]) ++ [x.inv] := by simp
              rw [this]
              exact isW_app wts rfl fun a b e1 e3 => by
                cases e3
                have : Ltr.S = a := by simpa using e1
                rw [← this, fitsR_inv]; exact (fits_S hx).1
            have wX : isW (z' :: (t ++ [.S, x.inv])) = true := isW_cons wx fun b e3 => by
              cases t with
              | nil => cases e3; exact (fits_S hz').2
              | cons a t' =>
                cases e3
                have ha := fits_nS (isW_head wt2) hz0
                rw [ha]; exact (fits_S hz').2
            have lastX : ∀ b, (z' :: (t ++ [Ltr.S, x.inv])).getLast? = some b → b = x.inv := fun b hb => by
              have : z' :: (t ++ [Ltr.S, x.inv]) = (z' :: (t ++ [.S])) ++ [x.inv] := by simp
              rw [this, last_of] at hb
              exact (Option.some.inj hb).symm
            refine bad_of hv (isW_around wD wX (by simp) (fun d b e1 e3 => by cases e3; rw [jd d e1]; exact (fits_S hz').1) (fun d b e1 e3 => by rw [lastX b e3, jd d e1, fitsR_inv]; exact (fits_S hx).1)) h ?_
            cases t with
            | nil => exact nc_first hz'
            | cons a t' => exact nc_first hz'
      · -- c is R or r
        have jS : ∀ x, C.getLast? = some x → x = .S := fun x hx => nS_fits (jc x hx) hc
        have wSm : isW (.S :: m) = true := (isW_split (u := .S :: m) (v := [y]) (by simpa using wu')).1
        have cSm : isW (c :: .S :: m) = true := isW_cons wSm fun b e3 => by cases e3; exact (fits_S hc).2
        obtain ⟨q, l, eq⟩ := snoc_split (.S :: m) (by simp)
        have hl : l = .S := nS_fits ((isW_split (u := .S :: m) (v := [y]) (by simpa using wu')).2.2 l y (by rw [eq]; exact last_of) rfl) hy
        subst hl
        by_cases hyc : y = c
        · subst hyc
          have k1 : wmt ([y] ++ u ++ [y.inv]) = wmt (y :: .S :: m) := by
            have : [y] ++ u ++ [y.inv] = (y :: .S :: m) ++ [y, y.inv] ++ [] := by rw [eu]; simp
            rw [this, wmt_mid (pair_one y).1]
            simp
          rw [cj_cut k1] at h
          by_cases hz : C = []
          · subst hz
            exact bad_of hv (by simpa [turned] using cSm) h (nc_first hy)
          · obtain ⟨D, x, eD⟩ := snoc_split C hz
            subst eD
            have hx : x = .S := jS x last_of
            subst hx
            obtain ⟨wD, _, jD⟩ := isW_split wC
            have lD : D.length ≤ n := by simp at ihl; omega
            have k2 : wmt ([.S] ++ (y :: .S :: m) ++ [Ltr.S.inv]) = wmt (.S :: y :: q) := by
              have : [Ltr.S] ++ (y :: .S :: m) ++ [Ltr.S.inv] = (.S :: y :: q) ++ [Ltr.S, Ltr.S.inv] ++ [] := by rw [eq]; simp
              rw [this, wmt_mid (pair_one .S).1]
              simp
            rw [cj_cut k2] at h
            have e2 : r2 (.S :: y :: q) = u := by
              rw [eu]
              have : Ltr.S :: (m ++ [y]) = (.S :: m) ++ [y] := rfl
              rw [this, eq]
              simp [r2]
            have wq : isW (q ++ [.S]) = true := by rw [← eq]; exact wSm
            have hq : ∀ b, q.head? = some b → b = .S := fun b hb => by
              cases q with
              | nil => cases hb
              | cons a q' => cases hb; exact (List.cons.inj eq).1.symm
            have lq : ∀ b, q.getLast? = some b → b ≠ .S := fun b hb => S_fits ((isW_split wq).2.2 b .S hb rfl)
            have cy : Cyc (.S :: y :: q) := by
              refine ⟨isW_cons (isW_cons (isW_split wq).1 fun b hb => by rw [hq b hb]; exact (fits_S hy).2) fun b hb => by cases hb; exact (fits_S hy).1, .inr ?_⟩
              by_cases hqn : q = []
              · subst hqn; exact ⟨[], y, rfl, hy⟩
              · obtain ⟨q', b, eb⟩ := snoc_split q hqn
                exact ⟨y :: q', b, by rw [eb]; rfl, lq b (by rw [eb]; exact last_of)⟩
            have ih := cyc_conj n D (.S :: y :: q) v lD wD cy hv h
            have lq2 : (Ltr.S :: y :: q).length = u.length := by rw [← e2]; simp [r2]
            have ev2 := memR_r2 (u := .S :: y :: q) (by rw [lq2]; exact ev) (by simp)
            rw [e2] at ev2
            exact fun z => (ev2 z).trans (ih z)
        · obtain ⟨z', hz', ez⟩ := pair_same (x := y) (y := c.inv) hy (by intro z; apply hc; revert z; cases c <;> decide) (by intro z; apply hyc; revert z; cases y <;> cases c <;> decide)
          have k1 : wmt ([c] ++ u ++ [c.inv]) = wmt (c :: .S :: (m ++ [z'])) := by
            have : [c] ++ u ++ [c.inv] = (c :: .S :: m) ++ [y, c.inv] ++ [] := by rw [eu]; simp
            rw [this, wmt_mid ez]
            simp
          rw [cj_cut k1] at h
          have lSm : (c :: .S :: m).getLast? = some .S := by rw [List.getLast?_cons_cons, eq]; exact last_of
          have wX : isW (c :: .S :: (m ++ [z'])) = true := isW_app (u := c :: .S :: m) (v := [z']) cSm rfl fun a b e1 e3 => by
            cases e3
            rw [lSm] at e1
            cases e1
            exact (fits_S hz').1
          refine bad_of hv (isW_around wC wX (by simp) (fun d b e1 e3 => by cases e3; exact jc d e1) (fun d b e1 e3 => ?_)) h (nc_first hc)
          have : c :: .S :: (m ++ [z']) = (c :: .S :: m) ++ [z'] := rfl
          rw [this, last_of] at e3
          cases e3
          rw [jS d e1]; exact (fits_S hz').1
end Q
namespace Q
open PySem PySem.Spec PyProof.Rows L2
/-- conjugate -/
def Cj (w u : List Ltr) : Prop := ∃ C : List Ltr, wmt (C ++ w ++ turned C) = wmt u
def lew (u v : List Ltr) : Prop := ¬ (v.map Ltr.code < u.map Ltr.code)
/-- the smallest round of a cyclic word that is conjugate to w -/
def LeastOf (w c : List Ltr) : Prop := ∃ u, Cyc u ∧ Cj w u ∧ memR u c ∧ ∀ z, memR u z → lew c z
def isCyc (u : List Ltr) : Bool := decide (u.length < 2) || (decide (u.head? = some .S) && decide (u.getLast? ≠ some .S))
def sp_u_is_cyclic : PSp := fun xs M k _ => ∃ w : List Ltr, xs = [wpv w] ∧ w.length ≤ 4000 ∧ k (.bl (isCyc w)) M
def sp_u_cyclic_parts : PSp := fun xs M k _ => ∃ w : List Ltr, xs = [(wmt w).pv] ∧ isW w = true ∧ w.length ≤ 200 ∧ ∀ (y c : List Ltr) (M' : PM), LeastOf w c → wmt (y ++ c ++ turned y) = wmt w → y.length ≤ 2 * w.length → c.length ≤ w.length → Ext M M' → k (.tup [wpv y, wpv c]) M'
def sp_cyclic_word : PSp := fun xs M k _ => ∃ w : List Ltr, xs = [(wmt w).pv] ∧ isW w = true ∧ w.length ≤ 200 ∧ ∀ (c : List Ltr) (M' : PM), LeastOf w c → c.length ≤ w.length → Ext M M' → k (wpv c) M'
def sp_L_least_round : PSp := fun xs M k _ => ∃ w : List Ltr, xs = [wpv w] ∧ isW w = true ∧ w.length ≤ 200 ∧ ∀ (c : List Ltr) (M' : PM), LeastOf w c → c.length ≤ w.length → Ext M M' → k (wpv c) M'
def sp_L_round_right : PSp := fun xs M k _ => ∃ (a : Addr) (n : Nat), xs = [.ref a] ∧ Src M a n ∧ n + 1000 < lim ∧ ∀ M', Src M' a (n + 150) → k (.bl true) M'
end Q
namespace Q
/-! ### fractions -/
abbrev Fr := Int × Int
def Fr.prim (f : Fr) : Prop := Nat.gcd f.1.natAbs f.2.natAbs = 1
def Fr.ok (f : Fr) : Prop := (f.2 = 0 ∧ f.1 = 1) ∨ (0 < f.2 ∧ Nat.gcd f.1.natAbs f.2.natAbs = 1)
instance (f : Fr) : Decidable f.ok := by unfold Fr.ok; infer_instance
def Fr.bd (n : Nat) (f : Fr) : Prop := f.1.natAbs < 2 ^ n ∧ f.2.natAbs < 2 ^ n
def act (m : Mt) (f : Fr) : Fr := (m.a * f.1 + m.b * f.2, m.c * f.1 + m.d * f.2)
def Fr.neg (f : Fr) : Fr := (-f.1, -f.2)
def Fr.nf (f : Fr) : Fr := if f.2 < 0 ∨ (f.2 = 0 ∧ f.1 < 0) then f.neg else f
def Fr.sg (f : Fr) : Fr := if 0 < f.2 ∨ (f.2 = 0 ∧ 0 < f.1) then f else f.neg
def Fr.nz (f : Fr) : Prop := ¬ (f.1 = 0 ∧ f.2 = 0)
theorem act_mul (m n : Mt) (f : Fr) : act (m.mul n) f = act m (act n f) := by
  simp only [act, Mt.mul, Prod.mk.injEq]
  constructor <;> grind
theorem act_neg (m : Mt) (f : Fr) : act m.neg f = (act m f).neg := by
  simp only [act, Mt.neg, Fr.neg, Prod.mk.injEq]
  constructor <;> grind
theorem act_fneg (m : Mt) (f : Fr) : act m f.neg = (act m f).neg := by
  simp only [act, Fr.neg, Prod.mk.injEq]
  constructor <;> grind
theorem act_one (f : Fr) : act Mt.one f = f := by
  obtain ⟨p, q⟩ := f
  simp [act, Mt.one]
theorem act_adj (m : Mt) (h : m.det = 1) (f : Fr) : act m.adj (act m f) = f := by
  rw [← act_mul, Mt.adj_mul m h, act_one]
theorem Fr.ok_iff (f : Fr) : f.ok ↔ f.prim ∧ (0 < f.2 ∨ (f.2 = 0 ∧ 0 < f.1)) := by
  unfold Fr.ok Fr.prim
  constructor
  · rintro (⟨h1, h2⟩ | ⟨h1, h2⟩)
    · rw [h1, h2]; exact ⟨rfl, .inr ⟨rfl, by decide⟩⟩
    · exact ⟨h2, .inl h1⟩
  · rintro ⟨h1, h2 | ⟨h2, h3⟩⟩
    · exact .inr ⟨h2, h1⟩
    · rw [h2] at h1
      simp at h1
      exact .inl ⟨h2, by omega⟩
theorem Fr.ok.nz {f : Fr} (h : f.ok) : f.nz := by
  unfold Fr.nz
  rcases h with h | h <;> omega
theorem Fr.ok.prim {f : Fr} (h : f.ok) : f.prim := ((Fr.ok_iff f).mp h).1
theorem Fr.neg_neg (f : Fr) : f.neg.neg = f := by
  obtain ⟨p, q⟩ := f
  simp [Fr.neg]
theorem Fr.nf_pm (f : Fr) : f.nf = f ∨ f.nf = f.neg := by
  unfold Fr.nf
  split
  · exact .inr rfl
  · exact .inl rfl
theorem Fr.nf_neg {f : Fr} (h : f.nz) : f.neg.nf = f.nf := by
  unfold Fr.nz at h
  unfold Fr.nf
  have e1 : f.neg.2 = -f.2 := rfl
  have e2 : f.neg.1 = -f.1 := rfl
  rw [Fr.neg_neg, e1, e2]
  by_cases h1 : f.2 < 0
  · rw [if_neg (by omega), if_pos (by omega)]
  · by_cases h2 : 0 < f.2
    · rw [if_pos (by omega), if_neg (by omega)]
    · by_cases h3 : f.1 < 0
      · rw [if_neg (by omega), if_pos (by omega)]
      · rw [if_pos (by omega), if_neg (by omega)]
theorem Fr.sg_nf {f : Fr} (h : f.nz) : f.sg = f.nf := by
  obtain ⟨p, q⟩ := f
  unfold Fr.nz at h
  unfold Fr.nf Fr.sg
  simp only at *
  by_cases h1 : q < 0
  · rw [if_neg (by omega), if_pos (by omega)]
  · by_cases h2 : 0 < q
    · rw [if_pos (by omega), if_neg (by omega)]
    · by_cases h3 : p < 0
      · rw [if_neg (by omega), if_pos (by omega)]
      · rw [if_pos (by omega), if_neg (by omega)]
theorem Fr.nf_ok {f : Fr} (h : f.ok) : f.nf = f := by
  unfold Fr.nf
  rw [if_neg]
  rcases h with h | h <;> omega
theorem Fr.prim_neg {f : Fr} (h : f.prim) : f.neg.prim := by
  unfold Fr.prim Fr.neg at *
  simpa using h
theorem Fr.prim.nz {f : Fr} (h : f.prim) : f.nz := by
  rintro ⟨h1, h2⟩
  unfold Fr.prim at h
  rw [h1, h2] at h
  simp at h
theorem Fr.ok_nf {f : Fr} (h : f.prim) : f.nf.ok := by
  rw [Fr.ok_iff]
  have hz := h.nz
  refine ⟨?_, ?_⟩
  · rcases f.nf_pm with e | e <;> rw [e]
    · exact h
    · exact Fr.prim_neg h
  · obtain ⟨p, q⟩ := f
    unfold Fr.nz at hz
    unfold Fr.nf Fr.neg
    simp only at *
    split <;> simp only <;> omega
theorem gcd_one_of {a b : Int} (h : ∀ g : Nat, (g : Int) ∣ a → (g : Int) ∣ b → g = 1) : Nat.gcd a.natAbs b.natAbs = 1 :=
  h _ (Int.ofNat_dvd_left.mpr (Nat.gcd_dvd_left _ _)) (Int.ofNat_dvd_left.mpr (Nat.gcd_dvd_right _ _))
theorem act_prim {m : Mt} (hm : m.det = 1) {f : Fr} (h : f.prim) : (act m f).prim := by
  refine gcd_one_of fun g h1 h2 => ?_
  have e := act_adj m hm f
  have e1 : m.adj.a * (act m f).1 + m.adj.b * (act m f).2 = f.1 := congrArg Prod.fst e
  have e2 : m.adj.c * (act m f).1 + m.adj.d * (act m f).2 = f.2 := congrArg Prod.snd e
  have d1 : (g : Int) ∣ f.1 := by rw [← e1]; exact Int.dvd_add (Int.dvd_mul_of_dvd_right h1) (Int.dvd_mul_of_dvd_right h2)
  have d2 : (g : Int) ∣ f.2 := by rw [← e2]; exact Int.dvd_add (Int.dvd_mul_of_dvd_right h1) (Int.dvd_mul_of_dvd_right h2)
  have d3 := Nat.dvd_gcd (Int.ofNat_dvd_left.mp d1) (Int.ofNat_dvd_left.mp d2)
  unfold Fr.prim at h
  rw [h] at d3
  exact Nat.dvd_one.mp d3
/-- what a matrix makes of a fraction -/
def mv (m : Mt) (f : Fr) : Fr := (act m f).nf
theorem mv_ok {m : Mt} (hm : m.det = 1) {f : Fr} (h : f.ok) : (mv m f).ok := Fr.ok_nf (act_prim hm h.prim)
theorem mv_sg {m : Mt} (hm : m.det = 1) {f : Fr} (h : f.ok) : (act m f).sg = mv m f := Fr.sg_nf (act_prim hm h.prim).nz
theorem mv_one {f : Fr} (h : f.ok) : mv Mt.one f = f := by unfold mv; rw [act_one, Fr.nf_ok h]
theorem mv_nf {m : Mt} (hm : m.det = 1) {f : Fr} (h : f.prim) : mv m.nf f = mv m f := by
  unfold mv
  rcases Mt.nf_pm m with e | e <;> rw [e]
  rw [act_neg, Fr.nf_neg (act_prim hm h).nz]
theorem mv_mul {m n : Mt} (hm : m.det = 1) (hn : n.det = 1) {f : Fr} (h : f.ok) : mv (m.mul n).nf f = mv m (mv n f) := by
  rw [mv_nf (Mt.det1_mul hm hn) h.prim]
  unfold mv
  rw [act_mul]
  have hp := act_prim hn h.prim
  rcases (act n f).nf_pm with e | e <;> rw [e]
  rw [act_fneg, Fr.nf_neg (act_prim hm hp).nz]
theorem mv_adj {m : Mt} (hm : m.det = 1) {f : Fr} (h : f.ok) : mv m.adj.nf (mv m f) = f := by
  have h2 : m.adj.det = 1 := by rw [Mt.det_adj]; exact hm
  rw [← mv_mul (Mt.ok_nf h2).1 hm h, Mt.nf_mul_l h2 hm, Mt.adj_mul m hm]
  exact mv_one h
theorem Fr.bd.mono {f : Fr} {i j : Nat} (h : f.bd i) (hij : i ≤ j) : f.bd j := by
  have := Nat.pow_le_pow_right (show 0 < 2 by decide) hij
  exact ⟨Nat.lt_of_lt_of_le h.1 this, Nat.lt_of_lt_of_le h.2 this⟩
theorem Fr.bd.neg {f : Fr} {i : Nat} (h : f.bd i) : f.neg.bd i := by simpa [Fr.bd, Fr.neg, Int.natAbs_neg] using h
theorem Fr.bd.nf {f : Fr} {i : Nat} (h : f.bd i) : f.nf.bd i := by
  rcases f.nf_pm with e | e <;> rw [e]
  · exact h
  · exact h.neg
theorem act_bd {m : Mt} {f : Fr} {i j : Nat} (h : m.bd i) (h' : f.bd j) : (act m f).bd (i + j + 1) :=
  ⟨Mt.abs2 h.1 h'.1 h.2.1 h'.2, Mt.abs2 h.2.2.1 h'.1 h.2.2.2 h'.2⟩
theorem mv_bd {m : Mt} {f : Fr} {i j : Nat} (h : m.bd i) (h' : f.bd j) : (mv m f).bd (i + j + 1) := (act_bd h h').nf
/-- both numbers divided by what they share -/
theorem div_ok {p q : Int} (hq : 0 < q) : Fr.ok (p / (Nat.gcd p.natAbs q.natAbs : Nat), q / (Nat.gcd p.natAbs q.natAbs : Nat)) := by
  have g0 : 0 < Nat.gcd p.natAbs q.natAbs := Nat.gcd_pos_of_pos_right _ (by omega)
  generalize hg : Nat.gcd p.natAbs q.natAbs = g at g0
  have d1 : (g : Int) ∣ p := by rw [← hg]; exact Int.ofNat_dvd_left.mpr (Nat.gcd_dvd_left _ _)
  have d2 : (g : Int) ∣ q := by rw [← hg]; exact Int.ofNat_dvd_left.mpr (Nat.gcd_dvd_right _ _)
  obtain ⟨x, hx⟩ := d1
  obtain ⟨y, hy⟩ := d2
  have gi : (g : Int) ≠ 0 := by omega
  have ex : p / (g : Int) = x := by rw [hx]; exact Int.mul_ediv_cancel_left _ gi
  have ey : q / (g : Int) = y := by rw [hy]; exact Int.mul_ediv_cancel_left _ gi
  rw [ex, ey]
  refine .inr ⟨?_, gcd_one_of fun h h1 h2 => ?_⟩
  · show 0 < y
    rcases Int.lt_trichotomy y 0 with z | z | z
    · have := Int.mul_neg_of_pos_of_neg (show (0 : Int) < g by omega) z; omega
    · rw [z] at hy; simp at hy; omega
    · exact z
  · have e1 : ((g * h : Nat) : Int) ∣ p := by rw [hx, Int.natCast_mul]; exact Int.mul_dvd_mul_left _ h1
    have e2 : ((g * h : Nat) : Int) ∣ q := by rw [hy, Int.natCast_mul]; exact Int.mul_dvd_mul_left _ h2
    have e3 := Nat.dvd_gcd (Int.ofNat_dvd_left.mp e1) (Int.ofNat_dvd_left.mp e2)
    rw [hg] at e3
    have := Nat.le_of_dvd g0 e3
    have h0 : h ≠ 0 := fun z => by subst z; simp at e3; omega
    have : g * h ≤ g * 1 := by omega
    have := Nat.le_of_mul_le_mul_left this g0
    omega
theorem div_bd {p : Int} {g n : Nat} (h0 : 0 < g) (h : p.natAbs < 2 ^ n) : (p / (g : Int)).natAbs ≤ p.natAbs := by
  have := Int.natAbs_ediv_le_natAbs p g
  exact this
end Q
namespace Q
open PySem PySem.Spec PyProof.Rows L2
/-! ### the values of the beginnings of a continued fraction -/
def stp (s : Fr × Fr) (k : Int) : Fr × Fr := (s.2, (k * s.2.1 + s.1.1, k * s.2.2 + s.1.2))
def st0 : Fr × Fr := ((0, 1), (1, 0))
def sti (ns : List Int) (i : Nat) : Fr × Fr := (ns.take i).foldl stp st0
def begL (ns : List Int) : List Fr := (List.range (ns.length + 1)).map fun i => (sti ns i).2
def sdet (s : Fr × Fr) : Int := s.2.1 * s.1.2 - s.1.1 * s.2.2
theorem sti_succ {ns : List Int} {i : Nat} {k : Int} (h : ns[i]? = some k) : sti ns (i + 1) = stp (sti ns i) k := by
  unfold sti
  rw [List.take_add_one, h]
  simp [List.foldl_append]
theorem sdet_stp (s : Fr × Fr) (k : Int) : sdet (stp s k) = - sdet s := by
  obtain ⟨⟨a, b⟩, ⟨c, d⟩⟩ := s
  simp only [sdet, stp]
  grind
theorem sdet_pm : ∀ (ns : List Int) (s : Fr × Fr), sdet (ns.foldl stp s) = sdet s ∨ sdet (ns.foldl stp s) = - sdet s
  | [], _ => .inl rfl
  | k :: ns, s => by
    rw [List.foldl_cons]
    rcases sdet_pm ns (stp s k) with e | e <;> rw [e, sdet_stp]
    · exact .inr rfl
    · left; omega
/-- the pair and what is left of it -/
theorem run_pq : ∀ (n : Nat) (p q : Int) (s : Fr × Fr), 0 ≤ q → q.toNat ≤ n → ∃ g : Int, (0 < q → 0 < g) ∧ (q = 0 → g = p) ∧
    p * s.2.1 + q * s.1.1 = g * ((quots p q).foldl stp s).2.1 ∧ p * s.2.2 + q * s.1.2 = g * ((quots p q).foldl stp s).2.2
  | 0, p, q, s, h0, h1 => by
    have : q = 0 := by omega
    subst this
    rw [quots_zero (by omega)]
    exact ⟨p, by omega, fun _ => rfl, by simp, by simp⟩
  | n + 1, p, q, s, h0, h1 => by
    by_cases hq : 0 < q
    · have m0 := Int.emod_nonneg p (show q ≠ 0 by omega)
      have m1 := Int.emod_lt_of_pos p hq
      obtain ⟨g, g1, g2, g3, g4⟩ := run_pq n q (p % q) (stp s (p / q)) m0 (by omega)
      rw [quots_pos hq, List.foldl_cons]
      have e : q * (p / q) + p % q = p := Int.mul_ediv_add_emod p q
      refine ⟨g, fun _ => ?_, by omega, ?_, ?_⟩
      · by_cases hz : p % q = 0
        · rw [g2 hz]; exact hq
        · exact g1 (by omega)
      · rw [← g3]
        simp only [stp]
        generalize hk : p / q = k at *
        generalize hr : p % q = r at *
        subst e
        grind
      · rw [← g4]
        simp only [stp]
        generalize hk : p / q = k at *
        generalize hr : p % q = r at *
        subst e
        grind
    · have : q = 0 := by omega
      subst this
      rw [quots_zero (by omega)]
      exact ⟨p, by omega, fun _ => rfl, by simp, by simp⟩
theorem last_pq {f : Fr} (h : f.ok) (hq : 0 < f.2) : ((quots f.1 f.2).foldl stp st0).2 = f := by
  obtain ⟨g, g1, _, g3, g4⟩ := run_pq f.2.toNat f.1 f.2 st0 (by omega) (Nat.le_refl _)
  have g0 := g1 hq
  have pr := h.prim
  generalize (quots f.1 f.2).foldl stp st0 = s at g3 g4 ⊢
  simp [st0] at g3 g4
  have hg : g.natAbs ∣ Nat.gcd f.1.natAbs f.2.natAbs := Nat.dvd_gcd (by rw [g3, Int.natAbs_mul]; exact Nat.dvd_mul_right _ _) (by rw [g4, Int.natAbs_mul]; exact Nat.dvd_mul_right _ _)
  unfold Fr.prim at pr
  rw [pr] at hg
  have e1 : g = 1 := by have := Nat.dvd_one.mp hg; omega
  rw [e1] at g3 g4
  obtain ⟨p, q⟩ := f
  simp only at g3 g4
  refine Prod.ext ?_ ?_
  · show s.2.1 = p; omega
  · show s.2.2 = q; omega
theorem begL_len (ns : List Int) : (begL ns).length = ns.length + 1 := by simp [begL]
theorem begL_get {ns : List Int} {i : Nat} (h : i ≤ ns.length) : (begL ns)[i]? = some (sti ns i).2 := by
  unfold begL
  rw [List.getElem?_map, List.getElem?_range (by omega)]
  rfl
theorem begL_take {ns : List Int} {i : Nat} (h : i ≤ ns.length) : (begL ns).take (i + 1) = (List.range (i + 1)).map fun i => (sti ns i).2 := by
  unfold begL
  rw [← List.map_take, List.take_range, Nat.min_eq_left (by omega)]
/-- the low number of the last but one: p times it is 1 or -1 modulo q -/
theorem before_last {f : Fr} (h : f.ok) (hq : 0 < f.2) : ∃ b : Fr, (begL (quots f.1 f.2))[(quots f.1 f.2).length - 1]? = some b ∧ 0 < (quots f.1 f.2).length ∧ (f.1 * b.2 - b.1 * f.2 = 1 ∨ f.1 * b.2 - b.1 * f.2 = -1) := by
  have hl := last_pq h hq
  have hn : 0 < (quots f.1 f.2).length := by rw [quots_pos hq]; simp
  generalize quots f.1 f.2 = ns at hl hn ⊢
  refine ⟨(sti ns (ns.length - 1)).2, begL_get (by omega), hn, ?_⟩
  have hs : sti ns ns.length = ns.foldl stp st0 := by unfold sti; rw [List.take_length]
  obtain ⟨k, hk⟩ : ∃ k, ns[ns.length - 1]? = some k := ⟨ns[ns.length - 1], List.getElem?_eq_getElem (by omega)⟩
  have e := sti_succ hk
  rw [show ns.length - 1 + 1 = ns.length by omega, hs] at e
  have e1 : (ns.foldl stp st0).1 = (sti ns (ns.length - 1)).2 := by rw [e]; rfl
  have dp := sdet_pm ns st0
  rw [← e1]
  generalize ns.foldl stp st0 = s at hl dp ⊢
  have d0 : sdet st0 = 1 := by decide
  rw [d0] at dp
  unfold sdet at dp
  rw [hl] at dp
  exact dp
theorem quots_len2 : ∀ (n : Nat) (a c : Int), c.natAbs < 2 ^ n → (quots a c).length ≤ 2 * n
  | 0, a, c, h => by
    have : ¬ 0 < c := by simp at h; omega
    rw [quots_zero this]; simp
  | n + 1, a, c, h => by
    by_cases hc : 0 < c
    · rw [quots_pos hc]
      have m0 := Int.emod_nonneg a (show c ≠ 0 by omega)
      have m1 := Int.emod_lt_of_pos a hc
      by_cases hr : 0 < a % c
      · rw [quots_pos hr]
        have k0 := Int.emod_nonneg c (show a % c ≠ 0 by omega)
        have k1 := Int.emod_lt_of_pos c hr
        have hlt : 2 * (c % (a % c)) < c := by
          have e := Int.mul_ediv_add_emod c (a % c)
          have hd : 1 ≤ c / (a % c) := Int.le_ediv_of_mul_le hr (by omega)
          generalize a % c = r at *
          generalize c / r = k at *
          generalize c % r = t at *
          have : r * 1 ≤ r * k := Int.mul_le_mul_of_nonneg_left (by omega) (by omega)
          omega
        have := quots_len2 n (a % c) (c % (a % c)) (by rw [Nat.pow_succ] at h; omega)
        simp only [List.length_cons]
        omega
      · rw [quots_zero hr]; simp; omega
    · rw [quots_zero hc]; simp
theorem quots_bd : ∀ (n : Nat) (a c : Int) (B : Nat), c.toNat ≤ n → a.natAbs < B → c.natAbs < B → ∀ x ∈ quots a c, x.natAbs < B
  | 0, a, c, B, h, _, _ => by
    rw [quots_zero (by omega)]; simp
  | n + 1, a, c, B, h, h1, h2 => by
    by_cases hc : 0 < c
    · have m0 := Int.emod_nonneg a (show c ≠ 0 by omega)
      have m1 := Int.emod_lt_of_pos a hc
      rw [quots_pos hc]
      intro x hx
      rcases List.mem_cons.mp hx with e | e
      · subst e
        exact Nat.lt_of_le_of_lt (Int.natAbs_ediv_le_natAbs a c) h1
      · exact quots_bd n c (a % c) B (by omega) h2 (by omega) x e
    · rw [quots_zero hc]; simp
def Fr2bd (n : Nat) (s : Fr × Fr) : Prop := s.1.bd n ∧ s.2.bd n
theorem stp_bd {s : Fr × Fr} {k : Int} {i j : Nat} (h : Fr2bd i s) (hk : k.natAbs < 2 ^ j) : Fr2bd (i + j + 1) (stp s k) := by
  have w : ∀ {x y : Int}, x.natAbs < 2 ^ i → y.natAbs < 2 ^ i → (k * x + y).natAbs < 2 ^ (i + j + 1) := fun {x y} hx hy => by
    have h1 : (k * x).natAbs < 2 ^ (j + i) := wide_lt hk hx
    have h2 := Nat.pow_le_pow_right (show 0 < 2 by decide) (show i ≤ j + i by omega)
    have h3 : (k * x + y).natAbs ≤ (k * x).natAbs + y.natAbs := Int.natAbs_add_le _ _
    rw [Nat.pow_succ, Nat.add_comm i j]
    omega
  refine ⟨h.2.mono (by omega), w h.2.1 h.1.1, w h.2.2 h.1.2⟩
theorem sti_bd {ns : List Int} {j : Nat} (h : ∀ x ∈ ns, x.natAbs < 2 ^ j) : ∀ i, Fr2bd (1 + i * (j + 1)) (sti ns i)
  | 0 => by simp [sti, Fr2bd, Fr.bd, st0]
  | i + 1 => by
    have ih := sti_bd h i
    by_cases hi : i < ns.length
    · have e : ns[i]? = some ns[i] := List.getElem?_eq_getElem hi
      rw [sti_succ e]
      have := stp_bd ih (h _ (List.getElem_mem hi))
      rw [Nat.add_mul]
      exact ⟨this.1.mono (by omega), this.2.mono (by omega)⟩
    · have e : sti ns (i + 1) = sti ns i := by
        unfold sti
        rw [List.take_of_length_le (by omega), List.take_of_length_le (by omega)]
      rw [e]
      rw [Nat.add_mul]
      exact ⟨ih.1.mono (by omega), ih.2.mono (by omega)⟩
/-! ### the matrix of a fraction -/
def Mt.fits (m : Mt) (f : Fr) : Prop := m.ok ∧ m.a = f.1 ∧ m.c = f.2 ∧ (f.2 = 0 → m = Mt.one) ∧ (0 < f.2 → 0 ≤ m.d ∧ m.d < f.2)
theorem fits_of {p q low : Int} (hq : 0 < q) {b : Int} (h : p * low - b * q = 1 ∨ p * low - b * q = -1) : (Mt.mk p ((p * (p * low * low % q) - 1) / q) q (p * low * low % q)).fits (p, q) := by
  have m0 := Int.emod_nonneg (p * low * low) (show q ≠ 0 by omega)
  have m1 := Int.emod_lt_of_pos (p * low * low) hq
  have e := Int.mul_ediv_add_emod (p * low * low) q
  generalize p * low * low % q = y at *
  generalize p * low * low / q = t at *
  have hd : q ∣ p * y - 1 := by
    have : (p * low) * (p * low) = 1 + q * (b * (b * q + (p * low - b * q) + (p * low - b * q))) := by
      rcases h with h | h
      · have : p * low = b * q + 1 := by omega
        rw [this]; grind
      · have : p * low = b * q - 1 := by omega
        rw [this]; grind
    generalize b * (b * q + (p * low - b * q) + (p * low - b * q)) = u at this
    refine ⟨u - p * t, ?_⟩
    have e2 : p * y = (p * low) * (p * low) - p * (q * t) := by
      have : y = p * low * low - q * t := by omega
      rw [this]; grind
    rw [e2, this]; grind
  obtain ⟨x, hx⟩ := hd
  have ex : (p * y - 1) / q = x := by rw [hx]; exact Int.mul_ediv_cancel_left _ (by omega)
  rw [ex]
  refine ⟨⟨?_, .inl hq⟩, rfl, rfl, fun z => by simp at z; omega, fun _ => ⟨m0, m1⟩⟩
  unfold Mt.det
  simp only
  grind
theorem fits_uniq {m n : Mt} {f : Fr} (h : m.fits f) (h' : n.fits f) (hf : 0 ≤ f.2) : m = n := by
  obtain ⟨o1, a1, c1, z1, d1⟩ := h
  obtain ⟨o2, a2, c2, z2, d2⟩ := h'
  by_cases hz : f.2 = 0
  · rw [z1 hz, z2 hz]
  · have hp : 0 < f.2 := by omega
    have x1 := d1 hp
    have x2 := d2 hp
    have e1 := o1.1
    have e2 := o2.1
    unfold Mt.det at e1 e2
    rw [a1, c1] at e1
    rw [a2, c2] at e2
    obtain ⟨p, q⟩ := f
    simp only at *
    have e : p * (m.d - n.d) = q * (m.b - n.b) := by grind
    have g : Nat.gcd p.natAbs q.natAbs = 1 := gcd_one_of fun g h1 h2 => by
      have : (g : Int) ∣ 1 := by
        rw [← e1]
        exact Int.dvd_sub (Int.dvd_mul_of_dvd_left h1) (Int.dvd_mul_of_dvd_right h2)
      have := Int.natAbs_dvd_natAbs.mpr this
      simpa using this
    have hd : q.natAbs ∣ (m.d - n.d).natAbs := by
      have : q.natAbs ∣ p.natAbs * (m.d - n.d).natAbs := by rw [← Int.natAbs_mul, e, Int.natAbs_mul]; exact Nat.dvd_mul_right _ _
      exact Nat.Coprime.dvd_of_dvd_mul_left (Nat.coprime_comm.mp g) this
    have hdd : m.d = n.d := by
      by_cases hz : (m.d - n.d).natAbs = 0
      · omega
      · have := Nat.le_of_dvd (by omega) hd
        omega
    have hb : m.b = n.b := by
      rw [hdd, Int.sub_self, Int.mul_zero] at e
      rcases Int.mul_eq_zero.mp e.symm with z | z <;> omega
    exact Mt.ext' (by omega) hb (by omega) hdd
theorem fits_bd {m : Mt} {f : Fr} {n : Nat} (h : m.fits f) (hf : 0 ≤ f.2) (hb : f.bd n) : m.bd (n + 1) := by
  obtain ⟨o, a, c, z, d⟩ := h
  have hp := Nat.pow_succ 2 n
  by_cases hz : f.2 = 0
  · rw [z hz]
    exact Mt.one_bd.mono (by omega)
  · have d' := d (by omega)
    have b1 := hb.1
    have b2 := hb.2
    refine ⟨by rw [a]; omega, ?_, by rw [c]; omega, by omega⟩
    have e := o.1
    unfold Mt.det at e
    have h1 : (m.b * m.c).natAbs ≤ (m.a * m.d).natAbs + 1 := by omega
    rw [Int.natAbs_mul, Int.natAbs_mul] at h1
    have h2 : m.a.natAbs * m.d.natAbs ≤ m.a.natAbs * m.c.natAbs := Nat.mul_le_mul_left _ (by omega)
    have h3 : 0 < m.c.natAbs := by omega
    have h4 : m.b.natAbs * m.c.natAbs ≤ (m.a.natAbs + 1) * m.c.natAbs := by rw [Nat.add_mul]; omega
    have := Nat.le_of_mul_le_mul_right h4 h3
    rw [a] at this
    omega
end Q
namespace Q
open PySem PySem.Spec PyProof.Rows L2
@[simp] theorem opEq_wT {u : List Ltr} {M : PM} {k : PK} : opEq true (wpv u) (wpv u) M k ↔ k (.bl false) M := by
  unfold wpv
  rw [opEq_str]
  simp
@[simp] theorem opEq_wF {u : List Ltr} {M : PM} {k : PK} : opEq false (wpv u) (wpv u) M k ↔ k (.bl true) M := by
  unfold wpv
  rw [opEq_str]
  simp
theorem code_inj {x y : Ltr} (h : x.code = y.code) : x = y := by cases x <;> cases y <;> first | rfl | exact absurd h (by decide)
theorem codes_inj : ∀ {u v : List Ltr}, u.map Ltr.code = v.map Ltr.code → u = v
  | [], [], _ => rfl
  | [], _ :: _, h => by cases h
  | _ :: _, [], h => by cases h
  | x :: u, y :: v, h => by
    rw [List.map_cons, List.map_cons] at h
    injection h with h1 h2
    rw [code_inj h1, codes_inj h2]
theorem wstr_inj {u v : List Ltr} (h : wstr u = wstr v) : u = v := by
  have z2 := congrArg (fun s : Str => s.cps.toList) h
  simp only [wstr] at z2
  exact codes_inj z2
theorem datL_w : ∀ ws : List (List Ltr), datL (ws.map wpv) = some (ws.map fun w => PyData.str (wstr w))
  | [] => rfl
  | w :: ws => by
    show (match dat (wpv w), datL (ws.map wpv) with | some x, some y => some (x :: y) | _, _ => none) = _
    rw [datL_w ws]
    rfl
theorem eqvAll_w : ∀ ws : List (List Ltr), PyData.eqvAll (ws.map fun w => PyData.str (wstr w)) (ws.map fun w => PyData.str (wstr w)) = true
  | [] => rfl
  | w :: ws => by
    show (PyData.eqv (.str (wstr w)) (.str (wstr w)) && PyData.eqvAll (ws.map fun w => PyData.str (wstr w)) (ws.map fun w => PyData.str (wstr w))) = true
    rw [eqvAll_w ws]
    simp [PyData.eqv]
theorem depthAll_w : ∀ ws : List (List Ltr), PyData.depthAll (ws.map fun w => PyData.str (wstr w)) ≤ 10
  | [] => by decide
  | w :: ws => by
    have := depthAll_w ws
    simp [PyData.depthAll, PyData.depth] at *
    omega
theorem opEq_ws (ws : List (List Ltr)) {M : PM} {k : PK} (h : k (.bl true) M) : opEq false (.lst (ws.map wpv)) (.lst (ws.map wpv)) M k := by
  have e : datM M (.lst (ws.map wpv)) = some (.list (ws.map fun w => PyData.str (wstr w))) := by
    simp only [datM, dat, datL_w]; rfl
  refine ⟨_, _, e, e, ?_, ?_⟩
  · have := depthAll_w ws
    simp only [PyData.depth]
    omega
  · have : PyData.eqv (.list (ws.map fun w => PyData.str (wstr w))) (.list (ws.map fun w => PyData.str (wstr w))) = true := eqvAll_w ws
    rw [if_neg (by simp), this]
    exact h

theorem opEq_wsT (ws : List (List Ltr)) {M : PM} {k : PK} (h : k (.bl false) M) : opEq true (.lst (ws.map wpv)) (.lst (ws.map wpv)) M k := by
  have e : datM M (.lst (ws.map wpv)) = some (.list (ws.map fun w => PyData.str (wstr w))) := by
    simp only [datM, dat, datL_w]; rfl
  refine ⟨_, _, e, e, ?_, ?_⟩
  · have := depthAll_w ws
    simp only [PyData.depth]
    omega
  · have : PyData.eqv (.list (ws.map fun w => PyData.str (wstr w))) (.list (ws.map fun w => PyData.str (wstr w))) = true := eqvAll_w ws
    rw [if_pos (by simp), this]
    exact h
theorem comp_map {α : Type} {tg : Tgt} {t : QT} {e : QE} {st : PM → Prop} {D : Addr} {τ : Tau} {M : PM} {k : List PV → PM → Prop} (hM : M D = none) (hst : ∀ acc, st (updM M D (.lst acc))) (g : α → PV) (p : α → Bool) (f : α → PV) : ∀ (xs : List α) (acc : List PV),
    (∀ x ∈ xs, ∃ τ2, (∀ k : Tau → Prop, k τ2 → tg.set (g x) τ k) ∧ (∀ acc k, k (p x) (updM M D (.lst acc)) → t τ2 (updM M D (.lst acc)) (fun _ _ => False) k) ∧ (∀ acc k, p x = true → k (f x) (updM M D (.lst acc)) → e τ2 (updM M D (.lst acc)) (fun _ _ => False) k)) →
    acc.length + xs.length ≤ sizeLine → k (acc ++ (xs.filter p).map f) M → comp tg t e st D τ (xs.map g) acc (updM M D (.lst acc)) k
  | [], acc, _, _, h => ⟨hst acc, updM_same, by rw [delM_updM hM]; simpa using h⟩
  | x :: xs, acc, hx, hl, h => by
    obtain ⟨τ2, h1, h2, h3⟩ := hx x List.mem_cons_self
    refine ⟨hst acc, h1 _ (h2 _ _ ⟨fun hp => ?_, fun hp => ?_⟩)⟩
    · refine h3 _ _ hp ⟨updM_same, by rw [List.length_cons] at hl; omega, ?_⟩
      rw [updM_updM]
      refine comp_map hM hst g p f xs (acc ++ [f x]) (fun y hy => hx y (List.mem_cons_of_mem _ hy)) (by simp at hl ⊢; omega) ?_
      rw [List.filter_cons_of_pos hp] at h
      simpa using h
    · refine comp_map hM hst g p f xs acc (fun y hy => hx y (List.mem_cons_of_mem _ hy)) (by simp at hl ⊢; omega) ?_
      rw [List.filter_cons_of_neg (by simp [hp])] at h
      exact h
def idx : Nat → List Int → List (Nat × Int)
  | _, [] => []
  | i, q :: qs => (i, q) :: idx (i + 1) qs
def ipv (p : Nat × Int) : PV := .tup [.int (p.1 : Nat), .int p.2]
def ipw (p : Nat × Int) : Pw × Int := (if p.1 % 2 = 0 then .T else .F, p.2)
theorem enum_idx : ∀ (qs : List Int) (i : Nat), ((qs.map PV.int).mapIdx fun j x => PV.tup [.int ((j + i : Nat) : Int), x]) = (idx i qs).map ipv
  | [], _ => rfl
  | q :: qs, i => by
    rw [List.map_cons, List.mapIdx_cons]
    have ih := enum_idx qs (i + 1)
    show _ = ipv (i, q) :: (idx (i + 1) qs).map ipv
    rw [← ih]
    congr 1
    · simp [ipv]
    · congr 1
      funext j x
      rw [show j + 1 + i = j + (i + 1) by omega]
theorem enumL_idx (qs : List Int) : enumL (qs.map PV.int) = (idx 0 qs).map ipv := enum_idx qs 0
theorem idx_tagged : ∀ (qs : List Int) (i : Nat), (idx i qs).map ipw = tagged (decide (i % 2 = 0)) qs
  | [], _ => rfl
  | q :: qs, i => by
    show ipw (i, q) :: (idx (i + 1) qs).map ipw = _
    rw [idx_tagged qs (i + 1)]
    rcases (show i % 2 = 0 ∨ i % 2 = 1 by omega) with z | z
    · have : (i + 1) % 2 = 1 := by omega
      simp [tagged, ipw, z, this]
    · have : (i + 1) % 2 = 0 := by omega
      simp [tagged, ipw, z, this]
theorem idx_len : ∀ (qs : List Int) (i : Nat), (idx i qs).length = qs.length
  | [], _ => rfl
  | q :: qs, i => by simp [idx, idx_len qs (i + 1)]
theorem tagged_len : ∀ (b : Bool) (qs : List Int), (tagged b qs).length = qs.length
  | _, [] => rfl
  | b, q :: qs => by simp [tagged, tagged_len (!b) qs]
def absI (n : Int) : Int := if n < 0 then -n else n
theorem absI_nat (n : Int) : absI n = (n.natAbs : Int) := by unfold absI; split <;> omega
theorem esum_int : ∀ E : List (Pw × Int), (E.map fun p => absI p.2).sum = (esum E : Int)
  | [] => rfl
  | p :: E => by
    rw [List.map_cons, List.sum_cons, esum_int E, absI_nat]
    simp [esum]
theorem esum_mem : ∀ {E : List (Pw × Int)} {p : Pw × Int}, p ∈ E → p.2.natAbs ≤ esum E
  | q :: E, p, h => by
    rcases List.mem_cons.mp h with rfl | h
    · simp [esum]
    · have := esum_mem h
      simp only [esum, List.map_cons, List.sum_cons] at this ⊢
      omega
theorem rep_len (u : List Ltr) : ∀ n : Nat, (rep n u).length = n * u.length
  | 0 => by simp [rep]
  | n + 1 => by rw [rep_succ, List.length_append, rep_len u n, Nat.succ_mul]; omega
theorem lop_len (p : Pw × Int) : (lop p).length ≤ 2 * p.2.natAbs + 1 := by
  obtain ⟨p, n⟩ := p
  cases p
  · show (if n < 0 then rep (-n).toNat [.r, .S] else rep n.toNat [.S, .R]).length ≤ _
    split <;> rw [rep_len] <;> simp <;> omega
  · show (rep n.toNat [.S, .r]).length ≤ _
    rw [rep_len]; simp; omega
  · simp [lop]
theorem lops_len : ∀ E : List (Pw × Int), (E.flatMap lop).length ≤ 2 * esum E + E.length
  | [] => by simp
  | p :: E => by
    have h1 := lop_len p
    have h2 := lops_len E
    rw [List.flatMap_cons, List.length_append, List.length_cons]
    simp only [esum, List.map_cons, List.sum_cons] at h2 ⊢
    omega
/-- in what is kept every exponent counts -/
theorem expn_len (m : Mt) : (expn m).length ≤ esum (expn m) := by
  unfold expn
  generalize fullP m = l
  induction l with
  | nil => simp
  | cons p l ih =>
    by_cases hk : keep p = true
    · rw [List.filter_cons_of_pos hk]
      have : p.2 ≠ 0 := by simpa [keep] using hk
      simp only [esum, List.map_cons, List.sum_cons, List.length_cons] at ih ⊢
      omega
    · rw [List.filter_cons_of_neg hk]
      exact ih
theorem foldl_rep (u : Array Nat) : ∀ (n : Nat) (acc : Array Nat), ((List.replicate n u).foldl (· ++ ·) acc).toList = acc.toList ++ (List.replicate n u.toList).flatten
  | 0, acc => by simp
  | n + 1, acc => by
    rw [List.replicate_succ, List.foldl_cons, foldl_rep u n (acc ++ u), List.replicate_succ, List.flatten_cons]
    simp
theorem rep_codes (u : List Ltr) : ∀ n : Nat, (rep n u).map Ltr.code = (List.replicate n (u.map Ltr.code)).flatten
  | 0 => rfl
  | n + 1 => by rw [rep_succ, List.map_append, rep_codes u n, List.replicate_succ, List.flatten_cons]
theorem mul_w (u : List Ltr) {n : Int} (h0 : 0 ≤ n) (hn : n ≤ 2000) (hu : u.length = 2) : PySem.MulOk (wstr u) n ∧ PySem.Txt.mul (wstr u) n = wstr (rep n.toNat u) := by
  have hl : (wstr u).length = 2 := by rw [wstr_size]; exact hu
  constructor
  · refine ⟨by simp; omega, fun h1 _ => ?_, fun h1 _ => ?_⟩
    · rw [hl]
      have : 2 ≤ (2 ^ 63 - 1) / n := (Int.le_ediv_iff_mul_le (by omega)).mpr (by omega)
      omega
    · rw [hl]
      show decide (2 * n.toNat > sizeLine) = false
      rw [sizeLine_eq]
      simp
      omega
  · unfold PySem.Txt.mul
    have full : (⟨(List.replicate n.toNat (wstr u).cps).foldl (· ++ ·) #[]⟩ : Str) = wstr (rep n.toNat u) := by
      have e := foldl_rep (wstr u).cps n.toNat #[]
      unfold wstr
      rw [rep_codes]
      congr 1
      apply Array.ext'
      rw [show (wstr u).cps = (u.map Ltr.code).toArray from rfl] at e
      simpa using e
    split
    · have : n = 0 := by omega
      subst this
      rfl
    · split
      · rename_i h1 h2
        rw [hl] at h2
        have : n = 1 := by simpa using h2
        subst this
        show wstr u = wstr (rep 1 u)
        rw [show rep 1 u = u by simp [rep]]
      · exact full
end Q
namespace Q
open PySem PySem.Spec PyProof.Rows L2
open PySem.W (minD dataLt AlikeAll alike alikeAll keyToksAll dataLt_str dataLt_tuple dataLt_all_yes dataLt_all_no)
/-! ### conjugate words -/
theorem Cj.refl (w : List Ltr) : Cj w w := ⟨[], by simp [turned]⟩
theorem Cj.of {w u : List Ltr} (C : List Ltr) (h : wmt (C ++ w ++ turned C) = wmt u) : Cj w u := ⟨C, h⟩
theorem wmt_back (C w : List Ltr) : wmt (turned C ++ (C ++ w ++ turned C) ++ C) = wmt w := by
  have e1 : wmt (turned C ++ C) = wmt [] := by
    rw [wmt_app, wmt_turned]
    rw [Mt.nf_mul_l (by rw [Mt.det_adj]; exact (wmt_ok C).1) (wmt_ok C).1, Mt.adj_mul _ (wmt_ok C).1]
    decide
  have a1 : turned C ++ (C ++ w ++ turned C) ++ C = [] ++ (turned C ++ C) ++ (w ++ (turned C ++ C)) := by simp
  rw [a1, wmt_mid e1]
  have a2 : ([] : List Ltr) ++ [] ++ (w ++ (turned C ++ C)) = w ++ (turned C ++ C) ++ [] := by simp
  rw [a2, wmt_mid e1]
  simp
theorem Cj.symm {w u : List Ltr} (h : Cj w u) : Cj u w := by
  obtain ⟨C, h⟩ := h
  refine ⟨turned C, ?_⟩
  rw [turned_turned, ← wmt_mid h (turned C) C, wmt_back]
theorem Cj.trans {w u v : List Ltr} (h : Cj w u) (h' : Cj u v) : Cj w v := by
  obtain ⟨C, h⟩ := h
  obtain ⟨D, h'⟩ := h'
  refine ⟨D ++ C, ?_⟩
  have : (D ++ C) ++ w ++ turned (D ++ C) = D ++ (C ++ w ++ turned C) ++ turned D := by simp [turned_app]
  rw [this, wmt_mid h, h']
theorem Cj.same {u v : List Ltr} (h : Cj u v) (hu : Cyc u) (hv : Cyc v) : Same2 u v := by
  obtain ⟨C, h⟩ := h
  refine cyc_conj _ (red C) u v (Nat.le_refl _) (isW_red C) hu hv ?_
  rw [← h, wmt_app, wmt_app (C ++ u), wmt_app, wmt_app C, wmt_turned, wmt_turned, wmt_red]
theorem lew_anti {u v : List Ltr} (h : lew u v) (h' : lew v u) : u = v := codes_inj (List.le_antisymm h h')
theorem LeastOf.uniq {w w' c c' : List Ltr} (h : LeastOf w c) (h' : LeastOf w' c') (hj : Cj w w') : c = c' := by
  obtain ⟨u, h1, h2, h3, h4⟩ := h
  obtain ⟨u', k1, k2, k3, k4⟩ := h'
  have sm := ((h2.symm.trans hj).trans k2).same h1 k1
  exact lew_anti (h4 _ ((sm _).mpr k3)) (k4 _ ((sm _).mp h3))
theorem memR_zero (u : List Ltr) : memR u u := ⟨0, by omega, by simp⟩
theorem memR_len {u z : List Ltr} (h : memR u z) : z.length = u.length := by
  obtain ⟨k, hk, rfl⟩ := h
  simp; omega
theorem memR_cj {u z : List Ltr} (h : memR u z) : Cj z u := by
  obtain ⟨k, hk, rfl⟩ := h
  refine ⟨u.take (2 * k), ?_⟩
  have e : u.take (2 * k) ++ (u.drop (2 * k) ++ u.take (2 * k)) ++ turned (u.take (2 * k)) = (u.take (2 * k) ++ u.drop (2 * k)) ++ (u.take (2 * k) ++ turned (u.take (2 * k))) ++ [] := by simp only [List.append_assoc, List.append_nil]
  have e1 : wmt (u.take (2 * k) ++ turned (u.take (2 * k))) = wmt [] := by
    rw [wmt_app, wmt_turned, Mt.nf_mul_r (wmt_ok _).1 (by rw [Mt.det_adj]; exact (wmt_ok _).1), Mt.mul_adj _ (wmt_ok _).1]
    decide
  rw [e, wmt_mid e1, List.take_append_drop]
  simp
theorem r2_cyc {u : List Ltr} (h : Cyc u) (h2 : 2 ≤ u.length) : Cyc (r2 u) := by
  have ev := cyc_even h h2
  rcases h with ⟨wu, h1 | ⟨m, y, eu, hy⟩⟩
  · omega
  · obtain ⟨z0, t, et⟩ : ∃ z0 t, m ++ [y] = z0 :: t := by cases m with | nil => exact ⟨_, _, rfl⟩ | cons a b => exact ⟨_, _, rfl⟩
    have wu' := wu
    rw [eu, et] at wu'
    have hz0 : z0 ≠ .S := fun z => by subst z; have := isW_head wu'; cases this
    have e2 : r2 u = t ++ [.S, z0] := by rw [eu, et]; rfl
    rw [e2]
    cases t with
    | nil => exact ⟨by simp [isW, (fits_S hz0).1], .inr ⟨[], z0, rfl, hz0⟩⟩
    | cons b t' =>
      have hb : b = .S := fits_nS (isW_head (isW_tail wu')) hz0
      subst hb
      refine ⟨isW_app (isW_tail (isW_tail wu')) (by simp [isW, (fits_S hz0).1]) fun x y' e1 e3 => ?_, .inr ⟨t' ++ [.S], z0, by simp, hz0⟩⟩
      cases e3
      have : (m ++ [y]).getLast? = some x := by rw [et, List.getLast?_cons_cons]; exact e1
      rw [last_of] at this
      cases this
      exact (fits_S hy).2
theorem rot_cyc : ∀ (k : Nat) (u : List Ltr), Cyc u → 2 * k < max 1 u.length → Cyc (u.drop (2 * k) ++ u.take (2 * k))
  | 0, u, h, _ => by simpa using h
  | k + 1, u, h, hk => by
    have h2 : 2 ≤ u.length := by omega
    have ih := rot_cyc k (r2 u) (r2_cyc h h2) (by simp [r2]; omega)
    have e : (r2 u).drop (2 * k) ++ (r2 u).take (2 * k) = u.drop (2 * (k + 1)) ++ u.take (2 * (k + 1)) := by
      unfold r2
      have l1 : (u.drop 2).length = u.length - 2 := by simp
      rw [List.drop_append_of_le_length (by omega), List.take_append_of_le_length (by omega), List.drop_drop, show 2 + 2 * k = 2 * (k + 1) by omega]
      have : u.take (2 * (k + 1)) = u.take 2 ++ (u.drop 2).take (2 * k) := by
        rw [show 2 * (k + 1) = 2 + 2 * k by omega, List.take_add]
      rw [this, List.append_assoc]
    rw [e] at ih
    exact ih
theorem memR_cyc {u z : List Ltr} (hu : Cyc u) (h : memR u z) : Cyc z := by
  obtain ⟨k, hk, rfl⟩ := h
  exact rot_cyc k u hu hk
theorem LeastOf.cyc {w c : List Ltr} (h : LeastOf w c) : Cyc c ∧ Cj w c := by
  obtain ⟨u, h1, h2, h3, _⟩ := h
  exact ⟨memR_cyc h1 h3, h2.trans (memR_cj h3).symm⟩
/-! ### the least of a list of texts -/
theorem minD_str : ∀ (ss : List Str) (s : Str), ∃ r, minD (.str s) (ss.map .str) = .str r ∧ r ∈ s :: ss ∧ ∀ t ∈ s :: ss, ¬ (t.cps.toList < r.cps.toList)
  | [], s => ⟨s, rfl, List.mem_cons_self, fun t ht => by simp at ht; subst ht; exact List.lt_irrefl _⟩
  | x :: ss, s => by
    have e : minD (.str s) ((x :: ss).map .str) = minD (.str (if x.cps.toList < s.cps.toList then x else s)) (ss.map .str) := by
      show minD (if dataLt (.str x) (.str s) = true then .str x else .str s) (ss.map .str) = _
      rw [dataLt_str]
      by_cases q : x.cps.toList < s.cps.toList
      · rw [if_pos q, if_pos (decide_eq_true q)]
      · rw [if_neg q, if_neg (fun z => q (of_decide_eq_true z))]
    obtain ⟨r, h1, h2, h3⟩ := minD_str ss (if x.cps.toList < s.cps.toList then x else s)
    refine ⟨r, e.trans h1, ?_, ?_⟩
    · rcases List.mem_cons.mp h2 with z | z
      · rw [z]; split <;> simp
      · simp [z]
    · have h0 := h3 _ List.mem_cons_self
      intro t ht
      rcases List.mem_cons.mp ht with z | z
      · subst z
        by_cases q : x.cps.toList < t.cps.toList
        · rw [if_pos q] at h0
          exact fun hlt => h0 (List.lt_trans q hlt)
        · rw [if_neg q] at h0; exact h0
      · rcases List.mem_cons.mp z with z | z
        · subst z
          by_cases q : t.cps.toList < s.cps.toList
          · rw [if_pos q] at h0; exact h0
          · rw [if_neg q] at h0
            exact fun hlt => h0 (by
              have : ¬ s.cps.toList < r.cps.toList := h0
              exact absurd (List.lt_of_le_of_lt (show s.cps.toList ≤ t.cps.toList from q) hlt) this)
        · exact h3 t (List.mem_cons_of_mem _ z)
theorem alike_strs (ss : List Str) : AlikeAll (ss.map .str) := ⟨fun x hx y hy => by
  obtain ⟨a, _, rfl⟩ := List.mem_map.mp hx
  obtain ⟨b, _, rfl⟩ := List.mem_map.mp hy
  rfl, fun x hx => by
  obtain ⟨a, _, rfl⟩ := List.mem_map.mp hx
  exact fun z => nomatch z⟩
/-- pairs of texts -/
def pd (p : Str × Str) : PyData := .tuple [.str p.1, .str p.2]
theorem pd_lt1 {p q : Str × Str} (h : p.1.cps.toList < q.1.cps.toList) : dataLt (pd p) (pd q) = true := by
  unfold pd
  rw [dataLt_tuple, dataLt_all_no rfl, dataLt_str]
  · exact decide_eq_true h
  · show (p.1 == q.1) = false
    refine beq_false_of_ne fun z => ?_
    rw [z] at h
    exact List.lt_irrefl _ h
theorem pd_lt2 {p q : Str × Str} (h : dataLt (pd p) (pd q) = true) : ¬ (q.1.cps.toList < p.1.cps.toList) := by
  intro z
  have h1 : PyData.eqv (.str p.1) (.str q.1) = false := by
    show (p.1 == q.1) = false
    refine beq_false_of_ne fun e => ?_
    rw [e] at z
    exact List.lt_irrefl _ z
  unfold pd at h
  rw [dataLt_tuple, dataLt_all_no rfl h1, dataLt_str] at h
  exact List.lt_irrefl _ (List.lt_trans z (of_decide_eq_true h))
theorem minD_pairs : ∀ (ss : List (Str × Str)) (s : Str × Str), ∃ r, minD (pd s) (ss.map pd) = pd r ∧ r ∈ s :: ss ∧ ∀ t ∈ s :: ss, ¬ (t.1.cps.toList < r.1.cps.toList)
  | [], s => ⟨s, rfl, List.mem_cons_self, fun t ht => by simp at ht; subst ht; exact List.lt_irrefl _⟩
  | x :: ss, s => by
    by_cases q : dataLt (pd x) (pd s) = true
    · have e : minD (pd s) ((x :: ss).map pd) = minD (pd x) (ss.map pd) := by
        show minD (if dataLt (pd x) (pd s) = true then pd x else pd s) (ss.map pd) = _
        rw [if_pos q]
      obtain ⟨r, h1, h2, h3⟩ := minD_pairs ss x
      refine ⟨r, e.trans h1, List.mem_cons_of_mem _ h2, fun t ht => ?_⟩
      rcases List.mem_cons.mp ht with z | z
      · subst z
        have a1 := pd_lt2 q
        have a2 := h3 x List.mem_cons_self
        exact fun hlt => a2 (List.lt_of_le_of_lt (show x.1.cps.toList ≤ t.1.cps.toList from a1) hlt)
      · exact h3 t z
    · have e : minD (pd s) ((x :: ss).map pd) = minD (pd s) (ss.map pd) := by
        show minD (if dataLt (pd x) (pd s) = true then pd x else pd s) (ss.map pd) = _
        rw [if_neg q]
      obtain ⟨r, h1, h2, h3⟩ := minD_pairs ss s
      have hx : ¬ (x.1.cps.toList < s.1.cps.toList) := fun z => q (pd_lt1 z)
      refine ⟨r, e.trans h1, ?_, fun t ht => ?_⟩
      · rcases List.mem_cons.mp h2 with z | z <;> simp [z]
      · rcases List.mem_cons.mp ht with z | z
        · subst z; exact h3 t List.mem_cons_self
        · rcases List.mem_cons.mp z with z | z
          · subst z
            have a2 := h3 s List.mem_cons_self
            exact fun hlt => a2 (List.lt_of_le_of_lt (show s.1.cps.toList ≤ t.1.cps.toList from hx) hlt)
          · exact h3 t (List.mem_cons_of_mem _ z)
theorem alike_pairs (ss : List (Str × Str)) : AlikeAll (ss.map pd) := ⟨fun x hx y hy => by
  obtain ⟨a, _, rfl⟩ := List.mem_map.mp hx
  obtain ⟨b, _, rfl⟩ := List.mem_map.mp hy
  rfl, fun x hx => by
  obtain ⟨a, _, rfl⟩ := List.mem_map.mp hx
  exact fun z => nomatch z⟩
/-! ### slices of words -/
theorem cutS_w (w : List Ltr) (lo hi : Option Int) : cutS (wstr w) lo hi = wstr ((w.drop (HT.sIx w.length 0 lo)).take (HT.sIx w.length w.length hi - HT.sIx w.length 0 lo)) := by
  unfold cutS wstr
  simp [Str.length, List.map_drop, List.map_take]
theorem cut_drop (w : List Ltr) {n : Nat} (h : n ≤ w.length) : cutS (wstr w) (some (n : Int)) none = wstr (w.drop n) := by
  rw [cutS_w, HT.sIx_nat, HT.sIx_none, Nat.min_eq_left h, List.take_of_length_le (by simp)]
theorem cut_take (w : List Ltr) {n : Nat} (h : n ≤ w.length) : cutS (wstr w) none (some (n : Int)) = wstr (w.take n) := by
  rw [cutS_w, HT.sIx_nat, HT.sIx_none, Nat.min_eq_left h]
  simp
theorem cut_mid {m : List Ltr} {a b : Ltr} : cutS (wstr (a :: (m ++ [b]))) (some 1) (some (-1)) = wstr m := by
  rw [cutS_w]
  have e1 : HT.sIx (a :: (m ++ [b])).length 0 (some 1) = 1 := by unfold HT.sIx; simp
  have e2 : HT.sIx (a :: (m ++ [b])).length (a :: (m ++ [b])).length (some (-1)) = m.length + 1 := by unfold HT.sIx; simp; omega
  rw [e1, e2]
  simp
theorem cut_init {m : List Ltr} {b : Ltr} : cutS (wstr (m ++ [b])) none (some (-1)) = wstr m := by
  rw [cutS_w]
  have e2 : HT.sIx (m ++ [b]).length (m ++ [b]).length (some (-1)) = m.length := by unfold HT.sIx; simp; omega
  rw [e2, HT.sIx_none]
  simp
theorem at_first (a : Ltr) (m : List Ltr) : atI (wstr (a :: m)).cps.toList 0 = some a.code := by
  have : (wstr (a :: m)).cps.toList = a.code :: m.map Ltr.code := by simp [wstr]
  rw [this, atI0]
theorem shape2 (w : List Ltr) : w.length < 2 ∨ ∃ a m b, w = a :: (m ++ [b]) := by
  cases w with
  | nil => exact .inl (by simp)
  | cons a t =>
    cases t with
    | nil => exact .inl (by simp)
    | cons x t =>
      obtain ⟨m, b, e⟩ := snoc_split (x :: t) (by simp)
      exact .inr ⟨a, m, b, by rw [e]⟩
theorem at_lastW (m : List Ltr) (a b : Ltr) : atI (wstr (a :: (m ++ [b]))).cps.toList (-1) = some b.code := wstr_last (a :: m) b
theorem codeS {l : Ltr} : ((⟨#[l.code]⟩ : Str) == ⟨#[83]⟩) = decide (l = .S) := by cases l <;> decide
theorem isCyc_iff {u : List Ltr} (h : isW u = true) : isCyc u = true ↔ Cyc u := by
  rcases shape2 u with hl | ⟨a, m, b, e⟩
  · exact ⟨fun _ => ⟨h, .inl hl⟩, fun _ => by simp [isCyc, hl]⟩
  · subst e
    have e1 : isCyc (a :: (m ++ [b])) = (decide (a = .S) && decide (b ≠ .S)) := by
      unfold isCyc
      rw [show (a :: (m ++ [b])).getLast? = some b from last_of (u := a :: m)]
      simp
      omega
    rw [e1]
    constructor
    · intro z
      simp at z
      exact ⟨h, .inr ⟨m, b, by rw [z.1], z.2⟩⟩
    · rintro ⟨_, h1 | ⟨m', y, e, hy⟩⟩
      · simp at h1; omega
      · obtain ⟨rfl, e2⟩ := List.cons.inj e
        have := (List.append_inj' e2 rfl).2
        have e3 : b = y := by simpa using this
        subst e3
        simp [hy]
end Q
namespace Q
open PySem PySem.Spec PyProof.Rows L2
open PySem.W (minD dataLt AlikeAll alike alikeAll)
/-! ### the rounds of a cyclic word, one after another -/
def rd (u : List Ltr) (k : Nat) : List Ltr := u.drop (2 * k) ++ u.take (2 * k)
def rn (u : List Ltr) : Nat := (max 1 u.length + 1) / 2
theorem rd_len {u : List Ltr} {k : Nat} (h : k < rn u) : (rd u k).length = u.length := by
  unfold rn at h; unfold rd
  simp; omega
theorem memR_rd {u z : List Ltr} : memR u z ↔ ∃ k, k < rn u ∧ z = rd u k := by
  unfold memR rn rd
  constructor
  · rintro ⟨k, h, e⟩; exact ⟨k, by omega, e⟩
  · rintro ⟨k, h, e⟩; exact ⟨k, by omega, e⟩
theorem least_of_min {w u : List Ltr} (hu : Cyc u) (cj : Cj w u) {k : Nat} (hk : k < rn u) (h : ∀ j, j < rn u → ¬ ((rd u j).map Ltr.code < (rd u k).map Ltr.code)) : LeastOf w (rd u k) :=
  ⟨u, hu, cj, memR_rd.mpr ⟨k, hk, rfl⟩, fun z hz => by obtain ⟨j, hj, rfl⟩ := memR_rd.mp hz; exact h j hj⟩
theorem least_short {w u : List Ltr} (hu : isW u = true) (h2 : u.length < 2) (cj : Cj w u) : LeastOf w u :=
  ⟨u, ⟨hu, .inl h2⟩, cj, memR_zero u, fun z hz => by
    obtain ⟨k, hk, rfl⟩ := hz
    have : k = 0 := by omega
    subst this
    simp [lew, List.lt_irrefl]⟩
theorem wcodes (w : List Ltr) : (wstr w).cps.toList = w.map Ltr.code := by simp [wstr]
theorem rn_succ (u : List Ltr) : ∃ n, rn u = n + 1 := ⟨rn u - 1, by unfold rn; omega⟩
theorem range_cons {α} (f : Nat → α) (n : Nat) : (List.range (n + 1)).map f = f 0 :: (List.range n).map (fun i => f (i + 1)) := by
  rw [List.range_succ_eq_map]; simp [Function.comp_def]
theorem min_rounds {w u : List Ltr} (hu : Cyc u) (cj : Cj w u) : ∃ d ds, datL ((List.range (rn u)).map fun k => wpv (rd u k)) = some (d :: ds) ∧ AlikeAll (d :: ds) ∧ PyData.depthAll (d :: ds) ≤ 60 ∧ ∀ (i : Nat) (x : PV), ((List.range (rn u)).map fun k => wpv (rd u k))[i]? = some x → dat x = some (minD d ds) → ∃ c, x = wpv c ∧ LeastOf w c ∧ c.length = u.length := by
  have e0 : ((List.range (rn u)).map fun k => wpv (rd u k)) = ((List.range (rn u)).map (rd u)).map wpv := by simp
  have ed : ((List.range (rn u)).map (rd u)).map (fun w => PyData.str (wstr w)) = (((List.range (rn u)).map (rd u)).map wstr).map .str := by simp
  obtain ⟨n, en⟩ := rn_succ u
  obtain ⟨c0, cs, ec⟩ : ∃ c0 cs, (List.range (rn u)).map (rd u) = c0 :: cs := ⟨_, _, by rw [en]; exact range_cons _ n⟩
  have hD := datL_w ((List.range (rn u)).map (rd u))
  have hdp := depthAll_w ((List.range (rn u)).map (rd u))
  have hal := alike_strs (((List.range (rn u)).map (rd u)).map wstr)
  rw [← e0, ed] at hD
  rw [ed] at hdp
  have e1 : (((List.range (rn u)).map (rd u)).map wstr).map PyData.str = .str (wstr c0) :: (cs.map wstr).map .str := by rw [ec]; rfl
  rw [e1] at hD hdp hal
  refine ⟨_, _, hD, hal, Nat.le_trans hdp (by decide), fun i x hx hm => ?_⟩
  obtain ⟨r, h1, h2, h3⟩ := minD_str (cs.map wstr) (wstr c0)
  rw [h1] at hm
  have hi : i < rn u := by
    have := (List.getElem?_eq_some_iff.mp hx).1
    simpa using this
  have ex : x = wpv (rd u i) := by
    rw [List.getElem?_map, List.getElem?_range hi] at hx
    exact (Option.some.inj hx).symm
  subst ex
  have er : wstr (rd u i) = r := by
    have : some (PyData.str (wstr (rd u i))) = some (.str r) := hm
    injection this with this
    injection this
  refine ⟨_, rfl, least_of_min hu cj hi fun j hj => ?_, rd_len hi⟩
  have hmem : wstr (rd u j) ∈ wstr c0 :: cs.map wstr := by
    rw [← List.map_cons, ← ec]
    exact List.mem_map.mpr ⟨_, List.mem_map.mpr ⟨j, List.mem_range.mpr hj, rfl⟩, rfl⟩
  have := h3 _ hmem
  rw [← er, wcodes, wcodes] at this
  exact this
/-! ### the same with what was turned away -/
def tp (u : List Ltr) (k : Nat) : Str × Str := (wstr (rd u k), wstr (u.take (2 * k)))
def tpv (p : Str × Str) : PV := .tup [.str p.1, .str p.2]
theorem datL_tp : ∀ l : List (Str × Str), datL (l.map tpv) = some (l.map pd)
  | [] => rfl
  | p :: l => by
    rw [List.map_cons, List.map_cons]
    show (match dat (tpv p), datL (l.map tpv) with | some d, some ds => some (d :: ds) | _, _ => none) = _
    rw [datL_tp l]
    rfl
theorem depthAll_tp : ∀ l : List (Str × Str), PyData.depthAll (l.map pd) ≤ 10
  | [] => by simp [PyData.depthAll]
  | p :: l => by
    have := depthAll_tp l
    simp [PyData.depthAll, pd, PyData.depth]
    omega
theorem min_turns {w u : List Ltr} (hu : Cyc u) (cj : Cj w u) : ∃ d ds, datL ((List.range (rn u)).map fun k => tpv (tp u k)) = some (d :: ds) ∧ AlikeAll (d :: ds) ∧ PyData.depthAll (d :: ds) ≤ 60 ∧ ∀ (i : Nat) (x : PV), ((List.range (rn u)).map fun k => tpv (tp u k))[i]? = some x → dat x = some (minD d ds) → ∃ k, k < rn u ∧ x = .tup [wpv (rd u k), wpv (u.take (2 * k))] ∧ LeastOf w (rd u k) := by
  have e0 : ((List.range (rn u)).map fun k => tpv (tp u k)) = ((List.range (rn u)).map (tp u)).map tpv := by simp
  obtain ⟨n, en⟩ := rn_succ u
  obtain ⟨c0, cs, ec⟩ : ∃ c0 cs, (List.range (rn u)).map (tp u) = c0 :: cs := ⟨_, _, by rw [en]; exact range_cons _ n⟩
  have hD := datL_tp ((List.range (rn u)).map (tp u))
  have hdp := depthAll_tp ((List.range (rn u)).map (tp u))
  have hal := alike_pairs ((List.range (rn u)).map (tp u))
  rw [← e0] at hD
  rw [ec, List.map_cons] at hdp hal hD
  refine ⟨_, _, hD, hal, Nat.le_trans hdp (by decide), fun i x hx hm => ?_⟩
  obtain ⟨r, h1, h2, h3⟩ := minD_pairs cs c0
  rw [h1] at hm
  have hi : i < rn u := by
    have := (List.getElem?_eq_some_iff.mp hx).1
    simpa using this
  have ex : x = tpv (tp u i) := by
    rw [List.getElem?_map, List.getElem?_range hi] at hx
    exact (Option.some.inj hx).symm
  subst ex
  have er : wstr (rd u i) = r.1 := by
    have : some (pd (tp u i)) = some (pd r) := hm
    injection this with this
    unfold pd at this
    injection this with this
    injection this with this _
    injection this
  refine ⟨i, hi, rfl, least_of_min hu cj hi fun j hj => ?_⟩
  have hmem : tp u j ∈ c0 :: cs := by
    rw [← ec]
    exact List.mem_map.mpr ⟨j, List.mem_range.mpr hj, rfl⟩
  have := h3 _ hmem
  rw [← er] at this
  have e2 : (tp u j).1 = wstr (rd u j) := rfl
  rw [e2, wcodes, wcodes] at this
  exact this
end Q
namespace Q
open PySem PySem.Spec PyProof.Rows L2
theorem red2_len {a b : Ltr} (h : Ltr.fits b a = false) : (red [b, a]).length ≤ 1 := by
  revert h; cases a <;> cases b <;> decide
theorem red2_fit {a b : Ltr} (h : Ltr.fits b a = true) : red [b, a] = [b, a] := by
  revert h; cases a <;> cases b <;> decide
theorem red2_S {a b : Ltr} (h : Ltr.fits b a = false) (hb : b ≠ .S) : ∀ x ∈ red [b, a], x ≠ .S := by
  revert h hb; cases a <;> cases b <;> decide
theorem red2_SS {a b : Ltr} (h : Ltr.fits b a = false) (hb : b = .S) : red [b, a] = [] := by
  subst hb; revert h; cases a <;> decide
/-- one step of the law -/
theorem step_round {w m : List Ltr} {a b : Ltr} (cj : Cj w (a :: (m ++ [b]))) (hf : Ltr.fits b a = false) : Cj w (red (b :: a :: m)) ∧ (red (b :: a :: m)).length < m.length + 2 := by
  constructor
  · refine cj.trans ⟨[b], ?_⟩
    have e : [b] ++ (a :: (m ++ [b])) ++ turned [b] = (b :: a :: m) ++ [b, b.inv] ++ [] := by simp [turned]
    rw [e, wmt_mid (pair_one b).1, wmt_red]
    simp
  · have e : b :: a :: m = [b, a] ++ m := rfl
    rw [e, ← red_red]
    refine Nat.lt_of_le_of_lt (red_len _) ?_
    have := red2_len hf
    simp; omega
theorem head_S {a b : Ltr} {m : List Ltr} (hw : isW (a :: (m ++ [b])) = true) (hf : Ltr.fits b a = true) (ha : a = .S) : Cyc (a :: (m ++ [b])) := by
  subst ha
  exact ⟨hw, .inr ⟨m, b, rfl, by rw [fitsC] at hf; intro z; subst z; cases hf⟩⟩
theorem head_R {w m : List Ltr} {a b : Ltr} (cj : Cj w (a :: (m ++ [b]))) (hw : isW (a :: (m ++ [b])) = true) (hf : Ltr.fits b a = true) (ha : a ≠ .S) : Cyc (b :: a :: m) ∧ Cj w (b :: a :: m) := by
  have hb : b = .S := nS_fits hf ha
  subst hb
  have e1 : a :: (m ++ [Ltr.S]) = (a :: m) ++ [.S] := rfl
  obtain ⟨m', y, e⟩ := snoc_split (a :: m) (by simp)
  have hs := isW_split (u := a :: m) (v := [.S]) (e1 ▸ hw)
  refine ⟨⟨isW_cons hs.1 fun z hz => by cases hz; exact hf, .inr ⟨m', y, by rw [e], ?_⟩⟩, cj.trans ⟨[.S], ?_⟩⟩
  · exact S_fits (hs.2.2 y .S (by rw [e]; simp) rfl)
  · have e : [Ltr.S] ++ (a :: (m ++ [.S])) ++ turned [.S] = (.S :: a :: m) ++ [.S, Ltr.S.inv] ++ [] := by simp [turned]
    rw [e, wmt_mid (pair_one .S).1]
    simp
/-- one step of the program -/
theorem parts_step {w m : List Ltr} {a b : Ltr} (hw : isW (a :: (m ++ [b])) = true) (hn : isCyc (a :: (m ++ [b])) = false) : isW (m ++ red [b, a]) = true ∧ (isCyc (m ++ red [b, a]) = true ∧ (m ++ red [b, a]).length ≤ m.length + 2 ∨ (m ++ red [b, a]).length ≤ m.length + 1 ∧ (red [b, a]).length ≤ 1) := by
  have h1 := isW_split (u := a :: m) (v := [b]) hw
  have wm : isW m = true := isW_tail h1.1
  by_cases hf : Ltr.fits b a = true
  · have ha : a ≠ .S := fun z => by
      have := (isCyc_iff hw).mpr (head_S hw hf z)
      rw [hn] at this; cases this
    have hb : b = .S := nS_fits hf ha
    subst hb
    rw [red2_fit hf]
    have hc : Cyc (m ++ [.S, a]) := by
      cases m with
      | nil => exact ⟨by simp [isW, hf], .inr ⟨[], a, rfl, ha⟩⟩
      | cons x t =>
        have hx : x = .S := fits_nS (isW_head h1.1) ha
        subst hx
        have h2 := h1.2.2
        refine ⟨isW_app wm (by simp [isW, hf]) fun p q hp hq => ?_, .inr ⟨t ++ [.S], a, by simp, ha⟩⟩
        cases hq
        exact h2 p .S (by rw [List.getLast?_cons_cons]; exact hp) rfl
    exact ⟨hc.1, .inl ⟨(isCyc_iff hc.1).mpr hc, by simp⟩⟩
  · have hf : Ltr.fits b a = false := by simpa using hf
    have l1 := red2_len hf
    refine ⟨?_, .inr ⟨by simp; omega, l1⟩⟩
    by_cases hb : b = .S
    · rw [red2_SS hf hb]; simpa using wm
    · refine isW_app wm (isW_red _) fun p q hp hq => ?_
      have hq' := red2_S hf hb q (List.mem_of_mem_head? hq)
      have : Ltr.fits p b = true := h1.2.2 p b (by
        cases m with
        | nil => cases hp
        | cons x t => rw [List.getLast?_cons_cons]; exact hp) rfl
      have hp' : p = .S := nS_fits this hb
      subst hp'
      exact (fits_S hq').1
theorem parts_conj {w m C : List Ltr} {a b : Ltr} (h : wmt (C ++ (a :: (m ++ [b])) ++ turned C) = wmt w) : wmt ((C ++ [a]) ++ (m ++ red [b, a]) ++ turned (C ++ [a])) = wmt w := by
  have e1 : (C ++ [a]) ++ (m ++ red [b, a]) ++ turned (C ++ [a]) = (C ++ [a] ++ m) ++ red [b, a] ++ ([a.inv] ++ turned C) := by simp [turned_app, turned_one]
  have e2 : (C ++ [a] ++ m) ++ [b, a] ++ ([a.inv] ++ turned C) = (C ++ [a] ++ m ++ [b]) ++ [a, a.inv] ++ turned C := by simp
  rw [e1, wmt_mid (wmt_red [b, a]), e2, wmt_mid (pair_one a).1, ← h]
  simp
theorem parts_end {w u C : List Ltr} (k : Nat) (h : wmt (C ++ u ++ turned C) = wmt w) : wmt ((C ++ u.take (2 * k)) ++ rd u k ++ turned (C ++ u.take (2 * k))) = wmt w := by
  have e1 : wmt (u.take (2 * k) ++ turned (u.take (2 * k))) = wmt [] := by
    rw [wmt_app, wmt_turned, Mt.nf_mul_r (wmt_ok _).1 (by rw [Mt.det_adj]; exact (wmt_ok _).1), Mt.mul_adj _ (wmt_ok _).1]
    decide
  have e : (C ++ u.take (2 * k)) ++ rd u k ++ turned (C ++ u.take (2 * k)) = (C ++ (u.take (2 * k) ++ u.drop (2 * k))) ++ (u.take (2 * k) ++ turned (u.take (2 * k))) ++ turned C := by
    unfold rd
    simp only [turned_app, List.append_assoc]
  rw [e, wmt_mid e1, List.take_append_drop, ← h]
  simp
/-- what is left begins as the word, after what was moved -/
def Left (w u : List Ltr) (j : Nat) : Prop := isCyc u = true ∨ ∃ p q, u = p ++ q ∧ q.length ≤ 1 ∧ p <+: w.drop j
theorem Left.start (w : List Ltr) : Left w w 0 := .inr ⟨w, [], by simp, by simp, by simp⟩
theorem Left.first {w m : List Ltr} {a b : Ltr} {j : Nat} (h : Left w (a :: (m ++ [b])) j) (hn : isCyc (a :: (m ++ [b])) = false) : w.take (j + 1) = w.take j ++ [a] ∧ j < w.length ∧ m <+: w.drop (j + 1) := by
  rcases h with h | ⟨p, q, e, hq, hp⟩
  · rw [hn] at h; cases h
  · obtain ⟨s, es⟩ := hp
    cases p with
    | nil =>
      have := congrArg List.length e
      simp at this; omega
    | cons x p =>
      simp only [List.cons_append, List.cons.injEq] at e
      obtain ⟨rfl, e⟩ := e
      have hj : j < w.length := by
        have := congrArg List.length es
        simp at this; omega
      have hd : w.drop j = w[j] :: w.drop (j + 1) := (List.drop_eq_getElem_cons hj)
      rw [hd] at es
      simp only [List.cons_append, List.cons.injEq] at es
      refine ⟨by rw [List.take_add_one, List.getElem?_eq_getElem hj, ← es.1]; rfl, hj, ?_⟩
      rw [← es.2]
      have : m <+: p := by
        have h1 : m <+: p ++ q := ⟨[b], e⟩
        have h2 : p <+: p ++ q := ⟨q, rfl⟩
        refine List.prefix_of_prefix_length_le h1 h2 ?_
        have := congrArg List.length e
        simp at this; omega
      exact this.trans ⟨s, rfl⟩
theorem Left.next {w m : List Ltr} {a b : Ltr} {j : Nat} (h : Left w (a :: (m ++ [b])) j) (hw : isW (a :: (m ++ [b])) = true) (hn : isCyc (a :: (m ++ [b])) = false) : Left w (m ++ red [b, a]) (j + 1) := by
  rcases (parts_step (w := w) hw hn).2 with h1 | h1
  · exact .inl h1.1
  · exact .inr ⟨m, red [b, a], rfl, h1.2, (h.first hn).2.2⟩
theorem cut_drop2 (w : List Ltr) {j : Nat} (h : 2 * j ≤ w.length) : cutS (wstr w) (some (2 * (j : Int))) none = wstr (w.drop (2 * j)) := by
  have := cut_drop w h
  rwa [show ((2 * j : Nat) : Int) = 2 * (j : Int) by omega] at this
theorem cut_take2 (w : List Ltr) {j : Nat} (h : 2 * j ≤ w.length) : cutS (wstr w) none (some (2 * (j : Int))) = wstr (w.take (2 * j)) := by
  have := cut_take w h
  rwa [show ((2 * j : Nat) : Int) = 2 * (j : Int) by omega] at this
theorem opIs_mat {m : Mt} {neg : Bool} {M : PM} {k : PK} : opIs neg m.pv .non M k = k (.bl neg) M := by
  cases neg <;> simp
end Q
namespace Q
open PySem PySem.Spec PyProof.Rows L2
@[simp] def Fr.pv (f : Fr) : PV := .tup [.int f.1, .int f.2]
def asFr : PV → Option Fr
  | .tup [.int p, .int q] => some (p, q)
  | _ => none
def isFr (v : PV) : Bool := match asFr v with
  | some f => decide f.ok
  | none => false
def sp_is_fraction : PSp := fun xs M k _ => ∃ v, xs = [v] ∧ fineM M v ∧ k (.bl (isFr v)) M
/-- .. where it is one -/
def sp_check_fraction : PSp := fun xs M k _ => ∃ v, xs = [v] ∧ fineM M v ∧ isFr v = true ∧ k .non M
def sp_taken : PSp := fun xs M k _ => ∃ (m : Mt) (f : Fr) (n : Nat), xs = [m.pv, f.pv] ∧ m.ok ∧ m.bd n ∧ f.ok ∧ f.bd n ∧ 0 < n ∧ n ≤ 400000 ∧ k (mv m f).pv M
def sp_L_shared : PSp := fun xs M k _ => ∃ a b : Int, xs = [.int a, .int b] ∧ k (.int ((Nat.gcd a.natAbs b.natAbs : Nat) : Int)) M
def sp_L_fraction : PSp := fun xs M k _ => ∃ (a : Addr) (n : Nat), xs = [.ref a] ∧ Src M a n ∧ n + 100 < lim ∧ ∀ (f : Fr) M', f.ok → f.bd 100 → SrcUp M M' a (n + 6) → k f.pv M'
def sp_L_moved : PSp := fun xs M k _ => ∃ (m : Mt) (f : Fr) (n : Nat), xs = [m.pv, f.pv] ∧ m.ok ∧ m.bd n ∧ f.ok ∧ f.bd n ∧ 0 < n ∧ n ≤ 400000 ∧ k (mv m f).pv M
def sp_L_taken_right : PSp := fun xs M k _ => ∃ (a : Addr) (n : Nat), xs = [.ref a] ∧ Src M a n ∧ n + 1000 < lim ∧ ∀ M', SrcUp M M' a (n + 150) → k (.bl true) M'
end Q
namespace Q
open PySem PySem.Spec PyProof.Rows L2
theorem eqv_fr (f g : Fr) : PyData.eqv (.tuple [.int f.1, .int f.2]) (.tuple [.int g.1, .int g.2]) = decide (f = g) := by
  obtain ⟨a, b⟩ := f
  obtain ⟨c, d⟩ := g
  simp [PyData.eqv, PyData.eqvAll, Bool.beq_eq_decide_eq]
theorem dat_fr (f : Fr) : dat f.pv = some (.tuple [.int f.1, .int f.2]) := by simp [dat, datL]
theorem opEq_fr {neg : Bool} {f g : Fr} {M : PM} {k : PK} (h : k (.bl (if neg then !decide (f = g) else decide (f = g))) M) : opEq neg f.pv g.pv M k := by
  refine ⟨_, _, dat_fr f, dat_fr g, by simp [PyData.depth, PyData.depthAll], ?_⟩
  rw [eqv_fr]
  exact h
def dfr (f : Fr) : PyData := .tuple [.int f.1, .int f.2]
theorem datL_frs : ∀ fs : List Fr, datL (fs.map Fr.pv) = some (fs.map dfr)
  | [] => rfl
  | f :: fs => by
    show (match dat f.pv, datL (fs.map Fr.pv) with | some x, some y => some (x :: y) | _, _ => none) = _
    rw [dat_fr, datL_frs fs]
    rfl
theorem eqvAll_frs : ∀ fs gs : List Fr, PyData.eqvAll (fs.map dfr) (gs.map dfr) = decide (fs = gs)
  | [], [] => rfl
  | [], _ :: _ => rfl
  | _ :: _, [] => rfl
  | f :: fs, g :: gs => by
    show (PyData.eqv (dfr f) (dfr g) && PyData.eqvAll (fs.map dfr) (gs.map dfr)) = _
    rw [eqvAll_frs fs gs]
    unfold dfr
    rw [eqv_fr]
    simp
theorem depthAll_frs : ∀ fs : List Fr, PyData.depthAll (fs.map dfr) ≤ 10
  | [] => by decide
  | f :: fs => by
    have := depthAll_frs fs
    simp [PyData.depthAll, dfr, PyData.depth] at *
    omega
theorem opEq_frs {neg : Bool} (fs gs : List Fr) {M : PM} {k : PK} (h : k (.bl (if neg then !decide (fs = gs) else decide (fs = gs))) M) : opEq neg (.lst (fs.map Fr.pv)) (.lst (gs.map Fr.pv)) M k := by
  have e : ∀ fs : List Fr, datM M (.lst (fs.map Fr.pv)) = some (.list (fs.map dfr)) := fun fs => by
    simp only [datM, dat, datL_frs]; rfl
  refine ⟨_, _, e fs, e gs, ?_, ?_⟩
  · have := depthAll_frs fs
    simp only [PyData.depth]
    omega
  · have : PyData.eqv (.list (fs.map dfr)) (.list (gs.map dfr)) = decide (fs = gs) := eqvAll_frs fs gs
    rw [this]
    exact h
theorem isFr_ok {f : Fr} (h : f.ok) : isFr f.pv = true := decide_eq_true h
theorem fine_fr {f : Fr} {M : PM} : fineM M f.pv := .inl rfl
theorem taken_of {m : Mt} {f : Fr} (n : Nat) {M : PM} {k : PK} {ex : PX} (hm : m.ok) (hb : m.bd n) (hf : f.ok) (hfb : f.bd n) (h0 : 0 < n) (hn : n ≤ 400000) (h : k (mv m f).pv M) : sp_taken [m.pv, f.pv] M k ex := ⟨m, f, n, rfl, hm, hb, hf, hfb, h0, hn, h⟩
theorem moved_of {m : Mt} {f : Fr} (n : Nat) {M : PM} {k : PK} {ex : PX} (hm : m.ok) (hb : m.bd n) (hf : f.ok) (hfb : f.bd n) (h0 : 0 < n) (hn : n ≤ 400000) (h : k (mv m f).pv M) : sp_L_moved [m.pv, f.pv] M k ex := ⟨m, f, n, rfl, hm, hb, hf, hfb, h0, hn, h⟩
theorem isfr_of {f : Fr} {M : PM} {k : PK} {ex : PX} (hf : f.ok) (h : k (.bl true) M) : sp_is_fraction [f.pv] M k ex := ⟨f.pv, rfl, .inl rfl, by rw [isFr_ok hf]; exact h⟩
end Q
namespace Q
open PySem PySem.Spec PyProof.Rows L2
/-- values of small kinds, by their depth -/
def ok0 : PV → Prop
  | .int i => i.natAbs < 2 ^ 200
  | .bl _ => True
  | .non => True
  | .str z => z.length ≤ 400 ∧ ∀ c ∈ z.cps.toList, c < 16 ^ 8
  | _ => False
def okR : PV → Prop
  | .tup xs => xs.length ≤ 30 ∧ ∀ x ∈ xs, ok0 x
  | .lst xs => xs.length ≤ 30 ∧ ∀ x ∈ xs, ok0 x
  | x => ok0 x
def okT : PV → Prop
  | .tup xs => xs.length ≤ 30 ∧ ∀ x ∈ xs, okR x
  | .lst xs => xs.length ≤ 30 ∧ ∀ x ∈ xs, okR x
  | x => ok0 x
/-- .. or an empty dict -/
def thing (M : PM) (v : PV) : Prop := okT v ∨ ∃ a, v = .ref a ∧ M a = some (.dK [])
def sp_L_is_a_fraction : PSp := fun xs M k _ => ∃ v, xs = [v] ∧ thing M v ∧ k (.bl (isFr v)) M
def sp_L_near_pairs : PSp := fun xs M k _ => ∃ (a : Addr) (n : Nat), xs = [.ref a] ∧ Src M a n ∧ n + 200 < lim ∧ ∀ (ts : List PV) (M' : PM), ts.length = 15 → (∀ t ∈ ts, thing M' t) → Src M' a (n + 10) → k (.lst ts) M'
end Q
namespace Q
open PySem PySem.Spec PyProof.Rows L2
/-- data that is shown, of depth D and text W at most -/
def DW_ (D W : Nat) (d : PyData) : Prop := d.showable = true ∧ d.hasDict = false ∧ d.depth ≤ D ∧ wt d ≤ W
def DWs (D W : Nat) (ds : List PyData) : Prop := PyData.showableAll ds = true ∧ PyData.hasDictAll ds = false ∧ PyData.depthAll ds ≤ D ∧ wtAll ds ≤ W
theorem dats {D W : Nat} : ∀ xs : List PV, (∀ x ∈ xs, ∃ d, dat x = some d ∧ DW_ D W d) → ∃ ds, datL xs = some ds ∧ DWs D (xs.length * (W + 2)) ds ∧ ds.length = xs.length
  | [], _ => ⟨[], rfl, ⟨rfl, rfl, Nat.zero_le _, Nat.zero_le _⟩, rfl⟩
  | x :: xs, h => by
    obtain ⟨d, e, h1, h2, h3, h4⟩ := h x List.mem_cons_self
    obtain ⟨ds, e2, ⟨k1, k2, k3, k4⟩, k5⟩ := dats xs fun y hy => h y (List.mem_cons_of_mem _ hy)
    refine ⟨d :: ds, ?_, ⟨?_, ?_, ?_, ?_⟩, by simp [k5]⟩
    · show (match dat x, datL xs with | some x, some y => some (x :: y) | _, _ => none) = _
      rw [e, e2]
    · simp only [PyData.showableAll, h1, k1, Bool.and_true]
    · simp only [PyData.hasDictAll, h2, k2, Bool.or_false]
    · simp only [PyData.depthAll]; omega
    · simp only [wtAll, List.length_cons, Nat.add_mul]; omega
theorem ok0_dat : ∀ x : PV, ok0 x → ∃ d, dat x = some d ∧ DW_ 1 4100 d
  | .int i, h => ⟨.int i, rfl, decide_eq_true (Nat.lt_trans (PySem.Flt.log2_lt_of (by decide : 0 < 200) h) (by decide)), rfl, by simp [PyData.depth], by
      have : i.natAbs.log2 < 200 := PySem.Flt.log2_lt_of (by decide) h
      simp only [wt]; omega⟩
  | .bl b, _ => ⟨.bool b, rfl, rfl, rfl, by simp [PyData.depth], by simp [wt]⟩
  | .non, _ => ⟨.none, rfl, rfl, rfl, by decide, by simp [wt]⟩
  | .str z, h => ⟨.str z, rfl, rfl, rfl, by simp [PyData.depth], by
      have := StrLaws.reprText_len z h.2
      have := h.1
      simp only [wt]; omega⟩
  | .tup _, h => h.elim
  | .lst _, h => h.elim
  | .rdl _, h => h.elim
  | .tpx _, h => h.elim
  | .ref _, h => h.elim
  | .ty _, h => h.elim
theorem DW_.mono {D D' W W' : Nat} {d : PyData} (h : DW_ D W d) (h1 : D ≤ D') (h2 : W ≤ W') : DW_ D' W' d := ⟨h.1, h.2.1, Nat.le_trans h.2.2.1 h1, Nat.le_trans h.2.2.2 h2⟩
theorem tup_dat {D W : Nat} {xs : List PV} (hl : xs.length ≤ 30) (h : ∀ x ∈ xs, ∃ d, dat x = some d ∧ DW_ D W d) : (∃ d, dat (.tup xs) = some d ∧ DW_ (D + 1) (30 * (W + 2) + 3) d) ∧ (∃ d, dat (.lst xs) = some d ∧ DW_ (D + 1) (30 * (W + 2) + 3) d) := by
  obtain ⟨ds, e, ⟨k1, k2, k3, k4⟩, k5⟩ := dats xs h
  have : xs.length * (W + 2) ≤ 30 * (W + 2) := Nat.mul_le_mul_right _ hl
  refine ⟨⟨.tuple ds, by simp only [dat, e]; rfl, by simpa [PyData.showable] using k1, by simpa [PyData.hasDict] using k2, by simp only [PyData.depth]; omega, by simp only [wt]; omega⟩,
    ⟨.list ds, by simp only [dat, e]; rfl, by simpa [PyData.showable] using k1, by simpa [PyData.hasDict] using k2, by simp only [PyData.depth]; omega, by simp only [wt]; omega⟩⟩
theorem okR_dat (x : PV) (h : okR x) : ∃ d, dat x = some d ∧ DW_ 2 124000 d := by
  have base : ok0 x → ∃ d, dat x = some d ∧ DW_ 2 124000 d := fun h => let ⟨d, e, w⟩ := ok0_dat x h; ⟨d, e, w.mono (by decide) (by decide)⟩
  cases x with
  | tup xs => obtain ⟨d, e, w⟩ := (tup_dat h.1 fun y hy => ok0_dat y (h.2 y hy)).1; exact ⟨d, e, w.mono (by decide) (by decide)⟩
  | lst xs => obtain ⟨d, e, w⟩ := (tup_dat h.1 fun y hy => ok0_dat y (h.2 y hy)).2; exact ⟨d, e, w.mono (by decide) (by decide)⟩
  | _ => exact base h
theorem okT_dat (x : PV) (h : okT x) : ∃ d, dat x = some d ∧ DW_ 3 3800000 d := by
  have base : ok0 x → ∃ d, dat x = some d ∧ DW_ 3 3800000 d := fun h => let ⟨d, e, w⟩ := ok0_dat x h; ⟨d, e, w.mono (by decide) (by decide)⟩
  cases x with
  | tup xs => obtain ⟨d, e, w⟩ := (tup_dat h.1 fun y hy => okR_dat y (h.2 y hy)).1; exact ⟨d, e, w.mono (by decide) (by decide)⟩
  | lst xs => obtain ⟨d, e, w⟩ := (tup_dat h.1 fun y hy => okR_dat y (h.2 y hy)).2; exact ⟨d, e, w.mono (by decide) (by decide)⟩
  | _ => exact base h
theorem dw_shows {D W : Nat} {d : PyData} (h : DW_ D W d) (hD : D ≤ 60) (hW : W ≤ 16777216) : shows d := ⟨h.1, h.2.1, Nat.le_trans h.2.2.1 hD, by
  have := shown_le d h.2.1
  have := h.2.2.2
  rw [sizeLine_eq]; omega⟩
/-- repr shows it -/
theorem thing_repr {M : PM} {v : PV} (h : thing M v) : ∃ s : Str, ∀ k : PK, k (.str s) M → cReprD [v] M k := by
  rcases h with h | ⟨a, rfl, hM⟩
  · obtain ⟨d, e, w⟩ := okT_dat v h
    have sh := dw_shows w (by decide) (by decide)
    have cont : (∃ xs, v = .tup xs) ∨ (∃ xs, v = .lst xs) → ∃ s : Str, ∀ k : PK, k (.str s) M → cReprD [v] M k := fun hc => ⟨d.shown, fun k hk => by
      have hm : datM M v = some d := by rcases hc with ⟨_, rfl⟩ | ⟨_, rfl⟩ <;> exact e
      exact reprD_of hm sh (by rcases hc with ⟨xs, rfl⟩ | ⟨xs, rfl⟩; exact .inl ⟨_, rfl⟩; exact .inr (.inl ⟨_, rfl⟩)) hk⟩
    cases v with
    | tup xs => exact cont (.inl ⟨_, rfl⟩)
    | lst xs => exact cont (.inr ⟨_, rfl⟩)
    | int i =>
      have hi : i.natAbs.log2 < 1920 := Nat.lt_trans (PySem.Flt.log2_lt_of (by decide : 0 < 200) h) (by decide)
      exact ⟨_, fun k hk => ⟨hi, hk⟩⟩
    | bl b => exact ⟨_, fun k hk => hk⟩
    | non => exact ⟨_, fun k hk => hk⟩
    | str z =>
      refine ⟨_, fun k hk => ⟨?_, hk⟩⟩
      have h1 := StrLaws.reprText_len z h.2
      have h2 := h.1
      rw [sizeLine_eq]; omega
    | rdl _ => exact h.elim
    | tpx _ => exact h.elim
    | ref _ => exact h.elim
    | ty _ => exact h.elim
  · exact ⟨_, fun k hk => reprD_dict hM hk⟩
theorem ok0_fine {x : PV} (h : ok0 x) : fine1 x = true := by cases x <;> first | rfl | exact h.elim
theorem okR_fine {x : PV} (h : okR x) : fineR x = true := by
  cases x with
  | tup xs => exact List.all_eq_true.mpr fun y hy => ok0_fine (h.2 y hy)
  | lst xs => rfl
  | _ => first | rfl | exact h.elim
theorem okR_fine1 {x : PV} (h : okR x) : fine1 x = true := by cases x <;> first | rfl | exact h.elim
theorem okT_fineR {x : PV} (h : okT x) : fineR x = true := by
  cases x with
  | tup xs => exact List.all_eq_true.mpr fun y hy => okR_fine1 (h.2 y hy)
  | lst xs => rfl
  | _ => first | rfl | exact h.elim
theorem okT_fineV {x : PV} (h : okT x) : fineV x = true := by
  cases x with
  | tup xs => exact List.all_eq_true.mpr fun y hy => okR_fine (h.2 y hy)
  | lst xs => rfl
  | _ => first | rfl | exact h.elim
theorem thing_fine {M : PM} {v : PV} (h : thing M v) : fineM M v := by
  rcases h with h | ⟨a, rfl, hM⟩
  · exact .inl (okT_fineR h)
  · exact .inr ⟨a, [], rfl, hM⟩
end Q
namespace Q
open PySem PySem.Spec PyProof.Rows L2
theorem okR_int {i : Int} (h : i.natAbs < 2 ^ 200) : okR (.int i) := h
theorem th_int {M : PM} {i : Int} (h : i.natAbs < 2 ^ 200) : thing M (.int i) := .inl h
theorem th_tup {M : PM} {xs : List PV} (hl : xs.length ≤ 30) (h : ∀ x ∈ xs, okR x) : thing M (.tup xs) := .inl ⟨hl, h⟩
theorem th_lst {M : PM} {xs : List PV} (hl : xs.length ≤ 30) (h : ∀ x ∈ xs, okR x) : thing M (.lst xs) := .inl ⟨hl, h⟩
theorem okR_tup {xs : List PV} (hl : xs.length ≤ 30) (h : ∀ x ∈ xs, ok0 x) : okR (.tup xs) := ⟨hl, h⟩
theorem all1 {P : PV → Prop} {a : PV} (h1 : P a) : ∀ x ∈ [a], P x := by simpa using h1
theorem all2 {P : PV → Prop} {a b : PV} (h1 : P a) (h2 : P b) : ∀ x ∈ [a, b], P x := by simp [h1, h2]
theorem all3 {P : PV → Prop} {a b c : PV} (h1 : P a) (h2 : P b) (h3 : P c) : ∀ x ∈ [a, b, c], P x := by simp [h1, h2, h3]
theorem ofS_lt (s : String) : ∀ c ∈ (Str.ofString s).cps.toList, c < 16 ^ 8 := by
  rw [Str.ofString_eq_toList]
  intro c hc
  simp at hc
  obtain ⟨x, _, rfl⟩ := hc
  have := x.val.toNat_lt
  show x.val.toNat < _
  omega
theorem int_str {i : Int} (h : i.natAbs < 2 ^ 200) : ok0 (.str (Str.ofString i.repr)) := by
  refine ⟨?_, ofS_lt _⟩
  have hl : i.natAbs.log2 < 200 := PySem.Flt.log2_lt_of (by decide) h
  have h2 := int_text_length_le (a := i) (k := 200) (by decide) hl
  have e : (Str.ofString i.repr).length = (toString i).length := PySem.ofString_length _
  omega
end Q
namespace Q
open PySem PySem.Spec PyProof.Rows L2
theorem ne_lst {l : List PV} {M : PM} {k : PK} (h : ∀ z ∈ l, okR z) (hk : k (.bl (!l.isEmpty)) M) : opEq true (.lst l) (.lst []) M k := by
  obtain ⟨ds, e, ⟨k1, k2, k3, k4⟩, hl⟩ := dats l fun z hz => okR_dat z (h z hz)
  refine ⟨.list ds, .list [], by simp only [datM, dat, e]; rfl, rfl, by simp [PyData.depth]; omega, ?_⟩
  have : PyData.eqv (.list ds) (.list []) = l.isEmpty := by
    cases ds with
    | nil => cases l with
      | nil => rfl
      | cons _ _ => cases hl
    | cons _ _ => cases l with
      | nil => cases hl
      | cons _ _ => rfl
  rw [this]
  exact hk
end Q
namespace Q
open PySem PySem.Spec PyProof.Rows L2
def fineD (M : PM) (v : PV) : Prop := fineV v = true ∨ ∃ a kvs, v = .ref a ∧ M a = some (.dK kvs)
def sp2_u_has_determinant_one : PSp := fun xs M k _ => ∃ v, xs = [v] ∧ fineD M v ∧ room v ∧ k (.bl (hasDet v)) M
def sp2_is_matrix : PSp := fun xs M k _ => ∃ v, xs = [v] ∧ fineD M v ∧ room v ∧ k (.bl (isMat v)) M
def sp2_normal : PSp := fun xs M k x => ∃ v, xs = [v] ∧ fineD M v ∧ room v ∧ (hasDet v = false → x ⟨"BadMatrix", none⟩ M) ∧ (∀ m : Mt, v = m.pv → m.det = 1 → k m.nf.pv M)
/-- what the law makes of its inputs: a thing, or one row of rows -/
def thing2 (M : PM) (v : PV) : Prop := thing M v ∨ ∃ m : Mt, v = .tup [m.pv] ∧ m.bd 200
def kindV (v : PV) : Int := match asMt v with
  | some m => if m.det = 1 then (if m.nf = m then 2 else 1) else 0
  | none => 0
def sp_L_kind_of_rows : PSp := fun xs M k _ => ∃ v, xs = [v] ∧ thing2 M v ∧ k (.int (kindV v)) M
def sp_L_normal_told : PSp := fun xs M k _ => ∃ v, xs = [v] ∧ fineD M v ∧ room v ∧ (hasDet v = false → ∀ M', Ext M M' → k (.str "bad") M') ∧ (∀ m : Mt, v = m.pv → m.det = 1 → k m.nf.pv M)
def sp_L_near_rows : PSp := fun xs M k _ => ∃ (a : Addr) (m : Mt) (n : Nat), xs = [.ref a, m.pv] ∧ Src M a n ∧ n + 100 < lim ∧ m.bd 40 ∧ ∀ (ts : List PV) (M' : PM), ts.length ≤ 30 → (∀ t ∈ ts, thing2 M' t) → Src M' a (n + 2) → k (.lst ts) M'
end Q
namespace Q
open PySem PySem.Spec PyProof.Rows L2
theorem ok0_R {x : PV} (h : ok0 x) : okR x := by cases x <;> first | exact h | exact h.elim
theorem thing2_ext {M M' : PM} {v : PV} (h : thing2 M v) (e : Ext M M') : thing2 M' v := by
  rcases h with (h | ⟨a, rfl, hM⟩) | h
  · exact .inl (.inl h)
  · exact .inl (.inr ⟨a, rfl, e _ _ hM⟩)
  · exact .inr h
theorem ok0_bd {i : Int} (h : ok0 (.int i)) : i.natAbs < 2 ^ 200 := h
theorem mt_thing {M : PM} {m : Mt} (h : m.bd 200) : okT m.pv := by
  obtain ⟨a, b, c, d⟩ := m
  obtain ⟨h1, h2, h3, h4⟩ := h
  exact ⟨by simp, all2 (okR_tup (by simp) (all2 h1 h2)) (okR_tup (by simp) (all2 h3 h4))⟩
theorem thing2_repr {M : PM} {v : PV} (h : thing2 M v) : ∃ s : Str, ∀ (M' : PM) (k : PK), Ext M M' → k (.str s) M' → cReprD [v] M' k := by
  rcases h with (h | ⟨a, rfl, hM⟩) | ⟨m, rfl, hm⟩
  · obtain ⟨s, hs⟩ := thing_repr (M := M) (v := v) (.inl h)
    obtain ⟨s, hs⟩ : ∃ s : Str, ∀ (M' : PM) (k : PK), k (.str s) M' → cReprD [v] M' k := by
      obtain ⟨d, e, w⟩ := okT_dat v h
      have sh := dw_shows w (by decide) (by decide)
      have cont : (∃ xs, v = .tup xs) ∨ (∃ xs, v = .lst xs) → ∃ s : Str, ∀ (M' : PM) (k : PK), k (.str s) M' → cReprD [v] M' k := fun hc => ⟨d.shown, fun M' k hk => by
        have hm : datM M' v = some d := by rcases hc with ⟨_, rfl⟩ | ⟨_, rfl⟩ <;> exact e
        exact reprD_of hm sh (by rcases hc with ⟨xs, rfl⟩ | ⟨xs, rfl⟩; exact .inl ⟨_, rfl⟩; exact .inr (.inl ⟨_, rfl⟩)) hk⟩
      cases v with
      | tup xs => exact cont (.inl ⟨_, rfl⟩)
      | lst xs => exact cont (.inr ⟨_, rfl⟩)
      | int i =>
        have hi : i.natAbs.log2 < 1920 := Nat.lt_trans (PySem.Flt.log2_lt_of (by decide : 0 < 200) h) (by decide)
        exact ⟨_, fun M' k hk => ⟨hi, hk⟩⟩
      | bl b => exact ⟨_, fun M' k hk => hk⟩
      | non => exact ⟨_, fun M' k hk => hk⟩
      | str z =>
        refine ⟨_, fun M' k hk => ⟨?_, hk⟩⟩
        have h1 := StrLaws.reprText_len z h.2
        have h2 := h.1
        rw [sizeLine_eq]; omega
      | rdl _ => exact h.elim
      | tpx _ => exact h.elim
      | ref _ => exact h.elim
      | ty _ => exact h.elim
    exact ⟨s, fun M' k _ hk => hs M' k hk⟩
  · exact ⟨_, fun M' k e hk => reprD_dict (e _ _ hM) hk⟩
  · obtain ⟨ds, e, ⟨k1, k2, k3, k4⟩, k5⟩ := dats [m.pv] (D := 3) (W := 3800000) (by
      intro x hx
      simp only [List.mem_singleton] at hx
      subst hx
      exact okT_dat _ (mt_thing (M := M) hm))
    have w : DW_ 4 3900000 (.tuple ds) := ⟨by simpa [PyData.showable] using k1, by simpa [PyData.hasDict] using k2, by simp only [PyData.depth]; omega, by simp only [wt]; simp at k4; omega⟩
    have sh := dw_shows w (by decide) (by decide)
    exact ⟨(PyData.tuple ds).shown, fun M' k _ hk => reprD_of (d := .tuple ds) (by simp only [datM, dat, e]; rfl) sh (.inl ⟨_, rfl⟩) hk⟩
theorem mt_repr {m : Mt} (h : m.bd 200) : ∃ s : Str, ∀ (M' : PM) (k : PK), k (.str s) M' → cReprD [m.pv] M' k := by
  obtain ⟨d, e, w⟩ := okT_dat m.pv (mt_thing (M := fun _ => none) h)
  have sh := dw_shows w (by decide) (by decide)
  exact ⟨d.shown, fun M' k hk => reprD_of (p := m.pv) (d := d) e sh (.inl ⟨_, rfl⟩) hk⟩
theorem thing2_fine {M : PM} {v : PV} (h : thing2 M v) : fineD M v := by
  rcases h with (h | ⟨a, rfl, hM⟩) | ⟨m, rfl, hm⟩
  · exact .inl (okT_fineV h)
  · exact .inr ⟨a, [], rfl, hM⟩
  · exact .inl rfl
theorem asMt_eq {v : PV} {m : Mt} (h : asMt v = some m) : v = m.pv := by
  unfold asMt at h
  split at h
  · cases h; rfl
  · cases h
theorem thing2_bd {M : PM} {m : Mt} (h : thing2 M m.pv) : m.bd 200 := by
  obtain ⟨a, b, c, d⟩ := m
  rcases h with (h | ⟨a, h, hM⟩) | ⟨m, h, hm⟩
  · have hx := h.2 (.tup [.int a, .int b]) (by simp)
    have hy := h.2 (.tup [.int c, .int d]) (by simp)
    exact ⟨hx.2 (.int a) (by simp), hx.2 (.int b) (by simp), hy.2 (.int c) (by simp), hy.2 (.int d) (by simp)⟩
  · cases h
  · cases h
theorem thing2_room {M : PM} {v : PV} (h : thing2 M v) : room v := fun m e => by
  have := asMt_eq e
  subst this
  exact ⟨200, thing2_bd h, by decide, by decide⟩
theorem nf_bd {m : Mt} {n : Nat} (h : m.bd n) : m.nf.bd n := by
  obtain ⟨a, b, c, d⟩ := m
  obtain ⟨h1, h2, h3, h4⟩ := h
  unfold Mt.nf
  split
  · exact ⟨by simpa [Mt.neg] using h1, by simpa [Mt.neg] using h2, by simpa [Mt.neg] using h3, by simpa [Mt.neg] using h4⟩
  · exact ⟨h1, h2, h3, h4⟩
end Q
namespace Q
open PySem PySem.Spec PyProof.Rows L2
def isL (c : Nat) : Bool := c == 83 || c == 82 || c == 114
def badB : Option Nat → Nat → Bool
  | none, _ => false
  | some b, c => (b == 83) == (c == 83)
/-- the index of the first wrong sign -/
def chk : Option Nat → List Nat → Nat → Option Nat
  | _, [], _ => none
  | b, c :: r, i => if (isL c && !badB b c) = true then chk (some c) r (i + 1) else some i
def fstW (z : Str) : Option Nat := chk none z.cps.toList 0
def optV : Option Nat → PV
  | none => .non
  | some i => .int i
/-- the field of BadWord for a value -/
def wrongV : PV → Option PV
  | .str z => if 2000 < z.length then some .non else match fstW z with
    | none => none
    | some i => some (.int i)
  | _ => some .non
def dueV (v : PV) : List PV := match wrongV v with
  | none => []
  | some y => [y]
def thing7 (M : PM) : PV → Prop
  | .str z => z.length ≤ 10000
  | .ref a => ∃ kvs, M a = some (.dK kvs)
  | .ty _ => False
  | _ => True
def sp7_u_first_wrong : PSp := fun xs M k _ => ∃ z : Str, xs = [.str z] ∧ z.length ≤ 2000 ∧ k (optV (fstW z)) M
def sp7_is_word : PSp := fun xs M k _ => ∃ v, xs = [v] ∧ thing7 M v ∧ k (.bl (wrongV v).isNone) M
def sp7_check_word : PSp := fun xs M k x => ∃ v, xs = [v] ∧ thing7 M v ∧ (wrongV v = none → k .non M) ∧ ∀ y, wrongV v = some y → x ⟨"BadWord", some [("index", y)]⟩ M
def sp7_matrix_of_word : PSp := fun xs M k x => ∃ v, xs = [v] ∧ thing7 M v ∧ (wrongV v = none → ∀ r M', Ext M M' → k r M') ∧ ∀ y, wrongV v = some y → x ⟨"BadWord", some [("index", y)]⟩ M
def sp_L_wrong_index : PSp := fun xs M k _ => ∃ v, xs = [v] ∧ thing7 M v ∧ k (.lst (dueV v)) M
def sp_L_word_told : PSp := fun xs M k _ => ∃ v, xs = [v] ∧ thing7 M v ∧ ∀ M', Ext M M' → k (.lst (dueV v)) M'
def sp_L_near_texts : PSp := fun xs M k _ => ∃ (a : Addr) (w : List Ltr) (n : Nat), xs = [.ref a, wpv w] ∧ Src M a n ∧ n + 100 < lim ∧ w.length ≤ 30 ∧ ∀ (ts : List PV) (M' : PM), ts.length ≤ 30 → (∀ t ∈ ts, thing7 M' t) → Src M' a (n + 5) → k (.lst ts) M'
end Q
namespace Q
open PySem PySem.Spec PyProof.Rows L2
def befV : Option Nat → PV
  | none => .str ⟨#[]⟩
  | some c => .str ⟨#[c]⟩
theorem enumT_get {z : Str} {i : Nat} {y : PV} (h : (enumL (chars z))[i]? = some y) : ∃ c, z.cps.toList[i]? = some c ∧ y = .tup [.int (i : Nat), sgn c] := by
  obtain ⟨x, hx, rfl⟩ := enumL_get h
  unfold chars at hx
  rw [List.getElem?_map] at hx
  obtain ⟨c, hc, rfl⟩ := Option.map_eq_some_iff.mp hx
  exact ⟨c, hc, rfl⟩
theorem chk_drop {l : List Nat} {i c : Nat} {b : Option Nat} (h : l[i]? = some c) : chk b (l.drop i) i = if (isL c && !badB b c) = true then chk (some c) (l.drop (i + 1)) (i + 1) else some i := by
  have e : l.drop i = c :: l.drop (i + 1) := by
    obtain ⟨h1, h2⟩ := List.getElem?_eq_some_iff.mp h
    rw [List.drop_eq_getElem_cons h1, h2]
  rw [e]
  rfl
theorem opIn_sgn {c : Nat} {M : PM} {k : PK} (h : k (.bl (!isL c)) M) : opIn true (.str ⟨#[c]⟩) (.tup [.str ⟨#[83]⟩, .str ⟨#[82]⟩, .str ⟨#[114]⟩]) M k := by
  refine ⟨_, _, rfl, rfl, ?_⟩
  have e : inV (V.str ⟨#[c]⟩) [V.str ⟨#[83]⟩, V.str ⟨#[82]⟩, V.str ⟨#[114]⟩] = isL c := by
    have q : ∀ n : Nat, eqV (V.str ⟨#[n]⟩) (V.str ⟨#[c]⟩) = (c == n) := fun n => by
      show ((⟨#[n]⟩ : Str) == ⟨#[c]⟩) = _
      rw [str_eq]
      by_cases hn : c = n
      · subst hn; simp
      · have : ¬ n = c := fun z => hn z.symm
        simp [hn, this]
    simp [inV, q, isL, Bool.or_assoc]
  rw [if_pos rfl, e]
  exact h
end Q
namespace Q
open PySem PySem.Spec PyProof.Rows L2
theorem isL_ltr {c : Nat} (h : isL c = true) : ∃ l : Ltr, c = l.code := by
  unfold isL at h
  simp at h
  rcases h with (h | h) | h
  · exact ⟨.S, h⟩
  · exact ⟨.R, h⟩
  · exact ⟨.r, h⟩
theorem bad_fits {l x : Ltr} (h : badB (some l.code) x.code = false) : Ltr.fits l x = true := by
  cases l <;> cases x <;> first | rfl | (revert h; decide)
theorem fits_bad {l x : Ltr} (h : Ltr.fits l x = true) : badB (some l.code) x.code = false := by
  cases l <;> cases x <;> first | rfl | (revert h; decide)
theorem ltr_isL (l : Ltr) : isL l.code = true := by cases l <;> rfl
theorem chk_none : ∀ (cs : List Nat) (b : Option Ltr) (i : Nat), chk (b.map Ltr.code) cs i = none → ∃ w : List Ltr, cs = w.map Ltr.code ∧ isW (b.toList ++ w) = true
  | [], b, i, _ => ⟨[], rfl, by cases b <;> rfl⟩
  | c :: r, b, i, h => by
    have e : chk (b.map Ltr.code) (c :: r) i = if (isL c && !badB (b.map Ltr.code) c) = true then chk (some c) r (i + 1) else some i := rfl
    rw [e] at h
    split at h
    · rename_i hc
      simp only [Bool.and_eq_true, Bool.not_eq_true'] at hc
      obtain ⟨l, rfl⟩ := isL_ltr hc.1
      obtain ⟨w, rfl, hw⟩ := chk_none r (some l) (i + 1) h
      refine ⟨l :: w, rfl, ?_⟩
      cases b with
      | none => exact hw
      | some x =>
        have hf := bad_fits hc.2
        show isW (x :: l :: w) = true
        simp only [isW, hf, Bool.true_and]
        exact hw
    · cases h
theorem chk_isW : ∀ (w : List Ltr) (b : Option Ltr) (i : Nat), isW (b.toList ++ w) = true → chk (b.map Ltr.code) (w.map Ltr.code) i = none
  | [], _, _, _ => rfl
  | l :: w, b, i, h => by
    have e : chk (b.map Ltr.code) ((l :: w).map Ltr.code) i = if (isL l.code && !badB (b.map Ltr.code) l.code) = true then chk (some l.code) (w.map Ltr.code) (i + 1) else some i := rfl
    rw [e]
    have hb : badB (b.map Ltr.code) l.code = false := by
      cases b with
      | none => rfl
      | some x => exact fits_bad (isW_head h)
    rw [ltr_isL, hb]
    refine chk_isW w (some l) (i + 1) ?_
    cases b with
    | none => exact h
    | some x => exact isW_tail h
theorem wrong_none {v : PV} (h : wrongV v = none) : ∃ w : List Ltr, v = wpv w ∧ w.length ≤ 2000 := by
  unfold wrongV at h
  split at h
  · rename_i z
    split at h
    · cases h
    · rename_i hl
      split at h
      · rename_i hf
        obtain ⟨w, hw, _⟩ := chk_none _ none 0 hf
        have e : z = wstr w := by
          obtain ⟨a⟩ := z
          unfold wstr
          rw [← hw]
        subst e
        exact ⟨w, rfl, by rw [wstr_size] at hl; omega⟩
      · cases h
  · cases h
theorem wrong_word {w : List Ltr} (h : isW w = true) (hl : w.length ≤ 2000) : wrongV (wpv w) = none := by
  show (if 2000 < (wstr w).length then some PV.non else match fstW (wstr w) with | none => none | some i => some (PV.int i)) = none
  rw [if_neg (by rw [wstr_size]; omega)]
  have : fstW (wstr w) = none := by
    unfold fstW wstr
    exact chk_isW w none 0 h
  rw [this]
theorem mem_srr {c : Nat} : decide (c ∈ (Str.ofString "SRr").cps.toList) = isL c := by
  have e : (Str.ofString "SRr").cps.toList = [83, 82, 114] := by decide +kernel
  rw [e]
  have hb' : ∀ n m : Nat, (n == m) = decide (n = m) := fun n m => by by_cases hn : n = m <;> simp [hn]
  unfold isL
  rw [hb', hb', hb']
  simp [Bool.or_assoc]
theorem cutS_len (z : Str) (lo hi : Option Int) : (cutS z lo hi).length ≤ z.length := by
  unfold cutS Str.length
  simp
  omega
theorem revS_len (z : Str) : (revS z).length = z.length := by
  unfold revS Str.length
  simp
theorem str_app_len (u v : Str) : (u ++ v).length = u.length + v.length := by
  show (Str.append u v).length = _
  unfold Str.append Str.length
  simp
theorem thing7_ext {M M' : PM} {v : PV} (h : thing7 M v) (e : Ext M M') : thing7 M' v := by
  cases v <;> first | exact h | (obtain ⟨kvs, hM⟩ := h; exact ⟨kvs, e _ _ hM⟩)
theorem chk_le : ∀ (cs : List Nat) (b : Option Nat) (i j : Nat), chk b cs i = some j → j < i + cs.length
  | [], _, _, _, h => by cases h
  | c :: r, b, i, j, h => by
    have e : chk b (c :: r) i = if (isL c && !badB b c) = true then chk (some c) r (i + 1) else some i := rfl
    rw [e] at h
    split at h
    · have := chk_le r _ _ _ h
      simp only [List.length_cons]
      omega
    · cases h
      simp only [List.length_cons]
      omega
theorem due_ok (v : PV) : (∀ z ∈ dueV v, okR z) ∧ (dueV v).length ≤ 1 := by
  cases hw : wrongV v with
  | none =>
    have e : dueV v = [] := by unfold dueV; rw [hw]
    rw [e]
    exact ⟨fun _ h => (nomatch h), by simp⟩
  | some y =>
    have e : dueV v = [y] := by unfold dueV; rw [hw]
    rw [e]
    refine ⟨fun z hz => ?_, by simp⟩
    simp only [List.mem_singleton] at hz
    subst hz
    have hy := hw
    unfold wrongV at hy
    split at hy
    · rename_i s
      split at hy
      · cases hy; trivial
      · rename_i hl
        split at hy
        · cases hy
        · rename_i i hi
          cases hy
          have := chk_le _ _ _ _ hi
          have hs : s.cps.toList.length = s.length := by simp [Str.length]
          have h2 : i < 2001 := by omega
          show ((i : Int)).natAbs < 2 ^ 200
          have : ((i : Int)).natAbs < 2001 := by omega
          exact Nat.lt_trans this (by decide)
    · cases hy; trivial
theorem due_repr (v : PV) : ∃ s : Str, ∀ (M : PM) (k : PK), k (.str s) M → cReprD [.lst (dueV v)] M k := by
  obtain ⟨h1, h2⟩ := due_ok v
  obtain ⟨d, e, w⟩ := okT_dat (.lst (dueV v)) ⟨by omega, h1⟩
  have sh := dw_shows w (by decide) (by decide)
  exact ⟨d.shown, fun M k hk => reprD_of (p := .lst (dueV v)) (d := d) e sh (.inr (.inl ⟨_, rfl⟩)) hk⟩
theorem eq_lst {l : List PV} {M : PM} {k : PK} (h : ∀ z ∈ l, okR z) (hk : k (.bl l.isEmpty) M) : opEq false (.lst l) (.lst []) M k := by
  obtain ⟨ds, e, ⟨k1, k2, k3, k4⟩, hl⟩ := dats l fun z hz => okR_dat z (h z hz)
  refine ⟨.list ds, .list [], by simp only [datM, dat, e]; rfl, rfl, by simp [PyData.depth]; omega, ?_⟩
  have : PyData.eqv (.list ds) (.list []) = l.isEmpty := by
    cases ds with
    | nil => cases l with
      | nil => rfl
      | cons _ _ => cases hl
    | cons _ _ => cases l with
      | nil => cases hl
      | cons _ _ => rfl
  rw [this]
  exact hk
theorem due_emp (v : PV) : (dueV v).isEmpty = (wrongV v).isNone := by
  unfold dueV
  cases wrongV v <;> rfl
end Q
namespace Q
open PySem PySem.Spec PyProof.Rows L2
abbrev badMt : PEx := ⟨"BadMatrix", none⟩
abbrev badNum (y : PV) : PEx := ⟨"BadNumber", some [("value", y)]⟩
/-- a value that is no matrix -/
structure NoMt (M : PM) (v : PV) : Prop where
  fine : fineD M v
  room : room v
  no : isMat v = false
def smallMt (m : Mt) : Prop := m.ok ∧ m.bd 40
def expOk : PV → Bool
  | .int i => decide (-200 ≤ i) && decide (i ≤ 200)
  | _ => false
def sp6_check_matrix : PSp := fun xs M k x => ∃ v, xs = [v] ∧ ((NoMt M v ∧ x badMt M) ∨ (∃ m : Mt, v = m.pv ∧ smallMt m ∧ k .non M))
def sp6_inverse : PSp := fun xs M k x => ∃ v, xs = [v] ∧ ((NoMt M v ∧ x badMt M) ∨ (∃ m : Mt, v = m.pv ∧ smallMt m ∧ k m.adj.nf.pv M))
def sp6_product : PSp := fun xs M k x => (∃ (ms : List Mt) (v : PV) (post : List PV), xs = ms.map Mt.pv ++ v :: post ∧ xs.length ≤ 100 ∧ (∀ m ∈ ms, smallMt m) ∧ NoMt M v ∧ x badMt M) ∨ (∃ ms : List Mt, xs = ms.map Mt.pv ∧ ms.length ≤ 100 ∧ (∀ m ∈ ms, smallMt m) ∧ ∀ r, k r M)
def sp6_order : PSp := fun xs M k x => ∃ v, xs = [v] ∧ NoMt M v ∧ x badMt M
def sp6_power : PSp := fun xs M k x => ∃ v e, xs = [v, e] ∧ ((NoMt M v ∧ x badMt M) ∨ (∃ m : Mt, v = m.pv ∧ smallMt m ∧ ((thing7 M e ∧ expOk e = false ∧ x (badNum e) M) ∨ (∃ i : Int, e = .int i ∧ -200 ≤ i ∧ i ≤ 200 ∧ ∀ r, k r M))))
/-- all but the source's list is as it was, there may be more -/
def Up (M M' : PM) (a : Addr) : Prop := ∀ b o, b ≠ a → M b = some o → M' b = some o
def sp_L_no_matrix : PSp := fun xs M k _ => ∃ (a : Addr) (n : Nat), xs = [.ref a] ∧ Src M a n ∧ n + 10 < lim ∧ ∀ v M', NoMt M' v → Src M' a (n + 1) → Up M M' a → k v M'
def sp_L_no_exponent : PSp := fun xs M k _ => ∃ (a : Addr) (n : Nat), xs = [.ref a] ∧ Src M a n ∧ n + 10 < lim ∧ ∀ v M', thing M' v → expOk v = false → Src M' a (n + 1) → Up M M' a → k v M'
def sp_L_wrong : PSpH := fun t M k _ => ∀ (x' : PX) (k' : PK), (∀ M', (∀ M2, Ext M' M2 → k (.str "matrix") M2) → x' badMt M') →
  (∀ (y : PV) (s : Str) (M' : PM), s.length ≤ 5000000 → (∀ (M2 : PM) (k2 : PK), Ext M' M2 → k2 (.str s) M2 → cReprD [y] M2 k2) → (∀ M2, Ext M' M2 → k (.str ("number " ++ s)) M2) → x' (badNum y) M') → (∀ v M', k (.str "") M' → k' v M') → t M x' k'
def sp_L_turn_right : PSp := fun xs M k _ => ∃ (a : Addr) (n : Nat), xs = [.ref a] ∧ Src M a n ∧ n + 100 < lim ∧ (∃ P, M P = some (.tab "_law_turn_right")) ∧ ∀ M', Src M' a (n + 10) → Up M M' a → k (.bl true) M'
end Q
namespace Q
open PySem PySem.Spec PyProof.Rows L2
theorem NoMt.ext {M M' : PM} {v : PV} (h : NoMt M v) (e : Ext M M') : NoMt M' v := ⟨by
  rcases h.fine with h | ⟨a, kvs, rfl, hM⟩
  · exact .inl h
  · exact .inr ⟨a, kvs, rfl, e _ _ hM⟩, h.room, h.no⟩
theorem small_room {m : Mt} (h : smallMt m) : room m.pv := room_mat (a := m.a) (b := m.b) (c := m.c) (d := m.d) h.2 (by decide) (by decide)
theorem small_fine {M : PM} {m : Mt} : fineD M m.pv := .inl rfl
theorem small_mat {m : Mt} (h : smallMt m) : isMat m.pv = true := isMat_ok (a := m.a) (b := m.b) (c := m.c) (d := m.d) h.1
theorem ext_refl {M : PM} : Ext M M := Ext.refl M
/-- a thing is shown by a text of some length -/
theorem thing_repr3 {M : PM} {v : PV} (h : thing M v) : ∃ s : Str, s.length ≤ 5000000 ∧ ∀ (M' : PM) (k : PK), Ext M M' → k (.str s) M' → cReprD [v] M' k := by
  rcases h with h | ⟨a, rfl, hM⟩
  · obtain ⟨d, e, w⟩ := okT_dat v h
    have sh := dw_shows w (by decide) (by decide)
    have hlen : d.shown.length ≤ 5000000 := by
      have h1 := shown_le d w.2.1
      have h2 := w.2.2.2
      omega
    have cont : (∃ xs, v = .tup xs) ∨ (∃ xs, v = .lst xs) → ∃ s : Str, s.length ≤ 5000000 ∧ ∀ (M' : PM) (k : PK), Ext M M' → k (.str s) M' → cReprD [v] M' k := fun hc => ⟨d.shown, hlen, fun M' k _ hk => by
      have hm : datM M' v = some d := by rcases hc with ⟨_, rfl⟩ | ⟨_, rfl⟩ <;> exact e
      exact reprD_of hm sh (by rcases hc with ⟨xs, rfl⟩ | ⟨xs, rfl⟩; exact .inl ⟨_, rfl⟩; exact .inr (.inl ⟨_, rfl⟩)) hk⟩
    cases v with
    | tup xs => exact cont (.inl ⟨_, rfl⟩)
    | lst xs => exact cont (.inr ⟨_, rfl⟩)
    | int i =>
      have hi : i.natAbs.log2 < 1920 := Nat.lt_trans (PySem.Flt.log2_lt_of (by decide : 0 < 200) h) (by decide)
      have hi2 : i.natAbs.log2 < 200 := PySem.Flt.log2_lt_of (by decide) h
      refine ⟨_, ?_, fun M' k _ hk => ⟨hi, hk⟩⟩
      have h2 := int_text_length_le (a := i) (k := 200) (by decide) hi2
      have e : (Str.ofString (toString i)).length = (toString i).length := PySem.ofString_length _
      first
        | (rw [e]; omega)
        | (show (Str.ofString (toString i)).length ≤ _; omega)
        | omega
    | bl b => exact ⟨_, by cases b <;> decide +kernel, fun M' k _ hk => hk⟩
    | non => exact ⟨_, by decide +kernel, fun M' k _ hk => hk⟩
    | str z =>
      have h1 := StrLaws.reprText_len z h.2
      have h2 := h.1
      refine ⟨_, ?_, fun M' k _ hk => ⟨?_, hk⟩⟩
      · omega
      · rw [sizeLine_eq]; omega
    | rdl _ => exact h.elim
    | tpx _ => exact h.elim
    | ref _ => exact h.elim
    | ty _ => exact h.elim
  · exact ⟨PyData.shown (.dict []), by decide +kernel, fun M' k e hk => reprD_dict (e _ _ hM) hk⟩
theorem thing_7 {M : PM} {v : PV} (h : thing M v) : thing7 M v := by
  rcases h with h | ⟨a, rfl, hM⟩
  · cases v with
    | str z => have := h.1; exact Nat.le_trans this (by decide)
    | ref _ => exact h.elim
    | ty _ => exact h.elim
    | _ => trivial
  · exact ⟨_, hM⟩
theorem thing_ext {M M' : PM} {v : PV} (h : thing M v) (e : Ext M M') : thing M' v := by
  rcases h with h | ⟨a, rfl, hM⟩
  · exact .inl h
  · exact .inr ⟨a, rfl, e _ _ hM⟩
end Q
namespace Q
open PySem PySem.Spec PyProof.Rows L2
/-- the state of one turn: the source, the table, the list that grows -/
structure St6 (M : PM) (a : Addr) (n : Nat) (P p : Addr) (xs : List PV) (bad far : PV) : Prop where
  src : Src M a n
  tab : M P = some (.tab "_law_turn_right")
  lst : M p = some (.lst xs)
  bad : NoMt M bad
  far : thing M far
  ne : p ≠ a
theorem St6.ext {M M' : PM} {a : Addr} {n : Nat} {P p : Addr} {xs : List PV} {bad far : PV} (h : St6 M a n P p xs bad far) (e : Ext M M') : St6 M' a n P p xs bad far := ⟨h.src.ext e, e _ _ h.tab, e _ _ h.lst, h.bad.ext e, thing_ext h.far e, h.ne⟩
theorem NoMt.up {M M' : PM} {v : PV} (h : NoMt M v) (e : ∀ b kvs, M b = some (.dK kvs) → M' b = some (.dK kvs)) : NoMt M' v := ⟨by
  rcases h.fine with h | ⟨a, kvs, rfl, hM⟩
  · exact .inl h
  · exact .inr ⟨a, kvs, rfl, e _ _ hM⟩, h.room, h.no⟩
theorem thing_up {M M' : PM} {v : PV} (h : thing M v) (e : ∀ b kvs, M b = some (.dK kvs) → M' b = some (.dK kvs)) : thing M' v := by
  rcases h with h | ⟨a, rfl, hM⟩
  · exact .inl h
  · exact .inr ⟨a, rfl, e _ _ hM⟩
theorem St6.put {M : PM} {a : Addr} {n : Nat} {P p : Addr} {xs : List PV} {bad far : PV} (h : St6 M a n P p xs bad far) (ys : List PV) : St6 (updM M p (.lst ys)) a n P p ys bad far := by
  have kd : ∀ b kvs, M b = some (.dK kvs) → updM M p (.lst ys) b = some (.dK kvs) := fun b kvs e => by
    have : b ≠ p := fun z => by rw [z, h.lst] at e; cases e
    rw [updM_ne this]; exact e
  have hP : P ≠ p := fun z => by have := h.tab; rw [z, h.lst] at this; cases this
  refine ⟨?_, by rw [updM_ne hP]; exact h.tab, updM_same, h.bad.up kd, thing_up h.far kd, h.ne⟩
  obtain ⟨x, y, z, e, r⟩ := h.src
  exact ⟨x, y, z, by rw [updM_ne (Ne.symm h.ne)]; exact e, r⟩
theorem St6.next {M M' : PM} {a : Addr} {n j : Nat} {P p : Addr} {xs : List PV} {bad far : PV} (h : St6 M a n P p xs bad far) (u : SrcUp M M' a j) : St6 M' a j P p xs bad far := by
  obtain ⟨x, y, z, e, r⟩ := h.src
  have kd : ∀ b kvs, M b = some (.dK kvs) → M' b = some (.dK kvs) := fun b kvs e1 => by
    have : b ≠ a := fun z => by rw [z, e] at e1; cases e1
    rw [u.2 _ this]; exact e1
  have hP : P ≠ a := fun z => by have := h.tab; rw [z, e] at this; cases this
  exact ⟨u.1, by rw [u.2 _ hP]; exact h.tab, by rw [u.2 _ h.ne]; exact h.lst, h.bad.up kd, thing_up h.far kd, h.ne⟩
/-- all but the source's list is as it was -/
theorem Up.of {M M' : PM} {a : Addr} {n : Nat} (u : SrcUp M M' a n) : Up M M' a := fun b o hb e => by rw [u.2 b hb]; exact e
theorem Up.ext {M M' : PM} {a : Addr} (u : Ext M M') : Up M M' a := fun b o _ e => u b o e
theorem Up.trans {M M1 M2 : PM} {a : Addr} (h1 : Up M M1 a) (h2 : Up M1 M2 a) : Up M M2 a := fun b o hb e => h2 b o hb (h1 b o hb e)
theorem Up.new {M M' : PM} {a p : Addr} {xs : List PV} (u : Up M M' a) (hp : M p = none) : Up M (updM M' p (.lst xs)) a := fun b o hb e => by
  have : b ≠ p := fun z => by rw [z, hp] at e; cases e
  rw [updM_ne this]; exact u b o hb e
end Q
namespace Q
open PySem PySem.Spec PyProof.Rows L2
theorem appP_of {M0 M : PM} {a : Addr} {n : Nat} {P p : Addr} {xs : List PV} {bad far y : PV} {k : PK} (st : St6 M a n P p xs bad far) (up : Up M0 M a) (hp : M0 p = none) (hl : xs.length < 1000) (h : ∀ M', St6 M' a n P p (xs ++ [y]) bad far → Up M0 M' a → k .non M') : appP p y M k := by
  unfold appP
  rw [st.lst]
  exact ⟨by rw [sizeLine_eq]; omega, h _ (st.put _) (up.new hp)⟩
theorem Up.none {M0 M : PM} {a p : Addr} {n : Nat} (u : Up M0 M a) (hS : Src M a n) (hp : M p = none) : M0 p = none := by
  cases e : M0 p with
  | none => rfl
  | some o =>
    by_cases h : p = a
    · subst h
      obtain ⟨_, _, _, e1, _⟩ := hS
      rw [hp] at e1; cases e1
    · rw [u p o h e] at hp; cases hp
theorem opEq_strs {neg : Bool} {M : PM} {a : Addr} {xs : List PV} {ss ts : List Str} {k : PK} (h : M a = some (.lst xs)) (ex : xs = ss.map PV.str) (hk : k (.bl (if neg then !decide (ss = ts) else decide (ss = ts))) M) : opEq neg (.ref a) (.lst (ts.map PV.str)) M k := by
  subst ex
  have dl : ∀ us : List Str, datL (us.map PV.str) = some (us.map PyData.str) := fun us => by
    induction us with
    | nil => rfl
    | cons u us ih => simp [datL, dat, ih]
  have dp : ∀ us : List Str, PyData.depthAll (us.map PyData.str) ≤ 1 := fun us => by
    induction us with
    | nil => simp [PyData.depthAll]
    | cons u us ih =>
      simp only [List.map_cons, PyData.depthAll, PyData.depth]
      omega
  have ev : ∀ us vs : List Str, PyData.eqvAll (us.map PyData.str) (vs.map PyData.str) = decide (us = vs) := fun us => by
    induction us with
    | nil => intro vs; cases vs <;> simp [PyData.eqvAll]
    | cons u us ih =>
      intro vs
      cases vs with
      | nil => simp [PyData.eqvAll]
      | cons v vs => simp [PyData.eqvAll, PyData.eqv, ih, Bool.beq_eq_decide_eq]
  refine ⟨.list (ss.map PyData.str), .list (ts.map PyData.str), ?_, ?_, ?_, ?_⟩
  · simp [datM, h, dl]
  · simp [datM, dat, dl]
  · have := dp ss
    simp only [PyData.depth]
    omega
  · simp only [PyData.eqv, ev]
    exact hk
end Q
namespace Q
open PySem PySem.Spec PyProof.Rows L2
theorem St6.fresh {M : PM} {a : Addr} {n : Nat} {P p q : Addr} {xs : List PV} {bad far : PV} (h : St6 M a n P p xs bad far) (hq : M q = none) (ys : List PV) : St6 (updM M q (.lst ys)) a n P q ys bad far := by
  obtain ⟨x, y, z, e, r⟩ := h.src
  have kd : ∀ b o, M b = some o → updM M q (.lst ys) b = some o := fun b o e => by
    have : b ≠ q := fun z => by rw [z, hq] at e; cases e
    rw [updM_ne this]; exact e
  exact ⟨⟨x, y, z, kd _ _ e, r⟩, kd _ _ h.tab, updM_same, h.bad.up fun b _ e => kd b _ e, thing_up h.far fun b _ e => kd b _ e, fun z => by rw [z, e] at hq; cases hq⟩
end Q
namespace Q
open PySem PySem.Spec PyProof.Rows L2
def sp_conjugator : PSp := fun xs M k _ => ∃ w u : List Ltr, xs = [(wmt w).pv, (wmt u).pv] ∧ isW w = true ∧ isW u = true ∧ w.length ≤ 100 ∧ u.length ≤ 100 ∧ (∀ (y : List Ltr) (M' : PM), wmt (y ++ w ++ turned y) = wmt u → y.length ≤ 2 * w.length + 2 * u.length → Ext M M' → k (wmt y).pv M') ∧ (∀ M', ¬ Cj w u → Ext M M' → k .non M')
def sp_L_around : PSp := fun xs M k _ => ∃ v w : List Ltr, xs = [(wmt v).pv, (wmt w).pv] ∧ v.length ≤ 1000 ∧ w.length ≤ 1000 ∧ k (wmt (v ++ w ++ turned v)).pv M
def sp_L_pair_right : PSp := fun xs M k _ => ∃ (a : Addr) (n : Nat), xs = [.ref a] ∧ Src M a n ∧ n + 1000 < lim ∧ ∀ M', Src M' a (n + 150) → k (.bl true) M'
end Q
namespace Q
open PySem PySem.Spec PyProof.Rows L2
/-- a def that no run of the law comes to -/
def sp_never : PSp := fun _ _ _ _ => False
abbrev tooL : PEx := ⟨"TooLong", some [("limit", .int 2000)]⟩
abbrev badWd (y : PV) : PEx := ⟨"BadWord", some [("index", y)]⟩
/-- T to the b -/
abbrev TT (b : Int) : PV := mat 1 b 0 1
def farB (b : Int) : Prop := 1001 ≤ b ∧ b < 2 ^ 30
def pwT (b : Int) : List PV := if b = 0 then [] else [.tup [.str "T", .int b]]
def sp15_expansion : PSp := fun xs M k x => ∃ v, xs = [v] ∧ ((NoMt M v ∧ x badMt M) ∨ (∃ b : Int, v = TT b ∧ (b = 0 ∨ farB b) ∧ ∀ M', Ext M M' → k (.tup (pwT b)) M'))
def sp15_word_of : PSp := fun xs M k x => ∃ v, xs = [v] ∧ ((NoMt M v ∧ x badMt M) ∨ (∃ b : Int, v = TT b ∧ farB b ∧ ∀ M', Ext M M' → x tooL M') ∨ (v = TT 0 ∧ ∀ M', Ext M M' → k (wpv []) M'))
def sp15_u_reduced : PSp := fun xs M k x => ∃ (ws : List (List Ltr)) (v : PV), xs = [v] ∧ (v = .tup (ws.map wpv) ∨ v = .lst (ws.map wpv)) ∧ ws.length ≤ 1000 ∧ ws.flatten.length ≤ 100000 ∧ ∀ M', Ext M M' → ((red ws.flatten).length ≤ 2000 → k (wpv (red ws.flatten)) M') ∧ (2000 < (red ws.flatten).length → x tooL M')
def sp15_u_cyclic_parts : PSp := fun xs M k x => ∃ v, xs = [v] ∧ ((NoMt M v ∧ x badMt M) ∨ (∃ b : Int, v = TT b ∧ farB b ∧ ∀ M', Ext M M' → x tooL M') ∨ (v = TT 0 ∧ ∀ M', Ext M M' → k (.tup [wpv [], wpv []]) M'))
def sp15_cyclic_word : PSp := fun xs M k x => ∃ v, xs = [v] ∧ NoMt M v ∧ x badMt M
def sp15_conjugator : PSp := fun xs M k x => ∃ v u, xs = [v, u] ∧ ((NoMt M v ∧ x badMt M) ∨ (∃ b : Int, v = TT b ∧ farB b ∧ NoMt M u ∧ x badMt M) ∨ (∃ b : Int, v = TT b ∧ farB b ∧ u = TT 0 ∧ ∀ M', Ext M M' → x tooL M') ∨ (∃ b : Int, v = TT 0 ∧ u = TT b ∧ farB b ∧ ∀ M', Ext M M' → x tooL M'))
def sp15_matrix_of_word : PSp := fun xs M k x => ∃ v y, xs = [v] ∧ thing7 M v ∧ wrongV v = some y ∧ x (badWd y) M
def sp15_joined : PSp := fun xs M k x => (∃ (ws : List (List Ltr)) (v y : PV) (post : List PV), xs = ws.map wpv ++ v :: post ∧ xs.length ≤ 20 ∧ (∀ w ∈ ws, isW w = true ∧ w.length ≤ 2000) ∧ thing7 M v ∧ wrongV v = some y ∧ x (badWd y) M) ∨
  (∃ ws : List (List Ltr), xs = ws.map wpv ∧ ws.length ≤ 20 ∧ (∀ w ∈ ws, isW w = true ∧ w.length ≤ 2000) ∧ (red ws.flatten).length ≤ 2000 ∧ ∀ M', Ext M M' → k (wpv (red ws.flatten)) M')
/-- what str shows of a field -/
def shOf : PV → Option Str
  | .int i => if i.natAbs.log2 < 1920 then some (toString i) else none
  | .non => some "None"
  | _ => none
def sp_L_no_word : PSp := fun xs M k _ => ∃ (a : Addr) (n : Nat), xs = [.ref a] ∧ Src M a n ∧ n + 10 < lim ∧ ∀ v y (s : Str) M', thing7 M' v → wrongV v = some y → shOf y = some s → s.length ≤ 100 → Src M' a (n + 1) → Up M M' a → k (.tup [v, y]) M'
def sp_L_kind_told : PSpH := fun t M k _ => ∀ (x' : PX) (k' : PK), (∀ M', (∀ M2, Ext M' M2 → k (.str "matrix") M2) → x' badMt M') →
  (∀ (y : PV) (s : Str) (M' : PM), s.length ≤ 100 → shOf y = some s → (∀ M2, Ext M' M2 → k (.str ("word " ++ s)) M2) → x' (badWd y) M') → (∀ M', (∀ M2, Ext M' M2 → k (.str "long 2000") M2) → x' tooL M') → (∀ v M', k (.str "") M' → k' v M') → t M x' k'
def sp_L_turn15 : PSp := fun xs M k _ => ∃ (a : Addr) (n : Nat), xs = [.ref a] ∧ Src M a n ∧ n + 100 < lim ∧ (∃ P, M P = some (.tab "_law_turn_right")) ∧ ∀ M', Src M' a (n + 10) → Up M M' a → k (.bl true) M'
end Q
namespace Q
open PySem PySem.Spec PyProof.Rows L2
theorem small_T {b : Int} (h : b = 0 ∨ farB b) : smallMt ⟨1, b, 0, 1⟩ := by
  refine ⟨⟨by simp [Mt.det], by simp⟩, show (1 : Int).natAbs < 2 ^ 40 by decide, ?_, show (0 : Int).natAbs < 2 ^ 40 by decide, show (1 : Int).natAbs < 2 ^ 40 by decide⟩
  show b.natAbs < 2 ^ 40
  rcases h with rfl | h
  · decide
  · have := h.1
    have := h.2
    omega
theorem isW_SR : ∀ n : Nat, isW (rep n [.S, .R]) = true
  | 0 => rfl
  | 1 => rfl
  | n + 2 => by
    have ih := isW_SR (n + 1)
    rw [rep_succ] at ih
    rw [rep_succ, rep_succ]
    show (Ltr.fits .S .R && (Ltr.fits .R .S && isW ([Ltr.S, .R] ++ rep n [.S, .R]))) = true
    rw [ih]
    rfl
theorem TT_pv {b : Int} : TT b = (Mt.mk 1 b 0 1).pv := rfl
end Q
namespace Q
open PySem PySem.Spec PyProof.Rows L2
theorem thing7_up {M M' : PM} {v : PV} (h : thing7 M v) (e : ∀ b kvs, M b = some (.dK kvs) → M' b = some (.dK kvs)) : thing7 M' v := by
  cases v with
  | ref a => obtain ⟨kvs, hM⟩ := h; exact ⟨kvs, e _ _ hM⟩
  | _ => exact h
structure St15 (M : PM) (a : Addr) (n : Nat) (P p : Addr) (xs : List PV) (bad v : PV) : Prop where
  src : Src M a n
  tab : M P = some (.tab "_law_turn_right")
  lst : M p = some (.lst xs)
  bad : NoMt M bad
  th : thing7 M v
  ne : p ≠ a
section
variable {M M' : PM} {a : Addr} {n : Nat} {P p q : Addr} {xs : List PV} {bad v : PV}
theorem St15.ext (h : St15 M a n P p xs bad v) (e : Ext M M') : St15 M' a n P p xs bad v := ⟨h.src.ext e, e _ _ h.tab, e _ _ h.lst, h.bad.ext e, thing7_up h.th fun b _ z => e b _ z, h.ne⟩
theorem St15.put (h : St15 M a n P p xs bad v) (ys : List PV) : St15 (updM M p (.lst ys)) a n P p ys bad v := by
  have kd : ∀ b kvs, M b = some (.dK kvs) → updM M p (.lst ys) b = some (.dK kvs) := fun b kvs e => by
    have : b ≠ p := fun z => by rw [z, h.lst] at e; cases e
    rw [updM_ne this]; exact e
  have hP : P ≠ p := fun z => by have := h.tab; rw [z, h.lst] at this; cases this
  refine ⟨?_, by rw [updM_ne hP]; exact h.tab, updM_same, h.bad.up kd, thing7_up h.th kd, h.ne⟩
  obtain ⟨x, y, z, e, r⟩ := h.src
  exact ⟨x, y, z, by rw [updM_ne (Ne.symm h.ne)]; exact e, r⟩
theorem St15.fresh (h : St15 M a n P p xs bad v) (hq : M q = none) (ys : List PV) : St15 (updM M q (.lst ys)) a n P q ys bad v := by
  obtain ⟨x, y, z, e, r⟩ := h.src
  have kd : ∀ b o, M b = some o → updM M q (.lst ys) b = some o := fun b o e => by
    have : b ≠ q := fun z => by rw [z, hq] at e; cases e
    rw [updM_ne this]; exact e
  exact ⟨⟨x, y, z, kd _ _ e, r⟩, kd _ _ h.tab, updM_same, h.bad.up fun b _ e => kd b _ e, thing7_up h.th fun b _ e => kd b _ e, fun z => by rw [z, e] at hq; cases hq⟩
theorem appP_15 {M0 : PM} {y : PV} {k : PK} (st : St15 M a n P p xs bad v) (up : Up M0 M a) (hp : M0 p = none) (hl : xs.length < 1000) (h : ∀ M', St15 M' a n P p (xs ++ [y]) bad v → Up M0 M' a → k .non M') : appP p y M k := by
  unfold appP
  rw [st.lst]
  exact ⟨by rw [sizeLine_eq]; omega, h _ (st.put _) (up.new hp)⟩
end
end Q
namespace Q
open PySem PySem.Spec PyProof.Rows L2
def sp_L_power_of : PSp := fun xs M k _ => ∃ (p : Pw × Int), xs = [p.1.pv, .int p.2] ∧ k (pm p).nf.pv M
def sp_L_powers : PSp := fun xs M k _ => ∃ (a : Addr) (n : Nat), xs = [.ref a] ∧ Src M a n ∧ n + 200 < lim ∧ ∀ (m : Mt) (M' : PM), m.ok → m.bd 400 → SrcUp M M' a (n + 22) → k m.pv M'
def sp_L_pairs_due : PSp := fun xs M k _ => ∃ (m : Mt) (n : Nat), xs = [m.pv] ∧ m.ok ∧ m.bd n ∧ 0 < n ∧ n ≤ 500 ∧ ∀ M', Ext M M' → k (.lst ((expn m).map pwv)) M'
def sp_L_pairs_right : PSp := fun xs M k _ => ∃ (m : Mt) (n : Nat), xs = [m.pv] ∧ m.ok ∧ m.bd n ∧ 0 < n ∧ n ≤ 500 ∧ ∀ M', Ext M M' → k (.bl true) M'
end Q
namespace Q
open PySem PySem.Spec PyProof.Rows L2
theorem pm_bd {p : Pw × Int} {n : Nat} (h : p.2.natAbs < 2 ^ n) (h0 : 0 < n) : (pm p).bd n := by
  obtain ⟨x, e⟩ := p
  have h1 : 1 < 2 ^ n := Nat.one_lt_two_pow (by omega)
  cases x <;> simp [pm, Mt.bd, mS] <;> omega
theorem prodP_bd {n : Nat} (h0 : 0 < n) : ∀ l : List (Pw × Int), (∀ p ∈ l, p.2.natAbs < 2 ^ n) → (prodP l).bd (1 + l.length * (n + 1))
  | [], _ => Mt.one_bd.mono (Nat.le_add_right _ _)
  | p :: l, h => by
    have ih := prodP_bd h0 l fun q hq => h q (List.mem_cons_of_mem _ hq)
    have hp := pm_bd (h p List.mem_cons_self) h0
    rw [prodP_cons]
    refine (hp.mul ih).mono ?_
    rw [List.length_cons, Nat.add_mul]
    omega
theorem prodP_snoc (l : List (Pw × Int)) (p : Pw × Int) : prodP (l ++ [p]) = (prodP l).mul (pm p) := by
  rw [prodP_app]
  show (prodP l).mul ((pm p).mul Mt.one) = _
  rw [Mt.mul_one]
theorem tail_bd {n : Nat} {m : Mt} (h0 : 0 < n) (hb : m.bd n) : ∀ p ∈ tailP m, p.2.natAbs < 2 ^ n := by
  have h1 : 1 < 2 ^ n := Nat.one_lt_two_pow (by omega)
  have d1 := Int.natAbs_ediv_le_natAbs m.d m.c
  have d2 := Int.natAbs_ediv_le_natAbs (-m.d) m.c
  have b4 := hb.2.2.2
  intro p hp
  unfold tailP at hp
  split at hp
  · have : p = (.T, m.d / m.c) := by simpa using hp
    subst this
    show (m.d / m.c).natAbs < _
    omega
  · rcases List.mem_cons.mp hp with rfl | hp
    · exact h1
    · have : p = (.T, -((-m.d) / m.c)) := by simpa using hp
      subst this
      show (-((-m.d) / m.c)).natAbs < _
      omega
theorem tagged_bd {B : Nat} : ∀ (b : Bool) (qs : List Int), (∀ q ∈ qs, q.natAbs < B) → ∀ p ∈ tagged b qs, p.2.natAbs < B
  | _, [], _, p, hp => by cases hp
  | b, q :: qs, h, p, hp => by
    rcases List.mem_cons.mp hp with rfl | hp
    · exact h q List.mem_cons_self
    · exact tagged_bd (!b) qs (fun r hr => h r (List.mem_cons_of_mem _ hr)) p hp
theorem full_bd {n : Nat} {m : Mt} (h0 : 0 < n) (hb : m.bd n) : ∀ p ∈ fullP m, p.2.natAbs < 2 ^ n := by
  intro p hp
  unfold fullP at hp
  split at hp
  · have : p = (.T, m.b) := by simpa using hp
    subst this
    exact hb.2.1
  · rcases List.mem_append.mp hp with hp | hp
    · exact tagged_bd _ _ (quots_bd m.c.toNat m.a m.c (2 ^ n) (Nat.le_refl _) hb.1 hb.2.2.1) p hp
    · exact tail_bd h0 hb p hp
theorem expn_bd {n : Nat} {m : Mt} (h0 : 0 < n) (hb : m.bd n) : ∀ p ∈ expn m, p.2.natAbs < 2 ^ n := fun p hp => full_bd h0 hb p (List.mem_filter.mp hp).1
theorem full_len {n : Nat} {m : Mt} (hb : m.bd n) : (fullP m).length ≤ 2 * n + 2 := by
  unfold fullP
  split
  · simp
  · have := quots_len2 n m.a m.c hb.2.2.1
    rw [List.length_append, tagged_len]
    have : (tailP m).length ≤ 2 := by unfold tailP; split <;> simp
    omega
theorem expn_len2 {n : Nat} {m : Mt} (hb : m.bd n) : (expn m).length ≤ 2 * n + 2 := Nat.le_trans (List.length_filter_le _ _) (full_len hb)
theorem prodP_expn {m : Mt} (h : m.ok) : prodP (expn m) = m := by
  unfold expn
  rw [prodP_keep _ (fun p hp => (full_ok m p hp).2), prodP_full h]
/-- data of the powers -/
def dpw (p : Pw × Int) : PyData := .tuple [.str ⟨#[p.1.code]⟩, .int p.2]
theorem dat_pwv (p : Pw × Int) : dat (pwv p) = some (dpw p) := by simp [pwv, Pw.pv, dat, datL, dpw]
theorem datL_pws : ∀ l : List (Pw × Int), datL (l.map pwv) = some (l.map dpw)
  | [] => rfl
  | p :: l => by
    show (match dat (pwv p), datL (l.map pwv) with | some x, some y => some (x :: y) | _, _ => none) = _
    rw [dat_pwv, datL_pws l]
    rfl
theorem pws_facts {n : Nat} (h0 : 0 < n) (hn : n ≤ 1900) : ∀ l : List (Pw × Int), (∀ p ∈ l, p.2.natAbs < 2 ^ n) → PyData.showableAll (l.map dpw) = true ∧ PyData.hasDictAll (l.map dpw) = false ∧ PyData.depthAll (l.map dpw) ≤ 10 ∧ wtAll (l.map dpw) ≤ l.length * (n + 20)
  | [], _ => by simp [PyData.showableAll, PyData.hasDictAll, PyData.depthAll, wtAll]
  | p :: l, h => by
    obtain ⟨h1, h2, h3, h4⟩ := pws_facts h0 hn l fun q hq => h q (List.mem_cons_of_mem _ hq)
    have hp := h p List.mem_cons_self
    have hl : p.2.natAbs.log2 < n := PySem.Flt.log2_lt_of h0 hp
    have ht : (reprText ⟨#[p.1.code]⟩).length ≤ 3 := by cases p.1 <;> decide +kernel
    refine ⟨?_, ?_, ?_, ?_⟩
    · simp only [List.map_cons, PyData.showableAll, h1, dpw, PyData.showable, Bool.and_true, Bool.true_and]
      exact decide_eq_true (by omega)
    · simp only [List.map_cons, PyData.hasDictAll, h2, dpw, PyData.hasDict, Bool.or_false]
    · simp only [List.map_cons, PyData.depthAll, dpw, PyData.depth] at h3 ⊢
      omega
    · simp only [List.map_cons, wtAll, dpw, wt, List.length_cons, Nat.add_mul]
      omega
theorem pws_shows {n : Nat} (h0 : 0 < n) (hn : n ≤ 1900) {l : List (Pw × Int)} (h : ∀ p ∈ l, p.2.natAbs < 2 ^ n) (hl : l.length ≤ 4000) : shows (.tuple (l.map dpw)) := by
  obtain ⟨h1, h2, h3, h4⟩ := pws_facts h0 hn l h
  have hd : PyData.hasDict (.tuple (l.map dpw)) = false := by simpa [PyData.hasDict] using h2
  refine ⟨by simpa [PyData.showable] using h1, hd, by simp only [PyData.depth]; omega, ?_⟩
  have := shown_le _ hd
  simp only [wt] at this
  have m : l.length * (n + 20) ≤ 4000 * 1920 := Nat.mul_le_mul hl (by omega)
  rw [sizeLine_eq]
  omega
theorem power_of {p : Pw × Int} {M : PM} {k : PK} {ex : PX} (h : k (pm p).nf.pv M) : sp_L_power_of [p.1.pv, .int p.2] M k ex := ⟨p, rfl, h⟩
/-- a product of powers, one by one -/
theorem step_pw {l : List (Pw × Int)} {p : Pw × Int} {n : Nat} (h0 : 0 < n) (hl : ∀ q ∈ l, q.2.natAbs < 2 ^ n) (hp : p.2.natAbs < 2 ^ n) (hs : (l.length + 1) * (n + 1) ≤ 800000) {M : PM} {k : PK} {ex : PX} (h : k (prodP (l ++ [p])).nf.pv M) : sp_L_times [(prodP l).nf.pv, (pm p).nf.pv] M k ex := by
  have b1 := (prodP_bd h0 l hl).nf
  have b2 := (pm_bd hp h0).nf
  have d1 := prodP_det l
  have d2 := pm_det p
  have e : ((prodP l).nf.mul (pm p).nf).sg = (prodP (l ++ [p])).nf := by
    rw [Mt.sg_nf (Mt.det1_mul (Mt.ok_nf d1).1 (Mt.ok_nf d2).1), Mt.nf_mul_l d1 (Mt.ok_nf d2).1, Mt.nf_mul_r d1 d2, prodP_snoc]
  rw [Nat.add_mul] at hs
  exact ⟨_, _, _, _, _, _, _, _, rfl, ⟨_, _, b1, b2, by omega, h0, by omega⟩, by rw [e]; exact h⟩
/-- the last power of T, as the law finds it -/
theorem last_T {R m : Mt} {j : Int} (hR : R.det = 1) (h : m = R.mul ⟨1, j, 0, 1⟩) : R.d * m.b - R.b * m.d = j := by
  subst h
  simp only [Mt.mul, Mt.det] at *
  grind
end Q
namespace Q
open PySem PySem.Spec PyProof.Rows L2
/-- the powers ahead of the last one -/
def headP (m : Mt) : List (Pw × Int) := tagged true (quots m.a m.c) ++ (if (quots m.a m.c).length % 2 = 0 then [] else [(.S, 1)])
theorem full_head {m : Mt} (hc : m.c ≠ 0) : ∃ j, fullP m = headP m ++ [(.T, j)] := by
  unfold fullP headP tailP
  rw [if_neg hc]
  split
  · exact ⟨_, by simp; rfl⟩
  · exact ⟨_, by simp; rfl⟩
theorem head_last {m : Mt} (h : m.ok) (hc : m.c ≠ 0) : (prodP (headP m)).nf = prodP (headP m) ∧ fullP m = headP m ++ [(.T, (prodP (headP m)).nf.d * m.b - (prodP (headP m)).nf.b * m.d)] := by
  obtain ⟨j, e⟩ := full_head hc
  have e2 := prodP_full h
  rw [e, prodP_snoc] at e2
  have hd := prodP_det (headP m)
  have hcc : (prodP (headP m)).c = m.c := by
    have := congrArg Mt.c e2
    simpa [Mt.mul, pm] using this
  have hn : (prodP (headP m)).nf = prodP (headP m) := Mt.nf_ok ⟨hd, .inl (by rw [hcc]; have := h.2; omega)⟩
  refine ⟨hn, ?_⟩
  rw [hn, e, last_T hd e2.symm]
theorem tagged_step {b : Bool} {q : Int} {qs : List Int} : tagged b (q :: qs) = ((if b then .T else .F), q) :: tagged (!b) qs := rfl
end Q
/-! powers of T and of F by turns: their product, its expansion, its word -/
namespace Q
open PySem PySem.Spec PyProof.Rows L2
def swp (m : Mt) : Mt := ⟨m.d, m.c, m.b, m.a⟩
theorem swp_mul (m n : Mt) : swp (m.mul n) = (swp m).mul (swp n) := by
  simp [swp, Mt.mul, Int.add_comm]
theorem swp_swp (m : Mt) : swp (swp m) = m := rfl
theorem prod_swp : ∀ (es : List Int) (b : Bool), prodP (tagged (!b) es) = swp (prodP (tagged b es))
  | [], _ => rfl
  | e :: es, b => by
    rw [tagged_step, tagged_step, prodP_cons, prodP_cons, swp_mul, prod_swp es (!b)]
    cases b <;> rfl
abbrev XX (es : List Int) : Mt := prodP (tagged true es)
theorem xx_cons (e : Int) (es : List Int) : XX (e :: es) = ⟨(XX es).d + e * (XX es).b, (XX es).c + e * (XX es).a, (XX es).b, (XX es).a⟩ := by
  show prodP (tagged true (e :: es)) = _
  rw [tagged_step, prodP_cons, show (!true) = !true from rfl, prod_swp es true]
  simp [pm, Mt.mul, swp]
def Pos (es : List Int) : Prop := ∀ e ∈ es, 1 ≤ e
theorem Pos.tail {e : Int} {es : List Int} (h : Pos (e :: es)) : 1 ≤ e ∧ Pos es := ⟨h e List.mem_cons_self, fun x hx => h x (List.mem_cons_of_mem _ hx)⟩
structure XF (es : List Int) : Prop where
  a1 : 1 ≤ (XX es).a
  d1 : 1 ≤ (XX es).d
  b0 : 0 ≤ (XX es).b
  c0 : 0 ≤ (XX es).c
  ca : (XX es).c ≤ (XX es).a
  db : es ≠ [] → (XX es).d ≤ (XX es).b
theorem le_mul1 {e x : Int} (h : 1 ≤ e) (hx : 0 ≤ x) : x ≤ e * x := by
  have := Int.mul_le_mul_of_nonneg_right h hx
  omega
theorem xx_facts : ∀ (es : List Int), Pos es → XF es
  | [], _ => ⟨by decide, by decide, by decide, by decide, by decide, fun h => (h rfl).elim⟩
  | e :: es, h => by
    obtain ⟨h1, h2⟩ := h.tail
    have ih := xx_facts es h2
    obtain ⟨a1, d1, b0, c0, ca, db⟩ := ih
    have m1 := le_mul1 h1 b0
    have m2 := le_mul1 h1 (show 0 ≤ (XX es).a by omega)
    constructor <;> (try intro _) <;> rw [xx_cons] <;> dsimp only <;> omega
theorem xx_det (es : List Int) : (XX es).a * (XX es).d - (XX es).b * (XX es).c = 1 := prodP_det _
def nsum (l : List Int) : Nat := (l.map Int.natAbs).sum
theorem quot_step {r c e : Int} (h0 : 0 ≤ r) (h1 : r ≤ c) (hc : 0 < c) (h2 : r = c → c = 1) (he : 1 ≤ e) : nsum (quots (r + e * c) c) = e.toNat + nsum (quots c r) ∧ (quots (r + e * c) c).length ≤ 1 + (quots c r).length := by
  rw [quots_pos hc]
  by_cases h : r = c
  · have hc1 := h2 h
    subst h
    subst hc1
    rw [quots_pos (a := 1) (c := 1) (by decide)]
    have z1 : (1 + e * 1) % 1 = 0 := by omega
    have z2 : (1 + e * 1) / 1 = 1 + e := by omega
    rw [z1, z2, quots_zero (a := 1) (c := 0) (by decide), quots_zero (by decide)]
    constructor
    · simp [nsum]; omega
    · simp
  · have z1 : (r + e * c) % c = r := by rw [Int.add_mul_emod_self_right]; exact Int.emod_eq_of_lt h0 (by omega)
    have z2 : (r + e * c) / c = e := by rw [Int.add_mul_ediv_right _ _ (by omega), Int.ediv_eq_zero_of_lt h0 (by omega)]; omega
    rw [z1, z2]
    constructor
    · simp [nsum]; omega
    · simp; omega
mutual
def t1 : List Int → Int
  | [] => 0
  | e :: es => if es = [] then e else t2 es
def t2 : List Int → Int
  | [] => 0
  | _ :: es => t1 es
end
def tot (es : List Int) : Int := es.sum
theorem mul_one_of {x y : Int} (hx : 1 ≤ x) (h : x * y = 1) : x = 1 := by
  have hy : 1 ≤ y := by
    by_cases hy : 1 ≤ y
    · exact hy
    · have := Int.mul_nonpos_of_nonneg_of_nonpos (show 0 ≤ x by omega) (show y ≤ 0 by omega)
      omega
  have := Int.mul_le_mul_of_nonneg_left hy (show 0 ≤ x by omega)
  omega
theorem xx_quots : ∀ (es : List Int), Pos es → ((nsum (quots (XX es).a (XX es).c) : Int) + t1 es = tot es ∧ (quots (XX es).a (XX es).c).length ≤ es.length) ∧ ((nsum (quots (XX es).b (XX es).d) : Int) + t2 es = tot es ∧ (es ≠ [] → (quots (XX es).b (XX es).d).length ≤ es.length))
  | [], _ => by
    have q1 : quots (XX []).a (XX []).c = [] := quots_zero (by decide)
    have q2 : quots (XX []).b (XX []).d = [0] := by
      show quots 0 1 = [0]
      rw [quots_pos (by decide)]
      exact congrArg _ (quots_zero (by decide))
    rw [q1, q2]
    exact ⟨⟨rfl, by simp⟩, rfl, fun h => (h rfl).elim⟩
  | e :: es, h => by
    obtain ⟨h1, h2⟩ := h.tail
    obtain ⟨⟨s1, l1⟩, s2, l2⟩ := xx_quots es h2
    obtain ⟨a1, d1, b0, c0, ca, db⟩ := xx_facts es h2
    have dt := xx_det es
    have ts : tot (e :: es) = e + tot es := by simp [tot]
    rw [xx_cons]
    dsimp only
    refine ⟨?_, ?_⟩
    · by_cases he : es = []
      · subst he
        have q1 : quots ((XX []).d + e * (XX []).b) (XX []).b = [] := quots_zero (by decide)
        rw [q1, ts]
        simp [nsum, t1, tot]
      · have hdb := db he
        obtain ⟨w1, w2⟩ := quot_step (r := (XX es).d) (c := (XX es).b) (e := e) (by omega) hdb (by omega) (fun z => by
          refine mul_one_of (y := (XX es).a - (XX es).c) (by omega) ?_
          rw [Int.mul_sub, ← z, Int.mul_comm]
          rw [← z] at dt
          exact dt) h1
        have l2 := l2 he
        rw [w1, ts, t1, if_neg he]
        refine ⟨by omega, ?_⟩
        rw [List.length_cons]
        omega
    · obtain ⟨w1, w2⟩ := quot_step (r := (XX es).c) (c := (XX es).a) (e := e) (by omega) ca (by omega) (fun z => by
        refine mul_one_of (y := (XX es).d - (XX es).b) (by omega) ?_
        rw [Int.mul_sub, Int.mul_comm (XX es).a (XX es).b]
        rw [z] at dt
        exact dt) h1
      rw [w1, ts, t2]
      refine ⟨by omega, fun _ => ?_⟩
      rw [List.length_cons]
      omega
/-- how far the columns lie apart -/
theorem t_nonneg : ∀ (es : List Int), Pos es → 0 ≤ t1 es ∧ 0 ≤ t2 es
  | [], _ => by simp [t1, t2]
  | e :: es, h => by
    obtain ⟨h1, h2⟩ := h.tail
    have ih := t_nonneg es h2
    rw [t1, t2]
    refine ⟨?_, ih.1⟩
    split
    · omega
    · exact ih.2
theorem xx_ratio : ∀ (es : List Int), Pos es → (2 ≤ es.length → (XX es).d ≤ (t1 es + 1) * (XX es).c) ∧ (es ≠ [] → (XX es).a ≤ (t2 es + 1) * (XX es).b) ∧ (XX es).b ≤ (t1 es + 1) * (XX es).a ∧ (XX es).c ≤ (t2 es + 1) * (XX es).d
  | [], _ => ⟨fun h => absurd h (by decide), fun h => (h rfl).elim, by decide, by decide⟩
  | [e], h => by
    have h1 := h.tail.1
    rw [xx_cons]
    show _ ∧ _ ∧ _ ∧ _
    simp [t1, t2, tagged, prodP, Mt.one]
    omega
  | [e, f], h => by
    have h1 := h.tail.1
    have h2 := h.tail.2.tail.1
    rw [xx_cons, xx_cons]
    simp [t1, t2, tagged, prodP, Mt.one]
    have := le_mul1 h1 (show 0 ≤ f by omega)
    have := le_mul1 h2 (show 0 ≤ e by omega)
    have e1 : (f + 1) * e = f * e + e := by rw [Int.add_mul]; omega
    have e2 : e * f = f * e := Int.mul_comm _ _
    refine ⟨?_, ?_, ?_, ?_⟩ <;> omega
  | e :: f :: g :: r, h => by
    obtain ⟨h1, h2⟩ := h.tail
    obtain ⟨r1, r2, r3, r4⟩ := xx_ratio (f :: g :: r) h2
    have r1 := r1 (by simp)
    have r2 := r2 (by simp)
    have u1 : t1 (e :: f :: g :: r) = t2 (f :: g :: r) := by rw [t1, if_neg (by simp)]
    have u2 : t2 (e :: f :: g :: r) = t1 (f :: g :: r) := by rw [t2]
    rw [xx_cons, u1, u2]
    dsimp only
    generalize XX (f :: g :: r) = m at r1 r2 r3 r4 ⊢
    generalize t1 (f :: g :: r) = u at r1 r3 ⊢
    generalize t2 (f :: g :: r) = v at r2 r4 ⊢
    refine ⟨fun _ => r2, fun _ => ?_, ?_, r3⟩
    · have k1 := Int.mul_le_mul_of_nonneg_left r3 (show 0 ≤ e by omega)
      have e1 : (u + 1) * (m.c + e * m.a) = (u + 1) * m.c + e * ((u + 1) * m.a) := by rw [Int.mul_add, Int.mul_left_comm]
      omega
    · have k1 := Int.mul_le_mul_of_nonneg_left r2 (show 0 ≤ e by omega)
      have e1 : (v + 1) * (m.d + e * m.b) = (v + 1) * m.d + e * ((v + 1) * m.b) := by rw [Int.mul_add, Int.mul_left_comm]
      omega
theorem xx_cpos {es : List Int} (h : Pos es) (hl : 2 ≤ es.length) : 0 < (XX es).c := by
  match es, hl with
  | e :: f :: r, _ =>
    obtain ⟨h1, h2⟩ := h.tail
    have z := xx_facts _ h2
    have z2 := z.db (by simp)
    have z3 := z.d1
    rw [xx_cons]
    show 0 < (XX (f :: r)).b
    omega
theorem xx_ok {es : List Int} (h : Pos es) : (XX es).ok := by
  have z := xx_facts es h
  refine ⟨prodP_det _, ?_⟩
  have h1 := z.a1
  have h0 := z.c0
  by_cases hc : (XX es).c = 0
  · have dt := xx_det es
    rw [hc, Int.mul_zero, Int.sub_zero] at dt
    exact .inr ⟨hc, mul_one_of h1 dt⟩
  · exact .inl (by omega)
theorem xx_full {es : List Int} (h : Pos es) (hl : 2 ≤ es.length) : ((esum (expn (XX es)) : Nat) : Int) ≤ tot es + 2 ∧ (expn (XX es)).length ≤ es.length + 2 := by
  have hc := xx_cpos h hl
  obtain ⟨⟨s1, l1⟩, _⟩ := xx_quots es h
  obtain ⟨r1, _⟩ := xx_ratio es h
  have r1 := r1 hl
  have tn := (t_nonneg es h).1
  have d1 := (xx_facts es h).d1
  have up : (XX es).d / (XX es).c ≤ t1 es + 1 := Int.ediv_le_of_le_mul hc r1
  have lo : 0 ≤ (XX es).d / (XX es).c := Int.ediv_nonneg (by omega) (by omega)
  have up2 : -(t1 es + 1) ≤ (-(XX es).d) / (XX es).c := by
    refine (Int.le_ediv_iff_mul_le hc).mpr ?_
    rw [Int.neg_mul]
    omega
  have lo2 : (-(XX es).d) / (XX es).c ≤ 0 := Int.ediv_nonpos_of_nonpos_of_neg (by omega) (by omega)
  have ef : fullP (XX es) = tagged true (quots (XX es).a (XX es).c) ++ tailP (XX es) := if_neg (by omega)
  have hn : nsum (quots (XX es).a (XX es).c) = ((quots (XX es).a (XX es).c).map Int.natAbs).sum := rfl
  have tl : ((esum (tailP (XX es)) : Nat) : Int) ≤ t1 es + 2 ∧ (tailP (XX es)).length ≤ 2 := by
    unfold tailP
    split
    · simp [esum]; omega
    · simp [esum]; omega
  constructor
  · unfold expn
    rw [esum_keep, ef, esum_app, esum_tagged, ← hn]
    omega
  · have k := List.length_filter_le keep (fullP (XX es))
    rw [ef, List.length_append, tagged_len] at k
    unfold expn
    rw [ef]
    omega
/-! ### words -/
def prs (p : List Bool) : List Ltr := p.flatMap fun b => [.S, if b then .R else .r]
theorem isW_prs : ∀ p : List Bool, isW (prs p) = true
  | [] => rfl
  | [b] => by cases b <;> rfl
  | b :: c :: p => by
    have ih := isW_prs (c :: p)
    have e : prs (b :: c :: p) = .S :: (if b then Ltr.R else .r) :: prs (c :: p) := rfl
    have e2 : prs (c :: p) = .S :: (if c then Ltr.R else .r) :: prs p := rfl
    rw [e, e2]
    rw [e2] at ih
    show (_ && (_ && isW (.S :: _))) = true
    rw [ih]
    cases b <;> rfl
theorem prs_app (p q : List Bool) : prs (p ++ q) = prs p ++ prs q := by simp [prs]
theorem prs_len : ∀ p : List Bool, (prs p).length = 2 * p.length
  | [] => rfl
  | b :: p => by
    have := prs_len p
    rw [show prs (b :: p) = .S :: (if b then Ltr.R else .r) :: prs p from rfl, List.length_cons, List.length_cons, List.length_cons, this]
    omega
theorem rep_prs (b : Bool) : ∀ n : Nat, rep n [.S, if b then .R else .r] = prs (List.replicate n b)
  | 0 => rfl
  | n + 1 => by rw [rep_succ, rep_prs b n]; rfl
def dueW (es : List Int) : List Ltr := (tagged true es).flatMap lop
theorem due_prs : ∀ (es : List Int) (b : Bool), Pos es → ∃ p : List Bool, (tagged b es).flatMap lop = prs p ∧ (p.length : Int) = tot es
  | [], _, _ => ⟨[], rfl, rfl⟩
  | e :: es, b, h => by
    obtain ⟨h1, h2⟩ := h.tail
    obtain ⟨p, h3, h4⟩ := due_prs es (!b) h2
    have hl : lop ((if b then Pw.T else .F), e) = prs (List.replicate e.toNat b) := by
      cases b
      · exact rep_prs false _
      · show (if e < 0 then _ else rep e.toNat [.S, .R]) = _
        rw [if_neg (by omega)]
        exact rep_prs true _
    refine ⟨List.replicate e.toNat b ++ p, ?_, ?_⟩
    · rw [tagged_step, List.flatMap_cons, h3, hl, prs_app]
    · simp [tot]
      unfold tot at h4
      omega
theorem due_word {es : List Int} (h : Pos es) : isW (dueW es) = true ∧ ((dueW es).length : Int) = 2 * tot es ∧ wmt (dueW es) = XX es := by
  obtain ⟨p, h1, h2⟩ := due_prs es true h
  have e : dueW es = prs p := h1
  refine ⟨by rw [e]; exact isW_prs p, ?_, ?_⟩
  · rw [e, prs_len]; omega
  · show wmt ((tagged true es).flatMap lop) = _
    rw [wmt_lops _ (tagged_ok true es fun q hq => by have := h q hq; omega)]
    exact Mt.nf_ok (xx_ok h)
end Q
/-! floors: pairs of permutations, moved by words -/
namespace Q
structure Fl where
  s : List Nat
  r : List Nat
namespace Fl
def n (f : Fl) : Nat := f.s.length
def st (f : Fl) : Ltr → Nat → Nat
  | .S, x => f.s.getD x 0
  | .R, x => f.r.getD x 0
  | .r, x => f.r.getD (f.r.getD x 0) 0
def act (f : Fl) (w : List Ltr) (x : Nat) : Nat := w.foldl (fun x l => f.st l x) x
/-- all that a floor is, but connected -/
structure form (f : Fl) : Prop where
  len : f.r.length = f.s.length
  pos : 1 ≤ f.n
  le : f.n ≤ 120
  sr : ∀ x, x < f.n → f.st .S x < f.n ∧ f.st .S (f.st .S x) = x
  rr : ∀ x, x < f.n → f.st .R x < f.n ∧ f.st .R (f.st .R (f.st .R x)) = x
structure ok (f : Fl) : Prop extends form f where
  con : ∀ x, x < f.n → ∃ w, f.act w 0 = x
variable {f : Fl}
theorem act_app (u v : List Ltr) (x : Nat) : f.act (u ++ v) x = f.act v (f.act u x) := by simp [act]
theorem act_cons (l : Ltr) (v : List Ltr) (x : Nat) : f.act (l :: v) x = f.act v (f.st l x) := rfl
theorem act_nil (x : Nat) : f.act [] x = x := rfl
theorem form.st_lt (h : f.form) (l : Ltr) {x : Nat} (hx : x < f.n) : f.st l x < f.n := by
  cases l
  · exact (h.sr x hx).1
  · exact (h.rr x hx).1
  · exact (h.rr _ (h.rr x hx).1).1
theorem form.act_lt (h : f.form) : ∀ (w : List Ltr) {x : Nat}, x < f.n → f.act w x < f.n
  | [], _, hx => hx
  | l :: w, _, hx => h.act_lt w (h.st_lt l hx)
theorem form.inv (h : f.form) (l : Ltr) {x : Nat} (hx : x < f.n) : f.st l.inv (f.st l x) = x := by
  cases l
  · exact (h.sr x hx).2
  · exact (h.rr x hx).2
  · exact (h.rr x hx).2
theorem form.turned (h : f.form) : ∀ (w : List Ltr) {x : Nat}, x < f.n → f.act (Q.turned w) (f.act w x) = x
  | [], _, _ => rfl
  | l :: w, x, hx => by
    have e : Q.turned (l :: w) = Q.turned w ++ [l.inv] := by simp [Q.turned]
    rw [e, act_app]
    show f.st l.inv (f.act (Q.turned w) (f.act w (f.st l x))) = x
    rw [h.turned w (h.st_lt l hx)]
    exact h.inv l hx
theorem form.rst (h : f.form) (st : List Ltr) (l : Ltr) {x : Nat} (hx : x < f.n) : f.act (Q.rst st l).reverse x = f.act (st.reverse ++ [l]) x := by
  cases st with
  | nil => rfl
  | cons y t =>
    rw [rst_cons]
    split
    · simp
    · rename_i hf
      have hz := h.act_lt t.reverse hx
      generalize hw : f.act t.reverse x = z at hz
      have e1 : f.act ((y :: t).reverse ++ [l]) x = f.st l (f.st y z) := by
        rw [List.reverse_cons, List.append_assoc, act_app, hw]; rfl
      rw [e1]
      split
      · rename_i hl
        rw [hw]
        cases y <;> cases l <;> first | (exfalso; revert hf hl; decide) | exact (h.inv .S hz).symm | exact (h.inv .R hz).symm | exact (h.inv .r hz).symm
      · rename_i hl
        rw [List.reverse_cons, act_app, hw]
        show f.st l.inv z = _
        have hz3 := (h.rr z hz).2
        cases y <;> cases l <;> first | (exfalso; revert hf hl; decide) | rfl | skip
        · show f.st .R z = f.st .r (f.st .r z)
          show f.st .R z = f.st .R (f.st .R (f.st .R (f.st .R z)))
          rw [hz3]
theorem form.fold (h : f.form) : ∀ (w st : List Ltr) {x : Nat}, x < f.n → f.act (w.foldl Q.rst st).reverse x = f.act (st.reverse ++ w) x
  | [], st, x, hx => by simp
  | l :: w, st, x, hx => by
    rw [List.foldl_cons, h.fold w (Q.rst st l) hx, act_app, h.rst st l hx, ← act_app]
    simp
theorem form.red (h : f.form) (w : List Ltr) {x : Nat} (hx : x < f.n) : f.act (Q.red w) x = f.act w x := h.fold w [] hx
/-- what a matrix does is one thing -/
theorem form.one (h : f.form) {u v : List Ltr} (e : wmt u = wmt v) {x : Nat} (hx : x < f.n) : f.act u x = f.act v x := by
  rw [← h.red u hx, ← h.red v hx, word_inj (isW_red u) (isW_red v) (by rw [wmt_red, wmt_red, e])]
end Fl
/-! ### powers of any exponent -/
def lopZ : Pw × Int → List Ltr
  | (.T, n) => if n < 0 then rep (-n).toNat [.r, .S] else rep n.toNat [.S, .R]
  | (.F, n) => if n < 0 then rep (-n).toNat [.R, .S] else rep n.toNat [.S, .r]
  | (.S, _) => [.S]
theorem nf_F (n : Int) : (Mt.mk 1 0 n 1).nf = if n < 0 then ⟨-1, 0, -n, -1⟩ else ⟨1, 0, n, 1⟩ := by
  unfold Mt.nf
  by_cases h : n < 0
  · rw [if_pos (.inl h), if_pos h]; simp [Mt.neg]
  · rw [if_neg (by simp only; omega), if_neg h]
theorem wmt_RS : ∀ n : Nat, wmt (rep n [.R, .S]) = (Mt.mk 1 0 (-n) 1).nf
  | 0 => rfl
  | n + 1 => by
    have d1 : (Mt.mk 1 0 (-1) 1).det = 1 := by decide
    have d2 : (Mt.mk 1 0 (-(n : Int)) 1).det = 1 := by simp [Mt.det]
    rw [rep_succ, wmt_app, wmt_RS n, show wmt [.R, .S] = (Mt.mk 1 0 (-1) 1).nf by decide, Mt.nf_mul_l d1 (by rw [Mt.det_nf]; exact d2), Mt.nf_mul_r d1 d2]
    congr 1
    simp [Mt.mul]
    omega
theorem wmt_lopZ (p : Pw × Int) : wmt (lopZ p) = (pm p).nf := by
  obtain ⟨p, n⟩ := p
  cases p
  · exact wmt_lop (p := (.T, n)) trivial
  · show wmt (if n < 0 then rep (-n).toNat [.R, .S] else rep n.toNat [.S, .r]) = (Mt.mk 1 0 n 1).nf
    split
    · rw [wmt_RS, show -(((-n).toNat : Nat) : Int) = n by omega]
    · rename_i h
      exact wmt_lop (p := (.F, n)) (show 0 ≤ n by omega)
  · exact wmt_lop (p := (.S, n)) trivial
theorem lopZ_lop {p : Pw × Int} (h : pwOk p) : lopZ p = lop p := by
  obtain ⟨p, n⟩ := p
  cases p
  · rfl
  · have h : 0 ≤ n := h
    show (if n < 0 then _ else _) = _
    rw [if_neg (by omega)]
    rfl
  · rfl
/-! ### permutations in cycles -/
def itn (p : Nat → Nat) : Nat → Nat → Nat
  | 0, x => x
  | k + 1, x => itn p k (p x)
theorem itn_succ (p : Nat → Nat) : ∀ k x, itn p (k + 1) x = p (itn p k x)
  | 0, _ => rfl
  | k + 1, x => by
    show itn p (k + 1) (p x) = p (itn p (k + 1) x)
    rw [itn_succ p k (p x)]
    rfl
/-- c is a cycle of p (on 0 .. n - 1): each is followed by its image, the last by the first -/
structure Ring (p : Nat → Nat) (n : Nat) (c : List Nat) : Prop where
  pos : 0 < c.length
  lt : ∀ i, i < c.length → c.getD i 0 < n
  nxt : ∀ i, i < c.length → c.getD ((i + 1) % c.length) 0 = p (c.getD i 0)
/-- what stands i steps on -/
def cat (c : List Nat) (i : Int) : Nat := c.getD (i % (c.length : Int)).toNat 0
theorem cat_ix {c : List Nat} (h : 0 < c.length) (i : Int) : ∃ j : Nat, j < c.length ∧ i % (c.length : Int) = j ∧ cat c i = c.getD j 0 := by
  have h0 : 0 ≤ i % (c.length : Int) := Int.emod_nonneg _ (by omega)
  have h1 : i % (c.length : Int) < c.length := Int.emod_lt_of_pos _ (by omega)
  obtain ⟨j, hj⟩ := Int.eq_ofNat_of_zero_le h0
  exact ⟨j, by omega, hj, by unfold cat; rw [hj]; rfl⟩
section
variable {p : Nat → Nat} {n : Nat} {c : List Nat}
theorem Ring.cat_lt (h : Ring p n c) (i : Int) : cat c i < n := by
  obtain ⟨j, h1, _, h3⟩ := cat_ix h.pos i
  rw [h3]; exact h.lt j h1
theorem Ring.step (h : Ring p n c) (i : Int) : cat c (i + 1) = p (cat c i) := by
  obtain ⟨j, h1, h2, h3⟩ := cat_ix h.pos i
  rw [h3, ← h.nxt j h1]
  unfold cat
  congr 1
  have e : (i + 1) % (c.length : Int) = ((j : Int) + 1) % (c.length : Int) := by
    rw [← Int.emod_add_emod i, h2]
  rw [e]
  have : ((j : Int) + 1) % (c.length : Int) = (((j + 1) % c.length : Nat) : Int) := by
    rw [Int.natCast_emod]; rfl
  rw [this]; rfl
theorem Ring.fore {f : Fl} {u : List Ltr} (h : Ring p n c) (hu : ∀ x, x < n → f.act u x = p x) : ∀ (k : Nat) (i : Int), f.act (rep k u) (cat c i) = cat c (i + k)
  | 0, i => by simp [rep, Fl.act]
  | k + 1, i => by
    rw [rep_succ, Fl.act_app, hu _ (h.cat_lt i), ← h.step i, h.fore hu k]
    congr 1
    omega
theorem Ring.aft {f : Fl} {u : List Ltr} (h : Ring p n c) (hu : ∀ x, x < n → f.act u (p x) = x) : ∀ (k : Nat) (i : Int), f.act (rep k u) (cat c i) = cat c (i - k)
  | 0, i => by simp [rep, Fl.act]
  | k + 1, i => by
    have e : cat c i = p (cat c (i - 1)) := by rw [← h.step]; congr 1; omega
    rw [rep_succ, Fl.act_app, e, hu _ (h.cat_lt _), h.aft hu k]
    congr 1
    omega
/-- the images of x under 0, 1, .. k - 1 steps -/
def orb (p : Nat → Nat) (x k : Nat) : List Nat := (List.range k).map fun i => itn p i x
theorem orb_len (x k : Nat) : (orb p x k).length = k := by simp [orb]
theorem orb_get {x k i : Nat} (h : i < k) : (orb p x k).getD i 0 = itn p i x := by
  unfold orb
  rw [List.getD_eq_getElem?_getD, List.getElem?_map, List.getElem?_range h]
  rfl
theorem orb_succ (x k : Nat) : orb p x (k + 1) = orb p x k ++ [itn p k x] := by simp [orb, List.range_succ]
theorem itn_lt (hp : ∀ x, x < n → p x < n) : ∀ (k : Nat) {x : Nat}, x < n → itn p k x < n
  | 0, _, h => h
  | k + 1, _, h => itn_lt hp k (hp _ h)
theorem orb_ring (hp : ∀ x, x < n → p x < n) {x k : Nat} (hx : x < n) (hk : 0 < k) (h : itn p k x = x) : Ring p n (orb p x k) := by
  refine ⟨by rw [orb_len]; exact hk, fun i hi => ?_, fun i hi => ?_⟩
  · rw [orb_len] at hi
    rw [orb_get hi]; exact itn_lt hp i hx
  · rw [orb_len] at hi ⊢
    rw [orb_get hi, ← itn_succ p i x]
    by_cases e : i + 1 = k
    · rw [e, Nat.mod_self, orb_get hk, h]; rfl
    · have : i + 1 < k := by omega
      rw [Nat.mod_eq_of_lt this, orb_get this]
theorem itn_inj (hp : ∀ x, x < n → p x < n) (hi : ∀ x y, x < n → y < n → p x = p y → x = y) : ∀ (i d : Nat) {x : Nat}, x < n → itn p i x = itn p (i + d) x → itn p d x = x
  | 0, d, x, _, h => by rw [Nat.zero_add] at h; exact h.symm
  | i + 1, d, x, hx, h => by
    have e : i + 1 + d = (i + d) + 1 := by omega
    rw [e, itn_succ, itn_succ] at h
    exact itn_inj hp hi i d hx (hi _ _ (itn_lt hp _ hx) (itn_lt hp _ hx) h)
theorem nodup_le : ∀ (n : Nat) (l : List Nat), l.Nodup → (∀ x ∈ l, x < n) → l.length ≤ n
  | 0, l, _, h => by
    cases l with
    | nil => exact Nat.le_refl _
    | cons a b => exact absurd (h a List.mem_cons_self) (by omega)
  | n + 1, l, hn, h => by
    have h1 := nodup_le n (l.erase n) (hn.erase n) fun x hx => by
      have h2 := (hn.mem_erase_iff).mp hx
      have := h x h2.2
      have := h2.1
      omega
    by_cases hm : n ∈ l
    · rw [List.length_erase_of_mem hm] at h1; omega
    · rw [List.erase_of_not_mem hm] at h1; omega
theorem all_le : ∀ (n : Nat) (l : List Nat), (∀ x, x < n → x ∈ l) → n ≤ l.length
  | 0, _, _ => Nat.zero_le _
  | n + 1, l, h => by
    have hm := h n (by omega)
    have h1 := all_le n (l.erase n) fun x hx => (List.mem_erase_of_ne (by omega)).mpr (h x (by omega))
    rw [List.length_erase_of_mem hm] at h1
    have := List.length_pos_of_mem hm
    omega
theorem orb_le (hp : ∀ x, x < n → p x < n) (hi : ∀ x y, x < n → y < n → p x = p y → x = y) {x k : Nat} (hx : x < n) (h : ∀ j, 1 ≤ j → j < k → itn p j x ≠ x) : k ≤ n := by
  have z : (orb p x k).Nodup := by
    unfold orb
    rw [List.nodup_iff_pairwise_ne, List.pairwise_map]
    refine List.Pairwise.imp_of_mem ?_ (List.pairwise_lt_range (n := k))
    intro i j hi' hj' hij e
    have hj' := List.mem_range.mp hj'
    have := itn_inj hp hi i (j - i) hx (by rw [show i + (j - i) = j by omega]; exact e)
    exact h (j - i) (by omega) (by omega) this
  have := nodup_le n _ z fun y hy => by
    unfold orb at hy
    obtain ⟨i, _, rfl⟩ := List.mem_map.mp hy
    exact itn_lt hp i hx
  rw [orb_len] at this
  exact this
end
namespace Fl
variable {f : Fl}
/-! ### the walk -/
def tile (f : Fl) (x : Nat) : List Nat := if f.st .R x = x then [x] else [x, f.st .R x, f.st .r x]
def inner (f : Fl) (z : List Nat × List Nat) (y : Nat) : List Nat × List Nat := if f.st .S y ∈ z.2 then z else (z.1 ++ [f.st .S y], z.2 ++ f.tile (f.st .S y))
def wst (f : Fl) (b : Nat) : Nat → List Nat × List Nat
  | 0 => ([b], f.tile b)
  | d + 1 => match (f.wst b d).1[d]? with
    | some x => (f.tile x).foldl f.inner (f.wst b d)
    | none => f.wst b d
theorem tile_self (x : Nat) : x ∈ f.tile x := by unfold tile; split <;> simp
theorem form.tile_lt (h : f.form) {x : Nat} (hx : x < f.n) : ∀ y ∈ f.tile x, y < f.n := by
  intro y hy
  unfold tile at hy
  split at hy
  · simp at hy; omega
  · simp at hy
    rcases hy with rfl | rfl | rfl
    · exact hx
    · exact h.st_lt .R hx
    · exact h.st_lt .r hx
theorem form.tile_R (h : f.form) {x : Nat} (hx : x < f.n) : ∀ y ∈ f.tile x, f.st .R y ∈ f.tile x := by
  intro y hy
  unfold tile at hy ⊢
  split at hy
  · rename_i e
    rw [if_pos e]
    simp at hy
    subst hy
    simp [e]
  · rename_i e
    rw [if_neg e]
    simp at hy
    rcases hy with rfl | rfl | rfl
    · simp
    · simp only [List.mem_cons]
      exact .inr (.inr (.inl rfl))
    · simp only [List.mem_cons]
      exact .inl (h.rr x hx).2
/-- the queue and what is entered: as the walk keeps them -/
structure WI (f : Fl) (b : Nat) (z : List Nat × List Nat) : Prop where
  base : b ∈ z.1
  nd : z.1.Nodup
  lt : ∀ x ∈ z.1, x < f.n
  iff_ : ∀ y, y ∈ z.2 ↔ ∃ x ∈ z.1, y ∈ f.tile x
theorem WI.inner {b : Nat} {z : List Nat × List Nat} (h : f.form) (w : WI f b z) {y : Nat} (hy : y < f.n) : WI f b (f.inner z y) ∧ f.st .S y ∈ (f.inner z y).2 ∧ (∃ t, (f.inner z y).1 = z.1 ++ t) ∧ ∀ x ∈ z.2, x ∈ (f.inner z y).2 := by
  unfold Fl.inner
  split
  · rename_i e
    exact ⟨w, e, ⟨[], by simp⟩, fun _ h => h⟩
  · rename_i e
    have hq : f.st .S y ∉ z.1 := fun q => e ((w.iff_ _).mpr ⟨_, q, tile_self _⟩)
    refine ⟨⟨List.mem_append_left _ w.base, ?_, ?_, ?_⟩, List.mem_append_right _ (tile_self _), ⟨_, rfl⟩, fun x hx => List.mem_append_left _ hx⟩
    · rw [List.nodup_append]
      exact ⟨w.nd, by simp, fun a ha c hc => by simp at hc; subst hc; intro e'; subst e'; exact hq ha⟩
    · intro x hx
      rcases List.mem_append.mp hx with hx | hx
      · exact w.lt x hx
      · simp at hx; subst hx; exact h.st_lt .S hy
    · intro u
      simp only [List.mem_append, List.mem_singleton, w.iff_]
      constructor
      · rintro (⟨x, hx, hu⟩ | hu)
        · exact ⟨x, .inl hx, hu⟩
        · exact ⟨_, .inr rfl, hu⟩
      · rintro ⟨x, hx | rfl, hu⟩
        · exact .inl ⟨x, hx, hu⟩
        · exact .inr hu
theorem WI.fold {b : Nat} (h : f.form) : ∀ (l : List Nat) {z : List Nat × List Nat}, WI f b z → (∀ y ∈ l, y < f.n) → WI f b (l.foldl f.inner z) ∧ (∀ y ∈ l, f.st .S y ∈ (l.foldl f.inner z).2) ∧ (∃ t, (l.foldl f.inner z).1 = z.1 ++ t) ∧ ∀ x ∈ z.2, x ∈ (l.foldl f.inner z).2
  | [], z, w, _ => ⟨w, fun y hy => (by cases hy), ⟨[], by simp⟩, fun _ h => h⟩
  | y :: l, z, w, hl => by
    obtain ⟨w1, m1, ⟨t1, e1⟩, k1⟩ := w.inner h (hl y List.mem_cons_self)
    obtain ⟨w2, m2, ⟨t2, e2⟩, k2⟩ := w1.fold h l fun u hu => hl u (List.mem_cons_of_mem _ hu)
    rw [List.foldl_cons]
    refine ⟨w2, fun u hu => ?_, ⟨t1 ++ t2, by rw [e2, e1, List.append_assoc]⟩, fun x hx => k2 x (k1 x hx)⟩
    rcases List.mem_cons.mp hu with rfl | hu
    · exact k2 _ m1
    · exact m2 u hu
theorem form.wi (h : f.form) {b : Nat} (hb : b < f.n) : ∀ d, WI f b (f.wst b d) ∧ ∀ i x, i < d → (f.wst b d).1[i]? = some x → ∀ y ∈ f.tile x, f.st .S y ∈ (f.wst b d).2
  | 0 => ⟨⟨by simp [wst], by simp [wst], fun x hx => by simp [wst] at hx; omega, fun y => by simp [wst]⟩, fun i x hi => by omega⟩
  | d + 1 => by
    obtain ⟨w, p⟩ := h.wi hb d
    unfold wst
    split
    · rename_i x0 hx0
      have hx0n := w.lt x0 (List.mem_of_getElem? hx0)
      obtain ⟨w2, m2, ⟨t, e⟩, k⟩ := w.fold h (f.tile x0) fun y hy => h.tile_lt hx0n y hy
      refine ⟨w2, fun i x hi hx y hy => ?_⟩
      have hd := (List.getElem?_eq_some_iff.mp hx0).1
      rw [e, List.getElem?_append_left (by omega)] at hx
      by_cases e' : i = d
      · subst e'
        rw [hx0] at hx
        cases hx
        exact m2 y hy
      · exact k _ (p i x (by omega) hx y hy)
    · rename_i hx0
      refine ⟨w, fun i x hi hx y hy => ?_⟩
      by_cases e' : i = d
      · subst e'
        rw [hx0] at hx
        cases hx
      · exact p i x (by omega) hx y hy
theorem form.wq_le (h : f.form) {b : Nat} (hb : b < f.n) (d : Nat) : (f.wst b d).1.length ≤ f.n := nodup_le _ _ (h.wi hb d).1.nd (h.wi hb d).1.lt
theorem wst_stay {b d : Nat} (h : (f.wst b d).1.length ≤ d) : ∀ k, f.wst b (d + k) = f.wst b d
  | 0 => rfl
  | k + 1 => by
    show (match (f.wst b (d + k)).1[d + k]? with | some x => (f.tile x).foldl f.inner (f.wst b (d + k)) | none => f.wst b (d + k)) = _
    rw [wst_stay h k, List.getElem?_eq_none (by omega)]
/-- the places at which tiles are entered, in their order -/
def walkQ (f : Fl) (b : Nat) : List Nat := (f.wst b f.n).1
theorem walkQ_eq {b d : Nat} (h : (f.wst b d).1.length ≤ d) (hd : d ≤ f.n) : f.walkQ b = (f.wst b d).1 := by
  unfold walkQ
  rw [show f.n = d + (f.n - d) by omega, wst_stay h]
def walkP (f : Fl) (b : Nat) : List Nat := (f.walkQ b).flatMap f.tile
theorem form.walk_mem (h : f.form) {b : Nat} (hb : b < f.n) (w : List Ltr) : f.act w b ∈ f.walkP b := by
  have hw := h.wi hb f.n
  have hl := h.wq_le hb f.n
  have iff_ : ∀ y, y ∈ f.walkP b ↔ y ∈ (f.wst b f.n).2 := fun y => by
    unfold walkP walkQ
    rw [List.mem_flatMap, hw.1.iff_]
  have cl : ∀ l y, y ∈ f.walkP b → f.st l y ∈ f.walkP b := fun l y hy => by
    have hR : ∀ y, y ∈ f.walkP b → f.st .R y ∈ f.walkP b := fun y hy => by
      rw [iff_, hw.1.iff_] at hy ⊢
      obtain ⟨x, hx, hy⟩ := hy
      exact ⟨x, hx, h.tile_R (hw.1.lt x hx) y hy⟩
    cases l with
    | R => exact hR y hy
    | r => exact hR _ (hR y hy)
    | S =>
      rw [iff_] at hy ⊢
      obtain ⟨x, hx, hy⟩ := (hw.1.iff_ y).mp hy
      obtain ⟨i, hi⟩ := List.mem_iff_getElem?.mp hx
      exact hw.2 i x (by have := (List.getElem?_eq_some_iff.mp hi).1; omega) hi y hy
  have b0 : b ∈ f.walkP b := by
    rw [iff_, hw.1.iff_]
    exact ⟨b, hw.1.base, tile_self b⟩
  have go : ∀ (w : List Ltr) (y : Nat), y ∈ f.walkP b → f.act w y ∈ f.walkP b := by
    intro w
    induction w with
    | nil => intro y hy; exact hy
    | cons l w ih => intro y hy; exact ih _ (cl l y hy)
  exact go w b b0
theorem ok.reach (h : f.ok) {b x : Nat} (hb : b < f.n) (hx : x < f.n) : ∃ w, f.act w b = x := by
  obtain ⟨u, hu⟩ := h.con b hb
  obtain ⟨v, hv⟩ := h.con x hx
  have h0 : 0 < f.n := by have := h.pos; omega
  refine ⟨Q.turned u ++ v, ?_⟩
  rw [act_app, ← hu, h.toform.turned u h0, hv]
theorem ok.walk_all (h : f.ok) {b : Nat} (hb : b < f.n) : ∀ x, x < f.n → x ∈ f.walkP b := fun x hx => by
  obtain ⟨w, hw⟩ := h.reach hb hx
  rw [← hw]
  exact h.toform.walk_mem hb w
theorem ok.walk_len (h : f.ok) {b : Nat} (hb : b < f.n) : f.n ≤ (f.walkP b).length := all_le _ _ (h.walk_all hb)
theorem tile_len (x : Nat) : 1 ≤ (f.tile x).length ∧ (f.tile x).length ≤ 3 := by unfold tile; split <;> simp
theorem form.walk_le (h : f.form) {b : Nat} (hb : b < f.n) : (f.walkP b).length ≤ 360 := by
  have h1 := h.wq_le hb f.n
  have h2 := h.le
  have : ∀ l : List Nat, (l.flatMap f.tile).length ≤ 3 * l.length := by
    intro l
    induction l with
    | nil => simp
    | cons a l ih =>
      rw [List.flatMap_cons, List.length_append, List.length_cons]
      have := (tile_len (f := f) a).2
      omega
  have := this (f.wst b f.n).1
  unfold walkP walkQ
  omega
end Fl
end Q
/-! floors that are drawn: tile by tile, then linked, then renamed -/
namespace Q
theorem getD_l {l m : List Nat} {x : Nat} (h : x < l.length) : (l ++ m).getD x 0 = l.getD x 0 := by
  rw [List.getD_eq_getElem?_getD, List.getD_eq_getElem?_getD, List.getElem?_append_left h]
theorem getD_r {l m : List Nat} (i : Nat) : (l ++ m).getD (l.length + i) 0 = m.getD i 0 := by
  rw [List.getD_eq_getElem?_getD, List.getD_eq_getElem?_getD, List.getElem?_append_right (by omega)]
  congr 2
  omega
theorem getD_set {l : List Nat} {x y v : Nat} (h : x < l.length) : (l.set x v).getD y 0 = if x = y then v else l.getD y 0 := by
  rw [List.getD_eq_getElem?_getD, List.getD_eq_getElem?_getD, List.getElem?_set]
  by_cases e : x = y
  · subst e; simp [h]
  · simp [e]
theorem erase_perm {α : Type} : ∀ (l : List α) (i : Nat) {y : α}, l[i]? = some y → (y :: l.eraseIdx i).Perm l
  | [], _, _, h => by simp at h
  | a :: l, 0, y, h => by
    simp at h
    subst h
    exact List.Perm.refl _
  | a :: l, i + 1, y, h => by
    simp only [List.getElem?_cons_succ] at h
    rw [List.eraseIdx_cons_succ]
    exact (List.Perm.swap a y _).trans ((erase_perm l i h).cons a)
theorem erase_facts {L : List Nat} (hn : L.Nodup) {i y : Nat} (hi : L[i]? = some y) : (L.eraseIdx i).Nodup ∧ (∀ z ∈ L.eraseIdx i, z ∈ L ∧ z ≠ y) ∧ y ∈ L ∧ (L.eraseIdx i).length + 1 = L.length := by
  obtain ⟨hl, he⟩ := List.getElem?_eq_some_iff.mp hi
  have p := erase_perm L i hi
  have nd := (p.nodup_iff).mpr hn
  rw [List.nodup_cons] at nd
  refine ⟨nd.2, fun z hz => ⟨p.mem_iff.mp (List.mem_cons_of_mem _ hz), fun e => nd.1 (e ▸ hz)⟩, p.mem_iff.mp List.mem_cons_self, by rw [List.length_eraseIdx_of_lt hl]; omega⟩
inductive Rch (f : Fl) : Nat → Prop
  | zero : Rch f 0
  | s {x : Nat} : Rch f x → Rch f (f.st .S x)
  | r {x : Nat} : Rch f x → Rch f (f.st .R x)
theorem Rch.word {f : Fl} {x : Nat} (h : Rch f x) : ∃ w, f.act w 0 = x := by
  induction h with
  | zero => exact ⟨[], rfl⟩
  | s _ ih => obtain ⟨w, hw⟩ := ih; exact ⟨w ++ [.S], by rw [Fl.act_app, hw]; rfl⟩
  | r _ ih => obtain ⟨w, hw⟩ := ih; exact ⟨w ++ [.R], by rw [Fl.act_app, hw]; rfl⟩
/-- a floor that is being drawn; L: its loose places -/
structure Dr (f : Fl) (L : List Nat) : Prop where
  len : f.r.length = f.s.length
  sr : ∀ x, x < f.n → f.st .S x < f.n ∧ f.st .S (f.st .S x) = x
  rr : ∀ x, x < f.n → f.st .R x < f.n ∧ f.st .R (f.st .R (f.st .R x)) = x
  con : ∀ x, x < f.n → Rch f x
  nd : L.Nodup
  lo : ∀ x ∈ L, x < f.n ∧ f.st .S x = x
theorem dr_nil : Dr ⟨[], []⟩ [] := ⟨rfl, fun x hx => absurd hx (by simp [Fl.n]), fun x hx => absurd hx (by simp [Fl.n]), fun x hx => absurd hx (by simp [Fl.n]), by simp, fun x hx => by cases hx⟩
theorem Dr.weak {f : Fl} {L L' : List Nat} (h : Dr f L) (nd : L'.Nodup) (hs : ∀ x ∈ L', x ∈ L) : Dr f L' := ⟨h.len, h.sr, h.rr, h.con, nd, fun x hx => h.lo x (hs x hx)⟩
theorem Dr.link {f : Fl} {L L' : List Nat} {x y : Nat} (h : Dr f L) (hx : x ∈ L) (hy : y ∈ L) (hxy : x ≠ y) (nd : L'.Nodup) (hs : ∀ z ∈ L', z ∈ L ∧ z ≠ x ∧ z ≠ y) : Dr ⟨(f.s.set x y).set y x, f.r⟩ L' := by
  obtain ⟨x1, x2⟩ := h.lo x hx
  obtain ⟨y1, y2⟩ := h.lo y hy
  have hS : ∀ z, (Fl.mk ((f.s.set x y).set y x) f.r).st .S z = if y = z then x else if x = z then y else f.st .S z := fun z => by
    show ((f.s.set x y).set y x).getD z 0 = _
    rw [getD_set (by rw [List.length_set]; exact y1), getD_set x1]
    rfl
  have hn : (Fl.mk ((f.s.set x y).set y x) f.r).n = f.n := by simp [Fl.n]
  have other : ∀ z, z < f.n → z ≠ x → z ≠ y → f.st .S z ≠ x ∧ f.st .S z ≠ y := fun z hz n1 n2 => by
    refine ⟨fun e => n1 ?_, fun e => n2 ?_⟩
    · have := (h.sr z hz).2; rw [e, x2] at this; exact this.symm
    · have := (h.sr z hz).2; rw [e, y2] at this; exact this.symm
  refine ⟨by simpa using h.len, fun z hz => ?_, fun z hz => by rw [hn] at hz ⊢; exact h.rr z hz, fun z hz => ?_, nd, fun z hz => ?_⟩
  · rw [hn] at hz ⊢
    by_cases e1 : y = z
    · subst e1
      rw [hS y, if_pos rfl]
      refine ⟨x1, ?_⟩
      rw [hS x, if_neg (fun e => hxy e.symm), if_pos rfl]
    · by_cases e2 : x = z
      · subst e2
        rw [hS x, if_neg (fun e => hxy e.symm), if_pos rfl]
        refine ⟨y1, ?_⟩
        rw [hS y, if_pos rfl]
      · obtain ⟨o1, o2⟩ := other z hz (fun e => e2 e.symm) (fun e => e1 e.symm)
        rw [hS z, if_neg e1, if_neg e2]
        refine ⟨(h.sr z hz).1, ?_⟩
        rw [hS, if_neg (fun e => o2 e.symm), if_neg (fun e => o1 e.symm)]
        exact (h.sr z hz).2
  · rw [hn] at hz
    have conv : ∀ z, Rch f z → Rch ⟨(f.s.set x y).set y x, f.r⟩ z := fun z hz => by
      induction hz with
      | zero => exact .zero
      | @s u _ ih =>
        by_cases e1 : y = u
        · subst e1; rw [y2]; exact ih
        · by_cases e2 : x = u
          · subst e2; rw [x2]; exact ih
          · have := Rch.s ih
            rw [hS u, if_neg e1, if_neg e2] at this
            exact this
      | r _ ih => exact Rch.r ih
    exact conv z (h.con z hz)
  · obtain ⟨z1, z2, z3⟩ := hs z hz
    obtain ⟨z4, z5⟩ := h.lo z z1
    rw [hn, hS z, if_neg (fun e => z3 e.symm), if_neg (fun e => z2 e.symm)]
    exact ⟨z4, z5⟩
/-- the new tile's places -/
def fresh (N m : Nat) : List Nat := (List.range m).map fun i => N + i
theorem fresh1 (N : Nat) : fresh N 1 = [N] := rfl
theorem fresh3 (N : Nat) : fresh N 3 = [N, N + 1, N + 2] := rfl
def addT (f : Fl) (m : Nat) : Fl := ⟨f.s ++ fresh f.n m, (f.r ++ (fresh f.n m).drop 1) ++ (fresh f.n m).take 1⟩
theorem addT_n (f : Fl) (m : Nat) : (addT f m).n = f.n + m := by simp [addT, Fl.n, fresh]
theorem addT_facts {f : Fl} (hl : f.r.length = f.s.length) {m : Nat} (hm : m = 1 ∨ m = 3) :
    (addT f m).r.length = (addT f m).s.length ∧ (∀ l x, l ≠ .r → x < f.n → (addT f m).st l x = f.st l x) ∧ (∀ i, i < m → (addT f m).st .S (f.n + i) = f.n + i) ∧ (∀ i, i < m → (addT f m).st .R (f.n + i) = f.n + (i + 1) % m) := by
  refine ⟨?_, fun l x hr hx => ?_, fun i hi => ?_, fun i hi => ?_⟩
  · rcases hm with rfl | rfl <;> simp [addT, fresh1, fresh3, hl]
  · cases l with
    | S => exact getD_l hx
    | R =>
      show ((f.r ++ _) ++ _).getD x 0 = _
      rw [List.append_assoc]
      exact getD_l (by rw [hl]; exact hx)
    | r => exact absurd rfl hr
  · show (f.s ++ fresh f.n m).getD (f.s.length + i) 0 = _
    rw [getD_r]
    rcases hm with rfl | rfl
    · have : i = 0 := by omega
      subst this; rfl
    · have : i = 0 ∨ i = 1 ∨ i = 2 := by omega
      rcases this with rfl | rfl | rfl <;> rfl
  · show ((f.r ++ (fresh f.n m).drop 1) ++ (fresh f.n m).take 1).getD (f.n + i) 0 = _
    rw [List.append_assoc, show f.n = f.r.length from hl.symm, getD_r]
    rcases hm with rfl | rfl
    · have : i = 0 := by omega
      subst this; rfl
    · have : i = 0 ∨ i = 1 ∨ i = 2 := by omega
      rcases this with rfl | rfl | rfl <;> rfl
theorem m_case {N m x : Nat} (h : x < N + m) : x < N ∨ ∃ i, i < m ∧ x = N + i := by
  by_cases e : x < N
  · exact .inl e
  · exact .inr ⟨x - N, by omega, by omega⟩
/-- the tile beside what stands: everything but that it is reached -/
theorem addT_perm {f : Fl} {L : List Nat} (h : Dr f L) {m : Nat} (hm : m = 1 ∨ m = 3) :
    (∀ x, x < (addT f m).n → (addT f m).st .S x < (addT f m).n ∧ (addT f m).st .S ((addT f m).st .S x) = x) ∧ (∀ x, x < (addT f m).n → (addT f m).st .R x < (addT f m).n ∧ (addT f m).st .R ((addT f m).st .R ((addT f m).st .R x)) = x) := by
  obtain ⟨_, a1, a2, a3⟩ := addT_facts h.len hm
  rw [addT_n]
  refine ⟨fun x hx => ?_, fun x hx => ?_⟩
  · rcases m_case hx with hx | ⟨i, hi, rfl⟩
    · obtain ⟨h1, h2⟩ := h.sr x hx
      rw [a1 .S x (by simp) hx, a1 .S _ (by simp) h1]
      exact ⟨by omega, h2⟩
    · rw [a2 i hi, a2 i hi]
      exact ⟨by omega, rfl⟩
  · rcases m_case hx with hx | ⟨i, hi, rfl⟩
    · obtain ⟨h1, h2⟩ := h.rr x hx
      have h3 := (h.rr _ h1).1
      rw [a1 .R x (by simp) hx, a1 .R _ (by simp) h1, a1 .R _ (by simp) h3]
      exact ⟨by omega, h2⟩
    · have hmod : ∀ j, (j + 1) % m < m := fun j => Nat.mod_lt _ (by omega)
      rw [a3 i hi, a3 _ (hmod _), a3 _ (hmod _)]
      refine ⟨by have := hmod i; omega, ?_⟩
      rcases hm with rfl | rfl
      · omega
      · have : i = 0 ∨ i = 1 ∨ i = 2 := by omega
        rcases this with rfl | rfl | rfl <;> rfl
theorem Rch.addT {f : Fl} {L : List Nat} (h : Dr f L) {m : Nat} (hm : m = 1 ∨ m = 3) (hp : 0 < f.n) : ∀ {x : Nat}, Rch f x → x < f.n ∧ Rch (Q.addT f m) x := by
  obtain ⟨_, a1, a2, a3⟩ := addT_facts h.len hm
  intro x hx
  induction hx with
  | zero => exact ⟨hp, .zero⟩
  | @s u _ ih =>
    have := Rch.s ih.2
    rw [a1 .S u (by simp) ih.1] at this
    exact ⟨(h.sr u ih.1).1, this⟩
  | @r u _ ih =>
    have := Rch.r ih.2
    rw [a1 .R u (by simp) ih.1] at this
    exact ⟨(h.rr u ih.1).1, this⟩
theorem fresh_nd (N m : Nat) : (fresh N m).Nodup := by
  unfold fresh
  rw [List.nodup_iff_pairwise_ne, List.pairwise_map]
  exact List.Pairwise.imp (fun h e => by omega) (List.pairwise_lt_range (n := m))
theorem mem_fresh {N m x : Nat} : x ∈ fresh N m ↔ N ≤ x ∧ x < N + m := by
  unfold fresh
  rw [List.mem_map]
  constructor
  · rintro ⟨i, hi, rfl⟩
    have := List.mem_range.mp hi
    omega
  · rintro ⟨h1, h2⟩
    exact ⟨x - N, List.mem_range.mpr (by omega), by omega⟩
theorem dr_first {m : Nat} (hm : m = 1 ∨ m = 3) : Dr (addT ⟨[], []⟩ m) (fresh 0 m) := by
  obtain ⟨b0, a1, a2, a3⟩ := addT_facts (f := ⟨[], []⟩) rfl hm
  obtain ⟨p1, p2⟩ := addT_perm dr_nil hm
  have hn : (addT ⟨[], []⟩ m).n = m := by rw [addT_n]; simp [Fl.n]
  refine ⟨b0, p1, p2, fun x hx => ?_, fresh_nd _ _, fun x hx => ?_⟩
  · rw [hn] at hx
    have z0 : Rch (addT ⟨[], []⟩ m) 0 := .zero
    rcases hm with rfl | rfl
    · have : x = 0 := by omega
      subst this; exact z0
    · have : x = 0 ∨ x = 1 ∨ x = 2 := by omega
      rcases this with rfl | rfl | rfl
      · exact z0
      · exact Rch.r z0
      · exact Rch.r (Rch.r z0)
  · have := mem_fresh.mp hx
    rw [hn]
    have z := a2 x (by omega)
    simp only [Fl.n, List.length_nil, Nat.zero_add] at z
    exact ⟨by omega, z⟩
theorem Dr.add {f : Fl} {L L' : List Nat} {t m : Nat} (h : Dr f L) (hm : m = 1 ∨ m = 3) (ht : t ∈ L) (nd : L'.Nodup) (hs : ∀ z ∈ L', (z ∈ L ∧ z ≠ t) ∨ z ∈ (fresh f.n m).drop 1) : Dr ⟨((addT f m).s.set t f.n).set f.n t, (addT f m).r⟩ L' := by
  obtain ⟨b0, a1, a2, a3⟩ := addT_facts h.len hm
  obtain ⟨p1, p2⟩ := addT_perm h hm
  obtain ⟨t1, t2⟩ := h.lo t ht
  have hp : 0 < f.n := by omega
  have hmp : 0 < m := by omega
  have nt : t ≠ f.n := by omega
  have tS : (addT f m).st .S t = t := by rw [a1 .S t (by simp) t1]; exact t2
  have nS : (addT f m).st .S f.n = f.n := a2 0 hmp
  have tn : t < (addT f m).n := by rw [addT_n]; omega
  have nn : f.n < (addT f m).n := by rw [addT_n]; omega
  have hS : ∀ z, (Fl.mk (((addT f m).s.set t f.n).set f.n t) (addT f m).r).st .S z = if f.n = z then t else if t = z then f.n else (addT f m).st .S z := fun z => by
    show (((addT f m).s.set t f.n).set f.n t).getD z 0 = _
    rw [getD_set (by rw [List.length_set]; exact nn), getD_set tn]
    rfl
  have hn : (Fl.mk (((addT f m).s.set t f.n).set f.n t) (addT f m).r).n = (addT f m).n := by simp [Fl.n]
  have other : ∀ z, z < (addT f m).n → z ≠ t → z ≠ f.n → (addT f m).st .S z ≠ t ∧ (addT f m).st .S z ≠ f.n := fun z hz n1 n2 => by
    refine ⟨fun e => n1 ?_, fun e => n2 ?_⟩
    · have := (p1 z hz).2; rw [e, tS] at this; exact this.symm
    · have := (p1 z hz).2; rw [e, nS] at this; exact this.symm
  have conv : ∀ z, Rch (addT f m) z → Rch ⟨((addT f m).s.set t f.n).set f.n t, (addT f m).r⟩ z := fun z hz => by
    induction hz with
    | zero => exact .zero
    | @s u _ ih =>
      by_cases e1 : f.n = u
      · subst e1; rw [nS]; exact ih
      · by_cases e2 : t = u
        · subst e2; rw [tS]; exact ih
        · have := Rch.s ih
          rw [hS u, if_neg e1, if_neg e2] at this
          exact this
    | r _ ih => exact Rch.r ih
  refine ⟨by simpa using b0, fun z hz => ?_, fun z hz => by rw [hn] at hz ⊢; exact p2 z hz, fun z hz => ?_, nd, fun z hz => ?_⟩
  · rw [hn] at hz ⊢
    by_cases e1 : f.n = z
    · subst e1
      rw [hS f.n, if_pos rfl]
      refine ⟨tn, ?_⟩
      rw [hS t, if_neg (fun e => nt e.symm), if_pos rfl]
    · by_cases e2 : t = z
      · subst e2
        rw [hS t, if_neg (fun e => nt e.symm), if_pos rfl]
        refine ⟨nn, ?_⟩
        rw [hS f.n, if_pos rfl]
      · obtain ⟨o1, o2⟩ := other z hz (fun e => e2 e.symm) (fun e => e1 e.symm)
        rw [hS z, if_neg e1, if_neg e2]
        refine ⟨(p1 z hz).1, ?_⟩
        rw [hS, if_neg (fun e => o2 e.symm), if_neg (fun e => o1 e.symm)]
        exact (p1 z hz).2
  · rw [hn, addT_n] at hz
    have old : ∀ z, z < f.n → Rch ⟨((addT f m).s.set t f.n).set f.n t, (addT f m).r⟩ z := fun z hz => conv z (Rch.addT h hm hp (h.con z hz)).2
    rcases m_case hz with hz | ⟨i, hi, rfl⟩
    · exact old z hz
    · have z0 : Rch ⟨((addT f m).s.set t f.n).set f.n t, (addT f m).r⟩ f.n := by
        have := Rch.s (old t t1)
        rw [hS t, if_neg (fun e => nt e.symm), if_pos rfl] at this
        exact this
      have nx : ∀ j, j < m → Rch ⟨((addT f m).s.set t f.n).set f.n t, (addT f m).r⟩ (f.n + j) → Rch ⟨((addT f m).s.set t f.n).set f.n t, (addT f m).r⟩ (f.n + (j + 1) % m) := fun j hj hr => by
        have := Rch.r hr
        have e : (Fl.mk (((addT f m).s.set t f.n).set f.n t) (addT f m).r).st .R (f.n + j) = (addT f m).st .R (f.n + j) := rfl
        rw [e, a3 j hj] at this
        exact this
      rcases hm with rfl | rfl
      · have : i = 0 := by omega
        subst this; exact z0
      · have z1 := nx 0 (by omega) z0
        have z2 := nx 1 (by omega) z1
        have : i = 0 ∨ i = 1 ∨ i = 2 := by omega
        rcases this with rfl | rfl | rfl
        · exact z0
        · exact z1
        · exact z2
  · rw [hn]
    have fr : ∀ z, z ∈ (fresh f.n m).drop 1 → f.n < z ∧ z < f.n + m := fun z hz => by
      rcases hm with rfl | rfl
      · simp [fresh1] at hz
      · simp [fresh3] at hz
        omega
    rcases hs z hz with ⟨z1, z2⟩ | z1
    · obtain ⟨z4, z5⟩ := h.lo z z1
      rw [hS z, if_neg (by omega), if_neg (fun e => z2 e.symm), a1 .S z (by simp) z4, addT_n]
      exact ⟨by omega, z5⟩
    · obtain ⟨y1, y2⟩ := fr z z1
      rw [hS z, if_neg (by omega), if_neg (by omega), addT_n]
      refine ⟨by omega, ?_⟩
      have := a2 (z - f.n) (by omega)
      rw [show f.n + (z - f.n) = z by omega] at this
      exact this
/-- other numbers for the places -/
structure Ren (f g : Fl) (nm : List Nat) : Prop where
  perm : nm.Perm (List.range f.n)
  ls : g.s.length = f.n
  lr : g.r.length = f.n
  es : ∀ j, j < f.n → g.st .S (nm.getD j 0) = nm.getD (f.st .S j) 0
  er : ∀ j, j < f.n → g.st .R (nm.getD j 0) = nm.getD (f.st .R j) 0
theorem Ren.ok {f g : Fl} {L nm : List Nat} (h : Ren f g nm) (d : Dr f L) (hp : 1 ≤ f.n) (hl : f.n ≤ 120) : g.ok ∧ g.n = f.n := by
  have hn : g.n = f.n := h.ls
  have nl : nm.length = f.n := by have := h.perm.length_eq; rwa [List.length_range] at this
  have lt : ∀ j, j < f.n → nm.getD j 0 < f.n := fun j hj => by
    have e : nm.getD j 0 = nm[j]'(by omega) := by simp [List.getD_eq_getElem?_getD, nl, hj]
    rw [e]
    exact List.mem_range.mp (h.perm.mem_iff.mp (List.getElem_mem _))
  have onto : ∀ y, y < f.n → ∃ j, j < f.n ∧ nm.getD j 0 = y := fun y hy => by
    obtain ⟨j, hj⟩ := List.mem_iff_getElem?.mp (h.perm.mem_iff.mpr (List.mem_range.mpr hy))
    have hjl := (List.getElem?_eq_some_iff.mp hj).1
    exact ⟨j, by omega, by rw [List.getD_eq_getElem?_getD, hj]; rfl⟩
  have fm : g.form := by
    refine ⟨by rw [h.lr, h.ls], by omega, by omega, fun x hx => ?_, fun x hx => ?_⟩
    · rw [hn] at hx ⊢
      obtain ⟨j, hj, rfl⟩ := onto x hx
      obtain ⟨q1, q2⟩ := d.sr j hj
      rw [h.es j hj, h.es _ q1, q2]
      exact ⟨lt _ q1, rfl⟩
    · rw [hn] at hx ⊢
      obtain ⟨j, hj, rfl⟩ := onto x hx
      obtain ⟨q1, q2⟩ := d.rr j hj
      have q3 := (d.rr _ q1).1
      rw [h.er j hj, h.er _ q1, h.er _ q3, q2]
      exact ⟨lt _ q1, rfl⟩
  have ltf : ∀ l j, j < f.n → f.st l j < f.n := fun l j hj => by
    cases l
    · exact (d.sr j hj).1
    · exact (d.rr j hj).1
    · exact (d.rr _ (d.rr j hj).1).1
  have stp : ∀ l j, j < f.n → g.st l (nm.getD j 0) = nm.getD (f.st l j) 0 := fun l j hj => by
    cases l
    · exact h.es j hj
    · exact h.er j hj
    · show g.st .R (g.st .R _) = nm.getD (f.st .R (f.st .R j)) 0
      rw [h.er j hj, h.er _ (d.rr j hj).1]
  have mv : ∀ (w : List Ltr) (j : Nat), j < f.n → g.act w (nm.getD j 0) = nm.getD (f.act w j) 0 := fun w => by
    induction w with
    | nil => intro j _; rfl
    | cons l w ih => intro j hj; rw [Fl.act_cons, Fl.act_cons, stp l j hj]; exact ih _ (ltf l j hj)
  refine ⟨⟨fm, fun x hx => ?_⟩, hn⟩
  rw [hn] at hx
  have reach : ∀ y, y < f.n → ∃ w, g.act w (nm.getD 0 0) = y := fun y hy => by
    obtain ⟨j, hj, rfl⟩ := onto y hy
    obtain ⟨w, hw⟩ := (d.con j hj).word
    exact ⟨w, by rw [mv w 0 (by omega), hw]⟩
  obtain ⟨u, hu⟩ := reach 0 (by omega)
  obtain ⟨v, hv⟩ := reach x hx
  refine ⟨turned u ++ v, ?_⟩
  have := fm.turned u (x := nm.getD 0 0) (by rw [hn]; exact lt 0 (by omega))
  rw [hu] at this
  rw [Fl.act_app, this, hv]
end Q
namespace Q
/-! ### powers along rings -/
theorem Ring.congr {p q : Nat → Nat} {n : Nat} {c : List Nat} (h : Ring p n c) (e : ∀ x, x < n → p x = q x) : Ring q n c := ⟨h.pos, h.lt, fun i hi => by rw [h.nxt i hi, e _ (h.lt i hi)]⟩
theorem cat_at {c : List Nat} {i : Nat} (h : i < c.length) : cat c (i : Int) = c.getD i 0 := by
  unfold cat
  have : ((i : Int) % (c.length : Int)).toNat = i := by
    rw [← Int.natCast_emod, Int.toNat_natCast, Nat.mod_eq_of_lt h]
  rw [this]
namespace Fl
variable {f : Fl}
def stp (f : Fl) : Pw → Nat → Nat
  | .T, x => f.act [.S, .R] x
  | .F, x => f.act [.S, .r] x
  | .S, x => f.act [.S] x
theorem form.stp_lt (h : f.form) (p : Pw) {x : Nat} (hx : x < f.n) : f.stp p x < f.n := by
  cases p <;> exact h.act_lt _ hx
theorem form.stp_inj (h : f.form) (p : Pw) {x y : Nat} (hx : x < f.n) (hy : y < f.n) (e : f.stp p x = f.stp p y) : x = y := by
  have z : ∀ w : List Ltr, f.act w x = f.act w y → x = y := fun w e => by
    have h1 := h.turned w hx
    rw [e, h.turned w hy] at h1
    exact h1.symm
  cases p <;> exact z _ e
theorem form.pow (h : f.form) {p : Pw} {c : List Nat} (r : Ring (f.stp p) f.n c) {e : Int} (he : p = .S → e = 1) (i : Int) : cat c (i + e) = f.act (lopZ (p, e)) (cat c i) := by
  cases p with
  | S =>
    rw [he rfl, r.step]
    rfl
  | T =>
    show _ = f.act (if e < 0 then rep (-e).toNat [.r, .S] else rep e.toNat [.S, .R]) (cat c i)
    split
    · rw [r.aft (u := [.r, .S]) (fun x hx => h.turned [.S, .R] hx)]
      congr 1; omega
    · rw [r.fore (u := [.S, .R]) (fun x hx => rfl)]
      congr 1; omega
  | F =>
    show _ = f.act (if e < 0 then rep (-e).toNat [.R, .S] else rep e.toNat [.S, .r]) (cat c i)
    split
    · rw [r.aft (u := [.R, .S]) (fun x hx => h.turned [.S, .r] hx)]
      congr 1; omega
    · rw [r.fore (u := [.S, .r]) (fun x hx => rfl)]
      congr 1; omega
def rowT (f : Fl) : List Nat := (List.range f.n).map fun x => f.act [.S, .R] x
def rowF (f : Fl) : List Nat := (List.range f.n).map fun x => f.act [.S, .r] x
def back (f : Fl) : List Nat := (List.range f.n).map fun x => f.st .r x
end Fl
theorem range_get {g : Nat → Nat} {n x : Nat} (h : x < n) : ((List.range n).map g).getD x 0 = g x := by
  rw [List.getD_eq_getElem?_getD, List.getElem?_map, List.getElem?_range h]
  rfl
theorem self_range (l : List Nat) : (List.range l.length).map (fun x => l.getD x 0) = l := by
  apply List.ext_getElem?
  intro i
  rw [List.getElem?_map]
  by_cases h : i < l.length
  · rw [List.getElem?_range h]
    simp [List.getD_eq_getElem?_getD, h]
  · rw [List.getElem?_eq_none (by simpa using h), List.getElem?_eq_none (by omega)]
    rfl
theorem map_self (l : List Nat) (g : Nat → Nat) : l.map g = (List.range l.length).map fun x => g (l.getD x 0) := by
  conv => lhs; rw [← self_range l]
  rw [List.map_map]
  rfl
end Q
namespace Q
open PySem PySem.Spec PyProof.Rows L2
def natL (l : List Nat) : List PV := l.map fun (n : Nat) => .int (n : Int)
/-- a row of places: a tuple of ints -/
def Fl.pv (f : Fl) : PV := .tup [.tup (natL f.s), .tup (natL f.r)]
/-- .. whose two rows are known to have no dict -/
def Fl.px (f : Fl) : PV := .tup [.tpx (natL f.s), .tpx (natL f.r)]
/-- v is a list or a tuple of xs -/
def sqv (v : PV) (M : PM) (xs : List PV) : Prop := seqP v M fun ys => ys = xs
def sqn (v : PV) (M : PM) (l : List Nat) : Prop := sqv v M (natL l)
/-! ### the program -/
def sp_check_place : PSp := fun xs M k _ => ∃ (f : Fl) (x : Nat), xs = [f.pv, .int x] ∧ x < f.n ∧ k .non M
def sp_tile_of : PSp := fun xs M k _ => ∃ (f : Fl) (x : Nat), xs = [.tup (natL f.r), .int x] ∧ f.form ∧ x < f.n ∧ k (.tup (natL (f.tile x))) M
def sp_u_has_form : PSp := fun xs M k _ => ∃ f : Fl, xs = [f.pv] ∧ f.form ∧ k (.bl true) M
def sp_u_is_restored : PSp := fun xs M k _ => ∃ (l : List Nat) (t : Nat), xs = [.tup (natL l), .int t] ∧ l.length ≤ 120 ∧ t ≤ 3 ∧ (∀ x, x < l.length → l.getD x 0 < l.length ∧ itn (fun y => l.getD y 0) t x = x) ∧ k (.bl true) M
def sp_entries_of_walk : PSp := fun xs M k _ => ∃ (f : Fl) (b : Nat), xs = [f.pv, .int b] ∧ f.form ∧ b < f.n ∧ ∀ (e : Addr) (kvs : List (Key × PV)) (M' : PM), M e = none → Ext M M' → M' e = some (.dK kvs) → kvs.map (·.1) = (f.walkQ b).map (fun (x : Nat) => Sum.inl (x : Int)) → k (.ref e) M'
def sp_u_walked : PSp := fun xs M k _ => ∃ (f : Fl) (b : Nat), xs = [f.pv, .int b] ∧ f.form ∧ b < f.n ∧ ∀ M', Ext M M' → k (.tup (natL (f.walkP b))) M'
def sp_u_wrong_part : PSp := fun xs M k _ => ∃ f : Fl, xs = [f.pv] ∧ f.ok ∧ ∀ M', Ext M M' → k .non M'
def sp_check_floor : PSp := fun xs M k _ => ∃ f : Fl, xs = [f.pv] ∧ f.ok ∧ ∀ M', Ext M M' → k .non M'
def sp_letter_tables : PSp := fun xs M k _ => ∃ f : Fl, xs = [f.pv] ∧ f.form ∧ ∀ (a : Addr) (M' : PM), Ext M M' → M' a = some (.dK [(.inr "S", .tup (natL f.s)), (.inr "R", .tup (natL f.r)), (.inr "r", .tup (natL f.back))]) → k (.ref a) M'
/-- l is a permutation of 0 .. length - 1 -/
structure Prm (l : List Nat) : Prop where
  le : l.length ≤ 120
  lt : ∀ x, x < l.length → l.getD x 0 < l.length
  inj : ∀ x y, x < l.length → y < l.length → l.getD x 0 = l.getD y 0 → x = y
def Rng (l c : List Nat) : Prop := Ring (fun x => l.getD x 0) l.length c
def sp_cycles_of_permutation : PSp := fun xs M k _ => ∃ (v : PV) (l : List Nat), xs = [v] ∧ sqn v M l ∧ Prm l ∧ ∀ (a : Addr) (cs : List (List Nat)) (M' : PM), M a = none → Ext M M' → M' a = some (.lst (cs.map fun c => .tup (natL c))) → (∀ c ∈ cs, Rng l c ∧ c.length ≤ 120) → cs.length ≤ 120 → (∀ x, x < l.length → ∃ c ∈ cs, x ∈ c) → k (.ref a) M'
/-- each place's seat in its cycle -/
def Seats (M : PM) (v : PV) (l : List Nat) : Prop := ∃ xs, sqv v M xs ∧ xs.length = l.length ∧ ∀ x, x < l.length → ∃ (c : List Nat) (i : Nat), xs[x]? = some (.tup [.tup (natL c), .int i]) ∧ Rng l c ∧ i < c.length ∧ c.getD i 0 = x
def sp_u_seats : PSp := fun xs M k _ => ∃ (v : PV) (l : List Nat), xs = [v] ∧ sqn v M l ∧ Prm l ∧ ∀ (a : Addr) (M' : PM), Ext M M' → Seats M' (.ref a) l → k (.ref a) M'
def PTab (M : PM) (a : Addr) (f : Fl) : Prop := ∃ v1 v2 v3, M a = some (.dK [(.inr "S", v1), (.inr "T", v2), (.inr "F", v3)]) ∧ Seats M v1 f.s ∧ Seats M v2 f.rowT ∧ Seats M v3 f.rowF
def sp_power_tables : PSp := fun xs M k _ => ∃ f : Fl, xs = [f.pv] ∧ f.form ∧ ∀ (a : Addr) (M' : PM), Ext M M' → PTab M' a f → k (.ref a) M'
/-- S alone, once -/
def oneS (ps : List (Pw × Int)) : Prop := ∀ p ∈ ps, p.1 = .S → p.2 = 1
def sp_led_by_powers : PSp := fun xs M k _ => ∃ (f : Fl) (a : Addr) (x : Nat) (ps : List (Pw × Int)), xs = [.ref a, .int x, .tup (ps.map pwv)] ∧ f.form ∧ x < f.n ∧ PTab M a f ∧ oneS ps ∧ k (.int (f.act (ps.flatMap lopZ) x)) M
def sp_lead0 : PSp := fun xs M k _ => ∃ (f : Fl) (x : Nat) (w : List Ltr) (n : Nat), xs = [f.pv, .int x, (wmt w).pv] ∧ f.ok ∧ x < f.n ∧ (wmt w).bd n ∧ 0 < n ∧ n ≤ 8000 ∧ ∀ M', Ext M M' → k (.int (f.act w x)) M'
def sp_lead : PSp := spW sp_lead0
/-! ### the law's own -/
def sp_L_mixed : PSp := fun xs M k _ => ∃ (a : Addr) (n : Nat) (v : PV) (l : List Nat), xs = [.ref a, v] ∧ Src M a n ∧ n + 1000 < lim ∧ sqn v M l ∧ l.length ≤ 120 ∧ ∀ (p : Addr) (m : List Nat) (M' : PM), m.Perm l → M p = none → M' p = some (.lst (natL m)) → Src M' a (n + l.length) → Up M M' a → k (.ref p) M'
def sp_L_renamed : PSp := fun xs M k _ => ∃ (f : Fl) (vs vr : PV) (q : Addr) (nm : List Nat), xs = [.tup [vs, vr], .ref q] ∧ sqn vs M f.s ∧ sqn vr M f.r ∧ M q = some (.lst (natL nm)) ∧ f.r.length = f.n ∧ f.n ≤ 120 ∧ nm.Perm (List.range f.n) ∧ (∀ j, j < f.n → f.st .S j < f.n ∧ f.st .R j < f.n) ∧ ∀ (g : Fl) (M' : PM), Ren f g nm → Ext M M' → k g.px M'
def sp_L_floor : PSp := fun xs M k _ => ∃ (a : Addr) (n t : Nat), xs = [.ref a, .int t] ∧ Src M a n ∧ n + 2000 < lim ∧ 1 ≤ t ∧ t ≤ 12 ∧ ∀ (f : Fl) (M' : PM), f.ok → f.n ≤ 3 * t → Src M' a (n + 300) → Up M M' a → k f.px M'
def sp_L_led : PSp := fun xs M k _ => ∃ (f : Fl) (x : Nat) (w : List Ltr), xs = [f.px, .int x, wpv w] ∧ f.form ∧ x < f.n ∧ w.length ≤ 10000 ∧ k (.int (f.act w x)) M
def sp_L_ring : PSp := fun xs M k _ => ∃ (f : Fl) (x : Nat) (p : Pw), xs = [f.px, .int x, p.pv] ∧ f.form ∧ x < f.n ∧ p ≠ .S ∧ ∀ (a : Addr) (c : List Nat) (M' : PM), M a = none → Ext M M' → M' a = some (.lst (natL c)) → Ring (f.stp p) f.n c → c.getD 0 0 = x → k (.ref a) M'
def sp_L_spun : PSp := fun xs M k _ => ∃ (f : Fl) (x : Nat) (v : PV) (ps : List (Pw × Int)), xs = [f.px, .int x, v] ∧ f.form ∧ x < f.n ∧ sqv v M (ps.map pwv) ∧ oneS ps ∧ ∀ M', Ext M M' → k (.int (f.act (ps.flatMap lopZ) x)) M'
def sp_L_huge : PSp := fun xs M k _ => ∃ (a : Addr) (n : Nat), xs = [.ref a] ∧ Src M a n ∧ n + 100 < lim ∧ ∀ (z : Int) M', z.natAbs < 2 ^ 210 → SrcUp M M' a (n + 12) → k (.int z) M'
def smallP (ps : List (Pw × Int)) : Prop := ps.length ≤ 5 ∧ oneS ps ∧ ∀ p ∈ ps, p.2.natAbs < 2 ^ 210
def sp_L_spins : PSp := fun xs M k _ => ∃ (a : Addr) (n : Nat), xs = [.ref a] ∧ Src M a n ∧ n + 500 < lim ∧ ∀ (q : Addr) (ps : List (Pw × Int)) M', smallP ps → M q = none → M' q = some (.lst (ps.map pwv)) → Src M' a (n + 100) → Up M M' a → k (.ref q) M'
def sp_L_spun_matrix : PSp := fun xs M k _ => ∃ (v : PV) (ps : List (Pw × Int)), xs = [v] ∧ sqv v M (ps.map pwv) ∧ smallP ps ∧ k (prodP ps).nf.pv M
def sp_L_spins_right : PSp := fun xs M k _ => ∃ (a : Addr) (n : Nat) (f : Fl), xs = [.ref a, f.px] ∧ Src M a n ∧ n + 1000 < lim ∧ f.ok ∧ ∀ M', Src M' a (n + 150) → Up M M' a → k (.bl true) M'
end Q
namespace Q
open PySem PySem.Spec PyProof.Rows L2
abbrev badFr : PEx := ⟨"BadFraction", none⟩
/-- a value that is no fraction -/
structure NoFr (M : PM) (v : PV) : Prop where
  fine : fineM M v
  no : isFr v = false
def sp20_check_fraction : PSp := fun xs M k x => ∃ v, xs = [v] ∧ ((NoFr M v ∧ x badFr M) ∨ (∃ f : Fr, v = f.pv ∧ f.ok ∧ k .non M))
def sp20_taken : PSp := fun xs M k x => ∃ v u, xs = [v, u] ∧ ((NoMt M v ∧ x badMt M) ∨ (∃ m : Mt, v = m.pv ∧ smallMt m ∧ ((NoFr M u ∧ x badFr M) ∨ (∃ f : Fr, u = f.pv ∧ f.ok ∧ f.bd 40 ∧ ∀ r, k r M))))
def sp20_matrix_of_fraction : PSp := fun xs M k x => ∃ v, xs = [v] ∧ NoFr M v ∧ x badFr M
def sp20_path : PSpX := fun xs M k x => ∃ v, xs = [v] ∧ NoFr M v ∧ x badFr M
def sp_L_no_fraction : PSp := fun xs M k _ => ∃ (a : Addr) (n : Nat), xs = [.ref a] ∧ Src M a n ∧ n + 10 < lim ∧ ∀ v M', NoFr M' v → Src M' a (n + 1) → Up M M' a → k v M'
def sp_L_ratio_told : PSpH := fun t M k _ => ∀ (x' : PX) (k' : PK), (∀ M', (∀ M2, Ext M' M2 → k (.str "matrix") M2) → x' badMt M') → (∀ M', (∀ M2, Ext M' M2 → k (.str "fraction") M2) → x' badFr M') → (∀ v M', k (.str "") M' → k' v M') → t M x' k'
def sp20_turn : PSp := fun xs M k _ => ∃ (a : Addr) (n : Nat), xs = [.ref a] ∧ Src M a n ∧ n + 100 < lim ∧ (∃ P, M P = some (.tab "_law_turn_right")) ∧ ∀ M', Src M' a (n + 10) → Up M M' a → k (.bl true) M'
end Q
namespace Q
open PySem PySem.Spec PyProof.Rows L2
theorem fineM_up {M M' : PM} {v : PV} (h : fineM M v) (e : ∀ b kvs, M b = some (.dK kvs) → M' b = some (.dK kvs)) : fineM M' v := by
  rcases h with h | ⟨a, kvs, rfl, q⟩
  · exact .inl h
  · exact .inr ⟨a, kvs, rfl, e _ _ q⟩
theorem NoFr.up {M M' : PM} {v : PV} (h : NoFr M v) (e : ∀ b kvs, M b = some (.dK kvs) → M' b = some (.dK kvs)) : NoFr M' v := ⟨fineM_up h.fine e, h.no⟩
theorem NoFr.ext {M M' : PM} {v : PV} (h : NoFr M v) (e : Ext M M') : NoFr M' v := h.up fun b _ z => e b _ z
structure St20 (M : PM) (a : Addr) (n : Nat) (P p : Addr) (xs : List PV) (bad v : PV) : Prop where
  src : Src M a n
  tab : M P = some (.tab "_law_turn_right")
  lst : M p = some (.lst xs)
  bad : NoMt M bad
  th : NoFr M v
  ne : p ≠ a
section
variable {M M' : PM} {a : Addr} {n : Nat} {P p q : Addr} {xs : List PV} {bad v : PV}
theorem St20.ext (h : St20 M a n P p xs bad v) (e : Ext M M') : St20 M' a n P p xs bad v := ⟨h.src.ext e, e _ _ h.tab, e _ _ h.lst, h.bad.ext e, h.th.ext e, h.ne⟩
theorem St20.put (h : St20 M a n P p xs bad v) (ys : List PV) : St20 (updM M p (.lst ys)) a n P p ys bad v := by
  have kd : ∀ b kvs, M b = some (.dK kvs) → updM M p (.lst ys) b = some (.dK kvs) := fun b kvs e => by
    have : b ≠ p := fun z => by rw [z, h.lst] at e; cases e
    rw [updM_ne this]; exact e
  have hP : P ≠ p := fun z => by have := h.tab; rw [z, h.lst] at this; cases this
  refine ⟨?_, by rw [updM_ne hP]; exact h.tab, updM_same, h.bad.up kd, h.th.up kd, h.ne⟩
  obtain ⟨x, y, z, e, r⟩ := h.src
  exact ⟨x, y, z, by rw [updM_ne (Ne.symm h.ne)]; exact e, r⟩
theorem appP_20 {M0 : PM} {y : PV} {k : PK} (st : St20 M a n P p xs bad v) (up : Up M0 M a) (hp : M0 p = none) (hl : xs.length < 1000) (h : ∀ M', St20 M' a n P p (xs ++ [y]) bad v → Up M0 M' a → k .non M') : appP p y M k := by
  unfold appP
  rw [st.lst]
  exact ⟨by rw [sizeLine_eq]; omega, h _ (st.put _) (up.new hp)⟩
end
end Q
namespace Q
open PySem PySem.Spec PyProof.Rows L2
@[simp] theorem natL_len (l : List Nat) : (natL l).length = l.length := by simp [natL]
theorem natL_nil : natL [] = [] := rfl
theorem natL_app (a b : List Nat) : natL (a ++ b) = natL a ++ natL b := by simp [natL]
theorem natL_one (a : Nat) : natL [a] = [.int (a : Int)] := rfl
theorem natL_get {l : List Nat} {x : Nat} (h : x < l.length) : (natL l)[x]? = some (.int ((l.getD x 0 : Nat) : Int)) := by
  unfold natL
  rw [List.getElem?_map, List.getD_eq_getElem?_getD]
  have : l[x]? = some l[x] := List.getElem?_eq_getElem h
  rw [this]
  rfl
theorem atI_at {α : Type} {xs : List α} {x : Nat} {p : α} (h : xs[x]? = some p) : atI xs (x : Int) = some p := by
  have hl := (List.getElem?_eq_some_iff.mp h).1
  unfold atI ixN
  have h2 : ¬ ((x : Int) < 0) := by omega
  simp [h2, hl]
  exact (List.getElem?_eq_some_iff.mp h).2
theorem atI_nat {l : List Nat} {x : Nat} (h : x < l.length) : atI (natL l) (x : Int) = some (.int ((l.getD x 0 : Nat) : Int)) := atI_at (natL_get h)
theorem atI_s {f : Fl} {x : Nat} (h : x < f.n) : atI (natL f.s) (x : Int) = some (.int ((f.st .S x : Nat) : Int)) := atI_nat h
theorem atI_r {f : Fl} (hf : f.form) {x : Nat} (h : x < f.n) : atI (natL f.r) (x : Int) = some (.int ((f.st .R x : Nat) : Int)) := atI_nat (by rw [hf.len]; exact h)
theorem sqv_ext {v : PV} {M M' : PM} {xs : List PV} (h : sqv v M xs) (e : Ext M M') : sqv v M' xs := by
  unfold sqv at *
  cases v with
  | ref a =>
    have h' : (match M a with | some (.lst ys) => ys = xs | _ => False) := h
    show (match M' a with | some (.lst ys) => ys = xs | _ => False)
    split at h'
    · rename_i ys hM
      rw [e _ _ hM]
      exact h'
    · exact h'.elim
  | _ => exact h
theorem sqv_ref {a : Addr} {M : PM} {xs : List PV} (h : M a = some (.lst xs)) : sqv (.ref a) M xs := by
  show (match M a with | some (.lst ys) => ys = xs | _ => False)
  rw [h]
theorem seqP_sq {v : PV} {M : PM} {xs : List PV} {k : List PV → Prop} (h : sqv v M xs) (hk : k xs) : seqP v M k := by
  unfold sqv at h
  cases v with
  | ref a =>
    have h' : (match M a with | some (.lst ys) => ys = xs | _ => False) := h
    show (match M a with | some (.lst ys) => k ys | _ => False)
    split at h'
    · subst h'; exact hk
    · exact h'.elim
  | tup ys => have h : ys = xs := h; subst h; exact hk
  | lst ys => have h : ys = xs := h; subst h; exact hk
  | rdl ys => have h : ys = xs := h; subst h; exact hk
  | tpx ys => have h : ys = xs := h; subst h; exact hk
  | _ => exact h.elim
theorem stays_sq {v : PV} {M : PM} {xs : List PV} (h : sqv v M xs) : stays v xs M := by
  unfold sqv at h
  cases v with
  | ref a =>
    have h' : (match M a with | some (.lst ys) => ys = xs | _ => False) := h
    show M a = some (.lst xs)
    split at h'
    · rename_i ys hM; subst h'; exact hM
    · exact h'.elim
  | _ => trivial
theorem opIx_sq {v : PV} {M : PM} {xs : List PV} {x : Nat} {p : PV} {k : PK} (h : sqv v M xs) (hx : xs[x]? = some p) (hk : k p M) : opIx v (.int (x : Int)) M k := by
  have e := atI_at hx
  unfold sqv at h
  cases v with
  | ref a =>
    refine seqP_sq (v := .ref a) h ?_
    rw [e]; exact hk
  | tup ys => have h : ys = xs := h; subst h; show (match atI ys (x : Int) with | some v => k v M | none => False); rw [e]; exact hk
  | lst ys => have h : ys = xs := h; subst h; show (match atI ys (x : Int) with | some v => k v M | none => False); rw [e]; exact hk
  | rdl ys => have h : ys = xs := h; subst h; show (match atI ys (x : Int) with | some v => k v M | none => False); rw [e]; exact hk
  | tpx ys => have h : ys = xs := h; subst h; show (match atI ys (x : Int) with | some v => k v M | none => False); rw [e]; exact hk
  | _ => exact h.elim
theorem cLen_sq {v : PV} {M : PM} {xs : List PV} {k : PK} (h : sqv v M xs) (hk : k (.int (xs.length : Nat)) M) : cLen [v] M k := by
  unfold sqv at h
  cases v with
  | ref a => exact seqP_sq (v := .ref a) h hk
  | tup ys => have h : ys = xs := h; subst h; exact hk
  | lst ys => have h : ys = xs := h; subst h; exact hk
  | rdl ys => have h : ys = xs := h; subst h; exact hk
  | tpx ys => have h : ys = xs := h; subst h; exact hk
  | _ => exact h.elim
theorem whole_int {i : Int} {M : PM} {k : PK} {ex : PX} (h : k (.bl true) M) : sp_is_whole [.int i] M k ex := whole_of rfl h
end Q
namespace Q
open PySem PySem.Spec PyProof.Rows L2
theorem bls_const {α : Type} (l : List α) : blsOf (l.map fun _ => PV.bl true) = some (l.map fun _ => true) := by
  have := blsOf_map (l.map fun _ => true)
  rwa [List.map_map] at this
theorem all_const {α : Type} (l : List α) : (l.map fun _ => true).all id = true := by simp
theorem mem_getD {l : List Nat} {y : Nat} (h : y ∈ l) : ∃ x, x < l.length ∧ l.getD x 0 = y := by
  obtain ⟨x, hx⟩ := List.mem_iff_getElem?.mp h
  exact ⟨x, (List.getElem?_eq_some_iff.mp hx).1, by rw [List.getD_eq_getElem?_getD, hx]; rfl⟩
theorem getD_mem {l : List Nat} {x : Nat} (h : x < l.length) : l.getD x 0 ∈ l := by
  rw [List.getD_eq_getElem?_getD, List.getElem?_eq_getElem h]
  exact List.getElem_mem h
end Q
namespace Q
open PySem PySem.Spec PyProof.Rows L2
theorem Seats.ext {M M' : PM} {v : PV} {l : List Nat} (h : Seats M v l) (e : Ext M M') : Seats M' v l := let ⟨xs, h1, h2⟩ := h; ⟨xs, sqv_ext h1 e, h2⟩
theorem PTab.ext {M M' : PM} {a : Addr} {f : Fl} (h : PTab M a f) (e : Ext M M') : PTab M' a f := let ⟨v1, v2, v3, h1, h2, h3, h4⟩ := h; ⟨v1, v2, v3, e _ _ h1, h2.ext e, h3.ext e, h4.ext e⟩
theorem expn_oneS (m : Mt) : oneS (expn m) := fun p hp hS => by
  have hp := (List.mem_filter.mp hp).1
  unfold fullP at hp
  split at hp
  · simp at hp; subst hp; cases hS
  · rcases List.mem_append.mp hp with hp | hp
    · exact absurd hS (tagged_noS _ _ p hp)
    · unfold tailP at hp
      split at hp
      · simp at hp; subst hp; cases hS
      · simp at hp
        rcases hp with rfl | rfl
        · rfl
        · cases hS
theorem wmt_expnZ {m : Mt} (h : m.ok) : wmt ((expn m).flatMap lopZ) = m := by
  rw [show (expn m).flatMap lopZ = (expn m).flatMap lop from ?_]
  · exact wmt_expn h
  · have : ∀ l : List (Pw × Int), (∀ p ∈ l, pwOk p) → l.flatMap lopZ = l.flatMap lop := by
      intro l
      induction l with
      | nil => intro _; rfl
      | cons a l ih => intro hl; rw [List.flatMap_cons, List.flatMap_cons, lopZ_lop (hl a List.mem_cons_self), ih fun p hp => hl p (List.mem_cons_of_mem _ hp)]
    exact this _ (expn_ok m)
end Q
namespace Q
open PySem PySem.Spec PyProof.Rows L2
theorem rowT_len (f : Fl) : f.rowT.length = f.n := by simp [Fl.rowT]
theorem rowF_len (f : Fl) : f.rowF.length = f.n := by simp [Fl.rowF]
theorem back_len (f : Fl) : f.back.length = f.n := by simp [Fl.back]
theorem prm_of {f : Fl} (h : f.form) (p : Pw) {l : List Nat} (hl : l.length = f.n) (hg : ∀ x, x < f.n → l.getD x 0 = f.stp p x) : Prm l :=
  ⟨by rw [hl]; exact h.le, fun x hx => by rw [hl] at hx ⊢; rw [hg x hx]; exact h.stp_lt p hx, fun x y hx hy e => by
    rw [hl] at hx hy
    rw [hg x hx, hg y hy] at e
    exact h.stp_inj p hx hy e⟩
theorem s_get {f : Fl} : ∀ x, x < f.n → f.s.getD x 0 = f.stp .S x := fun _ _ => rfl
theorem T_get {f : Fl} : ∀ x, x < f.n → f.rowT.getD x 0 = f.stp .T x := fun x hx => range_get hx
theorem F_get {f : Fl} : ∀ x, x < f.n → f.rowF.getD x 0 = f.stp .F x := fun x hx => range_get hx
theorem rng_stp {f : Fl} {l c : List Nat} {p : Pw} (h : Rng l c) (hl : l.length = f.n) (hg : ∀ x, x < f.n → l.getD x 0 = f.stp p x) : Ring (f.stp p) f.n c := by
  have h' : Ring (fun x => l.getD x 0) l.length c := h
  rw [hl] at h'
  exact h'.congr hg
theorem sqv_put {v : PV} {M : PM} {xs : List PV} {p : Addr} {kvs : List (Key × PV)} {o : MO} (h : sqv v M xs) (hp : M p = some (.dK kvs)) : sqv v (updM M p o) xs := by
  unfold sqv at *
  cases v with
  | ref a =>
    have h' : (match M a with | some (.lst ys) => ys = xs | _ => False) := h
    show (match updM M p o a with | some (.lst ys) => ys = xs | _ => False)
    split at h'
    · rename_i ys hM
      have : a ≠ p := fun z => by rw [z, hp] at hM; cases hM
      rw [updM_ne this, hM]
      exact h'
    · exact h'.elim
  | _ => exact h
theorem Seats.put {v : PV} {M : PM} {l : List Nat} {p : Addr} {kvs : List (Key × PV)} {o : MO} (h : Seats M v l) (hp : M p = some (.dK kvs)) : Seats (updM M p o) v l := let ⟨xs, h1, h2⟩ := h; ⟨xs, sqv_put h1 hp, h2⟩
theorem Ext.upd {M M' : PM} {p : Addr} {o : MO} (h : Ext M M') (hp : M p = none) : Ext M (updM M' p o) := h.put' hp
theorem Ext.none {M M' : PM} {p : Addr} (h : Ext M M') (hp : M' p = none) : M p = none := by
  cases e : M p with
  | none => rfl
  | some o => rw [h p o e] at hp; cases hp
theorem act_flat {f : Fl} (ps : List (Pw × Int)) (p : Pw × Int) (x : Nat) : f.act ((ps ++ [p]).flatMap lopZ) x = f.act (lopZ p) (f.act (ps.flatMap lopZ) x) := by
  rw [List.flatMap_append, Fl.act_app]
  simp
end Q
namespace Q
open PySem PySem.Spec PyProof.Rows L2
theorem rowT_map (f : Fl) : (f.s.map fun y => PV.int ((f.st .R y : Nat) : Int)) = natL f.rowT := by
  have := congrArg (List.map fun (n : Nat) => PV.int (n : Int)) (map_self f.s (f.st .R))
  rw [List.map_map] at this
  exact this
theorem rowF_map (f : Fl) : (f.s.map fun y => PV.int ((f.st .r y : Nat) : Int)) = natL f.rowF := by
  have := congrArg (List.map fun (n : Nat) => PV.int (n : Int)) (map_self f.s (f.st .r))
  rw [List.map_map] at this
  exact this
end Q
namespace Q
open PySem PySem.Spec PyProof.Rows L2
theorem comp1_id {D : Addr} {M0 : PM} {st : PM → Prop} {a b c d : Option PV} {k : List PV → PM → Prop} (hs : ∀ acc, st (updM M0 D (.lst acc))) : ∀ (l : List PV) (acc : List PV), acc.length + l.length ≤ sizeLine → k (acc ++ l) (updM M0 D (.lst (acc ++ l))) → comp1 (.one 3) qYes (qVar 3) st D [a, b, c, d] l acc (updM M0 D (.lst acc)) k
  | [], acc, _, h => ⟨hs acc, updM_same, by simpa using h⟩
  | x :: l, acc, hl, h => by
    refine ⟨hs acc, ?_⟩
    simp
    refine ⟨by simp at hl; omega, ?_⟩
    refine comp1_id hs l (acc ++ [x]) (by simp at hl ⊢; omega) ?_
    simpa using h
theorem walk_comp {f : Fl} (hf : f.form) {b : Nat} {D : Addr} {M0 : PM} {k : List PV → PM → Prop} (hD : M0 D = none) : ∀ (q : List Nat) (acc : List PV), (∀ x ∈ q, x < f.n) → acc.length + 3 * q.length ≤ sizeLine → k (acc ++ natL (q.flatMap f.tile)) M0 →
    comp2 (Tgt.one 2) qYes (iSq (qCall sp_tile_of (qCons (qBin opIx (qVar 0) (qC (PV.int 1))) (qCons (qVar 2) qNil)))) (Tgt.one 3) qYes (qVar 3) (fun x => True) D [some f.pv, some (PV.int b), none, none] (q.map fun (x : Nat) => PV.int (x : Int)) acc (updM M0 D (.lst acc)) k
  | [], acc, _, _, h => ⟨trivial, updM_same, by rw [delM_updM hD]; simpa [natL_nil] using h⟩
  | x :: q, acc, hq, hl, h => by
    have hx := hq x List.mem_cons_self
    have tl := (f.tile_len x).2
    refine ⟨trivial, ?_⟩
    simp [Fl.pv, -List.map_cons]
    refine ⟨f, x, rfl, hf, hx, ?_⟩
    refine comp1_id (fun _ => trivial) _ _ (by rw [natL_len]; rw [List.length_cons] at hl; omega) ?_
    have e := walk_comp hf (b := b) (k := k) hD q (acc ++ natL (f.tile x)) (fun y hy => hq y (List.mem_cons_of_mem _ hy)) (by rw [List.length_append, natL_len]; rw [List.length_cons] at hl; omega) (by
      rw [List.append_assoc, ← natL_app]
      simpa using h)
    simpa [Fl.pv] using e
end Q
namespace Q
open PySem PySem.Spec PyProof.Rows L2
theorem ixN_nat {n x : Nat} (h : x < n) : ixN n (x : Int) = some x := by
  unfold ixN
  have h2 : ¬ ((x : Int) < 0) := by omega
  simp [h2, h]
theorem updM_id {M : PM} {a : Addr} {o : MO} (h : M a = some o) : updM M a o = M := by
  funext b
  unfold updM
  split
  · rename_i e; rw [e, h]
  · rfl
def Sg (l : List Nat) (xs : List PV) (x : Nat) : Prop := ∃ (c : List Nat) (i : Nat), xs[x]? = some (.tup [.tup (natL c), .int i]) ∧ Rng l c ∧ i < c.length ∧ c.getD i 0 = x
theorem sg_set {l c : List Nat} {xs : List PV} {i : Nat} (hl : xs.length = l.length) (r : Rng l c) (hi : i < c.length) : ∀ x, (Sg l xs x ∨ x = c.getD i 0) → Sg l (xs.set (c.getD i 0) (.tup [.tup (natL c), .int i])) x := by
  intro x h
  by_cases e : c.getD i 0 = x
  · subst e
    exact ⟨c, i, List.getElem?_set_self (by rw [hl]; exact r.lt i hi), r, hi, rfl⟩
  · rcases h with ⟨c', i', h1, h2⟩ | h
    · exact ⟨c', i', by rw [List.getElem?_set_ne e]; exact h1, h2⟩
    · exact absurd h.symm e
theorem take_mem {cs : List (List Nat)} {j : Nat} {c0 : List Nat} (h : cs[j]? = some c0) {x : Nat} : (∃ c ∈ cs.take (j + 1), x ∈ c) ↔ (∃ c ∈ cs.take j, x ∈ c) ∨ x ∈ c0 := by
  have e : cs.take (j + 1) = cs.take j ++ [c0] := by rw [List.take_add_one, h]; rfl
  rw [e]
  constructor
  · rintro ⟨c, h1, h2⟩
    rcases List.mem_append.mp h1 with h1 | h1
    · exact .inl ⟨c, h1, h2⟩
    · rw [List.mem_singleton] at h1; subst h1; exact .inr h2
  · rintro (⟨c, h1, h2⟩ | h2)
    · exact ⟨c, List.mem_append_left _ h1, h2⟩
    · exact ⟨c0, List.mem_append_right _ (List.mem_singleton.mpr rfl), h2⟩
theorem take_mem1 {c : List Nat} {i : Nat} (h : i < c.length) {x : Nat} : x ∈ c.take (i + 1) ↔ x ∈ c.take i ∨ x = c.getD i 0 := by
  have e : c.take (i + 1) = c.take i ++ [c.getD i 0] := by rw [List.take_add_one, List.getElem?_eq_getElem h, List.getD_eq_getElem?_getD, List.getElem?_eq_getElem h]; rfl
  rw [e, List.mem_append, List.mem_singleton]
end Q
namespace Q
open PySem PySem.Spec PyProof.Rows L2
structure SeW (v : PV) (w : Addr) (M1 : PM) (l : List Nat) (dn : Nat → Prop) (c : Option PV → Prop) (τ : Tau) (M' : PM) : Prop where
  ex : ∃ t2 t3 t4 xs, c t2 ∧ τ = [some v, some (.ref w), t2, t3, t4] ∧ M' = updM M1 w (.lst xs) ∧ xs.length = l.length ∧ ∀ x, dn x → Sg l xs x
end Q
namespace Q
open PySem PySem.Spec PyProof.Rows L2
structure CyW (v : PV) (a w : Addr) (M : PM) (l : List Nat) (i : Nat) (τ : Tau) (M' : PM) : Prop where
  ex : ∃ (cs : List (List Nat)) (sn : List Bool) (t3 t4 t5 : Option PV), τ = [some v, some (.ref a), some (.ref w), t3, t4, t5] ∧ M' a = some (.lst (cs.map fun c => .tup (natL c))) ∧ M' w = some (.lst (sn.map .bl)) ∧ sn.length = l.length ∧ Ext M M' ∧ (∀ c ∈ cs, Rng l c ∧ c.length ≤ 120) ∧ cs.length ≤ i ∧ (∀ x, sn[x]? = some true → ∃ c ∈ cs, x ∈ c) ∧ (∀ x, x < i → sn[x]? = some true)
/-- the ring that is being followed -/
structure CyI (v : PV) (a w q : Addr) (M' : PM) (l : List Nat) (i m : Nat) (τ : Tau) (M2 : PM) : Prop where
  ex : ∃ (k : Nat) (t5 : Option PV), m + k = l.length + 1 ∧ 1 ≤ k ∧ τ = [some v, some (.ref a), some (.ref w), some (.int (i : Int)), some (.ref q), t5] ∧ M2 = updM M' q (.lst (natL (orb (fun x => l.getD x 0) i k))) ∧ ∀ j, 1 ≤ j → j < k → itn (fun x => l.getD x 0) j i ≠ i
/-- its places are being marked -/
structure CyM (v : PV) (a w q : Addr) (M' : PM) (sn : List Bool) (c : List Nat) (i j : Nat) (τ : Tau) (M2 : PM) : Prop where
  ex : ∃ (sn' : List Bool) (t5 : Option PV), τ = [some v, some (.ref a), some (.ref w), some (.int (i : Int)), some (.ref q), t5] ∧ M2 = updM (updM M' q (.lst (natL c))) w (.lst (sn'.map .bl)) ∧ sn'.length = sn.length ∧ ∀ x, sn'[x]? = some true ↔ sn[x]? = some true ∨ (x ∈ c.take j)
theorem atI_last {α : Type} (xs : List α) (x : α) : atI (xs ++ [x]) (-1) = some x := by
  unfold atI ixN
  have e0 : (1 : Int) ≤ (xs.length : Int) + 1 := by omega
  have e : (-1 + ((xs.length : Int) + 1)).toNat = xs.length := by omega
  simp [e, e0]
end Q
namespace Q
open PySem PySem.Spec PyProof.Rows L2
theorem putKV_len (kvs : List (Key × PV)) (k : Key) (v : PV) : (putKV kvs k v).length ≤ kvs.length + 1 := by
  unfold putKV
  split
  · simp
  · simp
theorem getKV_any (kvs : List (Key × PV)) (k : Key) : (getKV kvs k).isSome = kvs.any fun kv => decide (kv.1 = k) := by
  induction kvs with
  | nil => rfl
  | cons a l ih =>
    obtain ⟨k', v⟩ := a
    rw [List.any_cons, ← ih]
    show (if k' = k then some v else getKV l k).isSome = (decide (k' = k) || (getKV l k).isSome)
    by_cases e : k' = k
    · simp [e]
    · simp [e]
theorem putKV_some (kvs : List (Key × PV)) (k k' : Key) (v : PV) : (getKV (putKV kvs k v) k').isSome = (decide (k = k') || (getKV kvs k').isSome) := by
  rw [getKV_any, getKV_any]
  unfold putKV
  split
  · rename_i h
    have e : (kvs.map fun kv => if kv.1 = k then (kv.1, v) else kv).any (fun kv => decide (kv.1 = k')) = kvs.any fun kv => decide (kv.1 = k') := by
      rw [List.any_map]
      congr 1
      funext kv
      show decide ((if kv.1 = k then (kv.1, v) else kv).1 = k') = _
      split <;> rfl
    rw [e]
    by_cases ek : k = k'
    · subst ek
      simp [h]
    · simp [ek]
  · rw [List.any_append]
    simp [Bool.or_comm]
theorem putKV_new {kvs : List (Key × PV)} {k : Key} {v : PV} (h : (getKV kvs k).isSome = false) : (putKV kvs k v).map (·.1) = kvs.map (·.1) ++ [k] := by
  rw [getKV_any] at h
  unfold putKV
  rw [if_neg (by rw [h]; exact Bool.false_ne_true)]
  simp
theorem keys_some {kvs : List (Key × PV)} {k : Key} : (getKV kvs k).isSome = true ↔ k ∈ kvs.map (·.1) := by
  rw [getKV_any, List.any_eq_true]
  simp
def putAll (acc : List (Key × PV)) (l : List Nat) : List (Key × PV) := l.foldl (fun acc (x : Nat) => putKV acc (.inl (x : Int)) (.bl true)) acc
theorem putAll_len : ∀ (l : List Nat) (acc : List (Key × PV)), (putAll acc l).length ≤ acc.length + l.length
  | [], acc => Nat.le_refl _
  | x :: l, acc => by
    have h1 := putAll_len l (putKV acc (.inl (x : Int)) (.bl true))
    have h2 := putKV_len acc (.inl (x : Int)) (.bl true)
    have e : putAll acc (x :: l) = putAll (putKV acc (.inl (x : Int)) (.bl true)) l := rfl
    rw [e, List.length_cons]
    omega
theorem putAll_some : ∀ (l : List Nat) (acc : List (Key × PV)) (z : Nat), (getKV (putAll acc l) (.inl (z : Int))).isSome = true ↔ z ∈ l ∨ (getKV acc (.inl (z : Int))).isSome = true
  | [], acc, z => by simp [putAll]
  | x :: l, acc, z => by
    have e : putAll acc (x :: l) = putAll (putKV acc (.inl (x : Int)) (.bl true)) l := rfl
    rw [e, putAll_some l, putKV_some]
    have : ((Sum.inl (x : Int) : Key) = Sum.inl (z : Int)) ↔ x = z := by
      constructor
      · intro h; injection h with h; omega
      · intro h; rw [h]
    simp [this, List.mem_cons]
    constructor
    · rintro (h | h | h)
      · exact .inl (.inr h)
      · exact .inl (.inl h.symm)
      · exact .inr h
    · rintro ((h | h) | h)
      · exact .inr (.inl h.symm)
      · exact .inl h
      · exact .inr (.inr h)
theorem putAll_snoc (acc : List (Key × PV)) (l : List Nat) (x : Nat) : putAll acc (l ++ [x]) = putKV (putAll acc l) (.inl (x : Int)) (.bl true) := by simp [putAll]
theorem dc_tiles {D : Addr} {M0 : PM} {st : PM → Prop} {τ : Tau} {k : PM → Prop} {i : Nat} (hi : i < τ.length) (hs : ∀ acc, st (updM M0 D (.dK acc))) : ∀ (l : List Nat) (acc : List (Key × PV)), acc.length + l.length ≤ sizeLine → k (updM M0 D (.dK (putAll acc l))) → compD (.one i) qYes (qVar i) (qC (.bl true)) st D τ (natL l) acc (updM M0 D (.dK acc)) k
  | [], acc, _, h => ⟨hs acc, updM_same, h⟩
  | x :: l, acc, hl, h => by
    refine ⟨hs acc, ?_⟩
    rw [List.length_cons] at hl
    have ge : (τ.set i (some (PV.int (x : Int))))[i]? = some (some (PV.int (x : Int))) := List.getElem?_set_self hi
    simp only [tgt_one, qYes, way_t, qVar, qC, ge]
    refine ⟨.inl (x : Int), rfl, updM_same, by omega, ?_⟩
    have h2 := putKV_len acc (.inl (x : Int)) (.bl true)
    rw [updM_updM]
    exact dc_tiles hi hs l _ (by omega) h
/-- where the walk stands: the queue and what is entered, z; d tiles are done -/
structure EwS (f : Fl) (b : Nat) (p a D : Addr) (M : PM) (z : List Nat × List Nat) (d : Nat) (c9 : Option PV → Prop) (τ : Tau) (M' : PM) : Prop where
  ex : ∃ (kvs eK : List (Key × PV)) (t7 t9 t10 t11 : Option PV), τ = [some f.pv, some (.int b), some (.tup (natL f.s)), some (.tup (natL f.r)), some (.ref p), some (.ref a), some (.ref D), t7, some (.int (d : Int)), t9, t10, t11] ∧ c9 t9 ∧
    M' p = some (.dK kvs) ∧ kvs.map (·.1) = z.1.map (fun (x : Nat) => Sum.inl (x : Int)) ∧ M' a = some (.lst (natL z.1)) ∧ M' D = some (.dK eK) ∧ (∀ y : Nat, (getKV eK (.inl (y : Int))).isSome = true ↔ y ∈ z.2) ∧ eK.length ≤ 3 * z.1.length ∧ Ext M M' ∧ f.WI b z
end Q
namespace Q
open PySem PySem.Spec PyProof.Rows L2
structure EwT (f : Fl) (b : Nat) (p a D : Addr) (c9 : Option PV → Prop) (d : Nat) (Mx : PM) (τ : Tau) (M2 : PM) : Prop where
  ex : ∃ (t7 t9 t10 t11 : Option PV), τ = [some f.pv, some (.int b), some (.tup (natL f.s)), some (.tup (natL f.r)), some (.ref p), some (.ref a), some (.ref D), t7, some (.int (d : Int)), t9, t10, t11] ∧ c9 t9 ∧ M2 = Mx
end Q
namespace Q
open PySem PySem.Spec PyProof.Rows L2
theorem datL_nat : ∀ l : List Nat, datL (natL l) = some (l.map fun (n : Nat) => PyData.int (n : Int))
  | [] => rfl
  | n :: l => by
    show (match dat (.int (n : Int)), datL (natL l) with | some d, some ds => some (d :: ds) | _, _ => none) = _
    rw [datL_nat l]
    rfl
theorem opEq_nil {p : Addr} {M : PM} {l : List Nat} {neg : Bool} {k : PK} (h : M p = some (.lst (natL l))) (hk : k (.bl (if neg then !l.isEmpty else l.isEmpty)) M) : opEq neg (.ref p) (.lst []) M k := by
  refine ⟨.list (l.map fun (n : Nat) => PyData.int (n : Int)), .list [], ?_, rfl, ?_, ?_⟩
  · show (match M p with | some (.lst xs) => (datL xs).map PyData.list | _ => none) = _
    rw [h]
    simp only [datL_nat]
    rfl
  · exact Nat.le_trans (Nat.min_le_right _ _) (by decide)
  · have e : PyData.eqv (.list (l.map fun (n : Nat) => PyData.int (n : Int))) (.list []) = l.isEmpty := by
      cases l with
      | nil => rfl
      | cons a b => simp [PyData.eqv, PyData.eqvAll]
    rw [e]
    exact hk
theorem appP_ref {p : Addr} {M : PM} {xs : List PV} {y : PV} {k : PK} (h : M p = some (.lst xs)) (hl : xs.length < 1000000) (hk : k .non (updM M p (.lst (xs ++ [y])))) : appP p y M k := by
  unfold appP
  rw [h]
  exact ⟨by rw [sizeLine_eq]; omega, hk⟩
theorem natL_erase : ∀ (l : List Nat) (i : Nat), (natL l).eraseIdx i = natL (l.eraseIdx i)
  | [], _ => rfl
  | _ :: _, 0 => rfl
  | a :: l, i + 1 => by
    show PV.int (a : Int) :: (natL l).eraseIdx i = PV.int (a : Int) :: natL (l.eraseIdx i)
    rw [natL_erase l i]
theorem natL_set : ∀ (l : List Nat) (i v : Nat), (natL l).set i (.int (v : Int)) = natL (l.set i v)
  | [], _, _ => rfl
  | _ :: _, 0, _ => rfl
  | a :: l, i + 1, v => by
    show PV.int (a : Int) :: (natL l).set i (.int (v : Int)) = PV.int (a : Int) :: natL (l.set i v)
    rw [natL_set l i v]
theorem popAt_ref {p : Addr} {M : PM} {l : List Nat} {i : Nat} {k : PK} (h : M p = some (.lst (natL l))) (hi : i < l.length) (hl : l.length ≤ 1000000) (hk : k (.int ((l.getD i 0 : Nat) : Int)) (updM M p (.lst (natL (l.eraseIdx i))))) : popAtP p (.int (i : Int)) M k := by
  refine ⟨natL l, _, h, by omega, by rw [natL_len]; omega, by rw [natL_len]; exact hl, natL_get hi, ?_⟩
  rw [Int.toNat_natCast, natL_erase]
  exact hk
theorem Src.put {M : PM} {a p : Addr} {n : Nat} {o : MO} (h : Src M a n) (hp : p ≠ a) : Src (updM M p o) a n := by
  obtain ⟨x, y, z, e, r⟩ := h
  exact ⟨x, y, z, by rw [updM_ne (Ne.symm hp)]; exact e, r⟩
theorem Up.put {M M' : PM} {a p : Addr} {o : MO} (u : Up M M' a) (hp : M p = Option.none) : Up M (updM M' p o) a := fun b x hb e => by
  have : b ≠ p := fun z => by rw [z, hp] at e; cases e
  rw [updM_ne this]
  exact u b x hb e
theorem Up.refl (M : PM) (a : Addr) : Up M M a := fun _ _ _ e => e
theorem Src.ne {M : PM} {a p : Addr} {n : Nat} (h : Src M a n) (hp : M p = none) : p ≠ a := fun z => by
  obtain ⟨_, _, _, e, _⟩ := h
  rw [z, e] at hp
  cases hp
theorem getD_at {l : List Nat} {i : Nat} (h : i < l.length) : l[i]? = some (l.getD i 0) := by
  rw [List.getD_eq_getElem?_getD, List.getElem?_eq_getElem h]
  rfl
/-- items are taken out, one by one -/
structure MxW (a p1 p2 : Addr) (v : PV) (M : PM) (n : Nat) (l : List Nat) (m : Nat) (τ : Tau) (M' : PM) : Prop where
  ex : ∃ (rest found : List Nat), m = rest.length ∧ τ = [some (.ref a), some v, some (.ref p1), some (.ref p2)] ∧ M' p1 = some (.lst (natL rest)) ∧ M' p2 = some (.lst (natL found)) ∧ (found ++ rest).Perm l ∧ Src M' a (n + found.length) ∧ Up M M' a
end Q
namespace Q
open PySem PySem.Spec PyProof.Rows L2
theorem intsOf_nat (l : List Nat) : intsOf (natL l) = some (l.map fun (n : Nat) => (n : Int)) := by
  have := intsOf_map (l.map fun (n : Nat) => (n : Int))
  rwa [List.map_map] at this
theorem tix_nat {f : Fl} (hf : f.form) {x : Nat} (hx : x < f.n) {M : PM} {k : PK} (h : k (.int ((f.st .r x : Nat) : Int)) M) : tixX (natL f.r) (.int (x : Int)) M k := by
  have hr := hf.st_lt .r hx
  have e : f.st .R (f.st .r x) = x := (hf.rr x hx).2
  refine ⟨_, f.st .r x, intsOf_nat _, ?_, fun m hm he => ?_, h⟩
  · rw [List.getElem?_map, getD_at (by rw [hf.len]; exact hr)]
    show some ((f.st .R (f.st .r x) : Nat) : Int) = _
    rw [e]
  · have hmn : m < f.n := Nat.lt_trans hm hr
    rw [List.getElem?_map, getD_at (by rw [hf.len]; exact hmn)] at he
    have he' : ((f.st .R m : Nat) : Int) = (x : Int) := Option.some.inj he
    have e3 : f.st .R m = x := by omega
    have : m = f.st .r x := by
      have z := (hf.rr m hmn).2
      rw [e3] at z
      exact z.symm
    omega
structure LeW (f : Fl) (x : Nat) (w : List Ltr) (M : PM) (i : Nat) (τ : Tau) (M' : PM) : Prop where
  ex : ∃ c : Option PV, τ = [some f.px, some (.int ((f.act (w.take i) x : Nat) : Int)), some (wpv w), c] ∧ M' = M
theorem take_act {f : Fl} {w : List Ltr} {i : Nat} {l : Ltr} (h : w[i]? = some l) (x : Nat) : f.act (w.take (i + 1)) x = f.st l (f.act (w.take i) x) := by
  have e : w.take (i + 1) = w.take i ++ [l] := by rw [List.take_add_one, h]; rfl
  rw [e, Fl.act_app]
  rfl
end Q
namespace Q
open PySem PySem.Spec PyProof.Rows L2
structure RiW (f : Fl) (x : Nat) (p : Pw) (a : Addr) (M : PM) (m : Nat) (τ : Tau) (M' : PM) : Prop where
  ex : ∃ k : Nat, m + k = f.n ∧ τ = [some f.px, some (.int ((itn (f.stp p) k x : Nat) : Int)), some p.pv, some (.ref a)] ∧ M' = updM M a (.lst (natL (orb (f.stp p) x k))) ∧ ∀ j, 1 ≤ j → j < k → itn (f.stp p) j x ≠ x
end Q
namespace Q
open PySem PySem.Spec PyProof.Rows L2
structure SpW (f : Fl) (x : Nat) (v : PV) (ps : List (Pw × Int)) (M : PM) (i : Nat) (τ : Tau) (M' : PM) : Prop where
  ex : ∃ t3 t4 t5 : Option PV, τ = [some f.px, some (.int ((f.act ((ps.take i).flatMap lopZ) x : Nat) : Int)), some v, t3, t4, t5] ∧ Ext M M'
structure HuW (a : Addr) (M : PM) (n i : Nat) (τ : Tau) (M' : PM) : Prop where
  ex : ∃ (z : Int) (t : Option PV), τ = [some (.ref a), some (.int z), t] ∧ 0 ≤ z ∧ z.natAbs < 2 ^ (20 * i) ∧ SrcUp M M' a (n + 1 + i)
end Q
namespace Q
open PySem PySem.Spec PyProof.Rows L2
structure SnW (a q : Addr) (M : PM) (n i : Nat) (τ : Tau) (M' : PM) : Prop where
  ex : ∃ (ps : List (Pw × Int)) (t2 t3 t4 : Option PV), τ = [some (.ref a), some (.ref q), t2, t3, t4] ∧ ps.length = i ∧ oneS ps ∧ (∀ p ∈ ps, p.2.natAbs < 2 ^ 210) ∧ M' q = some (.lst (ps.map pwv)) ∧ Src M' a (n + 1 + 19 * i) ∧ Up M M' a
end Q
namespace Q
open PySem PySem.Spec PyProof.Rows L2
structure SmW (v : PV) (ps : List (Pw × Int)) (M : PM) (i : Nat) (τ : Tau) (M' : PM) : Prop where
  ex : ∃ (t2 t3 : Option PV), τ = [some v, some (prodP (ps.take i)).nf.pv, t2, t3] ∧ M' = M ∧ ((prodP (ps.take i)).nf).bd (1 + 300 * i)
theorem pm_bdZ {p : Pw} {e : Int} (h : e.natAbs < 2 ^ 210) : (pm (p, e)).bd 211 := by
  have h' : e.natAbs < 2 ^ 211 := Nat.lt_of_lt_of_le h (Nat.pow_le_pow_right (by decide) (by decide))
  have h1 : (1 : Int).natAbs < 2 ^ 211 := by decide
  have h0 : (0 : Int).natAbs < 2 ^ 211 := by decide
  cases p
  · exact ⟨h1, h', h0, h1⟩
  · exact ⟨h1, h0, h', h1⟩
  · exact ⟨h0, show (-1 : Int).natAbs < 2 ^ 211 by decide, h1, h0⟩
end Q
namespace Q
open PySem PySem.Spec PyProof.Rows L2
structure RnW (f : Fl) (vs vr : PV) (q p1 p2 : Addr) (nm : List Nat) (M : PM) (i : Nat) (τ : Tau) (M' : PM) : Prop where
  ex : ∃ (g1 g2 : List Nat) (t5 t6 : Option PV), τ = [some (.tup [vs, vr]), some (.ref q), some vs, some vr, some (.tup [.ref p1, .ref p2]), t5, t6] ∧ M' p1 = some (.lst (natL g1)) ∧ M' p2 = some (.lst (natL g2)) ∧ g1.length = f.n ∧ g2.length = f.n ∧ Ext M M' ∧
    (∀ j, j < i → g1.getD (nm.getD j 0) 0 = nm.getD (f.st .S j) 0) ∧ ∀ j, j < i → g2.getD (nm.getD j 0) 0 = nm.getD (f.st .R j) 0
theorem flat_zero (n : Nat) : (List.replicate n [PV.int 0]).flatten = natL (List.replicate n 0) := by
  unfold natL
  rw [List.map_replicate]
  induction n with
  | zero => rfl
  | succ n ih => rw [List.replicate_succ, List.flatten_cons, ih, List.replicate_succ]; rfl
theorem perm_inj {nm : List Nat} {n : Nat} (h : nm.Perm (List.range n)) {i j : Nat} (hi : i < n) (hj : j < n) (e : nm.getD i 0 = nm.getD j 0) : i = j := by
  have hl : nm.length = n := by have := h.length_eq; rwa [List.length_range] at this
  have nd : nm.Nodup := (h.nodup_iff).mpr List.nodup_range
  have hi' : i < nm.length := by omega
  have hj' : j < nm.length := by omega
  have e2 : nm[i]? = nm[j]? := by rw [getD_at hi', getD_at hj', e]
  exact (List.getElem?_inj hi' nd).mp e2
theorem perm_lt {nm : List Nat} {n : Nat} (h : nm.Perm (List.range n)) {i : Nat} (hi : i < n) : nm.getD i 0 < n := by
  have hl : nm.length = n := by have := h.length_eq; rwa [List.length_range] at this
  exact List.mem_range.mp (h.mem_iff.mp (getD_mem (by omega)))
end Q
namespace Q
open PySem PySem.Spec PyProof.Rows L2
theorem cut_from1 {N m : Nat} (hm : m = 1 ∨ m = 3) : cutQ (natL (fresh N m)) (some 1) none = natL ((fresh N m).drop 1) := by
  rcases hm with rfl | rfl <;> rfl
theorem cut_to1 {N m : Nat} (hm : m = 1 ∨ m = 3) : cutQ (natL (fresh N m)) none (some 1) = natL ((fresh N m).take 1) := by
  rcases hm with rfl | rfl <;> rfl
theorem rng_nat (n : Nat) : rngL 0 n = natL (List.range n) := by
  unfold rngL natL
  congr 1
  funext i
  rw [Int.zero_add]
/-- a floor that is being drawn, where its lists stand -/
structure FlW (a : Addr) (t : Nat) (M : PM) (n : Nat) (f : Fl) (L : List Nat) (ps pl : Addr) (M' : PM) : Prop where
  s : M' ps = some (.lst (natL f.s))
  l : M' pl = some (.lst (natL L))
  ne : ps ≠ pl
  s0 : M ps = none
  l0 : M pl = none
  dr : Dr f L
  src : Src M' a n
  up : Up M M' a
structure FlI (a : Addr) (t : Nat) (M : PM) (n i : Nat) (τ : Tau) (M' : PM) : Prop where
  ex : ∃ (f : Fl) (L : List Nat) (ps pl : Addr) (t5 t6 t7 t8 t9 t10 t11 t12 : Option PV), τ = [some (.ref a), some (.int t), some (.ref ps), some (.lst (natL f.r)), some (.ref pl), t5, t6, t7, t8, t9, t10, t11, t12] ∧ FlW a t M (n + 1 + 2 * i) f L ps pl M' ∧ f.n ≤ 3 * i ∧ (i = 0 → f = ⟨[], []⟩ ∧ L = []) ∧ (0 < i → 1 ≤ f.n)
structure FlJ (a : Addr) (t : Nat) (M : PM) (n m : Nat) (τ : Tau) (M' : PM) : Prop where
  ex : ∃ (f : Fl) (L : List Nat) (ps pl : Addr) (t5 t6 t7 t8 t9 t10 t11 t12 : Option PV), τ = [some (.ref a), some (.int t), some (.ref ps), some (.lst (natL f.r)), some (.ref pl), t5, t6, t7, t8, t9, t10, t11, t12] ∧ L.length = m ∧ FlW a t M (n + 70 + 3 * (40 - m)) f L ps pl M' ∧ 1 ≤ f.n ∧ f.n ≤ 3 * t
theorem Dr.loose_le {f : Fl} {L : List Nat} (h : Dr f L) : L.length ≤ f.n := nodup_le _ _ h.nd fun x hx => (h.lo x hx).1
end Q
namespace Q
open PySem PySem.Spec PyProof.Rows L2
theorem opAddM_ref {p : Addr} {M : PM} {xs ys : List PV} {k : PK} (h : M p = some (.lst xs)) (hl : xs.length + ys.length ≤ sizeLine) (hk : ∀ q, M q = none → k (.ref q) (updM M q (.lst (xs ++ ys)))) : opAddM (.ref p) (.lst ys) M k := by
  show (match M p with | some (.lst xs) => _ | _ => False)
  rw [h]
  exact ⟨hl, hk⟩
theorem addT_r (f : Fl) (m : Nat) : natL f.r ++ (natL (fresh f.n m).tail ++ natL ((fresh f.n m).take 1)) = natL (addT f m).r := by
  show _ = natL ((f.r ++ (fresh f.n m).drop 1) ++ (fresh f.n m).take 1)
  rw [natL_app, natL_app, List.append_assoc, List.drop_one]
theorem addT_s (f : Fl) (m : Nat) : natL f.s ++ natL (fresh f.n m) = natL (addT f m).s := (natL_app _ _).symm
theorem addT_len (f : Fl) (m : Nat) : (addT f m).s.length = f.n + m := addT_n f m
theorem loose_next {f : Fl} {L : List Nat} (h : Dr f L) {j m : Nat} (hj : j < L.length) (hm : m = 1 ∨ m = 3) : Dr ⟨((addT f m).s.set (L.getD j 0) f.n).set f.n (L.getD j 0), (addT f m).r⟩ (L.eraseIdx j ++ (fresh f.n m).tail) := by
  obtain ⟨E1, E2, E3, E4⟩ := erase_facts h.nd (getD_at hj)
  refine h.add hm E3 ?_ fun z hz => ?_
  · rw [List.nodup_append]
    refine ⟨E1, (fresh_nd _ _).sublist (List.tail_sublist _), fun x hx y hy e => ?_⟩
    have h1 := (h.lo x (E2 x hx).1).1
    have h2 := (mem_fresh.mp (List.mem_of_mem_tail hy)).1
    omega
  · rw [List.drop_one]
    rcases List.mem_append.mp hz with hz | hz
    · exact .inl (E2 z hz)
    · exact .inr hz
end Q
namespace Q
open PySem PySem.Spec PyProof.Rows L2
theorem unXs_nat (l : List Nat) : unXs (natL l) = natL l := by
  induction l with
  | nil => rfl
  | cons a l ih =>
    show unX (.int (a : Int)) :: unXs (natL l) = _
    rw [ih]
    rfl
theorem un_px (f : Fl) : unX f.px = f.pv := by
  show PV.tup [PV.tup (unXs (natL f.s)), PV.tup (unXs (natL f.r))] = _
  rw [unXs_nat, unXs_nat]
  rfl
theorem un_pv (f : Fl) : unX f.pv = f.pv := by
  show PV.tup [PV.tup (unXs (natL f.s)), PV.tup (unXs (natL f.r))] = _
  rw [unXs_nat, unXs_nat]
  rfl
theorem wmt_lopsZ : ∀ l : List (Pw × Int), wmt (l.flatMap lopZ) = (prodP l).nf
  | [] => by decide
  | p :: l => by
    have d1 := pm_det p
    have d2 := prodP_det l
    rw [List.flatMap_cons, wmt_app, wmt_lopZ, wmt_lopsZ l, prodP_cons, Mt.nf_mul_l d1 (by rw [Mt.det_nf]; exact d2), Mt.nf_mul_r d1 d2]
theorem prodP_bdZ : ∀ l : List (Pw × Int), (∀ p ∈ l, p.2.natAbs < 2 ^ 210) → (prodP l).bd (1 + 212 * l.length)
  | [], _ => Mt.one_bd
  | p :: l, h => by
    have h1 := prodP_bdZ l fun q hq => h q (List.mem_cons_of_mem _ hq)
    have h2 : (pm p).bd 211 := pm_bdZ (h p List.mem_cons_self)
    rw [prodP_cons]
    exact (h2.mul h1).mono (by rw [List.length_cons]; omega)
/-- lead, of a floor whose rows are known, or not -/
theorem lead_of {f : Fl} {v : PV} {x : Nat} {w : List Ltr} {n : Nat} {m : Mt} {M : PM} {k : PK} {ex : PX} (hv : v = f.px ∨ v = f.pv) (hf : f.ok) (hx : x < f.n) (hm : wmt w = m) (bd : m.bd n) (n0 : 0 < n) (hn : n ≤ 8000) (h : ∀ M', Ext M M' → k (.int ((f.act w x : Nat) : Int)) M') : sp_lead [v, .int (x : Int), m.pv] M k ex := by
  subst hm
  refine ⟨f, x, w, n, ?_, hf, hx, bd, n0, hn, h⟩
  rcases hv with rfl | rfl
  · show [unX f.px, _, _] = _
    rw [un_px]
    rfl
  · show [unX f.pv, _, _] = _
    rw [un_pv]
    rfl
end Q
namespace Q
open PySem PySem.Spec PyProof.Rows L2
/-- the floor by hand -/
def F0 : Fl := ⟨[2, 1, 0], [1, 2, 0]⟩
theorem F0_form : F0.form := ⟨rfl, by decide, by decide, fun x hx => by
  have : x = 0 ∨ x = 1 ∨ x = 2 := by have : x < 3 := hx; omega
  rcases this with rfl | rfl | rfl <;> decide, fun x hx => by
  have : x = 0 ∨ x = 1 ∨ x = 2 := by have : x < 3 := hx; omega
  rcases this with rfl | rfl | rfl <;> decide⟩
theorem F0_ok : F0.ok := ⟨F0_form, fun x hx => by
  have : x = 0 ∨ x = 1 ∨ x = 2 := by have : x < 3 := hx; omega
  rcases this with rfl | rfl | rfl
  · exact ⟨[], rfl⟩
  · exact ⟨[.R], rfl⟩
  · exact ⟨[.S], rfl⟩⟩
theorem ringT : Ring (F0.stp .T) F0.n [1, 2] := ⟨by decide, fun i hi => by
  have : i = 0 ∨ i = 1 := by have : i < 2 := hi; omega
  rcases this with rfl | rfl <;> decide, fun i hi => by
  have : i = 0 ∨ i = 1 := by have : i < 2 := hi; omega
  rcases this with rfl | rfl <;> decide⟩
theorem ringF : Ring (F0.stp .F) F0.n [0, 1] := ⟨by decide, fun i hi => by
  have : i = 0 ∨ i = 1 := by have : i < 2 := hi; omega
  rcases this with rfl | rfl <;> decide, fun i hi => by
  have : i = 0 ∨ i = 1 := by have : i < 2 := hi; omega
  rcases this with rfl | rfl <;> decide⟩
theorem ringTF : Ring (fun x => F0.act [.S, .R, .S, .r] x) F0.n [0, 1, 2] := ⟨by decide, fun i hi => by
  have : i = 0 ∨ i = 1 ∨ i = 2 := by have : i < 3 := hi; omega
  rcases this with rfl | rfl | rfl <;> decide, fun i hi => by
  have : i = 0 ∨ i = 1 ∨ i = 2 := by have : i < 3 := hi; omega
  rcases this with rfl | rfl | rfl <;> decide⟩
theorem cat2 {a b : Nat} {e : Int} : cat [a, b] e = if e % 2 = 0 then a else b := by
  have h0 : 0 ≤ e % 2 := Int.emod_nonneg _ (by decide)
  have h1 : e % 2 < 2 := Int.emod_lt_of_pos _ (by decide)
  unfold cat
  show [a, b].getD (e % 2).toNat 0 = _
  rcases (show e % 2 = 0 ∨ e % 2 = 1 by omega) with h | h <;> rw [h] <;> rfl
theorem act_T {e : Int} : F0.act (lopZ (.T, e)) 1 = if e % 2 = 0 then 1 else 2 := by
  have h := F0_form.pow ringT (e := e) (fun z => by cases z) 0
  rw [cat2, cat2, Int.zero_add] at h
  rw [h]; rfl
theorem act_F {e : Int} : F0.act (lopZ (.F, e)) 0 = if e % 2 = 0 then 0 else 1 := by
  have h := F0_form.pow ringF (e := e) (fun z => by cases z) 0
  rw [cat2, cat2, Int.zero_add] at h
  rw [h]; rfl
theorem rep_snoc (n : Nat) (u : List Ltr) : rep (n + 1) u = rep n u ++ u := by
  unfold rep
  rw [List.replicate_succ', List.flatten_append]
  simp
def wTF (n : Nat) : List Ltr := rep n [.S, .R, .S, .r]
theorem wTF_len (n : Nat) : (wTF n).length = 4 * n := by
  induction n with
  | zero => rfl
  | succ n ih =>
    have : wTF (n + 1) = wTF n ++ [.S, .R, .S, .r] := rep_snoc n _
    rw [this, List.length_append, ih]
    simp
    omega
theorem wTF_next (n : Nat) : ((wmt (wTF n)).mul ⟨2, 1, 1, 1⟩).sg = wmt (wTF (n + 1)) := by
  have : wTF (n + 1) = wTF n ++ [.S, .R, .S, .r] := rep_snoc n _
  rw [this, wmt_app, show wmt [.S, .R, .S, .r] = ⟨2, 1, 1, 1⟩ by decide, Mt.sg_nf]
  exact Mt.det1_mul (wmt_ok _).1 (by decide)
theorem act_TF (n : Nat) (i : Int) : F0.act (wTF n) (cat [0, 1, 2] i) = cat [0, 1, 2] (i + n) := ringTF.fore (fun _ _ => rfl) n i
theorem one_bdT {z : Int} {n : Nat} (h : z.natAbs < 2 ^ n) (hn : 0 < n) : (Mt.mk 1 z 0 1).bd n ∧ (Mt.mk 1 0 z 1).bd n ∧ (Mt.mk (-1) 0 z (-1)).bd n ∧ (Mt.mk z (-1) 1 0).bd n := by
  have h1 : (1 : Nat) < 2 ^ n := Nat.one_lt_two_pow (by omega)
  have h0 : (0 : Nat) < 2 ^ n := by omega
  exact ⟨⟨h1, h, h0, h1⟩, ⟨h1, h0, h, h1⟩, ⟨h1, h0, h, h1⟩, ⟨h, h1, h1, h0⟩⟩
structure La1 (ns : List Int) (τ : Tau) (M' : PM) : Prop where
  ex : ∃ x1 x2 x3 x4 x5 x6 x7 x8 : Option PV, τ = [some (.rdl (ns.map .int)), x1, x2, x3, x4, x5, x6, x7, x8]
structure La2 (ns : List Int) (a : Addr) (j : Nat) (τ : Tau) (M' : PM) : Prop where
  ex : ∃ x1 x3 x4 x5 x6 x7 x8 : Option PV, τ = [some (.rdl (ns.map .int)), x1, some (.ref a), x3, x4, x5, x6, x7, x8] ∧ Src M' a (30 + 1000 * j)
structure La3 (ns : List Int) (a : Addr) (f : Fl) (c j : Nat) (τ : Tau) (M' : PM) : Prop where
  ex : ∃ x1 x3 x5 x6 x7 x8 : Option PV, τ = [some (.rdl (ns.map .int)), x1, some (.ref a), x3, some f.px, x5, x6, x7, x8] ∧ Src M' a (c + 150 * j)
structure La4 (ns : List Int) (i : Nat) (τ : Tau) (M' : PM) : Prop where
  ex : ∃ (z : Int) (x1 x2 x3 x5 x7 x8 : Option PV), τ = [some (.rdl (ns.map .int)), x1, x2, x3, some F0.pv, x5, some (.int z), x7, x8] ∧ 0 < z ∧ z.natAbs < 2 ^ (34 * i + 1) ∧ (0 < i → z % 2 = 0)
structure La5 (ns : List Int) (i : Nat) (τ : Tau) (M' : PM) : Prop where
  ex : ∃ (x1 x2 x3 x5 x6 x7 : Option PV), τ = [some (.rdl (ns.map .int)), x1, x2, x3, some F0.pv, x5, x6, x7, some (wmt (wTF i)).pv]
end Q
namespace Q
open PySem PySem.Spec PyProof.Rows L2
theorem depthAll_ints : ∀ l : List Int, PyData.depthAll (l.map PyData.int) ≤ 2
  | [] => by decide
  | a :: l => by
    have := depthAll_ints l
    simp only [List.map_cons, PyData.depthAll, PyData.depth]
    omega
theorem eqvAll_ints : ∀ l m : List Int, PyData.eqvAll (l.map PyData.int) (m.map PyData.int) = decide (l = m)
  | [], [] => rfl
  | [], _ :: _ => rfl
  | _ :: _, [] => rfl
  | a :: l, b :: m => by
    simp only [List.map_cons, PyData.eqvAll, PyData.eqv, eqvAll_ints l m]
    by_cases h : a = b
    · subst h; by_cases h2 : l = m <;> simp [h2]
    · simp [h]
theorem opEq_ints {neg : Bool} {l m : List Int} {M : PM} {k : PK} (h : k (.bl (if neg then !decide (l = m) else decide (l = m))) M) : opEq neg (.lst (l.map .int)) (.lst (m.map .int)) M k := by
  refine ⟨.list (l.map PyData.int), .list (m.map PyData.int), by simp only [datM, dat, datL_ints]; rfl, by simp only [datM, dat, datL_ints]; rfl, ?_, ?_⟩
  · have := depthAll_ints l
    simp only [PyData.depth]
    omega
  · have e : PyData.eqv (.list (l.map PyData.int)) (.list (m.map PyData.int)) = decide (l = m) := by
      simp only [PyData.eqv]
      exact eqvAll_ints l m
    rw [e]
    exact h
end Q
namespace Q
open PySem PySem.Spec PyProof.Rows L2
theorem Has.weak {g : Glb} {x : Str} {k : Nat} {p : PSp} (h : Has g x k p) : Has g x k (spW p) := by
  obtain ⟨f, h1, h2, h3⟩ := h
  refine ⟨f, h1, h2, fun A outer s H us vs Q E hr hg e0 rv hsp => h3 A outer s H us vs Q E hr hg e0 rv ?_⟩
  obtain ⟨F, ps, M, kk, ex, R, e, hp, hk, hx⟩ := hsp
  exact ⟨F, unXs ps, M, kk, ex, R, reps_un e, hp, hk, hx⟩
end Q
namespace Q
open PySem PySem.Spec PyProof.Rows L2

def topS (i : Nat) : Stmt := PySem.Challenge.pw_cuspfloor_k24_leading_by_great_matrices.main.body.getD i (.Pass ⟨0, 0, 0, 0⟩)
abbrev s_is_whole : Stmt := topS 6
abbrev N_is_whole : List Str := ["value"]
theorem sc_is_whole : FnScope N_is_whole ["value"] (defScope s_is_whole) := ⟨rfl, rfl, rfl, by decide +kernel, rfl, by decide +kernel, by decide +kernel⟩
abbrev s_is_pair : Stmt := topS 7
abbrev N_is_pair : List Str := ["value"]
theorem sc_is_pair : FnScope N_is_pair ["value"] (defScope s_is_pair) := ⟨rfl, rfl, rfl, by decide +kernel, rfl, by decide +kernel, by decide +kernel⟩
abbrev s_is_matrix : Stmt := topS 8
abbrev N_is_matrix : List Str := ["value"]
theorem sc_is_matrix : FnScope N_is_matrix ["value"] (defScope s_is_matrix) := ⟨rfl, rfl, rfl, by decide +kernel, rfl, by decide +kernel, by decide +kernel⟩
abbrev s_check_matrix : Stmt := topS 9
abbrev N_check_matrix : List Str := ["matrix"]
theorem sc_check_matrix : FnScope N_check_matrix ["matrix"] (defScope s_check_matrix) := ⟨rfl, rfl, rfl, by decide +kernel, rfl, by decide +kernel, by decide +kernel⟩
abbrev s_u_has_determinant_one : Stmt := topS 10
abbrev N_u_has_determinant_one : List Str := ["value", "a", "b", "c", "d"]
theorem sc_u_has_determinant_one : FnScope N_u_has_determinant_one ["value"] (defScope s_u_has_determinant_one) := ⟨rfl, rfl, rfl, by decide +kernel, rfl, by decide +kernel, by decide +kernel⟩
abbrev s_u_normal_form : Stmt := topS 11
abbrev N_u_normal_form : List Str := ["rows", "a", "b", "c", "d"]
theorem sc_u_normal_form : FnScope N_u_normal_form ["rows"] (defScope s_u_normal_form) := ⟨rfl, rfl, rfl, by decide +kernel, rfl, by decide +kernel, by decide +kernel⟩
abbrev s_expansion : Stmt := topS 13
abbrev N_expansion : List Str := ["matrix", "a", "b", "c", "d", "powers", "numbers", "at", "number", "pair"]
theorem sc_expansion : FnScope N_expansion ["matrix"] (defScope s_expansion) := ⟨rfl, rfl, rfl, by decide +kernel, rfl, by decide +kernel, by decide +kernel⟩
abbrev s_quotients : Stmt := topS 14
abbrev N_quotients : List Str := ["top", "low", "numbers"]
theorem sc_quotients : FnScope N_quotients ["top", "low"] (defScope s_quotients) := ⟨rfl, rfl, rfl, by decide +kernel, rfl, by decide +kernel, by decide +kernel⟩
abbrev s_check_floor : Stmt := topS 17
abbrev N_check_floor : List Str := ["floor", "part"]
theorem sc_check_floor : FnScope N_check_floor ["floor"] (defScope s_check_floor) := ⟨rfl, rfl, rfl, by decide +kernel, rfl, by decide +kernel, by decide +kernel⟩
abbrev s_check_place : Stmt := topS 18
abbrev N_check_place : List Str := ["floor", "place"]
theorem sc_check_place : FnScope N_check_place ["floor", "place"] (defScope s_check_place) := ⟨rfl, rfl, rfl, by decide +kernel, rfl, by decide +kernel, by decide +kernel⟩
abbrev s_lead : Stmt := topS 19
abbrev N_lead : List Str := ["floor", "place", "matrix"]
theorem sc_lead : FnScope N_lead ["floor", "place", "matrix"] (defScope s_lead) := ⟨rfl, rfl, rfl, by decide +kernel, rfl, by decide +kernel, by decide +kernel⟩
abbrev s_letter_tables : Stmt := topS 20
abbrev N_letter_tables : List Str := ["floor", "s", "r", "x"]
theorem sc_letter_tables : FnScope N_letter_tables ["floor"] (defScope s_letter_tables) := ⟨rfl, rfl, rfl, by decide +kernel, rfl, by decide +kernel, by decide +kernel⟩
abbrev s_power_tables : Stmt := topS 21
abbrev N_power_tables : List Str := ["floor", "tables", "s", "r", "back", "x"]
theorem sc_power_tables : FnScope N_power_tables ["floor"] (defScope s_power_tables) := ⟨rfl, rfl, rfl, by decide +kernel, rfl, by decide +kernel, by decide +kernel⟩
abbrev s_led_by_powers : Stmt := topS 22
abbrev N_led_by_powers : List Str := ["tables", "place", "powers", "letter", "exponent", "cycle", "at"]
theorem sc_led_by_powers : FnScope N_led_by_powers ["tables", "place", "powers"] (defScope s_led_by_powers) := ⟨rfl, rfl, rfl, by decide +kernel, rfl, by decide +kernel, by decide +kernel⟩
abbrev s_cycles_of_permutation : Stmt := topS 23
abbrev N_cycles_of_permutation : List Str := ["permutation", "found", "seen", "first", "cycle", "x"]
theorem sc_cycles_of_permutation : FnScope N_cycles_of_permutation ["permutation"] (defScope s_cycles_of_permutation) := ⟨rfl, rfl, rfl, by decide +kernel, rfl, by decide +kernel, by decide +kernel⟩
abbrev s_entries_of_walk : Stmt := topS 24
abbrev N_entries_of_walk : List Str := ["floor", "base", "s", "r", "entries", "queue", "entered", "x", "done", "tile", "y", "z"]
theorem sc_entries_of_walk : FnScope N_entries_of_walk ["floor", "base"] (defScope s_entries_of_walk) := ⟨rfl, rfl, rfl, by decide +kernel, rfl, by decide +kernel, by decide +kernel⟩
abbrev s_tile_of : Stmt := topS 25
abbrev N_tile_of : List Str := ["r", "x"]
theorem sc_tile_of : FnScope N_tile_of ["r", "x"] (defScope s_tile_of) := ⟨rfl, rfl, rfl, by decide +kernel, rfl, by decide +kernel, by decide +kernel⟩
abbrev s_u_wrong_part : Stmt := topS 26
abbrev N_u_wrong_part : List Str := ["value", "s", "r"]
theorem sc_u_wrong_part : FnScope N_u_wrong_part ["value"] (defScope s_u_wrong_part) := ⟨rfl, rfl, rfl, by decide +kernel, rfl, by decide +kernel, by decide +kernel⟩
abbrev s_u_has_form : Stmt := topS 27
abbrev N_u_has_form : List Str := ["value", "s", "r"]
theorem sc_u_has_form : FnScope N_u_has_form ["value"] (defScope s_u_has_form) := ⟨rfl, rfl, rfl, by decide +kernel, rfl, by decide +kernel, by decide +kernel⟩
abbrev s_u_is_restored : Stmt := topS 28
abbrev N_u_is_restored : List Str := ["row", "times", "x", "first", "_"]
theorem sc_u_is_restored : FnScope N_u_is_restored ["row", "times"] (defScope s_u_is_restored) := ⟨rfl, rfl, rfl, by decide +kernel, rfl, by decide +kernel, by decide +kernel⟩
abbrev s_u_walked : Stmt := topS 29
abbrev N_u_walked : List Str := ["floor", "base", "entry", "x"]
theorem sc_u_walked : FnScope N_u_walked ["floor", "base"] (defScope s_u_walked) := ⟨rfl, rfl, rfl, by decide +kernel, rfl, by decide +kernel, by decide +kernel⟩
abbrev s_u_seats : Stmt := topS 30
abbrev N_u_seats : List Str := ["permutation", "seats", "cycle", "at", "x"]
theorem sc_u_seats : FnScope N_u_seats ["permutation"] (defScope s_u_seats) := ⟨rfl, rfl, rfl, by decide +kernel, rfl, by decide +kernel, by decide +kernel⟩
abbrev s_L_ring : Stmt := topS 32
abbrev N_L_ring : List Str := ["_law_rows", "_law_x", "_law_letter", "_law_found"]
theorem sc_L_ring : FnScope N_L_ring ["_law_rows", "_law_x", "_law_letter"] (defScope s_L_ring) := ⟨rfl, rfl, rfl, by decide +kernel, rfl, by decide +kernel, by decide +kernel⟩
abbrev s_L_spun : Stmt := topS 33
abbrev N_L_spun : List Str := ["_law_rows", "_law_x", "_law_spins_here", "_law_letter", "_law_many", "_law_ring_here"]
theorem sc_L_spun : FnScope N_L_spun ["_law_rows", "_law_x", "_law_spins_here"] (defScope s_L_spun) := ⟨rfl, rfl, rfl, by decide +kernel, rfl, by decide +kernel, by decide +kernel⟩
abbrev s_L_huge : Stmt := topS 34
abbrev N_L_huge : List Str := ["_law_source_here", "_law_found", "_law_k"]
theorem sc_L_huge : FnScope N_L_huge ["_law_source_here"] (defScope s_L_huge) := ⟨rfl, rfl, rfl, by decide +kernel, rfl, by decide +kernel, by decide +kernel⟩
abbrev s_L_spins : Stmt := topS 35
abbrev N_L_spins : List Str := ["_law_source_here", "_law_found", "_law_k", "_law_letter", "_law_many"]
theorem sc_L_spins : FnScope N_L_spins ["_law_source_here"] (defScope s_L_spins) := ⟨rfl, rfl, rfl, by decide +kernel, rfl, by decide +kernel, by decide +kernel⟩
abbrev s_L_spun_matrix : Stmt := topS 36
abbrev N_L_spun_matrix : List Str := ["_law_spins_here", "_law_found", "_law_letter", "_law_many"]
theorem sc_L_spun_matrix : FnScope N_L_spun_matrix ["_law_spins_here"] (defScope s_L_spun_matrix) := ⟨rfl, rfl, rfl, by decide +kernel, rfl, by decide +kernel, by decide +kernel⟩
abbrev s_L_source : Stmt := topS 37
abbrev N_L_source : List Str := ["_law_script", "_law_k", "_law_cell"]
theorem sc_L_source : FnScope N_L_source ["_law_script", "_law_k"] (defScope s_L_source) := ⟨rfl, rfl, rfl, by decide +kernel, rfl, by decide +kernel, by decide +kernel⟩
abbrev s_L_next : Stmt := topS 38
abbrev N_L_next : List Str := ["_law_source_here", "_law_many", "_law_found", "_law_primes", "_law_prime"]
theorem sc_L_next : FnScope N_L_next ["_law_source_here", "_law_many"] (defScope s_L_next) := ⟨rfl, rfl, rfl, by decide +kernel, rfl, by decide +kernel, by decide +kernel⟩
abbrev s_L_mixed : Stmt := topS 39
abbrev N_L_mixed : List Str := ["_law_source_here", "_law_items", "_law_rest", "_law_found"]
theorem sc_L_mixed : FnScope N_L_mixed ["_law_source_here", "_law_items"] (defScope s_L_mixed) := ⟨rfl, rfl, rfl, by decide +kernel, rfl, by decide +kernel, by decide +kernel⟩
abbrev s_L_signed : Stmt := topS 40
abbrev N_L_signed : List Str := ["_law_rows", "_law_a", "_law_b", "_law_c", "_law_d"]
theorem sc_L_signed : FnScope N_L_signed ["_law_rows"] (defScope s_L_signed) := ⟨rfl, rfl, rfl, by decide +kernel, rfl, by decide +kernel, by decide +kernel⟩
abbrev s_L_times : Stmt := topS 41
abbrev N_L_times : List Str := ["_law_one", "_law_other", "_law_a", "_law_b", "_law_c", "_law_d", "_law_p", "_law_q", "_law_u", "_law_v"]
theorem sc_L_times : FnScope N_L_times ["_law_one", "_law_other"] (defScope s_L_times) := ⟨rfl, rfl, rfl, by decide +kernel, rfl, by decide +kernel, by decide +kernel⟩
abbrev s_L_back : Stmt := topS 42
abbrev N_L_back : List Str := ["_law_matrix", "_law_a", "_law_b", "_law_c", "_law_d"]
theorem sc_L_back : FnScope N_L_back ["_law_matrix"] (defScope s_L_back) := ⟨rfl, rfl, rfl, by decide +kernel, rfl, by decide +kernel, by decide +kernel⟩
abbrev s_L_floor : Stmt := topS 43
abbrev N_L_floor : List Str := ["_law_source_here", "_law_tiles", "_law_s", "_law_r", "_law_loose", "_law_turn", "_law_fresh", "_law_first", "_law_size", "_law_at", "_law_k", "_law_x", "_law_y"]
theorem sc_L_floor : FnScope N_L_floor ["_law_source_here", "_law_tiles"] (defScope s_L_floor) := ⟨rfl, rfl, rfl, by decide +kernel, rfl, by decide +kernel, by decide +kernel⟩
abbrev s_L_renamed : Stmt := topS 44
abbrev N_L_renamed : List Str := ["_law_rows", "_law_names", "_law_s", "_law_r", "_law_found", "_law_x", "_law_name"]
theorem sc_L_renamed : FnScope N_L_renamed ["_law_rows", "_law_names"] (defScope s_L_renamed) := ⟨rfl, rfl, rfl, by decide +kernel, rfl, by decide +kernel, by decide +kernel⟩
abbrev s_L_led : Stmt := topS 45
abbrev N_L_led : List Str := ["_law_rows", "_law_x", "_law_text", "_law_letter"]
theorem sc_L_led : FnScope N_L_led ["_law_rows", "_law_x", "_law_text"] (defScope s_L_led) := ⟨rfl, rfl, rfl, by decide +kernel, rfl, by decide +kernel, by decide +kernel⟩
abbrev s_L_spins_right : Stmt := topS 46
abbrev N_L_spins_right : List Str := ["_law_source_here", "_law_rows", "_law_spins_here", "_law_x", "_law_made", "_law_y"]
theorem sc_L_spins_right : FnScope N_L_spins_right ["_law_source_here", "_law_rows"] (defScope s_L_spins_right) := ⟨rfl, rfl, rfl, by decide +kernel, rfl, by decide +kernel, by decide +kernel⟩
abbrev s_law : Stmt := topS 47
abbrev N_law : List Str := ["_law_script", "_law_k", "_law_source_here", "_law_turn", "_law_rows", "_law_again", "_law_many", "_law_told", "_law_made"]
theorem sc_law : FnScope N_law ["_law_script"] (defScope s_law) := ⟨rfl, rfl, rfl, by decide +kernel, rfl, by decide +kernel, by decide +kernel⟩
def f_is_whole : QS := (qRet (qAndV (qCallB (cIsi) (qCons (qVar 0) (qCons (qC (.ty "int")) qNil))) (qNotV (qCallB (cIsi) (qCons (qVar 0) (qCons (qC (.ty "bool")) qNil))))))
theorem dd_is_whole {g : Glb} (z_bool : g.mg ("bool" : Str) = none) (z_int : g.mg ("int" : Str) = none) (z_isinstance : g.mg ("isinstance" : Str) = none) : DSs ⟨g, N_is_whole, defScope s_is_whole, 0, none⟩ (defBody s_is_whole) f_is_whole :=
    (dss_one (ds_ret (de_and (de_callB cq_isi rfl z_isinstance bt_isinstance (da_cons (de_var 0) (da_cons (de_ty z_int rfl bt_int) da_nil))) (de_one (de_not (de_callB cq_isi rfl z_isinstance bt_isinstance (da_cons (de_var 0) (da_cons (de_ty z_bool rfl bt_bool) da_nil))))))))
def f_is_pair : QS := (qRet (qAndV (qCallB (cIsi) (qCons (qVar 0) (qCons (qC (.ty "tuple")) qNil))) (qAndV (qBin (opEq false) (qCallB (cLen) (qCons (qVar 0) qNil)) (qC (.int 2))) (qAndV (qCall sp_is_whole (qCons (qBin opIx (qVar 0) (qC (.int 0))) qNil)) (qCall sp_is_whole (qCons (qBin opIx (qVar 0) (qC (.int 1))) qNil))))))
theorem dd_is_pair {g : Glb} (h_is_whole : Has g "is_whole" 1 sp_is_whole) (z_isinstance : g.mg ("isinstance" : Str) = none) (z_len : g.mg ("len" : Str) = none) (z_tuple : g.mg ("tuple" : Str) = none) : DSs ⟨g, N_is_pair, defScope s_is_pair, 1, none⟩ (defBody s_is_pair) f_is_pair :=
    (dss_one (ds_ret (de_and (de_callB cq_isi rfl z_isinstance bt_isinstance (da_cons (de_var 0) (da_cons (de_ty z_tuple rfl bt_tuple) da_nil))) (de_and (de_cmp oq_eq (de_callB cq_len rfl z_len bt_len (da_cons (de_var 0) da_nil)) de_int (nomark _)) (de_and (de_call h_is_whole (da_cons (de_ix (de_var 0) de_int) da_nil)) (de_one (de_call h_is_whole (da_cons (de_ix (de_var 0) de_int) da_nil))))))))
def f_is_matrix : QS := (qRet (qAndV (qCall sp_u_has_determinant_one (qCons (qVar 0) qNil)) (qBin (opEq false) (qCall sp_u_normal_form (qCons (qVar 0) qNil)) (qVar 0))))
theorem dd_is_matrix {g : Glb} (h_u_has_determinant_one : Has g "_has_determinant_one" 3 sp_u_has_determinant_one) (h_u_normal_form : Has g "_normal_form" 1 sp_u_normal_form) : DSs ⟨g, N_is_matrix, defScope s_is_matrix, 3, none⟩ (defBody s_is_matrix) f_is_matrix :=
    (dss_one (ds_ret (de_and (de_call h_u_has_determinant_one (da_cons (de_var 0) da_nil)) (de_one (de_cmp oq_eq (de_call h_u_normal_form (da_cons (de_var 0) da_nil)) (de_var 0) (nomark _))))))
def f_check_matrix : QS := (qIfS (qNotT (qTruth (qCall sp_is_matrix (qCons (qVar 0) qNil)))) qNever qNext)
theorem dd_check_matrix {g : Glb} (h_is_matrix : Has g "is_matrix" 4 sp_is_matrix) : DSs ⟨g, N_check_matrix, defScope s_check_matrix, 4, none⟩ (defBody s_check_matrix) f_check_matrix :=
    (dss_one (ds_if (dt_not (dt_truth (de_call h_is_matrix (da_cons (de_var 0) da_nil)))) (dss_one ds_never) dss_nil))
def f_u_has_determinant_one : QS := (qSeq (qIfS (qOrT (qNotT (qTruth (qCallB (cIsi) (qCons (qVar 0) (qCons (qC (.ty "tuple")) qNil))))) (qOrT (qTest (qBin (opEq true) (qCallB (cLen) (qCons (qVar 0) qNil)) (qC (.int 2)))) (qOrT (qNotT (qTruth (qCall sp_is_pair (qCons (qBin opIx (qVar 0) (qC (.int 0))) qNil)))) (qNotT (qTruth (qCall sp_is_pair (qCons (qBin opIx (qVar 0) (qC (.int 1))) qNil))))))) (qRet (qC (.bl false))) qNext)
    (qSeq (qAsg (qVar 0) (gTupQ 2 (gsCons (gTupQ 2 (gsCons (gSet 1) (gsCons (gSet 2) gsNil))) (gsCons (gTupQ 2 (gsCons (gSet 3) (gsCons (gSet 4) gsNil))) gsNil))))
    (qRet (qBin (opEq false) (qBin opSub (qBin opMul (qVar 1) (qVar 4)) (qBin opMul (qVar 2) (qVar 3))) (qC (.int 1))))))
theorem dd_u_has_determinant_one {g : Glb} (h_is_pair : Has g "is_pair" 2 sp_is_pair) (z_isinstance : g.mg ("isinstance" : Str) = none) (z_len : g.mg ("len" : Str) = none) (z_tuple : g.mg ("tuple" : Str) = none) : DSs ⟨g, N_u_has_determinant_one, defScope s_u_has_determinant_one, 2, none⟩ (defBody s_u_has_determinant_one) f_u_has_determinant_one :=
    (dss_cons (ds_if (dt_w (dw_or (dt_not (dt_truth (de_callB cq_isi rfl z_isinstance bt_isinstance (da_cons (de_var 0) (da_cons (de_ty z_tuple rfl bt_tuple) da_nil))))) (dw_or (dt_cmp oq_ne (de_callB cq_len rfl z_len bt_len (da_cons (de_var 0) da_nil)) de_int (nomark _)) (dw_or (dt_not (dt_truth (de_call h_is_pair (da_cons (de_ix (de_var 0) de_int) da_nil)))) (dw_or1 (dt_not (dt_truth (de_call h_is_pair (da_cons (de_ix (de_var 0) de_int) da_nil))))))))) (dss_one (ds_ret de_bl)) dss_nil)
    (dss_cons (ds_asg (de_var 0) (dg_tup (n := 2) (dgs_cons (dg_tup (n := 2) (dgs_cons (dg_name 1 sc_u_has_determinant_one.nd) (dgs_cons (dg_name 2 sc_u_has_determinant_one.nd) dgs_nil))) (dgs_cons (dg_tup (n := 2) (dgs_cons (dg_name 3 sc_u_has_determinant_one.nd) (dgs_cons (dg_name 4 sc_u_has_determinant_one.nd) dgs_nil))) dgs_nil))))
    (dss_one (ds_ret (de_cmp oq_eq (de_bin oq_sub (de_bin oq_mul (de_var 1) (de_var 4)) (de_bin oq_mul (de_var 2) (de_var 3))) de_int (nomark _))))))
def f_u_normal_form : QS := (qSeq (qAsg (qVar 0) (gTupQ 2 (gsCons (gTupQ 2 (gsCons (gSet 1) (gsCons (gSet 2) gsNil))) (gsCons (gTupQ 2 (gsCons (gSet 3) (gsCons (gSet 4) gsNil))) gsNil))))
    (qSeq (qIfS (qOrT (qTest (qBin opLt (qVar 3) (qC (.int 0)))) (qAndT (qTest (qBin (opEq false) (qVar 3) (qC (.int 0)))) (qTest (qBin opLt (qVar 1) (qC (.int 0)))))) (qRet (qTup (qCons (qTup (qCons (qNeg (qVar 1)) (qCons (qNeg (qVar 2)) qNil))) (qCons (qTup (qCons (qNeg (qVar 3)) (qCons (qNeg (qVar 4)) qNil))) qNil)))) qNext)
    (qRet (qTup (qCons (qTup (qCons (qVar 1) (qCons (qVar 2) qNil))) (qCons (qTup (qCons (qVar 3) (qCons (qVar 4) qNil))) qNil))))))
theorem dd_u_normal_form {g : Glb}  : DSs ⟨g, N_u_normal_form, defScope s_u_normal_form, 0, none⟩ (defBody s_u_normal_form) f_u_normal_form :=
    (dss_cons (ds_asg (de_var 0) (dg_tup (n := 2) (dgs_cons (dg_tup (n := 2) (dgs_cons (dg_name 1 sc_u_normal_form.nd) (dgs_cons (dg_name 2 sc_u_normal_form.nd) dgs_nil))) (dgs_cons (dg_tup (n := 2) (dgs_cons (dg_name 3 sc_u_normal_form.nd) (dgs_cons (dg_name 4 sc_u_normal_form.nd) dgs_nil))) dgs_nil))))
    (dss_cons (ds_if (dt_w (dw_or (dt_cmp oq_lt (de_var 3) de_int (nomark _)) (dw_or1 (dt_w (dw_and (dt_cmp oq_eq (de_var 3) de_int (nomark _)) (dw_and1 (dt_cmp oq_lt (de_var 1) de_int (nomark _)))))))) (dss_one (ds_ret (de_tup (da_cons (de_tup (da_cons (de_neg (de_var 1)) (da_cons (de_neg (de_var 2)) da_nil))) (da_cons (de_tup (da_cons (de_neg (de_var 3)) (da_cons (de_neg (de_var 4)) da_nil))) da_nil))))) dss_nil)
    (dss_one (ds_ret (de_tup (da_cons (de_tup (da_cons (de_var 1) (da_cons (de_var 2) da_nil))) (da_cons (de_tup (da_cons (de_var 3) (da_cons (de_var 4) da_nil))) da_nil)))))))
def f_expansion : QS := (qSeq (qDrop (qCall sp_check_matrix (qCons (qVar 0) qNil)))
    (qSeq (qAsg (qVar 0) (gTupQ 2 (gsCons (gTupQ 2 (gsCons (gSet 1) (gsCons (gSet 2) gsNil))) (gsCons (gTupQ 2 (gsCons (gSet 3) (gsCons (gSet 4) gsNil))) gsNil))))
    (qSeq (qIfS (qTest (qBin (opEq false) (qVar 3) (qC (.int 0)))) (qAsg (qLstM (qCons (qTup (qCons (qC (.str "T")) (qCons (qVar 2) qNil))) qNil)) (gSet 5)) (qSeq (qAsg (qCall sp_quotients (qCons (qVar 1) (qCons (qVar 3) qNil))) (gSet 6))
    (qSeq (qAsg (qLcM (iEnm (qCons (qVar 6) qNil)) (.two 7 8) qYes (qTup (qCons (qIf (qTest (qBin (opEq false) (qBin opMod (qVar 7) (qC (.int 2))) (qC (.int 0)))) (qC (.str "T")) (qC (.str "F"))) (qCons (qVar 8) qNil))) [7, 8]) (gSet 5))
    (qIfS (qTest (qBin (opEq false) (qBin opMod (qCallB (cLen) (qCons (qVar 6) qNil)) (qC (.int 2))) (qC (.int 0)))) (qDrop (qApp (qVar 5) (qTup (qCons (qC (.str "T")) (qCons (qBin opDiv (qVar 4) (qVar 3)) qNil))))) (qSeq (qDrop (qApp (qVar 5) (qTup (qCons (qC (.str "S")) (qCons (qC (.int 1)) qNil)))))
    (qDrop (qApp (qVar 5) (qTup (qCons (qC (.str "T")) (qCons (qNeg (qBin opDiv (qNeg (qVar 4)) (qVar 3))) qNil))))))))))
    (qRet (qCallB (cTuple) (qCons (qLc (iSq (qVar 5)) (.one 9) (qTest (qBin (opEq true) (qBin opIx (qVar 9) (qC (.int 1))) (qC (.int 0)))) (qVar 9) [9]) qNil))))))
theorem dd_expansion {g : Glb} (h_check_matrix : Has g "check_matrix" 5 sp_check_matrix) (h_quotients : Has g "quotients" 1 sp_quotients) (z_enumerate : g.mg ("enumerate" : Str) = none) (z_len : g.mg ("len" : Str) = none) (z_tuple : g.mg ("tuple" : Str) = none) : DSs ⟨g, N_expansion, defScope s_expansion, 5, none⟩ (defBody s_expansion) f_expansion :=
    (dss_cons (ds_expr (de_call h_check_matrix (da_cons (de_var 0) da_nil)))
    (dss_cons (ds_asg (de_var 0) (dg_tup (n := 2) (dgs_cons (dg_tup (n := 2) (dgs_cons (dg_name 1 sc_expansion.nd) (dgs_cons (dg_name 2 sc_expansion.nd) dgs_nil))) (dgs_cons (dg_tup (n := 2) (dgs_cons (dg_name 3 sc_expansion.nd) (dgs_cons (dg_name 4 sc_expansion.nd) dgs_nil))) dgs_nil))))
    (dss_cons (ds_if (dt_cmp oq_eq (de_var 3) de_int (nomark _)) (dss_one (ds_set 5 sc_expansion.nd (de_lstM (da_cons (de_tup (da_cons de_str (da_cons (de_var 2) da_nil))) da_nil)))) (dss_cons (ds_set 6 sc_expansion.nd (de_call h_quotients (da_cons (de_var 1) (da_cons (de_var 3) da_nil))))
    (dss_cons (ds_setLcM 5 (own := [("at", 7), ("number", 8)]) (tg := (.two 7 8)) sc_expansion.nd (di_enum rfl z_enumerate (da_cons (de_var 6) da_nil)) (blkOk_by (N := N_expansion) (sc := defScope s_expansion) (by decide +kernel)) rfl (dgb_two 7 8 sc_expansion.nd) dts_nil (de_tup (da_cons (de_if (dt_cmp oq_eq (de_bin oq_mod (de_var 7) de_int) de_int (nomark _)) de_str de_str) (da_cons (de_var 8) da_nil))))
    (dss_one (ds_if (dt_cmp oq_eq (de_bin oq_mod (de_callB cq_len rfl z_len bt_len (da_cons (de_var 6) da_nil)) de_int) de_int (nomark _)) (dss_one (ds_expr (de_append (de_var 5) (de_tup (da_cons de_str (da_cons (de_bin oq_div (de_var 4) (de_var 3)) da_nil)))))) (dss_cons (ds_expr (de_append (de_var 5) (de_tup (da_cons de_str (da_cons de_int da_nil)))))
    (dss_one (ds_expr (de_append (de_var 5) (de_tup (da_cons de_str (da_cons (de_neg (de_bin oq_div (de_neg (de_var 4)) (de_var 3))) da_nil))))))))))))
    (dss_one (ds_ret (de_callTy cq_tuple rfl z_tuple bt_tuple (da_cons (de_lc (own := [("pair", 9)]) (tg := (.one 9)) sc_expansion.nd (di_seq (de_var 5)) (blkOk_by (N := N_expansion) (sc := defScope s_expansion) (by decide +kernel)) rfl (dgb_one 9 sc_expansion.nd) (dts_one (dt_cmp oq_ne (de_ix (de_var 9) de_int) de_int (nomark _))) (de_var 9)) da_nil)))))))
def f_quotients : QS := (qSeq (qAsg (qLstM qNil) (gSet 2))
    (qSeq (qWhile (qTest (qBin (opEq true) (qVar 1) (qC (.int 0)))) (qSeq (qDrop (qApp (qVar 2) (qBin opDiv (qVar 0) (qVar 1))))
    (qPar 0 1 (qCons (qVar 1) (qCons (qBin opMod (qVar 0) (qVar 1)) qNil)))))
    (qRet (qVar 2))))
theorem dd_quotients {g : Glb}  : DSs ⟨g, N_quotients, defScope s_quotients, 0, none⟩ (defBody s_quotients) f_quotients :=
    (dss_cons (ds_set 2 sc_quotients.nd (de_lstM da_nil))
    (dss_cons (ds_while (dt_cmp oq_ne (de_var 1) de_int (nomark _)) (dss_cons (ds_expr (de_append (de_var 2) (de_bin oq_div (de_var 0) (de_var 1))))
    (dss_one (ds_par (i := 0) (j := 1) sc_quotients.nd rfl rfl (by decide) rfl rfl (da_cons (de_var 1) (da_cons (de_bin oq_mod (de_var 0) (de_var 1)) da_nil)) (by intro env h; obtain ⟨⟩ := env; dsimp only at h; subst h; rfl)))))
    (dss_one (ds_ret (de_var 2)))))
def f_check_floor : QS := (qSeq (qAsg (qCall sp_u_wrong_part (qCons (qVar 0) qNil)) (gSet 1))
    (qIfS (qTest (qBin (opIs true) (qVar 1) (qC .non))) qNever qNext))
theorem dd_check_floor {g : Glb} (h_u_wrong_part : Has g "_wrong_part" 4 sp_u_wrong_part) : DSs ⟨g, N_check_floor, defScope s_check_floor, 4, none⟩ (defBody s_check_floor) f_check_floor :=
    (dss_cons (ds_set 1 sc_check_floor.nd (de_call h_u_wrong_part (da_cons (de_var 0) da_nil)))
    (dss_one (ds_if (dt_cmp oq_isnot (de_var 1) de_non (nomark _)) (dss_one ds_never) dss_nil)))
def f_check_place : QS := (qIfS (qOrT (qNotT (qTruth (qCall sp_is_whole (qCons (qVar 1) qNil)))) (qOrT (qTest (qBin opLt (qVar 1) (qC (.int 0)))) (qTest (qBin opGe (qVar 1) (qCallB (cLen) (qCons (qBin opIx (qVar 0) (qC (.int 0))) qNil)))))) qNever qNext)
theorem dd_check_place {g : Glb} (h_is_whole : Has g "is_whole" 1 sp_is_whole) (z_len : g.mg ("len" : Str) = none) : DSs ⟨g, N_check_place, defScope s_check_place, 1, none⟩ (defBody s_check_place) f_check_place :=
    (dss_one (ds_if (dt_w (dw_or (dt_not (dt_truth (de_call h_is_whole (da_cons (de_var 1) da_nil)))) (dw_or (dt_cmp oq_lt (de_var 1) de_int (nomark _)) (dw_or1 (dt_cmp oq_ge (de_var 1) (de_callB cq_len rfl z_len bt_len (da_cons (de_ix (de_var 0) de_int) da_nil)) (nomark _)))))) (dss_one ds_never) dss_nil))
def f_lead : QS := (qSeq (qDrop (qCall sp_check_floor (qCons (qVar 0) qNil)))
    (qSeq (qDrop (qCall sp_check_place (qCons (qVar 0) (qCons (qVar 1) qNil))))
    (qSeq (qDrop (qCall sp_check_matrix (qCons (qVar 2) qNil)))
    (qRet (qCall sp_led_by_powers (qCons (qCall sp_power_tables (qCons (qVar 0) qNil)) (qCons (qVar 1) (qCons (qCall sp_expansion (qCons (qVar 2) qNil)) qNil))))))))
theorem dd_lead {g : Glb} (h_check_matrix : Has g "check_matrix" 5 sp_check_matrix) (h_expansion : Has g "expansion" 6 sp_expansion) (h_check_floor : Has g "check_floor" 5 sp_check_floor) (h_check_place : Has g "check_place" 2 sp_check_place) (h_power_tables : Has g "power_tables" 3 sp_power_tables) (h_led_by_powers : Has g "led_by_powers" 1 sp_led_by_powers) : DSs ⟨g, N_lead, defScope s_lead, 6, none⟩ (defBody s_lead) f_lead :=
    (dss_cons (ds_expr (de_call h_check_floor (da_cons (de_var 0) da_nil)))
    (dss_cons (ds_expr (de_call h_check_place (da_cons (de_var 0) (da_cons (de_var 1) da_nil))))
    (dss_cons (ds_expr (de_call h_check_matrix (da_cons (de_var 2) da_nil)))
    (dss_one (ds_ret (de_call h_led_by_powers (da_cons (de_call h_power_tables (da_cons (de_var 0) da_nil)) (da_cons (de_var 1) (da_cons (de_call h_expansion (da_cons (de_var 2) da_nil)) da_nil)))))))))
def f_letter_tables : QS := (qSeq (qAsg (qVar 0) (gTupQ 2 (gsCons (gSet 1) (gsCons (gSet 2) gsNil))))
    (qRet (qDict [(.inr "S", (qVar 1)), (.inr "R", (qVar 2)), (.inr "r", (qCallB (cTuple) (qCons (qLc (iRg (qCons (qCallB (cLen) (qCons (qVar 2) qNil)) qNil)) (.one 3) qYes (qBin opIx (qVar 2) (qBin opIx (qVar 2) (qVar 3))) [3]) qNil)))])))
theorem dd_letter_tables {g : Glb} (z_len : g.mg ("len" : Str) = none) (z_range : g.mg ("range" : Str) = none) (z_tuple : g.mg ("tuple" : Str) = none) : DSs ⟨g, N_letter_tables, defScope s_letter_tables, 0, none⟩ (defBody s_letter_tables) f_letter_tables :=
    (dss_cons (ds_asg (de_var 0) (dg_tup (n := 2) (dgs_cons (dg_name 1 sc_letter_tables.nd) (dgs_cons (dg_name 2 sc_letter_tables.nd) dgs_nil))))
    (dss_one (ds_ret (de_dict (dp_str (de_var 1) (dp_str (de_var 2) (dp_str (de_callTy cq_tuple rfl z_tuple bt_tuple (da_cons (de_lc (own := [("x", 3)]) (tg := (.one 3)) sc_letter_tables.nd (di_range rfl z_range (da_cons (de_callB cq_len rfl z_len bt_len (da_cons (de_var 2) da_nil)) da_nil)) (blkOk_by (N := N_letter_tables) (sc := defScope s_letter_tables) (by decide +kernel)) rfl (dgb_one 3 sc_letter_tables.nd) dts_nil (de_ix (de_var 2) (de_ix (de_var 2) (de_var 3)))) da_nil)) dp_nil)))))))
def f_power_tables : QS := (qSeq (qAsg (qCall sp_letter_tables (qCons (qVar 0) qNil)) (gSet 1))
    (qSeq (qAsg (qTup (qCons (qBin dGet (qVar 1) (qC (.str "S"))) (qCons (qBin dGet (qVar 1) (qC (.str "R"))) (qCons (qBin dGet (qVar 1) (qC (.str "r"))) qNil)))) (gTupQ 3 (gsCons (gSet 2) (gsCons (gSet 3) (gsCons (gSet 4) gsNil)))))
    (qRet (qDict [(.inr "S", (qCall sp_u_seats (qCons (qVar 2) qNil))), (.inr "T", (qCall sp_u_seats (qCons (qLc (iSq (qVar 2)) (.one 5) qYes (qBin opIx (qVar 3) (qVar 5)) [5]) qNil))), (.inr "F", (qCall sp_u_seats (qCons (qLc (iSq (qVar 2)) (.one 5) qYes (qBin opIx (qVar 4) (qVar 5)) [5]) qNil)))]))))
theorem dd_power_tables {g : Glb} (h_letter_tables : Has g "letter_tables" 1 sp_letter_tables) (h_u_seats : Has g "_seats" 2 sp_u_seats) : DSs ⟨g, N_power_tables, defScope s_power_tables, 2, none⟩ (defBody s_power_tables) f_power_tables :=
    (dss_cons (ds_set 1 sc_power_tables.nd (de_call h_letter_tables (da_cons (de_var 0) da_nil)))
    (dss_cons (ds_asg (de_tup (da_cons (de_dget (de_var 1) de_str) (da_cons (de_dget (de_var 1) de_str) (da_cons (de_dget (de_var 1) de_str) da_nil)))) (dg_tup (n := 3) (dgs_cons (dg_name 2 sc_power_tables.nd) (dgs_cons (dg_name 3 sc_power_tables.nd) (dgs_cons (dg_name 4 sc_power_tables.nd) dgs_nil)))) (hw := (by intro env h; obtain ⟨⟩ := env; dsimp only at h; subst h; rfl)))
    (dss_one (ds_ret (de_dict (dp_str (de_call h_u_seats (da_cons (de_var 2) da_nil)) (dp_str (de_call h_u_seats (da_cons (de_lc (own := [("x", 5)]) (tg := (.one 5)) sc_power_tables.nd (di_seq (de_var 2)) (blkOk_by (N := N_power_tables) (sc := defScope s_power_tables) (by decide +kernel)) rfl (dgb_one 5 sc_power_tables.nd) dts_nil (de_ix (de_var 3) (de_var 5))) da_nil)) (dp_str (de_call h_u_seats (da_cons (de_lc (own := [("x", 5)]) (tg := (.one 5)) sc_power_tables.nd (di_seq (de_var 2)) (blkOk_by (N := N_power_tables) (sc := defScope s_power_tables) (by decide +kernel)) rfl (dgb_one 5 sc_power_tables.nd) dts_nil (de_ix (de_var 4) (de_var 5))) da_nil)) dp_nil))))))))
def f_led_by_powers : QS := (qSeq (qFor (qVar 2) (gTupQ 2 (gsCons (gSet 3) (gsCons (gSet 4) gsNil))) (qSeq (qAsg (qBin opIx (qBin dGet (qVar 0) (qVar 3)) (qVar 1)) (gTupQ 2 (gsCons (gSet 5) (gsCons (gSet 6) gsNil))))
    (qAsg (qBin opIx (qVar 5) (qBin opMod (qBin opAdd (qVar 6) (qVar 4)) (qCallB (cLen) (qCons (qVar 5) qNil)))) (gSet 1))))
    (qRet (qVar 1)))
theorem dd_led_by_powers {g : Glb} (z_len : g.mg ("len" : Str) = none) : DSs ⟨g, N_led_by_powers, defScope s_led_by_powers, 0, none⟩ (defBody s_led_by_powers) f_led_by_powers :=
    (dss_cons (ds_for (de_var 2) (dg_tup (n := 2) (dgs_cons (dg_name 3 sc_led_by_powers.nd) (dgs_cons (dg_name 4 sc_led_by_powers.nd) dgs_nil))) (dss_cons (ds_asg (de_ix (de_dget (de_var 0) (de_var 3)) (de_var 1)) (dg_tup (n := 2) (dgs_cons (dg_name 5 sc_led_by_powers.nd) (dgs_cons (dg_name 6 sc_led_by_powers.nd) dgs_nil))))
    (dss_one (ds_set 1 sc_led_by_powers.nd (de_ix (de_var 5) (de_bin oq_mod (de_bin oq_add (de_var 6) (de_var 4)) (de_callB cq_len rfl z_len bt_len (da_cons (de_var 5) da_nil))))))))
    (dss_one (ds_ret (de_var 1))))
def f_cycles_of_permutation : QS := (qSeq (qAsg (qLstM qNil) (gSet 1))
    (qSeq (qAsg (qBin opMulM (qLst (qCons (qC (.bl false)) qNil)) (qCallB (cLen) (qCons (qVar 0) qNil))) (gSet 2))
    (qSeq (qForR (qCons (qCallB (cLen) (qCons (qVar 0) qNil)) qNil) (gSet 3) (qIfS (qNotT (qTruth (qBin opIx (qVar 2) (qVar 3)))) (qSeq (qAsg (qLstM (qCons (qVar 3) qNil)) (gSet 4))
    (qSeq (qWhile (qTest (qBin (opEq true) (qBin opIx (qVar 0) (qBin opIx (qVar 4) (qNeg (qC (.int 1))))) (qVar 3))) (qDrop (qApp (qVar 4) (qBin opIx (qVar 0) (qBin opIx (qVar 4) (qNeg (qC (.int 1))))))))
    (qSeq (qFor (qVar 4) (gSet 5) (qAsg (qC (.bl true)) (gItem (qVar 2) (qVar 5))))
    (qDrop (qApp (qVar 1) (qCallB (cTuple) (qCons (qVar 4) qNil))))))) qNext))
    (qRet (qVar 1)))))
theorem dd_cycles_of_permutation {g : Glb} (z_len : g.mg ("len" : Str) = none) (z_range : g.mg ("range" : Str) = none) (z_tuple : g.mg ("tuple" : Str) = none) : DSs ⟨g, N_cycles_of_permutation, defScope s_cycles_of_permutation, 0, none⟩ (defBody s_cycles_of_permutation) f_cycles_of_permutation :=
    (dss_cons (ds_set 1 sc_cycles_of_permutation.nd (de_lstM da_nil))
    (dss_cons (ds_set 2 sc_cycles_of_permutation.nd (de_bin oq_mulM (de_lst (da_cons de_bl da_nil)) (de_callB cq_len rfl z_len bt_len (da_cons (de_var 0) da_nil))))
    (dss_cons (ds_forR rfl z_range (da_cons (de_callB cq_len rfl z_len bt_len (da_cons (de_var 0) da_nil)) da_nil) (dg_name 3 sc_cycles_of_permutation.nd) (dss_one (ds_if (dt_not (dt_truth (de_ix (de_var 2) (de_var 3)))) (dss_cons (ds_set 4 sc_cycles_of_permutation.nd (de_lstM (da_cons (de_var 3) da_nil)))
    (dss_cons (ds_while (dt_cmp oq_ne (de_ix (de_var 0) (de_ix (de_var 4) (de_neg de_int))) (de_var 3) (nomark _)) (dss_one (ds_expr (de_append (de_var 4) (de_ix (de_var 0) (de_ix (de_var 4) (de_neg de_int)))))))
    (dss_cons (ds_for (de_var 4) (dg_name 5 sc_cycles_of_permutation.nd) (dss_one (ds_asg de_bl (dg_item (de_var 2) (de_var 5)))))
    (dss_one (ds_expr (de_append (de_var 1) (de_callTy cq_tuple rfl z_tuple bt_tuple (da_cons (de_var 4) da_nil)))))))) dss_nil)))
    (dss_one (ds_ret (de_var 1))))))
def f_entries_of_walk : QS := (qSeq (qAsg (qVar 0) (gTupQ 2 (gsCons (gSet 2) (gsCons (gSet 3) gsNil))))
    (qSeq (qAsg (qDict1 (qVar 1) (qC .non)) (gSet 4))
    (qSeq (qAsg (qLstM (qCons (qVar 1) qNil)) (gSet 5))
    (qSeq (qAsg (qDc (iSq (qCall sp_tile_of (qCons (qVar 3) (qCons (qVar 1) qNil)))) (.one 7) qYes (qVar 7) (qC (.bl true)) [7]) (gSet 6))
    (qSeq (qAsg (qC (.int 0)) (gSet 8))
    (qSeq (qWhile (qTest (qBin opLt (qVar 8) (qCallB (cLen) (qCons (qVar 5) qNil)))) (qSeq (qAsg (qCall sp_tile_of (qCons (qVar 3) (qCons (qBin opIx (qVar 5) (qVar 8)) qNil))) (gSet 9))
    (qSeq (qFor (qVar 9) (gSet 10) (qSeq (qAsg (qBin opIx (qVar 2) (qVar 10)) (gSet 7))
    (qIfS (qTest (qBin (opInD true) (qVar 7) (qVar 6))) (qSeq (qDPut (qVar 4) (qVar 7) (qVar 10))
    (qSeq (qDrop (qApp (qVar 5) (qVar 7)))
    (qFor (qCall sp_tile_of (qCons (qVar 3) (qCons (qVar 7) qNil))) (gSet 11) (qDPut (qVar 6) (qVar 11) (qC (.bl true)))))) qNext)))
    (qAsg (qBin opAdd (qVar 8) (qC (.int 1))) (gSet 8)))))
    (qRet (qVar 4))))))))
theorem dd_entries_of_walk {g : Glb} (h_tile_of : Has g "tile_of" 1 sp_tile_of) (z_len : g.mg ("len" : Str) = none) : DSs ⟨g, N_entries_of_walk, defScope s_entries_of_walk, 1, none⟩ (defBody s_entries_of_walk) f_entries_of_walk :=
    (dss_cons (ds_asg (de_var 0) (dg_tup (n := 2) (dgs_cons (dg_name 2 sc_entries_of_walk.nd) (dgs_cons (dg_name 3 sc_entries_of_walk.nd) dgs_nil))))
    (dss_cons (ds_set 4 sc_entries_of_walk.nd (de_dict1 (de_var 1) de_non))
    (dss_cons (ds_set 5 sc_entries_of_walk.nd (de_lstM (da_cons (de_var 1) da_nil)))
    (dss_cons (ds_setDc 6 (own := [("x", 7)]) (tg := (.one 7)) sc_entries_of_walk.nd (di_seq (de_call h_tile_of (da_cons (de_var 3) (da_cons (de_var 1) da_nil)))) (blkOk_by (N := N_entries_of_walk) (sc := defScope s_entries_of_walk) (by decide +kernel)) rfl (dgb_one 7 sc_entries_of_walk.nd) dts_nil (de_var 7) de_bl)
    (dss_cons (ds_set 8 sc_entries_of_walk.nd de_int)
    (dss_cons (ds_while (dt_cmp oq_lt (de_var 8) (de_callB cq_len rfl z_len bt_len (da_cons (de_var 5) da_nil)) (nomark _)) (dss_cons (ds_set 9 sc_entries_of_walk.nd (de_call h_tile_of (da_cons (de_var 3) (da_cons (de_ix (de_var 5) (de_var 8)) da_nil))))
    (dss_cons (ds_for (de_var 9) (dg_name 10 sc_entries_of_walk.nd) (dss_cons (ds_set 7 sc_entries_of_walk.nd (de_ix (de_var 2) (de_var 10)))
    (dss_one (ds_if (dt_cmp oq_notinD (de_var 7) (de_var 6) rfl) (dss_cons (ds_dput (de_var 4) (de_var 7) (de_var 10))
    (dss_cons (ds_expr (de_append (de_var 5) (de_var 7)))
    (dss_one (ds_for (de_call h_tile_of (da_cons (de_var 3) (da_cons (de_var 7) da_nil))) (dg_name 11 sc_entries_of_walk.nd) (dss_one (ds_dput (de_var 6) (de_var 11) de_bl)))))) dss_nil))))
    (dss_one (ds_set 8 sc_entries_of_walk.nd (de_bin oq_add (de_var 8) de_int))))))
    (dss_one (ds_ret (de_var 4)))))))))
def f_tile_of : QS := (qSeq (qIfS (qTest (qBin (opEq false) (qBin opIx (qVar 0) (qVar 1)) (qVar 1))) (qRet (qTup (qCons (qVar 1) qNil))) qNext)
    (qRet (qTup (qCons (qVar 1) (qCons (qBin opIx (qVar 0) (qVar 1)) (qCons (qBin opIx (qVar 0) (qBin opIx (qVar 0) (qVar 1))) qNil))))))
theorem dd_tile_of {g : Glb}  : DSs ⟨g, N_tile_of, defScope s_tile_of, 0, none⟩ (defBody s_tile_of) f_tile_of :=
    (dss_cons (ds_if (dt_cmp oq_eq (de_ix (de_var 0) (de_var 1)) (de_var 1) (nomark _)) (dss_one (ds_ret (de_tup (da_cons (de_var 1) da_nil)))) dss_nil)
    (dss_one (ds_ret (de_tup (da_cons (de_var 1) (da_cons (de_ix (de_var 0) (de_var 1)) (da_cons (de_ix (de_var 0) (de_ix (de_var 0) (de_var 1))) da_nil)))))))
def f_u_wrong_part : QS := (qSeq (qIfS (qNotT (qTruth (qCall sp_u_has_form (qCons (qVar 0) qNil)))) (qRet (qC (.str "form"))) qNext)
    (qSeq (qAsg (qVar 0) (gTupQ 2 (gsCons (gSet 1) (gsCons (gSet 2) gsNil))))
    (qSeq (qIfS (qNotT (qTruth (qCall sp_u_is_restored (qCons (qVar 1) (qCons (qC (.int 2)) qNil))))) (qRet (qC (.str "s"))) qNext)
    (qSeq (qIfS (qNotT (qTruth (qCall sp_u_is_restored (qCons (qVar 2) (qCons (qC (.int 3)) qNil))))) (qRet (qC (.str "r"))) qNext)
    (qSeq (qIfS (qTest (qBin opLt (qCallB (cLen) (qCons (qCall sp_u_walked (qCons (qVar 0) (qCons (qC (.int 0)) qNil))) qNil)) (qCallB (cLen) (qCons (qVar 1) qNil)))) (qRet (qC (.str "connected"))) qNext)
    (qRet (qC .non)))))))
theorem dd_u_wrong_part {g : Glb} (h_u_has_form : Has g "_has_form" 1 sp_u_has_form) (h_u_is_restored : Has g "_is_restored" 2 sp_u_is_restored) (h_u_walked : Has g "_walked" 3 sp_u_walked) (z_len : g.mg ("len" : Str) = none) : DSs ⟨g, N_u_wrong_part, defScope s_u_wrong_part, 3, none⟩ (defBody s_u_wrong_part) f_u_wrong_part :=
    (dss_cons (ds_if (dt_not (dt_truth (de_call h_u_has_form (da_cons (de_var 0) da_nil)))) (dss_one (ds_ret de_str)) dss_nil)
    (dss_cons (ds_asg (de_var 0) (dg_tup (n := 2) (dgs_cons (dg_name 1 sc_u_wrong_part.nd) (dgs_cons (dg_name 2 sc_u_wrong_part.nd) dgs_nil))))
    (dss_cons (ds_if (dt_not (dt_truth (de_call h_u_is_restored (da_cons (de_var 1) (da_cons de_int da_nil))))) (dss_one (ds_ret de_str)) dss_nil)
    (dss_cons (ds_if (dt_not (dt_truth (de_call h_u_is_restored (da_cons (de_var 2) (da_cons de_int da_nil))))) (dss_one (ds_ret de_str)) dss_nil)
    (dss_cons (ds_if (dt_cmp oq_lt (de_callB cq_len rfl z_len bt_len (da_cons (de_call h_u_walked (da_cons (de_var 0) (da_cons de_int da_nil))) da_nil)) (de_callB cq_len rfl z_len bt_len (da_cons (de_var 1) da_nil)) (nomark _)) (dss_one (ds_ret de_str)) dss_nil)
    (dss_one (ds_ret de_non)))))))
def f_u_has_form : QS := (qSeq (qIfS (qOrT (qNotT (qTruth (qCallB (cIsi) (qCons (qVar 0) (qCons (qC (.ty "tuple")) qNil))))) (qTest (qBin (opEq true) (qCallB (cLen) (qCons (qVar 0) qNil)) (qC (.int 2))))) (qRet (qC (.bl false))) qNext)
    (qSeq (qAsg (qVar 0) (gTupQ 2 (gsCons (gSet 1) (gsCons (gSet 2) gsNil))))
    (qRet (qAndV (qCallB (cIsi) (qCons (qVar 1) (qCons (qC (.ty "tuple")) qNil))) (qAndV (qCallB (cIsi) (qCons (qVar 2) (qCons (qC (.ty "tuple")) qNil))) (qAndV (qBin (opEq false) (qCallB (cLen) (qCons (qVar 1) qNil)) (qCallB (cLen) (qCons (qVar 2) qNil))) (qChain opLe opLe (qC (.int 1)) (qCallB (cLen) (qCons (qVar 1) qNil)) (qC (.int 120)))))))))
theorem dd_u_has_form {g : Glb} (hc_MAX_PLACES : HasC g "MAX_PLACES" (.int 120)) (z_isinstance : g.mg ("isinstance" : Str) = none) (z_len : g.mg ("len" : Str) = none) (z_tuple : g.mg ("tuple" : Str) = none) : DSs ⟨g, N_u_has_form, defScope s_u_has_form, 0, none⟩ (defBody s_u_has_form) f_u_has_form :=
    (dss_cons (ds_if (dt_w (dw_or (dt_not (dt_truth (de_callB cq_isi rfl z_isinstance bt_isinstance (da_cons (de_var 0) (da_cons (de_ty z_tuple rfl bt_tuple) da_nil))))) (dw_or1 (dt_cmp oq_ne (de_callB cq_len rfl z_len bt_len (da_cons (de_var 0) da_nil)) de_int (nomark _))))) (dss_one (ds_ret de_bl)) dss_nil)
    (dss_cons (ds_asg (de_var 0) (dg_tup (n := 2) (dgs_cons (dg_name 1 sc_u_has_form.nd) (dgs_cons (dg_name 2 sc_u_has_form.nd) dgs_nil))))
    (dss_one (ds_ret (de_and (de_callB cq_isi rfl z_isinstance bt_isinstance (da_cons (de_var 1) (da_cons (de_ty z_tuple rfl bt_tuple) da_nil))) (de_and (de_callB cq_isi rfl z_isinstance bt_isinstance (da_cons (de_var 2) (da_cons (de_ty z_tuple rfl bt_tuple) da_nil))) (de_and (de_cmp oq_eq (de_callB cq_len rfl z_len bt_len (da_cons (de_var 1) da_nil)) (de_callB cq_len rfl z_len bt_len (da_cons (de_var 2) da_nil)) (nomark _)) (de_one (de_chain oq_le oq_le de_int (de_callB cq_len rfl z_len bt_len (da_cons (de_var 1) da_nil)) (de_glob hc_MAX_PLACES rfl))))))))))
def f_u_is_restored : QS := (qSeq (qIfS (qNotT (qTruth (qCallB (cAll) (qCons (qLc (iSq (qVar 0)) (.one 2) qYes (qAndV (qCall sp_is_whole (qCons (qVar 2) qNil)) (qChain opLe opLt (qC (.int 0)) (qVar 2) (qCallB (cLen) (qCons (qVar 0) qNil)))) [2]) qNil)))) (qRet (qC (.bl false))) qNext)
    (qSeq (qForR (qCons (qCallB (cLen) (qCons (qVar 0) qNil)) qNil) (gSet 3) (qSeq (qAsg (qVar 3) (gSet 2))
    (qSeq (qForR (qCons (qVar 1) qNil) (gSet 4) (qAsg (qBin opIx (qVar 0) (qVar 2)) (gSet 2)))
    (qIfS (qTest (qBin (opEq true) (qVar 2) (qVar 3))) (qRet (qC (.bl false))) qNext))))
    (qRet (qC (.bl true)))))
theorem dd_u_is_restored {g : Glb} (h_is_whole : Has g "is_whole" 1 sp_is_whole) (z_all : g.mg ("all" : Str) = none) (z_len : g.mg ("len" : Str) = none) (z_range : g.mg ("range" : Str) = none) : DSs ⟨g, N_u_is_restored, defScope s_u_is_restored, 1, none⟩ (defBody s_u_is_restored) f_u_is_restored :=
    (dss_cons (ds_if (dt_not (dt_truth (de_callB cq_all rfl z_all bt_all (da_cons (de_lc (own := [("x", 2)]) (tg := (.one 2)) sc_u_is_restored.nd (di_seq (de_var 0)) (blkOk_by (N := N_u_is_restored) (sc := defScope s_u_is_restored) (by decide +kernel)) rfl (dgb_one 2 sc_u_is_restored.nd) dts_nil (de_and (de_call h_is_whole (da_cons (de_var 2) da_nil)) (de_one (de_chain oq_le oq_lt de_int (de_var 2) (de_callB cq_len rfl z_len bt_len (da_cons (de_var 0) da_nil)))))) da_nil)))) (dss_one (ds_ret de_bl)) dss_nil)
    (dss_cons (ds_forR rfl z_range (da_cons (de_callB cq_len rfl z_len bt_len (da_cons (de_var 0) da_nil)) da_nil) (dg_name 3 sc_u_is_restored.nd) (dss_cons (ds_set 2 sc_u_is_restored.nd (de_var 3))
    (dss_cons (ds_forR rfl z_range (da_cons (de_var 1) da_nil) (dg_name 4 sc_u_is_restored.nd) (dss_one (ds_set 2 sc_u_is_restored.nd (de_ix (de_var 0) (de_var 2)))))
    (dss_one (ds_if (dt_cmp oq_ne (de_var 2) (de_var 3) (nomark _)) (dss_one (ds_ret de_bl)) dss_nil)))))
    (dss_one (ds_ret de_bl))))
def f_u_walked : QS := (qRet (qCallB (cTuple) (qCons (qLc2 (iKeysQ (qCall sp_entries_of_walk (qCons (qVar 0) (qCons (qVar 1) qNil)))) (.one 2) qYes (iSq (qCall sp_tile_of (qCons (qBin opIx (qVar 0) (qC (.int 1))) (qCons (qVar 2) qNil)))) (.one 3) qYes (qVar 3) [2, 3]) qNil)))
theorem dd_u_walked {g : Glb} (h_entries_of_walk : Has g "entries_of_walk" 2 sp_entries_of_walk) (h_tile_of : Has g "tile_of" 1 sp_tile_of) (z_tuple : g.mg ("tuple" : Str) = none) : DSs ⟨g, N_u_walked, defScope s_u_walked, 2, none⟩ (defBody s_u_walked) f_u_walked :=
    (dss_one (ds_ret (de_callTy cq_tuple rfl z_tuple bt_tuple (da_cons (de_lc2 (own := [("entry", 2), ("x", 3)]) (tg := (.one 2)) (tg1 := (.one 3)) sc_u_walked.nd (di_keys (de_call h_entries_of_walk (da_cons (de_var 0) (da_cons (de_var 1) da_nil)))) (blkOk_by (N := N_u_walked) (sc := defScope s_u_walked) (by decide +kernel)) (by decide) (by decide) (dgb_one 2 sc_u_walked.nd) dts_nil (di_seq (de_call h_tile_of (da_cons (de_ix (de_var 0) de_int) (da_cons (de_var 2) da_nil)))) (dgb_one 3 sc_u_walked.nd) dts_nil (de_var 3)) da_nil))))
def f_u_seats : QS := (qSeq (qAsg (qBin opMulM (qLst (qCons (qC .non) qNil)) (qCallB (cLen) (qCons (qVar 0) qNil))) (gSet 1))
    (qSeq (qFor (qCall sp_cycles_of_permutation (qCons (qVar 0) qNil)) (gSet 2) (qForI (iEnTu (qCons (qVar 2) qNil)) (gTupQ 2 (gsCons (gSet 3) (gsCons (gSet 4) gsNil))) (qAsg (qTup (qCons (qVar 2) (qCons (qVar 3) qNil))) (gItem (qVar 1) (qVar 4)))))
    (qRet (qVar 1))))
theorem dd_u_seats {g : Glb} (h_cycles_of_permutation : Has g "cycles_of_permutation" 1 sp_cycles_of_permutation) (z_enumerate : g.mg ("enumerate" : Str) = none) (z_len : g.mg ("len" : Str) = none) : DSs ⟨g, N_u_seats, defScope s_u_seats, 1, none⟩ (defBody s_u_seats) f_u_seats :=
    (dss_cons (ds_set 1 sc_u_seats.nd (de_bin oq_mulM (de_lst (da_cons de_non da_nil)) (de_callB cq_len rfl z_len bt_len (da_cons (de_var 0) da_nil))))
    (dss_cons (ds_for (de_call h_cycles_of_permutation (da_cons (de_var 0) da_nil)) (dg_name 2 sc_u_seats.nd) (dss_one (ds_forI (di_enumTu rfl z_enumerate (da_cons (de_var 2) da_nil)) (dg_tup (n := 2) (dgs_cons (dg_name 3 sc_u_seats.nd) (dgs_cons (dg_name 4 sc_u_seats.nd) dgs_nil))) (dss_one (ds_asg (de_tup (da_cons (de_var 2) (da_cons (de_var 3) da_nil))) (dg_item (de_var 1) (de_var 4)))))))
    (dss_one (ds_ret (de_var 1)))))
def f_L_ring : QS := (qSeq (qAsg (qLstM qNil) (gSet 3))
    (qSeq (qWhile (qOrT (qTest (qBin (opEq false) (qVar 3) (qLst qNil))) (qTest (qBin (opEq true) (qVar 1) (qBin opIx (qVar 3) (qC (.int 0)))))) (qSeq (qDrop (qApp (qVar 3) (qVar 1)))
    (qAsg (qCall sp_L_led (qCons (qVar 0) (qCons (qVar 1) (qCons (qIf (qTest (qBin (opEq false) (qVar 2) (qC (.str "T")))) (qC (.str "SR")) (qC (.str "Sr"))) qNil)))) (gSet 1))))
    (qRet (qVar 3))))
theorem dd_L_ring {g : Glb} (h_L_led : Has g "_law_led" 1 sp_L_led) : DSs ⟨g, N_L_ring, defScope s_L_ring, 1, none⟩ (defBody s_L_ring) f_L_ring :=
    (dss_cons (ds_set 3 sc_L_ring.nd (de_lstM da_nil))
    (dss_cons (ds_while (dt_w (dw_or (dt_cmp oq_eq (de_var 3) (de_lst da_nil) (nomark _)) (dw_or1 (dt_cmp oq_ne (de_var 1) (de_ix (de_var 3) de_int) (nomark _))))) (dss_cons (ds_expr (de_append (de_var 3) (de_var 1)))
    (dss_one (ds_set 1 sc_L_ring.nd (de_call h_L_led (da_cons (de_var 0) (da_cons (de_var 1) (da_cons (de_if (dt_cmp oq_eq (de_var 2) de_str (nomark _)) de_str de_str) da_nil))))))))
    (dss_one (ds_ret (de_var 3)))))
def f_L_spun : QS := (qSeq (qFor (qVar 2) (gTupQ 2 (gsCons (gSet 3) (gsCons (gSet 4) gsNil))) (qIfS (qTest (qBin (opEq false) (qVar 3) (qC (.str "S")))) (qAsg (qBin opIx (qBin opIx (qVar 0) (qC (.int 0))) (qVar 1)) (gSet 1)) (qSeq (qAsg (qCall sp_L_ring (qCons (qVar 0) (qCons (qVar 1) (qCons (qVar 3) qNil)))) (gSet 5))
    (qAsg (qBin opIx (qVar 5) (qBin opMod (qVar 4) (qCallB (cLen) (qCons (qVar 5) qNil)))) (gSet 1)))))
    (qRet (qVar 1)))
theorem dd_L_spun {g : Glb} (h_L_ring : Has g "_law_ring" 2 sp_L_ring) (z_len : g.mg ("len" : Str) = none) : DSs ⟨g, N_L_spun, defScope s_L_spun, 2, none⟩ (defBody s_L_spun) f_L_spun :=
    (dss_cons (ds_for (de_var 2) (dg_tup (n := 2) (dgs_cons (dg_name 3 sc_L_spun.nd) (dgs_cons (dg_name 4 sc_L_spun.nd) dgs_nil))) (dss_one (ds_if (dt_cmp oq_eq (de_var 3) de_str (nomark _)) (dss_one (ds_set 1 sc_L_spun.nd (de_ix (de_ix (de_var 0) de_int) (de_var 1)))) (dss_cons (ds_set 5 sc_L_spun.nd (de_call h_L_ring (da_cons (de_var 0) (da_cons (de_var 1) (da_cons (de_var 3) da_nil)))))
    (dss_one (ds_set 1 sc_L_spun.nd (de_ix (de_var 5) (de_bin oq_mod (de_var 4) (de_callB cq_len rfl z_len bt_len (da_cons (de_var 5) da_nil))))))))))
    (dss_one (ds_ret (de_var 1))))
def f_L_huge : QS := (qSeq (qAsg (qC (.int 0)) (gSet 1))
    (qSeq (qForR (qCons (qBin opAdd (qC (.int 1)) (qCall sp_L_next (qCons (qVar 0) (qCons (qC (.int 10)) qNil)))) qNil) (gSet 2) (qAsg (qBin opAdd (qBin opMul (qVar 1) (qC (.int 1000000))) (qCall sp_L_next (qCons (qVar 0) (qCons (qC (.int 1000000)) qNil)))) (gSet 1)))
    (qRet (qIf (qTest (qBin (opEq false) (qCall sp_L_next (qCons (qVar 0) (qCons (qC (.int 2)) qNil))) (qC (.int 0)))) (qVar 1) (qBin opSub (qC (.int 0)) (qVar 1))))))
theorem dd_L_huge {g : Glb} (h_L_next : Has g "_law_next" 1 sp_L_next) (z_range : g.mg ("range" : Str) = none) : DSs ⟨g, N_L_huge, defScope s_L_huge, 1, none⟩ (defBody s_L_huge) f_L_huge :=
    (dss_cons (ds_set 1 sc_L_huge.nd de_int)
    (dss_cons (ds_forR rfl z_range (da_cons (de_bin oq_add de_int (de_call h_L_next (da_cons (de_var 0) (da_cons de_int da_nil)))) da_nil) (dg_name 2 sc_L_huge.nd) (dss_one (ds_set 1 sc_L_huge.nd (de_bin oq_add (de_bin oq_mul (de_var 1) de_int) (de_call h_L_next (da_cons (de_var 0) (da_cons de_int da_nil)))))))
    (dss_one (ds_ret (de_if (dt_cmp oq_eq (de_call h_L_next (da_cons (de_var 0) (da_cons de_int da_nil))) de_int (nomark _)) (de_var 1) (de_bin oq_sub de_int (de_var 1)))))))
def f_L_spins : QS := (qSeq (qAsg (qLstM qNil) (gSet 1))
    (qSeq (qForR (qCons (qBin opAdd (qC (.int 1)) (qCall sp_L_next (qCons (qVar 0) (qCons (qC (.int 5)) qNil)))) qNil) (gSet 2) (qSeq (qAsg (qBin opIx (qLst (qCons (qC (.str "T")) (qCons (qC (.str "F")) (qCons (qC (.str "S")) qNil)))) (qCall sp_L_next (qCons (qVar 0) (qCons (qC (.int 3)) qNil)))) (gSet 3))
    (qSeq (qAsg (qIf (qTest (qBin (opEq false) (qCall sp_L_next (qCons (qVar 0) (qCons (qC (.int 2)) qNil))) (qC (.int 0)))) (qCall sp_L_huge (qCons (qVar 0) qNil)) (qBin opSub (qCall sp_L_next (qCons (qVar 0) (qCons (qC (.int 9)) qNil))) (qC (.int 4)))) (gSet 4))
    (qDrop (qApp (qVar 1) (qTup (qCons (qVar 3) (qCons (qIf (qTest (qBin (opEq false) (qVar 3) (qC (.str "S")))) (qC (.int 1)) (qVar 4)) qNil))))))))
    (qRet (qVar 1))))
theorem dd_L_spins {g : Glb} (h_L_huge : Has g "_law_huge" 2 sp_L_huge) (h_L_next : Has g "_law_next" 1 sp_L_next) (z_range : g.mg ("range" : Str) = none) : DSs ⟨g, N_L_spins, defScope s_L_spins, 2, none⟩ (defBody s_L_spins) f_L_spins :=
    (dss_cons (ds_set 1 sc_L_spins.nd (de_lstM da_nil))
    (dss_cons (ds_forR rfl z_range (da_cons (de_bin oq_add de_int (de_call h_L_next (da_cons (de_var 0) (da_cons de_int da_nil)))) da_nil) (dg_name 2 sc_L_spins.nd) (dss_cons (ds_set 3 sc_L_spins.nd (de_ix (de_lst (da_cons de_str (da_cons de_str (da_cons de_str da_nil)))) (de_call h_L_next (da_cons (de_var 0) (da_cons de_int da_nil)))))
    (dss_cons (ds_set 4 sc_L_spins.nd (de_if (dt_cmp oq_eq (de_call h_L_next (da_cons (de_var 0) (da_cons de_int da_nil))) de_int (nomark _)) (de_call h_L_huge (da_cons (de_var 0) da_nil)) (de_bin oq_sub (de_call h_L_next (da_cons (de_var 0) (da_cons de_int da_nil))) de_int)))
    (dss_one (ds_expr (de_append (de_var 1) (de_tup (da_cons (de_var 3) (da_cons (de_if (dt_cmp oq_eq (de_var 3) de_str (nomark _)) de_int (de_var 4)) da_nil)))))))))
    (dss_one (ds_ret (de_var 1)))))
def f_L_spun_matrix : QS := (qSeq (qAsg (qTup (qCons (qTup (qCons (qC (.int 1)) (qCons (qC (.int 0)) qNil))) (qCons (qTup (qCons (qC (.int 0)) (qCons (qC (.int 1)) qNil))) qNil))) (gSet 1))
    (qSeq (qFor (qVar 0) (gTupQ 2 (gsCons (gSet 2) (gsCons (gSet 3) gsNil))) (qIfS (qTest (qBin (opEq false) (qVar 2) (qC (.str "S")))) (qAsg (qCall sp_L_times (qCons (qVar 1) (qCons (qTup (qCons (qTup (qCons (qC (.int 0)) (qCons (qNeg (qC (.int 1))) qNil))) (qCons (qTup (qCons (qC (.int 1)) (qCons (qC (.int 0)) qNil))) qNil))) qNil))) (gSet 1)) (qAsg (qCall sp_L_times (qCons (qVar 1) (qCons (qIf (qTest (qBin (opEq false) (qVar 2) (qC (.str "T")))) (qTup (qCons (qTup (qCons (qC (.int 1)) (qCons (qVar 3) qNil))) (qCons (qTup (qCons (qC (.int 0)) (qCons (qC (.int 1)) qNil))) qNil))) (qTup (qCons (qTup (qCons (qC (.int 1)) (qCons (qC (.int 0)) qNil))) (qCons (qTup (qCons (qVar 3) (qCons (qC (.int 1)) qNil))) qNil)))) qNil))) (gSet 1))))
    (qRet (qVar 1))))
theorem dd_L_spun_matrix {g : Glb} (h_L_times : Has g "_law_times" 2 sp_L_times) : DSs ⟨g, N_L_spun_matrix, defScope s_L_spun_matrix, 2, none⟩ (defBody s_L_spun_matrix) f_L_spun_matrix :=
    (dss_cons (ds_set 1 sc_L_spun_matrix.nd (de_tup (da_cons (de_tup (da_cons de_int (da_cons de_int da_nil))) (da_cons (de_tup (da_cons de_int (da_cons de_int da_nil))) da_nil))))
    (dss_cons (ds_for (de_var 0) (dg_tup (n := 2) (dgs_cons (dg_name 2 sc_L_spun_matrix.nd) (dgs_cons (dg_name 3 sc_L_spun_matrix.nd) dgs_nil))) (dss_one (ds_if (dt_cmp oq_eq (de_var 2) de_str (nomark _)) (dss_one (ds_set 1 sc_L_spun_matrix.nd (de_call h_L_times (da_cons (de_var 1) (da_cons (de_tup (da_cons (de_tup (da_cons de_int (da_cons (de_neg de_int) da_nil))) (da_cons (de_tup (da_cons de_int (da_cons de_int da_nil))) da_nil))) da_nil))))) (dss_one (ds_set 1 sc_L_spun_matrix.nd (de_call h_L_times (da_cons (de_var 1) (da_cons (de_if (dt_cmp oq_eq (de_var 2) de_str (nomark _)) (de_tup (da_cons (de_tup (da_cons de_int (da_cons (de_var 3) da_nil))) (da_cons (de_tup (da_cons de_int (da_cons de_int da_nil))) da_nil))) (de_tup (da_cons (de_tup (da_cons de_int (da_cons de_int da_nil))) (da_cons (de_tup (da_cons (de_var 3) (da_cons de_int da_nil))) da_nil)))) da_nil))))))))
    (dss_one (ds_ret (de_var 1)))))
def f_L_source : QS := (qSeq (qAsg (qIf (qTest (qBin (opEq true) (qVar 0) (qLst qNil))) (qBin opIx (qVar 0) (qBin opMod (qVar 1) (qCallB (cLen) (qCons (qVar 0) qNil)))) (qC (.int 1))) (gSet 2))
    (qRet (qLstM (qCons (qVar 2) (qCons (qBin opMul (qC (.int 3)) (qVar 1)) (qCons (qIf (qTest (qBin opGe (qVar 2) (qBin opPow (qC (.int 10)) (qC (.int 18))))) (qBin opDiv (qVar 2) (qBin opPow (qC (.int 10)) (qC (.int 18)))) (qC (.int 0))) qNil))))))
theorem dd_L_source {g : Glb} (z_len : g.mg ("len" : Str) = none) : DSs ⟨g, N_L_source, defScope s_L_source, 0, none⟩ (defBody s_L_source) f_L_source :=
    (dss_cons (ds_set 2 sc_L_source.nd (de_if (dt_cmp oq_ne (de_var 0) (de_lst da_nil) (nomark _)) (de_ix (de_var 0) (de_bin oq_mod (de_var 1) (de_callB cq_len rfl z_len bt_len (da_cons (de_var 0) da_nil)))) de_int))
    (dss_one (ds_ret (de_lstM (da_cons (de_var 2) (da_cons (de_bin oq_mul de_int (de_var 1)) (da_cons (de_if (dt_cmp oq_ge (de_var 2) (de_bin oq_pow de_int de_int) (nomark _)) (de_bin oq_div (de_var 2) (de_bin oq_pow de_int de_int)) de_int) da_nil)))))))
def f_L_next : QS := (qSeq (qIfS (qTest (qBin opGt (qBin opIx (qVar 0) (qC (.int 2))) (qC (.int 0)))) (qSeq (qAsg (qBin opMod (qBin opIx (qVar 0) (qC (.int 2))) (qVar 1)) (gSet 2))
    (qSeq (qAsg (qBin opDiv (qBin opIx (qVar 0) (qC (.int 2))) (qVar 1)) (gItem (qVar 0) (qC (.int 2))))
    (qRet (qVar 2)))) qNext)
    (qSeq (qAsg (qBin opAdd (qBin opIx (qVar 0) (qC (.int 1))) (qC (.int 1))) (gItem (qVar 0) (qC (.int 1))))
    (qSeq (qAsg (qLst (qCons (qC (.int 2147483647)) (qCons (qC (.int 2147483629)) (qCons (qC (.int 2147483587)) (qCons (qC (.int 2147483579)) (qCons (qC (.int 2147483563)) (qCons (qC (.int 2147483549)) (qCons (qC (.int 2147483543)) (qCons (qC (.int 2147483497)) qNil))))))))) (gSet 3))
    (qSeq (qAsg (qBin opIx (qBin opAdd (qVar 3) (qLst (qCons (qC (.int 2147483489)) (qCons (qC (.int 2147483477)) (qCons (qC (.int 2147483423)) qNil))))) (qBin opMod (qBin opIx (qVar 0) (qC (.int 1))) (qC (.int 11)))) (gSet 4))
    (qRet (qBin opMod (qBin opDiv (qBin opMod (qBin opPow (qBin opAdd (qBin opAdd (qBin opMod (qBin opIx (qVar 0) (qC (.int 0))) (qVar 4)) (qBin opMul (qC (.int 7919)) (qBin opIx (qVar 0) (qC (.int 1))))) (qC (.int 1))) (qC (.int 5))) (qVar 4)) (qC (.int 13))) (qVar 1)))))))
theorem dd_L_next {g : Glb}  : DSs ⟨g, N_L_next, defScope s_L_next, 0, none⟩ (defBody s_L_next) f_L_next :=
    (dss_cons (ds_if (dt_cmp oq_gt (de_ix (de_var 0) de_int) de_int (nomark _)) (dss_cons (ds_set 2 sc_L_next.nd (de_bin oq_mod (de_ix (de_var 0) de_int) (de_var 1)))
    (dss_cons (ds_asg (de_bin oq_div (de_ix (de_var 0) de_int) (de_var 1)) (dg_item (de_var 0) de_int))
    (dss_one (ds_ret (de_var 2))))) dss_nil)
    (dss_cons (ds_asg (de_bin oq_add (de_ix (de_var 0) de_int) de_int) (dg_item (de_var 0) de_int))
    (dss_cons (ds_set 3 sc_L_next.nd (de_lst (da_cons de_int (da_cons de_int (da_cons de_int (da_cons de_int (da_cons de_int (da_cons de_int (da_cons de_int (da_cons de_int da_nil))))))))))
    (dss_cons (ds_set 4 sc_L_next.nd (de_ix (de_bin oq_add (de_var 3) (de_lst (da_cons de_int (da_cons de_int (da_cons de_int da_nil))))) (de_bin oq_mod (de_ix (de_var 0) de_int) de_int)))
    (dss_one (ds_ret (de_bin oq_mod (de_bin oq_div (de_bin oq_mod (de_bin oq_pow (de_bin oq_add (de_bin oq_add (de_bin oq_mod (de_ix (de_var 0) de_int) (de_var 4)) (de_bin oq_mul de_int (de_ix (de_var 0) de_int))) de_int) de_int) (de_var 4)) de_int) (de_var 1))))))))
def f_L_mixed : QS := (qSeq (qPar 2 3 (qCons (qCallB (cListM) (qCons (qVar 1) qNil)) (qCons (qLstM qNil) qNil)))
    (qSeq (qWhile (qTest (qBin (opEq true) (qVar 2) (qLst qNil))) (qDrop (qApp (qVar 3) (qPopAt (qVar 2) (qCall sp_L_next (qCons (qVar 0) (qCons (qCallB (cLen) (qCons (qVar 2) qNil)) qNil)))))))
    (qRet (qVar 3))))
theorem dd_L_mixed {g : Glb} (h_L_next : Has g "_law_next" 1 sp_L_next) (z_len : g.mg ("len" : Str) = none) (z_list : g.mg ("list" : Str) = none) : DSs ⟨g, N_L_mixed, defScope s_L_mixed, 1, none⟩ (defBody s_L_mixed) f_L_mixed :=
    (dss_cons (ds_par (i := 2) (j := 3) sc_L_mixed.nd rfl rfl (by decide) rfl rfl (da_cons (de_callTy cq_listM rfl z_list bt_list (da_cons (de_var 1) da_nil)) (da_cons (de_lstM da_nil) da_nil)) (by intro env h; obtain ⟨⟩ := env; dsimp only at h; subst h; rfl))
    (dss_cons (ds_while (dt_cmp oq_ne (de_var 2) (de_lst da_nil) (nomark _)) (dss_one (ds_expr (de_append (de_var 3) (de_popAt (de_var 2) (de_call h_L_next (da_cons (de_var 0) (da_cons (de_callB cq_len rfl z_len bt_len (da_cons (de_var 2) da_nil)) da_nil))))))))
    (dss_one (ds_ret (de_var 3)))))
def f_L_signed : QS := (qSeq (qAsg (qVar 0) (gTupQ 2 (gsCons (gTupQ 2 (gsCons (gSet 1) (gsCons (gSet 2) gsNil))) (gsCons (gTupQ 2 (gsCons (gSet 3) (gsCons (gSet 4) gsNil))) gsNil))))
    (qRet (qIf (qOrT (qTest (qBin opGt (qVar 3) (qC (.int 0)))) (qAndT (qTest (qBin (opEq false) (qVar 3) (qC (.int 0)))) (qTest (qBin opGt (qVar 1) (qC (.int 0)))))) (qTup (qCons (qTup (qCons (qVar 1) (qCons (qVar 2) qNil))) (qCons (qTup (qCons (qVar 3) (qCons (qVar 4) qNil))) qNil))) (qTup (qCons (qTup (qCons (qBin opSub (qC (.int 0)) (qVar 1)) (qCons (qBin opSub (qC (.int 0)) (qVar 2)) qNil))) (qCons (qTup (qCons (qBin opSub (qC (.int 0)) (qVar 3)) (qCons (qBin opSub (qC (.int 0)) (qVar 4)) qNil))) qNil))))))
theorem dd_L_signed {g : Glb}  : DSs ⟨g, N_L_signed, defScope s_L_signed, 0, none⟩ (defBody s_L_signed) f_L_signed :=
    (dss_cons (ds_asg (de_var 0) (dg_tup (n := 2) (dgs_cons (dg_tup (n := 2) (dgs_cons (dg_name 1 sc_L_signed.nd) (dgs_cons (dg_name 2 sc_L_signed.nd) dgs_nil))) (dgs_cons (dg_tup (n := 2) (dgs_cons (dg_name 3 sc_L_signed.nd) (dgs_cons (dg_name 4 sc_L_signed.nd) dgs_nil))) dgs_nil))))
    (dss_one (ds_ret (de_if (dt_w (dw_or (dt_cmp oq_gt (de_var 3) de_int (nomark _)) (dw_or1 (dt_w (dw_and (dt_cmp oq_eq (de_var 3) de_int (nomark _)) (dw_and1 (dt_cmp oq_gt (de_var 1) de_int (nomark _)))))))) (de_tup (da_cons (de_tup (da_cons (de_var 1) (da_cons (de_var 2) da_nil))) (da_cons (de_tup (da_cons (de_var 3) (da_cons (de_var 4) da_nil))) da_nil))) (de_tup (da_cons (de_tup (da_cons (de_bin oq_sub de_int (de_var 1)) (da_cons (de_bin oq_sub de_int (de_var 2)) da_nil))) (da_cons (de_tup (da_cons (de_bin oq_sub de_int (de_var 3)) (da_cons (de_bin oq_sub de_int (de_var 4)) da_nil))) da_nil)))))))
def f_L_times : QS := (qSeq (qAsg (qVar 0) (gTupQ 2 (gsCons (gTupQ 2 (gsCons (gSet 2) (gsCons (gSet 3) gsNil))) (gsCons (gTupQ 2 (gsCons (gSet 4) (gsCons (gSet 5) gsNil))) gsNil))))
    (qSeq (qAsg (qVar 1) (gTupQ 2 (gsCons (gTupQ 2 (gsCons (gSet 6) (gsCons (gSet 7) gsNil))) (gsCons (gTupQ 2 (gsCons (gSet 8) (gsCons (gSet 9) gsNil))) gsNil))))
    (qRet (qCall sp_L_signed (qCons (qTup (qCons (qTup (qCons (qBin opAdd (qBin opMul (qVar 2) (qVar 6)) (qBin opMul (qVar 3) (qVar 8))) (qCons (qBin opAdd (qBin opMul (qVar 2) (qVar 7)) (qBin opMul (qVar 3) (qVar 9))) qNil))) (qCons (qTup (qCons (qBin opAdd (qBin opMul (qVar 4) (qVar 6)) (qBin opMul (qVar 5) (qVar 8))) (qCons (qBin opAdd (qBin opMul (qVar 4) (qVar 7)) (qBin opMul (qVar 5) (qVar 9))) qNil))) qNil))) qNil)))))
theorem dd_L_times {g : Glb} (h_L_signed : Has g "_law_signed" 1 sp_L_signed) : DSs ⟨g, N_L_times, defScope s_L_times, 1, none⟩ (defBody s_L_times) f_L_times :=
    (dss_cons (ds_asg (de_var 0) (dg_tup (n := 2) (dgs_cons (dg_tup (n := 2) (dgs_cons (dg_name 2 sc_L_times.nd) (dgs_cons (dg_name 3 sc_L_times.nd) dgs_nil))) (dgs_cons (dg_tup (n := 2) (dgs_cons (dg_name 4 sc_L_times.nd) (dgs_cons (dg_name 5 sc_L_times.nd) dgs_nil))) dgs_nil))))
    (dss_cons (ds_asg (de_var 1) (dg_tup (n := 2) (dgs_cons (dg_tup (n := 2) (dgs_cons (dg_name 6 sc_L_times.nd) (dgs_cons (dg_name 7 sc_L_times.nd) dgs_nil))) (dgs_cons (dg_tup (n := 2) (dgs_cons (dg_name 8 sc_L_times.nd) (dgs_cons (dg_name 9 sc_L_times.nd) dgs_nil))) dgs_nil))))
    (dss_one (ds_ret (de_call h_L_signed (da_cons (de_tup (da_cons (de_tup (da_cons (de_bin oq_add (de_bin oq_mul (de_var 2) (de_var 6)) (de_bin oq_mul (de_var 3) (de_var 8))) (da_cons (de_bin oq_add (de_bin oq_mul (de_var 2) (de_var 7)) (de_bin oq_mul (de_var 3) (de_var 9))) da_nil))) (da_cons (de_tup (da_cons (de_bin oq_add (de_bin oq_mul (de_var 4) (de_var 6)) (de_bin oq_mul (de_var 5) (de_var 8))) (da_cons (de_bin oq_add (de_bin oq_mul (de_var 4) (de_var 7)) (de_bin oq_mul (de_var 5) (de_var 9))) da_nil))) da_nil))) da_nil))))))
def f_L_back : QS := (qSeq (qAsg (qVar 0) (gTupQ 2 (gsCons (gTupQ 2 (gsCons (gSet 1) (gsCons (gSet 2) gsNil))) (gsCons (gTupQ 2 (gsCons (gSet 3) (gsCons (gSet 4) gsNil))) gsNil))))
    (qRet (qCall sp_L_signed (qCons (qTup (qCons (qTup (qCons (qVar 4) (qCons (qBin opSub (qC (.int 0)) (qVar 2)) qNil))) (qCons (qTup (qCons (qBin opSub (qC (.int 0)) (qVar 3)) (qCons (qVar 1) qNil))) qNil))) qNil))))
theorem dd_L_back {g : Glb} (h_L_signed : Has g "_law_signed" 1 sp_L_signed) : DSs ⟨g, N_L_back, defScope s_L_back, 1, none⟩ (defBody s_L_back) f_L_back :=
    (dss_cons (ds_asg (de_var 0) (dg_tup (n := 2) (dgs_cons (dg_tup (n := 2) (dgs_cons (dg_name 1 sc_L_back.nd) (dgs_cons (dg_name 2 sc_L_back.nd) dgs_nil))) (dgs_cons (dg_tup (n := 2) (dgs_cons (dg_name 3 sc_L_back.nd) (dgs_cons (dg_name 4 sc_L_back.nd) dgs_nil))) dgs_nil))))
    (dss_one (ds_ret (de_call h_L_signed (da_cons (de_tup (da_cons (de_tup (da_cons (de_var 4) (da_cons (de_bin oq_sub de_int (de_var 2)) da_nil))) (da_cons (de_tup (da_cons (de_bin oq_sub de_int (de_var 3)) (da_cons (de_var 1) da_nil))) da_nil))) da_nil)))))
def f_L_floor : QS := (qSeq (qPar3 2 3 4 (qCons (qLstM qNil) (qCons (qLst qNil) (qCons (qLstM qNil) qNil))))
    (qSeq (qForR (qCons (qBin opAdd (qC (.int 1)) (qCall sp_L_next (qCons (qVar 0) (qCons (qVar 1) qNil)))) qNil) (gSet 5) (qSeq (qAsg (qTup (qCons (qCallB (cLen) (qCons (qVar 3) qNil)) (qCons (qIf (qTest (qBin (opEq false) (qCall sp_L_next (qCons (qVar 0) (qCons (qC (.int 4)) qNil))) (qC (.int 0)))) (qC (.int 1)) (qC (.int 3))) qNil))) (gTupQ 2 (gsCons (gSet 7) (gsCons (gSet 8) gsNil))))
    (qSeq (qAsg (qLc (iRg (qCons (qVar 8) qNil)) (.one 10) qYes (qBin opAdd (qVar 7) (qVar 10)) [10]) (gSet 6))
    (qSeq (qIfS (qAndT (qTest (qBin opGt (qVar 5) (qC (.int 0)))) (qTest (qBin (opEq false) (qVar 4) (qLst qNil)))) (fun d τ M => d.bk τ M) qNext)
    (qSeq (qPar 3 2 (qCons (qBin opAdd (qBin opAdd (qVar 3) (qCutL (qVar 6) (oSome (qC (.int 1))) oNone)) (qCutL (qVar 6) oNone (oSome (qC (.int 1))))) (qCons (qBin opAddM (qVar 2) (qVar 6)) qNil)))
    (qSeq (qIfS (qTest (qBin opGt (qVar 5) (qC (.int 0)))) (qSeq (qAsg (qPopAt (qVar 4) (qCall sp_L_next (qCons (qVar 0) (qCons (qCallB (cLen) (qCons (qVar 4) qNil)) qNil)))) (gSet 9))
    (qSeq (qAsg (qTup (qCons (qVar 7) (qCons (qVar 9) qNil))) (gTupQ 2 (gsCons (gItem (qVar 2) (qVar 9)) (gsCons (gItem (qVar 2) (qVar 7)) gsNil))))
    (qAsg (qCutL (qVar 6) (oSome (qC (.int 1))) oNone) (gSet 6)))) qNext)
    (qAsg (qBin opAddM (qVar 4) (qVar 6)) (gSet 4))))))))
    (qSeq (qWhile (qTest (qBin opGt (qCallB (cLen) (qCons (qVar 4) qNil)) (qC (.int 1)))) (qSeq (qAsg (qPopAt (qVar 4) (qCall sp_L_next (qCons (qVar 0) (qCons (qCallB (cLen) (qCons (qVar 4) qNil)) qNil)))) (gSet 11))
    (qIfS (qTest (qBin opGt (qCall sp_L_next (qCons (qVar 0) (qCons (qC (.int 3)) qNil))) (qC (.int 0)))) (qSeq (qAsg (qPopAt (qVar 4) (qCall sp_L_next (qCons (qVar 0) (qCons (qCallB (cLen) (qCons (qVar 4) qNil)) qNil)))) (gSet 12))
    (qAsg (qTup (qCons (qVar 12) (qCons (qVar 11) qNil))) (gTupQ 2 (gsCons (gItem (qVar 2) (qVar 11)) (gsCons (gItem (qVar 2) (qVar 12)) gsNil))))) qNext)))
    (qRet (qCall sp_L_renamed (qCons (qTup (qCons (qVar 2) (qCons (qVar 3) qNil))) (qCons (qCall sp_L_mixed (qCons (qVar 0) (qCons (qLrg (qCons (qCallB (cLen) (qCons (qVar 3) qNil)) qNil)) qNil))) qNil)))))))
theorem dd_L_floor {g : Glb} (h_L_next : Has g "_law_next" 1 sp_L_next) (h_L_mixed : Has g "_law_mixed" 2 sp_L_mixed) (h_L_renamed : Has g "_law_renamed" 1 sp_L_renamed) (z_len : g.mg ("len" : Str) = none) (z_list : g.mg ("list" : Str) = none) (z_range : g.mg ("range" : Str) = none) : DSs ⟨g, N_L_floor, defScope s_L_floor, 2, none⟩ (defBody s_L_floor) f_L_floor :=
    (dss_cons (ds_par3 (i := 2) (j := 3) (l := 4) sc_L_floor.nd rfl rfl rfl (by decide) (by decide) (by decide) rfl rfl rfl (da_cons (de_lstM da_nil) (da_cons (de_lst da_nil) (da_cons (de_lstM da_nil) da_nil))) (by intro env h; obtain ⟨⟩ := env; dsimp only at h; subst h; rfl))
    (dss_cons (ds_forR rfl z_range (da_cons (de_bin oq_add de_int (de_call h_L_next (da_cons (de_var 0) (da_cons (de_var 1) da_nil)))) da_nil) (dg_name 5 sc_L_floor.nd) (dss_cons (ds_asg (de_tup (da_cons (de_callB cq_len rfl z_len bt_len (da_cons (de_var 3) da_nil)) (da_cons (de_if (dt_cmp oq_eq (de_call h_L_next (da_cons (de_var 0) (da_cons de_int da_nil))) de_int (nomark _)) de_int de_int) da_nil))) (dg_tup (n := 2) (dgs_cons (dg_name 7 sc_L_floor.nd) (dgs_cons (dg_name 8 sc_L_floor.nd) dgs_nil))) (hw := (by intro env h; obtain ⟨⟩ := env; dsimp only at h; subst h; rfl)))
    (dss_cons (ds_setLc 6 (own := [("_law_k", 10)]) (tg := (.one 10)) sc_L_floor.nd (di_range rfl z_range (da_cons (de_var 8) da_nil)) (blkOk_by (N := N_L_floor) (sc := defScope s_L_floor) (by decide +kernel)) rfl (dgb_one 10 sc_L_floor.nd) dts_nil (de_bin oq_add (de_var 7) (de_var 10)))
    (dss_cons (ds_if (dt_w (dw_and (dt_cmp oq_gt (de_var 5) de_int (nomark _)) (dw_and1 (dt_cmp oq_eq (de_var 4) (de_lst da_nil) (nomark _))))) (dss_one ds_break) dss_nil)
    (dss_cons (ds_par (i := 3) (j := 2) sc_L_floor.nd rfl rfl (by decide) rfl rfl (da_cons (de_bin oq_add (de_bin oq_add (de_var 3) (de_cutL (de_var 6) (do_some de_int) do_none)) (de_cutL (de_var 6) do_none (do_some de_int))) (da_cons (de_bin oq_addM (de_var 2) (de_var 6)) da_nil)) (by intro env h; obtain ⟨⟩ := env; dsimp only at h; subst h; rfl))
    (dss_cons (ds_if (dt_cmp oq_gt (de_var 5) de_int (nomark _)) (dss_cons (ds_set 9 sc_L_floor.nd (de_popAt (de_var 4) (de_call h_L_next (da_cons (de_var 0) (da_cons (de_callB cq_len rfl z_len bt_len (da_cons (de_var 4) da_nil)) da_nil)))))
    (dss_cons (ds_asg (de_tup (da_cons (de_var 7) (da_cons (de_var 9) da_nil))) (dg_tup (n := 2) (dgs_cons (dg_item (de_var 2) (de_var 9)) (dgs_cons (dg_item (de_var 2) (de_var 7)) dgs_nil))) (hw := (by intro env h; obtain ⟨⟩ := env; dsimp only at h; subst h; rfl)))
    (dss_one (ds_set 6 sc_L_floor.nd (de_cutL (de_var 6) (do_some de_int) do_none))))) dss_nil)
    (dss_one (ds_set 4 sc_L_floor.nd (de_bin oq_addM (de_var 4) (de_var 6))))))))))
    (dss_cons (ds_while (dt_cmp oq_gt (de_callB cq_len rfl z_len bt_len (da_cons (de_var 4) da_nil)) de_int (nomark _)) (dss_cons (ds_set 11 sc_L_floor.nd (de_popAt (de_var 4) (de_call h_L_next (da_cons (de_var 0) (da_cons (de_callB cq_len rfl z_len bt_len (da_cons (de_var 4) da_nil)) da_nil)))))
    (dss_one (ds_if (dt_cmp oq_gt (de_call h_L_next (da_cons (de_var 0) (da_cons de_int da_nil))) de_int (nomark _)) (dss_cons (ds_set 12 sc_L_floor.nd (de_popAt (de_var 4) (de_call h_L_next (da_cons (de_var 0) (da_cons (de_callB cq_len rfl z_len bt_len (da_cons (de_var 4) da_nil)) da_nil)))))
    (dss_one (ds_asg (de_tup (da_cons (de_var 12) (da_cons (de_var 11) da_nil))) (dg_tup (n := 2) (dgs_cons (dg_item (de_var 2) (de_var 11)) (dgs_cons (dg_item (de_var 2) (de_var 12)) dgs_nil))) (hw := (by intro env h; obtain ⟨⟩ := env; dsimp only at h; subst h; rfl))))) dss_nil))))
    (dss_one (ds_ret (de_call h_L_renamed (da_cons (de_tup (da_cons (de_var 2) (da_cons (de_var 3) da_nil))) (da_cons (de_call h_L_mixed (da_cons (de_var 0) (da_cons (de_listRg rfl z_list rfl z_range (de_callB cq_len rfl z_len bt_len (da_cons (de_var 3) da_nil))) da_nil))) da_nil))))))))
def f_L_renamed : QS := (qSeq (qAsg (qVar 0) (gTupQ 2 (gsCons (gSet 2) (gsCons (gSet 3) gsNil))))
    (qSeq (qAsg (qTup (qCons (qBin opMulM (qLst (qCons (qC (.int 0)) qNil)) (qCallB (cLen) (qCons (qVar 1) qNil))) (qCons (qBin opMulM (qLst (qCons (qC (.int 0)) qNil)) (qCallB (cLen) (qCons (qVar 1) qNil))) qNil))) (gSet 4))
    (qSeq (qForI (iEnm (qCons (qVar 1) qNil)) (gTupQ 2 (gsCons (gSet 5) (gsCons (gSet 6) gsNil))) (qSeq (qAsg (qBin opIx (qVar 1) (qBin opIx (qVar 2) (qVar 5))) (gItem (qBin opIx (qVar 4) (qC (.int 0))) (qVar 6)))
    (qAsg (qBin opIx (qVar 1) (qBin opIx (qVar 3) (qVar 5))) (gItem (qBin opIx (qVar 4) (qC (.int 1))) (qVar 6)))))
    (qRet (qTup (qCons (qCallB (cTupX) (qCons (qBin opIx (qVar 4) (qC (.int 0))) qNil)) (qCons (qCallB (cTupX) (qCons (qBin opIx (qVar 4) (qC (.int 1))) qNil)) qNil)))))))
theorem dd_L_renamed {g : Glb} (z_enumerate : g.mg ("enumerate" : Str) = none) (z_len : g.mg ("len" : Str) = none) (z_tuple : g.mg ("tuple" : Str) = none) : DSs ⟨g, N_L_renamed, defScope s_L_renamed, 0, none⟩ (defBody s_L_renamed) f_L_renamed :=
    (dss_cons (ds_asg (de_var 0) (dg_tup (n := 2) (dgs_cons (dg_name 2 sc_L_renamed.nd) (dgs_cons (dg_name 3 sc_L_renamed.nd) dgs_nil))))
    (dss_cons (ds_set 4 sc_L_renamed.nd (de_tup (da_cons (de_bin oq_mulM (de_lst (da_cons de_int da_nil)) (de_callB cq_len rfl z_len bt_len (da_cons (de_var 1) da_nil))) (da_cons (de_bin oq_mulM (de_lst (da_cons de_int da_nil)) (de_callB cq_len rfl z_len bt_len (da_cons (de_var 1) da_nil))) da_nil))))
    (dss_cons (ds_forI (di_enum rfl z_enumerate (da_cons (de_var 1) da_nil)) (dg_tup (n := 2) (dgs_cons (dg_name 5 sc_L_renamed.nd) (dgs_cons (dg_name 6 sc_L_renamed.nd) dgs_nil))) (dss_cons (ds_asg (de_ix (de_var 1) (de_ix (de_var 2) (de_var 5))) (dg_item (de_ix (de_var 4) de_int) (de_var 6)))
    (dss_one (ds_asg (de_ix (de_var 1) (de_ix (de_var 3) (de_var 5))) (dg_item (de_ix (de_var 4) de_int) (de_var 6))))))
    (dss_one (ds_ret (de_tup (da_cons (de_callTy cq_tupx rfl z_tuple bt_tuple (da_cons (de_ix (de_var 4) de_int) da_nil)) (da_cons (de_callTy cq_tupx rfl z_tuple bt_tuple (da_cons (de_ix (de_var 4) de_int) da_nil)) da_nil))))))))
def f_L_led : QS := (qSeq (qForT (qVar 2) (gSet 3) (qIfS (qTest (qBin (opEq false) (qVar 3) (qC (.str "S")))) (qAsg (qBin opIx (qBin opIx (qVar 0) (qC (.int 0))) (qVar 1)) (gSet 1)) (qAsg (qIf (qTest (qBin (opEq false) (qVar 3) (qC (.str "R")))) (qBin opIx (qBin opIx (qVar 0) (qC (.int 1))) (qVar 1)) (qTix (qBin opIx (qVar 0) (qC (.int 1))) (qVar 1))) (gSet 1))))
    (qRet (qVar 1)))
theorem dd_L_led {g : Glb}  : DSs ⟨g, N_L_led, defScope s_L_led, 0, none⟩ (defBody s_L_led) f_L_led :=
    (dss_cons (ds_forT (de_var 2) (dg_name 3 sc_L_led.nd) (dss_one (ds_if (dt_cmp oq_eq (de_var 3) de_str (nomark _)) (dss_one (ds_set 1 sc_L_led.nd (de_ix (de_ix (de_var 0) de_int) (de_var 1)))) (dss_one (ds_set 1 sc_L_led.nd (de_if (dt_cmp oq_eq (de_var 3) de_str (nomark _)) (de_ix (de_ix (de_var 0) de_int) (de_var 1)) (de_tix (de_ix (de_var 0) de_int) (de_var 1))))))))
    (dss_one (ds_ret (de_var 1))))
def f_L_spins_right : QS := (qSeq (qPar 2 3 (qCons (qCall sp_L_spins (qCons (qVar 0) qNil)) (qCons (qCall sp_L_next (qCons (qVar 0) (qCons (qCallB (cLen) (qCons (qBin opIx (qVar 1) (qC (.int 0))) qNil)) qNil))) qNil)))
    (qSeq (qPar 4 5 (qCons (qCall sp_L_spun_matrix (qCons (qVar 2) qNil)) (qCons (qCall sp_L_spun (qCons (qVar 1) (qCons (qVar 3) (qCons (qVar 2) qNil)))) qNil)))
    (qRet (qBin (opEq false) (qCallB (cReprD) (qCons (qLst (qCons (qCall sp_lead (qCons (qVar 1) (qCons (qVar 3) (qCons (qVar 4) qNil)))) (qCons (qCall sp_lead (qCons (qVar 1) (qCons (qVar 5) (qCons (qCall sp_L_back (qCons (qVar 4) qNil)) qNil)))) qNil))) qNil)) (qCallB (cReprD) (qCons (qLst (qCons (qVar 5) (qCons (qVar 3) qNil))) qNil))))))
theorem dd_L_spins_right {g : Glb} (h_lead : Has g "lead" 7 sp_lead) (h_L_spun : Has g "_law_spun" 3 sp_L_spun) (h_L_spins : Has g "_law_spins" 3 sp_L_spins) (h_L_spun_matrix : Has g "_law_spun_matrix" 3 sp_L_spun_matrix) (h_L_next : Has g "_law_next" 1 sp_L_next) (h_L_back : Has g "_law_back" 2 sp_L_back) (z_gd : g.gd = true) (z_len : g.mg ("len" : Str) = none) (z_repr : g.mg ("repr" : Str) = none) : DSs ⟨g, N_L_spins_right, defScope s_L_spins_right, 7, none⟩ (defBody s_L_spins_right) f_L_spins_right :=
    (dss_cons (ds_par (i := 2) (j := 3) sc_L_spins_right.nd rfl rfl (by decide) rfl rfl (da_cons (de_call h_L_spins (da_cons (de_var 0) da_nil)) (da_cons (de_call h_L_next (da_cons (de_var 0) (da_cons (de_callB cq_len rfl z_len bt_len (da_cons (de_ix (de_var 1) de_int) da_nil)) da_nil))) da_nil)) (by intro env h; obtain ⟨⟩ := env; dsimp only at h; subst h; rfl))
    (dss_cons (ds_par (i := 4) (j := 5) sc_L_spins_right.nd rfl rfl (by decide) rfl rfl (da_cons (de_call h_L_spun_matrix (da_cons (de_var 2) da_nil)) (da_cons (de_call h_L_spun (da_cons (de_var 1) (da_cons (de_var 3) (da_cons (de_var 2) da_nil)))) da_nil)) (by intro env h; obtain ⟨⟩ := env; dsimp only at h; subst h; rfl))
    (dss_one (ds_ret (de_cmp oq_eq (de_callB (cq_reprD z_gd) rfl z_repr bt_repr (da_cons (de_lst (da_cons (de_call h_lead (da_cons (de_var 1) (da_cons (de_var 3) (da_cons (de_var 4) da_nil)))) (da_cons (de_call h_lead (da_cons (de_var 1) (da_cons (de_var 5) (da_cons (de_call h_L_back (da_cons (de_var 4) da_nil)) da_nil)))) da_nil))) da_nil)) (de_callB (cq_reprD z_gd) rfl z_repr bt_repr (da_cons (de_lst (da_cons (de_var 5) (da_cons (de_var 3) da_nil))) da_nil)) (nomark _))))))
def f_law : QS := (qSeq (qForR (qCons (qCallB (cI2 maxI) (qCons (qC (.int 1)) (qCons (qCallB (cMinD) (qCons (qC (.int 3)) (qCons (qCallB (cLen) (qCons (qVar 0) qNil)) qNil))) qNil))) qNil) (gSet 1) (qSeq (qAsg (qCall sp_L_source (qCons (qVar 0) (qCons (qVar 1) qNil))) (gSet 2))
    (qForR (qCons (qC (.int 5)) qNil) (gSet 3) (qSeq (qAsg (qCall sp_L_floor (qCons (qVar 2) (qCons (qC (.int 8)) qNil))) (gSet 4))
    (qForR (qCons (qC (.int 4)) qNil) (gSet 5) (qIfS (qNotT (qTruth (qCall sp_L_spins_right (qCons (qVar 2) (qCons (qVar 4) qNil))))) (qRet (qC (.bl false))) qNext))))))
    (qSeq (qAsg (qTup (qCons (qTup (qCons (qTup (qCons (qC (.int 2)) (qCons (qC (.int 1)) (qCons (qC (.int 0)) qNil)))) (qCons (qTup (qCons (qC (.int 1)) (qCons (qC (.int 2)) (qCons (qC (.int 0)) qNil)))) qNil))) (qCons (qC (.int 1)) qNil))) (gTupQ 2 (gsCons (gSet 4) (gsCons (gSet 6) gsNil))))
    (qSeq (qForR (qCons (qC (.int 39)) qNil) (gSet 3) (qAsg (qBin opMul (qVar 6) (qBin opPow (qC (.int 10)) (qC (.int 10)))) (gSet 6)))
    (qSeq (qAsg (qLst (qCons (qCall sp_lead (qCons (qVar 4) (qCons (qC (.int 1)) (qCons (qTup (qCons (qTup (qCons (qC (.int 1)) (qCons (qBin opAdd (qVar 6) (qC (.int 1))) qNil))) (qCons (qTup (qCons (qC (.int 0)) (qCons (qC (.int 1)) qNil))) qNil))) qNil)))) (qCons (qCall sp_lead (qCons (qVar 4) (qCons (qC (.int 1)) (qCons (qTup (qCons (qTup (qCons (qC (.int 1)) (qCons (qBin opSub (qC (.int 0)) (qVar 6)) qNil))) (qCons (qTup (qCons (qC (.int 0)) (qCons (qC (.int 1)) qNil))) qNil))) qNil)))) qNil))) (gSet 7))
    (qSeq (qAsg (qBin opAdd (qVar 7) (qLst (qCons (qCall sp_lead (qCons (qVar 4) (qCons (qC (.int 0)) (qCons (qTup (qCons (qTup (qCons (qC (.int 1)) (qCons (qC (.int 0)) qNil))) (qCons (qTup (qCons (qBin opAdd (qVar 6) (qC (.int 1))) (qCons (qC (.int 1)) qNil))) qNil))) qNil)))) (qCons (qCall sp_lead (qCons (qVar 4) (qCons (qC (.int 0)) (qCons (qTup (qCons (qTup (qCons (qNeg (qC (.int 1))) (qCons (qC (.int 0)) qNil))) (qCons (qTup (qCons (qBin opAdd (qVar 6) (qC (.int 1))) (qCons (qNeg (qC (.int 1))) qNil))) qNil))) qNil)))) qNil)))) (gSet 7))
    (qSeq (qIfS (qTest (qBin (opEq true) (qBin opAdd (qVar 7) (qLst (qCons (qCall sp_lead (qCons (qVar 4) (qCons (qC (.int 1)) (qCons (qTup (qCons (qTup (qCons (qBin opAdd (qVar 6) (qC (.int 1))) (qCons (qNeg (qC (.int 1))) qNil))) (qCons (qTup (qCons (qC (.int 1)) (qCons (qC (.int 0)) qNil))) qNil))) qNil)))) qNil))) (qLst (qCons (qC (.int 2)) (qCons (qC (.int 1)) (qCons (qC (.int 1)) (qCons (qC (.int 1)) (qCons (qC (.int 0)) qNil)))))))) (qRet (qC (.bl false))) qNext)
    (qSeq (qAsg (qTup (qCons (qTup (qCons (qC (.int 1)) (qCons (qC (.int 0)) qNil))) (qCons (qTup (qCons (qC (.int 0)) (qCons (qC (.int 1)) qNil))) qNil))) (gSet 8))
    (qSeq (qForR (qCons (qC (.int 901)) qNil) (gSet 3) (qAsg (qCall sp_L_times (qCons (qVar 8) (qCons (qTup (qCons (qTup (qCons (qC (.int 2)) (qCons (qC (.int 1)) qNil))) (qCons (qTup (qCons (qC (.int 1)) (qCons (qC (.int 1)) qNil))) qNil))) qNil))) (gSet 8)))
    (qRet (qBin (opEq false) (qLst (qCons (qCall sp_lead (qCons (qVar 4) (qCons (qC (.int 0)) (qCons (qVar 8) qNil)))) (qCons (qCall sp_lead (qCons (qVar 4) (qCons (qC (.int 2)) (qCons (qVar 8) qNil)))) (qCons (qCall sp_lead (qCons (qVar 4) (qCons (qC (.int 1)) (qCons (qCall sp_L_back (qCons (qVar 8) qNil)) qNil)))) qNil)))) (qLst (qCons (qC (.int 1)) (qCons (qC (.int 0)) (qCons (qC (.int 0)) qNil))))))))))))))
theorem dd_law {g : Glb} (h_lead : Has g "lead" 7 sp_lead) (h_L_source : Has g "_law_source" 1 sp_L_source) (h_L_times : Has g "_law_times" 2 sp_L_times) (h_L_back : Has g "_law_back" 2 sp_L_back) (h_L_floor : Has g "_law_floor" 3 sp_L_floor) (h_L_spins_right : Has g "_law_spins_right" 8 sp_L_spins_right) (z_len : g.mg ("len" : Str) = none) (z_max : g.mg ("max" : Str) = none) (z_min : g.mg ("min" : Str) = none) (z_range : g.mg ("range" : Str) = none) : DSs ⟨g, N_law, defScope s_law, 8, none⟩ (defBody s_law) f_law :=
    (dss_cons (ds_forR rfl z_range (da_cons (de_callB cq_max rfl z_max bt_max (da_cons de_int (da_cons (de_callB cq_minD rfl z_min bt_min (da_cons de_int (da_cons (de_callB cq_len rfl z_len bt_len (da_cons (de_var 0) da_nil)) da_nil))) da_nil))) da_nil) (dg_name 1 sc_law.nd) (dss_cons (ds_set 2 sc_law.nd (de_call h_L_source (da_cons (de_var 0) (da_cons (de_var 1) da_nil))))
    (dss_one (ds_forR rfl z_range (da_cons de_int da_nil) (dg_name 3 sc_law.nd) (dss_cons (ds_set 4 sc_law.nd (de_call h_L_floor (da_cons (de_var 2) (da_cons de_int da_nil))))
    (dss_one (ds_forR rfl z_range (da_cons de_int da_nil) (dg_name 5 sc_law.nd) (dss_one (ds_if (dt_not (dt_truth (de_call h_L_spins_right (da_cons (de_var 2) (da_cons (de_var 4) da_nil))))) (dss_one (ds_ret de_bl)) dss_nil)))))))))
    (dss_cons (ds_asg (de_tup (da_cons (de_tup (da_cons (de_tup (da_cons de_int (da_cons de_int (da_cons de_int da_nil)))) (da_cons (de_tup (da_cons de_int (da_cons de_int (da_cons de_int da_nil)))) da_nil))) (da_cons de_int da_nil))) (dg_tup (n := 2) (dgs_cons (dg_name 4 sc_law.nd) (dgs_cons (dg_name 6 sc_law.nd) dgs_nil))) (hw := (by intro env h; obtain ⟨⟩ := env; dsimp only at h; subst h; rfl)))
    (dss_cons (ds_forR rfl z_range (da_cons de_int da_nil) (dg_name 3 sc_law.nd) (dss_one (ds_set 6 sc_law.nd (de_bin oq_mul (de_var 6) (de_bin oq_pow de_int de_int)))))
    (dss_cons (ds_set 7 sc_law.nd (de_lst (da_cons (de_call h_lead (da_cons (de_var 4) (da_cons de_int (da_cons (de_tup (da_cons (de_tup (da_cons de_int (da_cons (de_bin oq_add (de_var 6) de_int) da_nil))) (da_cons (de_tup (da_cons de_int (da_cons de_int da_nil))) da_nil))) da_nil)))) (da_cons (de_call h_lead (da_cons (de_var 4) (da_cons de_int (da_cons (de_tup (da_cons (de_tup (da_cons de_int (da_cons (de_bin oq_sub de_int (de_var 6)) da_nil))) (da_cons (de_tup (da_cons de_int (da_cons de_int da_nil))) da_nil))) da_nil)))) da_nil))))
    (dss_cons (ds_set 7 sc_law.nd (de_bin oq_add (de_var 7) (de_lst (da_cons (de_call h_lead (da_cons (de_var 4) (da_cons de_int (da_cons (de_tup (da_cons (de_tup (da_cons de_int (da_cons de_int da_nil))) (da_cons (de_tup (da_cons (de_bin oq_add (de_var 6) de_int) (da_cons de_int da_nil))) da_nil))) da_nil)))) (da_cons (de_call h_lead (da_cons (de_var 4) (da_cons de_int (da_cons (de_tup (da_cons (de_tup (da_cons (de_neg de_int) (da_cons de_int da_nil))) (da_cons (de_tup (da_cons (de_bin oq_add (de_var 6) de_int) (da_cons (de_neg de_int) da_nil))) da_nil))) da_nil)))) da_nil)))))
    (dss_cons (ds_if (dt_cmp oq_ne (de_bin oq_add (de_var 7) (de_lst (da_cons (de_call h_lead (da_cons (de_var 4) (da_cons de_int (da_cons (de_tup (da_cons (de_tup (da_cons (de_bin oq_add (de_var 6) de_int) (da_cons (de_neg de_int) da_nil))) (da_cons (de_tup (da_cons de_int (da_cons de_int da_nil))) da_nil))) da_nil)))) da_nil))) (de_lst (da_cons de_int (da_cons de_int (da_cons de_int (da_cons de_int (da_cons de_int da_nil)))))) (nomark _)) (dss_one (ds_ret de_bl)) dss_nil)
    (dss_cons (ds_set 8 sc_law.nd (de_tup (da_cons (de_tup (da_cons de_int (da_cons de_int da_nil))) (da_cons (de_tup (da_cons de_int (da_cons de_int da_nil))) da_nil))))
    (dss_cons (ds_forR rfl z_range (da_cons de_int da_nil) (dg_name 3 sc_law.nd) (dss_one (ds_set 8 sc_law.nd (de_call h_L_times (da_cons (de_var 8) (da_cons (de_tup (da_cons (de_tup (da_cons de_int (da_cons de_int da_nil))) (da_cons (de_tup (da_cons de_int (da_cons de_int da_nil))) da_nil))) da_nil))))))
    (dss_one (ds_ret (de_cmp oq_eq (de_lst (da_cons (de_call h_lead (da_cons (de_var 4) (da_cons de_int (da_cons (de_var 8) da_nil)))) (da_cons (de_call h_lead (da_cons (de_var 4) (da_cons de_int (da_cons (de_var 8) da_nil)))) (da_cons (de_call h_lead (da_cons (de_var 4) (da_cons de_int (da_cons (de_call h_L_back (da_cons (de_var 8) da_nil)) da_nil)))) da_nil)))) (de_lst (da_cons de_int (da_cons de_int (da_cons de_int da_nil)))) (nomark _))))))))))))
end Q
namespace Q
open PySem PySem.Spec PyProof.Rows L2
theorem r_is_whole : BodyOk N_is_whole 1 sp_is_whole f_is_whole := by
  rintro xs M k ex ⟨v, rfl, h⟩
  refine ⟨rfl, ?_⟩
  cases v with
  | ty n => exact h.elim
  | _ => simp_all [f_is_whole, Tg.whole]
theorem r_u_normal_form : BodyOk N_u_normal_form 1 sp_u_normal_form f_u_normal_form := by
  rintro xs M k ex ⟨a, b, c, d, rfl, h⟩
  refine ⟨rfl, ?_⟩
  have h1 : (c < 0 ∨ c = 0 ∧ a < 0) → k (Mt.mk (-a) (-b) (-c) (-d)).pv M := fun z => by simpa only [Mt.nf, if_pos z, Mt.neg] using h
  have h2 : ¬ (c < 0 ∨ c = 0 ∧ a < 0) → k (Mt.mk a b c d).pv M := fun z => by simpa only [Mt.nf, if_neg z] using h
  simp [f_u_normal_form, sizeLine_eq, way] at h1 h2 ⊢
  grind
theorem r_quotients : BodyOk N_quotients 2 sp_quotients f_quotients := by
  rintro xs M k ex ⟨a, c, rfl, hc, hb, hl, h⟩
  refine ⟨rfl, ?_⟩
  simp [f_quotients, sizeLine_eq]
  intro b hM
  refine ⟨fun m τ M' => ∃ (top low : Int) (done : List Int), τ = [some (.int top), some (.int low), some (.ref b)] ∧ done ++ quots top low = quots a c ∧ 0 ≤ low ∧ low.natAbs < 2 ^ 8000 ∧ m = low.toNat ∧ M' = updM M b (.lst (done.map .int)),
    ⟨c.toNat, a, c, [], rfl, rfl, by omega, hb, rfl, rfl⟩, ?_⟩
  rintro m τ M' ⟨top, low, done, rfl, hq, h0, hlb, rfl, rfl⟩
  have dl : done.length ≤ 16000 := by
    have := congrArg List.length hq
    rw [List.length_append] at this
    omega
  by_cases hz : low = 0
  · subst hz
    rw [quots_zero (by omega), List.append_nil] at hq
    simp [way]
    rw [hq]
    exact h b hM
  · have hp : 0 < low := by omega
    have hd : DivOk low := DivOk.of (b := 8000) hp hlb (by decide) (by decide)
    have m0 := Int.emod_nonneg top hz
    have m1 := Int.emod_lt_of_pos top hp
    simp [way, hz, hd, appP, updM_updM, sizeLine_eq]
    refine ⟨by omega, by omega, (top % low).toNat, by omega, low, top % low, ⟨rfl, rfl⟩, done ++ [top / low], ?_, by omega, by omega, rfl, by simp⟩
    rw [quots_pos hp] at hq
    simpa using hq
theorem r_letter_tables : BodyOk N_letter_tables 1 sp_letter_tables f_letter_tables := by
  rintro xs M k ex ⟨f, rfl, hf, h⟩
  refine ⟨rfl, ?_⟩
  have hl := hf.le
  have hn : f.r.length = f.n := hf.len
  simp [f_letter_tables, Fl.pv, sizeLine_eq, qKV]
  intro p hp
  rw [hn]
  refine ⟨by unfold rngB; omega, fun D hD => ?_⟩
  refine comp_map hD (fun acc => trivial) (fun (i : Nat) => PV.int (0 + (i : Int))) (fun _ => true) (fun i => PV.int ((f.st .r i : Nat) : Int)) (List.range f.n) [] (fun y hy => ?_) (by rw [sizeLine_eq, List.length_nil, List.length_range]; omega) ?_
  · have hy := List.mem_range.mp hy
    refine ⟨_, fun k hk => hk, fun acc k hk => hk, fun acc k _ hk => ?_⟩
    have e1 := atI_r hf hy
    have e2 := atI_r hf (hf.st_lt .R hy)
    simp [e1, e2]
    exact hk
  · rw [List.nil_append, List.filter_eq_self.mpr (fun _ _ => rfl)]
    refine ⟨updM_same, ?_⟩
    refine h p _ ?_ ?_
    · rw [updM_updM]; exact (Ext.refl M).upd hp
    · rw [updM_same]
      have : (List.range f.n).map (fun i => PV.int ((f.st .r i : Nat) : Int)) = natL f.back := by
        unfold natL Fl.back
        rw [List.map_map]; rfl
      rw [this]
      rfl
theorem r_led_by_powers : BodyOk N_led_by_powers 3 sp_led_by_powers f_led_by_powers := by
  rintro xs M k ex ⟨f, a, x, ps, rfl, hf, hx, tb, hS, h⟩
  refine ⟨rfl, ?_⟩
  obtain ⟨v1, v2, v3, hM, t1, t2, t3⟩ := tb
  simp [f_led_by_powers, sizeLine_eq, qFor]
  refine ⟨fun i τ M' => ∃ t3 t4 t5 t6, τ = [some (.ref a), some (.int ((f.act ((ps.take i).flatMap lopZ) x : Nat) : Int)), some (.tup (ps.map pwv)), t3, t4, t5, t6] ∧ M' = M, ⟨none, none, none, none, rfl, rfl⟩, ?_, ?_⟩
  · rintro i y τ M' p e hp rfl ⟨u3, u4, u5, u6, rfl, rfl⟩
    have hpi := hS (p, e) (List.mem_of_getElem? hp)
    have htk : f.act ((ps.take (i + 1)).flatMap lopZ) x = f.act (lopZ (p, e)) (f.act ((ps.take i).flatMap lopZ) x) := by
      rw [List.take_add_one, hp]
      exact act_flat _ _ _
    have hlt := hf.act_lt ((ps.take i).flatMap lopZ) hx
    generalize hz : f.act ((ps.take i).flatMap lopZ) x = z at hlt htk
    have key : ∀ (v : PV) (l : List Nat), Seats M' v l → l.length = f.n → (∀ x, x < f.n → l.getD x 0 = f.stp p x) → ∀ kk : PV → PM → Prop, (∀ (c : List Nat) (j : Nat), (∃ q : Nat, ((j : Int) + e) % (c.length : Int) = (q : Int) ∧ 0 < c.length ∧ q < c.length ∧ c.getD q 0 = f.act (lopZ (p, e)) z) → kk (.tup [.tup (natL c), .int (j : Int)]) M') → opIx v (.int (z : Int)) M' kk := fun v l ⟨xs, s1, s2, s3⟩ hl hg kk hk => by
      obtain ⟨c, j, c1, c2, c3, c4⟩ := s3 z (by rw [hl]; exact hlt)
      refine opIx_sq s1 c1 (hk c j ?_)
      have r := rng_stp c2 hl hg
      obtain ⟨q, q1, q2, q3⟩ := cat_ix r.pos ((j : Int) + e)
      refine ⟨q, q2, r.pos, q1, ?_⟩
      have := hf.pow r hpi (j : Int)
      rw [cat_at c3, c4] at this
      rw [← q3, this]
    have fin : ∀ (l : List Nat) (v : PV), Seats M' v l → l.length = f.n → (∀ x, x < f.n → l.getD x 0 = f.stp p x) → opIx v (.int (z : Int)) M' fun w M2 => gTupQ 2 (gsCons (gSet 5) (gsCons (gSet 6) gsNil)) w [some (.ref a), some (.int (z : Int)), some (.tup (ps.map pwv)), some p.pv, some (.int e), u5, u6] M2 fun τ M =>
        qAsg (qBin opIx (qVar 5) (qBin opMod (qBin opAdd (qVar 6) (qVar 4)) (qCallB cLen (qCons (qVar 5) qNil)))) (gSet 1) { nx := fun τ M2 => ∃ t3 t4 t5 t6, τ = [some (.ref a), some (.int ((f.act ((ps.take (i + 1)).flatMap lopZ) x : Nat) : Int)), some (.tup (ps.map pwv)), t3, t4, t5, t6] ∧ M2 = M', rt := k, ex := fun e x M' => ex e M' } τ M := fun l v t hl hg => by
      refine key v l t hl hg _ ?_
      rintro c j ⟨q, q1, q0, q2, q3⟩
      have q0' : 0 < (c.length : Int) := by omega
      have e2 := atI_nat q2
      rw [q3] at e2
      rw [htk]
      simp [q1, e2, q0', q0]
    cases p with
    | S =>
      have := fin _ _ t1 rfl s_get
      simp [pwv, Pw.pv, Pw.code, hM, hz]
      exact ⟨_, rfl, _, rfl, by simpa [Pw.pv, Pw.code] using this⟩
    | T =>
      have := fin _ _ t2 (rowT_len f) T_get
      simp [pwv, Pw.pv, Pw.code, hM, hz]
      exact ⟨_, rfl, _, rfl, by simpa [Pw.pv, Pw.code] using this⟩
    | F =>
      have := fin _ _ t3 (rowF_len f) F_get
      simp [pwv, Pw.pv, Pw.code, hM, hz]
      exact ⟨_, rfl, _, rfl, by simpa [Pw.pv, Pw.code] using this⟩
  · rintro τ M' ⟨t3, t4, t5, t6, rfl, rfl⟩
    simp [h]
theorem r_cycles_of_permutation : BodyOk N_cycles_of_permutation 1 sp_cycles_of_permutation f_cycles_of_permutation := by
  rintro xs M k ex ⟨v, l, rfl, hv, hp, h⟩
  refine ⟨rfl, ?_⟩
  have hl := hp.le
  simp [-List.getD_eq_getElem?_getD, f_cycles_of_permutation, sizeLine_eq]
  intro a ha
  refine cLen_sq (sqv_ext hv ((Ext.refl M).put' ha)) ?_
  simp [-List.getD_eq_getElem?_getD]
  refine ⟨⟨by omega, by rw [sizeLine_eq]; omega⟩, fun w hw => ?_⟩
  have hwa : w ≠ a := fun z => by rw [z, updM_same] at hw; cases hw
  have hwM : M w = none := by rw [updM_ne hwa] at hw; exact hw
  refine cLen_sq (sqv_ext hv (((Ext.refl M).put' ha).put' hwM)) ?_
  have plt : ∀ x, x < l.length → (fun x => l.getD x 0) x < l.length := hp.lt
  refine ⟨by rw [natL_len]; unfold rngB; omega, fun i τ M' => CyW v a w M l i τ M', ⟨[], List.replicate l.length false, _, _, _, rfl, by rw [updM_ne (Ne.symm hwa), updM_same]; rfl, by rw [updM_same]; simp [-List.getD_eq_getElem?_getD], by simp [-List.getD_eq_getElem?_getD], ((Ext.refl M).put' ha).put' hwM, by simp [-List.getD_eq_getElem?_getD], Nat.le_refl _, fun x hx => ?_, fun x hx => absurd hx (by omega)⟩, ?_, ?_⟩
  · rw [List.getElem?_replicate] at hx
    split at hx <;> cases hx
  · rintro i τ M' hi ⟨cs, sn, t3, t4, t5, rfl, hA, hW, hsn, he, hcs, hcl, hs1, hs2⟩
    have hi : i < l.length := by simpa [-List.getD_eq_getElem?_getD] using hi
    have his : i < (sn.map PV.bl).length := by simp [-List.getD_eq_getElem?_getD]; omega
    have gi : (sn.map PV.bl)[i]? = some (.bl sn[i]) := by rw [List.getElem?_map, List.getElem?_eq_getElem (by omega)]; rfl
    have e1 := atI_at gi
    simp [-List.getD_eq_getElem?_getD, hW, e1]
    refine ⟨fun ht => ?_, fun ht => ?_⟩
    · have hsi : ¬ sn[i]? = some true := fun z => by
        rw [List.getElem?_eq_getElem (by omega)] at z
        have := Option.some.inj z
        rw [this] at ht
        cases ht
      refine ⟨by rw [sizeLine_eq]; omega, fun q hq => ?_⟩
      have hqa : q ≠ a := fun z => by rw [z, hA] at hq; cases hq
      have hqw : q ≠ w := fun z => by rw [z, hW] at hq; cases hq
      have inj : ∀ x y, x < l.length → y < l.length → (fun x => l.getD x 0) x = (fun x => l.getD x 0) y → x = y := hp.inj
      refine ⟨fun m τ M2 => CyI v a w q M' l i m τ M2, ⟨l.length, 1, t5, rfl, Nat.le_refl _, rfl, rfl, fun j h1 h2 => absurd h1 (by omega)⟩, ?_⟩
      rintro m τ M2 ⟨k2, t5, hm, hk, rfl, rfl, hno⟩
      have hkn : k2 ≤ l.length := orb_le plt inj hi hno
      obtain ⟨k1, rfl⟩ : ∃ k1, k2 = k1 + 1 := ⟨k2 - 1, by omega⟩
      have hz := itn_lt (p := fun x => l.getD x 0) plt k1 hi
      have e2 : atI (natL (orb (fun x => l.getD x 0) i (k1 + 1))) (-1) = some (.int ((itn (fun x => l.getD x 0) k1 i : Nat) : Int)) := by
        rw [orb_succ, natL_app]
        exact atI_last _ _
      have e3 : l.getD (itn (fun x => l.getD x 0) k1 i) 0 = itn (fun x => l.getD x 0) (k1 + 1) i := (itn_succ (fun x => l.getD x 0) k1 i).symm
      have hv2 : sqn v (updM M' q (.lst (natL (orb (fun x => l.getD x 0) i (k1 + 1))))) l := sqv_ext hv (he.put' (he.none hq))
      have eq_ := natL_get hz
      rw [e3] at eq_
      simp [-List.getD_eq_getElem?_getD, e2]
      refine opIx_sq hv2 eq_ ?_
      simp [-List.getD_eq_getElem?_getD]
      refine ⟨fun hne => ?_, fun hne => ?_⟩
      · have hne' : itn (fun x => l.getD x 0) (k1 + 1) i ≠ i := fun z => by simp [-List.getD_eq_getElem?_getD, z] at hne
        simp [-List.getD_eq_getElem?_getD, e2]
        refine opIx_sq hv2 eq_ ?_
        have hno' : ∀ j, 1 ≤ j → j < k1 + 1 + 1 → itn (fun x => l.getD x 0) j i ≠ i := fun j h1 h2 => by
          by_cases e : j = k1 + 1
          · rw [e]; exact hne'
          · exact hno j h1 (by omega)
        have hk2 := orb_le plt inj hi hno'
        unfold appP
        rw [updM_same]
        refine ⟨by rw [natL_len, orb_len, sizeLine_eq]; omega, m - 1, by omega, k1 + 1 + 1, t5, by omega, by omega, rfl, ?_, hno'⟩
        rw [updM_updM, orb_succ _ (k1 + 1), natL_app]
        rfl
      · have hne' : itn (fun x => l.getD x 0) (k1 + 1) i = i := by
          have := of_decide_eq_true (show decide _ = true by simpa [-List.getD_eq_getElem?_getD] using hne)
          omega
        have ring : Rng l (orb (fun x => l.getD x 0) i (k1 + 1)) := orb_ring plt hi (by omega) hne'
        have hcl2 : (orb (fun x => l.getD x 0) i (k1 + 1)).length ≤ 120 := by rw [orb_len]; omega
        have hic : i ∈ orb (fun x => l.getD x 0) i (k1 + 1) := by
          have := getD_mem (l := orb (fun x => l.getD x 0) i (k1 + 1)) (x := 0) (by rw [orb_len]; omega)
          rw [orb_get (by omega)] at this
          exact this
        generalize orb (fun x => l.getD x 0) i (k1 + 1) = c at ring hcl2 hic
        simp only [qFor]
        simp [-List.getD_eq_getElem?_getD]
        refine ⟨fun j τ M2 => CyM v a w q M' sn c i j τ M2, ⟨sn, t5, rfl, ?_, rfl, fun x => by simp [-List.getD_eq_getElem?_getD]⟩, ?_, ?_, ?_⟩
        · refine (updM_id ?_).symm
          rw [updM_ne (Ne.symm hqw)]; exact hW
        · rintro j τ M2 ⟨sn', t5, rfl, rfl, _⟩
          rw [updM_ne hqw, updM_same]
        · rintro j y τ M2 hj ⟨sn', t5, rfl, rfl, hl1, hl2⟩
          have hjc : j < c.length := by
            have := (List.getElem?_eq_some_iff.mp hj).1
            rwa [natL_len] at this
          rw [natL_get hjc] at hj
          cases hj
          have hlt : c.getD j 0 < sn'.length := by rw [hl1, hsn]; exact ring.lt j hjc
          have ix := ixN_nat hlt
          simp [-List.getD_eq_getElem?_getD, ix]
          refine ⟨sn'.set (c.getD j 0) true, _, rfl, by rw [List.map_set], by simpa [-List.getD_eq_getElem?_getD] using hl1, fun x => ?_⟩
          rw [take_mem1 hjc, List.getElem?_set]
          by_cases e : c.getD j 0 = x
          · subst e
            simp [-List.getD_eq_getElem?_getD, hlt]
          · have e' : ¬ x = c.getD j 0 := fun z => e z.symm
            simp only [e, e', if_false, or_false]
            exact hl2 x
        · rintro τ M2 ⟨sn', t5, rfl, rfl, hl1, hl2⟩
          simp only [natL_len, List.take_length] at hl2
          have hA2 : updM (updM M' q (.lst (natL c))) w (.lst (sn'.map PV.bl)) a = some (.lst (cs.map fun c => .tup (natL c))) := by
            rw [updM_ne (Ne.symm hwa), updM_ne (Ne.symm hqa)]; exact hA
          have hq2 : updM (updM M' q (.lst (natL c))) w (.lst (sn'.map PV.bl)) q = some (.lst (natL c)) := by
            rw [updM_ne hqw, updM_same]
          simp [-List.getD_eq_getElem?_getD, hA2, hq2]
          unfold appP
          rw [hA2]
          refine ⟨by simp [-List.getD_eq_getElem?_getD]; rw [sizeLine_eq]; omega, cs ++ [c], sn', _, _, _, rfl, by rw [updM_same]; simp [-List.getD_eq_getElem?_getD], by rw [updM_ne hwa, updM_same], by rw [hl1]; exact hsn, ((he.put' (he.none hq)).put' hwM).put' ha, ?_, by simp [-List.getD_eq_getElem?_getD]; omega, fun x hx => ?_, fun x hx => ?_⟩
          · intro d hd
            rcases List.mem_append.mp hd with hd | hd
            · exact hcs d hd
            · rw [List.mem_singleton] at hd
              subst hd
              exact ⟨ring, hcl2⟩
          · rcases (hl2 x).mp hx with hx | hx
            · obtain ⟨d, d1, d2⟩ := hs1 x hx
              exact ⟨d, List.mem_append_left _ d1, d2⟩
            · exact ⟨c, List.mem_append_right _ (List.mem_singleton.mpr rfl), hx⟩
          · by_cases e : x = i
            · subst e
              exact (hl2 x).mpr (.inr hic)
            · exact (hl2 x).mpr (.inl (hs2 x (by omega)))
    · refine ⟨cs, sn, _, _, _, rfl, hA, hW, hsn, he, hcs, by omega, hs1, fun x hx => ?_⟩
      by_cases e : x = i
      · subst e
        rw [List.getElem?_eq_getElem (by omega)]
        simpa [-List.getD_eq_getElem?_getD] using ht
      · exact hs2 x (by omega)
  · rintro τ M' ⟨cs, sn, t3, t4, t5, rfl, hA, hW, hsn, he, hcs, hcl, hs1, hs2⟩
    simp [-List.getD_eq_getElem?_getD]
    refine h a cs M' ha he hA hcs (by simp [-List.getD_eq_getElem?_getD] at hcl; omega) fun x hx => hs1 x (hs2 x (by simpa [-List.getD_eq_getElem?_getD] using hx))
theorem r_tile_of : BodyOk N_tile_of 2 sp_tile_of f_tile_of := by
  rintro xs M k ex ⟨f, x, rfl, hf, hx, h⟩
  refine ⟨rfl, ?_⟩
  have h1 := hf.st_lt .R hx
  have e1 := atI_r hf hx
  have e2 := atI_r hf h1
  simp [f_tile_of, e1, e2]
  unfold Fl.tile at h
  refine ⟨fun z => ?_, fun z => ?_⟩
  · have z' : f.st .R x = x := by have := of_decide_eq_true z; omega
    rw [if_pos z'] at h
    exact ⟨by rw [sizeLine_eq]; omega, h⟩
  · have z' : ¬ f.st .R x = x := by have := of_decide_eq_false z; omega
    rw [if_neg z'] at h
    exact ⟨by rw [sizeLine_eq]; omega, h⟩
theorem r_u_has_form : BodyOk N_u_has_form 1 sp_u_has_form f_u_has_form := by
  rintro xs M k ex ⟨f, rfl, hf, h⟩
  refine ⟨rfl, ?_⟩
  have h1 := hf.pos
  have h2 := hf.le
  unfold Fl.n at h1 h2
  have e1 : (decide (f.s.length ≤ 120)) = true := decide_eq_true h2
  have e0 : (1 : Int) ≤ f.s.length := by omega
  have e3 : (f.s.length : Int) ≤ 120 := by omega
  simp [f_u_has_form, Fl.pv, hf.len, e0, e3, h]
theorem r_L_source : BodyOk N_L_source 2 sp_L_source f_L_source := by
  rintro xs M k ex ⟨ns, i, rfl, hl, h0, h1, h⟩
  refine ⟨rfl, ?_⟩
  have hd : DivOk 1000000000000000000 := DivOk.of (b := 100) (by decide) (by decide) (by decide) (by decide)
  have m3 : MulOk 3 i := MulOk.left (by decide)
  have fin : ∀ (z : Int) (a : Addr), M a = none → (way (decide (1000000000000000000 ≤ z)) (k (.ref a) (updM M a (.lst [.int z, .int (3 * i), .int (z / 1000000000000000000)]))) (k (.ref a) (updM M a (.lst [.int z, .int (3 * i), .int 0])))) := fun z a ha =>
    ⟨fun hz => h _ _ ha ⟨⟨_, _, _, updM_same, by omega, by omega, Int.ediv_nonneg (by simp at hz; omega) (by decide)⟩, fun b hb => updM_ne hb⟩, fun hz => h _ _ ha ⟨⟨_, _, _, updM_same, by omega, by omega, by omega⟩, fun b hb => updM_ne hb⟩⟩
  simp only [way, decide_eq_true_eq, decide_eq_false_iff_not, Int.not_le] at fin
  by_cases hne : ns = []
  · subst hne
    simp [f_L_source, sizeLine_eq, way, hd, m3, -List.map_nil]
    exact fun a ha => (fin 1 a ha).2 (by decide)
  · obtain ⟨y, hy⟩ := mod_at h0 hne
    have hp : 0 < (ns.length : Int) := by
      have : 0 < ns.length := List.length_pos_iff.mpr hne
      omega
    have he : ns.isEmpty = false := by cases ns <;> simp_all
    simp [f_L_source, sizeLine_eq, way, hd, m3, he, hy]
    exact ⟨by omega, fun hz a ha => (fin y a ha).1 hz, fun hz a ha => (fin y a ha).2 hz⟩
theorem r_L_next : BodyOk N_L_next 2 sp_L_next f_L_next := by
  rintro xs M k ex ⟨a, m, n, rfl, ⟨p, q, r, hM, hq, hqn, hr⟩, hn, hm0, hm1, h⟩
  refine ⟨rfl, ?_⟩
  have hd : DivOk m := DivOk.of (b := 100) hm0 (by omega) (by decide) (by decide)
  have hd13 : DivOk 13 := DivOk.of (b := 100) (by decide) (by decide) (by decide) (by decide)
  obtain ⟨P, hP, hP1, hP2⟩ := prime_at (i := (q + 1) % 11) (by omega) (by omega)
  have hlim : lim = 1000000000000 := rfl
  have z1 : 0 ≤ p % P := Int.emod_nonneg _ (by omega)
  have z2 : p % P < P := Int.emod_lt_of_pos _ (by omega)
  have m1 : MulOk 7919 (q + 1) := MulOk.left (by decide)
  have i1 : ixN 3 1 = some 1 := by decide
  have i2 : ixN 3 2 = some 2 := by decide
  have k1 : SrcUp M (updM M a (.lst [.int p, .int q, .int (r / m)])) a (n + 1) := ⟨⟨p, q, r / m, updM_same, hq, by omega, Int.ediv_nonneg hr (by omega)⟩, fun b hb => updM_ne hb⟩
  have k2 : SrcUp M (updM M a (.lst [.int p, .int (q + 1), .int r])) a (n + 1) := ⟨⟨p, q + 1, r, updM_same, by omega, by omega, hr⟩, fun b hb => updM_ne hb⟩
  simp [f_L_next, hM, i1, i2, sizeLine_eq, hP, hm0, hd, hd13, m1, way]
  refine ⟨fun h1 => h _ _ (Int.emod_nonneg _ (by omega)) (Int.emod_lt_of_pos _ hm0) k1, fun h1 => ⟨by omega, by omega, ?_⟩⟩
  exact ⟨by omega, h _ _ (Int.emod_nonneg _ (by omega)) (Int.emod_lt_of_pos _ hm0) k2⟩
theorem r_L_signed : BodyOk N_L_signed 1 sp_L_signed f_L_signed := by
  rintro xs M k ex ⟨a, b, c, d, rfl, h⟩
  refine ⟨rfl, ?_⟩
  have h1 : (0 < c ∨ c = 0 ∧ 0 < a) → k (Mt.mk a b c d).pv M := fun z => by simpa only [Mt.sg, if_pos z] using h
  have h2 : ¬ (0 < c ∨ c = 0 ∧ 0 < a) → k (Mt.mk (-a) (-b) (-c) (-d)).pv M := fun z => by simpa only [Mt.sg, if_neg z, Mt.neg] using h
  simp [f_L_signed, sizeLine_eq, way] at h1 h2 ⊢
  grind
theorem r_L_renamed : BodyOk N_L_renamed 2 sp_L_renamed f_L_renamed := by
  rintro xs M k ex ⟨f, vs, vr, q, nm, rfl, hs, hr, hv, hfr, hle, hp, hlt, h⟩
  refine ⟨rfl, ?_⟩
  have hl : nm.length = f.n := by have := hp.length_eq; rwa [List.length_range] at this
  simp [-List.getD_eq_getElem?_getD, f_L_renamed, sizeLine_eq, hv]
  rw [hl]
  refine ⟨⟨by omega, by omega⟩, fun p1 h1 => ?_⟩
  have q1 : q ≠ p1 := fun z => by rw [← z, hv] at h1; cases h1
  simp [-List.getD_eq_getElem?_getD, updM_ne q1, hv]
  rw [hl]
  refine ⟨⟨by omega, by omega⟩, fun p2 h2 => ?_⟩
  have h12 : p2 ≠ p1 := fun z => by rw [z, updM_same] at h2; cases h2
  have h2M : M p2 = none := by rw [updM_ne h12] at h2; exact h2
  have q2 : q ≠ p2 := fun z => by rw [← z, hv] at h2M; cases h2M
  simp [-List.getD_eq_getElem?_getD, updM_ne q1, updM_ne q2, hv]
  refine ⟨fun i τ M' => RnW f vs vr q p1 p2 nm M i τ M', ⟨List.replicate f.n 0, List.replicate f.n 0, _, _, rfl, ?_, ?_, by simp [-List.getD_eq_getElem?_getD], by simp [-List.getD_eq_getElem?_getD], ((Ext.refl M).put' h1).put' h2M, fun j hj => absurd hj (by omega), fun j hj => absurd hj (by omega)⟩, ?_, ?_, ?_⟩
  · rw [updM_ne (Ne.symm h12), updM_same]; simp [-List.getD_eq_getElem?_getD, natL]
  · rw [updM_same]; simp [-List.getD_eq_getElem?_getD, natL]
  · rintro i τ M' ⟨g1, g2, t5, t6, rfl, e1, e2, l1, l2, he, _⟩
    exact he _ _ hv
  · rintro i y τ M' hy ⟨g1, g2, t5, t6, rfl, e1, e2, l1, l2, he, hg1, hg2⟩
    obtain ⟨z, hz, rfl⟩ := enumL_get hy
    have hi : i < nm.length := by
      have := (List.getElem?_eq_some_iff.mp hz).1
      rwa [natL_len] at this
    rw [natL_get hi] at hz
    cases hz
    have hin : i < f.n := by omega
    obtain ⟨s1, s2⟩ := hlt i hin
    have vy := perm_lt hp hin
    have e3 : atI (natL nm) ((f.st .S i : Nat) : Int) = _ := atI_nat (by omega)
    have e4 : atI (natL nm) ((f.st .R i : Nat) : Int) = _ := atI_nat (by omega)
    have a1 : atI (natL nm) ((f.st .S i : Nat) : Int) = some (.int ((nm.getD (f.st .S i) 0 : Nat) : Int)) := e3
    simp [-List.getD_eq_getElem?_getD]
    refine opIx_sq (sqv_ext hs he) (natL_get (l := f.s) hin) ?_
    have hq := he _ _ hv
    have a1' : atI (natL nm) ((f.s.getD i 0 : Nat) : Int) = some (.int ((nm.getD (f.st .S i) 0 : Nat) : Int)) := a1
    have a2' : atI (natL nm) ((f.r.getD i 0 : Nat) : Int) = some (.int ((nm.getD (f.st .R i) 0 : Nat) : Int)) := e4
    have x1 : ixN g1.length ((nm.getD i 0 : Nat) : Int) = some (nm.getD i 0) := ixN_nat (by rw [l1]; exact vy)
    have x2 : ixN g2.length ((nm.getD i 0 : Nat) : Int) = some (nm.getD i 0) := ixN_nat (by rw [l2]; exact vy)
    simp [-List.getD_eq_getElem?_getD, hq, a1', e1, x1]
    refine opIx_sq (sqv_ext hr (he.put' h1)) (natL_get (l := f.r) (by rw [hfr]; exact hin)) ?_
    simp [-List.getD_eq_getElem?_getD, updM_ne q1, hq, a2', updM_ne h12, e2, x2]
    have nw : ∀ (g : List Nat) (l : Ltr), g.length = f.n → (∀ j, j < i → g.getD (nm.getD j 0) 0 = nm.getD (f.st l j) 0) → ∀ j, j < i + 1 → (g.set (nm.getD i 0) (nm.getD (f.st l i) 0)).getD (nm.getD j 0) 0 = nm.getD (f.st l j) 0 := fun g l hg hh j hj => by
      rw [getD_set (by rw [hg]; exact vy)]
      by_cases e : i = j
      · subst e; rw [if_pos rfl]
      · rw [if_neg fun z => e (perm_inj hp hin (by omega) z)]
        exact hh j (by omega)
    refine ⟨g1.set (nm.getD i 0) (nm.getD (f.st .S i) 0), g2.set (nm.getD i 0) (nm.getD (f.st .R i) 0), _, _, rfl, by rw [updM_ne (Ne.symm h12), updM_same, natL_set], by rw [updM_same, natL_set], by rw [List.length_set]; exact l1, by rw [List.length_set]; exact l2, (he.put' h1).put' h2M, nw g1 .S l1 hg1, nw g2 .R l2 hg2⟩
  · rintro τ M' ⟨g1, g2, t5, t6, rfl, e1, e2, l1, l2, he, hg1, hg2⟩
    simp [-List.getD_eq_getElem?_getD, e1, e2]
    simp only [natL_len, enumL_length, hl] at hg1 hg2
    exact h ⟨g1, g2⟩ M' ⟨hp, l1, l2, fun j hj => hg1 j hj, fun j hj => hg2 j hj⟩ he
theorem r_L_led : BodyOk N_L_led 3 sp_L_led f_L_led := by
  rintro xs M k ex ⟨f, x, w, rfl, hf, hx, hw, h⟩
  refine ⟨rfl, ?_⟩
  simp [-List.getD_eq_getElem?_getD, f_L_led, sizeLine_eq]
  show goesT (wstr w).cps.toList _ _ _ _ _
  refine ⟨fun i τ M' => LeW f x w M i τ M', ⟨none, rfl, rfl⟩, ?_, ?_⟩
  · rintro i c τ M' hc ⟨t3, rfl, rfl⟩
    obtain ⟨l, h1, rfl⟩ := wstr_get hc
    have hz := hf.act_lt (w.take i) hx
    have ta := take_act (f := f) h1 x
    generalize f.act (w.take i) x = z at hz ta
    have es := atI_s hz
    have er := atI_r hf hz
    cases l with
    | S =>
      simp [-List.getD_eq_getElem?_getD, sgn, Ltr.code, Fl.px, es, -tixX_s]
      exact ⟨_, by rw [ta]; rfl, rfl⟩
    | R =>
      simp [-List.getD_eq_getElem?_getD, sgn, Ltr.code, Fl.px, er, -tixX_s]
      exact ⟨_, by rw [ta]; rfl, rfl⟩
    | r =>
      simp [-List.getD_eq_getElem?_getD, sgn, Ltr.code, Fl.px, -tixX_s]
      refine tix_nat hf hz ⟨_, by rw [ta]; rfl, rfl⟩
  · rintro τ M' ⟨t3, rfl, rfl⟩
    rw [wstr_len, List.take_length]
    simpa [-List.getD_eq_getElem?_getD] using h
theorem r_is_pair : BodyOk N_is_pair 1 sp_is_pair f_is_pair := by
  rintro xs M k ex ⟨v, rfl, hf, h⟩
  refine ⟨rfl, ?_⟩
  rcases hf with hf | ⟨a, kvs, rfl, hM⟩
  rotate_left
  · simpa [f_is_pair, isRowV, way, hM] using h
  cases v with
  | tup xs =>
    rcases xs with _ | ⟨x, _ | ⟨y, _ | ⟨z, r⟩⟩⟩
    · simpa [f_is_pair, isRowV, way] using h
    · simpa [f_is_pair, isRowV, way] using h
    · simp [fineR] at hf
      simp [f_is_pair, way, atI, ixN]
      refine whole_of hf.1 (.intro (fun z => ?_) (fun z => ?_))
      · exact whole_of hf.2 (by simpa [isRowV, z] using h)
      · simpa [isRowV, z] using h
    · have ne : ¬ ((r.length : Int) + 1 + 1 + 1 = 2) := by omega
      simp [f_is_pair, way, ne]
      exact h
  | ty n => cases hf
  | ref n => cases hf
  | tpx n => cases hf
  | _ => simpa [f_is_pair, isRowV] using h
theorem r_check_place : BodyOk N_check_place 2 sp_check_place f_check_place := by
  rintro xs M k ex ⟨f, x, rfl, hx, h⟩
  refine ⟨rfl, ?_⟩
  have hx' : x < f.s.length := hx
  simp [f_check_place, way, Fl.pv]
  refine whole_int ?_
  show _ = _ ∧ _
  exact ⟨rfl, fun _ => ⟨hx', fun _ => h⟩⟩
theorem r_entries_of_walk : BodyOk N_entries_of_walk 2 sp_entries_of_walk f_entries_of_walk := by
  rintro xs M k ex ⟨f, b, rfl, hf, hb, h⟩
  refine ⟨rfl, ?_⟩
  have hle := hf.le
  simp [-List.getD_eq_getElem?_getD, f_entries_of_walk, Fl.pv]
  intro p hp
  refine ⟨.inl (b : Int), rfl, by rw [sizeLine_eq]; omega, fun a ha => ?_⟩
  have hpa : a ≠ p := fun z => by rw [z, updM_same] at ha; cases ha
  have haM : M a = none := by rw [updM_ne hpa] at ha; exact ha
  refine ⟨f, b, rfl, hf, hb, ?_⟩
  simp only [seqP_s1]
  intro D hD
  have hDa : D ≠ a := fun z => by rw [z, updM_same] at hD; cases hD
  rw [updM_ne hDa] at hD
  have hDp : D ≠ p := fun z => by rw [z, updM_same] at hD; cases hD
  have hDM : M D = none := by rw [updM_ne hDp] at hD; exact hD
  have tl := (f.tile_len b).2
  refine dc_tiles (by simp [-List.getD_eq_getElem?_getD]) (fun _ => trivial) (f.tile b) [] (by rw [sizeLine_eq, List.length_nil]; omega) ?_
  have wi0 := (hf.wi hb 0).1
  refine ⟨fun m τ M' => ∃ d, m + d = f.n ∧ d ≤ (f.wst b d).1.length ∧ EwS f b p a D M (f.wst b d) d (fun _ => True) τ M', ⟨f.n, 0, rfl, Nat.zero_le _, _, _, _, _, _, _, rfl, trivial, by rw [updM_ne (Ne.symm hDp), updM_ne (Ne.symm hpa), updM_same], rfl, by rw [updM_ne (Ne.symm hDa), updM_same]; rfl, updM_same, fun y => ?_, ?_, ?_, wi0⟩, ?_⟩
  · rw [putAll_some]
    simp [-List.getD_eq_getElem?_getD, Fl.wst, getKV]
  · have := putAll_len (f.tile b) []
    simp [-List.getD_eq_getElem?_getD, Fl.wst] at this ⊢
    omega
  · exact (((Ext.refl M).put' hp).put' haM).put' hDM
  rintro m τ M' ⟨d, hmd, hdl, kvs, eK, t7, t9, t10, t11, rfl, _, h1, h2, h3, h4, h5, h6, h7, wi⟩
  have hq := hf.wq_le hb d
  simp [-List.getD_eq_getElem?_getD, h3]
  refine ⟨fun hlt => ?_, fun hge => ?_⟩
  · have hdq : d < (f.wst b d).1.length := by simpa [-List.getD_eq_getElem?_getD] using hlt
    obtain ⟨x, hx⟩ : ∃ x, (f.wst b d).1[d]? = some x := ⟨_, List.getElem?_eq_getElem hdq⟩
    have hxn := wi.lt x (List.mem_of_getElem? hx)
    have gx : (natL (f.wst b d).1)[d]? = some (.int (x : Int)) := by unfold natL; rw [List.getElem?_map, hx]; rfl
    have e1 := atI_at gx
    simp [-List.getD_eq_getElem?_getD, e1]
    refine ⟨f, x, rfl, hf, hxn, ?_⟩
    have hw1 : f.wst b (d + 1) = (f.tile x).foldl f.inner (f.wst b d) := by
      show (match (f.wst b d).1[d]? with | some x => _ | none => _) = _
      rw [hx]
    simp only [qFor]
    simp [-List.getD_eq_getElem?_getD]
    refine ⟨fun i τ M' => EwS f b p a D M (((f.tile x).take i).foldl f.inner (f.wst b d)) d (fun t => t = some (.tup (natL (f.tile x)))) τ M', ⟨kvs, eK, _, _, _, _, rfl, rfl, h1, h2, h3, h4, h5, h6, h7, wi⟩, ?_, ?_⟩
    · rintro i y τ M' hy ⟨kvs, eK, t7, t9, t10, t11, rfl, rfl, h1, h2, h3, h4, h5, h6, h7, wi⟩
      have hi : i < (f.tile x).length := by
        have := (List.getElem?_eq_some_iff.mp hy).1
        rwa [natL_len] at this
      rw [natL_get hi] at hy
      cases hy
      have hyn : (f.tile x).getD i 0 < f.n := hf.tile_lt hxn _ (getD_mem hi)
      have htk : ((f.tile x).take (i + 1)).foldl f.inner (f.wst b d) = f.inner (((f.tile x).take i).foldl f.inner (f.wst b d)) ((f.tile x).getD i 0) := by
        have e : (f.tile x).take (i + 1) = (f.tile x).take i ++ [(f.tile x).getD i 0] := by rw [List.take_add_one, List.getElem?_eq_getElem hi, List.getD_eq_getElem?_getD, List.getElem?_eq_getElem hi]; rfl
        rw [e, List.foldl_append]
        rfl
      have wi2 := (wi.inner hf hyn).1
      simp only [htk]
      generalize ((f.tile x).take i).foldl f.inner (f.wst b d) = z at h2 h3 h5 h6 wi wi2
      generalize (f.tile x).getD i 0 = y at hyn wi2
      have e2 := atI_s hyn
      have hsn := hf.st_lt .S hyn
      simp [-List.getD_eq_getElem?_getD, e2]
      refine ⟨D, eK, .inl ((f.st .S y : Nat) : Int), rfl, h4, rfl, ?_⟩
      have iff_ := h5 (f.st .S y)
      have hq2 := nodup_le _ _ wi2.nd wi2.lt
      have hpa' : p ≠ a := Ne.symm hpa
      have hda := hDa
      unfold Fl.inner at wi2 hq2 ⊢
      by_cases hin : f.st .S y ∈ z.2
      · rw [if_pos hin] at wi2 ⊢
        have gs := iff_.mpr hin
        have gn : (getKV eK (.inl ((f.st .S y : Nat) : Int))).isNone = false := by
          cases hg : getKV eK (.inl ((f.st .S y : Nat) : Int)) with
          | none => rw [hg] at gs; cases gs
          | some _ => rfl
        simp [-List.getD_eq_getElem?_getD, gn]
        exact ⟨kvs, eK, _, _, _, _, rfl, rfl, h1, h2, h3, h4, h5, h6, h7, wi⟩
      · rw [if_neg hin] at wi2 hq2 ⊢
        have gs : (getKV eK (.inl ((f.st .S y : Nat) : Int))).isSome = false := by
          cases hg : (getKV eK (.inl ((f.st .S y : Nat) : Int))).isSome with
          | false => rfl
          | true => exact absurd (iff_.mp hg) hin
        have gn : (getKV eK (.inl ((f.st .S y : Nat) : Int))).isNone = true := by
          cases hg : getKV eK (.inl ((f.st .S y : Nat) : Int)) with
          | none => rfl
          | some _ => rw [hg] at gs; cases gs
        have hq3 : z.1.length + 1 ≤ f.n := by simpa [-List.getD_eq_getElem?_getD] using hq2
        have hkl : kvs.length = z.1.length := by have := congrArg List.length h2; simpa [-List.getD_eq_getElem?_getD] using this
        have hnk : (getKV kvs (.inl ((f.st .S y : Nat) : Int))).isSome = false := by
          cases hg : (getKV kvs (.inl ((f.st .S y : Nat) : Int))).isSome with
          | false => rfl
          | true =>
            exfalso
            have := keys_some.mp hg
            rw [h2] at this
            obtain ⟨u, hu, e⟩ := List.mem_map.mp this
            have e' : u = f.st .S y := by injection e with e; omega
            subst e'
            exact hin ((wi.iff_ _).mpr ⟨_, hu, f.tile_self _⟩)
        have aM' : updM M' p (.dK (putKV kvs (.inl ((f.st .S y : Nat) : Int)) (.int (y : Int)))) a = some (.lst (natL z.1)) := by rw [updM_ne hpa]; exact h3
        simp [-List.getD_eq_getElem?_getD, gn]
        refine ⟨kvs, h1, .inl ((f.st .S y : Nat) : Int), rfl, by rw [hkl, sizeLine_eq]; omega, ?_⟩
        simp [-List.getD_eq_getElem?_getD, aM']
        unfold appP
        rw [aM']
        refine ⟨by rw [natL_len, sizeLine_eq]; omega, ?_⟩
        simp only [qFor]
        simp [-List.getD_eq_getElem?_getD]
        refine ⟨f, f.st .S y, rfl, hf, hsn, ?_⟩
        simp only [seqP_s1]
        have tl2 := (f.tile_len (f.st .S y)).2
        generalize hMx : updM (updM M' p (.dK (putKV kvs (.inl ((f.st .S y : Nat) : Int)) (.int (y : Int))))) a (.lst (natL z.1 ++ [.int ((f.st .S y : Nat) : Int)])) = Mx
        have hMD : Mx D = some (.dK eK) := by rw [← hMx, updM_ne hDa, updM_ne hDp]; exact h4
        have hMp : Mx p = some (.dK (putKV kvs (.inl ((f.st .S y : Nat) : Int)) (.int (y : Int)))) := by rw [← hMx, updM_ne hpa', updM_same]
        have hMa : Mx a = some (.lst (natL z.1 ++ [.int ((f.st .S y : Nat) : Int)])) := by rw [← hMx, updM_same]
        have hxM : Ext M Mx := by rw [← hMx]; exact (h7.put' hp).put' haM
        refine ⟨fun j τ M2 => EwT f b p a D (fun t9 => t9 = some (.tup (natL (f.tile x)))) d (updM Mx D (.dK (putAll eK ((f.tile (f.st .S y)).take j)))) τ M2, ⟨_, _, _, _, rfl, rfl, by rw [updM_id]; exact hMD⟩, ?_, ?_, ?_⟩
        · intro _ _ _ _
          trivial
        · rintro j u τ M2 hu ⟨t7, t9, t10, t11, rfl, rfl, rfl⟩
          have hj : j < (f.tile (f.st .S y)).length := by
            have := (List.getElem?_eq_some_iff.mp hu).1
            rwa [natL_len] at this
          rw [natL_get hj] at hu
          cases hu
          have e : (f.tile (f.st .S y)).take (j + 1) = (f.tile (f.st .S y)).take j ++ [(f.tile (f.st .S y)).getD j 0] := by rw [List.take_add_one, List.getElem?_eq_getElem hj, List.getD_eq_getElem?_getD, List.getElem?_eq_getElem hj]; rfl
          have hpl := putAll_len ((f.tile (f.st .S y)).take j) eK
          have htl : ((f.tile (f.st .S y)).take j).length ≤ 3 := by rw [List.length_take]; omega
          simp [-List.getD_eq_getElem?_getD]
          refine ⟨_, rfl, by rw [sizeLine_eq]; omega, _, _, _, _, rfl, rfl, ?_⟩
          rw [e, putAll_snoc]
        · rintro τ M2 ⟨t7, t9, t10, t11, rfl, rfl, rfl⟩
          rw [natL_len, List.take_length]
          have hpl := putAll_len (f.tile (f.st .S y)) eK
          refine ⟨_, _, _, _, _, _, rfl, rfl, by rw [updM_ne (Ne.symm hDp)]; exact hMp, ?_, by rw [updM_ne (Ne.symm hDa), hMa, natL_app, natL_one], updM_same, fun u => ?_, by simp [-List.getD_eq_getElem?_getD]; omega, hxM.put' hDM, wi2⟩
          · rw [putKV_new hnk, h2]
            simp [-List.getD_eq_getElem?_getD]
          · rw [putAll_some, h5 u, List.mem_append]
            exact Or.comm
    · rintro τ M' ⟨kvs, eK, t7, t9, t10, t11, rfl, rfl, h1, h2, h3, h4, h5, h6, h7, wi⟩
      simp only [natL_len, List.take_length, ← hw1] at h2 h3 h5 h6 wi
      simp [-List.getD_eq_getElem?_getD]
      have hgr : (f.wst b d).1.length ≤ (f.wst b (d + 1)).1.length := by
        obtain ⟨_, _, ⟨t, e⟩, _⟩ := (hf.wi hb d).1.fold hf (f.tile x) fun y hy => hf.tile_lt hxn y hy
        rw [hw1, e, List.length_append]
        omega
      exact ⟨m - 1, by omega, d + 1, by omega, by omega, kvs, eK, _, _, _, _, rfl, trivial, h1, h2, h3, h4, h5, h6, h7, wi⟩
  · have hde : (f.wst b d).1.length ≤ d := by simpa [-List.getD_eq_getElem?_getD] using hge
    refine h p kvs M' hp h7 h1 ?_
    rw [h2, Fl.walkQ_eq hde (by omega)]
theorem r_u_is_restored : BodyOk N_u_is_restored 2 sp_u_is_restored f_u_is_restored := by
  rintro xs M k ex ⟨l, t, rfl, hl, ht, hp, h⟩
  refine ⟨rfl, ?_⟩
  simp [f_u_is_restored]
  intro D hD
  refine comp_map hD (fun acc => trivial) (fun (n : Nat) => PV.int (n : Int)) (fun _ => true) (fun _ => PV.bl true) l [] (fun y hy => ?_) (by rw [sizeLine_eq, List.length_nil]; omega) ?_
  · obtain ⟨x, hx, rfl⟩ := mem_getD hy
    have hy := (hp x hx).1
    refine ⟨_, fun k hk => hk, fun acc k hk => hk, fun acc k _ hk => ?_⟩
    generalize l.getD x 0 = z at hy hk
    simp [way]
    refine whole_int ?_
    simp [way]
    have e : (z : Int) < l.length := by omega
    simpa [e, hy] using hk
  · have e0 : ([] ++ (l.filter fun _ => true).map fun _ => PV.bl true) = l.map fun _ => PV.bl true := by rw [List.nil_append, List.filter_eq_self.mpr (fun _ _ => rfl)]
    rw [e0]
    refine ⟨_, bls_const l, ?_⟩
    rw [all_const]
    simp only [Bool.not_true, way_f]
    refine ⟨by unfold rngB; omega, fun i τ M' => ∃ a b c, τ = [some (.tup (natL l)), some (.int t), a, b, c] ∧ M' = M, ⟨none, none, none, rfl, rfl⟩, ?_, ?_⟩
    · rintro i τ M' hi ⟨a, b, c, rfl, rfl⟩
      simp [-List.getD_eq_getElem?_getD]
      refine ⟨by unfold rngB; omega, fun j τ M2 => ∃ c, τ = [some (.tup (natL l)), some (.int t), some (.int ((itn (fun y => l.getD y 0) j i : Nat) : Int)), some (.int (i : Int)), c] ∧ M2 = M', ⟨c, rfl, rfl⟩, ?_, ?_⟩
      · rintro j τ M2 hj ⟨c, rfl, rfl⟩
        have hlt : itn (fun y => l.getD y 0) j i < l.length := itn_lt (p := fun y => l.getD y 0) (fun x hx => (hp x hx).1) j hi
        have e := atI_nat hlt
        have e2 := itn_succ (fun y => l.getD y 0) j i
        simp [-List.getD_eq_getElem?_getD, e, e2]
      · rintro τ M2 ⟨c, rfl, rfl⟩
        rw [(hp i hi).2]
        simp
    · rintro τ M' ⟨a, b, c, rfl, rfl⟩
      exact h
theorem r_u_seats : BodyOk N_u_seats 1 sp_u_seats f_u_seats := by
  rintro xs M k ex ⟨v, l, rfl, hv, hp, h⟩
  refine ⟨rfl, ?_⟩
  have hl := hp.le
  simp [f_u_seats, sizeLine_eq]
  refine cLen_sq hv ?_
  simp
  refine ⟨⟨by omega, by rw [sizeLine_eq]; omega⟩, fun w hw => ?_⟩
  simp only [qFor]
  simp
  refine ⟨v, l, rfl, sqv_ext hv ((Ext.refl M).put' hw), hp, fun a cs M1 ha e1 h1 hc hcl hall => ?_⟩
  simp [h1]
  have hn : w ≠ a := fun z => by rw [← z, updM_same] at ha; cases ha
  have hMw : M1 w = some (.lst (List.replicate l.length PV.non)) := e1 _ _ updM_same
  refine ⟨fun j τ M' => SeW v w M1 l (fun x => ∃ c ∈ cs.take j, x ∈ c) (fun _ => True) τ M', ⟨none, none, none, _, trivial, rfl, (updM_id hMw).symm, by simp, fun x ⟨c, hc, _⟩ => by simp at hc⟩, ?_, ?_, ?_⟩
  · rintro j τ M' ⟨t2, t3, t4, xs, _, rfl, rfl, _, _⟩
    rw [updM_ne (Ne.symm hn)]
    exact h1
  · rintro j y τ M' c hcj rfl ⟨t2, t3, t4, xs, _, rfl, rfl, hxs, hsg⟩
    have hcr := hc c (List.mem_of_getElem? hcj)
    simp
    refine ⟨fun i τ M' => SeW v w M1 l (fun x => (∃ c ∈ cs.take j, x ∈ c) ∨ x ∈ c.take i) (fun t => t = some (.tup (natL c))) τ M',
      ⟨_, t3, t4, xs, rfl, rfl, rfl, hxs, fun x hx => hsg x (hx.resolve_right (by simp))⟩, ?_, ?_⟩
    · rintro i y τ M' hy ⟨t2, t3, t4, xs, rfl, rfl, rfl, hxs, hsg⟩
      obtain ⟨z, hz, rfl⟩ := enumL_get hy
      have hi : i < c.length := by
        have := (List.getElem?_eq_some_iff.mp hz).1
        rwa [natL_len] at this
      rw [natL_get hi] at hz
      cases hz
      have hlt : c.getD i 0 < xs.length := by rw [hxs]; exact hcr.1.lt i hi
      simp [-List.getD_eq_getElem?_getD, sizeLine_eq, ixN_nat hlt]
      refine ⟨_, _, _, _, rfl, rfl, rfl, by simpa using hxs, fun x hx => ?_⟩
      refine sg_set hxs hcr.1 hi x ?_
      simp only [take_mem1 hi] at hx
      rcases hx with hx | hx | hx
      · exact .inl (hsg x (.inl hx))
      · exact .inl (hsg x (.inr hx))
      · exact .inr hx
    · rintro τ M' ⟨t2, t3, t4, xs, rfl, rfl, rfl, hxs, hsg⟩
      refine ⟨_, _, _, _, trivial, rfl, rfl, hxs, fun x hx => hsg x ?_⟩
      rw [List.take_length]
      exact (take_mem hcj).mp hx
  · rintro τ M' ⟨t2, t3, t4, xs, _, rfl, rfl, hxs, hsg⟩
    simp
    refine h w _ ?_ ⟨xs, sqv_ref updM_same, hxs, fun x hx => ?_⟩
    · refine (Ext.put' (fun b o e => ?_) hw)
      have hb : b ≠ w := fun z => by rw [z, hw] at e; cases e
      exact e1 _ _ (by rw [updM_ne hb]; exact e)
    · obtain ⟨c, hc1, hc2⟩ := hall x hx
      rw [List.take_length] at hsg
      exact hsg x ⟨c, hc1, hc2⟩
theorem r_L_ring : BodyOk N_L_ring 3 sp_L_ring f_L_ring := by
  rintro xs M k ex ⟨f, x, p, rfl, hf, hx, hp, h⟩
  refine ⟨rfl, ?_⟩
  have hle := hf.le
  have plt : ∀ x, x < f.n → f.stp p x < f.n := fun x hx => hf.stp_lt p hx
  have inj : ∀ x y, x < f.n → y < f.n → f.stp p x = f.stp p y → x = y := fun x y hx hy e => hf.stp_inj p hx hy e
  simp [-List.getD_eq_getElem?_getD, f_L_ring, sizeLine_eq]
  intro a ha
  refine ⟨fun m τ M' => RiW f x p a M m τ M', ⟨f.n, 0, by omega, rfl, rfl, fun j h1 h2 => absurd h2 (by omega)⟩, ?_⟩
  rintro m τ M' ⟨k2, hm, rfl, rfl, hno⟩
  have hkn : k2 ≤ f.n := orb_le plt inj hx hno
  have hz := itn_lt plt k2 hx
  have body : itn (f.stp p) k2 x ≠ x ∨ k2 = 0 → appP a (.int ((itn (f.stp p) k2 x : Nat) : Int)) (updM M a (.lst (natL (orb (f.stp p) x k2)))) fun _ M1 =>
      qAsg (qCall sp_L_led (qCons (qVar 0) (qCons (qVar 1) (qCons (qIf (qTest (qBin (opEq false) (qVar 2) (qC (PV.str { cps := #[84] })))) (qC (PV.str (Str.ofString "SR"))) (qC (PV.str (Str.ofString "Sr")))) qNil)))) (gSet 1)
        { nx := fun τ' M' => ∃ m', m' < m ∧ RiW f x p a M m' τ' M', rt := k, ex := fun e x M' => ex e M' } [some f.px, some (.int ((itn (f.stp p) k2 x : Nat) : Int)), some p.pv, some (.ref a)] M1 := fun hne => by
    have hno' : ∀ j, 1 ≤ j → j < k2 + 1 → itn (f.stp p) j x ≠ x := fun j h1 h2 => by
      by_cases e : j = k2
      · rcases hne with hne | hne
        · rw [e]; exact hne
        · omega
      · exact hno j h1 (by omega)
    have hk2 := orb_le plt inj hx hno'
    refine appP_ref updM_same (by rw [natL_len, orb_len]; omega) ?_
    have fin : RiW f x p a M (m - 1) [some f.px, some (.int ((f.stp p (itn (f.stp p) k2 x) : Nat) : Int)), some p.pv, some (.ref a)] (updM (updM M a (.lst (natL (orb (f.stp p) x k2)))) a (.lst (natL (orb (f.stp p) x k2) ++ [.int ((itn (f.stp p) k2 x : Nat) : Int)]))) :=
      ⟨k2 + 1, by omega, by rw [itn_succ (f.stp p) k2 x], by rw [updM_updM, orb_succ _ k2, natL_app]; rfl, hno'⟩
    cases p with
    | S => exact absurd rfl hp
    | T =>
      simp [-List.getD_eq_getElem?_getD, Pw.pv, Pw.code] at fin ⊢
      exact ⟨f, _, [.S, .R], rfl, hf, hz, by decide, m - 1, by omega, fin⟩
    | F =>
      simp [-List.getD_eq_getElem?_getD, Pw.pv, Pw.code] at fin ⊢
      exact ⟨f, _, [.S, .r], rfl, hf, hz, by decide, m - 1, by omega, fin⟩
  simp [-List.getD_eq_getElem?_getD]
  refine opEq_nil updM_same ?_
  by_cases k0 : k2 = 0
  · subst k0
    have b := body (.inr rfl)
    simp [-List.getD_eq_getElem?_getD, orb] at b ⊢
    exact b
  · obtain ⟨k1, rfl⟩ : ∃ k1, k2 = k1 + 1 := ⟨k2 - 1, by omega⟩
    have hemp : (orb (f.stp p) x (k1 + 1)).isEmpty = false := by
      cases e : orb (f.stp p) x (k1 + 1) with
      | nil => have := orb_len (p := f.stp p) x (k1 + 1); rw [e] at this; simp [-List.getD_eq_getElem?_getD] at this
      | cons _ _ => rfl
    have e0 : atI (natL (orb (f.stp p) x (k1 + 1))) 0 = some (.int (x : Int)) := by
      have := atI_nat (l := orb (f.stp p) x (k1 + 1)) (x := 0) (by rw [orb_len]; omega)
      rw [orb_get (by omega)] at this
      exact this
    simp [-List.getD_eq_getElem?_getD, hemp, e0]
    refine ⟨fun hne => ?_, fun he => ?_⟩
    · have hne' : itn (f.stp p) (k1 + 1) x ≠ x := fun z => by simp [-List.getD_eq_getElem?_getD, z] at hne
      have b := body (.inl hne')
      simpa [-List.getD_eq_getElem?_getD] using b
    · have he' : itn (f.stp p) (k1 + 1) x = x := by
        have : ((itn (f.stp p) (k1 + 1) x : Nat) : Int) = (x : Int) := by simpa [-List.getD_eq_getElem?_getD] using he
        omega
      exact h a _ _ ha ((Ext.refl M).put' ha) updM_same (orb_ring plt hx (by omega) he') (by rw [orb_get (by omega)]; rfl)
theorem r_L_huge : BodyOk N_L_huge 1 sp_L_huge f_L_huge := by
  rintro xs M k ex ⟨a, n, rfl, hS, hn, h⟩
  refine ⟨rfl, ?_⟩
  have hlim : lim = 1000000000000 := rfl
  simp [f_L_huge, sizeLine_eq]
  refine ⟨a, 10, n, rfl, hS, by omega, by decide, by decide, fun r M1 h0 h1 u => ?_⟩
  simp
  refine ⟨by unfold rngB; omega, fun i τ M' => HuW a M n i τ M', ⟨0, none, rfl, by omega, by simp, u⟩, ?_, ?_⟩
  · rintro i τ M' hi ⟨z, t, rfl, z0, z1, u2⟩
    have hi' : i ≤ 9 := by omega
    have p1 : 2 ^ (20 * (i + 1)) = 2 ^ (20 * i) * 1048576 := by rw [Nat.mul_add, Nat.pow_add]
    have mo : MulOk z 1000000 := MulOk.right (by decide)
    simp [mo]
    refine ⟨a, 1000000, _, rfl, u2.1, by omega, by decide, by decide, fun r2 M2 h2 h3 u3 => ?_⟩
    simp
    refine ⟨_, _, rfl, by omega, ?_, (u2.trans u3).mono (by omega)⟩
    rw [p1]
    generalize 2 ^ (20 * i) = P at z1
    omega
  · rintro τ M' ⟨z, t, rfl, z0, z1, u2⟩
    simp
    refine ⟨a, 2, _, rfl, u2.1, by omega, by decide, by decide, fun r2 M2 h2 h3 u3 => ?_⟩
    have zb : z.natAbs < 2 ^ 210 := Nat.lt_of_lt_of_le z1 (Nat.pow_le_pow_right (by decide) (by omega))
    have up := (u2.trans u3).mono (j := n + 12) (by omega)
    simp
    exact ⟨fun _ => h _ _ zb up, fun _ => h _ _ (by rw [Int.natAbs_neg]; exact zb) up⟩
theorem r_L_mixed : BodyOk N_L_mixed 2 sp_L_mixed f_L_mixed := by
  rintro xs M k ex ⟨a, n, v, l, rfl, hS, hn, hv, hl, h⟩
  refine ⟨rfl, ?_⟩
  simp [-List.getD_eq_getElem?_getD, f_L_mixed, sizeLine_eq]
  refine seqP_sq hv fun p1 h1 p2 h2 => ?_
  have h12 : p2 ≠ p1 := fun z => by rw [z, updM_same] at h2; cases h2
  have h2M : M p2 = none := by rw [updM_ne h12] at h2; exact h2
  have n1 := hS.ne h1
  have n2 := hS.ne h2M
  have hlim : lim = 1000000000000 := rfl
  refine ⟨fun m τ M' => MxW a p1 p2 v M n l m τ M', ⟨l.length, l, [], rfl, rfl, by rw [updM_ne (Ne.symm h12), updM_same], by rw [updM_same]; rfl, by simp [-List.getD_eq_getElem?_getD], (hS.put n1).put n2, ((Up.refl M a).put h1).put h2M⟩, ?_⟩
  rintro m τ M' ⟨rest, found, rfl, rfl, e1, e2, hp, hS', hU⟩
  have hpl := hp.length_eq
  rw [List.length_append] at hpl
  simp [-List.getD_eq_getElem?_getD]
  refine opEq_nil e1 ?_
  simp [-List.getD_eq_getElem?_getD]
  refine ⟨fun hne => ?_, fun he => ?_⟩
  · have hne' : rest ≠ [] := by intro z; subst z; simp [-List.getD_eq_getElem?_getD] at hne
    have hpos : 0 < rest.length := List.length_pos_iff.mpr hne'
    simp [-List.getD_eq_getElem?_getD, e1, e2]
    refine ⟨a, rest.length, _, rfl, hS', by omega, by omega, by omega, fun r M2 r0 r1 u => ?_⟩
    obtain ⟨i, rfl⟩ := Int.eq_ofNat_of_zero_le r0
    have hi : i < rest.length := by omega
    refine popAt_ref (by rw [u.2 p1 n1]; exact e1) hi (by omega) ?_
    refine appP_ref (by rw [updM_ne h12, u.2 p2 n2]; exact e2) (by rw [natL_len]; omega) ?_
    have gi := getD_at hi
    have el : (rest.eraseIdx i).length = rest.length - 1 := List.length_eraseIdx_of_lt hi
    refine ⟨rest.length - 1, by omega, rest.eraseIdx i, found ++ [rest.getD i 0], el.symm, rfl, by rw [updM_ne (Ne.symm h12), updM_same], by rw [updM_same, natL_app]; rfl, ?_, ?_, ((hU.trans (Up.of u)).put h1).put h2M⟩
    · rw [List.append_assoc]
      exact ((erase_perm rest i gi).append_left found).trans hp
    · rw [List.length_append]
      exact (((u.1.put n1).put n2).mono (by simp [-List.getD_eq_getElem?_getD]; omega))
  · have he' : rest = [] := by simpa [-List.getD_eq_getElem?_getD] using he
    subst he'
    refine h p2 found M' (by simpa [-List.getD_eq_getElem?_getD] using hp) h2M e2 ?_ hU
    simp [-List.getD_eq_getElem?_getD] at hpl
    rw [← hpl]
    exact hS'
theorem r_L_times : BodyOk N_L_times 2 sp_L_times f_L_times := by
  rintro xs M k ex ⟨a, b, c, d, e, f, g, h, rfl, ⟨i, j, hi, hj, h0, h1, hz⟩, hk⟩
  refine ⟨rfl, ?_⟩
  have mo : ∀ {x y : Int}, x.natAbs < 2 ^ i → y.natAbs < 2 ^ j → MulOk x y := fun hx hy => MulOk.of hx hy h0 h1 (by omega)
  obtain ⟨a1, a2, a3, a4⟩ := hi
  obtain ⟨b1, b2, b3, b4⟩ := hj
  simp [f_L_times, sizeLine_eq, mo a1 b1, mo a1 b2, mo a2 b3, mo a2 b4, mo a3 b1, mo a3 b2, mo a4 b3, mo a4 b4, sp_L_signed]
  exact ⟨_, _, _, _, ⟨⟨rfl, rfl⟩, rfl, rfl⟩, hk⟩
theorem r_L_back : BodyOk N_L_back 1 sp_L_back f_L_back := by
  rintro xs M k ex ⟨a, b, c, d, rfl, h⟩
  refine ⟨rfl, ?_⟩
  simp [f_L_back, sizeLine_eq, sp_L_signed]
  exact ⟨_, _, _, _, ⟨⟨rfl, rfl⟩, rfl, rfl⟩, h⟩
theorem r_u_has_determinant_one : BodyOk N_u_has_determinant_one 1 sp_u_has_determinant_one f_u_has_determinant_one := by
  rintro xs M k ex ⟨v, rfl, hf, hr, h⟩
  refine ⟨rfl, ?_⟩
  cases v with
  | tup xs =>
    rcases xs with _ | ⟨x, _ | ⟨y, _ | ⟨z, r⟩⟩⟩
    · simpa [f_u_has_determinant_one, way, hasDet, asMt] using h
    · simpa [f_u_has_determinant_one, way, hasDet, asMt] using h
    · simp [fineV] at hf
      simp [f_u_has_determinant_one, way, atI, ixN]
      refine row_of hf.1 ⟨fun z => ?_, fun z => row_of hf.2 ⟨fun z2 => ?_, fun z2 => ?_⟩⟩
      · simpa [hasDet, asMt_row (.inl z)] using h
      · simpa [hasDet, asMt_row (.inr z2)] using h
      · obtain ⟨a, b, rfl⟩ := isRow_iff z
        obtain ⟨c, d, rfl⟩ := isRow_iff z2
        obtain ⟨n, ⟨h1, h2, h3, h4⟩, h0, hn⟩ := hr ⟨a, b, c, d⟩ rfl
        have mo : ∀ {x y : Int}, x.natAbs < 2 ^ n → y.natAbs < 2 ^ n → MulOk x y := fun hx hy => MulOk.of hx hy h0 h0 (by omega)
        simp [mo h1 h4, mo h2 h3]
        exact h
    · have e : hasDet (.tup (x :: y :: z :: r)) = false := by simp [hasDet, asMt]
      rw [e] at h
      have ne : ¬ ((r.length : Int) + 1 + 1 + 1 = 2) := by omega
      simp [f_u_has_determinant_one, way, ne]
      exact h
  | ty n => cases hf
  | ref n => cases hf
  | tpx n => cases hf
  | _ => simpa [f_u_has_determinant_one, hasDet, asMt] using h
theorem r_power_tables : BodyOk N_power_tables 1 sp_power_tables f_power_tables := by
  rintro xs M k ex ⟨f, rfl, hf, h⟩
  refine ⟨rfl, ?_⟩
  have hl := hf.le
  simp [f_power_tables, sizeLine_eq, qKV]
  refine ⟨f, rfl, hf, fun a M1 e1 h1 => ?_⟩
  simp [h1]
  refine ⟨_, rfl, _, rfl, _, rfl, _, rfl, _, rfl, _, rfl, fun p hp => ?_⟩
  refine ⟨_, f.s, rfl, rfl, prm_of hf .S rfl s_get, fun a1 M2 e2 t1 => ?_⟩
  simp only [seqP_s1]
  intro D hD
  refine comp_map hD (fun acc => trivial) (fun (i : Nat) => PV.int (i : Int)) (fun _ => true) (fun y => PV.int ((f.st .R y : Nat) : Int)) f.s [] (fun y hy => ?_) (by rw [sizeLine_eq, List.length_nil]; have : f.s.length ≤ 120 := hl; omega) ?_
  · obtain ⟨x, hx, rfl⟩ := mem_getD hy
    have hy := (hf.sr x hx).1
    have hy' : f.s.getD x 0 < f.n := hy
    refine ⟨_, fun k hk => hk, fun acc k hk => hk, fun acc k _ hk => ?_⟩
    generalize f.s.getD x 0 = z at hy' hk
    have e1 := atI_r hf hy'
    simp [e1]
    exact hk
  rw [List.nil_append, List.filter_eq_self.mpr (fun _ _ => rfl), rowT_map]
  refine ⟨_, f.rowT, rfl, rfl, prm_of hf .T (rowT_len f) T_get, fun a2 M3 e3 t2 => ?_⟩
  simp only [seqP_s1]
  intro D2 hD2
  refine comp_map hD2 (fun acc => trivial) (fun (i : Nat) => PV.int (i : Int)) (fun _ => true) (fun y => PV.int ((f.st .r y : Nat) : Int)) f.s [] (fun y hy => ?_) (by rw [sizeLine_eq, List.length_nil]; have : f.s.length ≤ 120 := hl; omega) ?_
  · obtain ⟨x, hx, rfl⟩ := mem_getD hy
    have hy := (hf.sr x hx).1
    have hy' : f.s.getD x 0 < f.n := hy
    refine ⟨_, fun k hk => hk, fun acc k hk => hk, fun acc k _ hk => ?_⟩
    generalize f.s.getD x 0 = z at hy' hk
    have e1 : atI (natL f.back) (z : Int) = some (.int ((f.st .r z : Nat) : Int)) := by
      rw [atI_nat (by rw [back_len]; exact hy')]
      unfold Fl.back
      rw [range_get hy']
    simp [e1]
    exact hk
  rw [List.nil_append, List.filter_eq_self.mpr (fun _ _ => rfl), rowF_map]
  refine ⟨_, f.rowF, rfl, rfl, prm_of hf .F (rowF_len f) F_get, fun a3 M4 e4 t3 => ?_⟩
  have hp4 : M4 p = some (.dK []) := e4 _ _ (e3 _ _ (e2 _ _ updM_same))
  refine ⟨hp4, h p _ ?_ ?_⟩
  · refine (e1.trans (fun b o e => ?_)).put' (e1.none hp)
    have hb : b ≠ p := fun z => by rw [z, hp] at e; cases e
    exact e4 _ _ (e3 _ _ (e2 _ _ (by rw [updM_ne hb]; exact e)))
  · exact ⟨_, _, _, updM_same, ((t1.ext e3).ext e4).put hp4, (t2.ext e4).put hp4, t3.put hp4⟩
theorem r_u_walked : BodyOk N_u_walked 2 sp_u_walked f_u_walked := by
  rintro xs M k ex ⟨f, b, rfl, hf, hb, h⟩
  refine ⟨rfl, ?_⟩
  simp [f_u_walked, sizeLine_eq]
  refine ⟨f, b, rfl, hf, hb, fun e kvs M1 he e1 h1 hk => ?_⟩
  simp [h1]
  intro D hD
  have hks : kvs.map (fun p => keyV p.1) = (f.walkQ b).map fun (x : Nat) => PV.int (x : Int) := by
    have := congrArg (List.map keyV) hk
    rw [List.map_map, List.map_map] at this
    exact this
  rw [hks]
  have hw := hf.wi hb f.n
  have hwl := hf.wq_le hb f.n
  have hle := hf.le
  refine walk_comp hf hD _ [] (fun x hx => hw.1.lt x hx) (by rw [sizeLine_eq, List.length_nil]; have : (f.walkQ b).length ≤ f.n := hwl; omega) ?_
  refine h _ fun a o ha => ?_
  have hne : a ≠ e := fun z => by rw [z, he] at ha; cases ha
  unfold delM
  rw [if_neg hne]
  exact e1 a o ha
theorem r_L_spun : BodyOk N_L_spun 3 sp_L_spun f_L_spun := by
  rintro xs M k ex ⟨f, x, v, ps, rfl, hf, hx, hv, hS, h⟩
  refine ⟨rfl, ?_⟩
  simp [-List.getD_eq_getElem?_getD, f_L_spun, sizeLine_eq]
  simp only [qFor]
  simp [-List.getD_eq_getElem?_getD]
  refine seqP_sq hv ?_
  refine ⟨fun i τ M' => SpW f x v ps M i τ M', ⟨none, none, none, rfl, Ext.refl M⟩, ?_, ?_, ?_⟩
  · rintro i τ M' ⟨t3, t4, t5, rfl, he⟩
    exact stays_sq (sqv_ext hv he)
  · rintro i y τ M' hy ⟨t3, t4, t5, rfl, he⟩
    rw [List.getElem?_map] at hy
    obtain ⟨⟨p, e⟩, hp, rfl⟩ := Option.map_eq_some_iff.mp hy
    have hpi := hS (p, e) (List.mem_of_getElem? hp)
    have htk : f.act ((ps.take (i + 1)).flatMap lopZ) x = f.act (lopZ (p, e)) (f.act ((ps.take i).flatMap lopZ) x) := by
      rw [List.take_add_one, hp]
      exact act_flat _ _ _
    have hlt := hf.act_lt ((ps.take i).flatMap lopZ) hx
    generalize f.act ((ps.take i).flatMap lopZ) x = z at hlt htk
    have es := atI_s hlt
    have ring : p ≠ .S → ∀ kk : PV → PM → Prop, (∀ (w : Addr) (c : List Nat) (M2 : PM), Ext M' M2 → M2 w = some (.lst (natL c)) → 0 < c.length → ∀ q : Nat, e % (c.length : Int) = (q : Int) → q < c.length → c.getD q 0 = f.act (lopZ (p, e)) z → kk (.ref w) M2) → ∀ ex, sp_L_ring [f.px, .int (z : Int), p.pv] M' kk ex := fun hne kk hk ex => by
      refine ⟨f, z, p, rfl, hf, hlt, hne, fun w c M2 hw he2 h2 r h0 => ?_⟩
      obtain ⟨q, q1, q2, q3⟩ := cat_ix r.pos e
      refine hk w c M2 he2 h2 r.pos q q2 q1 ?_
      have := hf.pow r hpi 0
      have c0 : cat c 0 = z := by have := cat_at (c := c) (i := 0) r.pos; rw [h0] at this; exact this
      rw [c0, Int.zero_add] at this
      rw [← q3, this]
    cases p with
    | S =>
      simp [-List.getD_eq_getElem?_getD, pwv, Pw.pv, Pw.code, Fl.px, es]
      exact ⟨_, _, _, by rw [htk]; rfl, he⟩
    | T =>
      have := ring (by simp [-List.getD_eq_getElem?_getD])
      simp [-List.getD_eq_getElem?_getD, pwv, Pw.pv, Pw.code] at this ⊢
      refine this _ (fun w c M2 he2 h2 hpos q q1 q2 q3 => ?_) _
      have hpos' : 0 < (c.length : Int) := by omega
      have e2 := atI_nat q2
      rw [q3] at e2
      simp [-List.getD_eq_getElem?_getD, h2, q1, e2, hpos', hpos]
      exact ⟨_, _, _, by rw [htk], he.trans he2⟩
    | F =>
      have := ring (by simp [-List.getD_eq_getElem?_getD])
      simp [-List.getD_eq_getElem?_getD, pwv, Pw.pv, Pw.code] at this ⊢
      refine this _ (fun w c M2 he2 h2 hpos q q1 q2 q3 => ?_) _
      have hpos' : 0 < (c.length : Int) := by omega
      have e2 := atI_nat q2
      rw [q3] at e2
      simp [-List.getD_eq_getElem?_getD, h2, q1, e2, hpos', hpos]
      exact ⟨_, _, _, by rw [htk], he.trans he2⟩
  · rintro τ M' ⟨t3, t4, t5, rfl, he⟩
    simp only [List.length_map, List.take_length]
    exact h M' he
theorem r_L_spins : BodyOk N_L_spins 1 sp_L_spins f_L_spins := by
  rintro xs M k ex ⟨a, n, rfl, hS, hn, h⟩
  refine ⟨rfl, ?_⟩
  have hlim : lim = 1000000000000 := rfl
  simp [f_L_spins]
  intro q hq
  have nq := hS.ne hq
  refine ⟨a, 5, n, rfl, hS.put nq, by omega, by decide, by decide, fun r M1 h0 h1 u => ?_⟩
  simp
  refine ⟨by unfold rngB; omega, fun i τ M' => SnW a q M n i τ M', ⟨[], _, _, _, rfl, rfl, fun p hp => by (cases hp), fun p hp => by (cases hp), by rw [u.2 q nq, updM_same]; rfl, u.1, ((Up.refl M a).put hq).trans (Up.of u)⟩, ?_, ?_⟩
  · rintro i τ M' hi ⟨ps, t2, t3, t4, rfl, hl, hS1, hb, hM, hS', hU⟩
    simp
    refine ⟨by rw [sizeLine_eq]; omega, a, 3, _, rfl, hS', by omega, by decide, by decide, fun r2 M2 h2 h3 u2 => ?_⟩
    have step : ∀ (p : Pw) (z : Int) (M3 : PM) (t4 : Option PV) , z.natAbs < 2 ^ 210 → (p = .S → z = 1) → M3 q = some (.lst (ps.map pwv)) → Src M3 a (n + 1 + 19 * (i + 1)) → Up M M3 a →
        appP q (.tup [p.pv, .int z]) M3 fun _ M4 => SnW a q M n (i + 1) [some (.ref a), some (.ref q), some (.int (i : Int)), some p.pv, t4] M4 := fun p z M3 t4 hz hp hM3 hS3 hU3 => by
      refine appP_ref hM3 (by simp; omega) ⟨ps ++ [(p, z)], _, _, _, rfl, by simp [hl], fun y hy => ?_, fun y hy => ?_, by rw [updM_same]; simp [pwv], hS3.put nq, hU3.put hq⟩
      · rcases List.mem_append.mp hy with hy | hy
        · exact hS1 y hy
        · rw [List.mem_singleton] at hy; subst hy; exact hp
      · rcases List.mem_append.mp hy with hy | hy
        · exact hb y hy
        · rw [List.mem_singleton] at hy; subst hy; exact hz
    have fin : ∀ (p : Pw) (z : Int) (M3 : PM), z.natAbs < 2 ^ 210 → SrcUp M2 M3 a (n + 1 + 19 * i + 14) →
        (∃ xs, M3 q = some (.lst xs)) ∧ (p = .S → 2 ≤ sizeLine ∧ appP q (.tup [p.pv, .int 1]) M3 fun _ M4 => SnW a q M n (i + 1) [some (.ref a), some (.ref q), some (.int (i : Int)), some p.pv, some (.int z)] M4) ∧
          (p ≠ .S → 2 ≤ sizeLine ∧ appP q (.tup [p.pv, .int z]) M3 fun _ M4 => SnW a q M n (i + 1) [some (.ref a), some (.ref q), some (.int (i : Int)), some p.pv, some (.int z)] M4) := fun p z M3 hz u3 => by
      have hM3 : M3 q = some (.lst (ps.map pwv)) := by rw [u3.2 q nq, u2.2 q nq]; exact hM
      have hU3 := (hU.trans (Up.of u2)).trans (Up.of u3)
      have hS3 := u3.1.mono (j := n + 1 + 19 * (i + 1)) (by omega)
      exact ⟨⟨_, hM3⟩, fun _ => ⟨by rw [sizeLine_eq]; omega, step p 1 M3 _ (by decide) (fun _ => rfl) hM3 hS3 hU3⟩, fun hne => ⟨by rw [sizeLine_eq]; omega, step p z M3 _ hz (fun e => absurd e hne) hM3 hS3 hU3⟩⟩
    rcases (show r2 = 0 ∨ r2 = 1 ∨ r2 = 2 by omega) with e | e | e <;> subst e <;> simp <;> refine ⟨a, 2, _, rfl, u2.1, by omega, by decide, by decide, fun r3 M3 h4 h5 u3 => ?_⟩ <;> simp <;>
      refine ⟨fun _ => ⟨a, _, rfl, u3.1, by omega, fun z M4 hz u4 => ?_⟩, fun _ => ⟨a, 9, _, rfl, u3.1, by omega, by decide, by decide, fun r4 M4 h6 h7 u4 => ?_⟩⟩ <;> simp
    · have := fin .T z M4 hz ((u3.trans u4).mono (by omega))
      exact ⟨this.1, this.2.2 (by decide)⟩
    · have := fin .T (r4 - 4) M4 (by omega) ((u3.trans u4).mono (by omega))
      exact ⟨this.1, this.2.2 (by decide)⟩
    · have := fin .F z M4 hz ((u3.trans u4).mono (by omega))
      exact ⟨this.1, this.2.2 (by decide)⟩
    · have := fin .F (r4 - 4) M4 (by omega) ((u3.trans u4).mono (by omega))
      exact ⟨this.1, this.2.2 (by decide)⟩
    · have := fin .S z M4 hz ((u3.trans u4).mono (by omega))
      exact ⟨this.1, this.2.1 rfl⟩
    · have := fin .S (r4 - 4) M4 (by omega) ((u3.trans u4).mono (by omega))
      exact ⟨this.1, this.2.1 rfl⟩
  · rintro τ M' ⟨ps, t2, t3, t4, rfl, hl, hS1, hb, hM, hS', hU⟩
    simp
    exact h q ps M' ⟨by omega, hS1, hb⟩ hq hM (hS'.mono (by omega)) hU
theorem r_L_spun_matrix : BodyOk N_L_spun_matrix 1 sp_L_spun_matrix f_L_spun_matrix := by
  rintro xs M k ex ⟨v, ps, rfl, hv, ⟨hl, hS, hb⟩, h⟩
  refine ⟨rfl, ?_⟩
  simp [f_L_spun_matrix, -Mt.pv, -mat]
  simp only [qFor]
  simp [-Mt.pv, -mat]
  refine ⟨by rw [sizeLine_eq]; omega, seqP_sq hv ?_⟩
  refine ⟨fun i τ M' => SmW v ps M i τ M', ⟨none, none, rfl, rfl, Mt.one_bd⟩, ?_, ?_, ?_⟩
  · rintro i τ M' ⟨t2, t3, rfl, rfl, _⟩
    exact stays_sq hv
  · rintro i y τ M' hy ⟨t2, t3, rfl, rfl, hbd⟩
    rw [List.getElem?_map] at hy
    obtain ⟨⟨p, e⟩, hp, rfl⟩ := Option.map_eq_some_iff.mp hy
    have he := hb (p, e) (List.mem_of_getElem? hp)
    have hi : i < ps.length := (List.getElem?_eq_some_iff.mp hp).1
    have htk : ps.take (i + 1) = ps.take i ++ [(p, e)] := by rw [List.take_add_one, hp]; rfl
    have hd := prodP_det (ps.take i)
    have pd := pm_det (p, e)
    have pb : (pm (p, e)).bd 211 := pm_bdZ he
    have nx : (((prodP (ps.take i)).nf.mul (pm (p, e))).sg = (prodP (ps.take (i + 1))).nf) ∧ ((prodP (ps.take (i + 1))).nf).bd (1 + 300 * (i + 1)) := by
      have e1 : prodP (ps.take (i + 1)) = (prodP (ps.take i)).mul (pm (p, e)) := by
        rw [htk, prodP_app]
        congr 1
        show (pm (p, e)).mul Mt.one = _
        rw [Mt.mul_one]
      have e2 : ((prodP (ps.take i)).nf.mul (pm (p, e))).sg = (prodP (ps.take (i + 1))).nf := by
        rw [Mt.sg_nf (Mt.det1_mul (by rw [Mt.det_nf]; exact hd) pd), Mt.nf_mul_l hd pd, e1]
      exact ⟨e2, by rw [← e2]; exact (sg_bd ((hbd.mul pb).mono (by omega)))⟩
    have go : ∀ (kk : PV → PM → Prop) ex, kk (prodP (ps.take (i + 1))).nf.pv M' → sp_L_times [(prodP (ps.take i)).nf.pv, (pm (p, e)).pv] M' kk ex := fun kk ex hk => by
      refine ⟨_, _, _, _, _, _, _, _, rfl, ⟨1 + 300 * i, 211, hbd, pb, by omega, by omega, by omega⟩, ?_⟩
      show kk ((prodP (ps.take i)).nf.mul (pm (p, e))).sg.pv M'
      rw [nx.1]
      exact hk
    cases p with
    | S =>
      simp [pwv, Pw.pv, Pw.code, -Mt.pv, -mat]
      exact ⟨by rw [sizeLine_eq]; omega, go _ _ ⟨_, _, rfl, rfl, nx.2⟩⟩
    | T =>
      simp [pwv, Pw.pv, Pw.code, -Mt.pv, -mat]
      exact ⟨by rw [sizeLine_eq]; omega, go _ _ ⟨_, _, rfl, rfl, nx.2⟩⟩
    | F =>
      simp [pwv, Pw.pv, Pw.code, -Mt.pv, -mat]
      exact ⟨by rw [sizeLine_eq]; omega, go _ _ ⟨_, _, rfl, rfl, nx.2⟩⟩
  · rintro τ M' ⟨t2, t3, rfl, rfl, hbd⟩
    simp only [List.length_map, List.take_length]
    exact h
theorem r_L_floor : BodyOk N_L_floor 2 sp_L_floor f_L_floor := by
  rintro xs M k ex ⟨a, n, t, rfl, hS, hn, ht1, ht2, h⟩
  refine ⟨rfl, ?_⟩
  have hlim : lim = 1000000000000 := rfl
  simp [-List.getD_eq_getElem?_getD, f_L_floor]
  intro ps h1 pl h2
  have h12 : pl ≠ ps := fun z => by rw [z, updM_same] at h2; cases h2
  have h2M : M pl = none := by rw [updM_ne h12] at h2; exact h2
  have n1 := hS.ne h1
  have n2 := hS.ne h2M
  refine ⟨a, t, n, rfl, (hS.put n1).put n2, by omega, by omega, by omega, fun r M1 r0 r1 u => ?_⟩
  obtain ⟨r, rfl⟩ := Int.eq_ofNat_of_zero_le r0
  simp [-List.getD_eq_getElem?_getD]
  have rest : ∀ m τ M', FlJ a t M n m τ M' →
      qWhile (qTest (qBin opGt (qCallB cLen (qCons (qVar 4) qNil)) (qC (PV.int 1))))
                        (qSeq
                          (qAsg
                            (qPopAt (qVar 4)
                              (qCall sp_L_next (qCons (qVar 0) (qCons (qCallB cLen (qCons (qVar 4) qNil)) qNil))))
                            (gSet 11))
                          (qIfS
                            (qTest
                              (qBin opGt (qCall sp_L_next (qCons (qVar 0) (qCons (qC (PV.int 3)) qNil)))
                                (qC (PV.int 0))))
                            (qSeq
                              (qAsg
                                (qPopAt (qVar 4)
                                  (qCall sp_L_next (qCons (qVar 0) (qCons (qCallB cLen (qCons (qVar 4) qNil)) qNil))))
                                (gSet 12))
                              (qAsg (qTup (qCons (qVar 12) (qCons (qVar 11) qNil)))
                                (gTupQ 2
                                  (gsCons (gItem (qVar 2) (qVar 11)) (gsCons (gItem (qVar 2) (qVar 12)) gsNil)))))
                            qNext))
                        {
                          nx := fun τ M =>
                            match τ[2]? with
                            | some (some x) =>
                              match τ[3]? with
                              | some (some x_1) =>
                                2 ≤ sizeLine ∧
                                match τ[0]? with
                                | some (some x_2) =>
                                  match τ[3]? with
                                  | some (some x_3) =>
                                    cLen [x_3] M fun p M1 =>
                                      lrgP [p] M1 fun p M1 =>
                                        sp_L_mixed [x_2, p] M1
                                          (fun p M1 =>
                                            sp_L_renamed [PV.tup [x, x_1], p] M1 (fun v M' => k v M') fun e M => ex e M)
                                          fun e M => ex e M
                                  | x => False
                                | x => False
                              | x => False
                            | x => False,
                          rt := k, ex := fun e x M' => ex e M' } τ M' := by
    intro m τ M' hJ
    refine ⟨fun m τ M' => FlJ a t M n m τ M', ⟨_, hJ⟩, ?_⟩
    clear hJ τ M' m
    rintro m τ M' ⟨f, L, ps, pl, t5, t6, t7, t8, t9, t10, t11, t12, rfl, rfl, W, hf1, hf2⟩
    have hLn := W.dr.loose_le
    simp [-List.getD_eq_getElem?_getD, W.l]
    refine ⟨fun hgt => ?_, fun hle => ?_⟩
    · have hgt' : 1 < L.length := by
        have : (1 : Int) < (L.length : Int) := by simpa [-List.getD_eq_getElem?_getD] using hgt
        omega
      have npl := hS.ne W.l0
      have nps := hS.ne W.s0
      refine ⟨a, L.length, _, rfl, W.src, by omega, by omega, by omega, fun r M2 r0 r1 u => ?_⟩
      obtain ⟨i, rfl⟩ := Int.eq_ofNat_of_zero_le r0
      have hi : i < L.length := by omega
      obtain ⟨E1, E2, E3, E4⟩ := erase_facts W.dr.nd (getD_at hi)
      have l2 : M2 pl = some (.lst (natL L)) := by rw [u.2 pl npl]; exact W.l
      have s2 : M2 ps = some (.lst (natL f.s)) := by rw [u.2 ps nps]; exact W.s
      refine popAt_ref l2 hi (by omega) ?_
      refine ⟨a, 3, _, rfl, u.1.put npl, by omega, by decide, by decide, fun r3 M3 r4 r5 u3 => ?_⟩
      have l3 : M3 pl = some (.lst (natL (L.eraseIdx i))) := by rw [u3.2 pl npl, updM_same]
      have s3 : M3 ps = some (.lst (natL f.s)) := by rw [u3.2 ps nps, updM_ne W.ne]; exact s2
      have up3 : Up M M3 a := ((W.up.trans (Up.of u)).put W.l0).trans (Up.of u3)
      simp [-List.getD_eq_getElem?_getD, l3]
      refine ⟨fun _ => ?_, fun _ => ?_⟩
      · refine ⟨a, (L.eraseIdx i).length, _, rfl, u3.1, by omega, by omega, by omega, fun r M4 r0 r1 u4 => ?_⟩
        obtain ⟨i2, rfl⟩ := Int.eq_ofNat_of_zero_le r0
        have hi2 : i2 < (L.eraseIdx i).length := by omega
        obtain ⟨E5, E6, E7, E8⟩ := erase_facts E1 (getD_at hi2)
        have l4 : M4 pl = some (.lst (natL (L.eraseIdx i))) := by rw [u4.2 pl npl]; exact l3
        have s4 : M4 ps = some (.lst (natL f.s)) := by rw [u4.2 ps nps]; exact s3
        refine popAt_ref l4 hi2 (by omega) ?_
        have hx := W.dr.lo _ E3
        have hy := W.dr.lo _ (E2 _ E7).1
        have x1 : ixN f.s.length ((L.getD i 0 : Nat) : Int) = some (L.getD i 0) := ixN_nat hx.1
        have x2 : ixN f.s.length (((L.eraseIdx i).getD i2 0 : Nat) : Int) = some ((L.eraseIdx i).getD i2 0) := ixN_nat hy.1
        simp [-List.getD_eq_getElem?_getD, updM_ne W.ne, s4, x1, x2]
        rw [natL_set, natL_set]
        have dr := W.dr.link E3 (E2 _ E7).1 (Ne.symm (E2 _ E7).2) E5 fun z hz => by
          obtain ⟨z1, z2⟩ := E6 z hz
          obtain ⟨z3, z4⟩ := E2 z z1
          exact ⟨z3, z4, z2⟩
        have hn : (Fl.mk ((f.s.set (L.getD i 0) ((L.eraseIdx i).getD i2 0)).set ((L.eraseIdx i).getD i2 0) (L.getD i 0)) f.r).n = f.n := by simp [-List.getD_eq_getElem?_getD, Fl.n]
        refine ⟨by rw [sizeLine_eq]; omega, L.length - 2, by omega, ⟨(f.s.set (L.getD i 0) ((L.eraseIdx i).getD i2 0)).set ((L.eraseIdx i).getD i2 0) (L.getD i 0), f.r⟩, (L.eraseIdx i).eraseIdx i2, ps, pl, _, _, _, _, _, _, _, _, rfl, by omega, ⟨updM_same, by rw [updM_ne (Ne.symm W.ne), updM_same], W.ne, W.s0, W.l0, dr, ?_, ?_⟩, by rw [hn]; exact hf1, by rw [hn]; exact hf2⟩
        · exact ((u4.1.put npl).put nps).mono (by omega)
        · exact ((up3.trans (Up.of u4)).put W.l0).put W.s0
      · exact ⟨L.length - 1, by omega, f, L.eraseIdx i, ps, pl, _, _, _, _, _, _, _, _, rfl, by omega, ⟨s3, l3, W.ne, W.s0, W.l0, W.dr.weak E1 fun z hz => (E2 z hz).1, u3.1.mono (by omega), up3⟩, hf1, hf2⟩
    · have hrl : f.r.length = f.n := W.dr.len
      rw [hrl, rng_nat]
      refine ⟨by rw [sizeLine_eq]; omega, by omega, a, _, .lst (natL (List.range f.n)), List.range f.n, rfl, W.src, by omega, rfl, by rw [List.length_range]; omega, fun q nm M2 hp hq hM2 hS2 hU2 => ?_⟩
      have nps := hS.ne W.s0
      refine ⟨f, .ref ps, .lst (natL f.r), q, nm, rfl, sqv_ref (hU2 _ _ nps W.s), rfl, hM2, hrl, by omega, hp, fun j hj => ⟨(W.dr.sr j hj).1, (W.dr.rr j hj).1⟩, fun g M3 hR he => ?_⟩
      obtain ⟨ok, gn⟩ := hR.ok W.dr hf1 (by omega)
      rw [List.length_range] at hS2
      exact h g M3 ok (by omega) ((hS2.ext he).mono (by omega)) ((W.up.trans hU2).trans (Up.ext he))
  refine ⟨by unfold rngB; omega, fun i τ M' => FlI a t M n i τ M', ⟨⟨[], []⟩, [], ps, pl, _, _, _, _, _, _, _, _, rfl, ⟨?_, ?_, Ne.symm h12, h1, h2M, dr_nil, u.1, (((Up.refl M a).put h1).put h2M).trans (Up.of u)⟩, by simp [-List.getD_eq_getElem?_getD, Fl.n], fun _ => ⟨rfl, rfl⟩, fun hh => absurd hh (by omega)⟩, ?_, ?_⟩
  · rw [u.2 ps n1, updM_ne (Ne.symm h12), updM_same]; rfl
  · rw [u.2 pl n2, updM_same]; rfl
  · rintro i τ M' hi ⟨f, L, ps, pl, t5, t6, t7, t8, t9, t10, t11, t12, rfl, W, hf1, hf2, hf3⟩
    have hi : i ≤ 11 := by omega
    have hrl : f.r.length = f.n := W.dr.len
    have hsl : f.s.length = f.n := rfl
    have hLn := W.dr.loose_le
    have nps := hS.ne W.s0
    have npl := hS.ne W.l0
    simp [-List.getD_eq_getElem?_getD]
    rw [hrl]
    refine ⟨a, 4, _, rfl, W.src, by omega, by decide, by decide, fun r2 M2 h3 h4 u2 => ?_⟩
    have l2 : M2 pl = some (.lst (natL L)) := by rw [u2.2 pl npl]; exact W.l
    have s2 : M2 ps = some (.lst (natL f.s)) := by rw [u2.2 ps nps]; exact W.s
    have src2 := u2.1
    have up2 := W.up.trans (Up.of u2)
    clear u2
    simp [-List.getD_eq_getElem?_getD]
    refine ⟨fun _ => ?_, fun _ => ?_⟩
    · have hm : (1 : Nat) = 1 ∨ (1 : Nat) = 3 := by decide
      have hfl : (fresh f.n 1).length ≤ 3 := by simp [-List.getD_eq_getElem?_getD, fresh]
      refine ⟨by rw [sizeLine_eq]; omega, by unfold rngB; omega, fun D hD => ?_⟩
      refine comp_map hD (fun acc => trivial) (fun (i : Nat) => PV.int (0 + (i : Int))) (fun _ => true) (fun j => PV.int ((f.n + j : Nat) : Int)) (List.range 1) [] (fun y hy => ⟨_, fun k hk => hk, fun acc k hk => hk, fun acc k _ hk => by simpa [-List.getD_eq_getElem?_getD] using hk⟩) (by rw [sizeLine_eq, List.length_nil, List.length_range]; omega) ?_
      rw [List.nil_append, List.filter_eq_self.mpr (fun _ _ => rfl), show (List.range 1).map (fun j => PV.int ((f.n + j : Nat) : Int)) = natL (fresh f.n 1) from by unfold natL fresh; rw [List.map_map]; rfl]
      have c1 := cut_from1 (N := f.n) hm
      have c2 := cut_to1 (N := f.n) hm
      refine ⟨fun hi0 => ?_, fun hi0 => ?_⟩
      · have hi0' : 0 < i := by simpa [-List.getD_eq_getElem?_getD] using hi0
        refine opEq_nil l2 ?_
        simp [-List.getD_eq_getElem?_getD]
        refine ⟨fun hem => ?_, fun hne => ?_⟩
        · exact rest L.length _ _ ⟨f, L, ps, pl, _, _, _, _, _, _, _, _, rfl, rfl, ⟨s2, l2, W.ne, W.s0, W.l0, W.dr, src2.mono (by omega), up2⟩, hf3 hi0', by omega⟩
        · simp [-List.getD_eq_getElem?_getD, c1, c2]
          refine ⟨by rw [sizeLine_eq]; omega, by rw [sizeLine_eq]; omega, opAddM_ref s2 (by rw [natL_len, natL_len, sizeLine_eq]; omega) fun p hp => ?_⟩
          have pps : p ≠ ps := fun z => by rw [z, s2] at hp; cases hp
          have ppl : p ≠ pl := fun z => by rw [z, l2] at hp; cases hp
          have hpM := Up.none up2 src2 hp
          have hpa := src2.ne hp
          have hL0 : L ≠ [] := fun z => by subst z; simp [-List.getD_eq_getElem?_getD] at hne
          have hLp : 0 < L.length := List.length_pos_iff.mpr hL0
          rw [addT_s, addT_r]
          have lx : updM M2 p (.lst (natL (addT f 1).s)) pl = some (.lst (natL L)) := by rw [updM_ne (Ne.symm ppl)]; exact l2
          simp [-List.getD_eq_getElem?_getD, hi0', lx]
          refine ⟨a, L.length, _, rfl, src2.put hpa, by omega, by omega, by omega, fun r4 M4 r5 r6 u4 => ?_⟩
          obtain ⟨j, rfl⟩ := Int.eq_ofNat_of_zero_le r5
          have hj : j < L.length := by omega
          have dr := loose_next W.dr hj hm
          obtain ⟨E1, E2, E3, E4⟩ := erase_facts W.dr.nd (getD_at hj)
          have hat := (W.dr.lo _ E3).1
          have l4 : M4 pl = some (.lst (natL L)) := by rw [u4.2 pl npl]; exact lx
          have p4 : M4 p = some (.lst (natL (addT f 1).s)) := by rw [u4.2 p hpa, updM_same]
          refine popAt_ref l4 hj (by omega) ?_
          have aN := addT_len f 1
          have x1 : ixN (addT f 1).s.length ((L.getD j 0 : Nat) : Int) = some (L.getD j 0) := ixN_nat (by omega)
          have x2 : ixN (addT f 1).s.length ((f.n : Nat) : Int) = some f.n := ixN_nat (by omega)
          simp [-List.getD_eq_getElem?_getD, updM_ne ppl, p4, x1, x2, c1]
          refine ⟨by rw [sizeLine_eq]; omega, ?_⟩
          rw [natL_set, natL_set]
          refine opAddM_ref (p := pl) (by rw [updM_ne (Ne.symm ppl), updM_same]) (by rw [natL_len, natL_len, sizeLine_eq, List.length_tail]; omega) fun pl2 hq => ?_
          have qp : pl2 ≠ p := fun z => by rw [z, updM_same] at hq; cases hq
          have q2 : pl2 ≠ pl := fun z => by rw [z, updM_ne (Ne.symm ppl), updM_same] at hq; cases hq
          have s5 : Src (updM (updM M4 pl (.lst (natL (L.eraseIdx j)))) p (.lst (natL (((addT f 1).s.set (L.getD j 0) f.n).set f.n (L.getD j 0))))) a _ := (u4.1.put npl).put hpa
          have up5 : Up M (updM (updM M4 pl (.lst (natL (L.eraseIdx j)))) p (.lst (natL (((addT f 1).s.set (L.getD j 0) f.n).set f.n (L.getD j 0))))) a := ((((up2.put hpM).trans (Up.of u4))).put W.l0).put hpM
          have hqM := Up.none up5 s5 hq
          rw [← natL_app]
          refine ⟨⟨((addT f 1).s.set (L.getD j 0) f.n).set f.n (L.getD j 0), (addT f 1).r⟩, L.eraseIdx j ++ (fresh f.n 1).tail, p, pl2, _, _, _, _, _, _, _, _, rfl, ⟨by rw [updM_ne (Ne.symm qp), updM_same], updM_same, Ne.symm qp, hpM, hqM, dr, ?_, up5.put hqM⟩, ?_, fun hz => absurd hz (by omega), fun _ => ?_⟩
          · exact (s5.put (s5.ne hq)).mono (by omega)
          · show (((addT f 1).s.set (L.getD j 0) f.n).set f.n (L.getD j 0)).length ≤ _
            rw [List.length_set, List.length_set, aN]
            omega
          · show 1 ≤ (((addT f 1).s.set (L.getD j 0) f.n).set f.n (L.getD j 0)).length
            rw [List.length_set, List.length_set, aN]
            omega
      · have hi0' : i = 0 := by simpa [-List.getD_eq_getElem?_getD] using hi0
        obtain ⟨rfl, rfl⟩ := hf2 hi0'
        subst hi0'
        simp [-List.getD_eq_getElem?_getD, c1, c2]
        refine ⟨by rw [sizeLine_eq]; simp [-List.getD_eq_getElem?_getD, Fl.n, fresh], by rw [sizeLine_eq]; simp [-List.getD_eq_getElem?_getD, Fl.n, fresh], opAddM_ref s2 (by rw [natL_len, natL_len, sizeLine_eq]; simp [-List.getD_eq_getElem?_getD, Fl.n, fresh]) fun p hp => ?_⟩
        have pps : p ≠ ps := fun z => by rw [z, s2] at hp; cases hp
        have ppl : p ≠ pl := fun z => by rw [z, l2] at hp; cases hp
        have hpM := Up.none up2 src2 hp
        have hpa := src2.ne hp
        have er : natL [] ++ (natL (fresh (Fl.mk [] []).n 1).tail ++ natL ((fresh (Fl.mk [] []).n 1).take 1)) = natL (addT ⟨[], []⟩ 1).r := addT_r ⟨[], []⟩ 1
        have e0 : natL [] ++ natL (fresh (Fl.mk [] []).n 1) = natL (fresh 0 1) := rfl
        rw [addT_s, er]
        refine opAddM_ref (p := pl) (by rw [updM_ne (Ne.symm ppl)]; exact l2) (by rw [natL_len, natL_len, sizeLine_eq]; simp [-List.getD_eq_getElem?_getD, fresh]) fun pl2 hq => ?_
        have qp : pl2 ≠ p := fun z => by rw [z, updM_same] at hq; cases hq
        have hq2 : M2 pl2 = none := by rw [updM_ne qp] at hq; exact hq
        have hqM := Up.none up2 src2 hq2
        have dr := dr_first hm
        rw [e0]
        refine ⟨addT ⟨[], []⟩ 1, fresh 0 1, p, pl2, _, _, _, _, _, _, _, _, rfl, ⟨by rw [updM_ne (Ne.symm qp), updM_same], updM_same, Ne.symm qp, hpM, hqM, dr, ((src2.put hpa).put (src2.ne hq2)).mono (by omega), (up2.put hpM).put hqM⟩, by rw [addT_n]; simp [-List.getD_eq_getElem?_getD, Fl.n], fun hz => absurd hz (by omega), fun _ => by rw [addT_n]; omega⟩
    · have hm : (3 : Nat) = 1 ∨ (3 : Nat) = 3 := by decide
      have hfl : (fresh f.n 3).length ≤ 3 := by simp [-List.getD_eq_getElem?_getD, fresh]
      refine ⟨by rw [sizeLine_eq]; omega, by unfold rngB; omega, fun D hD => ?_⟩
      refine comp_map hD (fun acc => trivial) (fun (i : Nat) => PV.int (0 + (i : Int))) (fun _ => true) (fun j => PV.int ((f.n + j : Nat) : Int)) (List.range 3) [] (fun y hy => ⟨_, fun k hk => hk, fun acc k hk => hk, fun acc k _ hk => by simpa [-List.getD_eq_getElem?_getD] using hk⟩) (by rw [sizeLine_eq, List.length_nil, List.length_range]; omega) ?_
      rw [List.nil_append, List.filter_eq_self.mpr (fun _ _ => rfl), show (List.range 3).map (fun j => PV.int ((f.n + j : Nat) : Int)) = natL (fresh f.n 3) from by unfold natL fresh; rw [List.map_map]; rfl]
      have c1 := cut_from1 (N := f.n) hm
      have c2 := cut_to1 (N := f.n) hm
      refine ⟨fun hi0 => ?_, fun hi0 => ?_⟩
      · have hi0' : 0 < i := by simpa [-List.getD_eq_getElem?_getD] using hi0
        refine opEq_nil l2 ?_
        simp [-List.getD_eq_getElem?_getD]
        refine ⟨fun hem => ?_, fun hne => ?_⟩
        · exact rest L.length _ _ ⟨f, L, ps, pl, _, _, _, _, _, _, _, _, rfl, rfl, ⟨s2, l2, W.ne, W.s0, W.l0, W.dr, src2.mono (by omega), up2⟩, hf3 hi0', by omega⟩
        · simp [-List.getD_eq_getElem?_getD, c1, c2]
          refine ⟨by rw [sizeLine_eq]; omega, by rw [sizeLine_eq]; omega, opAddM_ref s2 (by rw [natL_len, natL_len, sizeLine_eq]; omega) fun p hp => ?_⟩
          have pps : p ≠ ps := fun z => by rw [z, s2] at hp; cases hp
          have ppl : p ≠ pl := fun z => by rw [z, l2] at hp; cases hp
          have hpM := Up.none up2 src2 hp
          have hpa := src2.ne hp
          have hL0 : L ≠ [] := fun z => by subst z; simp [-List.getD_eq_getElem?_getD] at hne
          have hLp : 0 < L.length := List.length_pos_iff.mpr hL0
          rw [addT_s, addT_r]
          have lx : updM M2 p (.lst (natL (addT f 3).s)) pl = some (.lst (natL L)) := by rw [updM_ne (Ne.symm ppl)]; exact l2
          simp [-List.getD_eq_getElem?_getD, hi0', lx]
          refine ⟨a, L.length, _, rfl, src2.put hpa, by omega, by omega, by omega, fun r4 M4 r5 r6 u4 => ?_⟩
          obtain ⟨j, rfl⟩ := Int.eq_ofNat_of_zero_le r5
          have hj : j < L.length := by omega
          have dr := loose_next W.dr hj hm
          obtain ⟨E1, E2, E3, E4⟩ := erase_facts W.dr.nd (getD_at hj)
          have hat := (W.dr.lo _ E3).1
          have l4 : M4 pl = some (.lst (natL L)) := by rw [u4.2 pl npl]; exact lx
          have p4 : M4 p = some (.lst (natL (addT f 3).s)) := by rw [u4.2 p hpa, updM_same]
          refine popAt_ref l4 hj (by omega) ?_
          have aN := addT_len f 3
          have x1 : ixN (addT f 3).s.length ((L.getD j 0 : Nat) : Int) = some (L.getD j 0) := ixN_nat (by omega)
          have x2 : ixN (addT f 3).s.length ((f.n : Nat) : Int) = some f.n := ixN_nat (by omega)
          simp [-List.getD_eq_getElem?_getD, updM_ne ppl, p4, x1, x2, c1]
          refine ⟨by rw [sizeLine_eq]; omega, ?_⟩
          rw [natL_set, natL_set]
          refine opAddM_ref (p := pl) (by rw [updM_ne (Ne.symm ppl), updM_same]) (by rw [natL_len, natL_len, sizeLine_eq, List.length_tail]; omega) fun pl2 hq => ?_
          have qp : pl2 ≠ p := fun z => by rw [z, updM_same] at hq; cases hq
          have q2 : pl2 ≠ pl := fun z => by rw [z, updM_ne (Ne.symm ppl), updM_same] at hq; cases hq
          have s5 : Src (updM (updM M4 pl (.lst (natL (L.eraseIdx j)))) p (.lst (natL (((addT f 3).s.set (L.getD j 0) f.n).set f.n (L.getD j 0))))) a _ := (u4.1.put npl).put hpa
          have up5 : Up M (updM (updM M4 pl (.lst (natL (L.eraseIdx j)))) p (.lst (natL (((addT f 3).s.set (L.getD j 0) f.n).set f.n (L.getD j 0))))) a := ((((up2.put hpM).trans (Up.of u4))).put W.l0).put hpM
          have hqM := Up.none up5 s5 hq
          rw [← natL_app]
          refine ⟨⟨((addT f 3).s.set (L.getD j 0) f.n).set f.n (L.getD j 0), (addT f 3).r⟩, L.eraseIdx j ++ (fresh f.n 3).tail, p, pl2, _, _, _, _, _, _, _, _, rfl, ⟨by rw [updM_ne (Ne.symm qp), updM_same], updM_same, Ne.symm qp, hpM, hqM, dr, ?_, up5.put hqM⟩, ?_, fun hz => absurd hz (by omega), fun _ => ?_⟩
          · exact (s5.put (s5.ne hq)).mono (by omega)
          · show (((addT f 3).s.set (L.getD j 0) f.n).set f.n (L.getD j 0)).length ≤ _
            rw [List.length_set, List.length_set, aN]
            omega
          · show 1 ≤ (((addT f 3).s.set (L.getD j 0) f.n).set f.n (L.getD j 0)).length
            rw [List.length_set, List.length_set, aN]
            omega
      · have hi0' : i = 0 := by simpa [-List.getD_eq_getElem?_getD] using hi0
        obtain ⟨rfl, rfl⟩ := hf2 hi0'
        subst hi0'
        simp [-List.getD_eq_getElem?_getD, c1, c2]
        refine ⟨by rw [sizeLine_eq]; simp [-List.getD_eq_getElem?_getD, Fl.n, fresh], by rw [sizeLine_eq]; simp [-List.getD_eq_getElem?_getD, Fl.n, fresh], opAddM_ref s2 (by rw [natL_len, natL_len, sizeLine_eq]; simp [-List.getD_eq_getElem?_getD, Fl.n, fresh]) fun p hp => ?_⟩
        have pps : p ≠ ps := fun z => by rw [z, s2] at hp; cases hp
        have ppl : p ≠ pl := fun z => by rw [z, l2] at hp; cases hp
        have hpM := Up.none up2 src2 hp
        have hpa := src2.ne hp
        have er : natL [] ++ (natL (fresh (Fl.mk [] []).n 3).tail ++ natL ((fresh (Fl.mk [] []).n 3).take 1)) = natL (addT ⟨[], []⟩ 3).r := addT_r ⟨[], []⟩ 3
        have e0 : natL [] ++ natL (fresh (Fl.mk [] []).n 3) = natL (fresh 0 3) := rfl
        rw [addT_s, er]
        refine opAddM_ref (p := pl) (by rw [updM_ne (Ne.symm ppl)]; exact l2) (by rw [natL_len, natL_len, sizeLine_eq]; simp [-List.getD_eq_getElem?_getD, fresh]) fun pl2 hq => ?_
        have qp : pl2 ≠ p := fun z => by rw [z, updM_same] at hq; cases hq
        have hq2 : M2 pl2 = none := by rw [updM_ne qp] at hq; exact hq
        have hqM := Up.none up2 src2 hq2
        have dr := dr_first hm
        rw [e0]
        refine ⟨addT ⟨[], []⟩ 3, fresh 0 3, p, pl2, _, _, _, _, _, _, _, _, rfl, ⟨by rw [updM_ne (Ne.symm qp), updM_same], updM_same, Ne.symm qp, hpM, hqM, dr, ((src2.put hpa).put (src2.ne hq2)).mono (by omega), (up2.put hpM).put hqM⟩, by rw [addT_n]; simp [-List.getD_eq_getElem?_getD, Fl.n], fun hz => absurd hz (by omega), fun _ => by rw [addT_n]; omega⟩
  · rintro τ M' ⟨f, L, ps, pl, t5, t6, t7, t8, t9, t10, t11, t12, rfl, W, hf1, hf2, hf3⟩
    have hLn := W.dr.loose_le
    have hp := hf3 (by omega)
    exact rest L.length _ _ ⟨f, L, ps, pl, _, _, _, _, _, _, _, _, rfl, rfl, ⟨W.s, W.l, W.ne, W.s0, W.l0, W.dr, W.src.mono (by omega), W.up⟩, hp, by omega⟩
theorem r_is_matrix : BodyOk N_is_matrix 1 sp_is_matrix f_is_matrix := by
  rintro xs M k ex ⟨v, rfl, hf, hr, h⟩
  refine ⟨rfl, ?_⟩
  simp [f_is_matrix, way]
  refine ⟨v, rfl, hf, hr, ?_⟩
  simp only [truthP_s2]
  refine ⟨fun hd => ?_, fun hd => ?_⟩
  · unfold hasDet at hd
    split at hd
    · rename_i m hm
      unfold asMt at hm
      split at hm
      · cases hm
        rename_i a b c d
        refine ⟨a, b, c, d, rfl, ?_⟩
        simp [opEq, datM, dat, datL, PyData.depth, PyData.depthAll, PyData.eqv, PyData.eqvAll, Bool.beq_eq_decide_eq]
        have hdm : (Mt.mk a b c d).det = 1 := of_decide_eq_true hd
        have e : isMat (.tup [.tup [.int a, .int b], .tup [.int c, .int d]]) = (decide ((Mt.mk a b c d).nf.a = a) && decide ((Mt.mk a b c d).nf.b = b) && (decide ((Mt.mk a b c d).nf.c = c) && decide ((Mt.mk a b c d).nf.d = d))) := by
          show (decide ((Mt.mk a b c d).det = 1) && decide ((Mt.mk a b c d).nf = Mt.mk a b c d)) = _
          rw [hdm]
          generalize (Mt.mk a b c d).nf = m
          cases m
          simp [Bool.and_assoc]
        rw [e] at h
        exact h
      · cases hm
    · cases hd
  · have e : isMat v = false := by
      unfold isMat hasDet at *
      split <;> simp_all
    rw [e] at h
    rw [hd]
    exact h
theorem r_u_wrong_part : BodyOk N_u_wrong_part 1 sp_u_wrong_part f_u_wrong_part := by
  rintro xs M k ex ⟨f, rfl, hf, h⟩
  refine ⟨rfl, ?_⟩
  have h2 := hf.le
  have h1 := hf.pos
  have hl := hf.len
  simp [f_u_wrong_part]
  refine ⟨f, rfl, hf.toform, ?_⟩
  simp [Fl.pv]
  refine ⟨f.s, 2, rfl, h2, by omega, fun x hx => ⟨(hf.sr x hx).1, (hf.sr x hx).2⟩, ?_⟩
  simp
  refine ⟨f.r, 3, rfl, by rw [hl]; exact h2, by omega, fun x hx => ?_, ?_⟩
  · rw [hl] at hx ⊢
    exact ⟨(hf.rr x hx).1, (hf.rr x hx).2⟩
  simp
  refine ⟨f, 0, rfl, hf.toform, h1, fun M' e => ?_⟩
  have hw := hf.walk_len (b := 0) h1
  have hw' : f.s.length ≤ (f.walkP 0).length := hw
  have z : ¬ (((f.walkP 0).length : Int) < f.s.length) := by omega
  have z2 : ¬ ((f.walkP 0).length < f.s.length) := by omega
  simp [z2]
  exact h M' e
theorem r_check_matrix : BodyOk N_check_matrix 1 sp_check_matrix f_check_matrix := by
  rintro xs M k ex ⟨v, rfl, hf, hr, hm, h⟩
  refine ⟨rfl, ?_⟩
  simp [f_check_matrix]
  refine ⟨v, rfl, hf, hr, ?_⟩
  rw [hm]
  simpa [way] using h
theorem r_check_floor : BodyOk N_check_floor 1 sp_check_floor f_check_floor := by
  rintro xs M k ex ⟨f, rfl, hf, h⟩
  refine ⟨rfl, ?_⟩
  simp [f_check_floor]
  refine ⟨f, rfl, hf, fun M' e => ?_⟩
  simp [way]
  exact h M' e
theorem r_expansion : BodyOk N_expansion 1 sp_expansion f_expansion := by
  rintro xs M k ex ⟨m, n, rfl, ok, bd, n0, hn, h⟩
  refine ⟨rfl, ?_⟩
  unfold expn at h
  obtain ⟨a, b, c, d⟩ := m
  have fin : ∀ (M' : PM) (D : Addr) (x6 : Option PV), (fullP ⟨a, b, c, d⟩).length ≤ 17000 → Ext M M' → M' D = some (.lst ((fullP ⟨a, b, c, d⟩).map pwv)) → ∀ D2, M' D2 = none →
      comp (.one 9) (qTest (qBin (opEq true) (qBin opIx (qVar 9) (qC (.int 1))) (qC (.int 0)))) (qVar 9) (fun M2 => M2 D = some (.lst ((fullP ⟨a, b, c, d⟩).map pwv))) D2 [some (mat a b c d), some (.int a), some (.int b), some (.int c), some (.int d), some (.ref D), x6, none, none, none] ((fullP ⟨a, b, c, d⟩).map pwv) [] (updM M' D2 (.lst [])) fun ys M2 => k (.tup ys) M2 := fun M' D x6 hlen hx hD D2 hD2 => by
    have hne : D ≠ D2 := fun z => by subst z; rw [hD] at hD2; cases hD2
    refine comp_map hD2 (fun acc => by rw [updM_ne hne]; exact hD) pwv keep pwv _ [] (fun p hp => ?_) (by rw [sizeLine_eq, List.length_nil]; omega) ?_
    · obtain ⟨p, n⟩ := p
      refine ⟨_, fun k hk => hk, fun acc k hk => ?_, fun acc k _ hk => by simpa using hk⟩
      have e : keep (p, n) = !decide (n = 0) := rfl
      rw [e] at hk
      simpa [pwv] using hk
    · rw [List.nil_append]
      exact h M' hx
  simp [f_expansion, way, sizeLine_eq]
  refine ⟨_, rfl, fine_mat, room_mat bd (by omega) (by omega), isMat_ok ok, ?_⟩
  simp [way, sizeLine_eq]
  refine ⟨fun hz a2 ha2 D hD => ?_, fun hz => ?_⟩
  · subst hz
    exact fin _ _ _ (by simp [fullP]) (Ext.put ha2) updM_same D hD
  · have hc : 0 < c := by have := ok.2; simp only at this; omega
    have dc : DivOk c := DivOk.of (b := n) hc bd.2.2.1 n0 (by omega)
    have ql : (quots a c).length ≤ 2 * n := quots_len2 n a c bd.2.2.1
    have hfull : fullP ⟨a, b, c, d⟩ = tagged true (quots a c) ++ (if (quots a c).length % 2 = 0 then [(.T, d / c)] else [(.S, 1), (.T, -((-d) / c))]) := by
      unfold fullP tailP
      rw [if_neg hz]
    have hfl : (fullP ⟨a, b, c, d⟩).length ≤ 17000 := by
      rw [hfull, List.length_append, tagged_len]
      split <;> simp <;> omega
    refine ⟨a, c, rfl, Int.le_of_lt hc, Nat.lt_of_lt_of_le bd.2.2.1 (Nat.pow_le_pow_right (by decide) hn), by omega, fun b1 hb1 => ?_⟩
    generalize quots a c = qs at ql hfull ⊢
    simp [enumL_idx]
    intro D hD
    have hne : b1 ≠ D := fun z => by subst z; rw [updM_same] at hD; cases hD
    have hMD : M D = none := by rw [updM_ne (Ne.symm hne)] at hD; exact hD
    refine comp_map hD (fun acc => by rw [updM_ne hne]; exact updM_same) ipv (fun _ => true) (fun p => pwv (ipw p)) (idx 0 qs) [] (fun p hp => ?_) (by rw [sizeLine_eq, idx_len]; simp; omega) ?_
    · obtain ⟨i, q⟩ := p
      refine ⟨_, fun k hk => hk, fun acc k hk => by simpa using hk, fun acc k _ hk => ?_⟩
      rcases (show i % 2 = 0 ∨ i % 2 = 1 by omega) with z | z
      · have z2 : (i : Int) % 2 = 0 := by omega
        simp [z2, way, sizeLine_eq]
        simpa [pwv, ipw, z, Pw.pv, Pw.code] using hk
      · have z2 : (i : Int) % 2 = 1 := by omega
        simp [z2, way, sizeLine_eq]
        simpa [pwv, ipw, z, Pw.pv, Pw.code] using hk
    · have e : [] ++ ((idx 0 qs).filter fun _ => true).map (fun p => pwv (ipw p)) = (tagged true qs).map pwv := by
        rw [List.nil_append, List.filter_eq_self.mpr (fun _ _ => rfl)]
        have := idx_tagged qs 0
        rw [show (decide (0 % 2 = 0)) = true from rfl] at this
        rw [← this, List.map_map]
        rfl
      rw [e]
      have tl := tagged_len true qs
      rcases (show qs.length % 2 = 0 ∨ qs.length % 2 = 1 by omega) with z | z
      · have z2 : (qs.length : Int) % 2 = 0 := by omega
        rw [z] at hfull
        simp only [if_true] at hfull
        simp [updM_ne hne, z2, dc, appP, way, sizeLine_eq]
        have el : (tagged true qs).map pwv ++ [.tup [.str ⟨#[84]⟩, .int (d / c)]] = (fullP ⟨a, b, c, d⟩).map pwv := by
          rw [hfull]
          simp [pwv, Pw.pv, Pw.code]
        rw [el]
        exact ⟨by omega, fun D2 hD2 => fin _ _ _ hfl ((Ext.put hb1).put' hMD) updM_same D2 hD2⟩
      · have z2 : (qs.length : Int) % 2 = 1 := by omega
        rw [z] at hfull
        simp only [show ¬ (1 = 0) by decide, if_false] at hfull
        simp [updM_ne hne, z2, dc, appP, way, sizeLine_eq]
        have el : (tagged true qs).map pwv ++ [.tup [.str ⟨#[83]⟩, .int 1], .tup [.str ⟨#[84]⟩, .int (-(-d / c))]] = (fullP ⟨a, b, c, d⟩).map pwv := by
          rw [hfull]
          simp [pwv, Pw.pv, Pw.code]
        rw [el]
        exact ⟨by omega, by omega, fun D2 hD2 => fin _ _ _ hfl ((Ext.put hb1).put' hMD) updM_same D2 hD2⟩
theorem r_lead : BodyOk N_lead 3 sp_lead0 f_lead := by
  rintro xs M k ex ⟨f, x, w, n, rfl, hf, hx, bd, n0, hn, h⟩
  refine ⟨rfl, ?_⟩
  have ok := wmt_ok w
  simp [f_lead, -Mt.pv, -mat]
  refine ⟨f, rfl, hf, fun M1 e1 => ?_⟩
  refine ⟨f, x, rfl, hx, ?_⟩
  refine ⟨_, rfl, fine_mat, room_mat bd n0 (by omega), isMat_ok ok, ?_⟩
  refine ⟨f, rfl, hf.toform, fun a M2 e2 tb => ?_⟩
  refine ⟨_, n, rfl, ok, bd, n0, hn, fun M3 e3 => ?_⟩
  refine ⟨f, a, x, expn (wmt w), rfl, hf.toform, hx, tb.ext e3, expn_oneS _, ?_⟩
  rw [hf.toform.one (v := w) (wmt_expnZ ok) hx]
  exact h M3 ((e1.trans e2).trans e3)
theorem r_L_spins_right : BodyOk N_L_spins_right 2 sp_L_spins_right f_L_spins_right := by
  rintro xs M k ex ⟨a, n, f, rfl, hS, hn, hf, h⟩
  refine ⟨rfl, ?_⟩
  have hlim : lim = 1000000000000 := rfl
  have hle := hf.le
  have hpos := hf.pos
  simp [-List.getD_eq_getElem?_getD, f_L_spins_right, -Mt.pv, -mat]
  refine ⟨a, n, rfl, hS, by omega, fun q ps M1 hp hq hM1 hS1 hU1 => ?_⟩
  have nq := hS.ne hq
  simp only [Fl.px, p_ixT0]
  simp [-List.getD_eq_getElem?_getD, -Mt.pv, -mat]
  refine ⟨a, f.n, _, rfl, hS1, by omega, by omega, by omega, fun r M2 r0 r1 u2 => ?_⟩
  obtain ⟨x, rfl⟩ := Int.eq_ofNat_of_zero_le r0
  have hx : x < f.n := by omega
  have hM2 : M2 q = some (.lst (ps.map pwv)) := by rw [u2.2 q nq]; exact hM1
  refine ⟨.ref q, ps, rfl, sqv_ref hM2, hp, ?_⟩
  refine ⟨f, x, .ref q, ps, rfl, hf.toform, hx, sqv_ref hM2, hp.2.1, fun M3 e3 => ?_⟩
  have hw := wmt_lopsZ ps
  have bd : (prodP ps).nf.bd 1100 := ((prodP_bdZ ps hp.2.2).nf).mono (by have := hp.1; omega)
  refine lead_of (.inl rfl) hf hx hw bd (by omega) (by omega) fun M4 e4 => ?_
  refine ⟨_, _, _, _, rfl, ?_⟩
  have hd : (prodP ps).nf.det = 1 := by rw [Mt.det_nf]; exact prodP_det ps
  show sp_lead [_, _, (prodP ps).nf.adj.sg.pv] _ _ _
  rw [Mt.sg_nf (by rw [Mt.det_adj]; exact hd)]
  have hw2 : wmt (turned (ps.flatMap lopZ)) = (prodP ps).nf.adj.nf := by rw [wmt_turned, hw]
  have hy := hf.toform.act_lt (ps.flatMap lopZ) hx
  refine lead_of (.inl rfl) hf hy hw2 (bd.adj.nf) (by omega) (by omega) fun M5 e5 => ?_
  rw [hf.toform.turned _ hx]
  have hth : thing M5 (.lst [.int ((f.act (ps.flatMap lopZ) x : Nat) : Int), .int (x : Int)]) := .inl ⟨by simp [-List.getD_eq_getElem?_getD], fun y hy' => by
    simp only [List.mem_cons, List.not_mem_nil, or_false] at hy'
    rcases hy' with rfl | rfl
    · show (_ : Int).natAbs < 2 ^ 200
      have : (2 : Nat) ^ 7 ≤ 2 ^ 200 := Nat.pow_le_pow_right (by decide) (by decide)
      omega
    · show (_ : Int).natAbs < 2 ^ 200
      have : (2 : Nat) ^ 7 ≤ 2 ^ 200 := Nat.pow_le_pow_right (by decide) (by decide)
      omega⟩
  obtain ⟨s, hs⟩ := thing_repr hth
  refine ⟨by rw [sizeLine_eq]; omega, hs _ ⟨by rw [sizeLine_eq]; omega, ?_⟩⟩
  refine hs (fun q M2 => opEq false (.str s) q M2 fun v M' => k v M') ?_
  simp [-List.getD_eq_getElem?_getD]
  exact h M5 ((u2.1.ext (e3.trans (e4.trans e5))).mono (by omega)) (hU1.trans ((Up.of u2).trans (Up.ext (e3.trans (e4.trans e5)))))
theorem r_law : BodyOk N_law 1 spLaw f_law := by
  rintro xs M k ex ⟨ns, rfl, hl, hb, h⟩
  refine ⟨rfl, ?_⟩
  have hlim : lim = 1000000000000 := rfl
  have hc : 1 ≤ maxI 1 (minI 3 (ns.length : Int)) ∧ maxI 1 (minI 3 (ns.length : Int)) ≤ 3 := by unfold maxI minI; split <;> split <;> omega
  simp [-List.getD_eq_getElem?_getD, f_law, -Mt.pv, -mat, sizeLine_eq]
  refine ⟨by unfold rngB; omega, fun i τ M' => La1 ns τ M', ⟨_, _, _, _, _, _, _, _, rfl⟩, ?_, ?_⟩
  · rintro i τ M' hi ⟨x1, x2, x3, x4, x5, x6, x7, x8, rfl⟩
    simp [-List.getD_eq_getElem?_getD, -Mt.pv, -mat]
    refine ⟨ns, i, rfl, hl, by omega, by omega, fun a M1 ha hs => ?_⟩
    simp [-List.getD_eq_getElem?_getD, -Mt.pv, -mat]
    refine ⟨by unfold rngB; omega, fun j τ M2 => La2 ns a j τ M2, ⟨_, _, _, _, _, _, _, rfl, hs.1⟩, ?_, ?_⟩
    · rintro j τ M2 hj ⟨x1, x3, x4, x5, x6, x7, x8, rfl, h2⟩
      simp [-List.getD_eq_getElem?_getD, -Mt.pv, -mat]
      refine ⟨a, _, 8, rfl, h2, by omega, by omega, by omega, fun f M3 hf hn hS3 hU3 => ?_⟩
      simp [-List.getD_eq_getElem?_getD, -Mt.pv, -mat]
      refine ⟨by unfold rngB; omega, fun j2 τ M4 => La3 ns a f (30 + 1000 * j + 300) j2 τ M4, ⟨_, _, _, _, _, _, rfl, hS3⟩, ?_, ?_⟩
      · rintro j2 τ M4 hj2 ⟨x1, x3, x5, x6, x7, x8, rfl, h4⟩
        simp [-List.getD_eq_getElem?_getD, -Mt.pv, -mat]
        refine ⟨a, _, f, rfl, h4, by omega, hf, fun M5 hS5 hU5 => ?_⟩
        simp [-List.getD_eq_getElem?_getD, -Mt.pv, -mat]
        exact ⟨_, _, _, _, _, _, rfl, hS5.mono (by omega)⟩
      · rintro τ M4 ⟨x1, x3, x5, x6, x7, x8, rfl, h4⟩
        exact ⟨_, _, _, _, _, _, _, rfl, h4.mono (by omega)⟩
    · rintro τ M2 ⟨x1, x3, x4, x5, x6, x7, x8, rfl, h2⟩
      exact ⟨_, _, _, _, _, _, _, _, rfl⟩
  · rintro τ M' ⟨x1, x2, x3, x4, x5, x6, x7, x8, rfl⟩
    simp [-List.getD_eq_getElem?_getD, -Mt.pv, -mat]
    refine ⟨by unfold rngB; omega, fun i τ M' => La4 ns i τ M', ⟨1, _, _, _, _, _, _, rfl, by decide, by decide, fun hz => absurd hz (by omega)⟩, ?_, ?_⟩
    · rintro i τ M' hi ⟨z, x1, x2, x3, x5, x7, x8, rfl, z0, z1, z2⟩
      simp [-List.getD_eq_getElem?_getD, -Mt.pv, -mat]
      have p1 : 2 ^ (34 * (i + 1) + 1) = 2 ^ (34 * i + 1) * 17179869184 := by rw [show 34 * (i + 1) + 1 = 34 * i + 1 + 34 by omega, Nat.pow_add]
      refine ⟨MulOk.right (by decide), z * 10000000000, _, _, _, _, _, _, rfl, by omega, ?_, fun _ => by omega⟩
      rw [p1]
      generalize 2 ^ (34 * i + 1) = P at z1
      omega
    · rintro τ M' ⟨z, x1, x2, x3, x5, x7, x8, rfl, z0, z1, z2⟩
      have ev := z2 (by decide)
      obtain ⟨N, hN, hN2⟩ : ∃ N, 34 * 39 + 1 = N ∧ N ≤ 1400 := ⟨_, rfl, by decide⟩
      rw [hN] at z1
      have p2 : 2 ^ (N + 1) = 2 ^ N * 2 := Nat.pow_succ ..
      have zb1 : (z + 1).natAbs < 2 ^ (N + 1) := by rw [p2]; generalize 2 ^ N = P at z1; omega
      have zb2 : (-z).natAbs < 2 ^ (N + 1) := by rw [p2]; generalize 2 ^ N = P at z1; omega
      have ev1 : ¬ (z + 1) % 2 = 0 := by omega
      have ev2 : (-z) % 2 = 0 := by omega
      have ev3 : ¬ (-(z + 1)) % 2 = 0 := by omega
      clear hN z2
      have b1 := one_bdT zb1 (by omega)
      have b2 := one_bdT zb2 (by omega)
      have h3 : ∀ x, x < 3 → x < F0.n := fun x hx => hx
      have nfz : ∀ e : Int, (Mt.mk 1 e 0 1).nf = ⟨1, e, 0, 1⟩ := nfT
      simp [-List.getD_eq_getElem?_getD, -Mt.pv, -mat]
      refine lead_of (m := ⟨1, z + 1, 0, 1⟩) (w := lopZ (.T, z + 1)) (x := 1) (.inr rfl) F0_ok (h3 1 (by decide)) (by rw [wmt_lopZ]; exact nfT _) b1.1 (by omega) (by omega) fun M1 e1 => ?_
      rw [act_T, if_neg ev1]
      refine lead_of (m := ⟨1, -z, 0, 1⟩) (w := lopZ (.T, -z)) (x := 1) (.inr rfl) F0_ok (h3 1 (by decide)) (by rw [wmt_lopZ]; exact nfT _) b2.1 (by omega) (by omega) fun M2 e2 => ?_
      rw [act_T, if_pos ev2]
      refine lead_of (m := ⟨1, 0, z + 1, 1⟩) (w := lopZ (.F, z + 1)) (x := 0) (.inr rfl) F0_ok (h3 0 (by decide)) (by rw [wmt_lopZ]; exact nfF (by omega)) b1.2.1 (by omega) (by omega) fun M3 e3 => ?_
      rw [act_F, if_neg ev1]
      refine lead_of (m := ⟨-1, 0, z + 1, -1⟩) (w := lopZ (.F, -(z + 1))) (x := 0) (.inr rfl) F0_ok (h3 0 (by decide)) (by
        rw [wmt_lopZ]
        show (Mt.mk 1 0 (-(z + 1)) 1).nf = _
        rw [nf_F, if_pos (by omega), Int.neg_neg]) b1.2.2.1 (by omega) (by omega) fun M4 e4 => ?_
      rw [act_F, if_neg ev3]
      refine ⟨by rw [sizeLine_eq]; omega, ?_⟩
      refine lead_of (m := ⟨z + 1, -1, 1, 0⟩) (w := lopZ (.T, z + 1) ++ [.S]) (x := 1) (.inr rfl) F0_ok (h3 1 (by decide)) (by
        rw [wmt_app, wmt_lopZ, show (pm (.T, z + 1)).nf = ⟨1, z + 1, 0, 1⟩ from nfT _, show wmt [.S] = ⟨0, -1, 1, 0⟩ by decide]
        simp [-List.getD_eq_getElem?_getD, Mt.mul, Mt.nf]) b1.2.2.2 (by omega) (by omega) fun M5 e5 => ?_
      rw [Fl.act_app, act_T, if_neg ev1]
      have ea : F0.act [.S] 2 = 0 := rfl
      rw [ea]
      refine ⟨by rw [sizeLine_eq]; omega, opEq_ints (l := [2, 1, 1, 1, 0]) (m := [2, 1, 1, 1, 0]) (neg := true) ?_⟩
      simp [-List.getD_eq_getElem?_getD, -Mt.pv, -mat]
      refine ⟨by unfold rngB; omega, fun i τ M' => La5 ns i τ M', ⟨_, _, _, _, _, _, rfl⟩, ?_, ?_⟩
      · rintro i τ M' hi ⟨x1, x2, x3, x5, x6, x7, rfl⟩
        simp [-List.getD_eq_getElem?_getD, -Mt.pv, -mat]
        have bw := wmt_bd (wTF i)
        rw [wTF_len] at bw
        refine ⟨by rw [sizeLine_eq]; omega, _, _, _, _, _, _, _, _, rfl, ⟨2 * (4 * i) + 1, 2, bw, by simp [-List.getD_eq_getElem?_getD, Mt.bd], by omega, by omega, by omega⟩, ?_⟩
        show La5 ns (i + 1) [_, _, _, _, _, _, _, _, some (((wmt (wTF i)).mul ⟨2, 1, 1, 1⟩).sg).pv] _
        rw [wTF_next]
        exact ⟨_, _, _, _, _, _, rfl⟩
      · rintro τ M' ⟨x1, x2, x3, x5, x6, x7, rfl⟩
        have bw := wmt_bd (wTF 901)
        rw [wTF_len] at bw
        have a0 := act_TF 901 0
        have a2 := act_TF 901 2
        rw [show cat [0, 1, 2] 0 = 0 from by decide, show cat [0, 1, 2] ((0 : Int) + (901 : Nat)) = 1 from by decide] at a0
        rw [show cat [0, 1, 2] 2 = 2 from by decide, show cat [0, 1, 2] ((2 : Int) + (901 : Nat)) = 0 from by decide] at a2
        generalize wTF 901 = w at bw a0 a2 ⊢
        have a1 : F0.act (turned (w)) 1 = 0 := by
          have := F0_form.turned (w) (x := 0) (h3 0 (by decide))
          rw [a0] at this
          exact this
        simp [-List.getD_eq_getElem?_getD, -Mt.pv, -mat]
        refine lead_of (m := wmt (w)) (w := w) (x := 0) (.inr rfl) F0_ok (h3 0 (by decide)) rfl bw (by omega) (by omega) fun M1 e1 => ?_
        rw [a0]
        refine lead_of (m := wmt (w)) (w := w) (x := 2) (.inr rfl) F0_ok (h3 2 (by decide)) rfl bw (by omega) (by omega) fun M2 e2 => ?_
        rw [a2]
        refine ⟨_, _, _, _, rfl, ?_⟩
        show sp_lead [_, _, (wmt (w)).adj.sg.pv] _ _ _
        have hd : (wmt (w)).adj.det = 1 := by rw [Mt.det_adj]; exact (wmt_ok _).1
        rw [Mt.sg_nf hd]
        refine lead_of (m := (wmt (w)).adj.nf) (w := turned (w)) (x := 1) (.inr rfl) F0_ok (h3 1 (by decide)) (wmt_turned _) (bw.adj.nf) (by omega) (by omega) fun M3 e3 => ?_
        rw [a1]
        refine opEq_ints (l := [1, 0, 0]) (m := [1, 0, 0]) (neg := false) ?_
        exact h M3
end Q
namespace Q
open PySem PySem.Spec PyProof.Rows L2
theorem all_mk {l : PySem.W.OpenLaw} {w : World} {K : PySem.W.Frag} {h : Heap} {mg : Str → Option Value} {fa : Addr} (X : K.In h) (G : h.Ns mainGlobals mg) (hfa : mg "law" = some (.ref fa))
    (D_is_whole : DefAt K "is_whole" s_is_whole)
    (D_u_normal_form : DefAt K "_normal_form" s_u_normal_form)
    (D_quotients : DefAt K "quotients" s_quotients)
    (D_letter_tables : DefAt K "letter_tables" s_letter_tables)
    (D_led_by_powers : DefAt K "led_by_powers" s_led_by_powers)
    (D_cycles_of_permutation : DefAt K "cycles_of_permutation" s_cycles_of_permutation)
    (D_tile_of : DefAt K "tile_of" s_tile_of)
    (D_u_has_form : DefAt K "_has_form" s_u_has_form)
    (D_L_source : DefAt K "_law_source" s_L_source)
    (D_L_next : DefAt K "_law_next" s_L_next)
    (D_L_signed : DefAt K "_law_signed" s_L_signed)
    (D_L_renamed : DefAt K "_law_renamed" s_L_renamed)
    (D_L_led : DefAt K "_law_led" s_L_led)
    (D_is_pair : DefAt K "is_pair" s_is_pair)
    (D_check_place : DefAt K "check_place" s_check_place)
    (D_entries_of_walk : DefAt K "entries_of_walk" s_entries_of_walk)
    (D_u_is_restored : DefAt K "_is_restored" s_u_is_restored)
    (D_u_seats : DefAt K "_seats" s_u_seats)
    (D_L_ring : DefAt K "_law_ring" s_L_ring)
    (D_L_huge : DefAt K "_law_huge" s_L_huge)
    (D_L_mixed : DefAt K "_law_mixed" s_L_mixed)
    (D_L_times : DefAt K "_law_times" s_L_times)
    (D_L_back : DefAt K "_law_back" s_L_back)
    (D_u_has_determinant_one : DefAt K "_has_determinant_one" s_u_has_determinant_one)
    (D_power_tables : DefAt K "power_tables" s_power_tables)
    (D_u_walked : DefAt K "_walked" s_u_walked)
    (D_L_spun : DefAt K "_law_spun" s_L_spun)
    (D_L_spins : DefAt K "_law_spins" s_L_spins)
    (D_L_spun_matrix : DefAt K "_law_spun_matrix" s_L_spun_matrix)
    (D_L_floor : DefAt K "_law_floor" s_L_floor)
    (D_is_matrix : DefAt K "is_matrix" s_is_matrix)
    (D_u_wrong_part : DefAt K "_wrong_part" s_u_wrong_part)
    (D_check_matrix : DefAt K "check_matrix" s_check_matrix)
    (D_check_floor : DefAt K "check_floor" s_check_floor)
    (D_expansion : DefAt K "expansion" s_expansion)
    (D_lead : DefAt K "lead" s_lead)
    (D_L_spins_right : DefAt K "_law_spins_right" s_L_spins_right)
    (D_law : DefAt K "law" s_law)
    (z_all : PySem.W.nsIn K mainGlobals "all" = some none)
    (z_bool : PySem.W.nsIn K mainGlobals "bool" = some none)
    (z_enumerate : PySem.W.nsIn K mainGlobals "enumerate" = some none)
    (z_int : PySem.W.nsIn K mainGlobals "int" = some none)
    (z_isinstance : PySem.W.nsIn K mainGlobals "isinstance" = some none)
    (z_len : PySem.W.nsIn K mainGlobals "len" = some none)
    (z_list : PySem.W.nsIn K mainGlobals "list" = some none)
    (z_max : PySem.W.nsIn K mainGlobals "max" = some none)
    (z_min : PySem.W.nsIn K mainGlobals "min" = some none)
    (z_range : PySem.W.nsIn K mainGlobals "range" = some none)
    (z_repr : PySem.W.nsIn K mainGlobals "repr" = some none)
    (z_tuple : PySem.W.nsIn K mainGlobals "tuple" = some none)
    (hc_MAX_PLACES : ∀ base, HasC ⟨l.prog, w, K, mg, base, true⟩ "MAX_PLACES" (.int 120))
    : ∀ base : Heap, K.In base → base.Ns mainGlobals mg → FnG true l.prog w K mg base (L2.CX l.prog w) 9 fa (toSp K spLaw) := by
  obtain ⟨f_is_whole, a_is_whole, fd_is_whole, F_is_whole⟩ := D_is_whole
  obtain ⟨f_u_normal_form, a_u_normal_form, fd_u_normal_form, F_u_normal_form⟩ := D_u_normal_form
  obtain ⟨f_quotients, a_quotients, fd_quotients, F_quotients⟩ := D_quotients
  obtain ⟨f_letter_tables, a_letter_tables, fd_letter_tables, F_letter_tables⟩ := D_letter_tables
  obtain ⟨f_led_by_powers, a_led_by_powers, fd_led_by_powers, F_led_by_powers⟩ := D_led_by_powers
  obtain ⟨f_cycles_of_permutation, a_cycles_of_permutation, fd_cycles_of_permutation, F_cycles_of_permutation⟩ := D_cycles_of_permutation
  obtain ⟨f_tile_of, a_tile_of, fd_tile_of, F_tile_of⟩ := D_tile_of
  obtain ⟨f_u_has_form, a_u_has_form, fd_u_has_form, F_u_has_form⟩ := D_u_has_form
  obtain ⟨f_L_source, a_L_source, fd_L_source, F_L_source⟩ := D_L_source
  obtain ⟨f_L_next, a_L_next, fd_L_next, F_L_next⟩ := D_L_next
  obtain ⟨f_L_signed, a_L_signed, fd_L_signed, F_L_signed⟩ := D_L_signed
  obtain ⟨f_L_renamed, a_L_renamed, fd_L_renamed, F_L_renamed⟩ := D_L_renamed
  obtain ⟨f_L_led, a_L_led, fd_L_led, F_L_led⟩ := D_L_led
  obtain ⟨f_is_pair, a_is_pair, fd_is_pair, F_is_pair⟩ := D_is_pair
  obtain ⟨f_check_place, a_check_place, fd_check_place, F_check_place⟩ := D_check_place
  obtain ⟨f_entries_of_walk, a_entries_of_walk, fd_entries_of_walk, F_entries_of_walk⟩ := D_entries_of_walk
  obtain ⟨f_u_is_restored, a_u_is_restored, fd_u_is_restored, F_u_is_restored⟩ := D_u_is_restored
  obtain ⟨f_u_seats, a_u_seats, fd_u_seats, F_u_seats⟩ := D_u_seats
  obtain ⟨f_L_ring, a_L_ring, fd_L_ring, F_L_ring⟩ := D_L_ring
  obtain ⟨f_L_huge, a_L_huge, fd_L_huge, F_L_huge⟩ := D_L_huge
  obtain ⟨f_L_mixed, a_L_mixed, fd_L_mixed, F_L_mixed⟩ := D_L_mixed
  obtain ⟨f_L_times, a_L_times, fd_L_times, F_L_times⟩ := D_L_times
  obtain ⟨f_L_back, a_L_back, fd_L_back, F_L_back⟩ := D_L_back
  obtain ⟨f_u_has_determinant_one, a_u_has_determinant_one, fd_u_has_determinant_one, F_u_has_determinant_one⟩ := D_u_has_determinant_one
  obtain ⟨f_power_tables, a_power_tables, fd_power_tables, F_power_tables⟩ := D_power_tables
  obtain ⟨f_u_walked, a_u_walked, fd_u_walked, F_u_walked⟩ := D_u_walked
  obtain ⟨f_L_spun, a_L_spun, fd_L_spun, F_L_spun⟩ := D_L_spun
  obtain ⟨f_L_spins, a_L_spins, fd_L_spins, F_L_spins⟩ := D_L_spins
  obtain ⟨f_L_spun_matrix, a_L_spun_matrix, fd_L_spun_matrix, F_L_spun_matrix⟩ := D_L_spun_matrix
  obtain ⟨f_L_floor, a_L_floor, fd_L_floor, F_L_floor⟩ := D_L_floor
  obtain ⟨f_is_matrix, a_is_matrix, fd_is_matrix, F_is_matrix⟩ := D_is_matrix
  obtain ⟨f_u_wrong_part, a_u_wrong_part, fd_u_wrong_part, F_u_wrong_part⟩ := D_u_wrong_part
  obtain ⟨f_check_matrix, a_check_matrix, fd_check_matrix, F_check_matrix⟩ := D_check_matrix
  obtain ⟨f_check_floor, a_check_floor, fd_check_floor, F_check_floor⟩ := D_check_floor
  obtain ⟨f_expansion, a_expansion, fd_expansion, F_expansion⟩ := D_expansion
  obtain ⟨f_lead, a_lead, fd_lead, F_lead⟩ := D_lead
  obtain ⟨f_L_spins_right, a_L_spins_right, fd_L_spins_right, F_L_spins_right⟩ := D_L_spins_right
  obtain ⟨f_law, a_law, fd_law, F_law⟩ := D_law
  have e := hfa.symm.trans (PySem.W.mg_of X G a_law)
  cases e
  have y_all := PySem.W.mg_none_of X G z_all
  have y_bool := PySem.W.mg_none_of X G z_bool
  have y_enumerate := PySem.W.mg_none_of X G z_enumerate
  have y_int := PySem.W.mg_none_of X G z_int
  have y_isinstance := PySem.W.mg_none_of X G z_isinstance
  have y_len := PySem.W.mg_none_of X G z_len
  have y_list := PySem.W.mg_none_of X G z_list
  have y_max := PySem.W.mg_none_of X G z_max
  have y_min := PySem.W.mg_none_of X G z_min
  have y_range := PySem.W.mg_none_of X G z_range
  have y_repr := PySem.W.mg_none_of X G z_repr
  have y_tuple := PySem.W.mg_none_of X G z_tuple
  intro base _ _ 
  have B_law := F_law.binds (ps := ["_law_script"]) fun _ _ _ _ _ _ us hl => match us, hl with | [_], _ => rfl
  have B_is_whole := F_is_whole.binds (ps := ["value"]) fun _ _ _ _ _ _ us hl => match us, hl with | [_], _ => rfl
  have H_is_whole : Has ⟨l.prog, w, K, mg, base, true⟩ "is_whole" 1 sp_is_whole := has_fn F_is_whole (PySem.W.mg_of X G a_is_whole) sc_is_whole B_is_whole (dd_is_whole (z_bool := y_bool) (z_int := y_int) (z_isinstance := y_isinstance)) r_is_whole
  have B_u_normal_form := F_u_normal_form.binds (ps := ["rows"]) fun _ _ _ _ _ _ us hl => match us, hl with | [_], _ => rfl
  have H_u_normal_form : Has ⟨l.prog, w, K, mg, base, true⟩ "_normal_form" 1 sp_u_normal_form := has_fn F_u_normal_form (PySem.W.mg_of X G a_u_normal_form) sc_u_normal_form B_u_normal_form (dd_u_normal_form ) r_u_normal_form
  have B_quotients := F_quotients.binds (ps := ["top", "low"]) fun _ _ _ _ _ _ us hl => match us, hl with | [_, _], _ => rfl
  have H_quotients : Has ⟨l.prog, w, K, mg, base, true⟩ "quotients" 1 sp_quotients := has_fn F_quotients (PySem.W.mg_of X G a_quotients) sc_quotients B_quotients (dd_quotients ) r_quotients
  have B_letter_tables := F_letter_tables.binds (ps := ["floor"]) fun _ _ _ _ _ _ us hl => match us, hl with | [_], _ => rfl
  have H_letter_tables : Has ⟨l.prog, w, K, mg, base, true⟩ "letter_tables" 1 sp_letter_tables := has_fn F_letter_tables (PySem.W.mg_of X G a_letter_tables) sc_letter_tables B_letter_tables (dd_letter_tables (z_len := y_len) (z_range := y_range) (z_tuple := y_tuple)) r_letter_tables
  have B_led_by_powers := F_led_by_powers.binds (ps := ["tables", "place", "powers"]) fun _ _ _ _ _ _ us hl => match us, hl with | [_, _, _], _ => rfl
  have H_led_by_powers : Has ⟨l.prog, w, K, mg, base, true⟩ "led_by_powers" 1 sp_led_by_powers := has_fn F_led_by_powers (PySem.W.mg_of X G a_led_by_powers) sc_led_by_powers B_led_by_powers (dd_led_by_powers (z_len := y_len)) r_led_by_powers
  have B_cycles_of_permutation := F_cycles_of_permutation.binds (ps := ["permutation"]) fun _ _ _ _ _ _ us hl => match us, hl with | [_], _ => rfl
  have H_cycles_of_permutation : Has ⟨l.prog, w, K, mg, base, true⟩ "cycles_of_permutation" 1 sp_cycles_of_permutation := has_fn F_cycles_of_permutation (PySem.W.mg_of X G a_cycles_of_permutation) sc_cycles_of_permutation B_cycles_of_permutation (dd_cycles_of_permutation (z_len := y_len) (z_range := y_range) (z_tuple := y_tuple)) r_cycles_of_permutation
  have B_tile_of := F_tile_of.binds (ps := ["r", "x"]) fun _ _ _ _ _ _ us hl => match us, hl with | [_, _], _ => rfl
  have H_tile_of : Has ⟨l.prog, w, K, mg, base, true⟩ "tile_of" 1 sp_tile_of := has_fn F_tile_of (PySem.W.mg_of X G a_tile_of) sc_tile_of B_tile_of (dd_tile_of ) r_tile_of
  have B_u_has_form := F_u_has_form.binds (ps := ["value"]) fun _ _ _ _ _ _ us hl => match us, hl with | [_], _ => rfl
  have H_u_has_form : Has ⟨l.prog, w, K, mg, base, true⟩ "_has_form" 1 sp_u_has_form := has_fn F_u_has_form (PySem.W.mg_of X G a_u_has_form) sc_u_has_form B_u_has_form (dd_u_has_form (hc_MAX_PLACES := hc_MAX_PLACES base) (z_isinstance := y_isinstance) (z_len := y_len) (z_tuple := y_tuple)) r_u_has_form
  have B_L_source := F_L_source.binds (ps := ["_law_script", "_law_k"]) fun _ _ _ _ _ _ us hl => match us, hl with | [_, _], _ => rfl
  have H_L_source : Has ⟨l.prog, w, K, mg, base, true⟩ "_law_source" 1 sp_L_source := has_fn F_L_source (PySem.W.mg_of X G a_L_source) sc_L_source B_L_source (dd_L_source (z_len := y_len)) r_L_source
  have B_L_next := F_L_next.binds (ps := ["_law_source_here", "_law_many"]) fun _ _ _ _ _ _ us hl => match us, hl with | [_, _], _ => rfl
  have H_L_next : Has ⟨l.prog, w, K, mg, base, true⟩ "_law_next" 1 sp_L_next := has_fn F_L_next (PySem.W.mg_of X G a_L_next) sc_L_next B_L_next (dd_L_next ) r_L_next
  have B_L_signed := F_L_signed.binds (ps := ["_law_rows"]) fun _ _ _ _ _ _ us hl => match us, hl with | [_], _ => rfl
  have H_L_signed : Has ⟨l.prog, w, K, mg, base, true⟩ "_law_signed" 1 sp_L_signed := has_fn F_L_signed (PySem.W.mg_of X G a_L_signed) sc_L_signed B_L_signed (dd_L_signed ) r_L_signed
  have B_L_renamed := F_L_renamed.binds (ps := ["_law_rows", "_law_names"]) fun _ _ _ _ _ _ us hl => match us, hl with | [_, _], _ => rfl
  have H_L_renamed : Has ⟨l.prog, w, K, mg, base, true⟩ "_law_renamed" 1 sp_L_renamed := has_fn F_L_renamed (PySem.W.mg_of X G a_L_renamed) sc_L_renamed B_L_renamed (dd_L_renamed (z_enumerate := y_enumerate) (z_len := y_len) (z_tuple := y_tuple)) r_L_renamed
  have B_L_led := F_L_led.binds (ps := ["_law_rows", "_law_x", "_law_text"]) fun _ _ _ _ _ _ us hl => match us, hl with | [_, _, _], _ => rfl
  have H_L_led : Has ⟨l.prog, w, K, mg, base, true⟩ "_law_led" 1 sp_L_led := has_fn F_L_led (PySem.W.mg_of X G a_L_led) sc_L_led B_L_led (dd_L_led ) r_L_led
  have B_is_pair := F_is_pair.binds (ps := ["value"]) fun _ _ _ _ _ _ us hl => match us, hl with | [_], _ => rfl
  have H_is_pair : Has ⟨l.prog, w, K, mg, base, true⟩ "is_pair" 2 sp_is_pair := has_fn F_is_pair (PySem.W.mg_of X G a_is_pair) sc_is_pair B_is_pair (dd_is_pair (h_is_whole := H_is_whole) (z_isinstance := y_isinstance) (z_len := y_len) (z_tuple := y_tuple)) r_is_pair
  have B_check_place := F_check_place.binds (ps := ["floor", "place"]) fun _ _ _ _ _ _ us hl => match us, hl with | [_, _], _ => rfl
  have H_check_place : Has ⟨l.prog, w, K, mg, base, true⟩ "check_place" 2 sp_check_place := has_fn F_check_place (PySem.W.mg_of X G a_check_place) sc_check_place B_check_place (dd_check_place (h_is_whole := H_is_whole) (z_len := y_len)) r_check_place
  have B_entries_of_walk := F_entries_of_walk.binds (ps := ["floor", "base"]) fun _ _ _ _ _ _ us hl => match us, hl with | [_, _], _ => rfl
  have H_entries_of_walk : Has ⟨l.prog, w, K, mg, base, true⟩ "entries_of_walk" 2 sp_entries_of_walk := has_fn F_entries_of_walk (PySem.W.mg_of X G a_entries_of_walk) sc_entries_of_walk B_entries_of_walk (dd_entries_of_walk (h_tile_of := H_tile_of) (z_len := y_len)) r_entries_of_walk
  have B_u_is_restored := F_u_is_restored.binds (ps := ["row", "times"]) fun _ _ _ _ _ _ us hl => match us, hl with | [_, _], _ => rfl
  have H_u_is_restored : Has ⟨l.prog, w, K, mg, base, true⟩ "_is_restored" 2 sp_u_is_restored := has_fn F_u_is_restored (PySem.W.mg_of X G a_u_is_restored) sc_u_is_restored B_u_is_restored (dd_u_is_restored (h_is_whole := H_is_whole) (z_all := y_all) (z_len := y_len) (z_range := y_range)) r_u_is_restored
  have B_u_seats := F_u_seats.binds (ps := ["permutation"]) fun _ _ _ _ _ _ us hl => match us, hl with | [_], _ => rfl
  have H_u_seats : Has ⟨l.prog, w, K, mg, base, true⟩ "_seats" 2 sp_u_seats := has_fn F_u_seats (PySem.W.mg_of X G a_u_seats) sc_u_seats B_u_seats (dd_u_seats (h_cycles_of_permutation := H_cycles_of_permutation) (z_enumerate := y_enumerate) (z_len := y_len)) r_u_seats
  have B_L_ring := F_L_ring.binds (ps := ["_law_rows", "_law_x", "_law_letter"]) fun _ _ _ _ _ _ us hl => match us, hl with | [_, _, _], _ => rfl
  have H_L_ring : Has ⟨l.prog, w, K, mg, base, true⟩ "_law_ring" 2 sp_L_ring := has_fn F_L_ring (PySem.W.mg_of X G a_L_ring) sc_L_ring B_L_ring (dd_L_ring (h_L_led := H_L_led)) r_L_ring
  have B_L_huge := F_L_huge.binds (ps := ["_law_source_here"]) fun _ _ _ _ _ _ us hl => match us, hl with | [_], _ => rfl
  have H_L_huge : Has ⟨l.prog, w, K, mg, base, true⟩ "_law_huge" 2 sp_L_huge := has_fn F_L_huge (PySem.W.mg_of X G a_L_huge) sc_L_huge B_L_huge (dd_L_huge (h_L_next := H_L_next) (z_range := y_range)) r_L_huge
  have B_L_mixed := F_L_mixed.binds (ps := ["_law_source_here", "_law_items"]) fun _ _ _ _ _ _ us hl => match us, hl with | [_, _], _ => rfl
  have H_L_mixed : Has ⟨l.prog, w, K, mg, base, true⟩ "_law_mixed" 2 sp_L_mixed := has_fn F_L_mixed (PySem.W.mg_of X G a_L_mixed) sc_L_mixed B_L_mixed (dd_L_mixed (h_L_next := H_L_next) (z_len := y_len) (z_list := y_list)) r_L_mixed
  have B_L_times := F_L_times.binds (ps := ["_law_one", "_law_other"]) fun _ _ _ _ _ _ us hl => match us, hl with | [_, _], _ => rfl
  have H_L_times : Has ⟨l.prog, w, K, mg, base, true⟩ "_law_times" 2 sp_L_times := has_fn F_L_times (PySem.W.mg_of X G a_L_times) sc_L_times B_L_times (dd_L_times (h_L_signed := H_L_signed)) r_L_times
  have B_L_back := F_L_back.binds (ps := ["_law_matrix"]) fun _ _ _ _ _ _ us hl => match us, hl with | [_], _ => rfl
  have H_L_back : Has ⟨l.prog, w, K, mg, base, true⟩ "_law_back" 2 sp_L_back := has_fn F_L_back (PySem.W.mg_of X G a_L_back) sc_L_back B_L_back (dd_L_back (h_L_signed := H_L_signed)) r_L_back
  have B_u_has_determinant_one := F_u_has_determinant_one.binds (ps := ["value"]) fun _ _ _ _ _ _ us hl => match us, hl with | [_], _ => rfl
  have H_u_has_determinant_one : Has ⟨l.prog, w, K, mg, base, true⟩ "_has_determinant_one" 3 sp_u_has_determinant_one := has_fn F_u_has_determinant_one (PySem.W.mg_of X G a_u_has_determinant_one) sc_u_has_determinant_one B_u_has_determinant_one (dd_u_has_determinant_one (h_is_pair := H_is_pair) (z_isinstance := y_isinstance) (z_len := y_len) (z_tuple := y_tuple)) r_u_has_determinant_one
  have B_power_tables := F_power_tables.binds (ps := ["floor"]) fun _ _ _ _ _ _ us hl => match us, hl with | [_], _ => rfl
  have H_power_tables : Has ⟨l.prog, w, K, mg, base, true⟩ "power_tables" 3 sp_power_tables := has_fn F_power_tables (PySem.W.mg_of X G a_power_tables) sc_power_tables B_power_tables (dd_power_tables (h_letter_tables := H_letter_tables) (h_u_seats := H_u_seats)) r_power_tables
  have B_u_walked := F_u_walked.binds (ps := ["floor", "base"]) fun _ _ _ _ _ _ us hl => match us, hl with | [_, _], _ => rfl
  have H_u_walked : Has ⟨l.prog, w, K, mg, base, true⟩ "_walked" 3 sp_u_walked := has_fn F_u_walked (PySem.W.mg_of X G a_u_walked) sc_u_walked B_u_walked (dd_u_walked (h_entries_of_walk := H_entries_of_walk) (h_tile_of := H_tile_of) (z_tuple := y_tuple)) r_u_walked
  have B_L_spun := F_L_spun.binds (ps := ["_law_rows", "_law_x", "_law_spins_here"]) fun _ _ _ _ _ _ us hl => match us, hl with | [_, _, _], _ => rfl
  have H_L_spun : Has ⟨l.prog, w, K, mg, base, true⟩ "_law_spun" 3 sp_L_spun := has_fn F_L_spun (PySem.W.mg_of X G a_L_spun) sc_L_spun B_L_spun (dd_L_spun (h_L_ring := H_L_ring) (z_len := y_len)) r_L_spun
  have B_L_spins := F_L_spins.binds (ps := ["_law_source_here"]) fun _ _ _ _ _ _ us hl => match us, hl with | [_], _ => rfl
  have H_L_spins : Has ⟨l.prog, w, K, mg, base, true⟩ "_law_spins" 3 sp_L_spins := has_fn F_L_spins (PySem.W.mg_of X G a_L_spins) sc_L_spins B_L_spins (dd_L_spins (h_L_huge := H_L_huge) (h_L_next := H_L_next) (z_range := y_range)) r_L_spins
  have B_L_spun_matrix := F_L_spun_matrix.binds (ps := ["_law_spins_here"]) fun _ _ _ _ _ _ us hl => match us, hl with | [_], _ => rfl
  have H_L_spun_matrix : Has ⟨l.prog, w, K, mg, base, true⟩ "_law_spun_matrix" 3 sp_L_spun_matrix := has_fn F_L_spun_matrix (PySem.W.mg_of X G a_L_spun_matrix) sc_L_spun_matrix B_L_spun_matrix (dd_L_spun_matrix (h_L_times := H_L_times)) r_L_spun_matrix
  have B_L_floor := F_L_floor.binds (ps := ["_law_source_here", "_law_tiles"]) fun _ _ _ _ _ _ us hl => match us, hl with | [_, _], _ => rfl
  have H_L_floor : Has ⟨l.prog, w, K, mg, base, true⟩ "_law_floor" 3 sp_L_floor := has_fn F_L_floor (PySem.W.mg_of X G a_L_floor) sc_L_floor B_L_floor (dd_L_floor (h_L_next := H_L_next) (h_L_mixed := H_L_mixed) (h_L_renamed := H_L_renamed) (z_len := y_len) (z_list := y_list) (z_range := y_range)) r_L_floor
  have B_is_matrix := F_is_matrix.binds (ps := ["value"]) fun _ _ _ _ _ _ us hl => match us, hl with | [_], _ => rfl
  have H_is_matrix : Has ⟨l.prog, w, K, mg, base, true⟩ "is_matrix" 4 sp_is_matrix := has_fn F_is_matrix (PySem.W.mg_of X G a_is_matrix) sc_is_matrix B_is_matrix (dd_is_matrix (h_u_has_determinant_one := H_u_has_determinant_one) (h_u_normal_form := H_u_normal_form)) r_is_matrix
  have B_u_wrong_part := F_u_wrong_part.binds (ps := ["value"]) fun _ _ _ _ _ _ us hl => match us, hl with | [_], _ => rfl
  have H_u_wrong_part : Has ⟨l.prog, w, K, mg, base, true⟩ "_wrong_part" 4 sp_u_wrong_part := has_fn F_u_wrong_part (PySem.W.mg_of X G a_u_wrong_part) sc_u_wrong_part B_u_wrong_part (dd_u_wrong_part (h_u_has_form := H_u_has_form) (h_u_is_restored := H_u_is_restored) (h_u_walked := H_u_walked) (z_len := y_len)) r_u_wrong_part
  have B_check_matrix := F_check_matrix.binds (ps := ["matrix"]) fun _ _ _ _ _ _ us hl => match us, hl with | [_], _ => rfl
  have H_check_matrix : Has ⟨l.prog, w, K, mg, base, true⟩ "check_matrix" 5 sp_check_matrix := has_fn F_check_matrix (PySem.W.mg_of X G a_check_matrix) sc_check_matrix B_check_matrix (dd_check_matrix (h_is_matrix := H_is_matrix)) r_check_matrix
  have B_check_floor := F_check_floor.binds (ps := ["floor"]) fun _ _ _ _ _ _ us hl => match us, hl with | [_], _ => rfl
  have H_check_floor : Has ⟨l.prog, w, K, mg, base, true⟩ "check_floor" 5 sp_check_floor := has_fn F_check_floor (PySem.W.mg_of X G a_check_floor) sc_check_floor B_check_floor (dd_check_floor (h_u_wrong_part := H_u_wrong_part)) r_check_floor
  have B_expansion := F_expansion.binds (ps := ["matrix"]) fun _ _ _ _ _ _ us hl => match us, hl with | [_], _ => rfl
  have H_expansion : Has ⟨l.prog, w, K, mg, base, true⟩ "expansion" 6 sp_expansion := has_fn F_expansion (PySem.W.mg_of X G a_expansion) sc_expansion B_expansion (dd_expansion (h_check_matrix := H_check_matrix) (h_quotients := H_quotients) (z_enumerate := y_enumerate) (z_len := y_len) (z_tuple := y_tuple)) r_expansion
  have B_lead := F_lead.binds (ps := ["floor", "place", "matrix"]) fun _ _ _ _ _ _ us hl => match us, hl with | [_, _, _], _ => rfl
  have H_lead : Has ⟨l.prog, w, K, mg, base, true⟩ "lead" 7 sp_lead := Has.weak (p := sp_lead0) (has_fn F_lead (PySem.W.mg_of X G a_lead) sc_lead B_lead (dd_lead (h_check_matrix := H_check_matrix) (h_expansion := H_expansion) (h_check_floor := H_check_floor) (h_check_place := H_check_place) (h_power_tables := H_power_tables) (h_led_by_powers := H_led_by_powers)) r_lead)
  have B_L_spins_right := F_L_spins_right.binds (ps := ["_law_source_here", "_law_rows"]) fun _ _ _ _ _ _ us hl => match us, hl with | [_, _], _ => rfl
  have H_L_spins_right : Has ⟨l.prog, w, K, mg, base, true⟩ "_law_spins_right" 8 sp_L_spins_right := has_fn F_L_spins_right (PySem.W.mg_of X G a_L_spins_right) sc_L_spins_right B_L_spins_right (dd_L_spins_right (h_lead := H_lead) (h_L_spun := H_L_spun) (h_L_spins := H_L_spins) (h_L_spun_matrix := H_L_spun_matrix) (h_L_next := H_L_next) (h_L_back := H_L_back) (z_gd := rfl) (z_len := y_len) (z_repr := y_repr)) r_L_spins_right
  exact fn_ok (g := ⟨l.prog, w, K, mg, base, true⟩) F_law sc_law B_law (dd_law (h_lead := H_lead) (h_L_source := H_L_source) (h_L_times := H_L_times) (h_L_back := H_L_back) (h_L_floor := H_L_floor) (h_L_spins_right := H_L_spins_right) (z_len := y_len) (z_max := y_max) (z_min := y_min) (z_range := y_range)) r_law
end Q
open PySem PySem.W PyProof.Rows
set_option maxHeartbeats 0 in
theorem PySem.Challenge.cw_cuspfloor_k24_leading_by_great_matrices_holds : PySem.Challenge.rw_cuspfloor_k24_leading_by_great_matrices.Holds := by
  w_on; o_law; k_head; (case hw => w_witness2)
  k_fill
  refine Q.walk_ofG (l := PySem.Challenge.rw_cuspfloor_k24_leading_by_great_matrices) (k := 9) rfl rfl ⟨rfl, by decide, by decide⟩ (fun w h Y => PySem.W.kIn_of Y) ?F
  case F =>
    intro w mg fa h KX G hmg
    refine' Q.all_mk KX G hmg ?D_is_whole ?D_u_normal_form ?D_quotients ?D_letter_tables ?D_led_by_powers ?D_cycles_of_permutation ?D_tile_of ?D_u_has_form ?D_L_source ?D_L_next ?D_L_signed ?D_L_renamed ?D_L_led ?D_is_pair ?D_check_place ?D_entries_of_walk ?D_u_is_restored ?D_u_seats ?D_L_ring ?D_L_huge ?D_L_mixed ?D_L_times ?D_L_back ?D_u_has_determinant_one ?D_power_tables ?D_u_walked ?D_L_spun ?D_L_spins ?D_L_spun_matrix ?D_L_floor ?D_is_matrix ?D_u_wrong_part ?D_check_matrix ?D_check_floor ?D_expansion ?D_lead ?D_L_spins_right ?D_law ?z_all ?z_bool ?z_enumerate ?z_int ?z_isinstance ?z_len ?z_list ?z_max ?z_min ?z_range ?z_repr ?z_tuple ?hc_MAX_PLACES
    (case D_is_whole => (refine' Q.def_at ?a ?l ?c ?k; (case a => k_is); (case l => k_is); (case c => k_is); (case k => k_is)))
    (case D_u_normal_form => (refine' Q.def_at ?a ?l ?c ?k; (case a => k_is); (case l => k_is); (case c => k_is); (case k => k_is)))
    (case D_quotients => (refine' Q.def_at ?a ?l ?c ?k; (case a => k_is); (case l => k_is); (case c => k_is); (case k => k_is)))
    (case D_letter_tables => (refine' Q.def_at ?a ?l ?c ?k; (case a => k_is); (case l => k_is); (case c => k_is); (case k => k_is)))
    (case D_led_by_powers => (refine' Q.def_at ?a ?l ?c ?k; (case a => k_is); (case l => k_is); (case c => k_is); (case k => k_is)))
    (case D_cycles_of_permutation => (refine' Q.def_at ?a ?l ?c ?k; (case a => k_is); (case l => k_is); (case c => k_is); (case k => k_is)))
    (case D_tile_of => (refine' Q.def_at ?a ?l ?c ?k; (case a => k_is); (case l => k_is); (case c => k_is); (case k => k_is)))
    (case D_u_has_form => (refine' Q.def_at ?a ?l ?c ?k; (case a => k_is); (case l => k_is); (case c => k_is); (case k => k_is)))
    (case D_L_source => (refine' Q.def_at ?a ?l ?c ?k; (case a => k_is); (case l => k_is); (case c => k_is); (case k => k_is)))
    (case D_L_next => (refine' Q.def_at ?a ?l ?c ?k; (case a => k_is); (case l => k_is); (case c => k_is); (case k => k_is)))
    (case D_L_signed => (refine' Q.def_at ?a ?l ?c ?k; (case a => k_is); (case l => k_is); (case c => k_is); (case k => k_is)))
    (case D_L_renamed => (refine' Q.def_at ?a ?l ?c ?k; (case a => k_is); (case l => k_is); (case c => k_is); (case k => k_is)))
    (case D_L_led => (refine' Q.def_at ?a ?l ?c ?k; (case a => k_is); (case l => k_is); (case c => k_is); (case k => k_is)))
    (case D_is_pair => (refine' Q.def_at ?a ?l ?c ?k; (case a => k_is); (case l => k_is); (case c => k_is); (case k => k_is)))
    (case D_check_place => (refine' Q.def_at ?a ?l ?c ?k; (case a => k_is); (case l => k_is); (case c => k_is); (case k => k_is)))
    (case D_entries_of_walk => (refine' Q.def_at ?a ?l ?c ?k; (case a => k_is); (case l => k_is); (case c => k_is); (case k => k_is)))
    (case D_u_is_restored => (refine' Q.def_at ?a ?l ?c ?k; (case a => k_is); (case l => k_is); (case c => k_is); (case k => k_is)))
    (case D_u_seats => (refine' Q.def_at ?a ?l ?c ?k; (case a => k_is); (case l => k_is); (case c => k_is); (case k => k_is)))
    (case D_L_ring => (refine' Q.def_at ?a ?l ?c ?k; (case a => k_is); (case l => k_is); (case c => k_is); (case k => k_is)))
    (case D_L_huge => (refine' Q.def_at ?a ?l ?c ?k; (case a => k_is); (case l => k_is); (case c => k_is); (case k => k_is)))
    (case D_L_mixed => (refine' Q.def_at ?a ?l ?c ?k; (case a => k_is); (case l => k_is); (case c => k_is); (case k => k_is)))
    (case D_L_times => (refine' Q.def_at ?a ?l ?c ?k; (case a => k_is); (case l => k_is); (case c => k_is); (case k => k_is)))
    (case D_L_back => (refine' Q.def_at ?a ?l ?c ?k; (case a => k_is); (case l => k_is); (case c => k_is); (case k => k_is)))
    (case D_u_has_determinant_one => (refine' Q.def_at ?a ?l ?c ?k; (case a => k_is); (case l => k_is); (case c => k_is); (case k => k_is)))
    (case D_power_tables => (refine' Q.def_at ?a ?l ?c ?k; (case a => k_is); (case l => k_is); (case c => k_is); (case k => k_is)))
    (case D_u_walked => (refine' Q.def_at ?a ?l ?c ?k; (case a => k_is); (case l => k_is); (case c => k_is); (case k => k_is)))
    (case D_L_spun => (refine' Q.def_at ?a ?l ?c ?k; (case a => k_is); (case l => k_is); (case c => k_is); (case k => k_is)))
    (case D_L_spins => (refine' Q.def_at ?a ?l ?c ?k; (case a => k_is); (case l => k_is); (case c => k_is); (case k => k_is)))
    (case D_L_spun_matrix => (refine' Q.def_at ?a ?l ?c ?k; (case a => k_is); (case l => k_is); (case c => k_is); (case k => k_is)))
    (case D_L_floor => (refine' Q.def_at ?a ?l ?c ?k; (case a => k_is); (case l => k_is); (case c => k_is); (case k => k_is)))
    (case D_is_matrix => (refine' Q.def_at ?a ?l ?c ?k; (case a => k_is); (case l => k_is); (case c => k_is); (case k => k_is)))
    (case D_u_wrong_part => (refine' Q.def_at ?a ?l ?c ?k; (case a => k_is); (case l => k_is); (case c => k_is); (case k => k_is)))
    (case D_check_matrix => (refine' Q.def_at ?a ?l ?c ?k; (case a => k_is); (case l => k_is); (case c => k_is); (case k => k_is)))
    (case D_check_floor => (refine' Q.def_at ?a ?l ?c ?k; (case a => k_is); (case l => k_is); (case c => k_is); (case k => k_is)))
    (case D_expansion => (refine' Q.def_at ?a ?l ?c ?k; (case a => k_is); (case l => k_is); (case c => k_is); (case k => k_is)))
    (case D_lead => (refine' Q.def_at ?a ?l ?c ?k; (case a => k_is); (case l => k_is); (case c => k_is); (case k => k_is)))
    (case D_L_spins_right => (refine' Q.def_at ?a ?l ?c ?k; (case a => k_is); (case l => k_is); (case c => k_is); (case k => k_is)))
    (case D_law => (refine' Q.def_at ?a ?l ?c ?k; (case a => k_is); (case l => k_is); (case c => k_is); (case k => k_is)))
    (case z_all => k_is)
    (case z_bool => k_is)
    (case z_enumerate => k_is)
    (case z_int => k_is)
    (case z_isinstance => k_is)
    (case z_len => k_is)
    (case z_list => k_is)
    (case z_max => k_is)
    (case z_min => k_is)
    (case z_range => k_is)
    (case z_repr => k_is)
    (case z_tuple => k_is)
    (case hc_MAX_PLACES => (intro base; refine' Q.hasC_intK KX G ?e; (case e => k_is)))
