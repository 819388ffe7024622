import PyProof.Rows.All
import HandS.ForMost
import HandS.Exc
import HandS.ExcOwn
import HandS.WordsExc
import HandS.Deep
import HandS.TupAny
import HandS.TupMul
import HandS.IsInst
import HandS.SortInts
import HandS.Conv
import KE.SortData
import HandS.Zip
import HandS.Rev
import HandS.Style
import HandS.Wide
import HandS.Ends
import PySem.Challenge.RW_pulledpegs_k01_tied_pegs_and_parts_of_se
set_option Elab.async false
set_option linter.all false
set_option maxRecDepth 100000
section
namespace Fx
open PySem PySem.Spec PyProof.Rows L2

/-! ### values -/
/-- what a slot holds: data, or an object of the store -/
inductive D where
  | d (p : PyData)
  | ob (n : Nat)
inductive O where
  | lst (l : List D)
  | dk (l : List (Key × D))
abbrev Sto := List O
abbrev Sl := List (Option D)
structure Exn where
  name : Str
  attrs : List (Str × PyData)
inductive R (α : Type) where
  | stuck
  | ok (a : α) (S : Sto)
  | ex (x : Exn) (S : Sto)
abbrev M (α : Type) := Sto → R α
def M.pure {α : Type} (a : α) : M α := fun S => .ok a S
def M.bind {α β : Type} (m : M α) (k : α → M β) : M β := fun S =>
  match m S with
  | .stuck => .stuck
  | .ok a S' => k a S'
  | .ex x S' => .ex x S'
instance : Monad M where
  pure := M.pure
  bind := M.bind
def stuck {α : Type} : M α := fun _ => .stuck
def raise {α : Type} (x : Exn) : M α := fun S => .ex x S
def lift {α : Type} : Option α → M α
  | some a => M.pure a
  | none => stuck

/-! ### how they lie in the heap -/
def FzL (K : PySem.W.Frag) (H : Hp) (a : Addr) (xs : List V) : Prop :=
  (∃ o, H a = some (.frz o (.lst xs))) ∨
    ∃ (o : Obj) (its : Array Value) (n : Nat), K.lookup a = some o ∧ o.cls = .type "list" ∧ o.dict = none ∧ o.data = .seq its n ∧ its.size ≤ sizeLine ∧ Vals xs its.toList
theorem FzL.sq {K : PySem.W.Frag} {H : Hp} {a : Addr} {xs : List V} (h : FzL K H a xs) : SqL K H a xs := by
  rcases h with ⟨o, h⟩ | h
  · exact .inl (.inr ⟨o, h⟩)
  · exact .inr h
mutual
inductive VD (K : PySem.W.Frag) (H : Hp) : V → PyData → Prop
  | non : VD K H .non .none
  | bl (b : Bool) : VD K H (.bl b) (.bool b)
  | int (i : Int) : VD K H (.int i) (.int i)
  | str (x : Str) : VD K H (.str x) (.str x)
  | lst {a : Addr} {xs : List V} {ds : List PyData} : FzL K H a xs → VDs K H xs ds → VD K H (.ref a) (.list ds)
  | tup {a : Addr} {xs : List V} {ds : List PyData} : SqT K H a xs → VDs K H xs ds → VD K H (.ref a) (.tuple ds)
inductive VDs (K : PySem.W.Frag) (H : Hp) : List V → List PyData → Prop
  | nil : VDs K H [] []
  | cons {v : V} {vs : List V} {d : PyData} {ds : List PyData} : VD K H v d → VDs K H vs ds → VDs K H (v :: vs) (d :: ds)
end
/-- what is kept whatever is stored -/
def Keep (H H' : Hp) : Prop := ∀ a, (∀ xs, H a = some (.tup xs) → H' a = some (.tup xs)) ∧ (∀ o u, H a = some (.frz o u) → H' a = some (.frz o u))
theorem Keep.refl (H : Hp) : Keep H H := fun _ => ⟨fun _ h => h, fun _ _ h => h⟩
theorem Keep.trans {H H1 H2 : Hp} (a : Keep H H1) (b : Keep H1 H2) : Keep H H2 := fun c => ⟨fun xs h => (b c).1 xs ((a c).1 xs h), fun o u h => (b c).2 o u ((a c).2 o u h)⟩
theorem Keep.sqT {K : PySem.W.Frag} {H H' : Hp} (k : Keep H H') {a : Addr} {xs : List V} (h : SqT K H a xs) : SqT K H' a xs := by
  rcases h with (h | ⟨o, h⟩) | h
  · exact .inl (.inl ((k a).1 _ h))
  · exact .inl (.inr ⟨o, (k a).2 _ _ h⟩)
  · exact .inr h
theorem Keep.fzL {K : PySem.W.Frag} {H H' : Hp} (k : Keep H H') {a : Addr} {xs : List V} (h : FzL K H a xs) : FzL K H' a xs := by
  rcases h with ⟨o, h⟩ | h
  · exact .inl ⟨o, (k a).2 _ _ h⟩
  · exact .inr h
mutual
theorem VD.keep {K : PySem.W.Frag} {H H' : Hp} (k : Keep H H') : ∀ {v : V} {d : PyData}, VD K H v d → VD K H' v d
  | _, _, .non => .non
  | _, _, .bl b => .bl b
  | _, _, .int i => .int i
  | _, _, .str x => .str x
  | _, _, .lst h hs => .lst (k.fzL h) (VDs.keep k hs)
  | _, _, .tup h hs => .tup (k.sqT h) (VDs.keep k hs)
theorem VDs.keep {K : PySem.W.Frag} {H H' : Hp} (k : Keep H H') : ∀ {v : List V} {d : List PyData}, VDs K H v d → VDs K H' v d
  | _, _, .nil => .nil
  | _, _, .cons h hs => .cons (VD.keep k h) (VDs.keep k hs)
end
mutual
theorem VD.dp {K : PySem.W.Frag} {H : Hp} : ∀ {v : V} {d : PyData}, VD K H v d → Dp K H v d
  | _, _, .non => .non
  | _, _, .bl b => .bl b
  | _, _, .int i => .int i
  | _, _, .str x => .str x
  | _, _, .lst h hs => .lst h.sq (VDs.dp hs)
  | _, _, .tup h hs => .tup h (VDs.dp hs)
theorem VDs.dp {K : PySem.W.Frag} {H : Hp} : ∀ {v : List V} {d : List PyData}, VDs K H v d → DpAll K H v d
  | _, _, .nil => .nil
  | _, _, .cons h hs => .cons (VD.dp h) (VDs.dp hs)
end
theorem VDs.length {K : PySem.W.Frag} {H : Hp} : ∀ {v : List V} {d : List PyData}, VDs K H v d → v.length = d.length
  | _, _, .nil => rfl
  | _, _, .cons _ hs => by simp [VDs.length hs]
theorem VDs.get {K : PySem.W.Frag} {H : Hp} : ∀ {v : List V} {d : List PyData} (i : Nat) {x : PyData}, VDs K H v d → d[i]? = some x → ∃ u, v[i]? = some u ∧ VD K H u x
  | _, _, _, _, .nil, e => by simp at e
  | _, _, 0, _, .cons h _, e => by simp at e; subst e; exact ⟨_, rfl, h⟩
  | _, _, i + 1, _, .cons _ hs, e => by
    obtain ⟨u, h1, h2⟩ := VDs.get i hs (by simpa using e)
    exact ⟨u, by simpa using h1, h2⟩
theorem VDs.none {K : PySem.W.Frag} {H : Hp} {v : List V} {d : List PyData} {i : Nat} (h : VDs K H v d) (e : d[i]? = Option.none) : v[i]? = Option.none := by
  have := h.length
  rw [List.getElem?_eq_none_iff] at e ⊢
  omega
theorem VDs.append {K : PySem.W.Frag} {H : Hp} : ∀ {v w : List V} {d e : List PyData}, VDs K H v d → VDs K H w e → VDs K H (v ++ w) (d ++ e)
  | _, _, _, _, .nil, h => h
  | _, _, _, _, .cons h hs, g => .cons h (VDs.append hs g)
theorem VDs.drop {K : PySem.W.Frag} {H : Hp} : ∀ {v : List V} {d : List PyData} (n : Nat), VDs K H v d → VDs K H (v.drop n) (d.drop n)
  | _, _, 0, h => h
  | _, _, _ + 1, .nil => .nil
  | _, _, n + 1, .cons _ hs => VDs.drop n hs
theorem VDs.take {K : PySem.W.Frag} {H : Hp} : ∀ {v : List V} {d : List PyData} (n : Nat), VDs K H v d → VDs K H (v.take n) (d.take n)
  | _, _, 0, h => .nil
  | _, _, _ + 1, .nil => .nil
  | _, _, n + 1, .cons h hs => .cons h (VDs.take n hs)
theorem VD.inv_int {K : PySem.W.Frag} {H : Hp} {v : V} {i : Int} (h : VD K H v (.int i)) : v = .int i := by cases h; rfl
theorem VD.inv_bl {K : PySem.W.Frag} {H : Hp} {v : V} {i : Bool} (h : VD K H v (.bool i)) : v = .bl i := by cases h; rfl
theorem VD.inv_str {K : PySem.W.Frag} {H : Hp} {v : V} {i : Str} (h : VD K H v (.str i)) : v = .str i := by cases h; rfl
theorem VD.inv_non {K : PySem.W.Frag} {H : Hp} {v : V} (h : VD K H v .none) : v = .non := by cases h; rfl
theorem VD.inv_tup {K : PySem.W.Frag} {H : Hp} {v : V} {ds : List PyData} (h : VD K H v (.tuple ds)) : ∃ a xs, v = .ref a ∧ SqT K H a xs ∧ VDs K H xs ds := by
  cases h with
  | tup h hs => exact ⟨_, _, rfl, h, hs⟩
theorem VD.inv_lst {K : PySem.W.Frag} {H : Hp} {v : V} {ds : List PyData} (h : VD K H v (.list ds)) : ∃ a xs, v = .ref a ∧ FzL K H a xs ∧ VDs K H xs ds := by
  cases h with
  | lst h hs => exact ⟨_, _, rfl, h, hs⟩

def VR (K : PySem.W.Frag) (H : Hp) (μ : List Addr) (v : V) : D → Prop
  | .d p => VD K H v p
  | .ob n => ∃ a, μ[n]? = some a ∧ v = .ref a
abbrev VRs (K : PySem.W.Frag) (H : Hp) (μ : List Addr) : List V → List D → Prop := Paired (VR K H μ)
def OR (K : PySem.W.Frag) (H : Hp) (μ : List Addr) : HO → O → Prop
  | .lst vs, .lst ds => VRs K H μ vs ds
  | .dK kvs, .dk kds => Paired (fun (p : Key × V) (q : Key × D) => p.1 = q.1 ∧ VR K H μ p.2 q.2) kvs kds
  | _, _ => False

def Ext (H : Hp) (μ : List Addr) (H' : Hp) (μ' : List Addr) : Prop := Keep H H' ∧ μ <+: μ'
theorem Ext.refl (H : Hp) (μ : List Addr) : Ext H μ H μ := ⟨Keep.refl H, List.prefix_rfl⟩
theorem Ext.trans {H H1 H2 : Hp} {μ μ1 μ2 : List Addr} (a : Ext H μ H1 μ1) (b : Ext H1 μ1 H2 μ2) : Ext H μ H2 μ2 := ⟨a.1.trans b.1, a.2.trans b.2⟩
theorem pre_get {α : Type} {l l' : List α} (h : l <+: l') {n : Nat} {a : α} (e : l[n]? = some a) : l'[n]? = some a := by
  obtain ⟨t, rfl⟩ := h
  have : n < l.length := by
    rw [List.getElem?_eq_some_iff] at e
    exact e.1
  rw [List.getElem?_append_left this]
  exact e
theorem VR.ext {K : PySem.W.Frag} {H H' : Hp} {μ μ' : List Addr} (x : Ext H μ H' μ') {v : V} {d : D} (h : VR K H μ v d) : VR K H' μ' v d := by
  cases d with
  | d p => exact VD.keep x.1 h
  | ob n => obtain ⟨a, e, r⟩ := h; exact ⟨a, pre_get x.2 e, r⟩
theorem paired_imp {α β : Type} {F G : α → β → Prop} (f : ∀ a b, F a b → G a b) : ∀ {xs : List α} {ys : List β}, Paired F xs ys → Paired G xs ys
  | _, _, .nil => .nil
  | _, _, .cons h hs => .cons (f _ _ h) (paired_imp f hs)
theorem VRs.ext {K : PySem.W.Frag} {H H' : Hp} {μ μ' : List Addr} (x : Ext H μ H' μ') {v : List V} {d : List D} (h : VRs K H μ v d) : VRs K H' μ' v d := paired_imp (fun _ _ h => VR.ext x h) h
theorem OR.ext {K : PySem.W.Frag} {H H' : Hp} {μ μ' : List Addr} (x : Ext H μ H' μ') {h : HO} {o : O} (r : OR K H μ h o) : OR K H' μ' h o := by
  cases h <;> cases o <;> first | exact VRs.ext x r | exact paired_imp (fun _ _ q => ⟨q.1, VR.ext x q.2⟩) r | exact r.elim

/-- the store S lies in H at the addresses μ; H0, μ0: the entry's -/
structure SR (K : PySem.W.Frag) (H0 : Hp) (μ0 : List Addr) (S : Sto) (H : Hp) (μ : List Addr) : Prop where
  len : μ.length = S.length
  nd : μ.Nodup
  at_ : ∀ (n : Nat) (a : Addr) (o : O), μ[n]? = some a → S[n]? = some o → ∃ ho, H a = some ho ∧ OR K H μ ho o
  pre : μ0 <+: μ
  new : ∀ a ∈ μ, a ∈ μ0 ∨ H0 a = none
  fr : ∀ (a : Addr) (o : HO), H0 a = some o → a ∉ μ0 → H a = some o
def LR (K : PySem.W.Frag) (H : Hp) (μ : List Addr) (σ : L2.St) (ρ : Sl) : Prop :=
  σ.length = ρ.length ∧ ∀ (i : Nat) (d : D), ρ[i]? = some (some d) → ∃ v, σ[i]? = some (some v) ∧ VR K H μ v d
theorem LR.ext {K : PySem.W.Frag} {H H' : Hp} {μ μ' : List Addr} (x : Ext H μ H' μ') {σ : L2.St} {ρ : Sl} (h : LR K H μ σ ρ) : LR K H' μ' σ ρ :=
  ⟨h.1, fun i d e => let ⟨v, e1, r⟩ := h.2 i d e; ⟨v, e1, r.ext x⟩⟩
theorem LR.set {K : PySem.W.Frag} {H : Hp} {μ : List Addr} {σ : L2.St} {ρ : Sl} (h : LR K H μ σ ρ) {i : Nat} {v : V} {d : D} (r : VR K H μ v d) : LR K H μ (σ.set i (some v)) (ρ.set i (some d)) := by
  refine ⟨by simp [h.1], fun j e q => ?_⟩
  by_cases hj : i = j
  · subst hj
    have hl : i < ρ.length := by
      have := List.getElem?_eq_some_iff.mp q
      simpa using this.1
    rw [List.getElem?_set_self hl] at q
    cases q
    exact ⟨v, by rw [List.getElem?_set_self (by rw [h.1]; exact hl)], r⟩
  · rw [List.getElem?_set_ne hj] at q
    obtain ⟨u, e1, r1⟩ := h.2 j e q
    exact ⟨u, by rw [List.getElem?_set_ne hj]; exact e1, r1⟩

/-- an exception as it lies -/
def ExV (K : PySem.W.Frag) (mg : Str → Option Value) (H : Hp) (x : Exn) (cls : Value) (d : Option Addr) : Prop :=
  ∃ C dx fs, mg x.name = some (.ref C) ∧ cls = .ref C ∧ d = some dx ∧ H dx = some (.xd fs) ∧ Paired (fun (p : Str × V) (q : Str × PyData) => p.1 = q.1 ∧ VD K H p.2 q.2) fs x.attrs

/-- where one stands: the written part, the module's names, the exception's wish, the entry -/
structure G where
  K : PySem.W.Frag
  mg : Str → Option Value
  E : XK
  H0 : Hp
  μ0 : List Addr

def Post (g : G) (H : Hp) (μ : List Addr) {α : Type} (P : α → Sto → Hp → List Addr → Prop) : R α → Prop
  | .stuck => False
  | .ok a S' => ∀ H' μ', SR g.K g.H0 g.μ0 S' H' μ' → Ext H μ H' μ' → P a S' H' μ'
  | .ex x S' => ∀ H' μ' cls d, SR g.K g.H0 g.μ0 S' H' μ' → Ext H μ H' μ' → ExV g.K g.mg H' x cls d → g.E cls d H'
theorem Post.ext {g : G} {H H1 : Hp} {μ μ1 : List Addr} {α : Type} {P : α → Sto → Hp → List Addr → Prop} {r : R α} (h : Post g H μ P r) (x : Ext H μ H1 μ1) : Post g H1 μ1 P r := by
  cases r with
  | stuck => exact h
  | ok a S' => exact fun H' μ' s e => h H' μ' s (x.trans e)
  | ex y S' => exact fun H' μ' c d s e => h H' μ' c d s (x.trans e)
theorem Post.mono {g : G} {H : Hp} {μ : List Addr} {α : Type} {P P' : α → Sto → Hp → List Addr → Prop} {r : R α} (h : Post g H μ P r)
    (f : ∀ a S' H' μ', SR g.K g.H0 g.μ0 S' H' μ' → Ext H μ H' μ' → P a S' H' μ' → P' a S' H' μ') : Post g H μ P' r := by
  cases r with
  | stuck => exact h
  | ok a S' => exact fun H' μ' s e => f _ _ _ _ s e (h H' μ' s e)
  | ex y S' => exact h
theorem Post.bind {g : G} {H : Hp} {μ : List Addr} {α β : Type} {P : β → Sto → Hp → List Addr → Prop} {m : M α} {k : α → M β} {S : Sto} (h : Post g H μ P ((m >>= k) S)) :
    Post g H μ (fun a S' H' μ' => Post g H' μ' P (k a S')) (m S) := by
  have h' : Post g H μ P (match m S with | .stuck => .stuck | .ok a S' => k a S' | .ex x S' => .ex x S') := h
  revert h'
  cases m S with
  | stuck => exact fun h => h
  | ok a S' => exact fun h H' μ' s e => h.ext e
  | ex x S' => exact fun h => h
/-- the same, at once with what is to be shown -/
theorem Post.seq {g : G} {H : Hp} {μ : List Addr} {α β : Type} {P : β → Sto → Hp → List Addr → Prop} {P' : α → Sto → Hp → List Addr → Prop} {m : M α} {k : α → M β} {S : Sto} (h : Post g H μ P ((m >>= k) S))
    (f : ∀ a S' H' μ', SR g.K g.H0 g.μ0 S' H' μ' → Ext H μ H' μ' → Post g H' μ' P (k a S') → P' a S' H' μ') : Post g H μ P' (m S) := h.bind.mono f
theorem Post.here {g : G} {H : Hp} {μ : List Addr} {α : Type} {P : α → Sto → Hp → List Addr → Prop} {a : α} {S : Sto} (h : Post g H μ P (.ok a S)) (s : SR g.K g.H0 g.μ0 S H μ) : P a S H μ := h H μ s (Ext.refl H μ)

def VQ (K : PySem.W.Frag) (Q : VK) : D → Sto → Hp → List Addr → Prop := fun d _ H' μ' => ∀ v, VR K H' μ' v d → Q v H'

/-! ### the judgements -/
def Cx.g (X : Cx) (E : XK) (H0 : Hp) (μ0 : List Addr) : G := ⟨X.K, X.mg, E, H0, μ0⟩
def FE (X : Cx) (E : XK) (e : Expr) (f : Sl → M D) : Prop :=
  ∃ t : TE, PE X e t ∧ ∀ (g : G) (ρ : Sl) (S : Sto) (σ : L2.St) (H : Hp) (μ : List Addr) (Q : VK), g.K = X.K → g.mg = X.mg → g.E = E → SR g.K g.H0 g.μ0 S H μ → LR g.K H μ σ ρ → Post g H μ (VQ g.K Q) (f ρ S) → t σ H Q
def FT (X : Cx) (E : XK) (e : Expr) (f : Sl → M Bool) : Prop :=
  ∃ t : TT, PT X e t ∧ ∀ (g : G) (ρ : Sl) (S : Sto) (σ : L2.St) (H : Hp) (μ : List Addr) (Q : Bool → Hp → Prop), g.K = X.K → g.mg = X.mg → g.E = E → SR g.K g.H0 g.μ0 S H μ → LR g.K H μ σ ρ → Post g H μ (fun b _ H' _ => Q b H') (f ρ S) → t σ H Q
def FA (X : Cx) (E : XK) (es : List Expr) (f : Sl → M (List D)) : Prop :=
  ∃ t : TA, PA X es t ∧ ∀ (g : G) (ρ : Sl) (S : Sto) (σ : L2.St) (H : Hp) (μ : List Addr) (Q : List V → Hp → Prop), g.K = X.K → g.mg = X.mg → g.E = E → SR g.K g.H0 g.μ0 S H μ → LR g.K H μ σ ρ →
    Post g H μ (fun ds _ H' μ' => ∀ vs, VRs g.K H' μ' vs ds → Q vs H') (f ρ S) → t σ H Q
inductive Oc where
  | nx (ρ : Sl)
  | rt (d : D)
  | bk (ρ : Sl)
  | ct (ρ : Sl)
def OQ (K : PySem.W.Frag) (Dn : Ends) : Oc → Sto → Hp → List Addr → Prop
  | .nx ρ, _, H, μ => ∀ σ, LR K H μ σ ρ → Dn.nx σ H
  | .rt d, _, H, μ => ∀ v, VR K H μ v d → Dn.rt v H
  | .bk ρ, _, H, μ => ∀ σ, LR K H μ σ ρ → Dn.bk σ H
  | .ct ρ, _, H, μ => ∀ σ, LR K H μ σ ρ → Dn.ct σ H
def FS (X : Cx) (E : XK) (st : Stmt) (f : Sl → M Oc) : Prop :=
  ∃ t : TS, PS X st t ∧ ∀ (g : G) (ρ : Sl) (S : Sto) (σ : L2.St) (H : Hp) (μ : List Addr) (Dn : Ends), g.K = X.K → g.mg = X.mg → g.E = E → SR g.K g.H0 g.μ0 S H μ → LR g.K H μ σ ρ → Post g H μ (OQ g.K Dn) (f ρ S) → t Dn σ H
def FSs (X : Cx) (E : XK) (st : List Stmt) (f : Sl → M Oc) : Prop :=
  ∃ t : TS, PSs X st t ∧ ∀ (g : G) (ρ : Sl) (S : Sto) (σ : L2.St) (H : Hp) (μ : List Addr) (Dn : Ends), g.K = X.K → g.mg = X.mg → g.E = E → SR g.K g.H0 g.μ0 S H μ → LR g.K H μ σ ρ → Post g H μ (OQ g.K Dn) (f ρ S) → t Dn σ H
end Fx
end
section
namespace Fx
open PySem PySem.Spec PyProof.Rows L2

theorem nodup_at {α : Type} : ∀ {l : List α} {i j : Nat} {a : α}, l.Nodup → l[i]? = some a → l[j]? = some a → i = j
  | [], _, _, _, _, h, _ => by simp at h
  | b :: l, 0, 0, _, _, _, _ => rfl
  | b :: l, 0, j + 1, a, n, h, h' => by
    simp only [List.getElem?_cons_zero, Option.some.injEq] at h
    subst h
    exact absurd (List.mem_of_getElem? (by simpa using h')) (List.nodup_cons.mp n).1
  | b :: l, i + 1, 0, a, n, h, h' => by
    simp only [List.getElem?_cons_zero, Option.some.injEq] at h'
    subst h'
    exact absurd (List.mem_of_getElem? (by simpa using h)) (List.nodup_cons.mp n).1
  | b :: l, i + 1, j + 1, a, n, h, h' => by
    exact congrArg (· + 1) (nodup_at (List.nodup_cons.mp n).2 (by simpa using h) (by simpa using h'))
/-! ### the heap's moves -/
section
variable {K : PySem.W.Frag} {H0 H : Hp} {μ0 μ : List Addr} {S : Sto}
theorem keep_new {p : Addr} {o : HO} (h : H p = none) : Keep H (upd H p o) := fun a =>
  ⟨fun xs e => by rw [upd_ne (ne_of_none e h)]; exact e, fun q u e => by rw [upd_ne (ne_of_none e h)]; exact e⟩
theorem keep_at {p : Addr} {o : HO} (h : ∀ xs, H p ≠ some (.tup xs)) (h' : ∀ q u, H p ≠ some (.frz q u)) : Keep H (upd H p o) := fun a =>
  ⟨fun xs e => by
    by_cases z : a = p
    · subst z; exact absurd e (h xs)
    · rw [upd_ne z]; exact e,
   fun q u e => by
    by_cases z : a = p
    · subst z; exact absurd e (h' q u)
    · rw [upd_ne z]; exact e⟩
theorem SR.mem (s : SR K H0 μ0 S H μ) {a : Addr} (h : a ∈ μ) : ∃ ho, H a = some ho := by
  obtain ⟨n, hn, e⟩ := List.mem_iff_getElem.mp h
  have hS : n < S.length := by rw [← s.len]; exact hn
  obtain ⟨ho, e1, _⟩ := s.at_ n a S[n] (by rw [List.getElem?_eq_getElem hn, e]) (List.getElem?_eq_getElem hS)
  exact ⟨ho, e1⟩
theorem SR.fresh (s : SR K H0 μ0 S H μ) {p : Addr} (h : H p = none) : p ∉ μ ∧ H0 p = none := by
  have h1 : p ∉ μ := fun z => by
    obtain ⟨ho, e⟩ := s.mem z
    rw [h] at e; cases e
  refine ⟨h1, ?_⟩
  cases q : H0 p with
  | none => rfl
  | some o =>
    have := s.fr p o q (fun z => h1 (s.pre.subset z))
    rw [h] at this; cases this
/-- an object comes that the store does not name (a tuple) -/
theorem SR.aside (s : SR K H0 μ0 S H μ) {p : Addr} {o : HO} (h : H p = none) : SR K H0 μ0 S (upd H p o) μ where
  len := s.len
  nd := s.nd
  at_ := fun n a q e1 e2 => by
    obtain ⟨ho, e3, r⟩ := s.at_ n a q e1 e2
    refine ⟨ho, by rw [upd_ne (ne_of_none e3 h)]; exact e3, r.ext ⟨keep_new h, List.prefix_rfl⟩⟩
  pre := s.pre
  new := s.new
  fr := fun a q e n => by
    have := s.fr a q e n
    rw [upd_ne (ne_of_none this h)]; exact this
theorem ext_aside {p : Addr} {o : HO} (h : H p = none) : Ext H μ (upd H p o) μ := ⟨keep_new h, List.prefix_rfl⟩
/-- an object comes that the store names -/
theorem SR.alloc (s : SR K H0 μ0 S H μ) {p : Addr} {ho : HO} {o : O} (h : H p = none) (r : OR K H μ ho o) : SR K H0 μ0 (S ++ [o]) (upd H p ho) (μ ++ [p]) where
  len := by simp [s.len]
  nd := by
    have := (s.fresh h).1
    rw [List.nodup_append]
    refine ⟨s.nd, by simp, fun a ha b hb => ?_⟩
    have e : b = p := by simpa using hb
    subst e
    exact fun z => this (z ▸ ha)
  at_ := fun n a q e1 e2 => by
    by_cases hn : n < μ.length
    · rw [List.getElem?_append_left hn] at e1
      rw [List.getElem?_append_left (by rw [← s.len]; exact hn)] at e2
      obtain ⟨ho', e3, r'⟩ := s.at_ n a q e1 e2
      exact ⟨ho', by rw [upd_ne (ne_of_none e3 h)]; exact e3, r'.ext ⟨keep_new h, List.prefix_append _ _⟩⟩
    · have hn' : n = μ.length := by
        have := (List.getElem?_eq_some_iff.mp e1).1
        simp at this; omega
      subst hn'
      have hl := s.len
      rw [List.getElem?_append_right (Nat.le_refl _)] at e1
      rw [List.getElem?_append_right (by omega)] at e2
      simp only [Nat.sub_self, List.getElem?_cons_zero, Option.some.injEq] at e1
      rw [show μ.length - S.length = 0 by omega] at e2
      simp only [List.getElem?_cons_zero, Option.some.injEq] at e2
      subst e1; subst e2
      exact ⟨ho, upd_same, r.ext ⟨keep_new h, List.prefix_append _ _⟩⟩
  pre := s.pre.trans (List.prefix_append _ _)
  new := fun a ha => by
    rcases List.mem_append.mp ha with q | q
    · exact s.new a q
    · have e : a = p := by simpa using q
      subst e
      exact .inr (s.fresh h).2
  fr := fun a q e n => by
    have := s.fr a q e n
    rw [upd_ne (ne_of_none this h)]; exact this
theorem ext_alloc {p : Addr} {o : HO} (h : H p = none) : Ext H μ (upd H p o) (μ ++ [p]) := ⟨keep_new h, List.prefix_append _ _⟩
theorem or_not_tup {ho : HO} {o : O} (r : OR K H μ ho o) (xs : List V) : ho ≠ .tup xs := fun z => by subst z; cases o <;> exact r.elim
theorem or_not_frz {ho : HO} {o : O} (r : OR K H μ ho o) (q : Obj) (u : HO) : ho ≠ .frz q u := fun z => by subst z; cases o <;> exact r.elim
theorem SR.keep (s : SR K H0 μ0 S H μ) {n : Nat} {a : Addr} (e : μ[n]? = some a) {o : HO} : Keep H (upd H a o) := by
  have hn := (List.getElem?_eq_some_iff.mp e).1
  have hS : n < S.length := by rw [← s.len]; exact hn
  obtain ⟨ho, e1, r⟩ := s.at_ n a S[n] e (List.getElem?_eq_getElem hS)
  exact keep_at (fun xs z => by rw [e1] at z; cases z; exact or_not_tup r _ rfl) (fun q u z => by rw [e1] at z; cases z; exact or_not_frz r _ _ rfl)
/-- the n-th object is changed -/
theorem SR.put (s : SR K H0 μ0 S H μ) {n : Nat} {a : Addr} (e : μ[n]? = some a) {ho : HO} {o : O} (r : OR K H μ ho o) : SR K H0 μ0 (S.set n o) (upd H a ho) μ where
  len := by simp [s.len]
  nd := s.nd
  at_ := fun m b q e1 e2 => by
    by_cases hm : n = m
    · subst hm
      rw [e] at e1; cases e1
      have hS : n < S.length := by rw [← s.len]; exact (List.getElem?_eq_some_iff.mp e).1
      rw [List.getElem?_set_self hS] at e2
      cases e2
      exact ⟨ho, upd_same, r.ext ⟨s.keep e, List.prefix_rfl⟩⟩
    · rw [List.getElem?_set_ne hm] at e2
      obtain ⟨ho', e3, r'⟩ := s.at_ m b q e1 e2
      have hab : b ≠ a := fun z => by
        subst z
        exact hm (nodup_at s.nd e e1)
      exact ⟨ho', by rw [upd_ne hab]; exact e3, r'.ext ⟨s.keep e, List.prefix_rfl⟩⟩
  pre := s.pre
  new := s.new
  fr := fun b q e1 hn => by
    have h1 := s.fr b q e1 hn
    have hab : b ≠ a := fun z => by
      subst z
      rcases s.new b (List.mem_of_getElem? e) with z | z
      · exact hn z
      · rw [e1] at z; cases z
    rw [upd_ne hab]; exact h1
theorem SR.ext_put (s : SR K H0 μ0 S H μ) {n : Nat} {a : Addr} (e : μ[n]? = some a) {o : HO} : Ext H μ (upd H a o) μ := ⟨s.keep e, List.prefix_rfl⟩
/-- a list of the store, as it lies -/
theorem SR.lst (s : SR K H0 μ0 S H μ) {n : Nat} {a : Addr} {ds : List D} (e : μ[n]? = some a) (e2 : S[n]? = some (.lst ds)) : ∃ vs, H a = some (.lst vs) ∧ VRs K H μ vs ds := by
  obtain ⟨ho, e3, r⟩ := s.at_ n a _ e e2
  cases ho <;> first | exact ⟨_, e3, r⟩ | exact r.elim
theorem SR.dk (s : SR K H0 μ0 S H μ) {n : Nat} {a : Addr} {ds : List (Key × D)} (e : μ[n]? = some a) (e2 : S[n]? = some (.dk ds)) :
    ∃ vs, H a = some (.dK vs) ∧ Paired (fun (p : Key × V) (q : Key × D) => p.1 = q.1 ∧ VR K H μ p.2 q.2) vs ds := by
  obtain ⟨ho, e3, r⟩ := s.at_ n a _ e e2
  cases ho <;> first | exact ⟨_, e3, r⟩ | exact r.elim
end
theorem VRs.get {K : PySem.W.Frag} {H : Hp} {μ : List Addr} : ∀ {v : List V} {d : List D} (i : Nat) {x : D}, VRs K H μ v d → d[i]? = some x → ∃ u, v[i]? = some u ∧ VR K H μ u x
  | _, _, _, _, .nil, e => by simp at e
  | _, _, 0, _, .cons h _, e => by simp at e; subst e; exact ⟨_, rfl, h⟩
  | _, _, i + 1, _, .cons _ hs, e => by
    obtain ⟨u, h1, h2⟩ := VRs.get i hs (by simpa using e)
    exact ⟨u, by simpa using h1, h2⟩
theorem VRs.length {K : PySem.W.Frag} {H : Hp} {μ : List Addr} {v : List V} {d : List D} (h : VRs K H μ v d) : v.length = d.length := Paired.length h
theorem VRs.append {K : PySem.W.Frag} {H : Hp} {μ : List Addr} : ∀ {v w : List V} {d e : List D}, VRs K H μ v d → VRs K H μ w e → VRs K H μ (v ++ w) (d ++ e)
  | _, _, _, _, .nil, h => h
  | _, _, _, _, .cons h hs, g => .cons h (VRs.append hs g)
theorem VRs.set {K : PySem.W.Frag} {H : Hp} {μ : List Addr} {x : V} {y : D} (r : VR K H μ x y) : ∀ {v : List V} {d : List D} (i : Nat), VRs K H μ v d → VRs K H μ (v.set i x) (d.set i y)
  | _, _, _, .nil => .nil
  | _, _, 0, .cons _ t => .cons r t
  | _, _, i + 1, .cons q t => .cons q (VRs.set r i t)
theorem VRs.drop {K : PySem.W.Frag} {H : Hp} {μ : List Addr} : ∀ {v : List V} {d : List D} (n : Nat), VRs K H μ v d → VRs K H μ (v.drop n) (d.drop n)
  | _, _, 0, h => h
  | _, _, _ + 1, .nil => .nil
  | _, _, n + 1, .cons _ hs => VRs.drop n hs
theorem VRs.take {K : PySem.W.Frag} {H : Hp} {μ : List Addr} : ∀ {v : List V} {d : List D} (n : Nat), VRs K H μ v d → VRs K H μ (v.take n) (d.take n)
  | _, _, 0, h => .nil
  | _, _, _ + 1, .nil => .nil
  | _, _, n + 1, .cons h hs => .cons h (VRs.take n hs)
/-- data out of local values -/
def D.py : D → Option PyData
  | .d p => some p
  | .ob _ => none
def pys : List D → Option (List PyData)
  | [] => some []
  | .d p :: r => (pys r).map (p :: ·)
  | .ob _ :: _ => none
theorem VRs.data {K : PySem.W.Frag} {H : Hp} {μ : List Addr} : ∀ {v : List V} {d : List D} {ps : List PyData}, VRs K H μ v d → pys d = some ps → VDs K H v ps
  | _, _, _, .nil, e => by simp [pys] at e; subst e; exact .nil
  | _, .d p :: r, _, .cons h hs, e => by
    simp only [pys, Option.map_eq_some_iff] at e
    obtain ⟨q, e1, e2⟩ := e
    subst e2
    exact .cons h (VRs.data hs e1)
  | _, .ob n :: r, _, .cons h hs, e => by simp [pys] at e
theorem VDs.vrs {K : PySem.W.Frag} {H : Hp} {μ : List Addr} : ∀ {v : List V} {ps : List PyData}, VDs K H v ps → VRs K H μ v (ps.map .d)
  | _, _, .nil => .nil
  | _, _, .cons h hs => .cons h (VDs.vrs hs)
/-- the items of what is a list or a tuple -/
def seqOf (S : Sto) : D → Option (List D)
  | .d (.tuple ds) => some (ds.map .d)
  | .d (.list ds) => some (ds.map .d)
  | .ob n => match S[n]? with
    | some (.lst l) => some l
    | _ => none
  | _ => none
theorem SR.seq {K : PySem.W.Frag} {H0 H : Hp} {μ0 μ : List Addr} {S : Sto} (s : SR K H0 μ0 S H μ) {v : V} {x : D} {ds : List D} (r : VR K H μ v x) (e : seqOf S x = some ds) : ∃ a vs, v = .ref a ∧ (SqL K H a vs ∨ SqT K H a vs) ∧ VRs K H μ vs ds := by
  cases x with
  | d p =>
    cases p <;> simp only [seqOf] at e <;> try (cases e)
    · obtain ⟨a, xs, rfl, h, hs⟩ := VD.inv_lst r
      exact ⟨a, xs, rfl, .inl h.sq, VDs.vrs hs⟩
    · obtain ⟨a, xs, rfl, h, hs⟩ := VD.inv_tup r
      exact ⟨a, xs, rfl, .inr h, VDs.vrs hs⟩
  | ob n =>
    obtain ⟨a, e1, rfl⟩ := r
    simp only [seqOf] at e
    split at e
    · rename_i l q
      cases e
      obtain ⟨vs, h1, h2⟩ := s.lst e1 q
      exact ⟨a, vs, rfl, .inl (.inl (.inl h1)), h2⟩
    · cases e
/-- a list or tuple wholly of data, as data -/
def whole (S : Sto) : D → Option PyData
  | .d p => some p
  | .ob n => match S[n]? with
    | some (.lst l) => (pys l).map .list
    | _ => none
theorem SR.dp {K : PySem.W.Frag} {H0 H : Hp} {μ0 μ : List Addr} {S : Sto} (s : SR K H0 μ0 S H μ) {v : V} {x : D} {p : PyData} (r : VR K H μ v x) (e : whole S x = some p) : Dp K H v p := by
  cases x with
  | d q => simp only [whole] at e; cases e; exact VD.dp r
  | ob n =>
    obtain ⟨a, e1, rfl⟩ := r
    simp only [whole] at e
    split at e
    · rename_i l q
      simp only [Option.map_eq_some_iff] at e
      obtain ⟨ps, e2, rfl⟩ := e
      obtain ⟨vs, h1, h2⟩ := s.lst e1 q
      exact .lst (.inl (.inl h1)) (VDs.dp (h2.data e2))
    · cases e

/-! ### names, constants -/
section
variable {X : Cx} {E : XK}
def var (i : Nat) : Sl → M D := fun ρ S => match ρ[i]? with
  | some (some d) => .ok d S
  | _ => .stuck
theorem fe_var (i : Nat) {x : Str} {pos : Pos} (hN : X.N[i]? = some x := by rfl) (hv : Vis X.env.scope x := by first | exact Or.inl rfl | exact Or.inr (Or.inl rfl) | exact Or.inr (Or.inr rfl)) (hd : (x == ("__debug__" : Str)) = false := by decide)
    (hcd : (x == ("__classdict__" : Str)) = false := by decide) : FE X E (.Name x pos) (var i) := by
  refine ⟨_, pe_var hN hv hd hcd, fun g ρ S σ H μ Q _ _ _ hS hL hp => ?_⟩
  unfold var at hp
  split at hp
  · rename_i d e
    obtain ⟨v, e1, r⟩ := hL.2 i d e
    exact ⟨v, e1, hp.here hS v r⟩
  · exact hp.elim
def con (p : PyData) : Sl → M D := fun _ => M.pure (.d p)
theorem fe_int {i : Int} {j pos} : FE X E (.Constant (.int i) j pos) (con (.int i)) := ⟨_, pe_int, fun g ρ S σ H μ Q _ _ _ hS hL hp => hp.here hS _ (.int i)⟩
theorem fe_bl {i : Bool} {j pos} : FE X E (.Constant (.bool i) j pos) (con (.bool i)) := ⟨_, pe_bl, fun g ρ S σ H μ Q _ _ _ hS hL hp => hp.here hS _ (.bl i)⟩
theorem fe_non {j pos} : FE X E (.Constant .none j pos) (con .none) := ⟨_, pe_non, fun g ρ S σ H μ Q _ _ _ hS hL hp => hp.here hS _ .non⟩
theorem fe_str {i : Str} {j pos} : FE X E (.Constant (.str i) j pos) (con (.str i)) := ⟨_, pe_str, fun g ρ S σ H μ Q _ _ _ hS hL hp => hp.here hS _ (.str i)⟩
/-- a constant of the module -/
theorem fe_glob {x : Str} {pos : Pos} {u : Value} {v : V} {p : PyData} (hg : Gl X x) (hm : X.mg x = some u) (r : RelV v u) (hp : ∀ H, VD X.K H v p) (hd : (x == ("__debug__" : Str)) = false := by decide) : FE X E (.Name x pos) (con p) :=
  ⟨_, pe_glob hg hm r hd, fun g ρ S σ H μ Q hK _ _ hS hL h => h.here hS _ (by rw [hK]; exact hp H)⟩

/-! ### operators by values -/
def OpF (X : Cx) (E : XK) (f : Value → Value → Sem Value) (o : D → D → M D) : Prop :=
  ∃ r : R2, OpR X f r ∧ ∀ (g : G) (S : Sto) (H : Hp) (μ : List Addr) (a b : D) (v u : V) (Q : VK), g.K = X.K → g.mg = X.mg → g.E = E → SR g.K g.H0 g.μ0 S H μ → VR g.K H μ v a → VR g.K H μ u b → Post g H μ (VQ g.K Q) (o a b S) → r v u H Q
def op2 (o : D → D → M D) (fa fb : Sl → M D) : Sl → M D := fun ρ => fa ρ >>= fun a => fb ρ >>= fun b => o a b
theorem fe_op {op : Operator} {a b : Expr} {pos : Pos} {o : D → D → M D} {fa fb : Sl → M D} (ho : OpF X E (binaryOp op) o) (ha : FE X E a fa) (hb : FE X E b fb) : FE X E (.BinOp a op b pos) (op2 o fa fb) := by
  obtain ⟨r, hr, ho⟩ := ho
  obtain ⟨ta, pa, ha⟩ := ha
  obtain ⟨tb, pb, hb⟩ := hb
  refine ⟨_, pe_op hr pa pb, fun g ρ S σ H μ Q hK hM hE hS hL hp => ?_⟩
  refine ha g ρ S σ H μ _ hK hM hE hS hL (hp.seq fun x S1 H1 μ1 s1 e1 p1 v rv => ?_)
  refine hb g ρ S1 σ H1 μ1 _ hK hM hE s1 (hL.ext e1) (p1.seq fun y S2 H2 μ2 s2 e2 p2 u ru => ?_)
  exact ho g S2 H2 μ2 x y v u Q hK hM hE s2 (rv.ext e2) ru p2
theorem fe_cmp {op : CmpOp} {a b : Expr} {pos : Pos} {o : D → D → M D} {fa fb : Sl → M D} (ho : OpF X E (compareOp op) o) (hm : behindInMarks op b = false) (ha : FE X E a fa) (hb : FE X E b fb) : FE X E (.Compare a [op] [b] pos) (op2 o fa fb) := by
  obtain ⟨r, hr, ho⟩ := ho
  obtain ⟨ta, pa, ha⟩ := ha
  obtain ⟨tb, pb, hb⟩ := hb
  refine ⟨_, pe_cmpR hr pa pb hm, fun g ρ S σ H μ Q hK hM hE hS hL hp => ?_⟩
  refine ha g ρ S σ H μ _ hK hM hE hS hL (hp.seq fun x S1 H1 μ1 s1 e1 p1 v rv => ?_)
  refine hb g ρ S1 σ H1 μ1 _ hK hM hE s1 (hL.ext e1) (p1.seq fun y S2 H2 μ2 s2 e2 p2 u ru => ?_)
  exact ho g S2 H2 μ2 x y v u Q hK hM hE s2 (rv.ext e2) ru p2
/-- an operator that changes nothing -/
def pur2 (f : Sto → D → D → Option D) : D → D → M D := fun a b S => match f S a b with
  | some z => .ok z S
  | none => .stuck
theorem opf_pure {f : Value → Value → Sem Value} {r : R2} {o : Sto → D → D → Option D} (hr : OpR X f r)
    (h : ∀ (g : G) (S : Sto) (H : Hp) (μ : List Addr) (a b : D) (v u : V) (z : D) (Q : VK), g.K = X.K → SR g.K g.H0 g.μ0 S H μ → VR g.K H μ v a → VR g.K H μ u b → o S a b = some z → (∀ w, VR g.K H μ w z → Q w H) → r v u H Q) : OpF X E f (pur2 o) := by
  refine ⟨r, hr, fun g S H μ a b v u Q hK _ _ hS ra rb hp => ?_⟩
  unfold pur2 at hp
  split at hp
  · rename_i z e
    exact h g S H μ a b v u z Q hK hS ra rb e (hp.here hS)
  · exact hp.elim
def iop (C : Int → Int → Prop) [∀ i j, Decidable (C i j)] (k : Int → Int → PyData) : Sto → D → D → Option D := fun _ a b => match a, b with
  | .d (.int i), .d (.int j) => if C i j then some (.d (k i j)) else none
  | _, _ => none
theorem iop_inv {C : Int → Int → Prop} [∀ i j, Decidable (C i j)] {k : Int → Int → PyData} {S : Sto} {a b z : D} (h : iop C k S a b = some z) : ∃ i j, a = .d (.int i) ∧ b = .d (.int j) ∧ C i j ∧ z = .d (k i j) := by
  unfold iop at h
  split at h
  · split at h
    · rename_i i j c
      cases h
      exact ⟨_, _, rfl, rfl, c, rfl⟩
    · cases h
  · cases h
theorem opf_int {f : Value → Value → Sem Value} {C : Int → Int → Prop} [∀ i j, Decidable (C i j)] {k : Int → Int → Int} (hr : OpR X f (rI C fun i j => .int (k i j))) : OpF X E f (pur2 (iop C fun i j => .int (k i j))) :=
  opf_pure hr fun g S H μ a b v u z Q _ _ ra rb e q => by
    obtain ⟨i, j, rfl, rfl, c, rfl⟩ := iop_inv e
    exact ⟨i, j, VD.inv_int ra, VD.inv_int rb, c, q _ (VD.int _)⟩
theorem opf_int0 {f : Value → Value → Sem Value} {k : Int → Int → Int} (hr : OpR X f (rI0 fun i j => .int (k i j))) : OpF X E f (pur2 (iop (fun _ _ => True) fun i j => .int (k i j))) :=
  opf_pure hr fun g S H μ a b v u z Q _ _ ra rb e q => by
    obtain ⟨i, j, rfl, rfl, c, rfl⟩ := iop_inv e
    exact ⟨i, j, VD.inv_int ra, VD.inv_int rb, q _ (VD.int _)⟩
theorem opf_bl0 {f : Value → Value → Sem Value} {k : Int → Int → Bool} (hr : OpR X f (rI0 fun i j => .bl (k i j))) : OpF X E f (pur2 (iop (fun _ _ => True) fun i j => .bool (k i j))) :=
  opf_pure hr fun g S H μ a b v u z Q _ _ ra rb e q => by
    obtain ⟨i, j, rfl, rfl, c, rfl⟩ := iop_inv e
    exact ⟨i, j, VD.inv_int ra, VD.inv_int rb, q _ (VD.bl _)⟩
instance (i j : Int) : Decidable (CMul i j) := inferInstanceAs (Decidable (_ ∨ _))
instance (i j : Int) : Decidable (CDivN i j) := inferInstanceAs (Decidable (_ ∧ _))
/-- one of two readings -/
theorem opf_or {f : Value → Value → Sem Value} {o o' : Sto → D → D → Option D} (h : OpF X E f (pur2 o)) (h' : OpF X E f (pur2 o')) : OpF X E f (pur2 fun S a b => (o S a b).or (o' S a b)) := by
  obtain ⟨r, hr, h⟩ := h
  obtain ⟨r', hr', h'⟩ := h'
  refine ⟨_, hr.or hr', fun g S H μ a b v u Q hK hM hE hS ra rb hp => ?_⟩
  cases e : o S a b with
  | some z => exact .inl (h g S H μ a b v u Q hK hM hE hS ra rb (by unfold pur2 at hp ⊢; simp only [e, Option.some_or] at hp ⊢; exact hp))
  | none => exact .inr (h' g S H μ a b v u Q hK hM hE hS ra rb (by unfold pur2 at hp ⊢; simp only [e, Option.none_or] at hp; exact hp))
end
end Fx
end
section
namespace Fx
open PySem PySem.Spec PyProof.Rows L2
section
variable {X : Cx} {E : XK}

/-! ### == != in -/
def okEq (p q : PyData) : Bool := SeqAt.shaped p && SeqAt.shaped q
def eqD (k : Bool → Bool) : Sto → D → D → Option D := fun S a b => match whole S a, whole S b with
  | some p, some q => if okEq p q = true then some (.d (.bool (k (PyData.eqv p q)))) else none
  | _, _ => none
theorem eqD_inv {k : Bool → Bool} {S : Sto} {a b z : D} (h : eqD k S a b = some z) : ∃ p q, whole S a = some p ∧ whole S b = some q ∧ SeqAt.shaped p = true ∧ SeqAt.shaped q = true ∧ z = .d (.bool (k (PyData.eqv p q))) := by
  unfold eqD at h
  split at h
  · rename_i p q e1 e2
    split at h
    · rename_i c
      cases h
      unfold okEq at c
      rw [Bool.and_eq_true] at c
      exact ⟨p, q, e1, e2, c.1, c.2, rfl⟩
    · cases h
  · cases h
theorem opf_eq (hu : X.A.units + 64 < cLine) : OpF X E (compareOp .Eq) (pur2 (eqD id)) :=
  opf_pure (op_eqD hu) fun g S H μ a b v u z Q hK hS ra rb e q => by
    obtain ⟨p, r, e1, e2, h1, h2, rfl⟩ := eqD_inv e
    rw [hK] at *
    exact ⟨p, r, hS.dp ra e1, hS.dp rb e2, h1, h2, q _ (VD.bl _)⟩
theorem opf_ne (hu : X.A.units + 64 < cLine) : OpF X E (compareOp .NotEq) (pur2 (eqD not)) :=
  opf_pure (op_neD hu) fun g S H μ a b v u z Q hK hS ra rb e q => by
    obtain ⟨p, r, e1, e2, h1, h2, rfl⟩ := eqD_inv e
    rw [hK] at *
    exact ⟨p, r, hS.dp ra e1, hS.dp rb e2, h1, h2, q _ (VD.bl _)⟩
def itemsOf : PyData → Option (List PyData)
  | .list ds => some ds
  | .tuple ds => some ds
  | _ => none
def inD (k : Bool → Bool) : Sto → D → D → Option D := fun S a b => match whole S a, whole S b with
  | some p, some q => match itemsOf q with
    | some ds => if okEq p q = true then some (.d (.bool (k (ds.any fun z => PyData.eqv z p)))) else none
    | none => none
  | _, _ => none
theorem inD_inv {k : Bool → Bool} {S : Sto} {a b z : D} (h : inD k S a b = some z) : ∃ p q ds, whole S a = some p ∧ whole S b = some q ∧ itemsOf q = some ds ∧ SeqAt.shaped p = true ∧ SeqAt.shaped q = true ∧ z = .d (.bool (k (ds.any fun z => PyData.eqv z p))) := by
  unfold inD at h
  split at h
  · rename_i p q e1 e2
    split at h
    · rename_i ds e3
      split at h
      · rename_i c
        cases h
        unfold okEq at c
        rw [Bool.and_eq_true] at c
        exact ⟨p, q, ds, e1, e2, e3, c.1, c.2, rfl⟩
      · cases h
    · cases h
  · cases h
def rInA (K : PySem.W.Frag) (k : Bool → Bool) : R2 := fun x y H Q => ∃ d c ds, Dp K H x d ∧ Dp K H y c ∧ itemsOf c = some ds ∧ SeqAt.shaped d = true ∧ SeqAt.shaped c = true ∧ Q (.bl (k (ds.any fun z => PyData.eqv z d))) H
theorem op_inA (hu : X.A.units + 65 < cLine) : OpR X (compareOp .In) (rInA X.K id) := by
  intro pins s σ H x y v u Q I rx ry h
  obtain ⟨d, c, ds, hd, he, hi, sd, se, q⟩ := h
  obtain ⟨as, r1⟩ := Dp.reads I d x v hd rx
  obtain ⟨bs, r2⟩ := Dp.reads I c y u he ry
  cases c <;> simp only [itemsOf] at hi <;> try (cases hi)
  · exact SeqAt.in_list_reads r2 r1 (SeqAt.canLay_of_shaped se) (SeqAt.canLay_of_shaped sd) (room_in_shaped sd hu) ⟨.bl _, H, I, rfl, q⟩
  · exact SeqAt.in_tuple_reads r2 r1 (SeqAt.canLay_of_shaped se) (SeqAt.canLay_of_shaped sd) (room_in_shaped sd hu) ⟨.bl _, H, I, rfl, q⟩
theorem op_notInA (hu : X.A.units + 65 < cLine) : OpR X (compareOp .NotIn) (rInA X.K not) := by
  intro pins s σ H x y v u Q I rx ry h
  obtain ⟨d, c, ds, hd, he, hi, sd, se, q⟩ := h
  obtain ⟨as, r1⟩ := Dp.reads I d x v hd rx
  obtain ⟨bs, r2⟩ := Dp.reads I c y u he ry
  cases c <;> simp only [itemsOf] at hi <;> try (cases hi)
  · exact SeqAt.notIn_list_reads r2 r1 (SeqAt.canLay_of_shaped se) (SeqAt.canLay_of_shaped sd) (room_in_shaped sd hu) ⟨.bl _, H, I, rfl, q⟩
  · exact SeqAt.notIn_tuple_reads r2 r1 (SeqAt.canLay_of_shaped se) (SeqAt.canLay_of_shaped sd) (room_in_shaped sd hu) ⟨.bl _, H, I, rfl, q⟩
theorem opf_in (hu : X.A.units + 65 < cLine) : OpF X E (compareOp .In) (pur2 (inD id)) :=
  opf_pure (op_inA hu) fun g S H μ a b v u z Q hK hS ra rb e q => by
    obtain ⟨p, r, ds, e1, e2, e3, h1, h2, rfl⟩ := inD_inv e
    rw [hK] at *
    exact ⟨p, r, ds, hS.dp ra e1, hS.dp rb e2, e3, h1, h2, q _ (VD.bl _)⟩
theorem opf_notIn (hu : X.A.units + 65 < cLine) : OpF X E (compareOp .NotIn) (pur2 (inD not)) :=
  opf_pure (op_notInA hu) fun g S H μ a b v u z Q hK hS ra rb e q => by
    obtain ⟨p, r, ds, e1, e2, e3, h1, h2, rfl⟩ := inD_inv e
    rw [hK] at *
    exact ⟨p, r, ds, hS.dp ra e1, hS.dp rb e2, e3, h1, h2, q _ (VD.bl _)⟩

/-! ### order -/
def intsD : List PyData → Option (List Int)
  | [] => some []
  | .int i :: r => (intsD r).map (i :: ·)
  | _ :: _ => none
theorem intsD_map : ∀ {ds : List PyData} {ns : List Int}, intsD ds = some ns → ds = ns.map .int
  | [], _, h => by simp [intsD] at h; subst h; rfl
  | .int i :: r, _, h => by
    simp only [intsD, Option.map_eq_some_iff] at h
    obtain ⟨q, e1, e2⟩ := h
    subst e2
    rw [intsD_map e1]; rfl
  | .none :: _, _, h => by simp [intsD] at h
  | .bool _ :: _, _, h => by simp [intsD] at h
  | .str _ :: _, _, h => by simp [intsD] at h
  | .list _ :: _, _, h => by simp [intsD] at h
  | .tuple _ :: _, _, h => by simp [intsD] at h
  | .dict _ :: _, _, h => by simp [intsD] at h
theorem intsD_of (ns : List Int) : intsD (ns.map .int) = some ns := by
  induction ns with
  | nil => rfl
  | cons a l ih => simp [intsD, ih]
theorem VDs.intsD {K : PySem.W.Frag} {H : Hp} : ∀ {vs : List V} {ns : List Int}, VDs K H vs (ns.map .int) → vs = ns.map V.int
  | _, [], h => by cases h; rfl
  | _, i :: ns, h => by
    cases h with
    | cons h hs => rw [VD.inv_int h, VDs.intsD hs]; rfl
theorem op_lt_any : OpF X E (compareOp .Lt) (pur2 (iop (fun _ _ => True) fun i j => .bool (decide (i < j)))) := opf_bl0 op_lt
theorem opf_lt : OpF X E (compareOp .Lt) (pur2 (iop (fun _ _ => True) fun i j => .bool (decide (i < j)))) := opf_bl0 op_lt
theorem opf_le : OpF X E (compareOp .LtE) (pur2 (iop (fun _ _ => True) fun i j => .bool (decide (i ≤ j)))) := opf_bl0 op_le
theorem opf_gt : OpF X E (compareOp .Gt) (pur2 (iop (fun _ _ => True) fun i j => .bool (decide (j < i)))) := opf_bl0 op_gt
theorem opf_ge : OpF X E (compareOp .GtE) (pur2 (iop (fun _ _ => True) fun i j => .bool (decide (j ≤ i)))) := opf_bl0 op_ge
def ltT : Sto → D → D → Option D := fun _ a b => match a, b with
  | .d (.tuple ds), .d (.tuple es) => match intsD ds, intsD es with
    | some ns, some ms => some (.d (.bool (HT.lexLt ns ms)))
    | _, _ => none
  | _, _ => none
theorem opf_ltT (hu : X.A.units < cLine) : OpF X E (compareOp .Lt) (pur2 ltT) :=
  opf_pure (op_ltT hu) fun g S H μ a b v u z Q hK hS ra rb e q => by
    unfold ltT at e
    split at e
    · split at e
      · rename_i ds es ns ms e1 e2
        cases e
        obtain ⟨p, xs, rfl, h1, h2⟩ := VD.inv_tup ra
        obtain ⟨p', xs', rfl, h1', h2'⟩ := VD.inv_tup rb
        rw [intsD_map e1] at h2
        rw [intsD_map e2] at h2'
        have e3 := h2.intsD
        have e4 := h2'.intsD
        subst e3; subst e4
        rw [hK] at *
        exact ⟨p, p', ns, ms, rfl, rfl, h1, h1', q _ (VD.bl _)⟩
      · cases e
    · cases e
/-- < of intsD, and of tuples of intsD -/
theorem opf_lt2 (hu : X.A.units < cLine) : OpF X E (compareOp .Lt) (pur2 fun S a b => (iop (fun _ _ => True) (fun i j => .bool (decide (i < j))) S a b).or (ltT S a b)) := opf_or opf_lt (opf_ltT hu)

/-! ### arithmetic, + and * of texts, tuples, lists -/
def sAdd : Sto → D → D → Option D := fun _ a b => match a, b with
  | .d (.str x), .d (.str y) => if x.length + y.length ≤ sizeLine then some (.d (.str (x ++ y))) else none
  | _, _ => none
theorem opf_addS : OpF X E (binaryOp .Add) (pur2 sAdd) :=
  opf_pure op_add_str fun g S H μ a b v u z Q hK hS ra rb e q => by
    unfold sAdd at e
    split at e
    · split at e
      · rename_i c
        cases e
        exact ⟨_, _, VD.inv_str ra, VD.inv_str rb, c, q _ (VD.str _)⟩
      · cases e
    · cases e
theorem opf_addI : OpF X E (binaryOp .Add) (pur2 (iop (fun _ _ => True) fun i j => .int (i + j))) := opf_int0 op_add
theorem opf_sub : OpF X E (binaryOp .Sub) (pur2 (iop (fun _ _ => True) fun i j => .int (i - j))) := opf_int0 op_sub
theorem opf_mulI : OpF X E (binaryOp .Mult) (pur2 (iop CMul fun i j => .int (i * j))) := opf_int op_mul
theorem opf_fdiv : OpF X E (binaryOp .FloorDiv) (pur2 (iop CDivN fun i j => .int (i.fdiv j))) := opf_int op_fdivN
theorem opf_mod : OpF X E (binaryOp .Mod) (pur2 (iop (fun _ j => j ≠ 0) fun i j => .int (i.fmod j))) := opf_int op_modN
/-- tuple + tuple -/
def tAddF : D → D → M D := fun a b S => match a, b with
  | .d (.tuple xs), .d (.tuple ys) => if xs.length + ys.length ≤ sizeLine then .ok (.d (.tuple (xs ++ ys))) S else .stuck
  | _, _ => .stuck
theorem opf_addT : OpF X E (binaryOp .Add) tAddF := by
  refine ⟨_, op_catA, fun g S H μ a b v u Q hK hM hE hS ra rb hp => ?_⟩
  unfold tAddF at hp
  split at hp
  · rename_i xs ys
    split at hp
    · rename_i c
      obtain ⟨p, as, rfl, h1, h2⟩ := VD.inv_tup ra
      obtain ⟨p', bs, rfl, h1', h2'⟩ := VD.inv_tup rb
      have l1 := h2.length
      have l2 := h2'.length
      refine ⟨p, p', as, bs, rfl, rfl, hK ▸ h1, hK ▸ h1', by omega, fun e => ?_, fun _ e => ?_, fun _ _ q nq => ?_⟩
      · subst e
        cases h2
        exact hp.here hS _ (.tup h1' h2')
      · subst e
        cases h2'
        exact hp.here hS _ (by rw [List.append_nil]; exact .tup h1 h2)
      · refine hp _ μ (hS.aside nq) (ext_aside nq) _ ?_
        exact .tup (SqT.of upd_same) ((h2.keep (keep_new nq)).append (h2'.keep (keep_new nq)))
    · exact hp.elim
  · exact hp.elim
/-- list + list of the store -/
def lAddF : D → D → M D := fun a b S => match a, b with
  | .ob n, .ob m => match S[n]?, S[m]? with
    | some (.lst xs), some (.lst ys) => if xs.length + ys.length ≤ sizeLine then .ok (.ob S.length) (S ++ [.lst (xs ++ ys)]) else .stuck
    | _, _ => .stuck
  | _, _ => .stuck
theorem SR.vr_new {K : PySem.W.Frag} {H0 H : Hp} {μ0 μ : List Addr} {S : Sto} (s : SR K H0 μ0 S H μ) {H' : Hp} {p : Addr} : VR K H' (μ ++ [p]) (.ref p) (.ob S.length) :=
  ⟨p, by rw [← s.len, List.getElem?_append_right (Nat.le_refl _)]; simp, rfl⟩
theorem opf_addL : OpF X E (binaryOp .Add) lAddF := by
  refine ⟨_, op_cat, fun g S H μ a b v u Q hK hM hE hS ra rb hp => ?_⟩
  unfold lAddF at hp
  split at hp
  · rename_i n m
    split at hp
    · rename_i xs ys e1 e2
      split at hp
      · rename_i c
        obtain ⟨p, q1, rfl⟩ := ra
        obtain ⟨p', q2, rfl⟩ := rb
        obtain ⟨vs, h1, h2⟩ := hS.lst q1 e1
        obtain ⟨ws, h1', h2'⟩ := hS.lst q2 e2
        have l1 := h2.length
        have l2 := h2'.length
        refine ⟨p, p', vs, ws, rfl, rfl, h1, h1', by omega, fun q nq => ?_⟩
        exact hp _ _ (hS.alloc (ho := .lst (vs ++ ws)) nq (VRs.append h2 h2')) (ext_alloc nq) _ hS.vr_new
      · exact hp.elim
    · exact hp.elim
  · exact hp.elim
/-- a first reading, else a second one -/
def orF (p : D → D → Bool) (o o' : D → D → M D) : D → D → M D := fun a b => if p a b = true then o a b else o' a b
theorem opf_orF {f : Value → Value → Sem Value} {p : D → D → Bool} {o o' : D → D → M D} (h : OpF X E f o) (h' : OpF X E f o') : OpF X E f (orF p o o') := by
  obtain ⟨r, hr, h⟩ := h
  obtain ⟨r', hr', h'⟩ := h'
  refine ⟨_, hr.or hr', fun g S H μ a b v u Q hK hM hE hS ra rb hp => ?_⟩
  unfold orF at hp
  split at hp
  · exact .inl (h g S H μ a b v u Q hK hM hE hS ra rb hp)
  · exact .inr (h' g S H μ a b v u Q hK hM hE hS ra rb hp)
def isInt : D → Bool
  | .d (.int _) => true
  | _ => false
def isStr : D → Bool
  | .d (.str _) => true
  | _ => false
def isTup : D → Bool
  | .d (.tuple _) => true
  | _ => false
def addF : D → D → M D := orF (fun a _ => isInt a) (pur2 (iop (fun _ _ => True) fun i j => .int (i + j))) (orF (fun a _ => isTup a) tAddF (orF (fun a _ => isStr a) (pur2 sAdd) lAddF))
theorem opf_add : OpF X E (binaryOp .Add) addF := opf_orF opf_addI (opf_orF opf_addT (opf_orF opf_addS opf_addL))
/-- list * int -/
def lRepF : D → D → M D := fun a b S => match a, b with
  | .ob n, .d (.int k) => match S[n]? with
    | some (.lst xs) => if -(2 ^ 63) ≤ k ∧ k < 2 ^ 63 ∧ xs.length * k.toNat ≤ sizeLine then .ok (.ob S.length) (S ++ [.lst (List.replicate k.toNat xs).flatten]) else .stuck
    | _ => .stuck
  | _, _ => .stuck
theorem VRs.flat {K : PySem.W.Frag} {H : Hp} {μ : List Addr} {v : List V} {d : List D} (h : VRs K H μ v d) : ∀ n, VRs K H μ (List.replicate n v).flatten (List.replicate n d).flatten
  | 0 => .nil
  | n + 1 => by
    rw [List.replicate_succ, List.replicate_succ, List.flatten_cons, List.flatten_cons]
    exact VRs.append h (VRs.flat h n)
theorem VDs.flat {K : PySem.W.Frag} {H : Hp} {v : List V} {d : List PyData} (h : VDs K H v d) : ∀ n, VDs K H (List.replicate n v).flatten (List.replicate n d).flatten
  | 0 => .nil
  | n + 1 => by
    rw [List.replicate_succ, List.replicate_succ, List.flatten_cons, List.flatten_cons]
    exact VDs.append h (VDs.flat h n)
theorem opf_mulL : OpF X E (binaryOp .Mult) lRepF := by
  refine ⟨_, op_rep, fun g S H μ a b v u Q hK hM hE hS ra rb hp => ?_⟩
  unfold lRepF at hp
  split at hp
  · rename_i n k
    split at hp
    · rename_i xs e1
      split at hp
      · rename_i c
        obtain ⟨p, q1, rfl⟩ := ra
        obtain ⟨vs, h1, h2⟩ := hS.lst q1 e1
        have l1 := h2.length
        refine ⟨p, k, vs, rfl, VD.inv_int rb, h1, c.1, c.2.1, by rw [l1]; exact c.2.2, fun q nq => ?_⟩
        exact hp _ _ (hS.alloc (ho := .lst _) nq (h2.flat _)) (ext_alloc nq) _ hS.vr_new
      · exact hp.elim
    · exact hp.elim
  · exact hp.elim
/-! truth -/
def truth (S : Sto) : D → Option Bool
  | .d .none => some false
  | .d (.bool b) => some b
  | .d (.int i) => some (i != 0)
  | .d (.str y) => if y.length ≤ sizeLine then some ((y.length : Int) != 0) else none
  | .d (.tuple ds) => some (!ds.isEmpty)
  | .d (.list ds) => some (!ds.isEmpty)
  | .d (.dict _) => none
  | .ob n => match S[n]? with
    | some (.lst l) => some (!l.isEmpty)
    | some (.dk l) => some (!l.isEmpty)
    | none => none
theorem paired_isEmpty {α β : Type} {F : α → β → Prop} {xs : List α} {ys : List β} (h : Paired F xs ys) : xs.isEmpty = ys.isEmpty := by cases h <;> rfl
theorem vds_isEmpty {K : PySem.W.Frag} {H : Hp} {v : List V} {d : List PyData} (h : VDs K H v d) : v.isEmpty = d.isEmpty := by cases h <;> rfl
theorem SR.truth {K : PySem.W.Frag} {H0 H : Hp} {μ0 μ : List Addr} {S : Sto} (s : SR K H0 μ0 S H μ) {v : V} {x : D} {k : Bool} (r : VR K H μ v x) (e : truth S x = some k) : TruV K v H k := by
  cases x with
  | d p =>
    cases p with
    | none => cases r; simpa [Fx.truth, TruV] using e.symm
    | bool b => cases r; simpa [Fx.truth, TruV] using e.symm
    | int b => cases r; simpa [Fx.truth, TruV] using e.symm
    | str y =>
      cases r
      simp only [Fx.truth] at e
      split at e
      · rename_i c
        cases e
        exact ⟨c, rfl⟩
      · cases e
    | tuple ds =>
      obtain ⟨a, xs, rfl, h, hs⟩ := VD.inv_tup r
      simp only [Fx.truth, Option.some.injEq] at e
      exact .inr (.inl ⟨xs, h, by rw [vds_isEmpty hs]; exact e.symm⟩)
    | list ds =>
      obtain ⟨a, xs, rfl, h, hs⟩ := VD.inv_lst r
      simp only [Fx.truth, Option.some.injEq] at e
      exact .inl ⟨xs, h.sq, by rw [vds_isEmpty hs]; exact e.symm⟩
    | dict kv => cases e
  | ob n =>
    obtain ⟨a, e1, rfl⟩ := r
    simp only [Fx.truth] at e
    split at e
    · rename_i l q
      cases e
      obtain ⟨vs, h1, h2⟩ := s.lst e1 q
      exact .inl ⟨vs, .inl (.inl h1), by rw [paired_isEmpty h2]⟩
    · rename_i l q
      cases e
      obtain ⟨vs, h1, h2⟩ := s.dk e1 q
      exact .inr (.inr ⟨vs, h1, by rw [paired_isEmpty h2]⟩)
    · cases e
def isT (d : D) : M Bool := fun S => match truth S d with
  | some k => .ok k S
  | none => .stuck
def tst (f : Sl → M D) : Sl → M Bool := fun ρ => f ρ >>= isT
theorem ft_truth {a : Expr} {f : Sl → M D} (ha : FE X E a f) (he : ∀ whole, isTrue a X.env whole = (do let v ← whole; standAt a.pos; holding [v] (truthy v)) := by intro _; rfl) : FT X E a (tst f) := by
  obtain ⟨t, p, ha⟩ := ha
  refine ⟨_, pt_truth p he, fun g ρ S σ H μ Q hK hM hE hS hL hp => ?_⟩
  refine ha g ρ S σ H μ _ hK hM hE hS hL (hp.seq fun x S1 H1 μ1 s1 e1 p1 v rv => ?_)
  unfold isT at p1
  split at p1
  · rename_i k e
    exact ⟨k, by rw [← hK]; exact s1.truth rv e, p1.here s1⟩
  · exact p1.elim
/-- a test that is an expression with a bool -/
def isB : D → M Bool := fun d S => match d with
  | .d (.bool b) => .ok b S
  | _ => .stuck
def tstB (f : Sl → M D) : Sl → M Bool := fun ρ => f ρ >>= isB
theorem ft_cmp {op : CmpOp} {a b : Expr} {pos : Pos} {o : D → D → M D} {fa fb : Sl → M D} (ho : OpF X E (compareOp op) o) (hm : behindInMarks op b = false) (ha : FE X E a fa) (hb : FE X E b fb) : FT X E (.Compare a [op] [b] pos) (tstB (op2 o fa fb)) := by
  obtain ⟨r, hr, ho⟩ := ho
  obtain ⟨ta, pa, ha⟩ := ha
  obtain ⟨tb, pb, hb⟩ := hb
  refine ⟨_, pt_cmpR hr pa pb hm, fun g ρ S σ H μ Q hK hM hE hS hL hp => ?_⟩
  have hp' := hp.bind
  unfold op2 at hp'
  refine ha g ρ S σ H μ _ hK hM hE hS hL (hp'.seq fun x S1 H1 μ1 s1 e1 p1 v rv => ?_)
  refine hb g ρ S1 σ H1 μ1 _ hK hM hE s1 (hL.ext e1) (p1.seq fun y S2 H2 μ2 s2 e2 p2 u ru => ?_)
  refine ho g S2 H2 μ2 x y v u _ hK hM hE s2 (rv.ext e2) ru (p2.mono fun z S3 H3 μ3 s3 e3 p3 w rw' => ?_)
  unfold isB at p3
  split at p3
  · exact ⟨_, VD.inv_bl rw', p3.here s3⟩
  · exact p3.elim
def andT (f h : Sl → M Bool) : Sl → M Bool := fun ρ => f ρ >>= fun b => if b = true then h ρ else M.pure false
def orT (f h : Sl → M Bool) : Sl → M Bool := fun ρ => f ρ >>= fun b => if b = true then M.pure true else h ρ
def notT (f : Sl → M Bool) : Sl → M Bool := fun ρ => f ρ >>= fun b => M.pure (!b)
theorem ft_not {a : Expr} {pos : Pos} {f : Sl → M Bool} (ha : FT X E a f) : FT X E (.UnaryOp .Not a pos) (notT f) := by
  obtain ⟨t, p, ha⟩ := ha
  refine ⟨_, pt_not p, fun g ρ S σ H μ Q hK hM hE hS hL hp => ?_⟩
  exact ha g ρ S σ H μ _ hK hM hE hS hL (hp.seq fun x S1 H1 μ1 s1 e1 p1 => p1.here s1)
/-- tests that are chains of and, or -/
def FW (X : Cx) (E : XK) (e : Expr) (f : Sl → M Bool) : Prop :=
  ∃ t : TT, PW X e t ∧ ∀ (g : G) (ρ : Sl) (S : Sto) (σ : L2.St) (H : Hp) (μ : List Addr) (Q : Bool → Hp → Prop), g.K = X.K → g.mg = X.mg → g.E = E → SR g.K g.H0 g.μ0 S H μ → LR g.K H μ σ ρ → Post g H μ (fun b _ H' _ => Q b H') (f ρ S) → t σ H Q
theorem FW.ft {e : Expr} {f : Sl → M Bool} (h : FW X E e f) : FT X E e f := by
  obtain ⟨t, p, h⟩ := h
  exact ⟨t, p.pt, h⟩
theorem fw_and1 {a : Expr} {pos : Pos} {f : Sl → M Bool} (ha : FT X E a f) : FW X E (.BoolOp .And [a] pos) f := by
  obtain ⟨t, p, h⟩ := ha
  exact ⟨t, pw_and1 p, h⟩
theorem fw_or1 {a : Expr} {pos : Pos} {f : Sl → M Bool} (ha : FT X E a f) : FW X E (.BoolOp .Or [a] pos) f := by
  obtain ⟨t, p, h⟩ := ha
  exact ⟨t, pw_or1 p, h⟩
theorem fw_and {a b : Expr} {rest : List Expr} {pos : Pos} {f h : Sl → M Bool} (ha : FT X E a f) (hb : FW X E (.BoolOp .And (b :: rest) pos) h) : FW X E (.BoolOp .And (a :: b :: rest) pos) (andT f h) := by
  obtain ⟨ta, pa, ha⟩ := ha
  obtain ⟨tb, pb, hb⟩ := hb
  refine ⟨_, pw_and pa pb, fun g ρ S σ H μ Q hK hM hE hS hL hp => ?_⟩
  refine ha g ρ S σ H μ _ hK hM hE hS hL (hp.seq fun x S1 H1 μ1 s1 e1 p1 => ?_)
  cases x with
  | true => exact iteT (hb g ρ S1 σ H1 μ1 Q hK hM hE s1 (hL.ext e1) p1)
  | false => exact iteF (p1.here s1)
theorem fw_or {a b : Expr} {rest : List Expr} {pos : Pos} {f h : Sl → M Bool} (ha : FT X E a f) (hb : FW X E (.BoolOp .Or (b :: rest) pos) h) : FW X E (.BoolOp .Or (a :: b :: rest) pos) (orT f h) := by
  obtain ⟨ta, pa, ha⟩ := ha
  obtain ⟨tb, pb, hb⟩ := hb
  refine ⟨_, pw_or pa pb, fun g ρ S σ H μ Q hK hM hE hS hL hp => ?_⟩
  refine ha g ρ S σ H μ _ hK hM hE hS hL (hp.seq fun x S1 H1 μ1 s1 e1 p1 => ?_)
  cases x with
  | true => exact iteT (p1.here s1)
  | false => exact iteF (hb g ρ S1 σ H1 μ1 Q hK hM hE s1 (hL.ext e1) p1)
/-! and, or, not, if as values -/
def andV (f h : Sl → M D) : Sl → M D := fun ρ => f ρ >>= isB >>= fun b => if b = true then h ρ else M.pure (.d (.bool false))
def orV (f h : Sl → M D) : Sl → M D := fun ρ => f ρ >>= isB >>= fun b => if b = true then M.pure (.d (.bool true)) else h ρ
def notV (f : Sl → M D) : Sl → M D := fun ρ => f ρ >>= isB >>= fun b => M.pure (.d (.bool (!b)))
theorem isB_inv {g : G} {H : Hp} {μ : List Addr} {P : Bool → Sto → Hp → List Addr → Prop} {d : D} {S : Sto} (h : Post g H μ P (isB d S)) : ∃ b, d = .d (.bool b) ∧ Post g H μ P (.ok b S) := by
  unfold isB at h
  split at h
  · exact ⟨_, rfl, h⟩
  · exact h.elim
theorem fe_one {op : BoolOp} {a : Expr} {pos : Pos} {f : Sl → M D} (ha : FE X E a f) : FE X E (.BoolOp op [a] pos) f := by
  obtain ⟨t, p, h⟩ := ha
  exact ⟨t, pe_one p, h⟩
theorem fe_and {a b : Expr} {rest : List Expr} {pos : Pos} {f h : Sl → M D} (ha : FE X E a f) (hb : FE X E (.BoolOp .And (b :: rest) pos) h) : FE X E (.BoolOp .And (a :: b :: rest) pos) (andV f h) := by
  obtain ⟨ta, pa, ha⟩ := ha
  obtain ⟨tb, pb, hb⟩ := hb
  refine ⟨_, pe_and pa pb, fun g ρ S σ H μ Q hK hM hE hS hL hp => ?_⟩
  refine ha g ρ S σ H μ _ hK hM hE hS hL (hp.bind.seq fun x S1 H1 μ1 s1 e1 p1 v rv => ?_)
  obtain ⟨c, rfl, p2⟩ := isB_inv p1
  refine ⟨c, VD.inv_bl rv, ?_⟩
  have p3 := p2.here s1
  cases c with
  | true => exact iteT (hb g ρ S1 σ H1 μ1 Q hK hM hE s1 (hL.ext e1) p3)
  | false => exact iteF (p3.here s1 _ (.bl _))
theorem fe_or {a b : Expr} {rest : List Expr} {pos : Pos} {f h : Sl → M D} (ha : FE X E a f) (hb : FE X E (.BoolOp .Or (b :: rest) pos) h) : FE X E (.BoolOp .Or (a :: b :: rest) pos) (orV f h) := by
  obtain ⟨ta, pa, ha⟩ := ha
  obtain ⟨tb, pb, hb⟩ := hb
  refine ⟨_, pe_or pa pb, fun g ρ S σ H μ Q hK hM hE hS hL hp => ?_⟩
  refine ha g ρ S σ H μ _ hK hM hE hS hL (hp.bind.seq fun x S1 H1 μ1 s1 e1 p1 v rv => ?_)
  obtain ⟨c, rfl, p2⟩ := isB_inv p1
  refine ⟨c, VD.inv_bl rv, ?_⟩
  have p3 := p2.here s1
  cases c with
  | true => exact iteT (p3.here s1 _ (.bl _))
  | false => exact iteF (hb g ρ S1 σ H1 μ1 Q hK hM hE s1 (hL.ext e1) p3)
theorem fe_not {a : Expr} {pos : Pos} {f : Sl → M D} (ha : FE X E a f) : FE X E (.UnaryOp .Not a pos) (notV f) := by
  obtain ⟨ta, pa, ha⟩ := ha
  refine ⟨_, pe_not pa, fun g ρ S σ H μ Q hK hM hE hS hL hp => ?_⟩
  refine ha g ρ S σ H μ _ hK hM hE hS hL (hp.bind.seq fun x S1 H1 μ1 s1 e1 p1 v rv => ?_)
  obtain ⟨c, rfl, p2⟩ := isB_inv p1
  exact ⟨c, VD.inv_bl rv, (p2.here s1).here s1 _ (.bl _)⟩
def ifV (c : Sl → M Bool) (f h : Sl → M D) : Sl → M D := fun ρ => c ρ >>= fun b => if b = true then f ρ else h ρ
theorem fe_if {c a b : Expr} {pos : Pos} {fc : Sl → M Bool} {f h : Sl → M D} (hc : FT X E c fc) (ha : FE X E a f) (hb : FE X E b h) : FE X E (.IfExp c a b pos) (ifV fc f h) := by
  obtain ⟨tc, pc, hc⟩ := hc
  obtain ⟨ta, pa, ha⟩ := ha
  obtain ⟨tb, pb, hb⟩ := hb
  refine ⟨_, pe_ifExp pc pa pb, fun g ρ S σ H μ Q hK hM hE hS hL hp => ?_⟩
  refine hc g ρ S σ H μ _ hK hM hE hS hL (hp.seq fun x S1 H1 μ1 s1 e1 p1 => ?_)
  cases x with
  | true => exact iteT (ha g ρ S1 σ H1 μ1 Q hK hM hE s1 (hL.ext e1) p1)
  | false => exact iteF (hb g ρ S1 σ H1 μ1 Q hK hM hE s1 (hL.ext e1) p1)
/-- a < b < c -/
def chain (o o' : D → D → M D) (fa fb fc : Sl → M D) : Sl → M D := fun ρ => fa ρ >>= fun a => fb ρ >>= fun b => o a b >>= isB >>= fun k => if k = true then fc ρ >>= fun c => o' b c else M.pure (.d (.bool false))
theorem chain_run {op op' : CmpOp} {a b c : Expr} {o o' : D → D → M D} {fa fb fc : Sl → M D} {r r' : R2} {ta tb tc : TE}
    (ho : ∀ (g : G) (S : Sto) (H : Hp) (μ : List Addr) (a b : D) (v u : V) (Q : VK), g.K = X.K → g.mg = X.mg → g.E = E → SR g.K g.H0 g.μ0 S H μ → VR g.K H μ v a → VR g.K H μ u b → Post g H μ (VQ g.K Q) (o a b S) → r v u H Q)
    (ho' : ∀ (g : G) (S : Sto) (H : Hp) (μ : List Addr) (a b : D) (v u : V) (Q : VK), g.K = X.K → g.mg = X.mg → g.E = E → SR g.K g.H0 g.μ0 S H μ → VR g.K H μ v a → VR g.K H μ u b → Post g H μ (VQ g.K Q) (o' a b S) → r' v u H Q)
    (ha : ∀ (g : G) (ρ : Sl) (S : Sto) (σ : L2.St) (H : Hp) (μ : List Addr) (Q : VK), g.K = X.K → g.mg = X.mg → g.E = E → SR g.K g.H0 g.μ0 S H μ → LR g.K H μ σ ρ → Post g H μ (VQ g.K Q) (fa ρ S) → ta σ H Q)
    (hb : ∀ (g : G) (ρ : Sl) (S : Sto) (σ : L2.St) (H : Hp) (μ : List Addr) (Q : VK), g.K = X.K → g.mg = X.mg → g.E = E → SR g.K g.H0 g.μ0 S H μ → LR g.K H μ σ ρ → Post g H μ (VQ g.K Q) (fb ρ S) → tb σ H Q)
    (hc : ∀ (g : G) (ρ : Sl) (S : Sto) (σ : L2.St) (H : Hp) (μ : List Addr) (Q : VK), g.K = X.K → g.mg = X.mg → g.E = E → SR g.K g.H0 g.μ0 S H μ → LR g.K H μ σ ρ → Post g H μ (VQ g.K Q) (fc ρ S) → tc σ H Q)
    (g : G) (ρ : Sl) (S : Sto) (σ : L2.St) (H : Hp) (μ : List Addr) (Q : VK) (hK : g.K = X.K) (hM : g.mg = X.mg) (hE : g.E = E) (hS : SR g.K g.H0 g.μ0 S H μ) (hL : LR g.K H μ σ ρ) (hp : Post g H μ (VQ g.K Q) (chain o o' fa fb fc ρ S)) :
    tChain r r' ta tb tc σ H Q := by
  refine ha g ρ S σ H μ _ hK hM hE hS hL (hp.seq fun x S1 H1 μ1 s1 e1 p1 v rv => ?_)
  refine hb g ρ S1 σ H1 μ1 _ hK hM hE s1 (hL.ext e1) (p1.seq fun y S2 H2 μ2 s2 e2 p2 u ru => ?_)
  refine ho g S2 H2 μ2 x y v u _ hK hM hE s2 (rv.ext e2) ru (p2.bind.seq fun z S3 H3 μ3 s3 e3 p3 w rw' => ?_)
  obtain ⟨k, rfl, p4⟩ := isB_inv p3
  refine ⟨k, VD.inv_bl rw', ?_⟩
  have p5 := p4.here s3
  cases k with
  | true => exact iteT (hc g ρ S3 σ H3 μ3 _ hK hM hE s3 (hL.ext (e1.trans (e2.trans e3))) (p5.seq fun q S4 H4 μ4 s4 e4 p6 w' rw2 => ho' g S4 H4 μ4 y q u w' Q hK hM hE s4 (ru.ext (e3.trans e4)) rw2 p6))
  | false => exact iteF (p5.here s3 _ (.bl _))
theorem fe_chain {op op' : CmpOp} {a b c : Expr} {pos : Pos} {o o' : D → D → M D} {fa fb fc : Sl → M D} (ho : OpF X E (compareOp op) o) (ho' : OpF X E (compareOp op') o') (ha : FE X E a fa) (hb : FE X E b fb) (hc : FE X E c fc)
    (hm : lastMarks [op, op'] [b, c] = false := by with_unfolding_all rfl) : FE X E (.Compare a [op, op'] [b, c] pos) (chain o o' fa fb fc) := by
  obtain ⟨r, hr, ho⟩ := ho
  obtain ⟨r', hr', ho'⟩ := ho'
  obtain ⟨ta, pa, ha⟩ := ha
  obtain ⟨tb, pb, hb⟩ := hb
  obtain ⟨tc, pc, hc⟩ := hc
  exact ⟨_, pe_chain hr hr' pa pb pc hm, chain_run (op := op) (op' := op') (a := a) (b := b) (c := c) ho ho' ha hb hc⟩
theorem ft_chain {op op' : CmpOp} {a b c : Expr} {pos : Pos} {o o' : D → D → M D} {fa fb fc : Sl → M D} (ho : OpF X E (compareOp op) o) (ho' : OpF X E (compareOp op') o') (ha : FE X E a fa) (hb : FE X E b fb) (hc : FE X E c fc)
    (hm : lastMarks [op, op'] [b, c] = false := by with_unfolding_all rfl) : FT X E (.Compare a [op, op'] [b, c] pos) (tstB (chain o o' fa fb fc)) := by
  obtain ⟨r, hr, ho⟩ := ho
  obtain ⟨r', hr', ho'⟩ := ho'
  obtain ⟨ta, pa, ha⟩ := ha
  obtain ⟨tb, pb, hb⟩ := hb
  obtain ⟨tc, pc, hc⟩ := hc
  refine ⟨_, pt_chain hr hr' pa pb pc hm, fun g ρ S σ H μ Q hK hM hE hS hL hp => ?_⟩
  refine chain_run (op := op) (op' := op') (a := a) (b := b) (c := c) ho ho' ha hb hc g ρ S σ H μ _ hK hM hE hS hL (hp.bind.mono fun z S3 H3 μ3 s3 e3 p3 w rw' => ?_)
  obtain ⟨k, rfl, p4⟩ := isB_inv p3
  exact ⟨k, VD.inv_bl rw', p4.here s3⟩
end
end Fx
end
section
namespace Fx
open PySem PySem.Spec PyProof.Rows L2
section
variable {X : Cx} {E : XK}

/-! ### argument lists, displays -/
def nilA : Sl → M (List D) := fun _ => M.pure []
def consA (f : Sl → M D) (r : Sl → M (List D)) : Sl → M (List D) := fun ρ => f ρ >>= fun d => r ρ >>= fun ds => M.pure (d :: ds)
theorem fa_nil : FA X E [] nilA := ⟨_, pa_nil, fun g ρ S σ H μ Q hK hM hE hS hL hp => hp.here hS _ .nil⟩
theorem fa_cons {e : Expr} {es : List Expr} {f : Sl → M D} {r : Sl → M (List D)} (ha : FE X E e f) (hr : FA X E es r) (hs : starEach (e :: es) X.env = (false, eval e X.env) :: starEach es X.env := by rfl) : FA X E (e :: es) (consA f r) := by
  obtain ⟨ta, pa, ha⟩ := ha
  obtain ⟨tr, pr, hr⟩ := hr
  refine ⟨_, pa_cons pa pr hs, fun g ρ S σ H μ Q hK hM hE hS hL hp => ?_⟩
  refine ha g ρ S σ H μ _ hK hM hE hS hL (hp.seq fun x S1 H1 μ1 s1 e1 p1 v rv => ?_)
  refine hr g ρ S1 σ H1 μ1 _ hK hM hE s1 (hL.ext e1) (p1.seq fun y S2 H2 μ2 s2 e2 p2 u ru => ?_)
  exact p2.here s2 _ (.cons (rv.ext e2) ru)
def mkTup (ds : List D) : M D := fun S => match pys ds with
  | some ps => if ps.length ≤ sizeLine then .ok (.d (.tuple ps)) S else .stuck
  | none => .stuck
def mkLst (ds : List D) : M D := fun S => if ds.length ≤ sizeLine then .ok (.ob S.length) (S ++ [.lst ds]) else .stuck
theorem pys_length : ∀ {ds : List D} {ps : List PyData}, pys ds = some ps → ps.length = ds.length
  | [], _, e => by simp [pys] at e; subst e; rfl
  | .d p :: r, _, e => by
    simp only [pys, Option.map_eq_some_iff] at e
    obtain ⟨q, e1, e2⟩ := e
    subst e2
    simp [pys_length e1]
  | .ob n :: r, _, e => by simp [pys] at e
theorem fe_tup {es : List Expr} {x1 : Nat} {pos : Pos} {f : Sl → M (List D)} (h : FA X E es f) : FE X E (.Tuple es x1 pos) (fun ρ => f ρ >>= mkTup) := by
  obtain ⟨t, p, h⟩ := h
  refine ⟨_, pe_tup p, fun g ρ S σ H μ Q hK hM hE hS hL hp => ?_⟩
  refine h g ρ S σ H μ _ hK hM hE hS hL (hp.seq fun ds S1 H1 μ1 s1 e1 p1 vs rv => ?_)
  unfold mkTup at p1
  split at p1
  · rename_i ps e
    split at p1
    · rename_i c
      refine ⟨by rw [rv.length, ← pys_length e]; exact c, fun q nq => ?_⟩
      exact p1 _ _ (s1.aside nq) (ext_aside nq) _ (.tup (SqT.of upd_same) ((rv.data e).keep (keep_new nq)))
    · exact p1.elim
  · exact p1.elim
theorem fe_lst {es : List Expr} {pos : Pos} {f : Sl → M (List D)} (h : FA X E es f) : FE X E (.List es pos) (fun ρ => f ρ >>= mkLst) := by
  obtain ⟨t, p, h⟩ := h
  refine ⟨_, pe_lst p, fun g ρ S σ H μ Q hK hM hE hS hL hp => ?_⟩
  refine h g ρ S σ H μ _ hK hM hE hS hL (hp.seq fun ds S1 H1 μ1 s1 e1 p1 vs rv => ?_)
  unfold mkLst at p1
  split at p1
  · rename_i c
    refine ⟨by rw [rv.length]; exact c, fun q nq => ?_⟩
    exact p1 _ _ (s1.alloc (ho := .lst vs) nq rv) (ext_alloc nq) _ s1.vr_new
  · exact p1.elim

/-! ### subscripts -/
def ixF : D → D → M D := fun a i S => match i with
  | .d (.int k) => match seqOf S a with
    | some xs => match atI xs k with
      | some x => .ok x S
      | none => .stuck
    | none => .stuck
  | _ => .stuck
theorem VRs.atI {K : PySem.W.Frag} {H : Hp} {μ : List Addr} {v : List V} {d : List D} (h : VRs K H μ v d) {i : Int} {x : D} (e : atI d i = some x) : ∃ u, L2.atI v i = some u ∧ VR K H μ u x := by
  unfold L2.atI at e ⊢
  rw [h.length]
  cases q : ixN d.length i with
  | none => rw [q] at e; cases e
  | some j =>
    rw [q] at e
    obtain ⟨u, h1, h2⟩ := h.get j e
    exact ⟨u, h1, h2⟩
theorem fe_ix {a b : Expr} {pos : Pos} {fa fb : Sl → M D} (ha : FE X E a fa) (hb : FE X E b fb) (hs : PlainIx b := by intro _ _; rfl) : FE X E (.Subscript a b pos) (op2 ixF fa fb) := by
  obtain ⟨ta, pa, ha⟩ := ha
  obtain ⟨tb, pb, hb⟩ := hb
  refine ⟨_, pe_ix ix_seq pa pb hs, fun g ρ S σ H μ Q hK hM hE hS hL hp => ?_⟩
  refine ha g ρ S σ H μ _ hK hM hE hS hL (hp.seq fun x S1 H1 μ1 s1 e1 p1 v rv => ?_)
  refine hb g ρ S1 σ H1 μ1 _ hK hM hE s1 (hL.ext e1) (p1.seq fun y S2 H2 μ2 s2 e2 p2 u ru => ?_)
  have rv2 := rv.ext e2
  unfold ixF at p2
  split at p2
  · rename_i k
    split at p2
    · rename_i xs q1
      split at p2
      · rename_i z q2
        obtain ⟨p, vs, rfl, hsq, hvs⟩ := s2.seq rv2 q1
        obtain ⟨w, h1, h2⟩ := hvs.atI q2
        have hw := p2.here s2 w h2
        rcases hsq with hsq | hsq
        · exact .inl ⟨p, vs, k, w, rfl, VD.inv_int ru, hK ▸ hsq, h1, hw⟩
        · exact .inr (.inl ⟨p, vs, k, w, rfl, VD.inv_int ru, hK ▸ hsq, h1, hw⟩)
      · exact p2.elim
    · exact p2.elim
  · exact p2.elim
/-- the same of a text: one sign -/
def ixSF : D → D → M D := fun a i S => match i, a with
  | .d (.int k), .d (.str z) => if z.length ≤ sizeLine then match atI z.cps.toList k with
      | some c => .ok (.d (.str ⟨#[c]⟩)) S
      | none => .stuck
    else .stuck
  | _, _ => .stuck
/-! slices -/
def FO (X : Cx) (E : XK) (e : Option Expr) (f : Sl → M (Option Int)) : Prop :=
  ∃ t : TO, PO X e t ∧ ∀ (g : G) (ρ : Sl) (S : Sto) (σ : L2.St) (H : Hp) (μ : List Addr) (Q : Option Int → Hp → Prop), g.K = X.K → g.mg = X.mg → g.E = E → SR g.K g.H0 g.μ0 S H μ → LR g.K H μ σ ρ → Post g H μ (fun b _ H' _ => Q b H') (f ρ S) → t σ H Q
def noPart : Sl → M (Option Int) := fun _ => M.pure none
def isI : D → M Int := fun d S => match d with
  | .d (.int i) => .ok i S
  | _ => .stuck
theorem isI_inv {g : G} {H : Hp} {μ : List Addr} {P : Int → Sto → Hp → List Addr → Prop} {d : D} {S : Sto} (h : Post g H μ P (isI d S)) : ∃ b, d = .d (.int b) ∧ Post g H μ P (.ok b S) := by
  unfold isI at h
  split at h
  · exact ⟨_, rfl, h⟩
  · exact h.elim
def part (f : Sl → M D) : Sl → M (Option Int) := fun ρ => f ρ >>= isI >>= fun i => M.pure (some i)
theorem fo_none : FO X E none noPart := ⟨_, po_none, fun g ρ S σ H μ Q hK hM hE hS hL hp => hp.here hS⟩
theorem fo_some {e : Expr} {f : Sl → M D} (h : FE X E e f) : FO X E (some e) (part f) := by
  obtain ⟨t, p, h⟩ := h
  refine ⟨_, po_some p, fun g ρ S σ H μ Q hK hM hE hS hL hp => ?_⟩
  refine h g ρ S σ H μ _ hK hM hE hS hL (hp.bind.seq fun x S1 H1 μ1 s1 e1 p1 v rv => ?_)
  obtain ⟨i, rfl, p2⟩ := isI_inv p1
  exact ⟨i, VD.inv_int rv, (p2.here s1).here s1⟩
/-- the items lo to hi -/
def cutD {α : Type} (xs : List α) (lo hi : Option Int) : List α := (xs.drop (HT.sIx xs.length 0 lo)).take (HT.sIx xs.length xs.length hi - HT.sIx xs.length 0 lo)
theorem VRs.cut {K : PySem.W.Frag} {H : Hp} {μ : List Addr} {v : List V} {d : List D} (h : VRs K H μ v d) (lo hi : Option Int) : VRs K H μ (cutV v lo hi) (cutD d lo hi) := by
  unfold cutV cutD
  rw [h.length]
  exact (h.drop _).take _
theorem VDs.cut {K : PySem.W.Frag} {H : Hp} {v : List V} {d : List PyData} (h : VDs K H v d) (lo hi : Option Int) : VDs K H (cutV v lo hi) (cutD d lo hi) := by
  unfold cutV cutD
  rw [h.length]
  exact (h.drop _).take _
/-- a slice of a list is a new list -/
def slL (a : D) (lo hi : Option Int) : M D := fun S => match a with
  | .d (.list ds) => .ok (.ob S.length) (S ++ [.lst ((cutD ds lo hi).map .d)])
  | .ob n => match S[n]? with
    | some (.lst l) => .ok (.ob S.length) (S ++ [.lst (cutD l lo hi)])
    | _ => .stuck
  | _ => .stuck
def slF (s : D → Option Int → Option Int → M D) (f : Sl → M D) (l h : Sl → M (Option Int)) : Sl → M D := fun ρ => f ρ >>= fun a => l ρ >>= fun lo => h ρ >>= fun hi => s a lo hi
theorem fe_slL {e : Expr} {lo hi : Option Expr} {p2 pos : Pos} {f : Sl → M D} {l h : Sl → M (Option Int)} (he : FE X E e f) (hl : FO X E lo l) (hh : FO X E hi h) : FE X E (.Subscript e (.Slice lo hi none p2) pos) (slF slL f l h) := by
  obtain ⟨te, pe, he⟩ := he
  obtain ⟨tl, pl, hl⟩ := hl
  obtain ⟨th, ph, hh⟩ := hh
  refine ⟨_, pe_slice sl_list pe pl ph, fun g ρ S σ H μ Q hK hM hE hS hL hp => ?_⟩
  refine he g ρ S σ H μ _ hK hM hE hS hL (hp.seq fun x S1 H1 μ1 s1 e1 p1 v rv => ?_)
  refine hl g ρ S1 σ H1 μ1 _ hK hM hE s1 (hL.ext e1) (p1.seq fun y S2 H2 μ2 s2 e2 p2 => ?_)
  refine hh g ρ S2 σ H2 μ2 _ hK hM hE s2 (hL.ext (e1.trans e2)) (p2.seq fun z S3 H3 μ3 s3 e3 p3 => ?_)
  have r3 := rv.ext (e2.trans e3)
  unfold slL at p3
  split at p3
  · obtain ⟨a, xs, rfl, h1, h2⟩ := VD.inv_lst r3
    refine ⟨a, xs, rfl, hK ▸ h1.sq, fun q nq => ?_⟩
    exact p3 _ _ (s3.alloc (ho := .lst _) nq (VDs.vrs (h2.cut y z))) (ext_alloc nq) _ s3.vr_new
  · split at p3
    · rename_i n l q1
      obtain ⟨a, ea, rfl⟩ := r3
      obtain ⟨vs, h1, h2⟩ := s3.lst ea q1
      refine ⟨a, vs, rfl, .inl (.inl h1), fun q nq => ?_⟩
      exact p3 _ _ (s3.alloc (ho := .lst _) nq (h2.cut y z)) (ext_alloc nq) _ s3.vr_new
    · exact p3.elim
  · exact p3.elim
/-- a slice of a tuple -/
def slT (a : D) (lo hi : Option Int) : M D := fun S => match a with
  | .d (.tuple ds) => .ok (.d (.tuple (cutD ds lo hi))) S
  | _ => .stuck

/-! ### built-in functions -/
def CallF (X : Cx) (E : XK) (f : Value) (o : List D → M D) : Prop :=
  ∃ r : List V → Hp → VK → Prop, CallR X f r ∧ ∀ (g : G) (S : Sto) (H : Hp) (μ : List Addr) (ds : List D) (vs : List V) (Q : VK), g.K = X.K → g.mg = X.mg → g.E = E → SR g.K g.H0 g.μ0 S H μ → VRs g.K H μ vs ds → Post g H μ (VQ g.K Q) (o ds S) → r vs H Q
def app (o : List D → M D) (fa : Sl → M (List D)) : Sl → M D := fun ρ => fa ρ >>= o
theorem fe_callB {id : String} {x : Str} {p pos : Pos} {e : Expr} {es : List Expr} {o : List D → M D} {fa : Sl → M (List D)} (hc : CallF X E (.builtin id) o) (hm : X.mg x = none) (ha : FA X E (e :: es) fa) (hg : Gl X x := by rfl) (hv : bootBuiltins x = some (.builtin id) := by decide +kernel) (hn : x ≠ "__name__" := by decide) (hdb : (x == ("__debug__" : Str)) = false := by decide)
    (he : starEach (e :: es) X.env = (false, eval e X.env) :: starEach es X.env := by rfl) (hpl : (backTo pos (starEach es X.env)).any (·.1) = false := by rfl) : FE X E (.Call (.Name x p) (e :: es) [] pos) (app o fa) := by
  obtain ⟨r, hr, hc⟩ := hc
  obtain ⟨t, pa, ha⟩ := ha
  refine ⟨_, pe_callB hr hg hm hv pa hn hdb he hpl, fun g ρ S σ H μ Q hK hM hE hS hL hp => ?_⟩
  exact ha g ρ S σ H μ _ hK hM hE hS hL (hp.seq fun x S1 H1 μ1 s1 e1 p1 v rv => hc g S1 H1 μ1 x v Q hK hM hE s1 rv p1)
theorem fe_callTy {T : String} {x : Str} {p pos : Pos} {e : Expr} {es : List Expr} {o : List D → M D} {fa : Sl → M (List D)} (hc : CallF X E (.type T) o) (hm : X.mg x = none) (ha : FA X E (e :: es) fa) (hg : Gl X x := by rfl) (hv : bootBuiltins x = some (.type T) := by decide +kernel) (hn : x ≠ "__name__" := by decide) (hdb : (x == ("__debug__" : Str)) = false := by decide)
    (he : starEach (e :: es) X.env = (false, eval e X.env) :: starEach es X.env := by rfl) (hpl : (backTo pos (starEach es X.env)).any (·.1) = false := by rfl) : FE X E (.Call (.Name x p) (e :: es) [] pos) (app o fa) := by
  obtain ⟨r, hr, hc⟩ := hc
  obtain ⟨t, pa, ha⟩ := ha
  refine ⟨_, pe_callTy hr hg hm hv pa hn hdb he hpl, fun g ρ S σ H μ Q hK hM hE hS hL hp => ?_⟩
  exact ha g ρ S σ H μ _ hK hM hE hS hL (hp.seq fun x S1 H1 μ1 s1 e1 p1 v rv => hc g S1 H1 μ1 x v Q hK hM hE s1 rv p1)
theorem vrs1 {K : PySem.W.Frag} {H : Hp} {μ : List Addr} {vs : List V} {a : D} (h : VRs K H μ vs [a]) : ∃ v, vs = [v] ∧ VR K H μ v a := by
  cases h with
  | cons h hs => cases hs; exact ⟨_, rfl, h⟩
theorem vrs2 {K : PySem.W.Frag} {H : Hp} {μ : List Addr} {vs : List V} {a b : D} (h : VRs K H μ vs [a, b]) : ∃ v u, vs = [v, u] ∧ VR K H μ v a ∧ VR K H μ u b := by
  cases h with
  | cons h hs => cases hs with
    | cons h' hs => cases hs; exact ⟨_, _, rfl, h, h'⟩
/-- a built-in that changes nothing -/
def purA (f : Sto → List D → Option D) : List D → M D := fun ds S => match f S ds with
  | some z => .ok z S
  | none => .stuck
theorem callF_pure {f : Value} {r : List V → Hp → VK → Prop} {o : Sto → List D → Option D} (hr : CallR X f r)
    (h : ∀ (g : G) (S : Sto) (H : Hp) (μ : List Addr) (ds : List D) (vs : List V) (z : D) (Q : VK), g.K = X.K → SR g.K g.H0 g.μ0 S H μ → VRs g.K H μ vs ds → o S ds = some z → (∀ w, VR g.K H μ w z → Q w H) → r vs H Q) : CallF X E f (purA o) := by
  refine ⟨r, hr, fun g S H μ ds vs Q hK _ _ hS rs hp => ?_⟩
  unfold purA at hp
  split at hp
  · rename_i z e
    exact h g S H μ ds vs z Q hK hS rs e (hp.here hS)
  · exact hp.elim
def lenO : Sto → List D → Option D := fun S ds => match ds with
  | [.d (.str y)] => if y.length ≤ sizeLine then some (.d (.int y.length)) else none
  | [a] => (seqOf S a).map fun l => .d (.int l.length)
  | _ => none
theorem bf_len : CallF X E (.builtin "len") (purA lenO) :=
  callF_pure call_len fun g S H μ ds vs z Q hK hS rs e q => by
    unfold lenO at e
    split at e
    · split at e
      · rename_i c
        cases e
        obtain ⟨v, rfl, r⟩ := vrs1 rs
        have rv := VD.inv_str r
        subst rv
        exact ⟨_, _, rfl, ⟨c, rfl⟩, q _ (.int _)⟩
      · cases e
    · simp only [Option.map_eq_some_iff] at e
      obtain ⟨l, e1, rfl⟩ := e
      obtain ⟨v, rfl, r⟩ := vrs1 rs
      obtain ⟨p, us, rfl, h1, h2⟩ := hS.seq r e1
      have hl := h2.length
      refine ⟨_, us.length, rfl, ?_, q _ (by rw [hl]; exact .int _)⟩
      rcases h1 with h1 | h1
      · exact .inl ⟨us, hK ▸ h1, rfl⟩
      · exact .inr ⟨us, hK ▸ h1, rfl⟩
    · cases e
def int2O (k : Int → Int → Int) : Sto → List D → Option D := fun S ds => match ds with
  | [.d (.int i), .d (.int j)] => some (.d (.int (k i j)))
  | _ => none
theorem bf_max2 (hc : X.calm = true) : CallF X E (.builtin "max") (purA (int2O fun i j => if j > i then j else i)) :=
  callF_pure (call_max2 hc) fun g S H μ ds vs z Q hK hS rs e q => by
    unfold int2O at e
    split at e
    · cases e
      obtain ⟨v, u, rfl, r1, r2⟩ := vrs2 rs
      rw [VD.inv_int r1, VD.inv_int r2]
      exact ⟨_, _, rfl, q _ (.int _)⟩
    · cases e
theorem bf_min2 (hc : X.calm = true) : CallF X E (.builtin "min") (purA (int2O fun i j => if j < i then j else i)) :=
  callF_pure (call_min2 hc) fun g S H μ ds vs z Q hK hS rs e q => by
    unfold int2O at e
    split at e
    · cases e
      obtain ⟨v, u, rfl, r1, r2⟩ := vrs2 rs
      rw [VD.inv_int r1, VD.inv_int r2]
      exact ⟨_, _, rfl, q _ (.int _)⟩
    · cases e
def absO : Sto → List D → Option D := fun S ds => match ds with
  | [.d (.int i)] => some (.d (.int (if i < 0 then -i else i)))
  | _ => none
theorem bf_abs : CallF X E (.builtin "abs") (purA absO) :=
  callF_pure call_abs fun g S H μ ds vs z Q hK hS rs e q => by
    unfold absO at e
    split at e
    · cases e
      obtain ⟨v, rfl, r1⟩ := vrs1 rs
      rw [VD.inv_int r1]
      exact ⟨_, rfl, q _ (.int _)⟩
    · cases e
def intO : Sto → List D → Option D := fun S ds => match ds with
  | [.d (.int i)] => some (.d (.int i))
  | [.d (.bool k)] => some (.d (.int (if k then 1 else 0)))
  | _ => none
theorem bf_int : CallF X E (.type "int") (purA intO) :=
  callF_pure call_int1 fun g S H μ ds vs z Q hK hS rs e q => by
    unfold intO at e
    split at e
    · cases e
      obtain ⟨v, rfl, r1⟩ := vrs1 rs
      rw [VD.inv_int r1]
      exact .inl ⟨_, rfl, q _ (.int _)⟩
    · cases e
      obtain ⟨v, rfl, r1⟩ := vrs1 rs
      rw [VD.inv_bl r1]
      exact .inr ⟨_, rfl, q _ (.int _)⟩
    · cases e
def bool1O : Sto → List D → Option D := fun S ds => match ds with
  | [.d (.int i)] => some (.d (.bool (i != 0)))
  | [.d (.bool k)] => some (.d (.bool k))
  | _ => none
theorem bf_bool : CallF X E (.type "bool") (purA bool1O) :=
  callF_pure call_bool1 fun g S H μ ds vs z Q hK hS rs e q => by
    unfold bool1O at e
    split at e
    · cases e
      obtain ⟨v, rfl, r1⟩ := vrs1 rs
      rw [VD.inv_int r1]
      exact .inl ⟨_, rfl, q _ (.bl _)⟩
    · cases e
      obtain ⟨v, rfl, r1⟩ := vrs1 rs
      rw [VD.inv_bl r1]
      exact .inr ⟨_, rfl, q _ (.bl _)⟩
    · cases e
/-- the ints of a list or tuple -/
def intsOf : List D → Option (List Int)
  | [] => some []
  | .d (.int i) :: r => (intsOf r).map (i :: ·)
  | _ :: _ => none
theorem VRs.intsOf {K : PySem.W.Frag} {H : Hp} {μ : List Addr} : ∀ {v : List V} {d : List D} {ns : List Int}, VRs K H μ v d → intsOf d = some ns → v = ns.map V.int
  | _, _, _, .nil, e => by simp [Fx.intsOf] at e; subst e; rfl
  | _, .d (.int i) :: r, _, .cons h hs, e => by
    simp only [Fx.intsOf, Option.map_eq_some_iff] at e
    obtain ⟨q, e1, e2⟩ := e
    subst e2
    rw [VD.inv_int h, VRs.intsOf hs e1]; rfl
  | _, .d .none :: r, _, .cons h hs, e => by simp [Fx.intsOf] at e
  | _, .d (.bool _) :: r, _, .cons h hs, e => by simp [Fx.intsOf] at e
  | _, .d (.str _) :: r, _, .cons h hs, e => by simp [Fx.intsOf] at e
  | _, .d (.list _) :: r, _, .cons h hs, e => by simp [Fx.intsOf] at e
  | _, .d (.tuple _) :: r, _, .cons h hs, e => by simp [Fx.intsOf] at e
  | _, .d (.dict _) :: r, _, .cons h hs, e => by simp [Fx.intsOf] at e
  | _, .ob _ :: r, _, .cons h hs, e => by simp [Fx.intsOf] at e
theorem intsOf_map (ns : List Int) : intsOf (ns.map fun i => .d (.int i)) = some ns := by
  induction ns with
  | nil => rfl
  | cons a l ih => simp [intsOf, ih]
theorem vrs_ints {K : PySem.W.Frag} {H : Hp} {μ : List Addr} : ∀ ns : List Int, VRs K H μ (ns.map V.int) (ns.map fun i => .d (.int i))
  | [] => .nil
  | i :: ns => .cons (.int i) (vrs_ints ns)
def listOf (S : Sto) : D → Option (List D)
  | .d (.list ds) => some (ds.map .d)
  | .ob n => match S[n]? with
    | some (.lst l) => some l
    | _ => none
  | _ => none
theorem SR.list {K : PySem.W.Frag} {H0 H : Hp} {μ0 μ : List Addr} {S : Sto} (s : SR K H0 μ0 S H μ) {v : V} {x : D} {ds : List D} (r : VR K H μ v x) (e : listOf S x = some ds) : ∃ a vs, v = .ref a ∧ SqL K H a vs ∧ VRs K H μ vs ds := by
  cases x with
  | d p =>
    cases p <;> simp only [listOf] at e <;> try (cases e)
    · obtain ⟨a, xs, rfl, h, hs⟩ := VD.inv_lst r
      exact ⟨a, xs, rfl, h.sq, VDs.vrs hs⟩
  | ob n =>
    obtain ⟨a, e1, rfl⟩ := r
    simp only [listOf] at e
    split at e
    · rename_i l q
      cases e
      obtain ⟨vs, h1, h2⟩ := s.lst e1 q
      exact ⟨a, vs, rfl, .inl (.inl h1), h2⟩
    · cases e
def sumO : Sto → List D → Option D := fun S ds => match ds with
  | [a] => (listOf S a).bind fun l => (intsOf l).map fun ns => .d (.int ns.sum)
  | _ => none
theorem bf_sum (hc : X.calm = true) : CallF X E (.builtin "sum") (purA sumO) :=
  callF_pure (cr_sum hc) fun g S H μ ds vs z Q hK hS rs e q => by
    unfold sumO at e
    split at e
    · simp only [Option.bind_eq_some_iff, Option.map_eq_some_iff] at e
      obtain ⟨l, e1, ns, e2, rfl⟩ := e
      obtain ⟨v, rfl, r1⟩ := vrs1 rs
      obtain ⟨a, us, rfl, h1, h2⟩ := hS.list r1 e1
      have h3 := h2.intsOf e2
      subst h3
      exact ⟨a, ns, rfl, hK ▸ h1, q _ (.int _)⟩
    · cases e
/-- list(x) -/
def toList : List D → M D := fun ds S => match ds with
  | [a] => match seqOf S a with
    | some l => .ok (.ob S.length) (S ++ [.lst l])
    | none => .stuck
  | _ => .stuck
theorem bf_list : CallF X E (.type "list") toList := by
  refine ⟨_, call_list_of, fun g S H μ ds vs Q hK hM hE hS rs hp => ?_⟩
  unfold toList at hp
  split at hp
  · split at hp
    · rename_i l e
      obtain ⟨v, rfl, r1⟩ := vrs1 rs
      obtain ⟨a, us, rfl, h1, h2⟩ := hS.seq r1 e
      exact ⟨a, us, rfl, hK ▸ h1, fun q nq => hp _ _ (hS.alloc (ho := .lst us) nq h2) (ext_alloc nq) _ hS.vr_new⟩
    · exact hp.elim
  · exact hp.elim
/-- tuple(x) of data -/
def toTup : List D → M D := fun ds S => match ds with
  | [.d (.tuple ps)] => .ok (.d (.tuple ps)) S
  | [a] => match listOf S a with
    | some l => match pys l with
      | some ps => .ok (.d (.tuple ps)) S
      | none => .stuck
    | none => .stuck
  | _ => .stuck
theorem bf_tuple : CallF X E (.type "tuple") toTup := by
  refine ⟨_, call_tuple_of, fun g S H μ ds vs Q hK hM hE hS rs hp => ?_⟩
  unfold toTup at hp
  split at hp
  · obtain ⟨v, rfl, r1⟩ := vrs1 rs
    obtain ⟨a, us, rfl, h1, h2⟩ := VD.inv_tup r1
    exact ⟨a, us, rfl, .inr ⟨hK ▸ h1, hp.here hS _ (.tup h1 h2)⟩⟩
  · split at hp
    · rename_i l e
      split at hp
      · rename_i ps e2
        obtain ⟨v, rfl, r1⟩ := vrs1 rs
        obtain ⟨a, us, rfl, h1, h2⟩ := hS.list r1 e
        exact ⟨a, us, rfl, .inl ⟨hK ▸ h1, fun q nq => hp _ _ (hS.aside nq) (ext_aside nq) _ (.tup (SqT.of upd_same) ((h2.data e2).keep (keep_new nq)))⟩⟩
      · exact hp.elim
    · exact hp.elim
  · exact hp.elim
end
end Fx
end
section
namespace Fx
open PySem PySem.Spec PyProof.Rows L2

/-! ### what a def promises -/
/-- a promise by a function on the arguments and the store -/
def spF (K : PySem.W.Frag) (mg : Str → Option Value) (n : Nat) (F : List D → M D) : Sp := fun vs H Q E =>
  vs.length = n ∧ ∃ (μ : List Addr) (S : Sto) (ds : List D), SR K H μ S H μ ∧ VRs K H μ vs ds ∧ Post ⟨K, mg, E, H, μ⟩ H μ (VQ K Q) (F ds S)
structure FnG (P : Program) (w : World) (K : PySem.W.Frag) (mg : Str → Option Value) (base : Heap) (k : Nat) (f : Addr) (fd : FuncData) (ps : List Str) (F : List D → M D) : Prop where
  run : ∀ (A : Around) (outer : List Env) (s : Shared) (H : Hp) (args : Args) (us : List Value) (vs : List V) (Q : VK) (E : XK), A.guards = some [] → Room k A → Env0 P w K mg base A outer s H → BindsTo s fd args (ps.zip us) → Vals vs us →
    spF K mg ps.length F vs H Q E → codeAny (model P w) A (.call (.ref f) args) (CR (L2.CX P w) outer P w H s Q E) s
theorem FnG.mono {P : Program} {w : World} {K : PySem.W.Frag} {mg : Str → Option Value} {base : Heap} {j k : Nat} {f : Addr} {fd : FuncData} {ps : List Str} {F : List D → M D} (h : FnG P w K mg base j f fd ps F) (l : j ≤ k) : FnG P w K mg base k f fd ps F :=
  ⟨fun A outer s H args us vs Q E hg hr => h.run A outer s H args us vs Q E hg (hr.mono l)⟩

/-- the context of a body -/
abbrev bodyX (P : Program) (w : World) (K : PySem.W.Frag) (mg : Str → Option Value) (base : Heap) (N : List Str) (qual : Str) (scope : Scope) (f : Addr) (cd : Value) (A : Around) (outer : List Env) (s : Shared) (H : Hp) (E : XK) : Cx :=
  cxOf (L2.CX P w) P w K mg base N qual scope f cd A outer s H E
def startD (N : List Str) (ds : List D) : Sl := ds.map some ++ List.replicate (N.length - ds.length) none
theorem lr_start {K : PySem.W.Frag} {H : Hp} {μ : List Addr} {N : List Str} {vs : List V} {ds : List D} (r : VRs K H μ vs ds) : LR K H μ (L2.start N vs) (startD N ds) := by
  have hl := r.length
  refine ⟨by simp [L2.start, startD, hl], fun i d e => ?_⟩
  unfold startD at e
  unfold L2.start
  by_cases hi : i < ds.length
  · rw [List.getElem?_append_left (by simpa using hi), List.getElem?_map] at e
    cases q : ds[i]? with
    | none => rw [q] at e; cases e
    | some x =>
      rw [q] at e
      cases e
      obtain ⟨u, h1, h2⟩ := r.get i q
      exact ⟨u, by rw [List.getElem?_append_left (by simp; omega), List.getElem?_map, h1]; rfl, h2⟩
  · rw [List.getElem?_append_right (by simpa using hi), List.getElem?_replicate] at e
    split at e <;> cases e
/-- a body's outcome as a call's -/
def retOf : R Oc → R D
  | .ok (.rt d) S => .ok d S
  | .ok (.nx _) S => .ok (.d .none) S
  | .ex x S => .ex x S
  | _ => .stuck

/-! ### garbage dropped -/
def idsIn (n : Nat) : D → Prop
  | .d _ => True
  | .ob i => i < n
def idsInO (n : Nat) : O → Prop
  | .lst l => ∀ d ∈ l, idsIn n d
  | .dk l => ∀ p ∈ l, idsIn n p.2
/-- no object names one that is not there -/
def Closed (S : Sto) : Prop := ∀ o ∈ S, idsInO S.length o
def RelD (ι : List Nat) : D → D → Prop
  | .d p, .d q => p = q
  | .ob i, .ob j => ι[i]? = some j
  | _, _ => False
def RelOb (ι : List Nat) : O → O → Prop
  | .lst l, .lst l' => Paired (RelD ι) l l'
  | .dk l, .dk l' => Paired (fun (p q : Key × D) => p.1 = q.1 ∧ RelD ι p.2 q.2) l l'
  | _, _ => False
/-- the store T is a part of T', its i-th object being the ι i-th there; the first n are the same -/
structure Emb (n : Nat) (ι : List Nat) (T T' : Sto) : Prop where
  len : ι.length = T.length
  nd : ι.Nodup
  id_ : ∀ i, i < n → ι[i]? = some i
  at_ : ∀ (i j : Nat), ι[i]? = some j → ∃ o o', T[i]? = some o ∧ T'[j]? = some o' ∧ RelOb ι o o'
def Ref (n : Nat) : R D → R D → Prop
  | .stuck, _ => True
  | .ok d T, .ok d' T' => ∃ ι, Emb n ι T T' ∧ RelD ι d d'
  | .ex x T, .ex x' T' => x = x' ∧ ∃ ι, Emb n ι T T'
  | _, _ => False
theorem SR.closed {K : PySem.W.Frag} {H0 H : Hp} {μ0 μ : List Addr} {S : Sto} (s : SR K H0 μ0 S H μ) : Closed S := fun o ho => by
  obtain ⟨n, hn, e⟩ := List.mem_iff_getElem.mp ho
  have hm : n < μ.length := by rw [s.len]; exact hn
  obtain ⟨h, _, r⟩ := s.at_ n μ[n] o (List.getElem?_eq_getElem hm) (by rw [List.getElem?_eq_getElem hn, e])
  have key : ∀ {v : V} {d : D}, VR K H μ v d → idsIn S.length d := fun {v d} q => by
    cases d with
    | d p => trivial
    | ob i =>
      obtain ⟨a, e1, _⟩ := q
      have := (List.getElem?_eq_some_iff.mp e1).1
      show i < S.length
      rw [← s.len]; exact this
  have mem : ∀ {α β : Type} {F : α → β → Prop} {xs : List α} {ys : List β}, Paired F xs ys → ∀ y ∈ ys, ∃ x, F x y := fun {α β F xs ys} p => by
    induction p with
    | nil => intro y hy; cases hy
    | cons h t ih =>
      intro y hy
      rcases List.mem_cons.mp hy with rfl | hy
      · exact ⟨_, h⟩
      · exact ih y hy
  cases o with
  | lst l =>
    cases h <;> try exact r.elim
    intro d hd
    obtain ⟨v, q⟩ := mem r d hd
    exact key q
  | dk l =>
    cases h <;> try exact r.elim
    intro p hp
    obtain ⟨v, q⟩ := mem r p hp
    exact key q.2
theorem VR.idsIn {K : PySem.W.Frag} {H0 H : Hp} {μ0 μ : List Addr} {S : Sto} (s : SR K H0 μ0 S H μ) {v : V} {d : D} (r : VR K H μ v d) : idsIn S.length d := by
  cases d with
  | d p => trivial
  | ob i =>
    obtain ⟨a, e1, _⟩ := r
    have := (List.getElem?_eq_some_iff.mp e1).1
    show i < S.length
    rw [← s.len]; exact this
/-- the addresses picked -/
def pick (μ : List Addr) (ι : List Nat) : List Addr := ι.filterMap fun j => μ[j]?
theorem pick_get {μ : List Addr} : ∀ {ι : List Nat}, (∀ j ∈ ι, j < μ.length) → ∀ i : Nat, (pick μ ι)[i]? = (ι[i]?).bind fun j => μ[j]?
  | [], _, i => by simp [pick]
  | j :: ι, h, i => by
    have hj : j < μ.length := h j (List.mem_cons_self ..)
    have e : pick μ (j :: ι) = μ[j] :: pick μ ι := by simp [pick, List.getElem?_eq_getElem hj]
    rw [e]
    cases i with
    | zero => simp [List.getElem?_eq_getElem hj]
    | succ i => simpa using pick_get (fun k hk => h k (List.mem_cons_of_mem _ hk)) i
theorem RelD.vr {K : PySem.W.Frag} {H : Hp} {μ : List Addr} {ι : List Nat} (hι : ∀ j ∈ ι, j < μ.length) {v : V} {d d' : D} (r : RelD ι d d') (h : VR K H μ v d') : VR K H (pick μ ι) v d := by
  cases d <;> cases d' <;> first | exact r.elim | skip
  · cases (show _ = _ from r); exact h
  · rename_i i j
    have r' : ι[i]? = some j := r
    obtain ⟨a, e, rfl⟩ := h
    refine ⟨a, ?_, rfl⟩
    rw [pick_get hι, r']
    exact e
theorem RelD.vrs {K : PySem.W.Frag} {H : Hp} {μ : List Addr} {ι : List Nat} (hι : ∀ j ∈ ι, j < μ.length) : ∀ {v : List V} {l l' : List D}, Paired (RelD ι) l l' → VRs K H μ v l' → VRs K H (pick μ ι) v l
  | _, _, _, .nil, h => by cases h; exact .nil
  | _, _, _, .cons r rs, h => by
    cases h with
    | cons h hs => exact .cons (r.vr hι h) (RelD.vrs hι rs hs)
theorem RelD.kvs {K : PySem.W.Frag} {H : Hp} {μ : List Addr} {ι : List Nat} (hι : ∀ j ∈ ι, j < μ.length) : ∀ {v : List (Key × V)} {l l' : List (Key × D)}, Paired (fun (p q : Key × D) => p.1 = q.1 ∧ RelD ι p.2 q.2) l l' →
    Paired (fun (p : Key × V) (q : Key × D) => p.1 = q.1 ∧ VR K H μ p.2 q.2) v l' → Paired (fun (p : Key × V) (q : Key × D) => p.1 = q.1 ∧ VR K H (pick μ ι) p.2 q.2) v l
  | _, _, _, .nil, h => by cases h; exact .nil
  | _, _, _, .cons r rs, h => by
    cases h with
    | cons h hs => exact .cons ⟨h.1.trans r.1.symm, r.2.vr hι h.2⟩ (RelD.kvs hι rs hs)
theorem Emb.sr {K : PySem.W.Frag} {H0 H : Hp} {μ0 μ : List Addr} {T T' : Sto} {ι : List Nat} (e : Emb μ0.length ι T T') (s : SR K H0 μ0 T' H μ) : SR K H0 μ0 T H (pick μ ι) ∧ ∀ j ∈ ι, j < μ.length := by
  have hι : ∀ j ∈ ι, j < μ.length := fun j hj => by
    obtain ⟨i, hi, q⟩ := List.mem_iff_getElem.mp hj
    obtain ⟨_, _, _, h2, _⟩ := e.at_ i j (by rw [List.getElem?_eq_getElem hi, q])
    have := (List.getElem?_eq_some_iff.mp h2).1
    rw [s.len]; exact this
  have hg := fun i => pick_get hι i
  have hlen : (pick μ ι).length = ι.length := by
    have h1 : ∀ i, (pick μ ι)[i]? = none ↔ ι[i]? = none := fun i => by
      rw [hg i]
      cases q : ι[i]? with
      | none => simp
      | some j =>
        have := hι j (List.mem_of_getElem? q)
        simp [List.getElem?_eq_getElem this]
    have a := h1 (pick μ ι).length
    have b := h1 ι.length
    rw [List.getElem?_eq_none_iff, List.getElem?_eq_none_iff] at a b
    have := a.mp (Nat.le_refl _)
    have := b.mpr (Nat.le_refl _)
    omega
  refine ⟨⟨by rw [hlen, e.len], ?_, fun n a o e1 e2 => ?_, ?_, fun a ha => ?_, s.fr⟩, hι⟩
  · -- nodup
    have nd := e.nd
    have ndμ := s.nd
    clear hg hlen
    revert hι nd
    generalize ι = ι
    intro hι
    induction ι with
    | nil => intro _ ; simp [pick]
    | cons j ι ih =>
      intro nd
      have hj : j < μ.length := hι j (List.mem_cons_self ..)
      have q : pick μ (j :: ι) = μ[j] :: pick μ ι := by simp [pick, List.getElem?_eq_getElem hj]
      rw [q, List.nodup_cons]
      refine ⟨fun hm => ?_, ih (fun k hk => hι k (List.mem_cons_of_mem _ hk)) (List.nodup_cons.mp nd).2⟩
      simp only [pick, List.mem_filterMap] at hm
      obtain ⟨k, hk, ek⟩ := hm
      have := nodup_at ndμ ek (List.getElem?_eq_getElem hj)
      subst this
      exact (List.nodup_cons.mp nd).1 hk
  · rw [hg n] at e1
    cases q : ι[n]? with
    | none => rw [q] at e1; cases e1
    | some j =>
      rw [q] at e1
      obtain ⟨o1, o', h1, h2, h3⟩ := e.at_ n j q
      rw [e2] at h1
      cases h1
      obtain ⟨ho, h4, h5⟩ := s.at_ j a o' e1 h2
      refine ⟨ho, h4, ?_⟩
      cases o <;> cases o' <;> first | exact h3.elim | skip
      · cases ho <;> first | exact h5.elim | skip
        exact RelD.vrs hι h3 h5
      · cases ho <;> first | exact h5.elim | skip
        exact RelD.kvs hι h3 h5
  · -- prefix
    have hp := s.pre
    refine List.prefix_iff_getElem?.mpr fun i hi => ?_
    rw [hg i, e.id_ i hi]
    have := pre_get hp (List.getElem?_eq_getElem hi)
    exact this
  · simp only [pick, List.mem_filterMap] at ha
    obtain ⟨j, _, q⟩ := ha
    exact s.new a (List.mem_of_getElem? q)
/-- the rooted store seen from farther out -/
theorem SR.root {K : PySem.W.Frag} {H0 H H' : Hp} {μ0 μ μ' : List Addr} {S S' : Sto} (s : SR K H0 μ0 S H μ) (r : SR K H μ S' H' μ') : SR K H0 μ0 S' H' μ' where
  len := r.len
  nd := r.nd
  at_ := r.at_
  pre := s.pre.trans r.pre
  new := fun a ha => by
    rcases r.new a ha with q | q
    · exact s.new a q
    · exact .inr (s.fresh q).2
  fr := fun a o e n => by
    have h1 := s.fr a o e n
    refine r.fr a o h1 fun z => ?_
    rcases s.new a z with q | q
    · exact n q
    · rw [e] at q; cases q
theorem SR.here {K : PySem.W.Frag} {H0 H : Hp} {μ0 μ : List Addr} {S : Sto} (s : SR K H0 μ0 S H μ) : SR K H μ S H μ := ⟨s.len, s.nd, s.at_, List.prefix_rfl, fun a h => .inl h, fun a o e _ => e⟩
theorem Post.root {g : G} {H : Hp} {μ : List Addr} {α : Type} {P : α → Sto → Hp → List Addr → Prop} {r : R α} {S : Sto} (s : SR g.K g.H0 g.μ0 S H μ) (h : Post g H μ P r) : Post ⟨g.K, g.mg, g.E, H, μ⟩ H μ P r := by
  cases r with
  | stuck => exact h
  | ok a S' => exact fun H' μ' r e => h H' μ' (s.root r) e
  | ex x S' => exact fun H' μ' c d r e => h H' μ' c d (s.root r) e
theorem Post.ref {K : PySem.W.Frag} {mg : Str → Option Value} {E : XK} {H : Hp} {μ : List Addr} {Q : VK} {r r' : R D} (h : Post ⟨K, mg, E, H, μ⟩ H μ (VQ K Q) r) (f : Ref μ.length r r') : Post ⟨K, mg, E, H, μ⟩ H μ (VQ K Q) r' := by
  cases r with
  | stuck => exact h.elim
  | ok d T =>
    cases r' with
    | stuck => exact f.elim
    | ex x T' => exact f.elim
    | ok d' T' =>
      obtain ⟨ι, e, rd⟩ := f
      intro H' μ' s x v rv
      obtain ⟨s2, hι⟩ := e.sr s
      exact h H' (pick μ' ι) s2 ⟨x.1, s2.pre⟩ v (rd.vr hι rv)
  | ex x T =>
    cases r' with
    | stuck => exact f.elim
    | ok d' T' => exact f.elim
    | ex x' T' =>
      obtain ⟨rfl, ι, e⟩ := f
      intro H' μ' cls d s x ev
      obtain ⟨s2, hι⟩ := e.sr s
      exact h H' (pick μ' ι) cls d s2 ⟨x.1, s2.pre⟩ ev

/-! ### a def by its body -/
section
variable {P : Program} {w : World} {K : PySem.W.Frag} {mg : Str → Option Value} {base : Heap}
theorem fnG_body {x qual : Str} {st : Stmt} {f : Addr} {fd : FuncData} {N ps : List Str} {k : Nat} {sp : Sp} (F : Fun K x qual st f fd) (S : FnScope N ps (defScope st)) (len : ∀ vs H Q E, sp vs H Q E → vs.length = ps.length)
    (hb : ∀ (cdv : Value) (A : Around) (outer : List Env) (s : Shared) (H : Hp) (vs : List V) (Q : VK) (E : XK), A.guards = some [] → Room k (A.deeper (envOfC qual (defScope st) s.heap.objs.size f cdv)) → sp vs H Q E →
      ∃ t, PSs (bodyX P w K mg base N qual (defScope st) f cdv A outer s H E) (defBody st) t ∧ t { nx := fun _ H' => Q .non H', rt := Q } (L2.start N vs) H)
    (A : Around) (outer : List Env) (s : Shared) (H : Hp) (args : Args) (us : List Value) (vs : List V) (Q : VK) (E : XK) (hgu : A.guards = some []) (hr : Room (k + 1) A) (e0 : Env0 P w K mg base A outer s H) (bd : BindsTo s fd args (ps.zip us)) (rel : Vals vs us) (wish : sp vs H Q E) :
    codeAny (model P w) A (.call (.ref f) args) (CR (L2.CX P w) outer P w H s Q E) s := by
  obtain ⟨oc, od, kV, doc, pm, an, cdv, ct, osl, rfl, look, code⟩ := F.ex
  have inK : K.In s.heap := e0.mod.kin.keeps fun b o q => (e0.bs b o q).1
  have kinds : ∀ y ∈ ps.zip us, (defScope st).names.lookup y.1 = some .local ∨ ((defScope st).names.lookup y.1 = some .cell ∧ ((cellsFrom (s.heap.objs.size + 1) (defScope st).names []).lookup y.1).isSome = true) := by
    rintro ⟨n, v⟩ hy
    exact (S.par n (List.of_mem_zip hy).1).imp id fun q => ⟨q, PySem.W.cellsFrom_some _ _ _ (.inl q)⟩
  refine codeAny_call_function hr.depth (inK _ _ look) rfl S.co S.gen rfl (PySem.W.codeRec_of inK code) (bd _ _ _ _ (wpAny_newFunctionEnv_cells S.kind kinds ?_))
  rintro env rfl s1 into
  refine ⟨(e0.mod.nolimit.keeps fun b o q => (e0.bs b o q).1).keeps into.toInCall.keep, codeAny_func ?_⟩
  obtain ⟨t, pt, ht⟩ := hb cdv A outer s H vs Q E hgu (hr.deeper _) wish
  have I0 := inv_start (CX := L2.CX P w) (E := E) S hr.hd e0 (len _ _ _ _ wish) rel into
  refine wpAny_mono (pt.run [] s1 _ H _ I0 ht) ?_ fun _ _ q => q
  intro fl s' out
  cases fl with
  | next => obtain ⟨σ', H', J, q⟩ := out; exact ⟨.non, H', J.os, J.bare, J.base, J.hok, rfl, q⟩
  | ret u => obtain ⟨v, σ', H', J, rv, q⟩ := out; exact ⟨v, H', J.os, J.bare, J.base, J.hok, rv, q⟩
  | brk => obtain ⟨_, _, _, q⟩ := out; exact q.elim
  | cont => obtain ⟨_, _, _, q⟩ := out; exact q.elim
/-- THE RULE: fb what the body does, F what is promised -/
theorem fnG_of {x qual : Str} {st : Stmt} {f : Addr} {fd : FuncData} {N ps : List Str} {k : Nat} {F : List D → M D} {fb : Sl → M Oc} (Fn : Fun K x qual st f fd) (Sc : FnScope N ps (defScope st))
    (hb : ∀ (cdv : Value) (A : Around) (outer : List Env) (s : Shared) (H : Hp) (E : XK), A.guards = some [] → Room k (A.deeper (envOfC qual (defScope st) s.heap.objs.size f cdv)) → FSs (bodyX P w K mg base N qual (defScope st) f cdv A outer s H E) E (defBody st) fb)
    (hF : ∀ (ds : List D) (S : Sto), ds.length = ps.length → Closed S → (∀ d ∈ ds, idsIn S.length d) → Ref S.length (F ds S) (retOf (fb (startD N ds) S))) : FnG P w K mg base (k + 1) f fd ps F := by
  refine ⟨fun A outer s H args us vs Q E hgu hr e0 bd rel wish => fnG_body Fn Sc (fun _ _ _ _ h => h.1) (fun cdv A outer s H vs Q E hgu hr wish => ?_) A outer s H args us vs Q E hgu hr e0 bd rel wish⟩
  obtain ⟨hl, μ, S, ds, hS, hv, hp⟩ := wish
  obtain ⟨t, pt, ht⟩ := hb cdv A outer s H E hgu hr
  refine ⟨t, pt, ht ⟨K, mg, E, H, μ⟩ (startD N ds) S _ H μ _ rfl rfl rfl hS (lr_start hv) ?_⟩
  have mem : ∀ {vs : List V} {ds : List D}, VRs K H μ vs ds → ∀ d ∈ ds, idsIn S.length d := fun {vs ds} p => by
    induction p with
    | nil => intro y hy; cases hy
    | cons h t ih =>
      intro y hy
      rcases List.mem_cons.mp hy with rfl | hy
      · exact h.idsIn hS
      · exact ih y hy
  have q := hp.ref (by rw [hS.len]; exact hF ds S (by rw [← hv.length, hl]) hS.closed (mem hv))
  revert q
  cases fb (startD N ds) S with
  | stuck => exact fun q => q
  | ex x S' => exact fun q => q
  | ok o S' =>
    cases o with
    | rt d => exact fun q H' μ' s e v rv => q H' μ' s e v rv
    | nx ρ => exact fun q H' μ' s e σ' _ => q H' μ' s e _ .non
    | bk ρ => exact fun q => q.elim
    | ct ρ => exact fun q => q.elim
end
theorem passX {P : Program} {w : World} {K : PySem.W.Frag} {mg : Str → Option Value} {base : Heap} {N : List Str} {qual : Str} {scope : Scope} {f : Addr} {cd : Value} {A : Around} {outer : List Env} {s : Shared} {H : Hp} {E : XK} :
    Passes (L2.CX P w) (bodyX P w K mg base N qual scope f cd A outer s H E) E :=
  passes_call (X := bodyX P w K mg base N qual scope f cd A outer s H E) (W := fun cls d _ H => E cls d H) (takes_of rfl rfl rfl rfl) (fun _ _ _ _ h => h)
theorem ownX {P : Program} {w : World} {K : PySem.W.Frag} {mg : Str → Option Value} {base : Heap} {N : List Str} {qual : Str} {scope : Scope} {f : Addr} {cd : Value} {A : Around} {outer : List Env} {s : Shared} {H : Hp} {E : XK} :
    PassesOwn (model P w) (bodyX P w K mg base N qual scope f cd A outer s H E).A (bodyX P w K mg base N qual scope f cd A outer s H E).env (bodyX P w K mg base N qual scope f cd A outer s H E).xe :=
  passes_of (X := bodyX P w K mg base N qual scope f cd A outer s H E) rfl

/-! ### calls -/
def permL {α : Type} (pm : List Nat) (l : List α) : List α := pm.filterMap fun i => l[i]?
theorem permL_paired {α β : Type} {F : α → β → Prop} {xs : List α} {ys : List β} (h : Paired F xs ys) : ∀ pm, Paired F (permL pm xs) (permL pm ys)
  | [] => .nil
  | i :: pm => by
    have get : ∀ {xs : List α} {ys : List β} (i : Nat), Paired F xs ys → (xs[i]? = none ∧ ys[i]? = none) ∨ ∃ x y, xs[i]? = some x ∧ ys[i]? = some y ∧ F x y := fun {xs ys} i p => by
      induction p generalizing i with
      | nil => exact .inl (by simp)
      | cons h t ih =>
        cases i with
        | zero => exact .inr ⟨_, _, rfl, rfl, h⟩
        | succ i => simpa using ih i
    have ih := permL_paired h pm
    rcases get i h with ⟨e1, e2⟩ | ⟨x, y, e1, e2, r⟩
    · simpa [permL, e1, e2] using ih
    · have a : permL (i :: pm) xs = x :: permL pm xs := by simp [permL, e1]
      have b : permL (i :: pm) ys = y :: permL pm ys := by simp [permL, e2]
      rw [a, b]
      exact .cons r ih
def BindsP (K : PySem.W.Frag) (fd : FuncData) (ps ks : List Str) (m : Nat) (pm : List Nat) : Prop :=
  ∀ (s : Shared) (us ws : List Value), K.In s.heap → us.length = m → ws.length = ks.length → BindsTo s fd ⟨us, ks.zip ws⟩ (ps.zip (permL pm (us ++ ws)))
section
variable {X : Cx} {E : XK}
theorem run_fnG {k : Nat} {f : Addr} {fd : FuncData} {ps : List Str} {F : List D → M D} {pins : List (Addr × Obj)} {σ : L2.St} {H : Hp} {s : Shared} {Q : VK} {us : List Value} {vs : List V} {args : Args} (Fn : FnG X.prog X.w X.K X.mg X.base k f fd ps F) (hgu : X.A.guards = some []) (hr : Room k X.A) (hx : Passes (L2.CX X.prog X.w) X E)
    (I : Inv X pins σ H s) (r : Vals vs us) (bd : BindsTo s fd args (ps.zip us)) (h : spF X.K X.mg ps.length F vs H Q E) : codeAny (model X.prog X.w) X.A (.call (.ref f) args) (fun r s' => match r with | .ok (.ret u) => EP X pins σ Q u s' | .ok _ => False | .error e => X.xe e s') s := by
  refine codeAny_mono (Fn.run X.A X.stack s H args us vs Q E hgu hr I.env0 bd r h) fun res s' q => ?_
  rcases res with e | fl
  · exact hx pins σ H s e s' I q
  · cases fl <;> first | exact I.after q | exact q.elim
theorem sp_of {g : G} {n : Nat} {F : List D → M D} {S : Sto} {H : Hp} {μ : List Addr} {vs : List V} {ds : List D} {Q : VK} (s : SR g.K g.H0 g.μ0 S H μ) (r : VRs g.K H μ vs ds) (hl : ds.length = n) (p : Post g H μ (VQ g.K Q) (F ds S)) : spF g.K g.mg n F vs H Q g.E :=
  ⟨by rw [r.length, hl], μ, S, ds, s.here, r, p.root s⟩
variable {k n : Nat} {f : Addr} {fd : FuncData} {ps ks : List Str} {F : List D → M D} {x : Str} {p pos : Pos} {e : Expr} {es : List Expr} {kws : List Keyword}
theorem ep_of {pins : List (Addr × Obj)} {σ : L2.St} {Q : VK} {us : List Value} {kw : List (Str × Value)} {s : Shared} (h : codeAny (model X.prog X.w) X.A (.call (.ref f) ⟨us, kw⟩) (fun r s' => match r with | .ok (.ret u) => EP X pins σ Q u s' | .ok _ => False | .error e => X.xe e s') s) :
    wpAny (model X.prog X.w) X.A (call (.ref f) us kw) (EP X pins σ Q) X.xe s := by
  refine wpAny_call (codeAny_mono h fun r s' q => ?_)
  rcases r with e | fl
  · exact q
  · cases fl <;> first | exact q | exact q.elim
/-- f(e, ..) -/
theorem pe_callG {t : TA} (Fn : FnG X.prog X.w X.K X.mg X.base k f fd ps F) (hgu : X.A.guards = some []) (hr : Room k X.A) (hm : X.mg x = some (.ref f)) (hk : PySem.W.keepIn X.K (.ref f) = true)
    (hb : Binds X.K fd ps []) (hx : Passes (L2.CX X.prog X.w) X E) (ha : PA X (e :: es) t) (hg : Gl X x) (hdb : (x == ("__debug__" : Str)) = false) (he : starEach (e :: es) X.env = (false, eval e X.env) :: starEach es X.env) (hpl : (backTo pos (starEach es X.env)).any (·.1) = false) :
    PE X (.Call (.Name x p) (e :: es) [] pos) (fun σ H Q => t σ H fun vs H1 => spF X.K X.mg ps.length F vs H1 Q E) := by
  refine ⟨fun pins s σ H Q I h => wpAny_Call_Name_kw (ld_glob I hg hm ?_ hdb)⟩
  refine PySem.W.callWith_K (h₀ := X.base) I.ok.mod.kin hk (thn (ha.run pos pins s σ H _ I h) ?_) he hpl
  rintro us s1 ⟨vs, H1, I1, r, q⟩
  have hu : us.length = ps.length := by rw [← r.length]; exact q.1
  have b := hb s1 us I1.kIn (by rw [List.append_nil]; exact hu)
  rw [List.append_nil] at b
  exact ⟨I1.kIn, ep_of (run_fnG Fn hgu hr hx I1 r b q)⟩
def call1 (n : Nat) (F : List D → M D) (fa : Sl → M (List D)) : Sl → M D := fun ρ => fa ρ >>= fun ds => if ds.length = n then F ds else stuck
theorem fe_call {fa : Sl → M (List D)} {lp : Nat} (Fn : FnG X.prog X.w X.K X.mg X.base k f fd ps F) (hgu : X.A.guards = some []) (hr : Room k X.A) (hm : X.mg x = some (.ref f)) (hk : PySem.W.keepIn X.K (.ref f) = true)
    (hb : Binds X.K fd ps []) (hx : Passes (L2.CX X.prog X.w) X E) (ha : FA X E (e :: es) fa) (hg : Gl X x := by rfl) (hdb : (x == ("__debug__" : Str)) = false := by decide) (he : starEach (e :: es) X.env = (false, eval e X.env) :: starEach es X.env := by rfl) (hpl : (backTo pos (starEach es X.env)).any (·.1) = false := by rfl) (hlp : ps.length = lp := by rfl) :
    FE X E (.Call (.Name x p) (e :: es) [] pos) (call1 lp F fa) := by
  subst hlp
  obtain ⟨t, pa, ha⟩ := ha
  refine ⟨_, pe_callG Fn hgu hr hm hk hb hx pa hg hdb he hpl, fun g ρ S σ H μ Q hK hM hE hS hL hp => ?_⟩
  refine ha g ρ S σ H μ _ hK hM hE hS hL (hp.seq fun ds S1 H1 μ1 s1 e1 p1 vs rv => ?_)
  split at p1
  · rename_i hl
    have := sp_of s1 rv hl p1
    rw [hK, hM, hE] at this
    exact this
  · exact p1.elim
/-- keywords' values -/
def FK (X : Cx) (E : XK) (kws : List Keyword) (f : Sl → M (List D)) : Prop :=
  ∃ t : TA, PK X kws t ∧ ∀ (g : G) (ρ : Sl) (S : Sto) (σ : L2.St) (H : Hp) (μ : List Addr) (Q : List V → Hp → Prop), g.K = X.K → g.mg = X.mg → g.E = E → SR g.K g.H0 g.μ0 S H μ → LR g.K H μ σ ρ →
    Post g H μ (fun ds _ H' μ' => ∀ vs, VRs g.K H' μ' vs ds → Q vs H') (f ρ S) → t σ H Q
theorem fk_nil : FK X E [] nilA := ⟨_, pk_nil, fun g ρ S σ H μ Q hK hM hE hS hL hp => hp.here hS _ .nil⟩
theorem fk_cons {nm : Option Str} {kpos : Pos} {f : Sl → M D} {r : Sl → M (List D)} (ha : FE X E e f) (hr : FK X E kws r) : FK X E (⟨nm, e, kpos⟩ :: kws) (consA f r) := by
  obtain ⟨ta, pa, ha⟩ := ha
  obtain ⟨tr, pr, hr⟩ := hr
  refine ⟨_, pk_cons pa pr, fun g ρ S σ H μ Q hK hM hE hS hL hp => ?_⟩
  refine ha g ρ S σ H μ _ hK hM hE hS hL (hp.seq fun x S1 H1 μ1 s1 e1 p1 v rv => ?_)
  refine hr g ρ S1 σ H1 μ1 _ hK hM hE s1 (hL.ext e1) (p1.seq fun y S2 H2 μ2 s2 e2 p2 u ru => ?_)
  exact p2.here s2 _ (.cons (rv.ext e2) ru)
/-- f(k = v, ..): all by keywords -/
theorem pe_callKG {t : TA} {pm : List Nat} (Fn : FnG X.prog X.w X.K X.mg X.base k f fd ps F) (hgu : X.A.guards = some []) (hr : Room k X.A) (hm : X.mg x = some (.ref f)) (hk : PySem.W.keepIn X.K (.ref f) = true)
    (hb : BindsP X.K fd ps ks 0 pm) (hx : Passes (L2.CX X.prog X.w) X E) (ha : PK X kws t) (hg : Gl X x) (hdb : (x == ("__debug__" : Str)) = false) (hall : (backToKw pos (keywordEach kws X.env)).all (·.1.isSome) = true) (hks : (backToKw pos (keywordEach kws X.env)).filterMap (·.1) = ks)
    (hpl : ((backTo pos (starEach [] X.env)).any (·.1) || (backToKw pos (keywordEach kws X.env)).any (·.1.isNone)) = false) :
    PE X (.Call (.Name x p) [] kws pos) (fun σ H Q => t σ H fun vs H1 => vs.length = ks.length ∧ spF X.K X.mg ps.length F (permL pm vs) H1 Q E) := by
  refine ⟨fun pins s σ H Q I h => wpAny_Call_Name_kw (ld_glob I hg hm ?_ hdb)⟩
  refine PySem.W.callWith_KW0 (h₀ := X.base) I.ok.mod.kin hk hall (thn (ha.run pos pins s σ H _ I h) ?_) hpl
  rintro us s1 ⟨vs, H1, I1, r, hl, q⟩
  have hu : us.length = ks.length := by rw [← r.length]; exact hl
  have b := hb s1 [] us I1.kIn rfl hu
  rw [hks]
  exact ⟨I1.kIn, ep_of (run_fnG Fn hgu hr hx I1 (permL_paired r pm) b q)⟩
/-- f(e, .., k = v, ..) -/
theorem pe_callKWG {t tk : TA} {pm : List Nat} (Fn : FnG X.prog X.w X.K X.mg X.base k f fd ps F) (hgu : X.A.guards = some []) (hr : Room k X.A) (hm : X.mg x = some (.ref f)) (hk : PySem.W.keepIn X.K (.ref f) = true)
    (hb : BindsP X.K fd ps ks n pm) (hx : Passes (L2.CX X.prog X.w) X E) (hae : PA X (e :: es) t) (ha : PK X kws tk) (hg : Gl X x) (hdb : (x == ("__debug__" : Str)) = false) (hall : (backToKw pos (keywordEach kws X.env)).all (·.1.isSome) = true) (hks : (backToKw pos (keywordEach kws X.env)).filterMap (·.1) = ks)
    (he : starEach (e :: es) X.env = (false, eval e X.env) :: starEach es X.env) (hpl : ((backTo pos (starEach (e :: es) X.env)).any (·.1) || (backToKw pos (keywordEach kws X.env)).any (·.1.isNone)) = false) :
    PE X (.Call (.Name x p) (e :: es) kws pos) (fun σ H Q => t σ H fun vs H1 => tk σ H1 fun zs H2 => vs.length = n ∧ zs.length = ks.length ∧ spF X.K X.mg ps.length F (permL pm (vs ++ zs)) H2 Q E) := by
  refine ⟨fun pins s σ H Q I h => wpAny_Call_Name_kw (ld_glob I hg hm ?_ hdb)⟩
  refine PySem.W.callWith_KW (h₀ := X.base) I.ok.mod.kin hk hall (thn (hae.run pos pins s σ H _ I h) ?_) hpl he
  rintro us s1 ⟨vs, H1, I1, r, q⟩
  refine thn (ha.run pos pins s1 σ H1 _ I1 q) ?_
  rintro ws s2 ⟨zs, H2, I2, rz, h1, h2, q2⟩
  have b := hb s2 us ws I2.kIn (by rw [← r.length]; exact h1) (by rw [← rz.length]; exact h2)
  rw [hks]
  exact ⟨I2.kIn, ep_of (run_fnG Fn hgu hr hx I2 (permL_paired (r.append rz) pm) b q2)⟩
def callK (n m : Nat) (pm : List Nat) (F : List D → M D) (fk : Sl → M (List D)) : Sl → M D := fun ρ => fk ρ >>= fun ds => if ds.length = m ∧ (permL pm ds).length = n then F (permL pm ds) else stuck
theorem fe_callK {pm : List Nat} {lp lk : Nat} {fk : Sl → M (List D)} (Fn : FnG X.prog X.w X.K X.mg X.base k f fd ps F) (hgu : X.A.guards = some []) (hr : Room k X.A) (hm : X.mg x = some (.ref f)) (hk : PySem.W.keepIn X.K (.ref f) = true)
    (hb : BindsP X.K fd ps ks 0 pm) (hx : Passes (L2.CX X.prog X.w) X E) (ha : FK X E kws fk) (hg : Gl X x := by rfl) (hdb : (x == ("__debug__" : Str)) = false := by decide) (hall : (backToKw pos (keywordEach kws X.env)).all (·.1.isSome) = true := by rfl) (hks : (backToKw pos (keywordEach kws X.env)).filterMap (·.1) = ks := by rfl)
    (hpl : ((backTo pos (starEach [] X.env)).any (·.1) || (backToKw pos (keywordEach kws X.env)).any (·.1.isNone)) = false := by rfl) (hlp : ps.length = lp := by rfl) (hlk : ks.length = lk := by rfl) : FE X E (.Call (.Name x p) [] kws pos) (callK lp lk pm F fk) := by
  subst hlp hlk
  obtain ⟨t, pa, ha⟩ := ha
  refine ⟨_, pe_callKG Fn hgu hr hm hk hb hx pa hg hdb hall hks hpl, fun g ρ S σ H μ Q hK hM hE hS hL hp => ?_⟩
  refine ha g ρ S σ H μ _ hK hM hE hS hL (hp.seq fun ds S1 H1 μ1 s1 e1 p1 vs rv => ?_)
  split at p1
  · rename_i hl
    have := sp_of s1 (permL_paired rv pm) hl.2 p1
    rw [hK, hM, hE] at this
    exact ⟨by rw [rv.length]; exact hl.1, this⟩
  · exact p1.elim
def callKW (l n m : Nat) (pm : List Nat) (F : List D → M D) (fa fk : Sl → M (List D)) : Sl → M D := fun ρ => fa ρ >>= fun as => fk ρ >>= fun ds => if as.length = n ∧ ds.length = m ∧ (permL pm (as ++ ds)).length = l then F (permL pm (as ++ ds)) else stuck
theorem fe_callKW {pm : List Nat} {lp lk : Nat} {fa fk : Sl → M (List D)} (Fn : FnG X.prog X.w X.K X.mg X.base k f fd ps F) (hgu : X.A.guards = some []) (hr : Room k X.A) (hm : X.mg x = some (.ref f)) (hk : PySem.W.keepIn X.K (.ref f) = true)
    (hb : BindsP X.K fd ps ks n pm) (hx : Passes (L2.CX X.prog X.w) X E) (hae : FA X E (e :: es) fa) (ha : FK X E kws fk) (hg : Gl X x := by rfl) (hdb : (x == ("__debug__" : Str)) = false := by decide) (hall : (backToKw pos (keywordEach kws X.env)).all (·.1.isSome) = true := by rfl) (hks : (backToKw pos (keywordEach kws X.env)).filterMap (·.1) = ks := by rfl)
    (he : starEach (e :: es) X.env = (false, eval e X.env) :: starEach es X.env := by rfl) (hpl : ((backTo pos (starEach (e :: es) X.env)).any (·.1) || (backToKw pos (keywordEach kws X.env)).any (·.1.isNone)) = false := by rfl) (hlp : ps.length = lp := by rfl) (hlk : ks.length = lk := by rfl) : FE X E (.Call (.Name x p) (e :: es) kws pos) (callKW lp n lk pm F fa fk) := by
  subst hlp hlk
  obtain ⟨t, pa, hae⟩ := hae
  obtain ⟨tk, pk, ha⟩ := ha
  refine ⟨_, pe_callKWG Fn hgu hr hm hk hb hx pa pk hg hdb hall hks he hpl, fun g ρ S σ H μ Q hK hM hE hS hL hp => ?_⟩
  refine hae g ρ S σ H μ _ hK hM hE hS hL (hp.seq fun as S1 H1 μ1 s1 e1 p1 vs rv => ?_)
  refine ha g ρ S1 σ H1 μ1 _ hK hM hE s1 (hL.ext e1) (p1.seq fun ds S2 H2 μ2 s2 e2 p2 zs rz => ?_)
  split at p2
  · rename_i hl
    have := sp_of s2 (permL_paired (VRs.append (rv.ext e2) rz) pm) hl.2.2 p2
    rw [hK, hM, hE] at this
    exact ⟨by rw [rv.length]; exact hl.1, by rw [rz.length]; exact hl.2.1, this⟩
  · exact p2.elim
end
end Fx
end
section
namespace Fx
open PySem PySem.Spec PyProof.Rows L2 RZ RT
open Classical
section
variable {X : Cx} {E : XK}

/-! ### targets -/
def FG (X : Cx) (E : XK) (tg : Expr) (f : D → Sl → M Sl) : Prop :=
  ∃ t : TG, PG X tg t ∧ ∀ (g : G) (ρ : Sl) (S : Sto) (σ : L2.St) (H : Hp) (μ : List Addr) (d : D) (v : V) (Q : L2.St → Hp → Prop), g.K = X.K → g.mg = X.mg → g.E = E → SR g.K g.H0 g.μ0 S H μ → LR g.K H μ σ ρ → VR g.K H μ v d →
    Post g H μ (fun ρ' _ H' μ' => ∀ σ', LR g.K H' μ' σ' ρ' → Q σ' H') (f d ρ S) → t v σ H Q
def setN (i : Nat) : D → Sl → M Sl := fun d ρ => M.pure (ρ.set i (some d))
theorem fg_name {i : Nat} {x : Str} {pos : Pos} (hN : X.N.Nodup) (hi : X.N[i]? = some x := by rfl) (hx : Loc X.env.scope x := by first | exact Or.inl rfl | exact Or.inr rfl) (hf : X.fn x = true ∨ X.env.scope.names.lookup x = some .local := by first | exact .inl rfl | exact .inr rfl) : FG X E (.Name x pos) (setN i) :=
  ⟨_, pg_name hN hi hx hf, fun g ρ S σ H μ d v Q hK hM hE hS hL hv hp => hp.here hS _ (hL.set hv)⟩
def FGs (X : Cx) (E : XK) (tgs : List Expr) (f : List D → Sl → M Sl) : Prop :=
  ∃ t : TGs, PGs X tgs t ∧ ∀ (g : G) (ρ : Sl) (S : Sto) (σ : L2.St) (H : Hp) (μ : List Addr) (d : List D) (v : List V) (Q : L2.St → Hp → Prop), g.K = X.K → g.mg = X.mg → g.E = E → SR g.K g.H0 g.μ0 S H μ → LR g.K H μ σ ρ → VRs g.K H μ v d →
    Post g H μ (fun ρ' _ H' μ' => ∀ σ', LR g.K H' μ' σ' ρ' → Q σ' H') (f d ρ S) → t v σ H Q
def setNil : List D → Sl → M Sl := fun ds ρ => match ds with
  | [] => M.pure ρ
  | _ => stuck
def setCons (f : D → Sl → M Sl) (r : List D → Sl → M Sl) : List D → Sl → M Sl := fun ds ρ => match ds with
  | d :: ds => f d ρ >>= r ds
  | [] => stuck
theorem fgs_nil : FGs X E [] setNil := ⟨_, pgs_nil, fun g ρ S σ H μ d v Q hK hM hE hS hL hv hp => by
  cases hv with
  | nil => exact ⟨rfl, hp.here hS _ hL⟩
  | cons h hs => exact hp.elim⟩
theorem fgs_cons {e : Expr} {es : List Expr} {f : D → Sl → M Sl} {r : List D → Sl → M Sl} (h1 : FG X E e f) (h2 : FGs X E es r)
    (hs : (assignEach (e :: es) X.env).map (·.2) = assign e X.env :: (assignEach es X.env).map (·.2) := by rfl) : FGs X E (e :: es) (setCons f r) := by
  obtain ⟨t, p1, h1⟩ := h1
  obtain ⟨u, p2, h2⟩ := h2
  refine ⟨_, pgs_cons p1 p2 hs, fun g ρ S σ H μ d v Q hK hM hE hS hL hv hp => ?_⟩
  cases hv with
  | nil => exact hp.elim
  | cons rv rvs =>
    refine ⟨_, _, rfl, h1 g ρ S σ H μ _ _ _ hK hM hE hS hL rv (hp.seq fun ρ1 S1 H1 μ1 s1 e1 p1 σ1 l1 => ?_)⟩
    exact h2 g ρ1 S1 σ1 H1 μ1 _ _ Q hK hM hE s1 l1 (VRs.ext e1 rvs) p1
def setTup (n : Nat) (f : List D → Sl → M Sl) : D → Sl → M Sl := fun d ρ => match d with
  | .d (.tuple ps) => if ps.length = n then f (ps.map .d) ρ else stuck
  | _ => stuck
theorem fg_tup {es : List Expr} {k n : Nat} {pos : Pos} {f : List D → Sl → M Sl} (hc : X.calm = true) (h : FGs X E es f) (hn : (assignEach es X.env).length = n := by rfl) (hst : (assignEach es X.env).findIdx? (·.1) = none := by rfl) : FG X E (.Tuple es k pos) (setTup n f) := by
  obtain ⟨t, p, h⟩ := h
  refine ⟨_, pg_tup hc p hn hst, fun g ρ S σ H μ d v Q hK hM hE hS hL hv hp => ?_⟩
  unfold setTup at hp
  split at hp
  · rename_i ps
    split at hp
    · rename_i c
      obtain ⟨a, xs, rfl, h1, h2⟩ := VD.inv_tup hv
      exact ⟨a, xs, rfl, hK ▸ h1, by rw [h2.length]; exact c, h g ρ S σ H μ _ _ Q hK hM hE hS hL (VDs.vrs h2) hp⟩
    · exact hp.elim
  · exact hp.elim
/-- xs[i] = v -/
def putIx (a i v : D) : M Unit := fun S => match a, i with
  | .ob n, .d (.int k) => match S[n]? with
    | some (.lst xs) => match ixN xs.length k with
      | some j => .ok () (S.set n (.lst (xs.set j v)))
      | none => .stuck
    | _ => .stuck
  | _, _ => .stuck
def setIx (fo fi : Sl → M D) : D → Sl → M Sl := fun v ρ => fo ρ >>= fun o => fi ρ >>= fun i => putIx o i v >>= fun _ => M.pure ρ
theorem fg_sub {o i : Expr} {pos : Pos} {fo fi : Sl → M D} (ho : FE X E o fo) (hi : FE X E i fi)
    (ha : ∀ v, assign (.Subscript o i pos) X.env v = (do
      let ov ← holding [v] (eval o X.env)
      let iv ← holding [v, ov] (eval i X.env)
      standAt pos
      holding [v, ov, iv] (setItem ov iv v)
      release [v, ov, iv] []) := by intro _; rfl) : FG X E (.Subscript o i pos) (setIx fo fi) := by
  obtain ⟨to, po, ho⟩ := ho
  obtain ⟨ti, pi, hi⟩ := hi
  refine ⟨_, pg_sub po pi set_list ha, fun g ρ S σ H μ d v Q hK hM hE hS hL hv hp => ?_⟩
  refine ho g ρ S σ H μ _ hK hM hE hS hL (hp.seq fun x S1 H1 μ1 s1 e1 p1 u ru => ?_)
  refine hi g ρ S1 σ H1 μ1 _ hK hM hE s1 (hL.ext e1) (p1.seq fun y S2 H2 μ2 s2 e2 p2 w rw' => ?_)
  have h2 := p2.bind
  unfold putIx at h2
  split at h2
  · rename_i n k
    split at h2
    · rename_i xs q1
      split at h2
      · rename_i j q2
        obtain ⟨a, ea, rfl⟩ := ru.ext e2
        obtain ⟨vs, h3, h4⟩ := s2.lst ea q1
        have rv2 := (hv.ext e1).ext e2
        refine ⟨a, vs, k, j, rfl, VD.inv_int rw', h3, by rw [h4.length]; exact q2, ?_⟩
        have s3 := s2.put ea (ho := .lst (vs.set j v)) (o := .lst (xs.set j d)) (VRs.set rv2 j h4)
        exact (h2 _ _ s3 (s2.ext_put ea)).here s3 _ (hL.ext (e1.trans (e2.trans (s2.ext_put ea))))
      · exact h2.elim
    · exact h2.elim
  · exact h2.elim

/-! ### statements -/
def asg (f : Sl → M D) (t : D → Sl → M Sl) : Sl → M Oc := fun ρ => f ρ >>= fun d => t d ρ >>= fun ρ' => M.pure (.nx ρ')
theorem fs_asg {tg e : Expr} {pos : Pos} {f : Sl → M D} {t : D → Sl → M Sl} (he : FE X E e f) (hg : FG X E tg t) (hs : swapsWithSole [tg] e pos.line X.env = pure false := by rfl) (hw : swappedStores [tg] e X.env = pure none := by rfl)
    (h1 : (assignEach [tg] X.env).map (·.2) = [assign tg X.env] := by rfl) : FS X E (.Assign [tg] e pos) (asg f t) := by
  obtain ⟨te, pe, he⟩ := he
  obtain ⟨tt, pt, hg⟩ := hg
  refine ⟨_, ps_asg pe pt hs hw h1, fun g ρ S σ H μ Dn hK hM hE hS hL hp => ?_⟩
  refine he g ρ S σ H μ _ hK hM hE hS hL (hp.seq fun x S1 H1 μ1 s1 e1 p1 v rv => ?_)
  exact hg g ρ S1 σ H1 μ1 x v _ hK hM hE s1 (hL.ext e1) rv (p1.seq fun ρ2 S2 H2 μ2 s2 e2 p2 σ2 l2 => p2.here s2 _ l2)
def set1 (i : Nat) (f : Sl → M D) : Sl → M Oc := fun ρ => f ρ >>= fun d => M.pure (.nx (ρ.set i (some d)))
theorem fs_set {i : Nat} {x : Str} {e : Expr} {pos pos' : Pos} {f : Sl → M D} (hN : X.N.Nodup) (he : FE X E e f) (hi : X.N[i]? = some x := by rfl) (hx : Loc X.env.scope x := by first | exact Or.inl rfl | exact Or.inr rfl) (hs : swapsWith e (some (.Name x pos')) pos.line X.env = pure false := by rfl) (hf : X.fn x = true ∨ X.env.scope.names.lookup x = some .local := by first | exact .inl rfl | exact .inr rfl) :
    FS X E (.Assign [.Name x pos'] e pos) (set1 i f) := by
  obtain ⟨te, pe, he⟩ := he
  refine ⟨_, ps_set hN hi hx pe hs hf, fun g ρ S σ H μ Dn hK hM hE hS hL hp => ?_⟩
  exact he g ρ S σ H μ _ hK hM hE hS hL (hp.seq fun x S1 H1 μ1 s1 e1 p1 v rv => p1.here s1 _ ((hL.ext e1).set rv))
/-- a, b = x, y -/
def par2 (i j : Nat) (f : Sl → M (List D)) : Sl → M Oc := fun ρ => f ρ >>= fun ds => match ds with
  | [a, b] => M.pure (.nx ((ρ.set i (some a)).set j (some b)))
  | _ => stuck
theorem fs_par {i j : Nat} {x y : Str} {a b : Expr} {px py pt : Pos} {kt k2 pt2} {pos : Pos} {f : Sl → M (List D)} (hc : X.calm = true) (hN : X.N.Nodup) (ha : FA X E [a, b] f) (hi : X.N[i]? = some x := by rfl) (hj : X.N[j]? = some y := by rfl) (hij : i ≠ j := by decide)
    (hx : X.env.scope.names.lookup x = some .local := by rfl) (hy : X.env.scope.names.lookup y = some .local := by rfl) (hw : swappedStores [.Tuple [.Name x px, .Name y py] kt pt] (.Tuple [a, b] k2 pt2) X.env = pure (some [x, y]) := by rfl) (hs : swapsWithSole [.Tuple [.Name x px, .Name y py] kt pt] (.Tuple [a, b] k2 pt2) pos.line X.env = pure false := by rfl) : FS X E (.Assign [.Tuple [.Name x px, .Name y py] kt pt] (.Tuple [a, b] k2 pt2) pos) (par2 i j f) := by
  obtain ⟨ta, pa, ha⟩ := ha
  refine ⟨_, ps_par hc hN hi hj hij hx hy pa hw hs, fun g ρ S σ H μ Dn hK hM hE hS hL hp => ?_⟩
  refine ha g ρ S σ H μ _ hK hM hE hS hL (hp.seq fun ds S1 H1 μ1 s1 e1 p1 vs rv => ?_)
  split at p1
  · obtain ⟨v, u, rfl, r1, r2⟩ := vrs2 rv
    exact ⟨v, u, rfl, p1.here s1 _ (((hL.ext e1).set r1).set r2)⟩
  · exact p1.elim
/-- x op= e, of ints -/
def aug (i : Nat) (k : Int → Int → Int) (f : Sl → M D) : Sl → M Oc := fun ρ S => match ρ[i]? with
  | some (some (.d (.int a))) => (f ρ >>= isI >>= fun b => M.pure (.nx (ρ.set i (some (.d (.int (k a b))))))) S
  | _ => .stuck
theorem fs_augI {i : Nat} {x : Str} {e : Expr} {op : Operator} {pos pos' : Pos} {k : Int → Int → Int} {f : Sl → M D} (hN : X.N.Nodup) (he : FE X E e f) (ho : PIp X op (ipI k)) (hi : X.N[i]? = some x := by rfl) (hx : Loc X.env.scope x := by first | exact Or.inl rfl | exact Or.inr rfl) (hf : X.fn x = true ∨ X.env.scope.names.lookup x = some .local := by first | exact .inl rfl | exact .inr rfl) :
    FS X E (.AugAssign (.Name x pos') op e pos) (aug i k f) := by
  obtain ⟨te, pe, he⟩ := he
  refine ⟨_, ps_aug hN hi hx pe ho hf, fun g ρ S σ H μ Dn hK hM hE hS hL hp => ?_⟩
  unfold aug at hp
  split at hp
  · rename_i a q
    obtain ⟨v, e1, r⟩ := hL.2 i _ q
    have := VD.inv_int r
    subst this
    refine ⟨_, e1, he g ρ S σ H μ _ hK hM hE hS hL (hp.bind.seq fun x S1 H1 μ1 s1 e1 p1 v rv => ?_)⟩
    obtain ⟨b, rfl, p2⟩ := isI_inv p1
    exact ⟨a, b, rfl, VD.inv_int rv, (p2.here s1).here s1 _ ((hL.ext e1).set (.int _))⟩
  · exact hp.elim
def dropE (f : Sl → M D) : Sl → M Oc := fun ρ => f ρ >>= fun _ => M.pure (.nx ρ)
theorem fs_expr {e : Expr} {pos : Pos} {f : Sl → M D} (he : FE X E e f) (hs : swapsWith e none pos.line X.env = pure false := by rfl) : FS X E (.Expr e pos) (dropE f) := by
  obtain ⟨te, pe, he⟩ := he
  refine ⟨_, ps_expr pe hs, fun g ρ S σ H μ Dn hK hM hE hS hL hp => ?_⟩
  exact he g ρ S σ H μ _ hK hM hE hS hL (hp.seq fun x S1 H1 μ1 s1 e1 p1 v rv => p1.here s1 _ (hL.ext e1))
def ret (f : Sl → M D) : Sl → M Oc := fun ρ => f ρ >>= fun d => M.pure (.rt d)
theorem fs_ret {e : Expr} {pos : Pos} {f : Sl → M D} (he : FE X E e f) : FS X E (.Return (some e) pos) (ret f) := by
  obtain ⟨te, pe, he⟩ := he
  refine ⟨_, ps_ret pe, fun g ρ S σ H μ Dn hK hM hE hS hL hp => ?_⟩
  exact he g ρ S σ H μ _ hK hM hE hS hL (hp.seq fun x S1 H1 μ1 s1 e1 p1 v rv => p1.here s1 v rv)
theorem fs_retN {pos : Pos} : FS X E (.Return none pos) (fun _ => M.pure (.rt (.d .none))) := ⟨_, ps_retN, fun g ρ S σ H μ Dn hK hM hE hS hL hp => hp.here hS _ .non⟩
def skip : Sl → M Oc := fun ρ => M.pure (.nx ρ)
theorem fs_pass {pos : Pos} : FS X E (.Pass pos) skip := ⟨_, ps_pass, fun g ρ S σ H μ Dn hK hM hE hS hL hp => hp.here hS _ hL⟩
theorem fs_break {pos : Pos} : FS X E (.Break pos) (fun ρ => M.pure (.bk ρ)) := ⟨_, ps_break, fun g ρ S σ H μ Dn hK hM hE hS hL hp => hp.here hS _ hL⟩
theorem fs_continue {pos : Pos} : FS X E (.Continue pos) (fun ρ => M.pure (.ct ρ)) := ⟨_, ps_continue, fun g ρ S σ H μ Dn hK hM hE hS hL hp => hp.here hS _ hL⟩
/-- a statement that is not reached -/
theorem fs_never {st : Stmt} : FS X E st (fun _ => stuck) := ⟨_, ps_never, fun g ρ S σ H μ Dn hK hM hE hS hL hp => hp.elim⟩
theorem fss_nil : FSs X E [] skip := ⟨_, pss_nil, fun g ρ S σ H μ Dn hK hM hE hS hL hp => hp.here hS _ hL⟩
def seq (f h : Sl → M Oc) : Sl → M Oc := fun ρ => f ρ >>= fun o => match o with
  | .nx ρ' => h ρ'
  | o => M.pure o
theorem fss_cons {st : Stmt} {rest : List Stmt} {f h : Sl → M Oc} (h1 : FS X E st f) (h2 : FSs X E rest h) : FSs X E (st :: rest) (seq f h) := by
  obtain ⟨t, p, h1⟩ := h1
  obtain ⟨u, q, h2⟩ := h2
  refine ⟨_, pss_cons p q, fun g ρ S σ H μ Dn hK hM hE hS hL hp => ?_⟩
  refine h1 g ρ S σ H μ _ hK hM hE hS hL (hp.seq fun o S1 H1 μ1 s1 e1 p1 => ?_)
  cases o with
  | nx ρ' => exact fun σ' l => h2 g ρ' S1 σ' H1 μ1 Dn hK hM hE s1 l p1
  | rt d => exact fun v r => p1.here s1 v r
  | bk ρ' => exact fun σ' l => p1.here s1 σ' l
  | ct ρ' => exact fun σ' l => p1.here s1 σ' l
theorem fss_one {st : Stmt} {f : Sl → M Oc} (h1 : FS X E st f) : FSs X E [st] f := by
  obtain ⟨t, p, h1⟩ := h1
  exact ⟨t, pss_one p, h1⟩
def ifS (c : Sl → M Bool) (f h : Sl → M Oc) : Sl → M Oc := fun ρ => c ρ >>= fun b => if b = true then f ρ else h ρ
theorem fs_if {c : Expr} {a b : List Stmt} {pos : Pos} {fc : Sl → M Bool} {f h : Sl → M Oc} (hc : FT X E c fc) (ha : FSs X E a f) (hb : FSs X E b h) : FS X E (.If c a b pos) (ifS fc f h) := by
  obtain ⟨tc, pc, hc⟩ := hc
  obtain ⟨ta, pa, ha⟩ := ha
  obtain ⟨tb, pb, hb⟩ := hb
  refine ⟨_, ps_if pc pa pb, fun g ρ S σ H μ Dn hK hM hE hS hL hp => ?_⟩
  refine hc g ρ S σ H μ _ hK hM hE hS hL (hp.seq fun x S1 H1 μ1 s1 e1 p1 => ?_)
  cases x with
  | true => exact iteT (ha g ρ S1 σ H1 μ1 Dn hK hM hE s1 (hL.ext e1) p1)
  | false => exact iteF (hb g ρ S1 σ H1 μ1 Dn hK hM hE s1 (hL.ext e1) p1)

/-! ### while -/
def whileL (c : Sl → M Bool) (b : Sl → M Oc) : Nat → Sl → M Oc
  | 0 => fun _ => stuck
  | n + 1 => fun ρ => c ρ >>= fun k => if k = true then b ρ >>= fun o => match o with
      | .nx ρ' => whileL c b n ρ'
      | .ct ρ' => whileL c b n ρ'
      | .bk ρ' => M.pure (.nx ρ')
      | .rt d => M.pure (.rt d)
    else M.pure (.nx ρ)
/-- as many turns as it takes -/
noncomputable def whileW (c : Sl → M Bool) (b : Sl → M Oc) : Sl → M Oc := fun ρ S =>
  if h : ∃ n, whileL c b n ρ S ≠ .stuck then whileL c b h.choose ρ S else .stuck
theorem bind_ne {α β : Type} {m : M α} {k k' : α → M β} {S : Sto} (h : (m >>= k) S ≠ .stuck) (f : ∀ a S', m S = .ok a S' → k a S' ≠ .stuck → k' a S' = k a S') : (m >>= k') S = (m >>= k) S := by
  show (match m S with | .stuck => R.stuck | .ok a S' => k' a S' | .ex x S' => R.ex x S') = (match m S with | .stuck => R.stuck | .ok a S' => k a S' | .ex x S' => R.ex x S')
  have h' : (match m S with | .stuck => R.stuck | .ok a S' => k a S' | .ex x S' => R.ex x S') ≠ R.stuck := h
  cases q : m S with
  | stuck => rfl
  | ex x S' => rfl
  | ok a S' =>
    rw [q] at h'
    exact f a S' q h'
theorem whileL_mono (c : Sl → M Bool) (b : Sl → M Oc) : ∀ (n m : Nat) (ρ : Sl) (S : Sto), n ≤ m → whileL c b n ρ S ≠ .stuck → whileL c b m ρ S = whileL c b n ρ S
  | 0, _, _, _, _, h => absurd rfl h
  | n + 1, 0, _, _, l, _ => absurd l (by omega)
  | n + 1, m + 1, ρ, S, l, h => by
    refine bind_ne h fun k S1 _ hk => ?_
    cases k with
    | false => rfl
    | true =>
      have hk' : (b ρ >>= fun o => match o with
        | .nx ρ' => whileL c b n ρ'
        | .ct ρ' => whileL c b n ρ'
        | .bk ρ' => M.pure (.nx ρ')
        | .rt d => M.pure (.rt d)) S1 ≠ .stuck := hk
      refine bind_ne hk' fun o S2 _ ho => ?_
      cases o with
      | nx ρ' => exact whileL_mono c b n m ρ' S2 (by omega) ho
      | ct ρ' => exact whileL_mono c b n m ρ' S2 (by omega) ho
      | bk ρ' => rfl
      | rt d => rfl
theorem whileW_eq {c : Sl → M Bool} {b : Sl → M Oc} {ρ : Sl} {S : Sto} (n : Nat) (h : whileL c b n ρ S ≠ .stuck) : whileW c b ρ S = whileL c b n ρ S := by
  have hx : ∃ n, whileL c b n ρ S ≠ .stuck := ⟨n, h⟩
  unfold whileW
  rw [dif_pos hx]
  have hc := hx.choose_spec
  rcases Nat.le_total hx.choose n with l | l
  · exact (whileL_mono c b _ n ρ S l hc).symm
  · exact whileL_mono c b n _ ρ S l h
theorem fs_while {c : Expr} {body : List Stmt} {pos : Pos} {fc : Sl → M Bool} {fb : Sl → M Oc} (hp : PassesOwn (model X.prog X.w) X.A X.env X.xe) (hc : FT X E c fc) (hb : FSs X E body fb) : FS X E (.While c body [] pos) (whileW fc fb) := by
  obtain ⟨tc, pc, hc⟩ := hc
  obtain ⟨tb, pb, hb⟩ := hb
  refine ⟨_, ps_while hp pc pb, fun g ρ S σ H μ Dn hK hM hE hS hL hpo => ?_⟩
  unfold whileW at hpo
  split at hpo
  · rename_i hx
    refine ⟨fun n σ H => ∃ ρ S μ, SR g.K g.H0 g.μ0 S H μ ∧ LR g.K H μ σ ρ ∧ Post g H μ (OQ g.K Dn) (whileL fc fb n ρ S), ⟨_, ρ, S, μ, hS, hL, hpo⟩, ?_⟩
    rintro n σ H ⟨ρ, S, μ, hS, hL, hpo⟩
    cases n with
    | zero => exact hpo.elim
    | succ n =>
      refine hc g ρ S σ H μ _ hK hM hE hS hL (hpo.seq fun k S1 H1 μ1 s1 e1 p1 => ?_)
      cases k with
      | false => exact iteF (p1.here s1 _ (hL.ext e1))
      | true =>
        refine iteT ⟨fun σ H => ∃ ρ S μ, SR g.K g.H0 g.μ0 S H μ ∧ LR g.K H μ σ ρ ∧ Post g H μ (OQ g.K Dn) (whileL fc fb n ρ S), fun σ' H' h => ⟨n, by omega, h⟩, ?_⟩
        refine hb g ρ S1 σ H1 μ1 _ hK hM hE s1 (hL.ext e1) (p1.seq fun o S2 H2 μ2 s2 e2 p2 => ?_)
        cases o with
        | nx ρ' => exact fun σ' l => ⟨ρ', S2, μ2, s2, l, p2⟩
        | ct ρ' => exact fun σ' l => ⟨ρ', S2, μ2, s2, l, p2⟩
        | bk ρ' => exact fun σ' l => p2.here s2 _ l
        | rt d => exact fun v r => p2.here s2 v r
  · exact hpo.elim

/-! ### what is walked -/
def ItOk (K : PySem.W.Frag) (J : It) (items : List D) (gd : Sto → Prop) (H : Hp) (μ : List Addr) : Prop :=
  ∀ (H0 : Hp) (μ0 : List Addr) (i : Nat) (S : Sto) (H1 : Hp) (μ1 : List Addr), SR K H0 μ0 S H1 μ1 → Ext H μ H1 μ1 → gd S →
    (∀ x, items[i]? = some x → J.go i H1 ∧ ∀ v H2, J.yld i H1 v H2 → SR K H0 μ0 S H2 μ1 ∧ Ext H1 μ1 H2 μ1 ∧ VR K H2 μ1 v x) ∧ (items[i]? = none → J.stop i H1)
def FI (X : Cx) (E : XK) (tg iter : Expr) (f : Sl → M (List D × (Sto → Prop))) : Prop :=
  ∃ wi : TI, PI X tg iter wi ∧ ∀ (g : G) (ρ : Sl) (S : Sto) (σ : L2.St) (H : Hp) (μ : List Addr) (R : It → Hp → Prop), g.K = X.K → g.mg = X.mg → g.E = E → SR g.K g.H0 g.μ0 S H μ → LR g.K H μ σ ρ →
    Post g H μ (fun p _ H' μ' => ∀ J, ItOk g.K J p.1 p.2 H' μ' → R J H') (f ρ S) → wi σ H R
def freeG : Sto → Prop := fun _ => True
/-- a source: the list (tuple) at a holds ds at all times -/
def Src (Sq : Hp → Addr → List V → Prop) (K : PySem.W.Frag) (a : Addr) (ds : List D) (gd : Sto → Prop) (H : Hp) (μ : List Addr) : Prop :=
  ∀ (H0 : Hp) (μ0 : List Addr) (S : Sto) (H1 : Hp) (μ1 : List Addr), SR K H0 μ0 S H1 μ1 → Ext H μ H1 μ1 → gd S → ∃ vs, Sq H1 a vs ∧ VRs K H1 μ1 vs ds
/-- a list, a tuple that is walked, and what must stand still -/
def srcL (S : Sto) : D → Option (List D × (Sto → Prop))
  | .d (.list ds) => some (ds.map .d, freeG)
  | .ob n => match S[n]? with
    | some (.lst l) => some (l, fun S => S[n]? = some (.lst l))
    | _ => none
  | _ => none
def srcT : D → Option (List D × (Sto → Prop))
  | .d (.tuple ds) => some (ds.map .d, freeG)
  | _ => none
theorem SR.srcL {K : PySem.W.Frag} {H0 H : Hp} {μ0 μ : List Addr} {S : Sto} (s : SR K H0 μ0 S H μ) {v : V} {x : D} {ds : List D} {gd : Sto → Prop} (r : VR K H μ v x) (e : Fx.srcL S x = some (ds, gd)) :
    ∃ a, v = .ref a ∧ (∃ vs, SqL K H a vs ∧ vs.length = ds.length) ∧ Src (fun H a vs => SqL K H a vs) K a ds gd H μ := by
  unfold Fx.srcL at e
  split at e
  · cases e
    obtain ⟨a, xs, rfl, h1, h2⟩ := VD.inv_lst r
    exact ⟨a, rfl, ⟨xs, h1.sq, by rw [h2.length, List.length_map]⟩, fun H0 μ0 S1 H1 μ1 s1 e1 _ => ⟨xs, (e1.1.fzL h1).sq, VDs.vrs (h2.keep e1.1)⟩⟩
  · split at e
    · rename_i n l q
      cases e
      obtain ⟨a, ea, rfl⟩ := r
      obtain ⟨vs, h1, h2⟩ := s.lst ea q
      refine ⟨a, rfl, ⟨vs, .inl (.inl h1), h2.length⟩, fun H0 μ0 S1 H1 μ1 s1 e1 gd => ?_⟩
      obtain ⟨vs2, h3, h4⟩ := s1.lst (pre_get e1.2 ea) gd
      exact ⟨vs2, .inl (.inl h3), h4⟩
    · cases e
  · cases e
theorem SR.srcT {K : PySem.W.Frag} {H0 H : Hp} {μ0 μ : List Addr} {S : Sto} (s : SR K H0 μ0 S H μ) {v : V} {x : D} {ds : List D} {gd : Sto → Prop} (r : VR K H μ v x) (e : Fx.srcT x = some (ds, gd)) :
    ∃ a, v = .ref a ∧ (∃ vs, SqT K H a vs ∧ vs.length = ds.length) ∧ Src (fun H a vs => SqT K H a vs) K a ds gd H μ := by
  unfold Fx.srcT at e
  split at e
  · cases e
    obtain ⟨a, xs, rfl, h1, h2⟩ := VD.inv_tup r
    exact ⟨a, rfl, ⟨xs, h1, by rw [h2.length, List.length_map]⟩, fun H0 μ0 S1 H1 μ1 s1 e1 _ => ⟨xs, e1.1.sqT h1, VDs.vrs (h2.keep e1.1)⟩⟩
  · cases e
theorem VRs.none_of {K : PySem.W.Frag} {H : Hp} {μ : List Addr} {v : List V} {d : List D} {i : Nat} (h : VRs K H μ v d) (e : d[i]? = none) : v.length ≤ i := by
  rw [List.getElem?_eq_none_iff] at e
  rw [h.length]; exact e
theorem itOk_l {K : PySem.W.Frag} {a : Addr} {ds : List D} {gd : Sto → Prop} {H : Hp} {μ : List Addr} (h : Src (fun H a vs => SqL K H a vs) K a ds gd H μ) : ItOk K (Itl K a) ds gd H μ := fun H0 μ0 i S H1 μ1 s1 e1 g1 => by
  obtain ⟨vs, q, rv⟩ := h H0 μ0 S H1 μ1 s1 e1 g1
  refine ⟨fun x ex => ?_, fun ex => ⟨vs, q, rv.none_of ex⟩⟩
  obtain ⟨u, e3, r3⟩ := rv.get i ex
  refine ⟨⟨vs, u, q, e3⟩, fun v H3 y => ?_⟩
  obtain ⟨rfl, fv⟩ := y
  have := (fv vs q).symm.trans e3
  cases this
  exact ⟨s1, Ext.refl _ _, r3⟩
theorem itOk_t {K : PySem.W.Frag} {a : Addr} {ds : List D} {gd : Sto → Prop} {H : Hp} {μ : List Addr} (h : Src (fun H a vs => SqT K H a vs) K a ds gd H μ) : ItOk K (Itt K a) ds gd H μ := fun H0 μ0 i S H1 μ1 s1 e1 g1 => by
  obtain ⟨vs, q, rv⟩ := h H0 μ0 S H1 μ1 s1 e1 g1
  refine ⟨fun x ex => ?_, fun ex => ⟨vs, q, rv.none_of ex⟩⟩
  obtain ⟨u, e3, r3⟩ := rv.get i ex
  refine ⟨⟨vs, u, q, e3⟩, fun v H3 y => ?_⟩
  obtain ⟨rfl, fv⟩ := y
  have := (fv vs q).symm.trans e3
  cases this
  exact ⟨s1, Ext.refl _ _, r3⟩
def itemsL (d : D) : M (List D × (Sto → Prop)) := fun S => match srcL S d with
  | some p => .ok p S
  | none => .stuck
def itemsT (d : D) : M (List D × (Sto → Prop)) := fun S => match srcT d with
  | some p => .ok p S
  | none => .stuck
def walk (it : D → M (List D × (Sto → Prop))) (f : Sl → M D) : Sl → M (List D × (Sto → Prop)) := fun ρ => f ρ >>= it
theorem fi_list {tg l : Expr} {f : Sl → M D} (h : FE X E l f) : FI X E tg l (walk itemsL f) := by
  obtain ⟨t, p, h⟩ := h
  refine ⟨_, pi_list p, fun g ρ S σ H μ R hK hM hE hS hL hp => ?_⟩
  refine h g ρ S σ H μ _ hK hM hE hS hL (hp.seq fun x S1 H1 μ1 s1 e1 p1 v rv => ?_)
  unfold itemsL at p1
  split at p1
  · rename_i q e
    obtain ⟨a, rfl, ⟨vs, h1, _⟩, src⟩ := s1.srcL rv e
    exact ⟨a, rfl, ⟨vs, hK ▸ h1⟩, hK ▸ p1.here s1 _ (itOk_l src)⟩
  · exact p1.elim
theorem fi_tup {tg l : Expr} {f : Sl → M D} (h : FE X E l f) : FI X E tg l (walk itemsT f) := by
  obtain ⟨t, p, h⟩ := h
  refine ⟨_, pi_tup p, fun g ρ S σ H μ R hK hM hE hS hL hp => ?_⟩
  refine h g ρ S σ H μ _ hK hM hE hS hL (hp.seq fun x S1 H1 μ1 s1 e1 p1 v rv => ?_)
  unfold itemsT at p1
  split at p1
  · rename_i q e
    obtain ⟨a, rfl, ⟨vs, h1, _⟩, src⟩ := s1.srcT rv e
    exact ⟨a, rfl, ⟨vs, hK ▸ h1⟩, hK ▸ p1.here s1 _ (itOk_t src)⟩
  · exact p1.elim
def rangeD (lo : Int) (n : Nat) : List D := (List.range n).map fun i => .d (.int (lo + (i : Nat)))
def okB (i : Int) : Prop := -(2 ^ 62) ≤ i ∧ i < 2 ^ 62
instance (i : Int) : Decidable (okB i) := inferInstanceAs (Decidable (_ ∧ _))
theorem rangeD_get (lo : Int) (n i : Nat) : (rangeD lo n)[i]? = if i < n then some (.d (.int (lo + (i : Nat)))) else none := by
  unfold rangeD
  rw [List.getElem?_map]
  by_cases h : i < n
  · rw [if_pos h, List.getElem?_range h]; rfl
  · rw [if_neg h, List.getElem?_eq_none (by simpa using h)]; rfl
theorem itOk_range {K : PySem.W.Frag} {lo : Int} {n : Nat} {H : Hp} {μ : List Addr} : ItOk K (Itr lo n) (rangeD lo n) freeG H μ := fun H0 μ0 i S H1 μ1 s1 e1 _ => by
  rw [rangeD_get]
  refine ⟨fun x ex => ?_, fun ex => ?_⟩
  · split at ex
    · rename_i h
      cases ex
      refine ⟨h, fun v H2 y => ?_⟩
      obtain ⟨rfl, rfl⟩ := y
      exact ⟨s1, Ext.refl _ _, .int _⟩
    · cases ex
  · split at ex
    · cases ex
    · rename_i h
      exact Nat.le_of_not_lt h
def itemsR1 (ds : List D) : M (List D × (Sto → Prop)) := fun S => match ds with
  | [.d (.int j)] => if okB j then .ok (rangeD 0 j.toNat, freeG) S else .stuck
  | _ => .stuck
def itemsR2 (ds : List D) : M (List D × (Sto → Prop)) := fun S => match ds with
  | [.d (.int i), .d (.int j)] => if okB i ∧ okB j then .ok (rangeD i (j - i).toNat, freeG) S else .stuck
  | _ => .stuck
theorem fi_range1 {tg a : Expr} {p pos : Pos} {f : Sl → M (List D)} (hm : X.mg "range" = none) (h : FA X E [a] f) (hg : Gl X "range" := by rfl) (hs : starEach [a] X.env = [(false, eval a X.env)] := by rfl) : FI X E tg (.Call (.Name "range" p) [a] [] pos) (fun ρ => f ρ >>= itemsR1) := by
  obtain ⟨t, pa, h⟩ := h
  refine ⟨_, pi_range1 hg hm pa hs, fun g ρ S σ H μ R hK hM hE hS hL hp => ?_⟩
  refine h g ρ S σ H μ _ hK hM hE hS hL (hp.seq fun ds S1 H1 μ1 s1 e1 p1 vs rv => ?_)
  unfold itemsR1 at p1
  split at p1
  · split at p1
    · rename_i c
      obtain ⟨v, rfl, r1⟩ := vrs1 rv
      rw [VD.inv_int r1]
      exact ⟨_, rfl, c.1, c.2, p1.here s1 _ itOk_range⟩
    · exact p1.elim
  · exact p1.elim
theorem fi_range2 {tg a b : Expr} {p pos : Pos} {f : Sl → M (List D)} (hm : X.mg "range" = none) (h : FA X E [a, b] f) (hg : Gl X "range" := by rfl) (hs : starEach [a, b] X.env = [(false, eval a X.env), (false, eval b X.env)] := by rfl) (hs2 : starEach [b] X.env = [(false, eval b X.env)] := by rfl) : FI X E tg (.Call (.Name "range" p) [a, b] [] pos) (fun ρ => f ρ >>= itemsR2) := by
  obtain ⟨t, pa, h⟩ := h
  refine ⟨_, pi_range2 hg hm pa hs hs2, fun g ρ S σ H μ R hK hM hE hS hL hp => ?_⟩
  refine h g ρ S σ H μ _ hK hM hE hS hL (hp.seq fun ds S1 H1 μ1 s1 e1 p1 vs rv => ?_)
  unfold itemsR2 at p1
  split at p1
  · split at p1
    · rename_i c
      obtain ⟨v, u, rfl, r1, r2⟩ := vrs2 rv
      rw [VD.inv_int r1, VD.inv_int r2]
      exact ⟨_, _, rfl, ⟨c.1.1, c.1.2, c.2.1, c.2.2⟩, p1.here s1 _ itOk_range⟩
    · exact p1.elim
  · exact p1.elim
/-- enumerate(a list of data) -/
def enumD (ps : List PyData) : List D := ps.mapIdx fun i p => .d (.tuple [.int (i : Nat), p])
theorem enumD_get (ps : List PyData) (i : Nat) : (enumD ps)[i]? = (ps[i]?).map fun p => .d (.tuple [.int (i : Nat), p]) := by
  unfold enumD
  rw [List.getElem?_mapIdx]
theorem pys_get : ∀ {ds : List D} {ps : List PyData} (i : Nat), pys ds = some ps → ds[i]? = (ps[i]?).map .d
  | [], _, i, e => by simp [pys] at e; subst e; simp
  | .d p :: r, _, i, e => by
    simp only [pys, Option.map_eq_some_iff] at e
    obtain ⟨q, e1, e2⟩ := e
    subst e2
    cases i with
    | zero => rfl
    | succ i => simpa using pys_get i e1
  | .ob n :: r, _, i, e => by simp [pys] at e
def itemsE (ds : List D) : M (List D × (Sto → Prop)) := fun S => match ds with
  | [x] => match srcL S x with
    | some (l, gd) => match pys l with
      | some ps => .ok (enumD ps, gd) S
      | none => .stuck
    | none => .stuck
  | _ => .stuck
theorem vrs_some {K : PySem.W.Frag} {H : Hp} {μ : List Addr} {vs : List V} {l : List D} {ps : List PyData} {i : Nat} {p : PyData} (h : VRs K H μ vs l) (e : pys l = some ps) (q : ps[i]? = some p) : ∃ u, vs[i]? = some u ∧ VD K H u p := by
  obtain ⟨u, h1, h2⟩ := h.get i (x := .d p) (by rw [pys_get i e, q]; rfl)
  exact ⟨u, h1, h2⟩
theorem fi_enum {e : Expr} {kk : Nat} {p pos tpos : Pos} {elts : List Expr} {f : Sl → M (List D)} (hm : X.mg "enumerate" = none) (h : FA X E [e] f) (hg : Gl X "enumerate" := by rfl) (hs : starEach [e] X.env = [(false, eval e X.env)] := by rfl) :
    FI X E (.Tuple elts kk tpos) (.Call (.Name "enumerate" p) [e] [] pos) (fun ρ => f ρ >>= itemsE) := by
  obtain ⟨t, pa, h⟩ := h
  refine ⟨_, pi_enum hg hm pa hs, fun g ρ S σ H μ R hK hM hE hS hL hp => ?_⟩
  refine h g ρ S σ H μ _ hK hM hE hS hL (hp.seq fun ds S1 H1 μ1 s1 e1 p1 vs rv => ?_)
  unfold itemsE at p1
  split at p1
  · split at p1
    · rename_i l gd q
      split at p1
      · rename_i ps q2
        obtain ⟨v, rfl, r1⟩ := vrs1 rv
        obtain ⟨a, rfl, ⟨vs, h1, _⟩, src⟩ := s1.srcL r1 q
        refine ⟨a, vs, rfl, hK ▸ h1, hK ▸ p1.here s1 _ fun H0 μ0 i S2 H2 μ2 s2 e2 g2 => ?_⟩
        obtain ⟨ws, hq, rw'⟩ := src H0 μ0 S2 H2 μ2 s2 e2 g2
        rw [enumD_get]
        refine ⟨fun x ex => ?_, fun ex => ⟨ws, hq, rw'.none_of ?_⟩⟩
        · cases q3 : ps[i]? with
          | none => rw [q3] at ex; cases ex
          | some y =>
            rw [q3] at ex; cases ex
            obtain ⟨u, e3, r3⟩ := vrs_some rw' q2 q3
            refine ⟨⟨ws, u, hq, e3⟩, fun v H3 y => ?_⟩
            obtain ⟨T, x, rfl, nT, rfl, fv⟩ := y
            have := (fv ws hq).symm.trans e3
            cases this
            exact ⟨s2.aside nT, ext_aside nT, .tup (SqT.of upd_same) (.cons (.int _) (.cons (r3.keep (keep_new nT)) .nil))⟩
        · rw [pys_get i q2]
          cases q3 : ps[i]? with
          | none => rfl
          | some y => rw [q3] at ex; cases ex
      · exact p1.elim
    · exact p1.elim
  · exact p1.elim
/-- zip of two lists, of two tuples -/
def zipD (ps qs : List PyData) : List D := (ps.zip qs).map fun p => .d (.tuple [p.1, p.2])
theorem zipD_get : ∀ (ps qs : List PyData) (i : Nat), (zipD ps qs)[i]? = match ps[i]?, qs[i]? with
    | some p, some q => some (.d (.tuple [p, q]))
    | _, _ => none
  | [], qs, i => by simp [zipD]
  | p :: ps, [], i => by cases h : (p :: ps)[i]? <;> simp [zipD]
  | p :: ps, q :: qs, 0 => rfl
  | p :: ps, q :: qs, i + 1 => by simpa [zipD] using zipD_get ps qs i
def itemsZ (ds : List D) : M (List D × (Sto → Prop)) := fun S => match ds with
  | [.d (.tuple ps), .d (.tuple qs)] => .ok (zipD ps qs, freeG) S
  | [x, y] => match srcL S x, srcL S y with
    | some (l, gd), some (m, gd') => match pys l, pys m with
      | some ps, some qs => .ok (zipD ps qs, fun S => gd S ∧ gd' S) S
      | _, _ => .stuck
    | _, _ => .stuck
  | _ => .stuck
theorem itOk_z {K : PySem.W.Frag} {a b : Addr} {l m : List D} {ps qs : List PyData} {gd gd' : Sto → Prop} {H : Hp} {μ : List Addr} (h : Src (fun H a vs => SqL K H a vs) K a l gd H μ) (h' : Src (fun H a vs => SqL K H a vs) K b m gd' H μ) (e : pys l = some ps) (e' : pys m = some qs) :
    ItOk K (Itz K a b) (zipD ps qs) (fun S => gd S ∧ gd' S) H μ := fun H0 μ0 i S2 H2 μ2 s2 e2 g2 => by
  obtain ⟨ws, hq, rw'⟩ := h H0 μ0 S2 H2 μ2 s2 e2 g2.1
  obtain ⟨us, hq', rw2⟩ := h' H0 μ0 S2 H2 μ2 s2 e2 g2.2
  rw [zipD_get]
  refine ⟨fun x ex => ?_, fun ex => ⟨ws, us, hq, hq', ?_⟩⟩
  · split at ex
    · rename_i p q e3 e4
      cases ex
      obtain ⟨u, e5, r5⟩ := vrs_some rw' e e3
      obtain ⟨u', e6, r6⟩ := vrs_some rw2 e' e4
      refine ⟨⟨ws, us, u, u', hq, hq', e5, e6⟩, fun v H3 y => ?_⟩
      obtain ⟨T, x, y, rfl, nT, rfl, fv, fw⟩ := y
      have := (fv ws hq).symm.trans e5
      cases this
      have := (fw us hq').symm.trans e6
      cases this
      exact ⟨s2.aside nT, ext_aside nT, .tup (SqT.of upd_same) (.cons (r5.keep (keep_new nT)) (.cons (r6.keep (keep_new nT)) .nil))⟩
    · cases ex
  · cases q3 : ps[i]? with
    | none => exact .inl (rw'.none_of (by rw [pys_get i e, q3]; rfl))
    | some y =>
      cases q4 : qs[i]? with
      | none => exact .inr (rw2.none_of (by rw [pys_get i e', q4]; rfl))
      | some z => rw [q3, q4] at ex; cases ex
theorem itOk_zT {K : PySem.W.Frag} {a b : Addr} {l m : List D} {ps qs : List PyData} {gd gd' : Sto → Prop} {H : Hp} {μ : List Addr} (h : Src (fun H a vs => SqT K H a vs) K a l gd H μ) (h' : Src (fun H a vs => SqT K H a vs) K b m gd' H μ) (e : pys l = some ps) (e' : pys m = some qs) :
    ItOk K (ItzT K a b) (zipD ps qs) (fun S => gd S ∧ gd' S) H μ := fun H0 μ0 i S2 H2 μ2 s2 e2 g2 => by
  obtain ⟨ws, hq, rw'⟩ := h H0 μ0 S2 H2 μ2 s2 e2 g2.1
  obtain ⟨us, hq', rw2⟩ := h' H0 μ0 S2 H2 μ2 s2 e2 g2.2
  rw [zipD_get]
  refine ⟨fun x ex => ?_, fun ex => ⟨ws, us, hq, hq', ?_⟩⟩
  · split at ex
    · rename_i p q e3 e4
      cases ex
      obtain ⟨u, e5, r5⟩ := vrs_some rw' e e3
      obtain ⟨u', e6, r6⟩ := vrs_some rw2 e' e4
      refine ⟨⟨ws, us, u, u', hq, hq', e5, e6⟩, fun v H3 y => ?_⟩
      obtain ⟨T, x, y, rfl, nT, rfl, fv, fw⟩ := y
      have := (fv ws hq).symm.trans e5
      cases this
      have := (fw us hq').symm.trans e6
      cases this
      exact ⟨s2.aside nT, ext_aside nT, .tup (SqT.of upd_same) (.cons (r5.keep (keep_new nT)) (.cons (r6.keep (keep_new nT)) .nil))⟩
    · cases ex
  · cases q3 : ps[i]? with
    | none => exact .inl (rw'.none_of (by rw [pys_get i e, q3]; rfl))
    | some y =>
      cases q4 : qs[i]? with
      | none => exact .inr (rw2.none_of (by rw [pys_get i e', q4]; rfl))
      | some z => rw [q3, q4] at ex; cases ex
theorem pys_map (ps : List PyData) : pys (ps.map .d) = some ps := by
  induction ps with
  | nil => rfl
  | cons a l ih => simp [pys, ih]
theorem ItOk.imp {K : PySem.W.Frag} {J : It} {items : List D} {gd gd' : Sto → Prop} {H : Hp} {μ : List Addr} (h : ItOk K J items gd H μ) (f : ∀ S, gd' S → gd S) : ItOk K J items gd' H μ := fun H0 μ0 i S H1 μ1 s e g => h H0 μ0 i S H1 μ1 s e (f S g)
theorem fi_zip {e e2 : Expr} {kk : Nat} {p pos tpos : Pos} {elts : List Expr} {f : Sl → M (List D)} (hm : X.mg "zip" = none) (h : FA X E [e, e2] f) (hg : Gl X "zip" := by rfl)
    (hs : starEach [e, e2] X.env = (false, eval e X.env) :: starEach [e2] X.env := by rfl) (hpl : (backTo pos (starEach [e2] X.env)).any (·.1) = false := by rfl) :
    FI X E (.Tuple elts kk tpos) (.Call (.Name "zip" p) [e, e2] [] pos) (fun ρ => f ρ >>= itemsZ) := by
  obtain ⟨t, pa, h⟩ := h
  refine ⟨_, pi_zipA hg hm pa hs hpl, fun g ρ S σ H μ R hK hM hE hS hL hp => ?_⟩
  refine h g ρ S σ H μ _ hK hM hE hS hL (hp.seq fun ds S1 H1 μ1 s1 e1 p1 vs rv => ?_)
  unfold itemsZ at p1
  split at p1
  · rename_i ps qs
    obtain ⟨v, u, rfl, r1, r2⟩ := vrs2 rv
    obtain ⟨a, rfl, ⟨vs, h1, _⟩, src⟩ := s1.srcT r1 (ds := ps.map .d) (gd := freeG) rfl
    obtain ⟨b, rfl, ⟨ws, h2, _⟩, src2⟩ := s1.srcT r2 (ds := qs.map .d) (gd := freeG) rfl
    exact ⟨a, b, vs, ws, rfl, .inr ⟨hK ▸ h1, hK ▸ h2, hK ▸ p1.here s1 _ ((itOk_zT src src2 (pys_map _) (pys_map _)).imp fun _ _ => ⟨trivial, trivial⟩)⟩⟩
  · split at p1
    · rename_i l gd m gd' q q2
      split at p1
      · rename_i ps qs q3 q4
        obtain ⟨v, u, rfl, r1, r2⟩ := vrs2 rv
        obtain ⟨a, rfl, ⟨vs, h1, _⟩, src⟩ := s1.srcL r1 q
        obtain ⟨b, rfl, ⟨ws, h2, _⟩, src2⟩ := s1.srcL r2 q2
        exact ⟨a, b, vs, ws, rfl, .inl ⟨hK ▸ h1, hK ▸ h2, hK ▸ p1.here s1 _ (itOk_z src src2 q3 q4)⟩⟩
      · exact p1.elim
    · exact p1.elim
  · exact p1.elim
/-- reversed(a list or tuple) -/
def itemsV (x : D) : M (List D × (Sto → Prop)) := fun S => match srcT x with
  | some p => .ok (p.1.reverse, p.2) S
  | none => match srcL S x with
    | some p => .ok (p.1.reverse, p.2) S
    | none => .stuck
theorem fi_rev {tg e : Expr} {p pos : Pos} {f : Sl → M D} (hm : X.mg "reversed" = none) (h : FE X E e f) (hg : Gl X "reversed" := by rfl) (hs : starEach [e] X.env = (false, eval e X.env) :: starEach [] X.env := by rfl) : FI X E tg (.Call (.Name "reversed" p) [e] [] pos) (walk itemsV f) := by
  obtain ⟨t, pe, h⟩ := h
  refine ⟨_, pi_revA hg hm pe hs, fun g ρ S σ H μ R hK hM hE hS hL hp => ?_⟩
  refine h g ρ S σ H μ _ hK hM hE hS hL (hp.seq fun x S1 H1 μ1 s1 e1 p1 v rv => ?_)
  have key : ∀ {ds : List D} {i n : Nat}, n = ds.length → ds.reverse[i]? = if i < n then ds[n - 1 - i]? else none := fun {ds i n} hn => by
    subst hn
    by_cases hi : i < ds.length
    · rw [if_pos hi, List.getElem?_reverse hi]
    · rw [if_neg hi, List.getElem?_eq_none (by simpa using hi)]
  unfold itemsV at p1
  split at p1
  · rename_i q e
    obtain ⟨ds, gd⟩ := q
    obtain ⟨a, rfl, ⟨vs, h1, hl⟩, src⟩ := s1.srcT rv e
    refine ⟨a, vs, rfl, .inr ⟨hK ▸ h1, hK ▸ p1.here s1 _ fun H0 μ0 i S2 H2 μ2 s2 e2 g2 => ?_⟩⟩
    obtain ⟨ws, hq, rw'⟩ := src H0 μ0 S2 H2 μ2 s2 e2 g2
    show (∀ x, ds.reverse[i]? = some x → _) ∧ (ds.reverse[i]? = none → _)
    rw [key hl]
    refine ⟨fun x ex => ?_, fun ex => ?_⟩
    · split at ex
      · rename_i hi
        obtain ⟨u, e3, r3⟩ := rw'.get _ ex
        refine ⟨⟨hi, ws, u, hq, e3⟩, fun v H3 y => ?_⟩
        obtain ⟨rfl, fv⟩ := y
        have := (fv ws hq).symm.trans e3
        cases this
        exact ⟨s2, Ext.refl _ _, r3⟩
      · cases ex
    · split at ex
      · rename_i hi
        rw [List.getElem?_eq_none_iff] at ex
        omega
      · rename_i hi
        exact Nat.le_of_not_lt hi
  · split at p1
    · rename_i q e
      obtain ⟨ds, gd⟩ := q
      obtain ⟨a, rfl, ⟨vs, h1, hl⟩, src⟩ := s1.srcL rv e
      refine ⟨a, vs, rfl, .inl ⟨hK ▸ h1, hK ▸ p1.here s1 _ fun H0 μ0 i S2 H2 μ2 s2 e2 g2 => ?_⟩⟩
      obtain ⟨ws, hq, rw'⟩ := src H0 μ0 S2 H2 μ2 s2 e2 g2
      show (∀ x, ds.reverse[i]? = some x → _) ∧ (ds.reverse[i]? = none → _)
      rw [key hl]
      refine ⟨fun x ex => ?_, fun ex => ?_⟩
      · split at ex
        · rename_i hi
          obtain ⟨u, e3, r3⟩ := rw'.get _ ex
          refine ⟨⟨hi, ws, u, hq, e3⟩, fun v H3 y => ?_⟩
          obtain ⟨rfl, fv⟩ := y
          have := (fv ws hq).symm.trans e3
          cases this
          exact ⟨s2, Ext.refl _ _, r3⟩
        · cases ex
      · split at ex
        · rename_i hi
          rw [List.getElem?_eq_none_iff] at ex
          omega
        · rename_i hi
          exact Nat.le_of_not_lt hi
    · exact p1.elim

/-! ### for -/
noncomputable def forL (gd : Sto → Prop) (t : D → Sl → M Sl) (b : Sl → M Oc) : List D → Sl → M Oc
  | [] => fun ρ S => if gd S then .ok (.nx ρ) S else .stuck
  | x :: xs => fun ρ S => if gd S then (t x ρ >>= fun ρ1 => b ρ1 >>= fun o => match o with
      | .nx ρ' => forL gd t b xs ρ'
      | .ct ρ' => forL gd t b xs ρ'
      | .bk ρ' => M.pure (.nx ρ')
      | .rt d => M.pure (.rt d)) S else .stuck
noncomputable def forS (f : Sl → M (List D × (Sto → Prop))) (t : D → Sl → M Sl) (b : Sl → M Oc) : Sl → M Oc := fun ρ => f ρ >>= fun p => forL p.2 t b p.1 ρ
theorem fs_for {tg iter : Expr} {body : List Stmt} {pos : Pos} {f : Sl → M (List D × (Sto → Prop))} {t : D → Sl → M Sl} {b : Sl → M Oc} (hp : PassesOwn (model X.prog X.w) X.A X.env X.xe) (hc : X.calm = true) (hi : FI X E tg iter f) (hg : FG X E tg t) (hb : FSs X E body b)
    (hs : ∀ x, foldedSetIterable iter X.env x = pure x := by intro _; rfl) : FS X E (.For tg iter body [] pos) (forS f t b) := by
  obtain ⟨wi, pi, hi⟩ := hi
  obtain ⟨tt, pt, hg⟩ := hg
  obtain ⟨tb, pb, hb⟩ := hb
  refine ⟨_, ps_for hp hc pi pt pb hs, fun g ρ S σ H μ Dn hK hM hE hS hL hpo => ?_⟩
  refine hi g ρ S σ H μ _ hK hM hE hS hL (hpo.seq fun p S1 H1 μ1 s1 e1 p1 J ok => ?_)
  obtain ⟨items, gd⟩ := p
  refine ⟨fun i m σ H => ∃ ρ S μ xs, SR g.K g.H0 g.μ0 S H μ ∧ LR g.K H μ σ ρ ∧ Ext H1 μ1 H μ ∧ xs = items.drop i ∧ m = xs.length ∧ Post g H μ (OQ g.K Dn) (forL gd t b xs ρ S), ⟨_, ρ, S1, μ1, items, s1, hL.ext e1, Ext.refl _ _, rfl, rfl, p1⟩, ?_⟩
  rintro i m σ H ⟨ρ, S, μ, xs, hS, hL, e2, rfl, rfl, hpo⟩
  cases q : items.drop i with
  | nil =>
    rw [q] at hpo
    have hn : items[i]? = none := by
      have := congrArg List.length q
      rw [List.length_drop] at this
      rw [List.getElem?_eq_none_iff]
      simp at this
      omega
    unfold forL at hpo
    split at hpo
    · rename_i gS
      exact .inl ⟨(ok _ _ i S H μ hS e2 gS).2 hn, hpo.here hS _ hL⟩
    · exact hpo.elim
  | cons x rest =>
    rw [q] at hpo
    have hx : items[i]? = some x := by
      have := List.getElem?_drop (xs := items) (i := i) (j := 0)
      rw [q] at this
      simpa using this.symm
    have hr : rest = items.drop (i + 1) := by
      have := List.drop_drop (i := 1) (j := i) (l := items)
      rw [q] at this
      simpa using this
    unfold forL at hpo
    split at hpo
    · rename_i gS
      obtain ⟨h1, h2⟩ := (ok _ _ i S H μ hS e2 gS).1 x hx
      refine .inr ⟨h1, fun σ H => ∃ ρ S μ, SR g.K g.H0 g.μ0 S H μ ∧ LR g.K H μ σ ρ ∧ Ext H1 μ1 H μ ∧ Post g H μ (OQ g.K Dn) (forL gd t b rest ρ S), fun σ' H' h => ?_, fun v H2 y => ?_⟩
      · obtain ⟨ρ', S', μ', a1, a2, a3, a4⟩ := h
        exact ⟨rest.length, by simp, ρ', S', μ', rest, a1, a2, a3, hr, rfl, a4⟩
      · obtain ⟨s2, e3, r3⟩ := h2 v H2 y
        have hpo2 := hpo.ext e3
        refine hg g ρ S σ H2 μ x v _ hK hM hE s2 (hL.ext e3) r3 (hpo2.seq fun ρ1 S3 H3 μ3 s3 e4 p3 σ3 l3 => ?_)
        refine hb g ρ1 S3 σ3 H3 μ3 _ hK hM hE s3 l3 (p3.seq fun o S4 H4 μ4 s4 e5 p4 => ?_)
        have eall := e2.trans (e3.trans (e4.trans e5))
        cases o with
        | nx ρ' => exact fun σ' l => ⟨ρ', S4, μ4, s4, l, eall, p4⟩
        | ct ρ' => exact fun σ' l => ⟨ρ', S4, μ4, s4, l, eall, p4⟩
        | bk ρ' => exact fun σ' l => p4.here s4 _ l
        | rt d => exact fun v r => p4.here s4 v r
    · exact hpo.elim
end
end Fx
end
section
namespace Fx
open PySem PySem.Spec PyProof.Rows L2 RZ RT
open Classical

/-! ### sorted, repr, isinstance -/
section
variable {K : PySem.W.Frag} {H : Hp}
/-- values beside what they are and what they mean -/
theorem each_of {h : Heap} : ∀ {vs : List V} {ps : List PyData} {us : List Value}, VDs K H vs ps → Vals vs us → PySem.W.EachIs (fun (u : Value) (b : V × PyData) => RelV b.1 u) us (vs.zip ps)
  | _, _, _, .nil, .nil => .nil
  | _, _, _, .cons _ hs, .cons r rs => .cons r (each_of (h := h) hs rs)
theorem zip_snd {vs : List V} : ∀ {ps : List PyData}, VDs K H vs ps → (vs.zip ps).map Prod.snd = ps := fun {ps} h => by
  induction vs generalizing ps with
  | nil => cases h; rfl
  | cons v vs ih =>
    cases h with
    | cons _ hs => simp [ih hs]
theorem zip_mem {vs : List V} : ∀ {ps : List PyData}, VDs K H vs ps → ∀ b ∈ vs.zip ps, VD K H b.1 b.2 := fun {ps} h => by
  induction vs generalizing ps with
  | nil => cases h; intro b hb; simp at hb
  | cons v vs ih =>
    cases h with
    | cons h hs =>
      intro b hb
      rcases List.mem_cons.mp hb with rfl | hb
      · exact h
      · exact ih hs b hb
theorem vds_of {l : List (V × PyData)} (h : ∀ b ∈ l, VD K H b.1 b.2) : VDs K H (l.map Prod.fst) (l.map Prod.snd) := by
  induction l with
  | nil => exact .nil
  | cons b l ih => exact .cons (h b (List.mem_cons_self ..)) (ih fun c hc => h c (List.mem_cons_of_mem _ hc))
theorem vals_of {l : List (V × PyData)} {us : List Value} (h : PySem.W.EachIs (fun (u : Value) (b : V × PyData) => RelV b.1 u) us l) : Vals (l.map Prod.fst) us := by
  induction h with
  | nil => exact .nil
  | cons r _ ih => exact .cons r ih
/-- what can be sorted -/
def okSort (ps : List PyData) : Prop := PySem.W.AllAlike ps ∧ PySem.W.Sortable ps ∧ ps.length ≤ sizeLine ∧ ∀ p ∈ ps, p.depth ≤ 60
noncomputable def sortP (ps : List PyData) : List PyData := ps.mergeSort (PySem.W.dataLe false id)
end
section
variable {X : Cx} {E : XK}
def rSortD (K : PySem.W.Frag) : List V → Hp → VK → Prop := fun xs H Q => ∃ (a : Addr) (vs : List V) (ps : List PyData), xs = [.ref a] ∧ (SqL K H a vs ∨ SqT K H a vs) ∧ VDs K H vs ps ∧ okSort ps ∧
  ∀ (ws : List V) (p : Addr), VDs K H ws (sortP ps) → H p = none → Q (.ref p) (upd H p (.lst ws))
theorem collect_tup {M : Program} {w : World} {A : Around} {En : Value → Shared → Prop} {s : Shared} {l : Addr} {us : List Value} {Q : List Value → Shared → Prop} (ht : s.heap.IsTuple l us.toArray) (hz : us.length ≤ sizeLine)
    (h : Q us { s with heap := (s.heap.push (seqObj "list" #[] 0)).update s.heap.objs.size (Obj.mapSeq (· ++ us.toArray)) }) : wpAny (model M w) A (collect (.ref l)) Q En s := by
  obtain ⟨o, at1, cl, n, da⟩ := ht
  have at2 : (s.heap.push (seqObj "list" #[] 0)).get? l = some o := Heap.get?_push_of_some _ at1
  have new : (s.heap.push (seqObj "list" #[] 0)).get? s.heap.objs.size = some (seqObj "list" #[] 0) := Heap.get?_push_size _ rfl
  have tt : (Value.type "tuple" == Value.type "tuple") = true := rfl
  have room : ((#[] : Array Value) ++ us.toArray).size ≤ sizeLine + 1 := by simp only [Array.size_append, List.size_toArray, List.length_nil]; omega
  have joined : ((#[] : Array Value) ++ us.toArray).toList = us := by simp
  unfold collect; refine wpAny_bind (wpAny_runValue (codeAny_builtin entry_proto_collect' (show wpAny _ _ (do again (.builtin "list.__iadd__" ⟨[← newList [], .ref l], []⟩)) _ _ s from wpAny_bind (wpAny_newList (wpAny_pure ⟨Code.quiet_builtin _ (by decide +kernel), codeAny_builtin entry_list_iadd' (?_ : wpAny _ _ (Builtin.List.listExtendWith (.ref s.heap.objs.size) (.ref l) (.ref s.heap.objs.size)) _ _ { s with heap := s.heap.push (seqObj "list" #[] 0) })⟩)))))
  unfold Builtin.List.listExtendWith; refine wpAny_bind (wpAny_typeOf (T := "tuple") ⟨o, at2, cl⟩ ?_)
  rw [if_pos (by rw [tt]; simp)]; refine wpAny_bind (listItems_at at2 da (wpAny_bind (listItems_at (xs := #[]) (n := 0) new rfl ?_)))
  rw [if_neg (by simp)]; refine wpAny_bind (listUpdate_at (xs := #[]) (n := 0) new rfl (wpAny_pure ?_) (Nat.zero_le _) room)
  refine (?_ : wpAny (model M w) A (do let o ← load s.heap.objs.size; match o.data with | .seq xs _ => pure xs.toList | _ => unsupported "internal:collect") Q En { s with heap := (s.heap.push (seqObj "list" #[] 0)).update s.heap.objs.size (Obj.mapSeq (· ++ us.toArray)) })
  refine wpAny_bind (wpAny_load (get?_update_seq new _) ?_)
  refine (?_ : wpAny _ _ (pure ((#[] : Array Value) ++ us.toArray).toList) Q En _); rw [joined]; exact wpAny_pure h
/-- sorted(a list or a tuple) by list.sort -/
theorem sorted_tup {M : Program} {w : World} {A : Around} {En : Value → Shared → Prop} {s : Shared} {l : Addr} {us : List Value} {Q : Value → Shared → Prop} (ht : s.heap.IsTuple l us.toArray) (hz : us.length ≤ sizeLine)
    (body : ∀ E' : Value → Shared → Prop, wpAny (model M w) A.in1.in1 (Builtin.«list.sort» ⟨[.ref (s.heap.objs.size + 1)], []⟩) (fun f s' => f = .done (.ret .none) ∧ Q (.ref (s.heap.objs.size + 1)) s') E' { s with heap := PySem.W.copyHeap s.heap us }) :
    wpAny (model M w) A (call (.builtin "sorted") [.ref l] []) Q En s := by
  have size2 : ((s.heap.push (seqObj "list" #[] 0)).update s.heap.objs.size (Obj.mapSeq (· ++ us.toArray))).objs.size = s.heap.objs.size + 1 := by rw [Heap.size_update, size_push']
  refine call_function_entry_kw kind_sorted plain_sorted entry_sorted (args_sorted1 _) ?_
  unfold Builtin.«sorted»; refine wpAny_bind (m := checkCount "sorted" 1 1 _) (wpAny_pure (wpAny_bind (collect_tup ht hz (wpAny_bind (wpAny_newList ?_ hz)))))
  refine (?_ : wpAny _ _ _ _ _ { s with heap := PySem.W.copyHeap s.heap us }); rw [size2]
  refine wpAny_bind (wpAny_holding (wpAny_call_entry_kw slot_list_sort ⟨_, PySem.W.copyHeap_at s.heap us, rfl⟩ entry_list_sort (?_ : wpAny (model M w) A.in1.in1 (Builtin.«list.sort» ⟨[.ref (s.heap.objs.size + 1)], []⟩) _ _ _) (args_list_sort _)))
  refine wpAny_mono (body _) ?_ fun _ _ e => e
  rintro f s' ⟨rfl, q⟩; exact ⟨_, rfl, wpAny_pure ⟨_, rfl, q⟩⟩
theorem call_sortD (hu : X.A.units + 64 < cLine) : CallR X (.builtin "sorted") (rSortD X.K) := by
  intro pins s σ H xs us Q I r h
  obtain ⟨a, vs, ps, rfl, hq, hd, ⟨al, so, hz, dp⟩, q⟩ := h
  obtain ⟨u, rfl, rx⟩ := vals1 r
  cases rx
  have lp := hd.length
  have fin : ∀ (its out : List Value), PySem.W.EachIs (fun (u : Value) (b : V × PyData) => RelV b.1 u) out ((vs.zip ps).mergeSort (PySem.W.dataLe false Prod.snd)) →
      EP X pins σ Q (.ref (s.heap.objs.size + 1)) { s with heap := sortedAll s.heap its out.toArray } := fun its out eo => by
    obtain ⟨c, hc⟩ := sortedAll_at s.heap its out.toArray
    have vo := vals_of eo
    have hm : ∀ b ∈ (vs.zip ps).mergeSort (PySem.W.dataLe false Prod.snd), VD X.K H b.1 b.2 := fun b hb => zip_mem hd b (List.mem_mergeSort.mp hb)
    have hs : ((vs.zip ps).mergeSort (PySem.W.dataLe false Prod.snd)).map Prod.snd = sortP ps := by
      have := PySem.W.sort_maps (r := PySem.W.dataLe false Prod.snd) (s := PySem.W.dataLe false id) (Prod.snd (α := V) (β := PyData)) (l := vs.zip ps) (fun a _ b _ => rfl)
      rw [zip_snd hd] at this
      exact this
    have hv := vds_of hm
    rw [hs] at hv
    have hl : (((vs.zip ps).mergeSort (PySem.W.dataLe false Prod.snd)).map Prod.fst).length ≤ sizeLine := by
      rw [List.length_map, List.length_mergeSort, List.length_zip]
      omega
    have ok : ObjOk X.prog X.w (upd H (s.heap.objs.size + 1) (.lst (((vs.zip ps).mergeSort (PySem.W.dataLe false Prod.snd)).map Prod.fst))) (sortedAll s.heap its out.toArray) (s.heap.objs.size + 1) (.lst (((vs.zip ps).mergeSort (PySem.W.dataLe false Prod.snd)).map Prod.fst)) := ⟨hl, out, c, vo, hc⟩
    exact ⟨.ref _, _, I.laid (t' := s.toks) (fun b o e => sortedAll_old e) (Nat.le_succ _) ok, rfl, q _ _ hv (I.hok.fresh (Nat.le_succ _))⟩
  have al' : PySem.W.AllAlike ((vs.zip ps).map Prod.snd) := by rw [zip_snd hd]; exact al
  have so' : PySem.W.Sortable ((vs.zip ps).map Prod.snd) := by rw [zip_snd hd]; exact so
  have hz' : (vs.zip ps).length ≤ sizeLine := by rw [List.length_zip]; omega
  have dp' : ∀ b, b ∈ vs.zip ps → X.A.units + 2 + b.2.depth < cLine := fun b hb => by
    have : b.2 ∈ ps := (List.of_mem_zip hb).2
    have := dp _ this
    omega
  rcases hq with hq | hq
  · obtain ⟨its, rv, pl, hlz⟩ := I.list hq
    obtain ⟨as, ra⟩ := Dp.readsAll I ps vs its hd.dp rv
    have er : PySem.W.EachIs (fun v (b : V × PyData) => ∃ as, Reads s.heap v (b.2) as) its (vs.zip ps) := by
      have := PySem.W.readsAll_each (h := s.heap) (Prod.snd (α := V) (β := PyData)) (vs := its) (bs := vs.zip ps) (as := as) (by rw [zip_snd hd]; exact ra)
      exact this
    exact PySem.W.sorted_data pl.isList (each_of (h := s.heap) hd rv) er al' so' hz' dp' fun out _ eo => fin its out eo
  · obtain ⟨its, rv, ht, hlz⟩ := I.tuple hq
    obtain ⟨as, ra⟩ := Dp.readsAll I ps vs its hd.dp rv
    have hil : its.length ≤ sizeLine := by rw [← rv.length]; exact hlz
    have keepR : PySem.W.EachIs (fun v (b : V × PyData) => ∃ as, Reads (PySem.W.sortingHeap (PySem.W.copyHeap s.heap its) (s.heap.objs.size + 1) its) v b.2 as) its (vs.zip ps) := by
      have := PySem.W.readsAll_each (h := s.heap) (Prod.snd (α := V) (β := PyData)) (vs := its) (bs := vs.zip ps) (as := as) (by rw [zip_snd hd]; exact ra)
      exact this.mono fun _ _ ⟨as, r⟩ => ⟨as, PyProof.Rows.Reads.keeps (fun _ _ => PySem.W.sorting_copy_old) r⟩
    refine sorted_tup ht hil fun E' => ?_
    refine PySem.W.list_sort_vals (s := { s with heap := PySem.W.copyHeap s.heap its }) (κ := PySem.W.dataKind (PySem.W.sortingHeap (PySem.W.copyHeap s.heap its) (s.heap.objs.size + 1) its) ((vs.zip ps).map Prod.snd)) (PySem.W.copyHeap_at s.heap its) (PySem.W.SortsAt.data (s := { s with heap := PySem.W.sortingHeap (PySem.W.copyHeap s.heap its) (s.heap.objs.size + 1) its }) (PySem.W.each_map (R := fun v d => ∃ as, Reads (PySem.W.sortingHeap (PySem.W.copyHeap s.heap its) (s.heap.objs.size + 1) its) v d as) Prod.snd keepR) al' so' (PySem.W.bound_map (enc := Prod.snd (α := V) (β := PyData)) dp')) hil ⟨rfl, ?_⟩
    exact fin its _ (PySem.W.sortVals_data false (each_of (h := s.heap) hd rv) keepR al')
noncomputable def sortF : List D → M D := fun ds S => match ds with
  | [x] => match seqOf S x with
    | some l => match pys l with
      | some ps => if okSort ps then .ok (.ob S.length) (S ++ [.lst ((sortP ps).map .d)]) else .stuck
      | none => .stuck
    | none => .stuck
  | _ => .stuck
theorem bf_sorted (hu : X.A.units + 64 < cLine) : CallF X E (.builtin "sorted") sortF := by
  refine ⟨_, call_sortD hu, fun g S H μ ds vs Q hK hM hE hS rs hp => ?_⟩
  unfold sortF at hp
  split at hp
  · split at hp
    · rename_i l e
      split at hp
      · rename_i ps e2
        split at hp
        · rename_i c
          obtain ⟨v, rfl, r1⟩ := vrs1 rs
          obtain ⟨a, us, rfl, h1, h2⟩ := hS.seq r1 e
          refine ⟨a, us, ps, rfl, hK ▸ h1, hK ▸ h2.data e2, c, fun ws p hw np => ?_⟩
          exact hp _ _ (hS.alloc (ho := .lst ws) np (VDs.vrs (hK.symm ▸ hw))) (ext_alloc np) _ hS.vr_new
        · exact hp.elim
      · exact hp.elim
    · exact hp.elim
  · exact hp.elim
/-- repr of a tuple -/
def okRepr (p : PyData) : Prop := p.showable = true ∧ p.shown.length ≤ sizeLine ∧ p.depth ≤ 60 ∧ p.hasDict = false
def rReprT (K : PySem.W.Frag) : List V → Hp → VK → Prop := fun xs H Q => ∃ a ps, xs = [V.ref a] ∧ Dp K H (.ref a) (.tuple ps) ∧ okRepr (.tuple ps) ∧ Q (.str (PyData.tuple ps).shown) H
theorem call_reprT (hu : X.A.units + 64 < cLine) (hg : X.A.guards = some []) : CallR X (.builtin "repr") (rReprT X.K) := by
  intro pins s σ H xs us Q I r h
  obtain ⟨a, ps, rfl, hd, ⟨h1, h2, h3, h4⟩, q⟩ := h
  obtain ⟨u, rfl, rx⟩ := vals1 r
  cases rx
  obtain ⟨as, rd⟩ := Dp.reads I _ _ _ hd rfl
  refine repr_of_reads' rd h1 (fun z => by rw [h4] at z; cases z) hg (by omega) (fun _ _ e => e) (fun h' u tk hk => ?_) h2
  exact ⟨.str _, H, I.kept hk, ⟨_, rfl⟩, q⟩
noncomputable def reprF : List D → M D := fun ds S => match ds with
  | [.d (.tuple ps)] => if okRepr (.tuple ps) then .ok (.d (.str (PyData.tuple ps).shown)) S else .stuck
  | _ => .stuck
theorem bf_repr (hu : X.A.units + 64 < cLine) (hg : X.A.guards = some []) : CallF X E (.builtin "repr") reprF := by
  refine ⟨_, call_reprT hu hg, fun g S H μ ds vs Q hK hM hE hS rs hp => ?_⟩
  unfold reprF at hp
  split at hp
  · split at hp
    · rename_i c
      obtain ⟨v, rfl, r1⟩ := vrs1 rs
      obtain ⟨a, us, rfl, h1, h2⟩ := VD.inv_tup r1
      exact ⟨a, _, rfl, hK ▸ VD.dp r1, c, hp.here hS _ (.str _)⟩
    · exact hp.elim
  · exact hp.elim
/-- isinstance(x, T), T one of int, bool, tuple, list, str, dict -/
def tyName (S : Sto) : D → Option String
  | .d .none => some "NoneType"
  | .d (.bool _) => some "bool"
  | .d (.int _) => some "int"
  | .d (.str _) => some "str"
  | .d (.tuple _) => some "tuple"
  | .d (.list _) => some "list"
  | .d (.dict _) => none
  | .ob n => match S[n]? with
    | some (.lst _) => some "list"
    | some (.dk _) => some "dict"
    | none => none
theorem SR.tyx {K : PySem.W.Frag} {H0 H : Hp} {μ0 μ : List Addr} {S : Sto} (s : SR K H0 μ0 S H μ) {v : V} {x : D} {T : String} (r : VR K H μ v x) (e : tyName S x = some T) : TyX K H v (.type T) := by
  cases x with
  | d p =>
    cases p with
    | none => cases r; cases e; exact .base .non
    | bool b => cases r; cases e; exact .base (.bl b)
    | int b => cases r; cases e; exact .base (.int b)
    | str y => cases r; cases e; exact .base (.str y)
    | tuple ds =>
      cases e
      obtain ⟨a, xs, rfl, h, hs⟩ := VD.inv_tup r
      rcases h with (h | ⟨o, h⟩) | ⟨o, its, n, h1, h2, _⟩
      · exact .base (.tup h)
      · exact .fTuple h
      · exact .kTuple h1 h2
    | list ds =>
      cases e
      obtain ⟨a, xs, rfl, h, hs⟩ := VD.inv_lst r
      rcases h with ⟨o, h⟩ | ⟨o, its, n, h1, h2, _⟩
      · exact .base (.frz h)
      · exact .kList h1 h2
    | dict kv => cases e
  | ob n =>
    obtain ⟨a, e1, rfl⟩ := r
    simp only [tyName] at e
    split at e
    · rename_i l q
      cases e
      obtain ⟨vs, h1, h2⟩ := s.lst e1 q
      exact .base (.lst h1)
    · rename_i l q
      cases e
      obtain ⟨vs, h1, h2⟩ := s.dk e1 q
      exact .base (.dK h1)
    · cases e
def isiF (T : String) (f : Sl → M D) : Sl → M D := fun ρ => f ρ >>= fun d S => match tyName S d with
  | some t => match kitB t T with
    | some b => .ok (.d (.bool b)) S
    | none => .stuck
  | none => .stuck
theorem fe_isi {T : String} {x : Str} {e : Expr} {p p2 pos : Pos} {f : Sl → M D} (he : FE X E e f) (hm : X.mg "isinstance" = none) (hmT : X.mg x = none) (hvT : bootBuiltins x = some (.type T) := by decide +kernel) (hgT : Gl X x := by rfl) (hg : Gl X "isinstance" := by rfl) (hnT : x ≠ "__name__" := by decide) (hdT : (x == ("__debug__" : Str)) = false := by decide)
    (hs : starEach [e, .Name x p2] X.env = (false, eval e X.env) :: starEach [.Name x p2] X.env := by rfl) (hs2 : starEach [.Name x p2] X.env = (false, eval (.Name x p2) X.env) :: starEach [] X.env := by rfl) (hpl : (backTo pos (starEach [.Name x p2] X.env)).any (·.1) = false := by rfl) :
    FE X E (.Call (.Name "isinstance" p) [e, .Name x p2] [] pos) (isiF T f) := by
  obtain ⟨t, pe, he⟩ := he
  have pT : PE X (.Name x p2) (tC (.ty T)) := pe_bltn hgT hmT hvT rfl hnT hdT
  refine ⟨_, pe_callB (id := "isinstance") call_isi hg hm (by decide +kernel) (pa_cons pe (pa_cons pT pa_nil hs2) hs) (by decide) (by decide) hs hpl, fun g ρ S σ H μ Q hK hM hE hS hL hp => ?_⟩
  refine he g ρ S σ H μ _ hK hM hE hS hL (hp.seq fun d S1 H1 μ1 s1 e1 p1 v rv => ?_)
  show rIsi X.K [v, .ty T] H1 Q
  split at p1
  · rename_i tn q
    split at p1
    · rename_i b q2
      exact ⟨v, .ty T, .type tn, .type T, b, rfl, .ty T, hK ▸ s1.tyx rv q, kit_ty q2, p1.here s1 _ (.bl _)⟩
    · exact p1.elim
  · exact p1.elim

/-! ### methods of lists -/
def appendF (a v : D) : M D := fun S => match a with
  | .ob n => match S[n]? with
    | some (.lst l) => if l.length < sizeLine then .ok (.d .none) (S.set n (.lst (l ++ [v]))) else .stuck
    | _ => .stuck
  | _ => .stuck
def meth1 (o : D → D → M D) (fa fb : Sl → M D) : Sl → M D := fun ρ => fa ρ >>= fun a => fb ρ >>= fun b => o a b
theorem hd_tyL {a : Addr} {vs : List V} {K : PySem.W.Frag} {H : Hp} (h : H a = some (.lst vs)) : tyV K "list" (.ref a) H := .inl ⟨rfl, vs, .inl (.inl h)⟩
/-- what the receiver of a list's method must be -/
def isLst (a : D) : M D := fun S => match a with
  | .ob n => match S[n]? with
    | some (.lst _) => .ok a S
    | _ => .stuck
  | _ => .stuck
theorem isLst_inv {g : G} {H : Hp} {μ : List Addr} {P : D → Sto → Hp → List Addr → Prop} {a : D} {S : Sto} (h : Post g H μ P (isLst a S)) : ∃ n l, a = .ob n ∧ S[n]? = some (.lst l) ∧ Post g H μ P (.ok a S) := by
  unfold isLst at h
  split at h
  · split at h
    · rename_i q; exact ⟨_, _, rfl, q, h⟩
    · exact h.elim
  · exact h.elim
def methL1 (o : D → D → M D) (fa fb : Sl → M D) : Sl → M D := fun ρ => fa ρ >>= isLst >>= fun a => fb ρ >>= fun b => o a b
theorem fe_append {o e : Expr} {apos cpos : Pos} {fa fb : Sl → M D} (ho : FE X E o fa) (he : FE X E e fb)
    (hbase : attributeBase o "append" X.env (eval o X.env) = eval o X.env := by rfl)
    (hfew : ((backTo cpos (starEach [e] X.env)).all (fun x => !x.1) && (backToKw cpos (keywordEach [] X.env)).all (fun x => x.1.isSome)
      && decide ([e].length + ([] : List Keyword).length + (if ([] : List Keyword).isEmpty then 0 else 1) < 30)) = true := by rfl)
    (hline : (apos.endLine == cpos.line) = true := by rfl) (hs : starEach [e] X.env = (false, eval e X.env) :: starEach [] X.env := by rfl) (hplain : (backTo cpos (starEach [] X.env)).any (·.1) = false := by rfl) :
    FE X E (.Call (.Attribute o "append" apos) [e] [] cpos) (methL1 appendF fa fb) := by
  obtain ⟨to, po, ho⟩ := ho
  obtain ⟨te, pe, he⟩ := he
  refine ⟨_, pe_bm PySem.F.plainAttrs_list PySem.F.slot_list_append PySem.F.type_list_append mt_append po (pa_cons pe pa_nil hs) hbase hfew hline hs hplain, fun g ρ S σ H μ Q hK hM hE hS hL hp => ?_⟩
  refine ho g ρ S σ H μ _ hK hM hE hS hL (hp.bind.seq fun x S1 H1 μ1 s1 e1 p1 v rv => ?_)
  obtain ⟨n, l, rfl, q, p2⟩ := isLst_inv p1
  have p2 := p2.here s1
  obtain ⟨a, ea, rfl⟩ := rv
  obtain ⟨vs, h1, h2⟩ := s1.lst ea q
  refine ⟨hd_tyL h1, he g ρ S1 σ H1 μ1 _ hK hM hE s1 (hL.ext e1) (p2.seq fun y S2 H2 μ2 s2 e2 p3 u ru => ?_)⟩
  unfold appendF at p3
  dsimp only at p3
  split at p3
  · rename_i l2 q2
    split at p3
    · rename_i c
      have ea2 := pre_get e2.2 ea
      obtain ⟨ws, h3, h4⟩ := s2.lst ea2 q2
      refine ⟨a, ws, u, rfl, rfl, h3, by rw [h4.length]; exact c, ?_⟩
      exact p3 _ _ (s2.put ea2 (ho := .lst (ws ++ [u])) (VRs.append h4 (.cons ru .nil))) (s2.ext_put ea2) _ .non
    · exact p3.elim
  · exact p3.elim
def extendF (a v : D) : M D := fun S => match a, v with
  | .ob n, .ob m => match S[n]?, S[m]? with
    | some (.lst l), some (.lst k) => if l.length + k.length ≤ sizeLine then .ok (.d .none) (S.set n (.lst (l ++ k))) else .stuck
    | _, _ => .stuck
  | _, _ => .stuck
theorem fe_extend {o e : Expr} {apos cpos : Pos} {fa fb : Sl → M D} (ho : FE X E o fa) (he : FE X E e fb)
    (hbase : attributeBase o "extend" X.env (eval o X.env) = eval o X.env := by rfl)
    (hfew : ((backTo cpos (starEach [e] X.env)).all (fun x => !x.1) && (backToKw cpos (keywordEach [] X.env)).all (fun x => x.1.isSome)
      && decide ([e].length + ([] : List Keyword).length + (if ([] : List Keyword).isEmpty then 0 else 1) < 30)) = true := by rfl)
    (hline : (apos.endLine == cpos.line) = true := by rfl) (hs : starEach [e] X.env = (false, eval e X.env) :: starEach [] X.env := by rfl) (hplain : (backTo cpos (starEach [] X.env)).any (·.1) = false := by rfl) :
    FE X E (.Call (.Attribute o "extend" apos) [e] [] cpos) (methL1 extendF fa fb) := by
  obtain ⟨to, po, ho⟩ := ho
  obtain ⟨te, pe, he⟩ := he
  refine ⟨_, pe_bm PySem.F.plainAttrs_list PySem.F.slot_list_extend PySem.F.type_list_extend mt_extend po (pa_cons pe pa_nil hs) hbase hfew hline hs hplain, fun g ρ S σ H μ Q hK hM hE hS hL hp => ?_⟩
  refine ho g ρ S σ H μ _ hK hM hE hS hL (hp.bind.seq fun x S1 H1 μ1 s1 e1 p1 v rv => ?_)
  obtain ⟨n, l, rfl, q, p2⟩ := isLst_inv p1
  have p2 := p2.here s1
  obtain ⟨a, ea, rfl⟩ := rv
  obtain ⟨vs, h1, h2⟩ := s1.lst ea q
  refine ⟨hd_tyL h1, he g ρ S1 σ H1 μ1 _ hK hM hE s1 (hL.ext e1) (p2.seq fun y S2 H2 μ2 s2 e2 p3 u ru => ?_)⟩
  unfold extendF at p3
  split at p3
  · rename_i n' m' eq
    cases eq
    split at p3
    · rename_i l2 k2 q2 q3
      split at p3
      · rename_i c
        have ea2 := pre_get e2.2 ea
        obtain ⟨b, eb, rfl⟩ := ru
        obtain ⟨ws, h3, h4⟩ := s2.lst ea2 q2
        obtain ⟨zs, h5, h6⟩ := s2.lst eb q3
        have l1 := h4.length
        have l2 := h6.length
        refine ⟨a, b, ws, zs, rfl, rfl, h3, h5, by omega, ?_⟩
        exact p3 _ _ (s2.put ea2 (ho := .lst (ws ++ zs)) (VRs.append h4 h6)) (s2.ext_put ea2) _ .non
      · exact p3.elim
    · exact p3.elim
  · exact p3.elim
/-- xs.pop() -/
def popF (a : D) : M D := fun S => match a with
  | .ob n => match S[n]? with
    | some (.lst l) => match l[l.length - 1]? with
      | some y => .ok y (S.set n (.lst l.dropLast))
      | none => .stuck
    | _ => .stuck
  | _ => .stuck
theorem VRs.dropLast {K : PySem.W.Frag} {H : Hp} {μ : List Addr} {v : List V} {d : List D} (h : VRs K H μ v d) : VRs K H μ v.dropLast d.dropLast := by
  rw [List.dropLast_eq_take, List.dropLast_eq_take, h.length]
  exact h.take _
theorem fe_pop {o : Expr} {apos cpos : Pos} {fa : Sl → M D} (ho : FE X E o fa)
    (hbase : attributeBase o "pop" X.env (eval o X.env) = eval o X.env := by rfl) (hline : (apos.endLine == cpos.line) = true := by rfl) : FE X E (.Call (.Attribute o "pop" apos) [] [] cpos) (fun ρ => fa ρ >>= popF) := by
  obtain ⟨to, po, ho⟩ := ho
  refine ⟨_, pe_bm0 PySem.F.plainAttrs_list PySem.F.slot_list_pop PySem.F.type_list_pop mt_pop po hbase hline, fun g ρ S σ H μ Q hK hM hE hS hL hp => ?_⟩
  refine ho g ρ S σ H μ _ hK hM hE hS hL (hp.seq fun x S1 H1 μ1 s1 e1 p1 v rv => ?_)
  unfold popF at p1
  split at p1
  · split at p1
    · rename_i n l q
      split at p1
      · rename_i y q2
        obtain ⟨a, ea, rfl⟩ := rv
        obtain ⟨vs, h1, h2⟩ := s1.lst ea q
        obtain ⟨u, h3, h4⟩ := h2.get _ q2
        refine ⟨hd_tyL h1, a, vs, u, rfl, rfl, h1, by rw [h2.length]; exact h3, ?_⟩
        exact p1 _ _ (s1.put ea (ho := .lst vs.dropLast) h2.dropLast) (s1.ext_put ea) _ (h4.ext (s1.ext_put ea))
      · exact p1.elim
    · exact p1.elim
  · exact p1.elim
end
end Fx
end
section
namespace Fx
open PySem PySem.Spec PyProof.Rows L2 RZ RT
open Classical

/-! ### one meaning, whatever the block -/
def tF (K : PySem.W.Frag) (mg : Str → Option Value) (E : XK) (f : Sl → M D) : TE := fun σ H Q => ∃ (g : G) (ρ : Sl) (S : Sto) (μ : List Addr), g.K = K ∧ g.mg = mg ∧ g.E = E ∧ SR g.K g.H0 g.μ0 S H μ ∧ LR g.K H μ σ ρ ∧ Post g H μ (VQ g.K Q) (f ρ S)
def tFT (K : PySem.W.Frag) (mg : Str → Option Value) (E : XK) (f : Sl → M Bool) : TT := fun σ H Q => ∃ (g : G) (ρ : Sl) (S : Sto) (μ : List Addr), g.K = K ∧ g.mg = mg ∧ g.E = E ∧ SR g.K g.H0 g.μ0 S H μ ∧ LR g.K H μ σ ρ ∧ Post g H μ (fun b _ H' _ => Q b H') (f ρ S)
theorem FE.uni {X : Cx} {E : XK} {e : Expr} {f : Sl → M D} (h : FE X E e f) : PE X e (tF X.K X.mg E f) := by
  obtain ⟨t, p, h⟩ := h
  exact ⟨fun pins s σ H Q I ⟨g, ρ, S, μ, hK, hM, hE, hS, hL, hp⟩ => p.run pins s σ H Q I (h g ρ S σ H μ Q hK hM hE hS hL hp)⟩
theorem FT.uni {X : Cx} {E : XK} {e : Expr} {f : Sl → M Bool} (h : FT X E e f) : PT X e (tFT X.K X.mg E f) := by
  obtain ⟨t, p, h⟩ := h
  exact ⟨fun pins s σ H Q I ⟨g, ρ, S, μ, hK, hM, hE, hS, hL, hp⟩ => p.run pins s σ H Q I (h g ρ S σ H μ Q hK hM hE hS hL hp)⟩

/-! ### side objects: one that the store does not name yet -/
section
variable {K : PySem.W.Frag} {H0 H : Hp} {μ0 μ : List Addr} {S : Sto}
theorem SR.side (s : SR K H0 μ0 S H μ) {d : Addr} {ho : HO} (hd : d ∉ μ) (h0 : H0 d = none) (kp : Keep H (upd H d ho)) : SR K H0 μ0 S (upd H d ho) μ where
  len := s.len
  nd := s.nd
  at_ := fun n a o e1 e2 => by
    obtain ⟨h1, e3, r⟩ := s.at_ n a o e1 e2
    have : a ≠ d := fun z => hd (z ▸ List.mem_of_getElem? e1)
    exact ⟨h1, by rw [upd_ne this]; exact e3, r.ext ⟨kp, List.prefix_rfl⟩⟩
  pre := s.pre
  new := s.new
  fr := fun a o e n => by
    have h1 := s.fr a o e n
    have : a ≠ d := fun z => by subst z; rw [h0] at e; cases e
    rw [upd_ne this]; exact h1
theorem SR.adopt (s : SR K H0 μ0 S H μ) {d : Addr} {ho : HO} {o : O} (hd : d ∉ μ) (h0 : H0 d = none) (e : H d = some ho) (r : OR K H μ ho o) : SR K H0 μ0 (S ++ [o]) H (μ ++ [d]) where
  len := by simp [s.len]
  nd := by
    rw [List.nodup_append]
    refine ⟨s.nd, by simp, fun a ha b hb => ?_⟩
    have z : b = d := by simpa using hb
    subst z
    exact fun z => hd (z ▸ ha)
  at_ := fun n a q e1 e2 => by
    by_cases hn : n < μ.length
    · rw [List.getElem?_append_left hn] at e1
      rw [List.getElem?_append_left (by rw [← s.len]; exact hn)] at e2
      obtain ⟨ho', e3, r'⟩ := s.at_ n a q e1 e2
      exact ⟨ho', e3, r'.ext ⟨Keep.refl _, List.prefix_append _ _⟩⟩
    · have hn' : n = μ.length := by
        have := (List.getElem?_eq_some_iff.mp e1).1
        simp at this; omega
      subst hn'
      have hl := s.len
      rw [List.getElem?_append_right (Nat.le_refl _)] at e1
      rw [List.getElem?_append_right (by omega)] at e2
      simp only [Nat.sub_self, List.getElem?_cons_zero, Option.some.injEq] at e1
      rw [show μ.length - S.length = 0 by omega] at e2
      simp only [List.getElem?_cons_zero, Option.some.injEq] at e2
      subst e1; subst e2
      exact ⟨ho, e, r.ext ⟨Keep.refl _, List.prefix_append _ _⟩⟩
  pre := s.pre.trans (List.prefix_append _ _)
  new := fun a ha => by
    rcases List.mem_append.mp ha with q | q
    · exact s.new a q
    · have z : a = d := by simpa using q
      subst z
      exact .inr h0
  fr := s.fr
/-- the entry with d known -/
def with1 (H0 : Hp) (d : Addr) (ho : HO) : Hp := fun a => if a = d then some ho else H0 a
theorem SR.with1 (s : SR K H0 μ0 S H μ) {d : Addr} {ho : HO} (hd : d ∉ μ) (e : H d = some ho) : SR K (Fx.with1 H0 d ho) μ0 S H μ where
  len := s.len
  nd := s.nd
  at_ := s.at_
  pre := s.pre
  new := fun a ha => (s.new a ha).imp id fun q => (if_neg (fun (z : a = d) => hd (z ▸ ha))).trans q
  fr := fun a o q n => by
    unfold Fx.with1 at q
    split at q
    · rename_i z
      cases q; subst z; exact e
    · exact s.fr a o q n
theorem SR.without1 {d : Addr} {ho : HO} (s : SR K (Fx.with1 H0 d ho) μ0 S H μ) (h0 : H0 d = none) (hm : d ∉ μ0) : SR K H0 μ0 S H μ ∧ d ∉ μ ∧ H d = some ho := by
  have e1 : Fx.with1 H0 d ho d = some ho := if_pos rfl
  refine ⟨⟨s.len, s.nd, s.at_, s.pre, fun a ha => (s.new a ha).imp id fun q => ?_, fun a o q n => s.fr a o ?_ n⟩, fun z => ?_, s.fr d ho e1 hm⟩
  · unfold Fx.with1 at q
    split at q
    · cases q
    · exact q
  · exact (if_neg (fun (z : a = d) => by subst z; rw [h0] at q; cases q)).trans q
  · rcases s.new d z with q | q
    · exact hm q
    · rw [e1] at q; cases q
end

/-! ### comprehensions -/
def wipeD (ρ : Sl) : List Nat → Sl
  | [] => ρ
  | v :: vs => (wipeD ρ vs).set v none
theorem wipeD_length (ρ : Sl) : ∀ vs, (wipeD ρ vs).length = ρ.length
  | [] => rfl
  | v :: vs => by simp [wipeD, wipeD_length ρ vs]
theorem LR.wipe {K : PySem.W.Frag} {H : Hp} {μ : List Addr} {σ : L2.St} {ρ : Sl} (h : LR K H μ σ ρ) : ∀ vs, LR K H μ (wipe σ vs) (wipeD ρ vs)
  | [] => h
  | v :: vs => by
    have ih := h.wipe vs
    refine ⟨by simp [L2.wipe, wipeD, ih.1], fun i d e => ?_⟩
    unfold wipeD at e
    unfold L2.wipe
    by_cases hi : v = i
    · subst hi
      by_cases hl : v < (wipeD ρ vs).length
      · rw [List.getElem?_set_self hl] at e; cases e
      · rw [List.getElem?_eq_none (by simpa using hl)] at e; cases e
    · rw [List.getElem?_set_ne hi] at e ⊢
      exact ih.2 i d e
/-- no exception leaves it -/
def noEx {α : Type} (m : M α) : M α := fun S => match m S with
  | .ex _ _ => .stuck
  | r => r
noncomputable def lcL (gd : Sto → Prop) (vs : List Nat) (t : D → Sl → M Sl) (tt : Sl → M Bool) (el : Sl → M D) : List D → List D → Sl → M D
  | [], acc => fun _ S => if gd S then .ok (.ob S.length) (S ++ [.lst acc]) else .stuck
  | x :: xs, acc => fun ρ S => if gd S ∧ acc.length < sizeLine then (noEx (t x (wipeD ρ vs)) >>= fun ρ2 => noEx (tt ρ2) >>= fun b => if b = true then noEx (el ρ2) >>= fun y => lcL gd vs t tt el xs (acc ++ [y]) ρ else lcL gd vs t tt el xs acc ρ) S else .stuck
noncomputable def lcS (f : Sl → M (List D × (Sto → Prop))) (vs : List Nat) (t : D → Sl → M Sl) (tt : Sl → M Bool) (el : Sl → M D) : Sl → M D := fun ρ => f ρ >>= fun p => lcL p.2 vs t tt el p.1 [] ρ
/-- a comprehension's target: it stores its own names alone -/
def FGc (K : PySem.W.Frag) (t : TG) (vs : List Nat) (f : D → Sl → M Sl) : Prop :=
  ∀ (g : G) (ρ : Sl) (S : Sto) (σ : L2.St) (H : Hp) (μ : List Addr) (d : D) (v : V) (Q : L2.St → Hp → Prop), g.K = K → SR g.K g.H0 g.μ0 S H μ → LR g.K H μ (wipe σ vs) ρ → VR g.K H μ v d →
    Post g H μ (fun ρ' _ H' μ' => ∀ σ', LR g.K H' μ' σ' ρ' → wipe σ' vs = wipe σ vs → Q σ' H') (f d ρ S) → t v (wipe σ vs) H Q
theorem fgc_name {K : PySem.W.Frag} (i : Nat) : FGc K (gName i) [i] (setN i) := fun g ρ S σ H μ d v Q hK hS hL hv hp =>
  hp.here hS _ (hL.set hv) (by simp [wipe])
theorem wipe_get (σ : L2.St) : ∀ (vs : List Nat) (k : Nat), (L2.wipe σ vs)[k]? = if k ∈ vs ∧ k < σ.length then some none else σ[k]?
  | [], k => by simp [wipe]
  | v :: vs, k => by
    unfold L2.wipe
    by_cases hv : v = k
    · subst hv
      by_cases hl : v < σ.length
      · rw [List.getElem?_set_self (by rw [wipe_length]; exact hl), if_pos ⟨by simp, hl⟩]
      · rw [List.getElem?_eq_none (by rw [List.length_set, wipe_length]; omega), if_neg (fun z => hl z.2), List.getElem?_eq_none (by omega)]
    · rw [List.getElem?_set_ne hv, wipe_get σ vs k]
      have : (k ∈ v :: vs) ↔ (k ∈ vs) := by simp [Ne.symm hv]
      simp only [this]
theorem fgc_tup2 {K : PySem.W.Frag} (i j : Nat) (hij : i ≠ j) : FGc K (gTup K 2 (gCons (gName i) (gCons (gName j) gNil))) [i, j] (setTup 2 (setCons (setN i) (setCons (setN j) setNil))) := fun g ρ S σ H μ d v Q hK hS hL hv hp => by
  unfold setTup at hp
  split at hp
  · rename_i ps
    split at hp
    · rename_i c
      obtain ⟨a, xs, rfl, h1, h2⟩ := VD.inv_tup hv
      have h1' : SqT K H a xs := hK ▸ h1
      obtain ⟨p, q, rfl⟩ : ∃ p q, ps = [p, q] := by
        match ps, c with
        | [p, q], _ => exact ⟨p, q, rfl⟩
      obtain ⟨x, y, rfl, r1, r2⟩ : ∃ x y, xs = [x, y] ∧ VD g.K H x p ∧ VD g.K H y q := by
        cases h2 with
        | cons r1 h2 =>
          cases h2 with
          | cons r2 h2 => cases h2; exact ⟨_, _, rfl, r1, r2⟩
      have r1' : VR g.K H μ x (.d p) := r1
      have r2' : VR g.K H μ y (.d q) := r2
      refine ⟨a, _, rfl, h1', rfl, x, [y], rfl, y, [], rfl, rfl, ?_⟩
      have hp' : Post g H μ (fun ρ' _ H' μ' => ∀ σ', LR g.K H' μ' σ' ρ' → L2.wipe σ' [i, j] = L2.wipe σ [i, j] → Q σ' H') (.ok ((ρ.set i (some (.d p))).set j (some (.d q))) S) := hp
      refine hp'.here hS _ ((hL.set r1').set r2') (List.ext_getElem? fun k => ?_)
      · rw [wipe_get, wipe_get]
        simp only [List.length_set, wipe_length, List.mem_cons, List.not_mem_nil, or_false]
        by_cases hk : (k = i ∨ k = j) ∧ k < σ.length
        · rw [if_pos hk, if_pos hk]
        · rw [if_neg hk, if_neg hk]
          by_cases hl : k < σ.length
          · have hk1 : k ≠ i := fun z => hk ⟨.inl z, hl⟩
            have hk2 : k ≠ j := fun z => hk ⟨.inr z, hl⟩
            rw [List.getElem?_set_ne (Ne.symm hk2), List.getElem?_set_ne (Ne.symm hk1), wipe_get, if_neg (by simp [hk1, hk2])]
          · rw [List.getElem?_eq_none (by simp [wipe_length]; omega), List.getElem?_eq_none (by omega)]
    · exact hp.elim
  · exact hp.elim
theorem Post.nox {g : G} {H : Hp} {μ : List Addr} {α β : Type} {P : β → Sto → Hp → List Addr → Prop} {P' : α → Sto → Hp → List Addr → Prop} {m : M α} {k : α → M β} {S : Sto} {d : Addr} {ho : HO} (h0 : g.H0 d = none) (hm : d ∉ g.μ0) (h : Post g H μ P ((noEx m >>= k) S))
    (f : ∀ a S' H' μ', SR g.K g.H0 g.μ0 S' H' μ' → d ∉ μ' → H' d = some ho → Ext H μ H' μ' → Post g H' μ' P (k a S') → P' a S' H' μ') : Post ⟨g.K, g.mg, E0, with1 g.H0 d ho, g.μ0⟩ H μ P' (m S) := by
  have h1 := h.bind
  unfold noEx at h1
  revert h1
  cases m S with
  | stuck => exact fun h => h
  | ex x S' => exact fun h => h.elim
  | ok a S' =>
    intro h1 H' μ' s e
    obtain ⟨s1, hd, e1⟩ := s.without1 h0 hm
    exact f a S' H' μ' s1 hd e1 e (h1 H' μ' s1 e)
section
variable {X : Cx} {E : XK}
/-- the heart of a comprehension's reading -/
theorem lc_read {wi : TI} {t : TG} {tt : TT} {te : TE} {vs : List Nat} {f : Sl → M (List D × (Sto → Prop))} {fg : D → Sl → M Sl} {ft : Sl → M Bool} {fe : Sl → M D} {K : PySem.W.Frag} {mg : Str → Option Value}
    (hi : ∀ (g : G) (ρ : Sl) (S : Sto) (σ : L2.St) (H : Hp) (μ : List Addr) (R : It → Hp → Prop), g.K = K → g.mg = mg → g.E = E → SR g.K g.H0 g.μ0 S H μ → LR g.K H μ σ ρ →
      Post g H μ (fun p _ H' μ' => ∀ J, ItOk g.K J p.1 p.2 H' μ' → R J H') (f ρ S) → wi σ H R)
    (hg : FGc K t vs fg)
    (ht : ∀ (g : G) (ρ : Sl) (S : Sto) (σ : L2.St) (H : Hp) (μ : List Addr) (Q : Bool → Hp → Prop), g.K = K → g.mg = mg → g.E = E0 → SR g.K g.H0 g.μ0 S H μ → LR g.K H μ σ ρ → Post g H μ (fun b _ H' _ => Q b H') (ft ρ S) → tt σ H Q)
    (he : ∀ (g : G) (ρ : Sl) (S : Sto) (σ : L2.St) (H : Hp) (μ : List Addr) (Q : VK), g.K = K → g.mg = mg → g.E = E0 → SR g.K g.H0 g.μ0 S H μ → LR g.K H μ σ ρ → Post g H μ (VQ g.K Q) (fe ρ S) → te σ H Q)
    (g : G) (ρ : Sl) (S : Sto) (σ : L2.St) (H : Hp) (μ : List Addr) (Q : VK) (hK : g.K = K) (hM : g.mg = mg) (hE : g.E = E) (hS : SR g.K g.H0 g.μ0 S H μ) (hL : LR g.K H μ σ ρ) (hp : Post g H μ (VQ g.K Q) (lcS f vs fg ft fe ρ S)) : tLc wi t tt te vs σ H Q := by
  refine hi g ρ S σ H μ _ hK hM hE hS hL (hp.seq fun p S1 H1 μ1 s1 e1 p1 J ok d hd => ?_)
  obtain ⟨items, gd⟩ := p
  obtain ⟨dμ, d0⟩ := s1.fresh hd
  have dm : d ∉ g.μ0 := fun z => dμ (s1.pre.subset z)
  refine ⟨fun i m H => ∃ S μ xs acc va, SR g.K g.H0 g.μ0 S H μ ∧ Ext H1 μ1 H μ ∧ d ∉ μ ∧ H d = some (.lst va) ∧ VRs g.K H μ va acc ∧ xs = items.drop i ∧ m = xs.length ∧ Post g H μ (VQ g.K Q) (lcL gd vs fg ft fe xs acc ρ S),
    ⟨_, S1, μ1, items, [], [], s1.aside hd, ext_aside hd, dμ, upd_same, .nil, rfl, rfl, p1.ext (ext_aside hd)⟩, ?_⟩
  rintro i m H ⟨S, μ, xs, acc, va, hS, e2, dμ, dH, ra, rfl, rfl, hpo⟩
  have hL2 := hL.ext (e1.trans e2)
  cases q : items.drop i with
  | nil =>
    rw [q] at hpo
    have hn : items[i]? = none := by
      have := congrArg List.length q
      rw [List.length_drop] at this
      rw [List.getElem?_eq_none_iff]
      simp at this
      omega
    unfold lcL at hpo
    split at hpo
    · rename_i gS
      refine .inl ⟨(ok _ _ i S H μ hS e2 gS).2 hn, ?_⟩
      exact hpo H (μ ++ [d]) (hS.adopt (o := .lst acc) dμ d0 dH ra) ⟨Keep.refl _, List.prefix_append _ _⟩ _ hS.vr_new
    · exact hpo.elim
  | cons x rest =>
    rw [q] at hpo
    have hx : items[i]? = some x := by
      have := List.getElem?_drop (xs := items) (i := i) (j := 0)
      rw [q] at this
      simpa using this.symm
    have hr : rest = items.drop (i + 1) := by
      have := List.drop_drop (i := 1) (j := i) (l := items)
      rw [q] at this
      simpa using this
    unfold lcL at hpo
    split at hpo
    · rename_i gS
      obtain ⟨gS, hz⟩ := gS
      obtain ⟨h1, h2⟩ := (ok _ _ i S H μ hS e2 gS).1 x hx
      refine .inr ⟨h1, fun H => ∃ S μ acc va, SR g.K g.H0 g.μ0 S H μ ∧ Ext H1 μ1 H μ ∧ d ∉ μ ∧ H d = some (.lst va) ∧ VRs g.K H μ va acc ∧ Post g H μ (VQ g.K Q) (lcL gd vs fg ft fe rest acc ρ S), fun H' h => ?_, fun v H2 y => ?_⟩
      · obtain ⟨S', μ', acc', va', a1, a2, a3, a4, a5, a6⟩ := h
        exact ⟨rest.length, by simp, S', μ', rest, acc', va', a1, a2, a3, a4, a5, hr, rfl, a6⟩
      · obtain ⟨s2, e3, r3⟩ := h2 v H2 y
        have sw := ((ok (with1 g.H0 d (.lst va)) g.μ0 i S H μ (hS.with1 dμ dH) e2 gS).1 x hx).2 v H2 y
        obtain ⟨_, dμ2, dH2⟩ := sw.1.without1 d0 dm
        have hpo2 := hpo.ext e3
        have ra2 := ra.ext e3
        refine hg ⟨g.K, g.mg, E0, with1 g.H0 d (.lst va), g.μ0⟩ (wipeD ρ vs) S σ H2 μ x v _ hK sw.1 ((hL2.ext e3).wipe vs) r3 (hpo2.nox d0 dm fun ρ2 S3 H3 μ3 s3 dμ3 dH3 e4 p3 σ3 l3 hw => ⟨hw, ?_⟩)
        have ra3 := ra2.ext e4
        refine ht ⟨g.K, g.mg, E0, with1 g.H0 d (.lst va), g.μ0⟩ ρ2 S3 σ3 H3 μ3 _ hK hM rfl (s3.with1 dμ3 dH3) l3 (p3.nox d0 dm fun b S4 H4 μ4 s4 dμ4 dH4 e5 p4 => ?_)
        have ra4 := ra3.ext e5
        cases b with
        | false => exact iteF ⟨S4, μ4, acc, va, s4, e2.trans (e3.trans (e4.trans e5)), dμ4, dH4, ra4, p4⟩
        | true =>
          refine iteT (he ⟨g.K, g.mg, E0, with1 g.H0 d (.lst va), g.μ0⟩ ρ2 S4 σ3 H4 μ4 _ hK hM rfl (s4.with1 dμ4 dH4) (l3.ext e5) ((show Post g H4 μ4 (VQ g.K Q) ((noEx (fe ρ2) >>= fun y => lcL gd vs fg ft fe rest (acc ++ [y]) ρ) S4) from p4).nox d0 dm fun y S5 H5 μ5 s5 dμ5 dH5 e6 p5 w rw' => ?_))
          have ra5 := ra4.ext e6
          have kp : Keep H5 (upd H5 d (.lst (va ++ [w]))) := keep_at (fun xs z => by rw [dH5] at z; cases z) (fun o u z => by rw [dH5] at z; cases z)
          have ex : Ext H5 μ5 (upd H5 d (.lst (va ++ [w]))) μ5 := ⟨kp, List.prefix_rfl⟩
          refine ⟨va, dH5, by rw [ra.length]; exact hz, S5, μ5, acc ++ [y], va ++ [w], s5.side dμ5 d0 kp, e2.trans (e3.trans (e4.trans (e5.trans (e6.trans ex)))), dμ5, upd_same, (VRs.append ra5 (.cons rw' .nil)).ext ex, p5.ext ex⟩
    · exact hpo.elim
/-- a family of blocks -/
abbrev Blk (X : Cx) (scope : Scope) (P : Cx → Prop) : Prop := ∀ (s : Shared) (H : Hp) (C : Addr) (cl : List (Str × Addr)) (fp : List Addr), P (X.blk s H scope (compEnvC scope cl C X.env) fp)
variable {elt tg iter : Expr} {scope : Scope} {own : List (Str × Nat)} {pos : Pos} {f : Sl → M (List D × (Sto → Prop))} {t : TG} {fg : D → Sl → M Sl} {ft : Sl → M Bool} {fe : Sl → M D} {c : Expr}
def yes : Sl → M Bool := fun _ => M.pure true
theorem fe_lc (hc : X.calm = true) (hN : X.N.Nodup) (hi : FI X E tg iter f) (hB : BlkOk X.N X.env.scope scope own) (hg : Blk X scope fun Y => PG Y tg t) (hgc : FGc X.K t (own.map (·.2)) fg) (he : Blk X scope fun Y => FE Y E0 elt fe)
    (hs : ∀ x, foldedSetIterable iter X.env x = pure x := by intro _; rfl) : FE X E (.ListComp elt [⟨tg, iter, [], 0⟩] scope pos) (lcS f (own.map (·.2)) fg yes fe) := by
  obtain ⟨wi, pi, hi⟩ := hi
  refine ⟨_, pe_lc (te := tF X.K X.mg E0 fe) hc hN pi hB hg (fun _ _ _ _ _ => pts_nil) (fun s H C cl fp => (he s H C cl fp).uni) hs, lc_read hi hgc (fun g ρ S σ H μ Q hK hM hE hS hL hp => hp.here hS) (fun g ρ S σ H μ Q hK hM hE hS hL hp => ⟨g, ρ, S, μ, hK, hM, hE, hS, hL, hp⟩)⟩
theorem fe_lcIf (hc : X.calm = true) (hN : X.N.Nodup) (hi : FI X E tg iter f) (hB : BlkOk X.N X.env.scope scope own) (hg : Blk X scope fun Y => PG Y tg t) (hgc : FGc X.K t (own.map (·.2)) fg) (ht : Blk X scope fun Y => FT Y E0 c ft) (he : Blk X scope fun Y => FE Y E0 elt fe)
    (hs : ∀ x, foldedSetIterable iter X.env x = pure x := by intro _; rfl) : FE X E (.ListComp elt [⟨tg, iter, [c], 0⟩] scope pos) (lcS f (own.map (·.2)) fg ft fe) := by
  obtain ⟨wi, pi, hi⟩ := hi
  refine ⟨_, pe_lc (te := tF X.K X.mg E0 fe) hc hN pi hB hg (fun s H C cl fp => pts_one (t := tFT X.K X.mg E0 ft) (ht s H C cl fp).uni) (fun s H C cl fp => (he s H C cl fp).uni) hs, lc_read hi hgc (fun g ρ S σ H μ Q hK hM hE hS hL hp => ⟨g, ρ, S, μ, hK, hM, hE, hS, hL, hp⟩) (fun g ρ S σ H μ Q hK hM hE hS hL hp => ⟨g, ρ, S, μ, hK, hM, hE, hS, hL, hp⟩)⟩
theorem fs_setLc {i : Nat} {y : Str} {py spos : Pos} (hc : X.calm = true) (hN : X.N.Nodup) (hsw : swapsWith (.ListComp elt [⟨tg, iter, [], 0⟩] scope pos) (some (.Name y py)) spos.line X.env = pure true) (hi : FI X E tg iter f) (hB : BlkOk X.N X.env.scope scope own) (hg : Blk X scope fun Y => PG Y tg t) (hgc : FGc X.K t (own.map (·.2)) fg) (he : Blk X scope fun Y => FE Y E0 elt fe)
    (hy : X.N[i]? = some y := by rfl) (hyl : X.env.scope.names.lookup y = some .local := by rfl) (hs : ∀ x, foldedSetIterable iter X.env x = pure x := by intro _; rfl) : FS X E (.Assign [.Name y py] (.ListComp elt [⟨tg, iter, [], 0⟩] scope pos) spos) (set1 i (lcS f (own.map (·.2)) fg yes fe)) := by
  obtain ⟨wi, pi, hi⟩ := hi
  refine ⟨_, ps_setLc (te := tF X.K X.mg E0 fe) hc hN hy hyl hsw pi hB hg (fun _ _ _ _ _ => pts_nil) (fun s H C cl fp => (he s H C cl fp).uni) hs, fun g ρ S σ H μ Dn hK hM hE hS hL hp => ?_⟩
  refine lc_read hi hgc (fun g ρ S σ H μ Q hK hM hE hS hL hp => hp.here hS) (fun g ρ S σ H μ Q hK hM hE hS hL hp => ⟨g, ρ, S, μ, hK, hM, hE, hS, hL, hp⟩) g ρ S σ H μ _ hK hM hE hS hL (hp.seq fun x S1 H1 μ1 s1 e1 p1 v rv => ?_)
  exact p1.here s1 _ ((hL.ext e1).set rv)
theorem fs_setLcIf {i : Nat} {y : Str} {py spos : Pos} (hc : X.calm = true) (hN : X.N.Nodup) (hsw : swapsWith (.ListComp elt [⟨tg, iter, [c], 0⟩] scope pos) (some (.Name y py)) spos.line X.env = pure true) (hi : FI X E tg iter f) (hB : BlkOk X.N X.env.scope scope own) (hg : Blk X scope fun Y => PG Y tg t) (hgc : FGc X.K t (own.map (·.2)) fg) (ht : Blk X scope fun Y => FT Y E0 c ft) (he : Blk X scope fun Y => FE Y E0 elt fe)
    (hy : X.N[i]? = some y := by rfl) (hyl : X.env.scope.names.lookup y = some .local := by rfl) (hs : ∀ x, foldedSetIterable iter X.env x = pure x := by intro _; rfl) : FS X E (.Assign [.Name y py] (.ListComp elt [⟨tg, iter, [c], 0⟩] scope pos) spos) (set1 i (lcS f (own.map (·.2)) fg ft fe)) := by
  obtain ⟨wi, pi, hi⟩ := hi
  refine ⟨_, ps_setLc (te := tF X.K X.mg E0 fe) hc hN hy hyl hsw pi hB hg (fun s H C cl fp => pts_one (t := tFT X.K X.mg E0 ft) (ht s H C cl fp).uni) (fun s H C cl fp => (he s H C cl fp).uni) hs, fun g ρ S σ H μ Dn hK hM hE hS hL hp => ?_⟩
  refine lc_read hi hgc (fun g ρ S σ H μ Q hK hM hE hS hL hp => ⟨g, ρ, S, μ, hK, hM, hE, hS, hL, hp⟩) (fun g ρ S σ H μ Q hK hM hE hS hL hp => ⟨g, ρ, S, μ, hK, hM, hE, hS, hL, hp⟩) g ρ S σ H μ _ hK hM hE hS hL (hp.seq fun x S1 H1 μ1 s1 e1 p1 v rv => ?_)
  exact p1.here s1 _ ((hL.ext e1).set rv)
end
end Fx
end
section
namespace Fx
open PySem PySem.Spec PyProof.Rows L2 RZ RT
open Classical
/-! ### dicts with keys that are ints or texts -/
abbrev KD (K : PySem.W.Frag) (H : Hp) (μ : List Addr) : List (Key × V) → List (Key × D) → Prop := Paired fun (p : Key × V) (q : Key × D) => p.1 = q.1 ∧ VR K H μ p.2 q.2
def keyD : D → Option Key
  | .d (.int i) => some (.inl i)
  | .d (.str s) => some (.inr s)
  | _ => none
theorem keyD_v {K : PySem.W.Frag} {H : Hp} {μ : List Addr} {v : V} {d : D} {k : Key} (r : VR K H μ v d) (e : keyD d = some k) : v = kV k := by
  unfold keyD at e
  split at e
  · cases e; exact VD.inv_int r
  · cases e; exact VD.inv_str r
  · cases e
def valD : List (Key × D) → Key → Option D
  | [], _ => none
  | p :: r, k => if p.1 = k then some p.2 else valD r k
def putD : List (Key × D) → Key → D → List (Key × D)
  | [], k, v => [(k, v)]
  | p :: r, k, v => if p.1 = k then (k, v) :: r else p :: putD r k v
theorem KD.val {K : PySem.W.Frag} {H : Hp} {μ : List Addr} {k : Key} : ∀ {l : List (Key × V)} {m : List (Key × D)}, KD K H μ l m → (∀ d, valD m k = some d → ∃ v, valV l k = some v ∧ VR K H μ v d) ∧ (valD m k = none → valV l k = none)
  | _, _, .nil => ⟨fun d e => (by cases e), fun _ => rfl⟩
  | p :: l, q :: m, .cons h hs => by
    have ih := KD.val (k := k) hs
    by_cases e : q.1 = k
    · have e' : p.1 = k := h.1.trans e
      refine ⟨fun d z => ⟨p.2, valV_pos e', ?_⟩, fun z => ?_⟩
      · rw [valD, if_pos e] at z; cases z; exact h.2
      · rw [valD, if_pos e] at z; cases z
    · have e' : ¬ p.1 = k := fun z => e (h.1.symm.trans z)
      rw [valD, if_neg e, valV_neg e']
      exact ih
theorem KD.keys {K : PySem.W.Frag} {H : Hp} {μ : List Addr} : ∀ {l : List (Key × V)} {m : List (Key × D)}, KD K H μ l m → l.map Prod.fst = m.map Prod.fst
  | _, _, .nil => rfl
  | _, _, .cons h hs => by simp [h.1, KD.keys hs]
theorem putK_cons {p : Key × V} {l : List (Key × V)} {k : Key} {v : V} (hn : ((p :: l).map Prod.fst).Nodup) : putK (p :: l) k v = if p.1 = k then (k, v) :: l else p :: putK l k v := by
  by_cases e : p.1 = k
  · rw [if_pos e]
    unfold putK
    rw [if_pos (by simp [e])]
    have hl : l.map (fun kv => if kv.1 = k then (kv.1, v) else kv) = l := by
      have hn' : p.1 ∉ l.map Prod.fst := (List.nodup_cons.mp hn).1
      clear hn
      induction l with
      | nil => rfl
      | cons q l ih =>
        have h1 : ¬ q.1 = k := fun z => hn' (by simp [e, z])
        rw [List.map_cons, if_neg h1, ih (fun z => hn' (by simp at z ⊢; exact .inr z))]
    rw [List.map_cons, if_pos e, hl, e]
  · rw [if_neg e]
    unfold putK
    have ha : ((p :: l).any fun kv => decide (kv.1 = k)) = (l.any fun kv => decide (kv.1 = k)) := by simp [e]
    rw [ha]
    split
    · rw [List.map_cons, if_neg e]
    · rfl
theorem KD.put {K : PySem.W.Frag} {H : Hp} {μ : List Addr} {k : Key} {v : V} {d : D} (r : VR K H μ v d) : ∀ {l : List (Key × V)} {m : List (Key × D)}, KD K H μ l m → (m.map Prod.fst).Nodup → KD K H μ (putK l k v) (putD m k d)
  | _, _, .nil, _ => .cons ⟨rfl, r⟩ .nil
  | p :: l, q :: m, .cons h hs, hn => by
    have hn2 : ((p :: l).map Prod.fst).Nodup := by
      have : (p :: l).map Prod.fst = (q :: m).map Prod.fst := by simp [h.1, KD.keys hs]
      rw [this]; exact hn
    rw [putK_cons hn2, putD]
    by_cases e : q.1 = k
    · rw [if_pos e, if_pos (h.1.trans e)]
      exact .cons ⟨rfl, r⟩ hs
    · rw [if_neg e, if_neg fun z => e (h.1.symm.trans z)]
      exact .cons h (KD.put r hs (List.nodup_cons.mp hn).2)
section
variable {X : Cx} {E : XK}
def dgetF (a k : D) : M D := fun S => match a, keyD k with
  | .ob n, some key => match S[n]? with
    | some (.dk l) => match valD l key with
      | some v => .ok v S
      | none => .stuck
    | _ => .stuck
  | _, _ => .stuck
theorem fe_dget {o i : Expr} {pos : Pos} {fo fi : Sl → M D} (hu : X.A.units + 64 < cLine) (ho : FE X E o fo) (hi : FE X E i fi) (hs : NoSl i := by intro _ _; rfl) : FE X E (.Subscript o i pos) (op2 dgetF fo fi) := by
  obtain ⟨to, po, ho⟩ := ho
  obtain ⟨ti, pi, hi⟩ := hi
  refine ⟨_, pe_dget (by omega) po pi hs, fun g ρ S σ H μ Q hK hM hE hS hL hp => ?_⟩
  refine ho g ρ S σ H μ _ hK hM hE hS hL (hp.seq fun x S1 H1 μ1 s1 e1 p1 v rv => ?_)
  refine hi g ρ S1 σ H1 μ1 _ hK hM hE s1 (hL.ext e1) (p1.seq fun y S2 H2 μ2 s2 e2 p2 u ru => ?_)
  unfold dgetF at p2
  split at p2
  · rename_i n key ek
    split at p2
    · rename_i l q
      split at p2
      · rename_i d q2
        obtain ⟨a, ea, rfl⟩ := rv.ext e2
        obtain ⟨vs, h1, h2⟩ := s2.dk ea q
        obtain ⟨w, h3, h4⟩ := (KD.val (k := key) h2).1 d q2
        rw [keyD_v ru ek]
        exact ⟨a, w, rfl, by rw [← h3]; exact DGet.k h1, p2.here s2 _ h4⟩
      · exact p2.elim
    · exact p2.elim
  · exact p2.elim
def dinF (b : Bool → Bool) (k a : D) : M D := fun S => match a, keyD k with
  | .ob n, some key => match S[n]? with
    | some (.dk l) => .ok (.d (.bool (b (valD l key).isSome))) S
    | _ => .stuck
  | _, _ => .stuck
theorem fe_din {o i : Expr} {pos : Pos} {fo fi : Sl → M D} (hu : X.A.units + 64 < cLine) (hi : FE X E i fi) (ho : FE X E o fo) (hm : behindInMarks .In o = false := by rfl) : FE X E (.Compare i [.In] [o] pos) (op2 (dinF id) fi fo) := by
  obtain ⟨to, po, ho⟩ := ho
  obtain ⟨ti, pi, hi⟩ := hi
  refine ⟨_, pe_cmp (pc_din (by omega) pi po) hm, fun g ρ S σ H μ Q hK hM hE hS hL hp => ?_⟩
  refine hi g ρ S σ H μ _ hK hM hE hS hL (hp.seq fun y S1 H1 μ1 s1 e1 p1 u ru => ?_)
  refine ho g ρ S1 σ H1 μ1 _ hK hM hE s1 (hL.ext e1) (p1.seq fun x S2 H2 μ2 s2 e2 p2 v rv => ?_)
  unfold dinF at p2
  split at p2
  · rename_i n key ek
    split at p2
    · rename_i l q
      obtain ⟨a, ea, rfl⟩ := rv
      obtain ⟨vs, h1, h2⟩ := s2.dk ea q
      rw [keyD_v (ru.ext e2) ek]
      refine ⟨a, valV vs key, rfl, DGet.k h1, p2.here s2 _ ?_⟩
      have hv := KD.val (k := key) h2
      cases qv : valD l key with
      | none => rw [hv.2 qv]; exact .bl _
      | some d =>
        obtain ⟨w, h3, _⟩ := hv.1 d qv
        rw [h3]; exact .bl _
    · exact p2.elim
  · exact p2.elim
/-- d[k] = v -/
def dputF (a k v : D) : M Unit := fun S => match a, keyD k with
  | .ob n, some key => match S[n]? with
    | some (.dk l) => if l.length < sizeLine ∧ (l.map Prod.fst).Nodup then .ok () (S.set n (.dk (putD l key v))) else .stuck
    | _ => .stuck
  | _, _ => .stuck
def dputS (fo fi fv : Sl → M D) : Sl → M Oc := fun ρ => fv ρ >>= fun v => fo ρ >>= fun o => fi ρ >>= fun i => dputF o i v >>= fun _ => M.pure (.nx ρ)
theorem fs_dput {o i value : Expr} {pos pos' : Pos} {fo fi fv : Sl → M D} (hu : X.A.units + 64 < cLine) (ho : FE X E o fo) (hi : FE X E i fi) (hv : FE X E value fv) (hs : swapsWith value (some (.Subscript o i pos')) pos.line X.env = pure false := by rfl) : FS X E (.Assign [.Subscript o i pos'] value pos) (dputS fo fi fv) := by
  obtain ⟨to, po, ho⟩ := ho
  obtain ⟨ti, pi, hi⟩ := hi
  obtain ⟨tv, pv, hv⟩ := hv
  refine ⟨_, ps_dput (by omega) po pi pv hs, fun g ρ S σ H μ Dn hK hM hE hS hL hp => ?_⟩
  refine hv g ρ S σ H μ _ hK hM hE hS hL (hp.seq fun z S0 H0 μ0 s0 e0 p0 w rw' => ?_)
  refine ho g ρ S0 σ H0 μ0 _ hK hM hE s0 (hL.ext e0) (p0.seq fun x S1 H1 μ1 s1 e1 p1 v rv => ?_)
  refine hi g ρ S1 σ H1 μ1 _ hK hM hE s1 (hL.ext (e0.trans e1)) (p1.seq fun y S2 H2 μ2 s2 e2 p2 u ru => ?_)
  have h2 := p2.bind
  unfold dputF at h2
  split at h2
  · rename_i n key ek
    split at h2
    · rename_i l q
      split at h2
      · rename_i c
        obtain ⟨a, ea, rfl⟩ := rv.ext e2
        obtain ⟨vs, h3, h4⟩ := s2.dk ea q
        have hw := rw'.ext (e1.trans e2)
        rw [keyD_v ru ek]
        have hl : vs.length = l.length := by
          have := congrArg List.length (KD.keys h4)
          simpa using this
        refine ⟨a, _, rfl, DPut.k h3 (by rw [hl]; exact c.1), ?_⟩
        have s3 := s2.put ea (ho := .dK (putK vs key w)) (o := .dk (putD l key z)) (KD.put hw h4 c.2)
        exact (h2 _ _ s3 (s2.ext_put ea)).here s3 _ (hL.ext (e0.trans (e1.trans (e2.trans (s2.ext_put ea)))))
      · exact h2.elim
    · exact h2.elim
  · exact h2.elim
/-- {} -/
theorem fe_dnew {pos : Pos} : FE X E (.Dict [] [] pos) (fun _ S => .ok (.ob S.length) (S ++ [.dk []])) :=
  ⟨_, pe_dnewK, fun g ρ S σ H μ Q hK hM hE hS hL hp q nq => hp _ _ (hS.alloc (ho := .dK []) nq (show Paired _ _ _ from .nil)) (ext_alloc nq) _ hS.vr_new⟩
/-- {k: v, ..}: the pairs -/
def FPs (X : Cx) (E : XK) (pos : Pos) (ks : List (Option Expr)) (vs : List Expr) (f : Sl → M (List (Key × D))) : Prop :=
  ∃ trs, PPs X pos ks vs trs ∧ ∀ (g : G) (ρ : Sl) (S : Sto) (σ : L2.St) (H : Hp) (μ : List Addr) (Q : List (V × V) → Hp → Prop), g.K = X.K → g.mg = X.mg → g.E = E → SR g.K g.H0 g.μ0 S H μ → LR g.K H μ σ ρ →
    Post g H μ (fun ds _ H' μ' => ∀ kvs : List (Key × V), KD g.K H' μ' kvs ds → Q (kvs.map fun kv => (kV kv.1, kv.2)) H') (f ρ S) → tPairs trs σ H Q
def nilP : Sl → M (List (Key × D)) := fun _ => M.pure []
def consP (k f : Sl → M D) (r : Sl → M (List (Key × D))) : Sl → M (List (Key × D)) := fun ρ => k ρ >>= fun kd => f ρ >>= fun d => r ρ >>= fun ds S => match keyD kd with
  | some key => .ok ((key, d) :: ds) S
  | none => .stuck
theorem fps_nil {pos : Pos} : FPs X E pos [] [] nilP := ⟨_, pps_nil, fun g ρ S σ H μ Q hK hM hE hS hL hp => hp.here hS [] .nil⟩
theorem fps_cons {pos : Pos} {k v : Expr} {ks : List (Option Expr)} {vs : List Expr} {fk fv : Sl → M D} {r : Sl → M (List (Key × D))} (hk : FE X E k fk) (hv : FE X E v fv) (hr : FPs X E pos ks vs r) : FPs X E pos (some k :: ks) (v :: vs) (consP fk fv r) := by
  obtain ⟨tk, pk, hk⟩ := hk
  obtain ⟨tv, pv, hv⟩ := hv
  obtain ⟨trs, pr, hr⟩ := hr
  refine ⟨_, pps_cons pk pv pr, fun g ρ S σ H μ Q hK hM hE hS hL hp => ?_⟩
  refine hk g ρ S σ H μ _ hK hM hE hS hL (hp.seq fun x S1 H1 μ1 s1 e1 p1 u ru => ?_)
  refine hv g ρ S1 σ H1 μ1 _ hK hM hE s1 (hL.ext e1) (p1.seq fun y S2 H2 μ2 s2 e2 p2 w rw' => ?_)
  refine hr g ρ S2 σ H2 μ2 _ hK hM hE s2 (hL.ext (e1.trans e2)) (p2.seq fun ds S3 H3 μ3 s3 e3 p3 kvs rk => ?_)
  split at p3
  · rename_i key ek
    have := p3.here s3 ((key, w) :: kvs) (.cons ⟨rfl, rw'.ext e3⟩ rk)
    rw [keyD_v ru ek]
    exact this
  · exact p3.elim
theorem Post.aside {g : G} {H : Hp} {μ : List Addr} {α β : Type} {P : β → Sto → Hp → List Addr → Prop} {P' : α → Sto → Hp → List Addr → Prop} {m : M α} {k : α → M β} {S : Sto} {d : Addr} {ho : HO} (h0 : g.H0 d = none) (hm : d ∉ g.μ0) (h : Post g H μ P ((m >>= k) S))
    (f : ∀ a S' H' μ', SR g.K g.H0 g.μ0 S' H' μ' → d ∉ μ' → H' d = some ho → Ext H μ H' μ' → Post g H' μ' P (k a S') → P' a S' H' μ') : Post ⟨g.K, g.mg, g.E, with1 g.H0 d ho, g.μ0⟩ H μ P' (m S) := by
  have h1 := h.bind
  revert h1
  cases m S with
  | stuck => exact fun h => h
  | ex x S' =>
    intro h1 H' μ' cls dd s e
    obtain ⟨s1, hd, e1⟩ := s.without1 h0 hm
    exact h1 H' μ' cls dd s1 e
  | ok a S' =>
    intro h1 H' μ' s e
    obtain ⟨s1, hd, e1⟩ := s.without1 h0 hm
    exact f a S' H' μ' s1 hd e1 e (h1 H' μ' s1 e)
def dispK (l : List (Key × D)) : M D := fun S => if l.length ≤ 15 ∧ (l.map Prod.fst).Nodup then .ok (.ob S.length) (S ++ [.dk l]) else .stuck
def dispF (f : Sl → M (List (Key × D))) : Sl → M D := fun ρ => f ρ >>= dispK
theorem putK_new {l : List (Key × V)} {k : Key} {v : V} (h : k ∉ l.map Prod.fst) : putK l k v = l ++ [(k, v)] := by
  unfold putK
  rw [if_neg]
  simp only [List.any_eq_true, decide_eq_true_eq, not_exists, not_and]
  intro x hx e
  exact h (e ▸ List.mem_map_of_mem hx)
theorem mergeK_new : ∀ {l acc : List (Key × V)}, ((acc ++ l).map Prod.fst).Nodup → mergeK acc l = acc ++ l
  | [], acc, _ => by simp [mergeK]
  | p :: l, acc, h => by
    have h1 : p.1 ∉ acc.map Prod.fst := fun z => by
      rw [List.map_append, List.nodup_append] at h
      exact h.2.2 p.1 z p.1 (by simp) rfl
    show mergeK (putK acc p.1 p.2) l = _
    rw [putK_new h1, mergeK_new (by simpa using h)]
    simp
theorem fe_disp {pos : Pos} {keys : List (Option Expr)} {values : List Expr} {f : Sl → M (List (Key × D))} (h : FPs X E pos keys values f) (hall : keys.all (·.isSome) = true := by rfl) (hl : keys.length = values.length := by rfl) (h0 : keys ≠ [] := by exact fun z => by cases z)
    (h15 : keys.length ≤ 15 := by decide) : FE X E (.Dict keys values pos) (dispF f) := by
  obtain ⟨trs, p, h⟩ := h
  refine ⟨_, pe_disp p hall hl h0 h15, fun g ρ S σ H μ Q hK hM hE hS hL hp d hd => ?_⟩
  obtain ⟨dμ, d0⟩ := hS.fresh hd
  have dm : d ∉ g.μ0 := fun z => dμ (hS.pre.subset z)
  have s1 := hS.aside (o := .dK []) hd
  have hp1 := hp.ext (ext_aside (o := .dK []) hd)
  have hL1 := hL.ext (ext_aside (o := .dK []) hd)
  refine h ⟨g.K, g.mg, g.E, with1 g.H0 d (.dK []), g.μ0⟩ ρ S σ _ μ _ hK hM hE (s1.with1 dμ upd_same) hL1 ((show Post g _ μ _ ((f ρ >>= dispK) S) from hp1).aside d0 dm fun l S2 H2 μ2 s2 dμ2 dH2 e2 p2 kvs rk => ?_)
  unfold dispK at p2
  split at p2
  · rename_i c
    have hk := KD.keys rk
    have hlen : kvs.length = l.length := by simpa using congrArg List.length hk
    refine ⟨dH2, kvs, rfl, by omega, ?_⟩
    have nd : (kvs.map Prod.fst).Nodup := by rw [hk]; exact c.2
    have em : mergeK [] kvs = kvs := by rw [mergeK_new (acc := []) (by simpa using nd)]; simp
    rw [em]
    have kp : Keep H2 (upd H2 d (.dK kvs)) := keep_at (fun xs z => by rw [dH2] at z; cases z) (fun o u z => by rw [dH2] at z; cases z)
    have s3 := s2.side (ho := .dK kvs) dμ2 d0 kp
    have rk2 : KD g.K (upd H2 d (.dK kvs)) μ2 kvs l := paired_imp (fun _ _ q => ⟨q.1, q.2.ext ⟨kp, List.prefix_rfl⟩⟩) rk
    exact p2 _ (μ2 ++ [d]) (s3.adopt (o := .dk l) dμ2 d0 upd_same rk2) ⟨kp, List.prefix_append _ _⟩ _ s2.vr_new
  · exact p2.elim
/-- xs[::-1] -/
def revF (a : D) : M D := fun S => match listOf S a with
  | some l => .ok (.ob S.length) (S ++ [.lst l.reverse])
  | none => .stuck
theorem VRs.reverse {K : PySem.W.Frag} {H : Hp} {μ : List Addr} : ∀ {v : List V} {d : List D}, VRs K H μ v d → VRs K H μ v.reverse d.reverse
  | _, _, .nil => .nil
  | _, _, .cons h hs => by
    rw [List.reverse_cons, List.reverse_cons]
    exact VRs.append (VRs.reverse hs) (.cons h .nil)
theorem fe_rev {e : Expr} {k : Nat} {p1 p2 p3 pos : Pos} {f : Sl → M D} (he : FE X E e f) : FE X E (.Subscript e (.Slice none none (some (.UnaryOp .USub (.Constant (.int 1) k p1) p2)) p3) pos) (fun ρ => f ρ >>= revF) := by
  obtain ⟨te, pe, he⟩ := he
  refine ⟨_, pe_revL pe, fun g ρ S σ H μ Q hK hM hE hS hL hp => ?_⟩
  refine he g ρ S σ H μ _ hK hM hE hS hL (hp.seq fun x S1 H1 μ1 s1 e1 p1 v rv => ?_)
  unfold revF at p1
  split at p1
  · rename_i l q
    obtain ⟨a, us, rfl, h1, h2⟩ := s1.list rv q
    exact ⟨a, us, rfl, hK ▸ h1, fun q nq => p1 _ _ (s1.alloc (ho := .lst us.reverse) nq (VRs.reverse h2)) (ext_alloc nq) _ s1.vr_new⟩
  · exact p1.elim
/-- a, b, c = x, y, z -/
def par3 (i j l : Nat) (f : Sl → M (List D)) : Sl → M Oc := fun ρ => f ρ >>= fun ds => match ds with
  | [a, b, c] => M.pure (.nx (((ρ.set i (some a)).set j (some b)).set l (some c)))
  | _ => stuck
theorem vrs3 {K : PySem.W.Frag} {H : Hp} {μ : List Addr} {vs : List V} {a b c : D} (h : VRs K H μ vs [a, b, c]) : ∃ v u w, vs = [v, u, w] ∧ VR K H μ v a ∧ VR K H μ u b ∧ VR K H μ w c := by
  cases h with
  | cons h hs => cases hs with
    | cons h' hs => cases hs with
      | cons h2 hs => cases hs; exact ⟨_, _, _, rfl, h, h', h2⟩
theorem fs_par3 {i j l : Nat} {x y z : Str} {a b c : Expr} {px py pz pt pos : Pos} {kt k2 pt2} {f : Sl → M (List D)} (hc : X.calm = true) (hN : X.N.Nodup) (ha : FA X E [a, b, c] f) (hi : X.N[i]? = some x := by rfl) (hj : X.N[j]? = some y := by rfl) (hl : X.N[l]? = some z := by rfl) (hij : i ≠ j := by decide) (hil : i ≠ l := by decide) (hjl : j ≠ l := by decide)
    (hx : X.env.scope.names.lookup x = some .local := by rfl) (hy : X.env.scope.names.lookup y = some .local := by rfl) (hz : X.env.scope.names.lookup z = some .local := by rfl)
    (hw : swappedStores [.Tuple [.Name x px, .Name y py, .Name z pz] kt pt] (.Tuple [a, b, c] k2 pt2) X.env = pure (some [x, y, z]) := by rfl) (hs : swapsWithSole [.Tuple [.Name x px, .Name y py, .Name z pz] kt pt] (.Tuple [a, b, c] k2 pt2) pos.line X.env = pure false := by rfl) :
    FS X E (.Assign [.Tuple [.Name x px, .Name y py, .Name z pz] kt pt] (.Tuple [a, b, c] k2 pt2) pos) (par3 i j l f) := by
  obtain ⟨ta, pa, ha⟩ := ha
  refine ⟨_, ps_par3 hc hN hi hj hl hij hil hjl hx hy hz pa hw hs, fun g ρ S σ H μ Dn hK hM hE hS hL hp => ?_⟩
  refine ha g ρ S σ H μ _ hK hM hE hS hL (hp.seq fun ds S1 H1 μ1 s1 e1 p1 vs rv => ?_)
  split at p1
  · obtain ⟨v, u, w, rfl, r1, r2, r3⟩ := vrs3 rv
    exact ⟨v, u, w, rfl, p1.here s1 _ ((((hL.ext e1).set r1).set r2).set r3)⟩
  · exact p1.elim
end
end Fx
end
section
namespace Fx
open PySem PySem.Spec PyProof.Rows L2
/-! ### the end of a law's row -/
section
variable {P : Program} {w : World} {K : PySem.W.Frag} {mg mb : Str → Option Value} {k : Nat} {fa a : Addr} {fd : FuncData} {x : Str} {s₁ : Shared}
/-- the state at the law's call, nothing tracked but (perhaps) the script -/
theorem env0_top {H : Hp} (KX : K.In s₁.heap) (hns : s₁.heap.Ns mainGlobals mg) (hb : s₁.heap.Ns builtinsNs mb) (hbb : ∀ x : Str, x ≠ "__name__" → mb x = bootBuiltins x) (hlim : s₁.heap.NoLimit) (hg : s₁.gens = #[]) (hok : HOk P w H s₁.heap)
    (hA : ∀ b, H b ≠ none → ∃ o, s₁.heap.get? b = some o ∧ (∀ es ep, o.data ≠ .dict es ep) ∧ K.lookup b = none) : Env0 P w K mg (hidT s₁.heap H) callerA [] s₁ H := by
  have ns_ : ∀ {b : Addr} {m : Str → Option Value}, s₁.heap.Ns b m → (hidT s₁.heap H).Ns b m := by
    rintro b m ⟨o, es, ep, e, d, r⟩
    refine ⟨o, es, ep, hidT_get e ?_, d, r⟩
    cases q : H b with
    | none => rfl
    | some u =>
      obtain ⟨o', e', nd, _⟩ := hA b (by rw [q]; exact fun z => nomatch z)
      rw [e] at e'; cases e'
      exact absurd d (nd es ep)
  have kin : K.In (hidT s₁.heap H) := by
    intro b o e
    refine hidT_get (KX b o e) ?_
    cases q : H b with
    | none => rfl
    | some u =>
      obtain ⟨_, _, _, z⟩ := hA b (by rw [q]; exact fun z => nomatch z)
      rw [e] at z; cases z
  obtain ⟨mc, l1, l2⟩ := hlim
  exact { frames := rfl, mod := ⟨kin, ns_ hns, ⟨mb, ns_ hb, hbb⟩, ⟨mc, ns_ l1, l2⟩⟩, bs := fun b o e => of_hidT e, bsz := Nat.le_of_eq (hidT_size _ _), funs := trivial, frf := fun b hb => by simp [frs] at hb, hok := hok, bare := .of_eq hg }
theorem law_H {H : Hp} {ns : List Int} {Fl : List D → M D} (KX : K.In s₁.heap) (hns : s₁.heap.Ns mainGlobals mg) (hb : s₁.heap.Ns builtinsNs mb) (hbb : ∀ x : Str, x ≠ "__name__" → mb x = bootBuiltins x) (hlim : s₁.heap.NoLimit) (hg : s₁.gens = #[]) (hok : HOk P w H s₁.heap)
    (hA : ∀ b, H b ≠ none → ∃ o, s₁.heap.get? b = some o ∧ (∀ es ep, o.data ≠ .dict es ep) ∧ K.lookup b = none) (hO : Only H) (hS : FzL K H a (ns.map V.int)) (hr : Room k callerA)
    (F : ∀ base : Heap, K.In base → base.Ns mainGlobals mg → FnG P w K mg base k fa fd [x] Fl) (hbind : ∀ (s : Shared) (u : Value), BindsTo s fd ⟨[u], []⟩ [(x, u)]) (hF : Fl [.d (.list (ns.map .int))] [] = .ok (.d (.bool true)) []) :
    codeAny (model P w) callerA (.call (.ref fa) ⟨[.ref a], []⟩) (fun r s' => r = .ok (.ret (.bool true)) ∧ OldK s₁.heap s'.heap ∧ s'.os = s₁.os ∧ AllBare s'.gens) s₁ := by
  have e0 := env0_top (P := P) (w := w) KX hns hb hbb hlim hg hok hA
  have vd : ∀ ns : List Int, VDs K H (ns.map V.int) (ns.map PyData.int) := fun ns => by
    induction ns with
    | nil => exact .nil
    | cons i l ih => exact .cons (.int i) ih
  have sp : spF K mg 1 Fl [.ref a] H (fun v _ => v = .bl true) fun _ _ _ => False := by
    refine ⟨rfl, [], [], [.d (.list (ns.map .int))], ⟨rfl, List.nodup_nil, fun n a o e => by simp at e, List.prefix_rfl, fun a h => by simp at h, fun a o e _ => e⟩, .cons (.lst hS (vd ns)) .nil, ?_⟩
    rw [hF]
    intro H' μ' _ _ v r
    exact VD.inv_bl r
  refine codeAny_mono ((F _ e0.mod.kin e0.mod.glob).run callerA [] s₁ H ⟨[.ref a], []⟩ [.ref a] [.ref a] _ _ rfl hr e0 (hbind s₁ (.ref a)) (.cons rfl .nil) sp) ?_
  rintro (e | fl) s' h
  · exact absurd h fun h => by
      obtain ⟨_, _, _, _, _, _, _, _, _, _, _, _, z⟩ := h
      exact z
  · cases fl with
    | ret u =>
      obtain ⟨v, H', os, bare, un, hok', r', rfl⟩ := h
      cases r'
      refine ⟨rfl, OldK.of_keep fun b o e => ?_, os, bare⟩
      rcases hO b with q | ⟨ob, xs, q⟩
      · exact un.keep b o e q (by simp [frs]) (by simp)
      · have e1 := (hok b _ q).1
        have e2 := (hok' b _ (un.frzs b ob _ q)).1
        rw [e] at e1; cases e1; exact e2
    | next => exact h.elim
    | brk => exact h.elim
    | cont => exact h.elim
theorem law_G {vs : List Value} {ns : List Int} {Fl : List D → M D} (KX : K.In s₁.heap) (hns : s₁.heap.Ns mainGlobals mg) (hb : s₁.heap.Ns builtinsNs mb) (hbb : ∀ x : Str, x ≠ "__name__" → mb x = bootBuiltins x) (hlim : s₁.heap.NoLimit) (hg : s₁.gens = #[])
    (ha : s₁.heap.get? a = some { cls := .type "list", data := .seq vs.toArray }) (hi : IntsAre vs ns) (hl : ns.length ≤ sizeLine) (hr : Room k callerA)
    (F : ∀ base : Heap, K.In base → base.Ns mainGlobals mg → FnG P w K mg base k fa fd [x] Fl) (hbind : ∀ (s : Shared) (u : Value), BindsTo s fd ⟨[u], []⟩ [(x, u)]) (hF : Fl [.d (.list (ns.map .int))] [] = .ok (.d (.bool true)) []) :
    codeAny (model P w) callerA (.call (.ref fa) ⟨[.ref a], []⟩) (fun r s' => r = .ok (.ret (.bool true)) ∧ OldK s₁.heap s'.heap ∧ s'.os = s₁.os ∧ AllBare s'.gens) s₁ := by
  have rv := vals_ints hi
  have lv := hi.length
  cases hk : K.lookup a with
  | some o =>
    have e := KX a o hk
    rw [ha] at e
    cases e
    exact law_H (H := fun _ => none) KX hns hb hbb hlim hg (fun b u z => nomatch (show (none : Option HO) = some u from z)) (fun b z => absurd rfl z) (fun _ => .inl rfl) (.inr ⟨_, vs.toArray, _, hk, rfl, rfl, rfl, by rw [List.size_toArray, lv]; exact hl, by simpa using rv⟩) hr F hbind hF
  | none =>
    let ob : Obj := { cls := .type "list", data := .seq vs.toArray }
    let H : Hp := fun b => if b = a then some (.frz ob (.lst (ns.map V.int))) else none
    have at_a : H a = some (.frz ob (.lst (ns.map V.int))) := if_pos rfl
    have only : ∀ b u, H b = some u → b = a ∧ u = .frz ob (.lst (ns.map V.int)) := fun b u z => by
      by_cases q : b = a
      · subst q; rw [at_a] at z; cases z; exact ⟨rfl, rfl⟩
      · rw [show H b = none from if_neg q] at z; cases z
    refine law_H (H := H) KX hns hb hbb hlim hg (fun b u z => ?_) (fun b z => ?_) (fun b => ?_) (.inl ⟨ob, at_a⟩) hr F hbind hF
    · obtain ⟨rfl, rfl⟩ := only b u z
      exact ⟨ha, by rw [List.length_map]; exact hl, vs, _, rv, ha⟩
    · cases q : H b with
      | none => exact absurd q z
      | some u =>
        obtain ⟨rfl, _⟩ := only b u q
        exact ⟨_, ha, fun es ep z => (nomatch z), hk⟩
    · cases q : H b with
      | none => exact .inl rfl
      | some u =>
        obtain ⟨_, rfl⟩ := only b u q
        exact .inr ⟨_, _, rfl⟩
end
/-- the goal that k_head leaves, from the law's promise -/
theorem walk_G {l : PySem.W.OpenLaw} {n k : Nat} {q : Program} {loose : List Str} {XP : (Str → Option Value) → Heap → Prop} {YP : World → Heap → Prop} {d : DefRec} {K : Params → PySem.W.Frag} {x : Str} {Fl : List D → M D}
    (hn : l.most = some n) (hn2 : n ≤ sizeLine) (hdf : d.params.defaults = []) (hr : Room k callerA) (hY : ∀ (w : World) (h : Heap), YP w h → (K w.params).In h)
    (F : ∀ (w : World) (mg : Str → Option Value) (fa : Addr) (h : Heap), (K w.params).In h → h.Ns mainGlobals mg → mg d.name = some (.ref fa) →
      ∃ fd : FuncData, (∀ (s : Shared) (u : Value), BindsTo s fd ⟨[u], []⟩ [(x, u)]) ∧ ∀ base : Heap, (K w.params).In base → base.Ns mainGlobals mg → FnG l.prog w (K w.params) mg base k fa fd [x] Fl)
    (hF : ∀ ns : List Int, ns.length ≤ n → Fl [.d (.list (ns.map .int))] [] = .ok (.d (.bool true)) []) : PySem.W.WalkO q loose XP YP l.row.toRowW d [] (fun f vs => PySem.call f vs) := by
  refine Att.attach_call hn hdf ?_
  intro w s₀ s₁ mg mb fa o pm cd doc a vs ns G Y ho hd hcd hmg hobj hints hlen hg
  obtain ⟨fd, b, f⟩ := F w mg fa _ (hY w _ Y) G.T.g hmg
  exact law_G (hY w _ Y) G.T.g G.T.b G.T.builtins G.T.nolimit hg hobj hints (Nat.le_trans hlen hn2) hr f b (hF ns hlen)
end Fx
end
section
namespace Fx
open PySem PySem.Spec PyProof.Rows L2 RZ RT
open Classical
theorem tuple_mul_one (l : Addr) (items : Array Value) (n : Nat) (dd : Option Addr) (sl : Array (Option Value)) (u : Tok) :
    Meets (Builtin.«tuple.__mul__» ⟨[.ref l, .int 1 u], []⟩) (fun _ R s => s.heap.get? l = some { cls := .type "tuple", dict := dd, data := .seq items n, slots := sl } ∧ R (.ok (.ret (Value.ref l))) s) :=
  .of_wp fun prog w A R s h => by
    obtain ⟨hp, g, d, tk, os⟩ := s
    obtain ⟨hl, h⟩ := h
    have f1 := AutoSeq1.idx_int
    have c0 : (decide ((1 : Int) < -(2 ^ 63)) || decide ((1 : Int) ≥ 2 ^ 63)) = false := by decide
    have c1 : (items.isEmpty || (1 : Int) == 1) = true := by simp
    wp_walk using wpAny_loadPart' hl
    repeat (first
      | (refine wpAny_ite_false (decide_eq_false (by rw [c0]; exact Bool.false_ne_true)) ?_; wp_walk using wpAny_loadPart' hl)
      | (refine wpAny_ite_true (decide_eq_true (by rw [c1])) ?_; wp_walk using wpAny_loadPart' hl))
    exact ⟨_, rfl, h⟩
section
variable {X : Cx} {E : XK}
def rRep1 (K : PySem.W.Frag) : R2 := fun x y H Q => ∃ l xs, x = .ref l ∧ y = .int 1 ∧ SqT K H l xs ∧ Q (.ref l) H
theorem op_rep1 : OpR X (binaryOp .Mult) (rRep1 X.K) := by
  intro pins s σ H x y v u Q I rx ry h
  obtain ⟨l, xs, rfl, rfl, hT, q⟩ := h
  cases rx
  obtain ⟨t, rfl⟩ := ry
  obtain ⟨its, r, ⟨⟨cls, dd, data, sl⟩, ho, hc, n, hd⟩, hs⟩ := I.tuple hT
  simp only at hc hd
  subst hc hd
  exact wpAny_binaryOp_repeat_ref (T := "tuple") (U := "int") (by decide) ⟨_, ho, rfl⟩ (fun s' => typeIs_int s' 1 t) noFill_tuple_mul F.fills_int_mul F.slot_int_rmul repeat_tuple F.slot_int_index.lookup (call_meets F.slot_int_rmul (typeIs_int s 1 t) F.entry_int_rmul
    (F.args_int_rmul_2 _ _) (int_rmul_tuple 1 t l its.toArray n dd sl) ⟨ho, rfl, ⟨_, ho, rfl⟩, call_meets F.slot_tuple_mul ⟨_, ho, rfl⟩ F.entry_tuple_mul (F.args_tuple_mul_2 _ _) (tuple_mul_one l its.toArray n dd sl t) ⟨ho, ⟨.ref l, H, I, rfl, q⟩⟩⟩)
/-- tuple * int -/
def tRepF : D → D → M D := fun a b S => match a, b with
  | .d (.tuple ps), .d (.int k) => if ps ≠ [] ∧ 1 ≤ k ∧ k ≤ 1000 ∧ ps.length ≤ 1000 then .ok (.d (.tuple (List.replicate k.toNat ps).flatten)) S else .stuck
  | _, _ => .stuck
theorem opf_mulT : OpF X E (binaryOp .Mult) tRepF := by
  refine ⟨_, op_rep1.or op_repT, fun g S H μ a b v u Q hK hM hE hS ra rb hp => ?_⟩
  unfold tRepF at hp
  split at hp
  · rename_i ps k
    split at hp
    · rename_i c
      obtain ⟨c0, c1, c2, c3⟩ := c
      obtain ⟨l, xs, rfl, h1, h2⟩ := VD.inv_tup ra
      have hl := h2.length
      have hne : xs ≠ [] := fun z => c0 (by subst z; cases h2; rfl)
      by_cases e : k = 1
      · subst e
        refine .inl ⟨l, xs, rfl, VD.inv_int rb, hK ▸ h1, hp.here hS _ ?_⟩
        have : (List.replicate (1 : Int).toNat ps).flatten = ps := by simp
        rw [this]
        exact .tup h1 h2
      · refine .inr ⟨l, k, xs, rfl, VD.inv_int rb, hK ▸ h1, hne, by omega, c2, by omega, fun p np => ?_⟩
        exact hp _ _ (hS.aside np) (ext_aside np) _ (.tup (SqT.of upd_same) ((h2.flat _).keep (keep_new np)))
    · exact hp.elim
  · exact hp.elim
def mulF : D → D → M D := orF (fun a _ => isInt a) (pur2 (iop CMul fun i j => .int (i * j))) (orF (fun a _ => isTup a) tRepF lRepF)
theorem opf_mul : OpF X E (binaryOp .Mult) mulF := opf_orF opf_mulI (opf_orF opf_mulT opf_mulL)
/-- a tuple's slice -/
theorem fe_slT {e : Expr} {lo hi : Option Expr} {p2 pos : Pos} {f : Sl → M D} {l h : Sl → M (Option Int)} (he : FE X E e f) (hl : FO X E lo l) (hh : FO X E hi h) : FE X E (.Subscript e (.Slice lo hi none p2) pos) (slF slT f l h) := by
  obtain ⟨te, pe, he⟩ := he
  obtain ⟨tl, pl, hl⟩ := hl
  obtain ⟨th, ph, hh⟩ := hh
  refine ⟨_, pe_slice sl_tupA pe pl ph, fun g ρ S σ H μ Q hK hM hE hS hL hp => ?_⟩
  refine he g ρ S σ H μ _ hK hM hE hS hL (hp.seq fun x S1 H1 μ1 s1 e1 p1 v rv => ?_)
  refine hl g ρ S1 σ H1 μ1 _ hK hM hE s1 (hL.ext e1) (p1.seq fun y S2 H2 μ2 s2 e2 p2 => ?_)
  refine hh g ρ S2 σ H2 μ2 _ hK hM hE s2 (hL.ext (e1.trans e2)) (p2.seq fun z S3 H3 μ3 s3 e3 p3 => ?_)
  have r3 := rv.ext (e2.trans e3)
  unfold slT at p3
  split at p3
  · obtain ⟨a, xs, rfl, h1, h2⟩ := VD.inv_tup r3
    refine ⟨a, xs, rfl, hK ▸ h1, fun w => ?_, fun _ p np => ?_⟩
    · have : cutV xs y z = xs := by
        unfold cutV
        rw [w.1, w.2]; simp
      have h3 := h2.cut y z
      rw [this] at h3
      exact p3.here s3 _ (.tup h1 h3)
    · exact p3 _ _ (s3.aside np) (ext_aside np) _ (.tup (SqT.of upd_same) ((h2.cut y z).keep (keep_new np)))
  · exact p3.elim
/-- max, min of ints -/
def noneO (b : Bool → Bool) : Sto → D → D → Option D := fun _ a c => match a, c with
  | .d .none, .d .none => some (.d (.bool (b true)))
  | .d (.list _), .d .none => some (.d (.bool (b false)))
  | .d (.tuple _), .d .none => some (.d (.bool (b false)))
  | .d (.int _), .d .none => some (.d (.bool (b false)))
  | .d (.bool _), .d .none => some (.d (.bool (b false)))
  | .d (.str _), .d .none => some (.d (.bool (b false)))
  | .ob _, .d .none => some (.d (.bool (b false)))
  | _, _ => none
theorem noneO_run {b : Bool → Bool} {g : G} {S : Sto} {H : Hp} {μ : List Addr} {a c z : D} {v u : V} {Q : VK} (ra : VR g.K H μ v a) (rb : VR g.K H μ u c) (e : noneO b S a c = some z) (q : ∀ w, VR g.K H μ w z → Q w H) : u = .non ∧ Q (.bl (b (decide (v = .non)))) H := by
  unfold noneO at e
  split at e
  · cases e; rw [VD.inv_non ra]; exact ⟨VD.inv_non rb, by simpa using q _ (.bl _)⟩
  · cases e; obtain ⟨a, xs, rfl, _⟩ := VD.inv_lst ra; exact ⟨VD.inv_non rb, by simpa using q _ (.bl _)⟩
  · cases e; obtain ⟨a, xs, rfl, _⟩ := VD.inv_tup ra; exact ⟨VD.inv_non rb, by simpa using q _ (.bl _)⟩
  · cases e; rw [VD.inv_int ra]; exact ⟨VD.inv_non rb, by simpa using q _ (.bl _)⟩
  · cases e; rw [VD.inv_bl ra]; exact ⟨VD.inv_non rb, by simpa using q _ (.bl _)⟩
  · cases e; rw [VD.inv_str ra]; exact ⟨VD.inv_non rb, by simpa using q _ (.bl _)⟩
  · cases e; obtain ⟨a, _, rfl⟩ := ra; exact ⟨VD.inv_non rb, by simpa using q _ (.bl _)⟩
  · cases e
theorem opf_isN : OpF X E (compareOp .Is) (pur2 (noneO id)) := opf_pure op_isN fun g S H μ a b v u z Q _ _ ra rb e q => noneO_run ra rb e q
theorem opf_notN : OpF X E (compareOp .IsNot) (pur2 (noneO not)) := opf_pure op_notN fun g S H μ a b v u z Q _ _ ra rb e q => noneO_run ra rb e q
end
end Fx
end
section
namespace Fx
open PySem PySem.Spec PyProof.Rows L2 RZ RT
/-! ### short names, as the generator writes them -/
abbrev subF : D → D → M D := pur2 (iop (fun _ _ => True) fun i j => .int (i - j))
abbrev fdivF : D → D → M D := pur2 (iop CDivN fun i j => .int (i.fdiv j))
abbrev modF : D → D → M D := pur2 (iop (fun _ j => j ≠ 0) fun i j => .int (i.fmod j))
abbrev eqF : D → D → M D := pur2 (eqD id)
abbrev neF : D → D → M D := pur2 (eqD not)
abbrev inF : D → D → M D := pur2 (inD id)
abbrev notInF : D → D → M D := pur2 (inD not)
abbrev ltF : D → D → M D := pur2 fun S a b => (iop (fun _ _ => True) (fun i j => .bool (decide (i < j))) S a b).or (ltT S a b)
abbrev leF : D → D → M D := pur2 (iop (fun _ _ => True) fun i j => .bool (decide (i ≤ j)))
abbrev gtF : D → D → M D := pur2 (iop (fun _ _ => True) fun i j => .bool (decide (j < i)))
abbrev geF : D → D → M D := pur2 (iop (fun _ _ => True) fun i j => .bool (decide (j ≤ i)))
abbrev isNF : D → D → M D := pur2 (noneO id)
abbrev notNF : D → D → M D := pur2 (noneO not)
abbrev tupV (f : Sl → M (List D)) : Sl → M D := fun ρ => f ρ >>= mkTup
abbrev lstV (f : Sl → M (List D)) : Sl → M D := fun ρ => f ρ >>= mkLst
abbrev revV (f : Sl → M D) : Sl → M D := fun ρ => f ρ >>= revF
abbrev popV (f : Sl → M D) : Sl → M D := fun ρ => f ρ >>= popF
abbrev iterA (it : List D → M (List D × (Sto → Prop))) (f : Sl → M (List D)) : Sl → M (List D × (Sto → Prop)) := fun ρ => f ρ >>= it
abbrev dnewF : Sl → M D := fun _ S => .ok (.ob S.length) (S ++ [.dk []])
abbrev maxO : List D → M D := purA (int2O fun i j => if j > i then j else i)
abbrev minO : List D → M D := purA (int2O fun i j => if j < i then j else i)
abbrev brk : Sl → M Oc := fun ρ => M.pure (.bk ρ)
abbrev cnt : Sl → M Oc := fun ρ => M.pure (.ct ρ)
instance (i j : Int) : Decidable (CPow i j) := inferInstanceAs (Decidable (_ ∧ _ ∧ _))
abbrev powF : D → D → M D := pur2 (iop CPow fun i j => .int (i ^ j.toNat))
theorem opf_pow {X : Cx} {E : XK} : OpF X E (binaryOp .Pow) powF := opf_int op_pow
theorem fe_globI {X : Cx} {E : XK} {x : Str} {pos : Pos} {i : Int} {t : Tok} (hm : X.mg x = some (.int i t)) (hg : Gl X x := by rfl) (hd : (x == ("__debug__" : Str)) = false := by decide) : FE X E (.Name x pos) (con (.int i)) := fe_glob (v := .int i) hg hm ⟨t, rfl⟩ (fun _ => .int i) hd
theorem fe_globS {X : Cx} {E : XK} {x : Str} {pos : Pos} {i : Str} {t : Tok} (hm : X.mg x = some (.str i t)) (hg : Gl X x := by rfl) (hd : (x == ("__debug__" : Str)) = false := by decide) : FE X E (.Name x pos) (con (.str i)) := fe_glob (v := .str i) hg hm ⟨t, rfl⟩ (fun _ => .str i) hd
theorem u65 {A : Around} {k : Nat} (hr : Room k A) : A.units + 65 < cLine := by have := hr.un; omega
section
variable {X : Cx} {E : XK}
def op1 (o : D → M D) (f : Sl → M D) : Sl → M D := fun ρ => f ρ >>= o
def negF (a : D) : M D := fun S => match a with
  | .d (.int i) => .ok (.d (.int (-i))) S
  | _ => .stuck
def UnF (X : Cx) (E : XK) (f : Value → Sem Value) (o : D → M D) : Prop :=
  ∃ r : V → Hp → VK → Prop, UnR X f r ∧ ∀ (g : G) (S : Sto) (H : Hp) (μ : List Addr) (a : D) (v : V) (Q : VK), g.K = X.K → g.mg = X.mg → g.E = E → SR g.K g.H0 g.μ0 S H μ → VR g.K H μ v a → Post g H μ (VQ g.K Q) (o a S) → r v H Q
theorem opf_neg : UnF X E (unaryOp .USub) negF := by
  refine ⟨_, un_neg, fun g S H μ a v Q hK hM hE hS ra hp => ?_⟩
  unfold negF at hp
  split at hp
  · exact ⟨_, VD.inv_int ra, hp.here hS _ (.int _)⟩
  · exact hp.elim
theorem fe_un {op : UnaryOp} {a : Expr} {pos : Pos} {o : D → M D} {f : Sl → M D} (ho : UnF X E (unaryOp op) o) (ha : FE X E a f) : FE X E (.UnaryOp op a pos) (op1 o f) := by
  obtain ⟨r, hr, ho⟩ := ho
  obtain ⟨t, p, ha⟩ := ha
  refine ⟨_, pe_un hr p, fun g ρ S σ H μ Q hK hM hE hS hL hp => ?_⟩
  exact ha g ρ S σ H μ _ hK hM hE hS hL (hp.seq fun x S1 H1 μ1 s1 e1 p1 v rv => ho g S1 H1 μ1 x v Q hK hM hE s1 rv p1)
end
section
variable {P : Program} {w : World} {K : PySem.W.Frag} {mg : Str → Option Value} {base : Heap}
/-- the promise is the body's own meaning -/
theorem fnG_self {x qual : Str} {st : Stmt} {f : Addr} {fd : FuncData} {N ps : List Str} {k : Nat} {fb : Sl → M Oc} (Fn : Fun K x qual st f fd) (Sc : FnScope N ps (defScope st))
    (hb : ∀ (cdv : Value) (A : Around) (outer : List Env) (s : Shared) (H : Hp) (E : XK), A.guards = some [] → Room k (A.deeper (envOfC qual (defScope st) s.heap.objs.size f cdv)) → FSs (bodyX P w K mg base N qual (defScope st) f cdv A outer s H E) E (defBody st) fb) :
    FnG P w K mg base (k + 1) f fd ps (fun ds S => retOf (fb (startD N ds) S)) := by
  refine ⟨fun A outer s H args us vs Q E hgu hr e0 bd rel wish => fnG_body Fn Sc (fun _ _ _ _ h => h.1) (fun cdv A outer s H vs Q E hgu hr wish => ?_) A outer s H args us vs Q E hgu hr e0 bd rel wish⟩
  obtain ⟨hl, μ, S, ds, hS, hv, hp⟩ := wish
  obtain ⟨t, pt, ht⟩ := hb cdv A outer s H E hgu hr
  refine ⟨t, pt, ht ⟨K, mg, E, H, μ⟩ (startD N ds) S _ H μ _ rfl rfl rfl hS (lr_start hv) ?_⟩
  have hp : Post ⟨K, mg, E, H, μ⟩ H μ (VQ K Q) (retOf (fb (startD N ds) S)) := hp
  revert hp
  cases fb (startD N ds) S with
  | stuck => exact fun q => q
  | ex x S' => exact fun q => q
  | ok o S' =>
    cases o with
    | rt d => exact fun q H' μ' s e v rv => q H' μ' s e v rv
    | nx ρ => exact fun q H' μ' s e σ' _ => q H' μ' s e _ .non
    | bk ρ => exact fun q => q.elim
    | ct ρ => exact fun q => q.elim
end
section
variable {X : Cx} {E : XK}
/-- range(..) as an argument of tuple, list -/
def FR (X : Cx) (E : XK) (e : Expr) (f : Sl → M (Int × Int)) : Prop :=
  ∃ t, PRg X e t ∧ ∀ (g : G) (ρ : Sl) (S : Sto) (σ : L2.St) (H : Hp) (μ : List Addr) (Q : Int → Int → Hp → Prop), g.K = X.K → g.mg = X.mg → g.E = E → SR g.K g.H0 g.μ0 S H μ → LR g.K H μ σ ρ → Post g H μ (fun b _ H' _ => Q b.1 b.2 H') (f ρ S) → t σ H Q
def rg1 (f : Sl → M D) : Sl → M (Int × Int) := fun ρ => f ρ >>= isI >>= fun i => M.pure (0, i)
def rg2 (f h : Sl → M D) : Sl → M (Int × Int) := fun ρ => f ρ >>= isI >>= fun i => h ρ >>= isI >>= fun j => M.pure (i, j)
theorem fr_1 {a : Expr} {p pos : Pos} {f : Sl → M D} (hm : X.mg "range" = none) (ha : FE X E a f) (hg : Gl X "range" := by rfl) (na : starEach [a] X.env = (false, eval a X.env) :: starEach [] X.env := by rfl) : FR X E (.Call (.Name "range" p) [a] [] pos) (rg1 f) := by
  obtain ⟨t, pa, ha⟩ := ha
  refine ⟨_, prg_1 hg hm pa na, fun g ρ S σ H μ Q hK hM hE hS hL hp => ?_⟩
  refine ha g ρ S σ H μ _ hK hM hE hS hL (hp.bind.seq fun x S1 H1 μ1 s1 e1 p1 v rv => ?_)
  obtain ⟨i, rfl, p2⟩ := isI_inv p1
  exact ⟨i, VD.inv_int rv, (p2.here s1).here s1⟩
theorem fr_2 {a b : Expr} {p pos : Pos} {f h : Sl → M D} (hm : X.mg "range" = none) (ha : FE X E a f) (hb : FE X E b h) (hg : Gl X "range" := by rfl) (na : starEach [a, b] X.env = (false, eval a X.env) :: starEach [b] X.env := by rfl)
    (nb : starEach [b] X.env = (false, eval b X.env) :: starEach [] X.env := by rfl) (hp : (backTo pos (starEach [b] X.env)).any (·.1) = false := by rfl) : FR X E (.Call (.Name "range" p) [a, b] [] pos) (rg2 f h) := by
  obtain ⟨ta, pa, ha⟩ := ha
  obtain ⟨tb, pb, hb⟩ := hb
  refine ⟨_, prg_2 hg hm pa pb na nb hp, fun g ρ S σ H μ Q hK hM hE hS hL hp => ?_⟩
  refine ha g ρ S σ H μ _ hK hM hE hS hL (hp.bind.seq fun x S1 H1 μ1 s1 e1 p1 v rv => ?_)
  obtain ⟨i, rfl, p2⟩ := isI_inv p1
  refine hb g ρ S1 σ H1 μ1 _ hK hM hE s1 (hL.ext e1) ((p2.here s1).bind.seq fun y S2 H2 μ2 s2 e2 p3 u ru => ?_)
  obtain ⟨j, rfl, p4⟩ := isI_inv p3
  exact ⟨i, j, VD.inv_int (rv.ext e2), VD.inv_int ru, (p4.here s2).here s2⟩
instance (a b : Int) : Decidable (RgOk a b) := inferInstanceAs (Decidable (_ ∧ _))
def rgP (a b : Int) : List PyData := (List.range (b - a).toNat).map fun i => .int (a + (i : Nat))
theorem vds_rg {K : PySem.W.Frag} {H : Hp} (a b : Int) : VDs K H (rgV a b) (rgP a b) := by
  unfold rgV rgP
  generalize (b - a).toNat = n
  induction List.range n with
  | nil => exact .nil
  | cons i l ih => exact .cons (.int _) ih
def tupRg (f : Sl → M (Int × Int)) : Sl → M D := fun ρ => f ρ >>= fun p S => if RgOk p.1 p.2 then .ok (.d (.tuple (rgP p.1 p.2))) S else .stuck
def lstRg (f : Sl → M (Int × Int)) : Sl → M D := fun ρ => f ρ >>= fun p S => if RgOk p.1 p.2 then .ok (.ob S.length) (S ++ [.lst ((rgP p.1 p.2).map .d)]) else .stuck
theorem fe_tupRg {e : Expr} {p pos : Pos} {f : Sl → M (Int × Int)} (hm : X.mg "tuple" = none) (he : FR X E e f) (hc : X.calm = true := by rfl) (hg : Gl X "tuple" := by rfl) (na : starEach [e] X.env = (false, eval e X.env) :: starEach [] X.env := by rfl) : FE X E (.Call (.Name "tuple" p) [e] [] pos) (tupRg f) := by
  obtain ⟨t, pe, he⟩ := he
  refine ⟨_, pe_tupRg hc hg hm pe na, fun g ρ S σ H μ Q hK hM hE hS hL hp => ?_⟩
  refine he g ρ S σ H μ _ hK hM hE hS hL (hp.seq fun x S1 H1 μ1 s1 e1 p1 => ?_)
  split at p1
  · rename_i c
    exact ⟨c, fun q nq => p1 _ _ (s1.aside nq) (ext_aside nq) _ (.tup (SqT.of upd_same) (vds_rg _ _))⟩
  · exact p1.elim
theorem fe_lstRg {e : Expr} {p pos : Pos} {f : Sl → M (Int × Int)} (hm : X.mg "list" = none) (he : FR X E e f) (hc : X.calm = true := by rfl) (hg : Gl X "list" := by rfl) (na : starEach [e] X.env = (false, eval e X.env) :: starEach [] X.env := by rfl) : FE X E (.Call (.Name "list" p) [e] [] pos) (lstRg f) := by
  obtain ⟨t, pe, he⟩ := he
  refine ⟨_, pe_listRg hc hg hm pe na, fun g ρ S σ H μ Q hK hM hE hS hL hp => ?_⟩
  refine he g ρ S σ H μ _ hK hM hE hS hL (hp.seq fun x S1 H1 μ1 s1 e1 p1 => ?_)
  split at p1
  · rename_i c
    exact ⟨c, fun q nq => p1 _ _ (s1.alloc (ho := .lst _) nq (VDs.vrs (vds_rg _ _))) (ext_alloc nq) _ s1.vr_new⟩
  · exact p1.elim
end
end Fx
theorem L2.Fun.bindsP {K : PySem.W.Frag} {x qual : PySem.Str} {st : PySem.Stmt} {f : PySem.Addr} {fd : PySem.FuncData} {ps ks : List PySem.Str} {m : Nat} {pm : List Nat} (F : L2.Fun K x qual st f fd)
    (h : ∀ (kV doc pm' : PySem.Value) (an : Option PySem.Addr) (cdv ct : PySem.Value) (us ws : List PySem.Value), us.length = m → ws.length = ks.length → PySem.bindArgs (PySem.W.fnOf x qual (L2.defArgs st) (L2.defBody st) (L2.defScope st) .none kV doc pm' an cdv ct) ⟨us, ks.zip ws⟩ = pure (ps.zip (Fx.permL pm (us ++ ws)))) : Fx.BindsP K fd ps ks m pm := by
  obtain ⟨oc, od, kV, doc, pm', an, cdv, ct, osl, rfl, lk, hcd⟩ := F.ex
  exact fun s us ws _ h1 h2 => .of_eq (h kV doc pm' an cdv ct us ws h1 h2)
end
section
namespace Fx
open PySem PySem.Spec PyProof.Rows L2 RZ RT
open Classical
/-! ### a call's outcome without what it left behind -/
def Trim (n : Nat) (T : Sto) : Prop := n ≤ T.length ∧ ∀ o ∈ T.take n, idsInO n o

noncomputable def gcR (n : Nat) : R D → R D
  | .ok (.d p) T => if Trim n T then .ok (.d p) (T.take n) else .stuck
  | .ok (.ob i) T => if Trim n T then (if i < n then .ok (.ob i) (T.take n) else match T[i]? with
      | some o => if idsInO n o then .ok (.ob n) (T.take n ++ [o]) else .stuck
      | none => .stuck) else .stuck
  | .ex x T => if Trim n T then .ex x (T.take n) else .stuck
  | .stuck => .stuck
theorem relD_id {n : Nat} {ι : List Nat} (h : ∀ i, i < n → ι[i]? = some i) {d : D} (k : idsIn n d) : RelD ι d d := by
  cases d with
  | d p => rfl
  | ob i => exact h i k
theorem relOb_id {n : Nat} {ι : List Nat} (h : ∀ i, i < n → ι[i]? = some i) {o : O} (k : idsInO n o) : RelOb ι o o := by
  cases o with
  | lst l =>
    have : ∀ l : List D, (∀ d ∈ l, idsIn n d) → Paired (RelD ι) l l := fun l => by
      induction l with
      | nil => intro _; exact .nil
      | cons a l ih => intro z; exact .cons (relD_id h (z a (by simp))) (ih fun d hd => z d (by simp [hd]))
    exact this l k
  | dk l =>
    have : ∀ l : List (Key × D), (∀ d ∈ l, idsIn n d.2) → Paired (fun (p q : Key × D) => p.1 = q.1 ∧ RelD ι p.2 q.2) l l := fun l => by
      induction l with
      | nil => intro _; exact .nil
      | cons a l ih => intro z; exact .cons ⟨rfl, relD_id h (z a (by simp))⟩ (ih fun d hd => z d (by simp [hd]))
    exact this l k
theorem get_range {n i : Nat} (h : i < n) : (List.range n)[i]? = some i := by simp [h]
theorem emb_take {n : Nat} {T : Sto} (h : Trim n T) : Emb n (List.range n) (T.take n) T := by
  refine ⟨by simp [h.1], List.nodup_range, fun i hi => get_range hi, fun i j e => ?_⟩
  have hi : i < n := by have := (List.getElem?_eq_some_iff.mp e).1; simpa using this
  rw [get_range hi] at e
  cases e
  have hT : i < T.length := Nat.lt_of_lt_of_le hi h.1
  refine ⟨T[i], T[i], by rw [List.getElem?_take]; simp [hi, hT], by simp [hT], relOb_id (n := n) (fun j hj => get_range hj) (h.2 _ ?_)⟩
  rw [List.mem_take_iff_getElem]
  exact ⟨i, by omega, rfl⟩
theorem emb_new {n i : Nat} {T : Sto} {o : O} (h : Trim n T) (hi : ¬ i < n) (e : T[i]? = some o) (ho : idsInO n o) : Emb n (List.range n ++ [i]) (T.take n ++ [o]) T := by
  have E := emb_take h
  have hl : (T.take n).length = n := by simp [h.1]
  have id_ : ∀ j, j < n → (List.range n ++ [i])[j]? = some j := fun j hj => by
    rw [List.getElem?_append_left (by simpa using hj)]; exact get_range hj
  refine ⟨by simp [h.1], ?_, id_, fun a b ab => ?_⟩
  · refine List.nodup_append.mpr ⟨List.nodup_range, by simp, ?_⟩
    intro a ha b hb
    simp at ha hb
    omega
  · by_cases ha : a < n
    · rw [id_ a ha] at ab
      cases ab
      obtain ⟨o1, o2, e1, e2, r⟩ := E.at_ a a (get_range ha)
      refine ⟨o1, o2, by rw [List.getElem?_append_left (by omega)]; exact e1, e2, ?_⟩
      have e3 : o1 ∈ T.take n := List.mem_of_getElem? e1
      have : o1 = o2 := by
        rw [List.getElem?_take] at e1
        simp [ha] at e1
        rw [e1] at e2
        exact Option.some.inj e2
      subst this
      exact relOb_id id_ (h.2 _ e3)
    · have hab : a = n := by
        have := (List.getElem?_eq_some_iff.mp ab).1
        simp at this
        omega
      subst hab
      rw [List.getElem?_append_right (by simp)] at ab
      simp at ab
      subst ab
      exact ⟨o, o, by rw [List.getElem?_append_right (by omega)]; simp [hl], e, relOb_id id_ ho⟩
theorem gc_ref (n : Nat) (r : R D) : Ref n (gcR n r) r := by
  cases r with
  | stuck => trivial
  | ex x T =>
    show Ref n (if _ then _ else _) _
    by_cases h : Trim n T
    · rw [if_pos h]; exact ⟨rfl, _, emb_take h⟩
    · rw [if_neg h]; trivial
  | ok d T =>
    cases d with
    | d p =>
      show Ref n (if _ then _ else _) _
      by_cases h : Trim n T
      · rw [if_pos h]; exact ⟨_, emb_take h, rfl⟩
      · rw [if_neg h]; trivial
    | ob i =>
      show Ref n (if _ then (if _ then _ else _) else _) _
      by_cases h : Trim n T
      · rw [if_pos h]
        by_cases hi : i < n
        · rw [if_pos hi]; exact ⟨_, emb_take h, get_range hi⟩
        · rw [if_neg hi]
          cases e : T[i]? with
          | none => trivial
          | some o =>
            show Ref n (if _ then _ else _) _
            by_cases ho : idsInO n o
            · rw [if_pos ho]
              refine ⟨_, emb_new h hi e ho, ?_⟩
              show (List.range n ++ [i])[n]? = some i
              rw [List.getElem?_append_right (by simp)]
              simp
            · rw [if_neg ho]; trivial
      · rw [if_neg h]; trivial
noncomputable def gcF (N : List Str) (b : Sl → M Oc) : List D → M D := fun ds S => gcR S.length (retOf (b (startD N ds) S))
section
variable {P : Program} {w : World} {K : PySem.W.Frag} {mg : Str → Option Value} {base : Heap}
theorem fnG_gc {x qual : Str} {st : Stmt} {f : Addr} {fd : FuncData} {N ps : List Str} {k : Nat} {fb : Sl → M Oc} (Fn : Fun K x qual st f fd) (Sc : FnScope N ps (defScope st))
    (hb : ∀ (cdv : Value) (A : Around) (outer : List Env) (s : Shared) (H : Hp) (E : XK), A.guards = some [] → Room k (A.deeper (envOfC qual (defScope st) s.heap.objs.size f cdv)) → FSs (bodyX P w K mg base N qual (defScope st) f cdv A outer s H E) E (defBody st) fb) :
    FnG P w K mg base (k + 1) f fd ps (gcF N fb) := fnG_of Fn Sc hb fun ds S _ _ _ => gc_ref _ _
end
theorem Closed.mem {S : Sto} (h : Closed S) : ∀ o ∈ S, idsInO S.length o := h
theorem trim_app {S G : Sto} (h : Closed S) : Trim S.length (S ++ G) := ⟨by simp, by rw [List.take_left']; exact h; rfl⟩
theorem gc_d {n : Nat} {p : PyData} {S G : Sto} {r : R D} (e : r = .ok (.d p) (S ++ G)) (hn : S.length = n) (h : Closed S) : gcR n r = .ok (.d p) S := by
  subst e hn
  show (if _ then _ else _) = _
  rw [if_pos (trim_app h), List.take_left' rfl]
theorem gc_ob {n i : Nat} {o : O} {S G : Sto} {r : R D} (e : r = .ok (.ob i) (S ++ G)) (hi : (S ++ G)[i]? = some o) (hl : n ≤ i) (ho : idsInO n o) (hn : S.length = n) (h : Closed S) : gcR n r = .ok (.ob n) (S ++ [o]) := by
  subst e hn
  show (if _ then (if _ then _ else _) else _) = _
  rw [if_pos (trim_app h), if_neg (by omega), hi, List.take_left' rfl]
  show (if _ then _ else _) = _
  rw [if_pos ho]

/-! ### running -/
theorem bind_app {α β : Type} (m : M α) (k : α → M β) (S : Sto) : (m >>= k) S = (match m S with | .stuck => R.stuck | .ok a S' => k a S' | .ex x S' => R.ex x S') := rfl
theorem pure_app {α : Type} (a : α) (S : Sto) : M.pure a S = .ok a S := rfl
theorem bind_of {α β : Type} {m : M α} {k : α → M β} {S S' : Sto} {a : α} (h : m S = .ok a S') : (m >>= k) S = k a S' := by rw [bind_app, h]
theorem noEx_of {α : Type} {m : M α} {S S' : Sto} {a : α} (h : m S = .ok a S') : noEx m S = .ok a S' := by unfold noEx; rw [h]
/-- a for that neither breaks nor returns -/
theorem forL_run {gd : Sto → Prop} {t : D → Sl → M Sl} {b : Sl → M Oc} (I : List D → Sl → Sto → Prop) (hg : ∀ l ρ S, I l ρ S → gd S)
    (hs : ∀ x xs ρ S, I (x :: xs) ρ S → ∃ ρ1 S1 ρ2 S2, t x ρ S = .ok ρ1 S1 ∧ b ρ1 S1 = .ok (.nx ρ2) S2 ∧ I xs ρ2 S2) :
    ∀ xs ρ S, I xs ρ S → ∃ ρ2 S2, forL gd t b xs ρ S = .ok (.nx ρ2) S2 ∧ I [] ρ2 S2
  | [], ρ, S, h => ⟨ρ, S, by show (if _ then _ else _) = _; rw [if_pos (hg _ _ _ h)], h⟩
  | x :: xs, ρ, S, h => by
    obtain ⟨ρ1, S1, ρ2, S2, e1, e2, h2⟩ := hs x xs ρ S h
    obtain ⟨ρ3, S3, e3, h3⟩ := forL_run I hg hs xs ρ2 S2 h2
    refine ⟨ρ3, S3, ?_, h3⟩
    show (if _ then _ else _) = _
    rw [if_pos (hg _ _ _ h), bind_of e1, bind_of e2]
    exact e3
/-- a for that may return -/
theorem forL_ret {gd : Sto → Prop} {t : D → Sl → M Sl} {b : Sl → M Oc} {Q : D → Sto → Prop} (I : List D → Sl → Sto → Prop) (hg : ∀ l ρ S, I l ρ S → gd S)
    (hs : ∀ x xs ρ S, I (x :: xs) ρ S → ∃ ρ1 S1, t x ρ S = .ok ρ1 S1 ∧ ((∃ ρ2 S2, b ρ1 S1 = .ok (.nx ρ2) S2 ∧ I xs ρ2 S2) ∨ ∃ d S2, b ρ1 S1 = .ok (.rt d) S2 ∧ Q d S2)) :
    ∀ xs ρ S, I xs ρ S → (∃ ρ2 S2, forL gd t b xs ρ S = .ok (.nx ρ2) S2 ∧ I [] ρ2 S2) ∨ ∃ d S2, forL gd t b xs ρ S = .ok (.rt d) S2 ∧ Q d S2
  | [], ρ, S, h => .inl ⟨ρ, S, by show (if _ then _ else _) = _; rw [if_pos (hg _ _ _ h)], h⟩
  | x :: xs, ρ, S, h => by
    obtain ⟨ρ1, S1, e1, h1⟩ := hs x xs ρ S h
    have u : forL gd t b (x :: xs) ρ S = (b ρ1 >>= fun o => match o with
      | .nx ρ' => forL gd t b xs ρ'
      | .ct ρ' => forL gd t b xs ρ'
      | .bk ρ' => M.pure (.nx ρ')
      | .rt d => M.pure (.rt d)) S1 := by
      show (if _ then _ else _) = _
      rw [if_pos (hg _ _ _ h)]
      exact bind_of e1
    rcases h1 with ⟨ρ2, S2, e2, h2⟩ | ⟨d, S2, e2, h2⟩
    · rcases forL_ret I hg hs xs ρ2 S2 h2 with ⟨ρ3, S3, e3, h3⟩ | ⟨d, S3, e3, h3⟩
      · exact .inl ⟨ρ3, S3, by rw [u, bind_of e2]; exact e3, h3⟩
      · exact .inr ⟨d, S3, by rw [u, bind_of e2]; exact e3, h3⟩
    · exact .inr ⟨d, S2, by rw [u, bind_of e2]; rfl, h2⟩
/-- a comprehension -/
theorem lcL_run {gd : Sto → Prop} {vs : List Nat} {t : D → Sl → M Sl} {tt : Sl → M Bool} {el : Sl → M D} {ρ : Sl} (I : List D → List D → Sto → Prop) (hg : ∀ l acc S, I l acc S → gd S)
    (hs : ∀ x xs acc S, I (x :: xs) acc S → acc.length < sizeLine ∧ ∃ ρ1 S1 b S2, t x (wipeD ρ vs) S = .ok ρ1 S1 ∧ tt ρ1 S1 = .ok b S2 ∧ (if b = true then ∃ y S3, el ρ1 S2 = .ok y S3 ∧ I xs (acc ++ [y]) S3 else I xs acc S2)) :
    ∀ xs acc S, I xs acc S → ∃ acc' S2, lcL gd vs t tt el xs acc ρ S = .ok (.ob S2.length) (S2 ++ [.lst acc']) ∧ I [] acc' S2
  | [], acc, S, h => ⟨acc, S, by show (if _ then _ else _) = _; rw [if_pos (hg _ _ _ h)], h⟩
  | x :: xs, acc, S, h => by
    obtain ⟨hl, ρ1, S1, b, S2, e1, e2, h2⟩ := hs x xs acc S h
    cases b with
    | true =>
      obtain ⟨y, S3, e3, h3⟩ := h2
      obtain ⟨acc', S4, e4, h4⟩ := lcL_run I hg hs xs _ S3 h3
      refine ⟨acc', S4, ?_, h4⟩
      show (if _ then _ else _) = _
      rw [if_pos ⟨hg _ _ _ h, hl⟩, bind_of (noEx_of e1), bind_of (noEx_of e2)]
      exact (bind_of (noEx_of e3)).trans e4
    | false =>
      obtain ⟨acc', S4, e4, h4⟩ := lcL_run I hg hs xs _ S2 h2
      refine ⟨acc', S4, ?_, h4⟩
      show (if _ then _ else _) = _
      rw [if_pos ⟨hg _ _ _ h, hl⟩, bind_of (noEx_of e1), bind_of (noEx_of e2)]
      exact e4
/-- the same by places -/
theorem forL_ix {gd : Sto → Prop} {t : D → Sl → M Sl} {b : Sl → M Oc} {items : List D} {ρ : Sl} {S : Sto} (I : Nat → Sl → Sto → Prop) (hg : ∀ k ρ S, k ≤ items.length → I k ρ S → gd S)
    (hs : ∀ k x ρ S, items[k]? = some x → I k ρ S → ∃ ρ1 S1 ρ2 S2, t x ρ S = .ok ρ1 S1 ∧ b ρ1 S1 = .ok (.nx ρ2) S2 ∧ I (k + 1) ρ2 S2) (h0 : I 0 ρ S) : ∃ ρ2 S2, forL gd t b items ρ S = .ok (.nx ρ2) S2 ∧ I items.length ρ2 S2 := by
  obtain ⟨ρ2, S2, e, k, hk, hd, hi⟩ := forL_run (gd := gd) (t := t) (b := b) (fun l ρ S => ∃ k, k ≤ items.length ∧ l = items.drop k ∧ I k ρ S) (fun l ρ S ⟨k, hk, _, h⟩ => hg k ρ S hk h) (fun x xs ρ S ⟨k, hk, hd, h⟩ => by
    have hlt : k < items.length := by
      rcases Nat.lt_or_ge k items.length with q | q
      · exact q
      · rw [List.drop_eq_nil_of_le q] at hd; cases hd
    have hx : items[k]? = some x := by
      rw [List.drop_eq_getElem_cons hlt] at hd
      rw [List.getElem?_eq_getElem hlt]
      injection hd with a b
      rw [a]
    have hxs : xs = items.drop (k + 1) := by
      rw [List.drop_eq_getElem_cons hlt] at hd
      injection hd
    obtain ⟨ρ1, S1, ρ2, S2, e1, e2, h2⟩ := hs k x ρ S hx h
    exact ⟨ρ1, S1, ρ2, S2, e1, e2, k + 1, hlt, hxs, h2⟩) items ρ S ⟨0, Nat.zero_le _, rfl, h0⟩
  have : k = items.length := by
    rcases Nat.lt_or_ge k items.length with q | q
    · rw [List.drop_eq_getElem_cons q] at hd; cases hd
    · omega
  subst this
  exact ⟨ρ2, S2, e, hi⟩
theorem forL_ixR {gd : Sto → Prop} {t : D → Sl → M Sl} {b : Sl → M Oc} {items : List D} {ρ : Sl} {S : Sto} {Q : D → Sto → Prop} (I : Nat → Sl → Sto → Prop) (hg : ∀ k ρ S, k ≤ items.length → I k ρ S → gd S)
    (hs : ∀ k x ρ S, items[k]? = some x → I k ρ S → ∃ ρ1 S1, t x ρ S = .ok ρ1 S1 ∧ ((∃ ρ2 S2, b ρ1 S1 = .ok (.nx ρ2) S2 ∧ I (k + 1) ρ2 S2) ∨ ∃ d S2, b ρ1 S1 = .ok (.rt d) S2 ∧ Q d S2)) (h0 : I 0 ρ S) : (∃ ρ2 S2, forL gd t b items ρ S = .ok (.nx ρ2) S2 ∧ I items.length ρ2 S2) ∨ ∃ d S2, forL gd t b items ρ S = .ok (.rt d) S2 ∧ Q d S2 := by
  rcases forL_ret (gd := gd) (t := t) (b := b) (Q := Q) (fun l ρ S => ∃ k, k ≤ items.length ∧ l = items.drop k ∧ I k ρ S) (fun l ρ S ⟨k, hk, _, h⟩ => hg k ρ S hk h) (fun x xs ρ S ⟨k, hk, hd, h⟩ => by
    have hlt : k < items.length := by
      rcases Nat.lt_or_ge k items.length with q | q
      · exact q
      · rw [List.drop_eq_nil_of_le q] at hd; cases hd
    have hx : items[k]? = some x := by
      rw [List.drop_eq_getElem_cons hlt] at hd
      rw [List.getElem?_eq_getElem hlt]
      injection hd with a b
      rw [a]
    have hxs : xs = items.drop (k + 1) := by
      rw [List.drop_eq_getElem_cons hlt] at hd
      injection hd
    obtain ⟨ρ1, S1, e1, h2⟩ := hs k x ρ S hx h
    refine ⟨ρ1, S1, e1, ?_⟩
    rcases h2 with ⟨ρ2, S2, e2, h2⟩ | h2
    · exact .inl ⟨ρ2, S2, e2, k + 1, hlt, hxs, h2⟩
    · exact .inr h2) items ρ S ⟨0, Nat.zero_le _, rfl, h0⟩ with ⟨ρ2, S2, e, k, hk, hd, hi⟩ | h
  · have : k = items.length := by
      rcases Nat.lt_or_ge k items.length with q | q
      · rw [List.drop_eq_getElem_cons q] at hd; cases hd
      · omega
    subst this
    exact .inl ⟨ρ2, S2, e, hi⟩
  · exact .inr h
theorem lcL_ix {gd : Sto → Prop} {vs : List Nat} {t : D → Sl → M Sl} {tt : Sl → M Bool} {el : Sl → M D} {ρ : Sl} {items : List D} {S : Sto} (I : Nat → List D → Sto → Prop) (hg : ∀ k acc S, k ≤ items.length → I k acc S → gd S)
    (hs : ∀ k x acc S, items[k]? = some x → I k acc S → acc.length < sizeLine ∧ ∃ ρ1 S1 b S2, t x (wipeD ρ vs) S = .ok ρ1 S1 ∧ tt ρ1 S1 = .ok b S2 ∧ (if b = true then ∃ y S3, el ρ1 S2 = .ok y S3 ∧ I (k + 1) (acc ++ [y]) S3 else I (k + 1) acc S2)) (h0 : I 0 [] S) :
    ∃ acc' S2, lcL gd vs t tt el items [] ρ S = .ok (.ob S2.length) (S2 ++ [.lst acc']) ∧ I items.length acc' S2 := by
  obtain ⟨acc, S2, e, k, hk, hd, hi⟩ := lcL_run (gd := gd) (vs := vs) (t := t) (tt := tt) (el := el) (ρ := ρ) (fun l acc S => ∃ k, k ≤ items.length ∧ l = items.drop k ∧ I k acc S) (fun l ρ S ⟨k, hk, _, h⟩ => hg k ρ S hk h) (fun x xs acc S ⟨k, hk, hd, h⟩ => by
    have hlt : k < items.length := by
      rcases Nat.lt_or_ge k items.length with q | q
      · exact q
      · rw [List.drop_eq_nil_of_le q] at hd; cases hd
    have hx : items[k]? = some x := by
      rw [List.drop_eq_getElem_cons hlt] at hd
      rw [List.getElem?_eq_getElem hlt]
      injection hd with a b
      rw [a]
    have hxs : xs = items.drop (k + 1) := by
      rw [List.drop_eq_getElem_cons hlt] at hd
      injection hd
    obtain ⟨hl, ρ1, S1, b, S2, e1, e2, h2⟩ := hs k x acc S hx h
    refine ⟨hl, ρ1, S1, b, S2, e1, e2, ?_⟩
    cases b with
    | true =>
      obtain ⟨y, S3, e3, h3⟩ := h2
      exact ⟨y, S3, e3, k + 1, hlt, hxs, h3⟩
    | false => exact ⟨k + 1, hlt, hxs, h2⟩) items [] S ⟨0, Nat.zero_le _, rfl, h0⟩
  have : k = items.length := by
    rcases Nat.lt_or_ge k items.length with q | q
    · rw [List.drop_eq_getElem_cons q] at hd; cases hd
    · omega
  subst this
  exact ⟨acc, S2, e, hi⟩
theorem rangeD_length (lo : Int) (n : Nat) : (rangeD lo n).length = n := by simp [rangeD]
theorem rangeD_some {lo : Int} {n k : Nat} {x : D} (h : (rangeD lo n)[k]? = some x) : k < n ∧ x = .d (.int (lo + (k : Nat))) := by
  rw [rangeD_get] at h
  split at h
  · rename_i c; cases h; exact ⟨c, rfl⟩
  · cases h
theorem map_some {α β : Type} {f : α → β} {l : List α} {k : Nat} {x : β} (h : (l.map f)[k]? = some x) : ∃ a, l[k]? = some a ∧ x = f a := by
  rw [List.getElem?_map] at h
  cases q : l[k]? with
  | none => rw [q] at h; cases h
  | some a => rw [q] at h; cases h; exact ⟨a, rfl, rfl⟩
end Fx
end
section
namespace Fx
open PySem PySem.Spec PyProof.Rows L2 RZ RT
open Classical
/-! ### the meaning, at full arity -/
def R.to {α β : Type} (r : R α) (k : α → Sto → R β) : R β := match r with
  | .stuck => .stuck
  | .ok a S' => k a S'
  | .ex x S' => .ex x S'
theorem nz {α : Sort _} {a b : α} (h : a = b) : a = b := h
theorem to_ok {α β : Type} {a : α} {S : Sto} {k : α → Sto → R β} : (R.ok a S).to k = k a S := nz rfl
theorem to_congr {α β : Type} {r r' : R α} {k : α → Sto → R β} (h : r = r') : r.to k = r'.to k := by rw [h]
variable {f h fa fb fc : Sl → M D} {c d : Sl → M Bool} {b b' : Sl → M Oc} {r : Sl → M (List D)} {ρ : Sl} {S : Sto}
def seqK (h : Sl → M Oc) : Oc → Sto → R Oc := fun o => match o with
  | .nx ρ' => h ρ'
  | o => M.pure o
theorem seqK_nx : seqK b (.nx ρ) S = b ρ S := nz rfl
theorem seqK_rt {x : D} : seqK b (.rt x) S = .ok (.rt x) S := nz rfl
theorem seq_app : seq b b' ρ S = (b ρ S).to (seqK b') := nz rfl
theorem set1_app {i : Nat} : set1 i f ρ S = (f ρ S).to fun d S => .ok (.nx (ρ.set i (some d))) S := nz rfl
theorem ret_app : Fx.ret f ρ S = (f ρ S).to fun d S => .ok (.rt d) S := nz rfl
theorem skip_app : skip ρ S = .ok (.nx ρ) S := nz rfl
theorem ifS_app : ifS c b b' ρ S = (c ρ S).to fun k S => if k = true then b ρ S else b' ρ S := by
  show (c ρ S).to _ = _
  cases c ρ S with
  | ok k S' => cases k <;> rfl
  | stuck => rfl
  | ex x S' => rfl
theorem op2_app {o : D → D → M D} : op2 o fa fb ρ S = (fa ρ S).to fun a S => (fb ρ S).to fun b S => o a b S := nz rfl
theorem op1_app {o : D → M D} : op1 o fa ρ S = (fa ρ S).to o := nz rfl
theorem app_app {o : List D → M D} : app o r ρ S = (r ρ S).to o := nz rfl
theorem nilA_app : nilA ρ S = .ok [] S := nz rfl
theorem consA_app : consA f r ρ S = (f ρ S).to fun d S => (r ρ S).to fun ds S => .ok (d :: ds) S := nz rfl
theorem con_app {p : PyData} : con p ρ S = .ok (.d p) S := nz rfl
def slot : Option (Option D) → Sto → R D
  | some (some d), S => .ok d S
  | _, _ => .stuck
theorem slot_some {d : D} : slot (some (some d)) S = .ok d S := nz rfl
theorem var_app {i : Nat} : var i ρ S = slot ρ[i]? S := by
  unfold var slot
  cases ρ[i]? with
  | none => rfl
  | some o => cases o <;> rfl
theorem call1_app {n : Nat} {F : List D → M D} : call1 n F r ρ S = (r ρ S).to fun ds S => if ds.length = n then F ds S else .stuck := by
  show (r ρ S).to _ = _
  cases r ρ S with
  | ok k S' => show (if _ then _ else _ : M D) S' = _; split <;> rename_i q <;> simp only [to_ok, q, if_true, if_false] <;> rfl
  | stuck => rfl
  | ex x S' => rfl
theorem callK_app {n m : Nat} {pm : List Nat} {F : List D → M D} : callK n m pm F r ρ S = (r ρ S).to fun ds S => if ds.length = m ∧ (permL pm ds).length = n then F (permL pm ds) S else .stuck := by
  show (r ρ S).to _ = _
  cases r ρ S with
  | ok k S' => show (if _ then _ else _ : M D) S' = _; split <;> rename_i q <;> simp only [to_ok, q, if_true, if_false] <;> first | rfl | simp
  | stuck => rfl
  | ex x S' => rfl
theorem bind_to {α β : Type} (m : M α) (k : α → M β) : (m >>= k) S = (m S).to k := nz rfl
theorem pure_to {α : Type} (a : α) : M.pure a S = .ok a S := nz rfl
def toB (x : D) (S : Sto) : R Bool := isB x S
theorem toB_b {k : Bool} : toB (.d (.bool k)) S = .ok k S := nz rfl
theorem isB_to (x : D) : isB x S = toB x S := nz rfl
theorem tstB_app : tstB f ρ S = (f ρ S).to toB := by
  rfl
def toT (x : D) (S : Sto) : R Bool := match truth S x with
  | some k => .ok k S
  | none => .stuck
theorem tst_app : tst f ρ S = (f ρ S).to toT := nz rfl
theorem toT_b {k : Bool} : toT (.d (.bool k)) S = .ok k S := nz rfl
theorem toT_i {k : Int} : toT (.d (.int k)) S = .ok (k != 0) S := nz rfl
theorem toT_n : toT (.d .none) S = .ok false S := nz rfl
theorem andT_app : andT c d ρ S = (c ρ S).to fun k S => if k = true then d ρ S else .ok false S := by
  show (c ρ S).to _ = _
  cases c ρ S with
  | ok k S' => cases k <;> rfl
  | stuck => rfl
  | ex x S' => rfl
theorem orT_app : orT c d ρ S = (c ρ S).to fun k S => if k = true then .ok true S else d ρ S := by
  show (c ρ S).to _ = _
  cases c ρ S with
  | ok k S' => cases k <;> rfl
  | stuck => rfl
  | ex x S' => rfl
theorem notT_app : notT c ρ S = (c ρ S).to fun k S => .ok (!k) S := nz rfl
theorem toB_fun : isB = toB := by funext x S; exact isB_to x
theorem andV_app : andV f h ρ S = ((f ρ S).to toB).to fun k S => if k = true then h ρ S else .ok (.d (.bool false)) S := by
  show ((f ρ S).to isB).to _ = _
  rw [toB_fun]
  cases (f ρ S).to toB with
  | ok k S' => cases k <;> rfl
  | stuck => rfl
  | ex x S' => rfl
theorem orV_app : orV f h ρ S = ((f ρ S).to toB).to fun k S => if k = true then .ok (.d (.bool true)) S else h ρ S := by
  show ((f ρ S).to isB).to _ = _
  rw [toB_fun]
  cases (f ρ S).to toB with
  | ok k S' => cases k <;> rfl
  | stuck => rfl
  | ex x S' => rfl
theorem notV_app : notV f ρ S = ((f ρ S).to toB).to fun k S => .ok (.d (.bool (!k))) S := by
  show ((f ρ S).to isB).to _ = _
  rw [toB_fun]; rfl
theorem ifV_app : ifV c f h ρ S = (c ρ S).to fun k S => if k = true then f ρ S else h ρ S := by
  show (c ρ S).to _ = _
  cases c ρ S with
  | ok k S' => cases k <;> rfl
  | stuck => rfl
  | ex x S' => rfl
theorem chain_app {o o' : D → D → M D} : chain o o' fa fb fc ρ S = (fa ρ S).to fun a S => (fb ρ S).to fun b S => ((o a b S).to toB).to fun k S => if k = true then (fc ρ S).to fun c S => o' b c S else .ok (.d (.bool false)) S := by
  show (fa ρ S).to _ = _
  cases fa ρ S with
  | stuck => rfl
  | ex x S' => rfl
  | ok a S1 =>
    show (fb ρ S1).to _ = (fb ρ S1).to _
    cases fb ρ S1 with
    | stuck => rfl
    | ex x S' => rfl
    | ok b S2 =>
      show ((o a b S2).to isB).to _ = ((o a b S2).to toB).to _
      rw [toB_fun]
      cases (o a b S2).to toB with
      | stuck => rfl
      | ex x S' => rfl
      | ok k S3 => cases k <;> rfl
theorem dropE_app : dropE f ρ S = (f ρ S).to fun _ S => .ok (.nx ρ) S := nz rfl
theorem asg_app {t : D → Sl → M Sl} : asg f t ρ S = (f ρ S).to fun x S => (t x ρ S).to fun ρ' S => .ok (.nx ρ') S := nz rfl
theorem setN_app {i : Nat} {x : D} : setN i x ρ S = .ok (ρ.set i (some x)) S := nz rfl
theorem methL1_app {o : D → D → M D} : methL1 o fa fb ρ S = ((fa ρ S).to isLst).to fun a S => (fb ρ S).to fun b S => o a b S := nz rfl
theorem forS_app {it : Sl → M (List D × (Sto → Prop))} {t : D → Sl → M Sl} : forS it t b ρ S = (it ρ S).to fun p S => forL p.2 t b p.1 ρ S := nz rfl
theorem lcS_app {it : Sl → M (List D × (Sto → Prop))} {vs : List Nat} {t : D → Sl → M Sl} {tt : Sl → M Bool} : lcS it vs t tt f ρ S = (it ρ S).to fun p S => lcL p.2 vs t tt f p.1 [] ρ S := nz rfl
theorem walk_app {it : D → M (List D × (Sto → Prop))} : walk it f ρ S = (f ρ S).to it := nz rfl
theorem yes_app : yes ρ S = .ok true S := nz rfl
def optR (o : Option D) (S : Sto) : R D := match o with
  | some z => .ok z S
  | none => .stuck
theorem optR_some {z : D} : optR (some z) S = .ok z S := nz rfl
theorem pur2_app {o : Sto → D → D → Option D} {x y : D} : pur2 o x y S = optR (o S x y) S := nz rfl
theorem purA_app {o : Sto → List D → Option D} {ds : List D} : purA o ds S = optR (o S ds) S := nz rfl
theorem iop_int {C : Int → Int → Prop} [∀ i j, Decidable (C i j)] {k : Int → Int → PyData} {i j : Int} : iop C k S (.d (.int i)) (.d (.int j)) = if C i j then some (.d (k i j)) else none := nz rfl
theorem iop_tup {C : Int → Int → Prop} [∀ i j, Decidable (C i j)] {k : Int → Int → PyData} {i j : List PyData} : iop C k S (.d (.tuple i)) (.d (.tuple j)) = none := nz rfl
theorem addF_int {i j : Int} : addF (.d (.int i)) (.d (.int j)) S = .ok (.d (.int (i + j))) S := nz rfl
theorem addF_tup {i j : List PyData} : addF (.d (.tuple i)) (.d (.tuple j)) S = if i.length + j.length ≤ sizeLine then .ok (.d (.tuple (i ++ j))) S else .stuck := nz rfl
theorem mulF_int {i j : Int} : mulF (.d (.int i)) (.d (.int j)) S = optR (if CMul i j then some (.d (.int (i * j))) else none) S := nz rfl
theorem int2_int {k : Int → Int → Int} {i j : Int} : int2O k S [.d (.int i), .d (.int j)] = some (.d (.int (k i j))) := nz rfl
theorem intO_int {i : Int} : intO S [.d (.int i)] = some (.d (.int i)) := nz rfl
theorem whole_d {p : PyData} : whole S (.d p) = some p := nz rfl
theorem eqv_int {i j : Int} : PyData.eqv (.int i) (.int j) = decide (i = j) := by
  by_cases h : i = j
  · subst h; simp [PyData.eqv]
  · simp [PyData.eqv, h]
theorem eqD_int {k : Bool → Bool} {i j : Int} : eqD k S (.d (.int i)) (.d (.int j)) = some (.d (.bool (k (decide (i = j))))) := by
  show (if okEq (.int i) (.int j) = true then some (D.d (.bool (k (PyData.eqv (.int i) (.int j))))) else none) = _
  rw [eqv_int, if_pos (show okEq (.int i) (.int j) = true from rfl)]
theorem lenO_tup {ps : List PyData} : lenO S [.d (.tuple ps)] = some (.d (.int ps.length)) := by simp [lenO, seqOf]
theorem ixF_tup {ps : List PyData} {k : Int} : ixF (.d (.tuple ps)) (.d (.int k)) S = match atI (ps.map D.d) k with
    | some x => .ok x S
    | none => .stuck := nz rfl
def keyN (k : Int) : Prop := 0 ≤ k
theorem atI_nat {α : Type} {xs : List α} {k : Int} (h : 0 ≤ k) (h2 : k < xs.length) : atI xs k = xs[k.toNat]? := by
  unfold atI ixN
  simp only [h, h2]
  first | rfl | simp
/-! ### the store behind a base -/
theorem get_at {S : Sto} {L : List O} {k : Nat} : (S ++ L)[S.length + k]? = L[k]? := by rw [List.getElem?_append_right (by omega)]; simp
theorem get_at0 {S : Sto} {L : List O} : (S ++ L)[S.length]? = L[0]? := get_at (k := 0)
theorem set_at {S : Sto} {L : List O} {k : Nat} {o : O} : (S ++ L).set (S.length + k) o = S ++ L.set k o := by rw [List.set_append_right _ _ (by omega)]; simp
theorem set_at0 {S : Sto} {L : List O} {o : O} : (S ++ L).set S.length o = S ++ L.set 0 o := set_at (k := 0)
theorem retOf_rt {x : D} : retOf (.ok (.rt x) S) = .ok x S := nz rfl
theorem retOf_nx : retOf (.ok (.nx ρ) S) = .ok (.d .none) S := nz rfl
theorem okB_of {i : Int} (h1 : -1000000000 ≤ i) (h2 : i ≤ 1000000000) : okB i := by
  unfold okB
  constructor <;> omega
end Fx
namespace Fx
open PySem PySem.Spec PyProof.Rows L2 RZ RT
theorem itemsR2_int {S : Sto} {i j : Int} (h1 : okB i) (h2 : okB j) : itemsR2 [.d (.int i), .d (.int j)] S = .ok (rangeD i (j - i).toNat, freeG) S := by
  show (if okB i ∧ okB j then _ else _) = _
  exact if_pos ⟨h1, h2⟩
theorem itemsR1_int {S : Sto} {j : Int} (h2 : okB j) : itemsR1 [.d (.int j)] S = .ok (rangeD 0 j.toNat, freeG) S := by
  show (if okB j then _ else _) = _
  exact if_pos h2
def isiR (T : String) (d : D) (S : Sto) : R D := match tyName S d with
  | some t => match kitB t T with
    | some b => .ok (.d (.bool b)) S
    | none => .stuck
  | none => .stuck
theorem isiF_app {T : String} {f : Sl → M D} {ρ : Sl} {S : Sto} : isiF T f ρ S = (f ρ S).to (isiR T) := nz rfl
theorem isiR_tt {ps : List PyData} {S : Sto} : isiR "tuple" (.d (.tuple ps)) S = .ok (.d (.bool true)) S := nz rfl
theorem isiR_ii {i : Int} {S : Sto} : isiR "int" (.d (.int i)) S = .ok (.d (.bool true)) S := nz rfl
theorem isiR_ib {i : Int} {S : Sto} : isiR "bool" (.d (.int i)) S = .ok (.d (.bool false)) S := nz rfl
theorem itemsT_tup {ps : List PyData} {S : Sto} : itemsT (.d (.tuple ps)) S = .ok (ps.map .d, freeG) S := nz rfl
theorem ix0 {p : PyData} {ps : List PyData} {S : Sto} : ixF (.d (.tuple (p :: ps))) (.d (.int 0)) S = .ok (.d p) S := by
  rw [ixF_tup, atI_nat (by omega) (by simp only [List.map_cons, List.length_cons]; omega)]; rfl
theorem ix1 {p q : PyData} {ps : List PyData} {S : Sto} : ixF (.d (.tuple (p :: q :: ps))) (.d (.int 1)) S = .ok (.d q) S := by
  rw [ixF_tup, atI_nat (by omega) (by simp only [List.map_cons, List.length_cons]; omega)]; rfl
theorem lt_ii {S : Sto} {i j : Int} : ltF (.d (.int i)) (.d (.int j)) S = .ok (.d (.bool (decide (i < j)))) S := nz rfl
theorem lt_tt {S : Sto} {ns ms : List Int} : ltF (.d (.tuple (ns.map .int))) (.d (.tuple (ms.map .int))) S = .ok (.d (.bool (HT.lexLt ns ms))) S := by
  show optR ((none : Option D).or (ltT S (.d (.tuple (ns.map .int))) (.d (.tuple (ms.map .int))))) S = _
  simp only [ltT, intsD_of]
  rfl
theorem c_0 : ((0 : Nat) : Int) = 0 := rfl
theorem c_1 : ((1 : Nat) : Int) = 1 := rfl
theorem c_2 : ((2 : Nat) : Int) = 2 := rfl
theorem c_3 : ((3 : Nat) : Int) = 3 := rfl
theorem c_7 : ((7 : Nat) : Int) = 7 := rfl
theorem c_12 : ((12 : Nat) : Int) = 12 := rfl
end Fx
end
section
set_option maxHeartbeats 4000000
namespace K01
open PySem PySem.Spec PyProof.Rows L2 RZ RT Fx

def topS (i : Nat) : Stmt := PySem.Challenge.pw_pulledpegs_k01_tied_pegs_and_parts_of_se.main.body.getD i (.Pass ⟨0, 0, 0, 0⟩)
abbrev s_is_integer : Stmt := topS 5
abbrev s_is_peg : Stmt := topS 6
abbrev s_is_ascending : Stmt := topS 7
abbrev s_is_peg_set : Stmt := topS 8
abbrev s__are_slips : Stmt := topS 14
abbrev s__are_rails : Stmt := topS 15
abbrev s_is_right : Stmt := topS 13
abbrev s_need_right : Stmt := topS 16
abbrev s_is_set : Stmt := topS 17
abbrev s_need_set : Stmt := topS 18
abbrev s_lacks_rail : Stmt := topS 20
abbrev s_are_tied : Stmt := topS 19
abbrev s__part_about : Stmt := topS 23
abbrev s_parts_of : Stmt := topS 22
abbrev s_hangs_together : Stmt := topS 21
abbrev s__law_deck : Stmt := topS 25
abbrev s__law_draw : Stmt := topS 26
abbrev s__law_pick : Stmt := topS 27
abbrev s__law_board : Stmt := topS 28
abbrev s__law_set : Stmt := topS 29
abbrev s__law_parts : Stmt := topS 30
abbrev s__law_sets : Stmt := topS 31
abbrev s__law_is_due : Stmt := topS 32
abbrev s_law : Stmt := topS 33
def N_is_integer : List Str := ["thing"]
theorem sc_is_integer : FnScope N_is_integer ["thing"] (defScope s_is_integer) := ⟨rfl, rfl, rfl, by decide +kernel, rfl, by decide +kernel, by decide +kernel⟩
def N_is_peg : List Str := ["many", "thing"]
theorem sc_is_peg : FnScope N_is_peg ["many", "thing"] (defScope s_is_peg) := ⟨rfl, rfl, rfl, by decide +kernel, rfl, by decide +kernel, by decide +kernel⟩
def N_is_ascending : List Str := ["row", "at"]
theorem sc_is_ascending : FnScope N_is_ascending ["row"] (defScope s_is_ascending) := ⟨rfl, rfl, rfl, by decide +kernel, rfl, by decide +kernel, by decide +kernel⟩
def N_is_peg_set : List Str := ["many", "thing", "peg"]
theorem sc_is_peg_set : FnScope N_is_peg_set ["many", "thing"] (defScope s_is_peg_set) := ⟨rfl, rfl, rfl, by decide +kernel, rfl, by decide +kernel, by decide +kernel⟩
def N__are_slips : List Str := ["thing", "slip"]
theorem sc__are_slips : FnScope N__are_slips ["thing"] (defScope s__are_slips) := ⟨rfl, rfl, rfl, by decide +kernel, rfl, by decide +kernel, by decide +kernel⟩
def N__are_rails : List Str := ["many", "thing", "rail"]
theorem sc__are_rails : FnScope N__are_rails ["many", "thing"] (defScope s__are_rails) := ⟨rfl, rfl, rfl, by decide +kernel, rfl, by decide +kernel, by decide +kernel⟩
def N_is_right : List Str := ["thing"]
theorem sc_is_right : FnScope N_is_right ["thing"] (defScope s_is_right) := ⟨rfl, rfl, rfl, by decide +kernel, rfl, by decide +kernel, by decide +kernel⟩
def N_need_right : List Str := ["wall"]
theorem sc_need_right : FnScope N_need_right ["wall"] (defScope s_need_right) := ⟨rfl, rfl, rfl, by decide +kernel, rfl, by decide +kernel, by decide +kernel⟩
def N_is_set : List Str := ["wall", "thing"]
theorem sc_is_set : FnScope N_is_set ["wall", "thing"] (defScope s_is_set) := ⟨rfl, rfl, rfl, by decide +kernel, rfl, by decide +kernel, by decide +kernel⟩
def N_need_set : List Str := ["wall", "pegs"]
theorem sc_need_set : FnScope N_need_set ["wall", "pegs"] (defScope s_need_set) := ⟨rfl, rfl, rfl, by decide +kernel, rfl, by decide +kernel, by decide +kernel⟩
def N_lacks_rail : List Str := ["wall", "i", "j"]
theorem sc_lacks_rail : FnScope N_lacks_rail ["wall", "i", "j"] (defScope s_lacks_rail) := ⟨rfl, rfl, rfl, by decide +kernel, rfl, by decide +kernel, by decide +kernel⟩
def N_are_tied : List Str := ["wall", "i", "j"]
theorem sc_are_tied : FnScope N_are_tied ["wall", "i", "j"] (defScope s_are_tied) := ⟨rfl, rfl, rfl, by decide +kernel, rfl, by decide +kernel, by decide +kernel⟩
def N__part_about : List Str := ["wall", "first", "pegs", "part", "at", "peg"]
theorem sc__part_about : FnScope N__part_about ["wall", "first", "pegs"] (defScope s__part_about) := ⟨rfl, rfl, rfl, by decide +kernel, rfl, by decide +kernel, by decide +kernel⟩
def N_parts_of : List Str := ["wall", "pegs", "parts", "left", "part", "peg"]
theorem sc_parts_of : FnScope N_parts_of ["wall", "pegs"] (defScope s_parts_of) := ⟨rfl, rfl, rfl, by decide +kernel, rfl, by decide +kernel, by decide +kernel⟩
def N_hangs_together : List Str := ["wall", "pegs"]
theorem sc_hangs_together : FnScope N_hangs_together ["wall", "pegs"] (defScope s_hangs_together) := ⟨rfl, rfl, rfl, by decide +kernel, rfl, by decide +kernel, by decide +kernel⟩
def N__law_deck : List Str := ["script", "mixed", "cell"]
theorem sc__law_deck : FnScope N__law_deck ["script"] (defScope s__law_deck) := ⟨rfl, rfl, rfl, by decide +kernel, rfl, by decide +kernel, by decide +kernel⟩
def N__law_draw : List Str := ["deck", "many", "number", "cell"]
theorem sc__law_draw : FnScope N__law_draw ["deck", "many"] (defScope s__law_draw) := ⟨rfl, rfl, rfl, by decide +kernel, rfl, by decide +kernel, by decide +kernel⟩
def N__law_pick : List Str := ["deck", "some"]
theorem sc__law_pick : FnScope N__law_pick ["deck", "some"] (defScope s__law_pick) := ⟨rfl, rfl, rfl, by decide +kernel, rfl, by decide +kernel, by decide +kernel⟩
def N__law_board : List Str := ["deck", "most", "n", "way", "dense", "slips", "k", "rails", "i", "j"]
theorem sc__law_board : FnScope N__law_board ["deck", "most"] (defScope s__law_board) := ⟨rfl, rfl, rfl, by decide +kernel, rfl, by decide +kernel, by decide +kernel⟩
def N__law_set : List Str := ["deck", "n", "way", "peg"]
theorem sc__law_set : FnScope N__law_set ["deck", "n"] (defScope s__law_set) := ⟨rfl, rfl, rfl, by decide +kernel, rfl, by decide +kernel, by decide +kernel⟩
def N__law_parts : List Str := ["wall", "pegs", "found", "peg", "joined", "others", "part", "other"]
theorem sc__law_parts : FnScope N__law_parts ["wall", "pegs"] (defScope s__law_parts) := ⟨rfl, rfl, rfl, by decide +kernel, rfl, by decide +kernel, by decide +kernel⟩
def N__law_sets : List Str := ["n", "found", "peg", "pegs"]
theorem sc__law_sets : FnScope N__law_sets ["n"] (defScope s__law_sets) := ⟨rfl, rfl, rfl, by decide +kernel, rfl, by decide +kernel, by decide +kernel⟩
def N__law_is_due : List Str := ["wall", "pegs", "is_named", "parts", "told"]
theorem sc__law_is_due : FnScope N__law_is_due ["wall", "pegs", "is_named"] (defScope s__law_is_due) := ⟨rfl, rfl, rfl, by decide +kernel, rfl, by decide +kernel, by decide +kernel⟩
def N_law : List Str := ["script", "deck", "wall", "n", "i", "j", "due", "some", "turn", "at", "pegs"]
theorem sc_law : FnScope N_law ["script"] (defScope s_law) := ⟨rfl, rfl, rfl, by decide +kernel, rfl, by decide +kernel, by decide +kernel⟩
structure Txt (K : PySem.W.Frag) (mg : Str → Option Value) where
  a_is_integer : Addr
  d_is_integer : FuncData
  F_is_integer : Fun K "is_integer" "is_integer" s_is_integer a_is_integer d_is_integer
  m_is_integer : mg "is_integer" = some (.ref a_is_integer)
  b_is_integer : Binds K d_is_integer ["thing"] []
  a_is_peg : Addr
  d_is_peg : FuncData
  F_is_peg : Fun K "is_peg" "is_peg" s_is_peg a_is_peg d_is_peg
  m_is_peg : mg "is_peg" = some (.ref a_is_peg)
  b_is_peg : Binds K d_is_peg ["many", "thing"] []
  a_is_ascending : Addr
  d_is_ascending : FuncData
  F_is_ascending : Fun K "is_ascending" "is_ascending" s_is_ascending a_is_ascending d_is_ascending
  m_is_ascending : mg "is_ascending" = some (.ref a_is_ascending)
  b_is_ascending : Binds K d_is_ascending ["row"] []
  a_is_peg_set : Addr
  d_is_peg_set : FuncData
  F_is_peg_set : Fun K "is_peg_set" "is_peg_set" s_is_peg_set a_is_peg_set d_is_peg_set
  m_is_peg_set : mg "is_peg_set" = some (.ref a_is_peg_set)
  b_is_peg_set : Binds K d_is_peg_set ["many", "thing"] []
  a__are_slips : Addr
  d__are_slips : FuncData
  F__are_slips : Fun K "_are_slips" "_are_slips" s__are_slips a__are_slips d__are_slips
  m__are_slips : mg "_are_slips" = some (.ref a__are_slips)
  b__are_slips : Binds K d__are_slips ["thing"] []
  a__are_rails : Addr
  d__are_rails : FuncData
  F__are_rails : Fun K "_are_rails" "_are_rails" s__are_rails a__are_rails d__are_rails
  m__are_rails : mg "_are_rails" = some (.ref a__are_rails)
  b__are_rails : Binds K d__are_rails ["many", "thing"] []
  a_is_right : Addr
  d_is_right : FuncData
  F_is_right : Fun K "is_right" "is_right" s_is_right a_is_right d_is_right
  m_is_right : mg "is_right" = some (.ref a_is_right)
  b_is_right : Binds K d_is_right ["thing"] []
  a_need_right : Addr
  d_need_right : FuncData
  F_need_right : Fun K "need_right" "need_right" s_need_right a_need_right d_need_right
  m_need_right : mg "need_right" = some (.ref a_need_right)
  b_need_right : Binds K d_need_right ["wall"] []
  a_is_set : Addr
  d_is_set : FuncData
  F_is_set : Fun K "is_set" "is_set" s_is_set a_is_set d_is_set
  m_is_set : mg "is_set" = some (.ref a_is_set)
  b_is_set : Binds K d_is_set ["wall", "thing"] []
  a_need_set : Addr
  d_need_set : FuncData
  F_need_set : Fun K "need_set" "need_set" s_need_set a_need_set d_need_set
  m_need_set : mg "need_set" = some (.ref a_need_set)
  b_need_set : Binds K d_need_set ["wall", "pegs"] []
  a_lacks_rail : Addr
  d_lacks_rail : FuncData
  F_lacks_rail : Fun K "lacks_rail" "lacks_rail" s_lacks_rail a_lacks_rail d_lacks_rail
  m_lacks_rail : mg "lacks_rail" = some (.ref a_lacks_rail)
  b_lacks_rail : Binds K d_lacks_rail ["wall", "i", "j"] []
  a_are_tied : Addr
  d_are_tied : FuncData
  F_are_tied : Fun K "are_tied" "are_tied" s_are_tied a_are_tied d_are_tied
  m_are_tied : mg "are_tied" = some (.ref a_are_tied)
  b_are_tied : Binds K d_are_tied ["wall", "i", "j"] []
  a__part_about : Addr
  d__part_about : FuncData
  F__part_about : Fun K "_part_about" "_part_about" s__part_about a__part_about d__part_about
  m__part_about : mg "_part_about" = some (.ref a__part_about)
  b__part_about : Binds K d__part_about ["wall", "first", "pegs"] []
  a_parts_of : Addr
  d_parts_of : FuncData
  F_parts_of : Fun K "parts_of" "parts_of" s_parts_of a_parts_of d_parts_of
  m_parts_of : mg "parts_of" = some (.ref a_parts_of)
  b_parts_of : Binds K d_parts_of ["wall", "pegs"] []
  a_hangs_together : Addr
  d_hangs_together : FuncData
  F_hangs_together : Fun K "hangs_together" "hangs_together" s_hangs_together a_hangs_together d_hangs_together
  m_hangs_together : mg "hangs_together" = some (.ref a_hangs_together)
  b_hangs_together : Binds K d_hangs_together ["wall", "pegs"] []
  a__law_deck : Addr
  d__law_deck : FuncData
  F__law_deck : Fun K "_law_deck" "_law_deck" s__law_deck a__law_deck d__law_deck
  m__law_deck : mg "_law_deck" = some (.ref a__law_deck)
  b__law_deck : Binds K d__law_deck ["script"] []
  a__law_draw : Addr
  d__law_draw : FuncData
  F__law_draw : Fun K "_law_draw" "_law_draw" s__law_draw a__law_draw d__law_draw
  m__law_draw : mg "_law_draw" = some (.ref a__law_draw)
  b__law_draw : Binds K d__law_draw ["deck", "many"] []
  a__law_pick : Addr
  d__law_pick : FuncData
  F__law_pick : Fun K "_law_pick" "_law_pick" s__law_pick a__law_pick d__law_pick
  m__law_pick : mg "_law_pick" = some (.ref a__law_pick)
  b__law_pick : Binds K d__law_pick ["deck", "some"] []
  a__law_board : Addr
  d__law_board : FuncData
  F__law_board : Fun K "_law_board" "_law_board" s__law_board a__law_board d__law_board
  m__law_board : mg "_law_board" = some (.ref a__law_board)
  b__law_board : Binds K d__law_board ["deck", "most"] []
  a__law_set : Addr
  d__law_set : FuncData
  F__law_set : Fun K "_law_set" "_law_set" s__law_set a__law_set d__law_set
  m__law_set : mg "_law_set" = some (.ref a__law_set)
  b__law_set : Binds K d__law_set ["deck", "n"] []
  a__law_parts : Addr
  d__law_parts : FuncData
  F__law_parts : Fun K "_law_parts" "_law_parts" s__law_parts a__law_parts d__law_parts
  m__law_parts : mg "_law_parts" = some (.ref a__law_parts)
  b__law_parts : Binds K d__law_parts ["wall", "pegs"] []
  a__law_sets : Addr
  d__law_sets : FuncData
  F__law_sets : Fun K "_law_sets" "_law_sets" s__law_sets a__law_sets d__law_sets
  m__law_sets : mg "_law_sets" = some (.ref a__law_sets)
  b__law_sets : Binds K d__law_sets ["n"] []
  a__law_is_due : Addr
  d__law_is_due : FuncData
  F__law_is_due : Fun K "_law_is_due" "_law_is_due" s__law_is_due a__law_is_due d__law_is_due
  m__law_is_due : mg "_law_is_due" = some (.ref a__law_is_due)
  b__law_is_due : Binds K d__law_is_due ["wall", "pegs", "is_named"] []
  a_law : Addr
  d_law : FuncData
  F_law : Fun K "law" "law" s_law a_law d_law
  m_law : mg "law" = some (.ref a_law)
  b_law : Binds K d_law ["script"] []
  t_MOST_PEGS : Tok
  c_MOST_PEGS : mg "MOST_PEGS" = some (.int 10 t_MOST_PEGS)
  t_LEAST_SLIP : Tok
  c_LEAST_SLIP : mg "LEAST_SLIP" = some (.int 2 t_LEAST_SLIP)
  t_MOST_SLIP : Tok
  c_MOST_SLIP : mg "MOST_SLIP" = some (.int 30 t_MOST_SLIP)
  z_isinstance : mg "isinstance" = none
  z_int : mg "int" = none
  z_bool : mg "bool" = none
  z_len : mg "len" = none
  z_range : mg "range" = none
  z_tuple : mg "tuple" = none
  z_max : mg "max" = none
  z_min : mg "min" = none
  z_sorted : mg "sorted" = none
  z_list : mg "list" = none
  z_sum : mg "sum" = none
  z_repr : mg "repr" = none
  z_enumerate : mg "enumerate" = none
variable {P : Program} {w : World} {K : PySem.W.Frag} {mg : Str → Option Value} {base : Heap}

/-! ### is_integer -/
noncomputable def b_is_integer : Sl → M Oc :=
    (ret (andV (isiF "int" (var 0)) (notV (isiF "bool" (var 0)))))
noncomputable def f_is_integer : List D → M D := gcF N_is_integer b_is_integer
theorem u_is_integer (x0 : D) (S : Sto) : f_is_integer [x0] S = gcR S.length (retOf (b_is_integer [some x0] S)) := rfl
theorem g_is_integer (T : Txt K mg) : FnG P w K mg base 1 T.a_is_integer T.d_is_integer ["thing"] f_is_integer := fnG_gc T.F_is_integer sc_is_integer (fun cdv A outer s H E hgu hr =>
    (fss_one (fs_ret (fe_and (fe_isi (fe_var 0) T.z_isinstance T.z_int) (fe_one (fe_not (fe_isi (fe_var 0) T.z_isinstance T.z_bool)))))))
/-! ### is_peg -/
noncomputable def b_is_peg : Sl → M Oc :=
    (ret (andV (call1 1 f_is_integer (consA (var 1) nilA)) (chain leF leF (con (.int 1)) (var 1) (var 0))))
noncomputable def f_is_peg : List D → M D := gcF N_is_peg b_is_peg
theorem u_is_peg (x0 x1 : D) (S : Sto) : f_is_peg [x0, x1] S = gcR S.length (retOf (b_is_peg [some x0, some x1] S)) := rfl
theorem g_is_peg (T : Txt K mg) : FnG P w K mg base 2 T.a_is_peg T.d_is_peg ["many", "thing"] f_is_peg := fnG_gc T.F_is_peg sc_is_peg (fun cdv A outer s H E hgu hr =>
    (fss_one (fs_ret (fe_and (fe_call (g_is_integer (P := P) (w := w) (base := base) T) hgu (hr.mono (by decide)) T.m_is_integer T.F_is_integer.kp T.b_is_integer passX (fa_cons (fe_var 1) fa_nil)) (fe_one (fe_chain opf_le opf_le fe_int (fe_var 1) (fe_var 0)))))))
/-! ### is_ascending -/
noncomputable def l_is_ascending_1 : Sl → M Oc :=
    (ifS (notT (tstB (op2 ltF (op2 ixF (var 0) (op2 subF (var 1) (con (.int 1)))) (op2 ixF (var 0) (var 1))))) (ret (con (.bool false))) skip)
noncomputable def b_is_ascending : Sl → M Oc :=
    (seq (forS (iterA itemsR2 (consA (con (.int 1)) (consA (app (purA lenO) (consA (var 0) nilA)) nilA))) (setN 1) l_is_ascending_1)
    (ret (con (.bool true))))
noncomputable def f_is_ascending : List D → M D := gcF N_is_ascending b_is_ascending
theorem u_is_ascending (x0 : D) (S : Sto) : f_is_ascending [x0] S = gcR S.length (retOf (b_is_ascending [some x0, none] S)) := rfl
theorem g_is_ascending (T : Txt K mg) : FnG P w K mg base 1 T.a_is_ascending T.d_is_ascending ["row"] f_is_ascending := fnG_gc T.F_is_ascending sc_is_ascending (fun cdv A outer s H E hgu hr =>
    (fss_cons (fs_for ownX rfl (fi_range2 T.z_range (fa_cons fe_int (fa_cons (fe_callB bf_len T.z_len (fa_cons (fe_var 0) fa_nil)) fa_nil))) (fg_name (i := 1) sc_is_ascending.nd) (fss_one (fs_if (ft_not (ft_cmp (opf_lt2 hr.units0) (nomark _) (fe_ix (fe_var 0) (fe_op opf_sub (fe_var 1) fe_int)) (fe_ix (fe_var 0) (fe_var 1)))) (fss_one (fs_ret fe_bl)) fss_nil)))
    (fss_one (fs_ret fe_bl))))
/-! ### is_peg_set -/
noncomputable def l_is_peg_set_1 : Sl → M Oc :=
    (ifS (notT (tst (call1 2 f_is_peg (consA (var 0) (consA (var 2) nilA))))) (ret (con (.bool false))) skip)
noncomputable def b_is_peg_set : Sl → M Oc :=
    (seq (ifS (notT (tst (isiF "tuple" (var 1)))) (ret (con (.bool false))) skip)
    (seq (forS (walk itemsT (var 1)) (setN 2) l_is_peg_set_1)
    (ret (call1 1 f_is_ascending (consA (var 1) nilA)))))
noncomputable def f_is_peg_set : List D → M D := gcF N_is_peg_set b_is_peg_set
theorem u_is_peg_set (x0 x1 : D) (S : Sto) : f_is_peg_set [x0, x1] S = gcR S.length (retOf (b_is_peg_set [some x0, some x1, none] S)) := rfl
theorem g_is_peg_set (T : Txt K mg) : FnG P w K mg base 3 T.a_is_peg_set T.d_is_peg_set ["many", "thing"] f_is_peg_set := fnG_gc T.F_is_peg_set sc_is_peg_set (fun cdv A outer s H E hgu hr =>
    (fss_cons (fs_if (ft_not (ft_truth (fe_isi (fe_var 1) T.z_isinstance T.z_tuple))) (fss_one (fs_ret fe_bl)) fss_nil)
    (fss_cons (fs_for ownX rfl (fi_tup (fe_var 1)) (fg_name (i := 2) sc_is_peg_set.nd) (fss_one (fs_if (ft_not (ft_truth (fe_call (g_is_peg (P := P) (w := w) (base := base) T) hgu (hr.mono (by decide)) T.m_is_peg T.F_is_peg.kp T.b_is_peg passX (fa_cons (fe_var 0) (fa_cons (fe_var 2) fa_nil))))) (fss_one (fs_ret fe_bl)) fss_nil)))
    (fss_one (fs_ret (fe_call (g_is_ascending (P := P) (w := w) (base := base) T) hgu (hr.mono (by decide)) T.m_is_ascending T.F_is_ascending.kp T.b_is_ascending passX (fa_cons (fe_var 1) fa_nil)))))))
/-! ### _are_slips -/
noncomputable def l__are_slips_1 : Sl → M Oc :=
    (ifS (notT (andT (tst (call1 1 f_is_integer (consA (var 1) nilA))) (orT (tstB (op2 eqF (var 1) (con (.int 0)))) (tstB (chain leF leF (con (.int 2)) (var 1) (con (.int 30))))))) (ret (con (.bool false))) skip)
noncomputable def b__are_slips : Sl → M Oc :=
    (seq (ifS (notT (andT (tst (isiF "tuple" (var 0))) (tstB (chain leF leF (con (.int 1)) (app (purA lenO) (consA (var 0) nilA)) (con (.int 10)))))) (ret (con (.bool false))) skip)
    (seq (forS (walk itemsT (var 0)) (setN 1) l__are_slips_1)
    (ret (con (.bool true)))))
noncomputable def f__are_slips : List D → M D := gcF N__are_slips b__are_slips
theorem u__are_slips (x0 : D) (S : Sto) : f__are_slips [x0] S = gcR S.length (retOf (b__are_slips [some x0, none] S)) := rfl
theorem g__are_slips (T : Txt K mg) : FnG P w K mg base 2 T.a__are_slips T.d__are_slips ["thing"] f__are_slips := fnG_gc T.F__are_slips sc__are_slips (fun cdv A outer s H E hgu hr =>
    (fss_cons (fs_if (ft_not ((fw_and (ft_truth (fe_isi (fe_var 0) T.z_isinstance T.z_tuple)) (fw_and1 (ft_chain opf_le opf_le fe_int (fe_callB bf_len T.z_len (fa_cons (fe_var 0) fa_nil)) (fe_globI T.c_MOST_PEGS))))).ft) (fss_one (fs_ret fe_bl)) fss_nil)
    (fss_cons (fs_for ownX rfl (fi_tup (fe_var 0)) (fg_name (i := 1) sc__are_slips.nd) (fss_one (fs_if (ft_not ((fw_and (ft_truth (fe_call (g_is_integer (P := P) (w := w) (base := base) T) hgu (hr.mono (by decide)) T.m_is_integer T.F_is_integer.kp T.b_is_integer passX (fa_cons (fe_var 1) fa_nil))) (fw_and1 ((fw_or (ft_cmp (opf_eq hr.units) (nomark _) (fe_var 1) fe_int) (fw_or1 (ft_chain opf_le opf_le (fe_globI T.c_LEAST_SLIP) (fe_var 1) (fe_globI T.c_MOST_SLIP))))).ft))).ft) (fss_one (fs_ret fe_bl)) fss_nil)))
    (fss_one (fs_ret fe_bl)))))
/-! ### _are_rails -/
noncomputable def l__are_rails_1 : Sl → M Oc :=
    (seq (ifS (notT (andT (tst (isiF "tuple" (var 2))) (tstB (op2 eqF (app (purA lenO) (consA (var 2) nilA)) (con (.int 2)))))) (ret (con (.bool false))) skip)
    (ifS (notT (andT (tst (call1 2 f_is_peg (consA (var 0) (consA (op2 ixF (var 2) (con (.int 0))) nilA)))) (andT (tst (call1 2 f_is_peg (consA (var 0) (consA (op2 ixF (var 2) (con (.int 1))) nilA)))) (tstB (op2 ltF (op2 ixF (var 2) (con (.int 0))) (op2 ixF (var 2) (con (.int 1)))))))) (ret (con (.bool false))) skip))
noncomputable def b__are_rails : Sl → M Oc :=
    (seq (ifS (notT (tst (isiF "tuple" (var 1)))) (ret (con (.bool false))) skip)
    (seq (forS (walk itemsT (var 1)) (setN 2) l__are_rails_1)
    (ret (call1 1 f_is_ascending (consA (var 1) nilA)))))
noncomputable def f__are_rails : List D → M D := gcF N__are_rails b__are_rails
theorem u__are_rails (x0 x1 : D) (S : Sto) : f__are_rails [x0, x1] S = gcR S.length (retOf (b__are_rails [some x0, some x1, none] S)) := rfl
theorem g__are_rails (T : Txt K mg) : FnG P w K mg base 3 T.a__are_rails T.d__are_rails ["many", "thing"] f__are_rails := fnG_gc T.F__are_rails sc__are_rails (fun cdv A outer s H E hgu hr =>
    (fss_cons (fs_if (ft_not (ft_truth (fe_isi (fe_var 1) T.z_isinstance T.z_tuple))) (fss_one (fs_ret fe_bl)) fss_nil)
    (fss_cons (fs_for ownX rfl (fi_tup (fe_var 1)) (fg_name (i := 2) sc__are_rails.nd) (fss_cons (fs_if (ft_not ((fw_and (ft_truth (fe_isi (fe_var 2) T.z_isinstance T.z_tuple)) (fw_and1 (ft_cmp (opf_eq hr.units) (nomark _) (fe_callB bf_len T.z_len (fa_cons (fe_var 2) fa_nil)) fe_int)))).ft) (fss_one (fs_ret fe_bl)) fss_nil)
    (fss_one (fs_if (ft_not ((fw_and (ft_truth (fe_call (g_is_peg (P := P) (w := w) (base := base) T) hgu (hr.mono (by decide)) T.m_is_peg T.F_is_peg.kp T.b_is_peg passX (fa_cons (fe_var 0) (fa_cons (fe_ix (fe_var 2) fe_int) fa_nil)))) (fw_and (ft_truth (fe_call (g_is_peg (P := P) (w := w) (base := base) T) hgu (hr.mono (by decide)) T.m_is_peg T.F_is_peg.kp T.b_is_peg passX (fa_cons (fe_var 0) (fa_cons (fe_ix (fe_var 2) fe_int) fa_nil)))) (fw_and1 (ft_cmp (opf_lt2 hr.units0) (nomark _) (fe_ix (fe_var 2) fe_int) (fe_ix (fe_var 2) fe_int)))))).ft) (fss_one (fs_ret fe_bl)) fss_nil))))
    (fss_one (fs_ret (fe_call (g_is_ascending (P := P) (w := w) (base := base) T) hgu (hr.mono (by decide)) T.m_is_ascending T.F_is_ascending.kp T.b_is_ascending passX (fa_cons (fe_var 1) fa_nil)))))))
/-! ### is_right -/
noncomputable def b_is_right : Sl → M Oc :=
    (seq (ifS (notT (andT (tst (isiF "tuple" (var 0))) (tstB (op2 eqF (app (purA lenO) (consA (var 0) nilA)) (con (.int 2)))))) (ret (con (.bool false))) skip)
    (ret (andV (call1 1 f__are_slips (consA (op2 ixF (var 0) (con (.int 0))) nilA)) (call1 2 f__are_rails (consA (app (purA lenO) (consA (op2 ixF (var 0) (con (.int 0))) nilA)) (consA (op2 ixF (var 0) (con (.int 1))) nilA))))))
noncomputable def f_is_right : List D → M D := gcF N_is_right b_is_right
theorem u_is_right (x0 : D) (S : Sto) : f_is_right [x0] S = gcR S.length (retOf (b_is_right [some x0] S)) := rfl
theorem g_is_right (T : Txt K mg) : FnG P w K mg base 4 T.a_is_right T.d_is_right ["thing"] f_is_right := fnG_gc T.F_is_right sc_is_right (fun cdv A outer s H E hgu hr =>
    (fss_cons (fs_if (ft_not ((fw_and (ft_truth (fe_isi (fe_var 0) T.z_isinstance T.z_tuple)) (fw_and1 (ft_cmp (opf_eq hr.units) (nomark _) (fe_callB bf_len T.z_len (fa_cons (fe_var 0) fa_nil)) fe_int)))).ft) (fss_one (fs_ret fe_bl)) fss_nil)
    (fss_one (fs_ret (fe_and (fe_call (g__are_slips (P := P) (w := w) (base := base) T) hgu (hr.mono (by decide)) T.m__are_slips T.F__are_slips.kp T.b__are_slips passX (fa_cons (fe_ix (fe_var 0) fe_int) fa_nil)) (fe_one (fe_call (g__are_rails (P := P) (w := w) (base := base) T) hgu (hr.mono (by decide)) T.m__are_rails T.F__are_rails.kp T.b__are_rails passX (fa_cons (fe_callB bf_len T.z_len (fa_cons (fe_ix (fe_var 0) fe_int) fa_nil)) (fa_cons (fe_ix (fe_var 0) fe_int) fa_nil)))))))))
/-! ### need_right -/
noncomputable def b_need_right : Sl → M Oc :=
    (ifS (notT (tst (call1 1 f_is_right (consA (var 0) nilA)))) (fun _ => stuck) skip)
noncomputable def f_need_right : List D → M D := gcF N_need_right b_need_right
theorem u_need_right (x0 : D) (S : Sto) : f_need_right [x0] S = gcR S.length (retOf (b_need_right [some x0] S)) := rfl
theorem g_need_right (T : Txt K mg) : FnG P w K mg base 5 T.a_need_right T.d_need_right ["wall"] f_need_right := fnG_gc T.F_need_right sc_need_right (fun cdv A outer s H E hgu hr =>
    (fss_one (fs_if (ft_not (ft_truth (fe_call (g_is_right (P := P) (w := w) (base := base) T) hgu (hr.mono (by decide)) T.m_is_right T.F_is_right.kp T.b_is_right passX (fa_cons (fe_var 0) fa_nil)))) (fss_one fs_never) fss_nil)))
/-! ### is_set -/
noncomputable def b_is_set : Sl → M Oc :=
    (seq (dropE (call1 1 f_need_right (consA (var 0) nilA)))
    (ret (call1 2 f_is_peg_set (consA (app (purA lenO) (consA (op2 ixF (var 0) (con (.int 0))) nilA)) (consA (var 1) nilA)))))
noncomputable def f_is_set : List D → M D := gcF N_is_set b_is_set
theorem u_is_set (x0 x1 : D) (S : Sto) : f_is_set [x0, x1] S = gcR S.length (retOf (b_is_set [some x0, some x1] S)) := rfl
theorem g_is_set (T : Txt K mg) : FnG P w K mg base 6 T.a_is_set T.d_is_set ["wall", "thing"] f_is_set := fnG_gc T.F_is_set sc_is_set (fun cdv A outer s H E hgu hr =>
    (fss_cons (fs_expr (fe_call (g_need_right (P := P) (w := w) (base := base) T) hgu (hr.mono (by decide)) T.m_need_right T.F_need_right.kp T.b_need_right passX (fa_cons (fe_var 0) fa_nil)))
    (fss_one (fs_ret (fe_call (g_is_peg_set (P := P) (w := w) (base := base) T) hgu (hr.mono (by decide)) T.m_is_peg_set T.F_is_peg_set.kp T.b_is_peg_set passX (fa_cons (fe_callB bf_len T.z_len (fa_cons (fe_ix (fe_var 0) fe_int) fa_nil)) (fa_cons (fe_var 1) fa_nil)))))))
/-! ### need_set -/
noncomputable def b_need_set : Sl → M Oc :=
    (ifS (notT (tst (call1 2 f_is_set (consA (var 0) (consA (var 1) nilA))))) (fun _ => stuck) skip)
noncomputable def f_need_set : List D → M D := gcF N_need_set b_need_set
theorem u_need_set (x0 x1 : D) (S : Sto) : f_need_set [x0, x1] S = gcR S.length (retOf (b_need_set [some x0, some x1] S)) := rfl
theorem g_need_set (T : Txt K mg) : FnG P w K mg base 7 T.a_need_set T.d_need_set ["wall", "pegs"] f_need_set := fnG_gc T.F_need_set sc_need_set (fun cdv A outer s H E hgu hr =>
    (fss_one (fs_if (ft_not (ft_truth (fe_call (g_is_set (P := P) (w := w) (base := base) T) hgu (hr.mono (by decide)) T.m_is_set T.F_is_set.kp T.b_is_set passX (fa_cons (fe_var 0) (fa_cons (fe_var 1) fa_nil))))) (fss_one fs_never) fss_nil)))
/-! ### lacks_rail -/
noncomputable def b_lacks_rail : Sl → M Oc :=
    (ret (andV (op2 neF (var 1) (var 2)) (op2 notInF (tupV (consA (app minO (consA (var 1) (consA (var 2) nilA))) (consA (app maxO (consA (var 1) (consA (var 2) nilA))) nilA))) (op2 ixF (var 0) (con (.int 1))))))
noncomputable def f_lacks_rail : List D → M D := gcF N_lacks_rail b_lacks_rail
theorem u_lacks_rail (x0 x1 x2 : D) (S : Sto) : f_lacks_rail [x0, x1, x2] S = gcR S.length (retOf (b_lacks_rail [some x0, some x1, some x2] S)) := rfl
theorem g_lacks_rail (T : Txt K mg) : FnG P w K mg base 1 T.a_lacks_rail T.d_lacks_rail ["wall", "i", "j"] f_lacks_rail := fnG_gc T.F_lacks_rail sc_lacks_rail (fun cdv A outer s H E hgu hr =>
    (fss_one (fs_ret (fe_and (fe_cmp (opf_ne hr.units) (nomark _) (fe_var 1) (fe_var 2)) (fe_one (fe_cmp (opf_notIn (u65 hr)) (by rfl) (fe_tup (fa_cons (fe_callB (bf_min2 rfl) T.z_min (fa_cons (fe_var 1) (fa_cons (fe_var 2) fa_nil))) (fa_cons (fe_callB (bf_max2 rfl) T.z_max (fa_cons (fe_var 1) (fa_cons (fe_var 2) fa_nil))) fa_nil))) (fe_ix (fe_var 0) fe_int)))))))
/-! ### are_tied -/
noncomputable def b_are_tied : Sl → M Oc :=
    (seq (dropE (call1 1 f_need_right (consA (var 0) nilA)))
    (ret (call1 3 f_lacks_rail (consA (var 0) (consA (var 1) (consA (var 2) nilA))))))
noncomputable def f_are_tied : List D → M D := gcF N_are_tied b_are_tied
theorem u_are_tied (x0 x1 x2 : D) (S : Sto) : f_are_tied [x0, x1, x2] S = gcR S.length (retOf (b_are_tied [some x0, some x1, some x2] S)) := rfl
theorem g_are_tied (T : Txt K mg) : FnG P w K mg base 6 T.a_are_tied T.d_are_tied ["wall", "i", "j"] f_are_tied := fnG_gc T.F_are_tied sc_are_tied (fun cdv A outer s H E hgu hr =>
    (fss_cons (fs_expr (fe_call (g_need_right (P := P) (w := w) (base := base) T) hgu (hr.mono (by decide)) T.m_need_right T.F_need_right.kp T.b_need_right passX (fa_cons (fe_var 0) fa_nil)))
    (fss_one (fs_ret (fe_call (g_lacks_rail (P := P) (w := w) (base := base) T) hgu (hr.mono (by decide)) T.m_lacks_rail T.F_lacks_rail.kp T.b_lacks_rail passX (fa_cons (fe_var 0) (fa_cons (fe_var 1) (fa_cons (fe_var 2) fa_nil))))))))
/-! ### _part_about -/
noncomputable def l__part_about_1 : Sl → M Oc :=
    (ifS (andT (tstB (op2 notInF (var 5) (var 3))) (tst (call1 3 f_lacks_rail (consA (var 0) (consA (op2 ixF (var 3) (var 4)) (consA (var 5) nilA)))))) (dropE (methL1 appendF (var 3) (var 5))) skip)
noncomputable def w__part_about_1 : Sl → M Bool :=
    (tstB (op2 ltF (var 4) (app (purA lenO) (consA (var 3) nilA))))
noncomputable def l__part_about_2 : Sl → M Oc :=
    (seq (forS (walk itemsL (var 2)) (setN 5) l__part_about_1)
    (aug 4 (fun i j => i + j) (con (.int 1))))
noncomputable def b__part_about : Sl → M Oc :=
    (seq (set1 3 (lstV (consA (var 1) nilA)))
    (seq (set1 4 (con (.int 0)))
    (seq (whileW w__part_about_1 l__part_about_2)
    (ret (app toTup (consA (app sortF (consA (var 3) nilA)) nilA))))))
noncomputable def f__part_about : List D → M D := gcF N__part_about b__part_about
theorem u__part_about (x0 x1 x2 : D) (S : Sto) : f__part_about [x0, x1, x2] S = gcR S.length (retOf (b__part_about [some x0, some x1, some x2, none, none, none] S)) := rfl
theorem g__part_about (T : Txt K mg) : FnG P w K mg base 2 T.a__part_about T.d__part_about ["wall", "first", "pegs"] f__part_about := fnG_gc T.F__part_about sc__part_about (fun cdv A outer s H E hgu hr =>
    (fss_cons (fs_set (i := 3) sc__part_about.nd (fe_lst (fa_cons (fe_var 1) fa_nil)))
    (fss_cons (fs_set (i := 4) sc__part_about.nd fe_int)
    (fss_cons (fs_while ownX (ft_cmp (opf_lt2 hr.units0) (nomark _) (fe_var 4) (fe_callB bf_len T.z_len (fa_cons (fe_var 3) fa_nil))) (fss_cons (fs_for ownX rfl (fi_list (fe_var 2)) (fg_name (i := 5) sc__part_about.nd) (fss_one (fs_if ((fw_and (ft_cmp (opf_notIn (u65 hr)) (by rfl) (fe_var 5) (fe_var 3)) (fw_and1 (ft_truth (fe_call (g_lacks_rail (P := P) (w := w) (base := base) T) hgu (hr.mono (by decide)) T.m_lacks_rail T.F_lacks_rail.kp T.b_lacks_rail passX (fa_cons (fe_var 0) (fa_cons (fe_ix (fe_var 3) (fe_var 4)) (fa_cons (fe_var 5) fa_nil)))))))).ft (fss_one (fs_expr (fe_append (fe_var 3) (fe_var 5)))) fss_nil)))
    (fss_one (fs_augI (i := 4) sc__part_about.nd fe_int ip_add))))
    (fss_one (fs_ret (fe_callTy bf_tuple T.z_tuple (fa_cons (fe_callB (bf_sorted hr.units) T.z_sorted (fa_cons (fe_var 3) fa_nil)) fa_nil))))))))
/-! ### parts_of -/
noncomputable def t_parts_of_1 : Sl → M Bool :=
    (tstB (op2 notInF (var 5) (var 4)))
noncomputable def e_parts_of_1 : Sl → M D :=
    (var 5)
noncomputable def w_parts_of_1 : Sl → M Bool :=
    (tst (var 3))
noncomputable def l_parts_of_1 : Sl → M Oc :=
    (seq (set1 4 (call1 3 f__part_about (consA (var 0) (consA (op2 ixF (var 3) (con (.int 0))) (consA (var 3) nilA)))))
    (seq (dropE (methL1 appendF (var 2) (var 4)))
    (set1 3 (lcS (walk itemsL (var 3)) [5] (setN 5) t_parts_of_1 e_parts_of_1))))
noncomputable def b_parts_of : Sl → M Oc :=
    (seq (dropE (call1 2 f_need_set (consA (var 0) (consA (var 1) nilA))))
    (seq (set1 2 (lstV nilA))
    (seq (set1 3 (app toList (consA (var 1) nilA)))
    (seq (whileW w_parts_of_1 l_parts_of_1)
    (ret (app toTup (consA (var 2) nilA)))))))
noncomputable def f_parts_of : List D → M D := gcF N_parts_of b_parts_of
theorem u_parts_of (x0 x1 : D) (S : Sto) : f_parts_of [x0, x1] S = gcR S.length (retOf (b_parts_of [some x0, some x1, none, none, none, none] S)) := rfl
theorem g_parts_of (T : Txt K mg) : FnG P w K mg base 8 T.a_parts_of T.d_parts_of ["wall", "pegs"] f_parts_of := fnG_gc T.F_parts_of sc_parts_of (fun cdv A outer s H E hgu hr =>
    (fss_cons (fs_expr (fe_call (g_need_set (P := P) (w := w) (base := base) T) hgu (hr.mono (by decide)) T.m_need_set T.F_need_set.kp T.b_need_set passX (fa_cons (fe_var 0) (fa_cons (fe_var 1) fa_nil))))
    (fss_cons (fs_set (i := 2) sc_parts_of.nd (fe_lst fa_nil))
    (fss_cons (fs_set (i := 3) sc_parts_of.nd (fe_callTy bf_list T.z_list (fa_cons (fe_var 1) fa_nil)))
    (fss_cons (fs_while ownX (ft_truth (fe_var 3)) (fss_cons (fs_set (i := 4) sc_parts_of.nd (fe_call (g__part_about (P := P) (w := w) (base := base) T) hgu (hr.mono (by decide)) T.m__part_about T.F__part_about.kp T.b__part_about passX (fa_cons (fe_var 0) (fa_cons (fe_ix (fe_var 3) fe_int) (fa_cons (fe_var 3) fa_nil)))))
    (fss_cons (fs_expr (fe_append (fe_var 2) (fe_var 4)))
    (fss_one (fs_setLcIf (i := 3) (own := [("peg", 5)]) rfl sc_parts_of.nd (sw_true rfl rfl rfl (by decide +kernel)) (fi_list (fe_var 3)) (blkOk_by (N := N_parts_of) (sc := defScope s_parts_of) (own := [("peg", 5)]) (by decide +kernel)) (fun _ _ _ _ _ => pg_name (i := 5) sc_parts_of.nd rfl (Or.inl rfl)) (fgc_name 5) (fun _ _ _ _ _ => (ft_cmp (opf_notIn (u65 hr)) (by rfl) (fe_var 5) (fe_var 4))) (fun _ _ _ _ _ => (fe_var 5)))))))
    (fss_one (fs_ret (fe_callTy bf_tuple T.z_tuple (fa_cons (fe_var 2) fa_nil)))))))))
/-! ### hangs_together -/
noncomputable def b_hangs_together : Sl → M Oc :=
    (ret (op2 eqF (app (purA lenO) (consA (call1 2 f_parts_of (consA (var 0) (consA (var 1) nilA))) nilA)) (con (.int 1))))
noncomputable def f_hangs_together : List D → M D := gcF N_hangs_together b_hangs_together
theorem u_hangs_together (x0 x1 : D) (S : Sto) : f_hangs_together [x0, x1] S = gcR S.length (retOf (b_hangs_together [some x0, some x1] S)) := rfl
theorem g_hangs_together (T : Txt K mg) : FnG P w K mg base 9 T.a_hangs_together T.d_hangs_together ["wall", "pegs"] f_hangs_together := fnG_gc T.F_hangs_together sc_hangs_together (fun cdv A outer s H E hgu hr =>
    (fss_one (fs_ret (fe_cmp (opf_eq hr.units) (nomark _) (fe_callB bf_len T.z_len (fa_cons (fe_call (g_parts_of (P := P) (w := w) (base := base) T) hgu (hr.mono (by decide)) T.m_parts_of T.F_parts_of.kp T.b_parts_of passX (fa_cons (fe_var 0) (fa_cons (fe_var 1) fa_nil))) fa_nil)) fe_int))))
/-! ### _law_deck -/
noncomputable def l__law_deck_1 : Sl → M Oc :=
    (set1 1 (op2 modF (app (purA intO) (consA (op2 addF (op2 addF (op2 mulF (var 1) (con (.int 48271))) (op2 modF (app (purA intO) (consA (var 2) nilA)) (con (.int 2147483629)))) (con (.int 59))) nilA)) (con (.int 2147483587))))
noncomputable def b__law_deck : Sl → M Oc :=
    (seq (set1 1 (con (.int 10898001)))
    (seq (forS (walk itemsL (slF slL (var 0) noPart (part (con (.int 63))))) (setN 2) l__law_deck_1)
    (ret (dispF (consP (con (.str "cells")) (revV (app toList (consA (slF slL (var 0) noPart (part (con (.int 63)))) nilA))) (consP (con (.str "mixed")) (var 1) (consP (con (.str "draws")) (con (.int 0)) nilP)))))))
noncomputable def f__law_deck : List D → M D := fun ds S => retOf (b__law_deck (startD N__law_deck ds) S)
theorem u__law_deck (x0 : D) (S : Sto) : f__law_deck [x0] S = retOf (b__law_deck [some x0, none, none] S) := rfl
theorem g__law_deck (T : Txt K mg) : FnG P w K mg base 1 T.a__law_deck T.d__law_deck ["script"] f__law_deck := fnG_self T.F__law_deck sc__law_deck (fun cdv A outer s H E hgu hr =>
    (fss_cons (fs_set (i := 1) sc__law_deck.nd fe_int)
    (fss_cons (fs_for ownX rfl (fi_list (fe_slL (fe_var 0) fo_none (fo_some fe_int))) (fg_name (i := 2) sc__law_deck.nd) (fss_one (fs_set (i := 1) sc__law_deck.nd (fe_op opf_mod (fe_callTy bf_int T.z_int (fa_cons (fe_op opf_add (fe_op opf_add (fe_op opf_mul (fe_var 1) fe_int) (fe_op opf_mod (fe_callTy bf_int T.z_int (fa_cons (fe_var 2) fa_nil)) fe_int)) fe_int) fa_nil)) fe_int))))
    (fss_one (fs_ret (fe_disp (fps_cons fe_str (fe_rev (fe_callTy bf_list T.z_list (fa_cons (fe_slL (fe_var 0) fo_none (fo_some fe_int)) fa_nil))) (fps_cons fe_str (fe_var 1) (fps_cons fe_str fe_int fps_nil)))))))))
/-! ### _law_draw -/
noncomputable def k__law_draw_1 : Sl → M Oc :=
    (seq (set1 2 (op2 modF (app (purA intO) (consA (op2 mulF (var 2) (con (.int 40692))) nilA)) (con (.int 2147483563))))
    (ret (op2 modF (app (purA intO) (consA (op2 fdivF (var 2) (con (.int 64))) nilA)) (var 1))))
noncomputable def k__law_draw_2 : Sl → M Oc :=
    (seq (set1 2 (op2 modF (app (purA intO) (consA (op2 addF (op2 addF (op2 mulF (var 2) (var 2)) (op2 mulF (con (.int 48889)) (op2 dgetF (var 0) (con (.str "draws"))))) (con (.int 19))) nilA)) (con (.int 2147483587))))
    k__law_draw_1)
noncomputable def k__law_draw_3 : Sl → M Oc :=
    (seq (set1 2 (op2 modF (app (purA intO) (consA (op2 addF (op2 mulF (var 2) (con (.int 39373))) (con (.int 59))) nilA)) (con (.int 2147483647))))
    k__law_draw_2)
noncomputable def k__law_draw_4 : Sl → M Oc :=
    (seq (ifS (tstB (op2 neF (op2 dgetF (var 0) (con (.str "cells"))) (lstV nilA))) (seq (set1 3 (popV (op2 dgetF (var 0) (con (.str "cells")))))
    (seq (ifS (tstB (op2 geF (var 3) (op2 powF (con (.int 10)) (con (.int 18))))) (seq (dropE (methL1 appendF (op2 dgetF (var 0) (con (.str "cells"))) (op2 fdivF (var 3) (app maxO (consA (con (.int 2)) (consA (var 1) nilA))))))
    (ret (op2 modF (app (purA intO) (consA (var 3) nilA)) (var 1)))) skip)
    (set1 2 (op2 addF (var 2) (op2 modF (app (purA intO) (consA (var 3) nilA)) (con (.int 2147483629))))))) skip)
    k__law_draw_3)
noncomputable def k__law_draw_5 : Sl → M Oc :=
    (seq (set1 2 (op2 addF (op2 dgetF (var 0) (con (.str "mixed"))) (op2 mulF (con (.int 61757)) (op2 dgetF (var 0) (con (.str "draws"))))))
    k__law_draw_4)
noncomputable def b__law_draw : Sl → M Oc :=
    (seq (dputS (var 0) (con (.str "draws")) (op2 addF (op2 dgetF (var 0) (con (.str "draws"))) (con (.int 1))))
    k__law_draw_5)
noncomputable def f__law_draw : List D → M D := gcF N__law_draw b__law_draw
theorem u__law_draw (x0 x1 : D) (S : Sto) : f__law_draw [x0, x1] S = gcR S.length (retOf (b__law_draw [some x0, some x1, none, none] S)) := rfl
theorem g__law_draw (T : Txt K mg) : FnG P w K mg base 1 T.a__law_draw T.d__law_draw ["deck", "many"] f__law_draw := fnG_gc T.F__law_draw sc__law_draw (fun cdv A outer s H E hgu hr =>
    (fss_cons (fs_dput hr.units (fe_var 0) fe_str (fe_op opf_add (fe_dget hr.units (fe_var 0) fe_str) fe_int))
    (fss_cons (fs_set (i := 2) sc__law_draw.nd (fe_op opf_add (fe_dget hr.units (fe_var 0) fe_str) (fe_op opf_mul fe_int (fe_dget hr.units (fe_var 0) fe_str))))
    (fss_cons (fs_if (ft_cmp (opf_ne hr.units) (nomark _) (fe_dget hr.units (fe_var 0) fe_str) (fe_lst fa_nil)) (fss_cons (fs_set (i := 3) sc__law_draw.nd (fe_pop (fe_dget hr.units (fe_var 0) fe_str)))
    (fss_cons (fs_if (ft_cmp opf_ge (nomark _) (fe_var 3) (fe_op opf_pow fe_int fe_int)) (fss_cons (fs_expr (fe_append (fe_dget hr.units (fe_var 0) fe_str) (fe_op opf_fdiv (fe_var 3) (fe_callB (bf_max2 rfl) T.z_max (fa_cons fe_int (fa_cons (fe_var 1) fa_nil))))))
    (fss_one (fs_ret (fe_op opf_mod (fe_callTy bf_int T.z_int (fa_cons (fe_var 3) fa_nil)) (fe_var 1))))) fss_nil)
    (fss_one (fs_set (i := 2) sc__law_draw.nd (fe_op opf_add (fe_var 2) (fe_op opf_mod (fe_callTy bf_int T.z_int (fa_cons (fe_var 3) fa_nil)) fe_int)))))) fss_nil)
    (fss_cons (fs_set (i := 2) sc__law_draw.nd (fe_op opf_mod (fe_callTy bf_int T.z_int (fa_cons (fe_op opf_add (fe_op opf_mul (fe_var 2) fe_int) fe_int) fa_nil)) fe_int))
    (fss_cons (fs_set (i := 2) sc__law_draw.nd (fe_op opf_mod (fe_callTy bf_int T.z_int (fa_cons (fe_op opf_add (fe_op opf_add (fe_op opf_mul (fe_var 2) (fe_var 2)) (fe_op opf_mul fe_int (fe_dget hr.units (fe_var 0) fe_str))) fe_int) fa_nil)) fe_int))
    (fss_cons (fs_set (i := 2) sc__law_draw.nd (fe_op opf_mod (fe_callTy bf_int T.z_int (fa_cons (fe_op opf_mul (fe_var 2) fe_int) fa_nil)) fe_int))
    (fss_one (fs_ret (fe_op opf_mod (fe_callTy bf_int T.z_int (fa_cons (fe_op opf_fdiv (fe_var 2) fe_int) fa_nil)) (fe_var 1)))))))))))
/-! ### _law_pick -/
noncomputable def b__law_pick : Sl → M Oc :=
    (ret (op2 ixF (var 1) (call1 2 f__law_draw (consA (var 0) (consA (app (purA lenO) (consA (var 1) nilA)) nilA)))))
noncomputable def f__law_pick : List D → M D := gcF N__law_pick b__law_pick
theorem u__law_pick (x0 x1 : D) (S : Sto) : f__law_pick [x0, x1] S = gcR S.length (retOf (b__law_pick [some x0, some x1] S)) := rfl
theorem g__law_pick (T : Txt K mg) : FnG P w K mg base 2 T.a__law_pick T.d__law_pick ["deck", "some"] f__law_pick := fnG_gc T.F__law_pick sc__law_pick (fun cdv A outer s H E hgu hr =>
    (fss_one (fs_ret (fe_ix (fe_var 1) (fe_call (g__law_draw (P := P) (w := w) (base := base) T) hgu (hr.mono (by decide)) T.m__law_draw T.F__law_draw.kp T.b__law_draw passX (fa_cons (fe_var 0) (fa_cons (fe_callB bf_len T.z_len (fa_cons (fe_var 1) fa_nil)) fa_nil)))))))
/-! ### _law_board -/
noncomputable def e__law_board_1 : Sl → M D :=
    (call1 2 f__law_pick (consA (var 0) (consA (lstV (consA (con (.int 0)) (consA (con (.int 0)) (consA (con (.int 0)) (consA (con (.int 2)) (consA (con (.int 2)) (consA (con (.int 3)) (consA (con (.int 4)) (consA (con (.int 5)) (consA (con (.int 6)) (consA (con (.int 12)) (consA (con (.int 30)) (consA (op2 addF (con (.int 2)) (call1 2 f__law_draw (consA (var 0) (consA (con (.int 29)) nilA)))) nilA))))))))))))) nilA)))
noncomputable def t__law_board_1 : Sl → M Bool :=
    (tstB (op2 ltF (call1 2 f__law_draw (consA (var 0) (consA (con (.int 4)) nilA))) (var 4)))
noncomputable def e__law_board_2 : Sl → M D :=
    (tupV (consA (var 8) (consA (var 9) nilA)))
noncomputable def l__law_board_1 : Sl → M Oc :=
    (dropE (methL1 extendF (var 7) (lcS (iterA itemsR2 (consA (op2 addF (var 8) (con (.int 1))) (consA (op2 addF (var 2) (con (.int 1))) nilA))) [9] (setN 9) t__law_board_1 e__law_board_2)))
noncomputable def k__law_board_1 : Sl → M Oc :=
    (seq (ifS (andT (tstB (op2 eqF (app (purA sumO) (consA (var 5) nilA)) (con (.int 0)))) (tstB (op2 eqF (var 7) (lstV nilA)))) (asg (con (.int 3)) (setIx (var 5) (con (.int 0)))) skip)
    (ret (tupV (consA (app toTup (consA (var 5) nilA)) (consA (app toTup (consA (var 7) nilA)) nilA)))))
noncomputable def k__law_board_2 : Sl → M Oc :=
    (seq (par2 5 7 (consA (ifV (tstB (op2 eqF (var 3) (con (.int 1)))) (op2 mulF (lstV (consA (con (.int 0)) nilA)) (var 2)) (var 5)) (consA (ifV (tstB (op2 eqF (var 3) (con (.int 2)))) (lstV nilA) (var 7)) nilA)))
    k__law_board_1)
noncomputable def k__law_board_3 : Sl → M Oc :=
    (seq (ifS (tstB (op2 eqF (var 3) (con (.int 0)))) (ret (tupV (consA (op2 mulF (tupV (consA (con (.int 0)) nilA)) (var 2)) (consA (tupV nilA) nilA)))) skip)
    k__law_board_2)
noncomputable def k__law_board_4 : Sl → M Oc :=
    (seq (forS (iterA itemsR2 (consA (con (.int 1)) (consA (op2 addF (var 2) (con (.int 1))) nilA))) (setN 8) l__law_board_1)
    k__law_board_3)
noncomputable def k__law_board_5 : Sl → M Oc :=
    (seq (set1 7 (lstV nilA))
    k__law_board_4)
noncomputable def k__law_board_6 : Sl → M Oc :=
    (seq (set1 5 (lcS (iterA itemsR1 (consA (var 2) nilA)) [6] (setN 6) yes e__law_board_1))
    k__law_board_5)
noncomputable def b__law_board : Sl → M Oc :=
    (seq (asg (tupV (consA (op2 addF (con (.int 1)) (app maxO (consA (call1 2 f__law_draw (consA (var 0) (consA (var 1) nilA))) (consA (call1 2 f__law_draw (consA (var 0) (consA (var 1) nilA))) nilA)))) (consA (call1 2 f__law_draw (consA (var 0) (consA (con (.int 8)) nilA))) (consA (call1 2 f__law_pick (consA (var 0) (consA (lstV (consA (con (.int 0)) (consA (con (.int 1)) (consA (con (.int 1)) (consA (con (.int 2)) (consA (con (.int 2)) (consA (con (.int 3)) (consA (con (.int 4)) nilA)))))))) nilA))) nilA)))) (setTup 3 (setCons (setN 2) (setCons (setN 3) (setCons (setN 4) setNil)))))
    k__law_board_6)
noncomputable def f__law_board : List D → M D := gcF N__law_board b__law_board
theorem u__law_board (x0 x1 : D) (S : Sto) : f__law_board [x0, x1] S = gcR S.length (retOf (b__law_board [some x0, some x1, none, none, none, none, none, none, none, none] S)) := rfl
theorem g__law_board (T : Txt K mg) : FnG P w K mg base 3 T.a__law_board T.d__law_board ["deck", "most"] f__law_board := fnG_gc T.F__law_board sc__law_board (fun cdv A outer s H E hgu hr =>
    (fss_cons (fs_asg (fe_tup (fa_cons (fe_op opf_add fe_int (fe_callB (bf_max2 rfl) T.z_max (fa_cons (fe_call (g__law_draw (P := P) (w := w) (base := base) T) hgu (hr.mono (by decide)) T.m__law_draw T.F__law_draw.kp T.b__law_draw passX (fa_cons (fe_var 0) (fa_cons (fe_var 1) fa_nil))) (fa_cons (fe_call (g__law_draw (P := P) (w := w) (base := base) T) hgu (hr.mono (by decide)) T.m__law_draw T.F__law_draw.kp T.b__law_draw passX (fa_cons (fe_var 0) (fa_cons (fe_var 1) fa_nil))) fa_nil)))) (fa_cons (fe_call (g__law_draw (P := P) (w := w) (base := base) T) hgu (hr.mono (by decide)) T.m__law_draw T.F__law_draw.kp T.b__law_draw passX (fa_cons (fe_var 0) (fa_cons fe_int fa_nil))) (fa_cons (fe_call (g__law_pick (P := P) (w := w) (base := base) T) hgu (hr.mono (by decide)) T.m__law_pick T.F__law_pick.kp T.b__law_pick passX (fa_cons (fe_var 0) (fa_cons (fe_lst (fa_cons fe_int (fa_cons fe_int (fa_cons fe_int (fa_cons fe_int (fa_cons fe_int (fa_cons fe_int (fa_cons fe_int fa_nil)))))))) fa_nil))) fa_nil)))) (fg_tup (n := 3) rfl (fgs_cons (fg_name (i := 2) sc__law_board.nd) (fgs_cons (fg_name (i := 3) sc__law_board.nd) (fgs_cons (fg_name (i := 4) sc__law_board.nd) fgs_nil)))))
    (fss_cons (fs_setLc (i := 5) (own := [("k", 6)]) rfl sc__law_board.nd (sw_true rfl rfl rfl (by decide +kernel)) (fi_range1 T.z_range (fa_cons (fe_var 2) fa_nil)) (blkOk_by (N := N__law_board) (sc := defScope s__law_board) (own := [("k", 6)]) (by decide +kernel)) (fun _ _ _ _ _ => pg_name (i := 6) sc__law_board.nd rfl (Or.inl rfl)) (fgc_name 6) (fun _ _ _ _ _ => (fe_call (g__law_pick (P := P) (w := w) (base := base) T) hgu (hr.mono (by decide)) T.m__law_pick T.F__law_pick.kp T.b__law_pick passL (fa_cons (fe_var 0) (fa_cons (fe_lst (fa_cons fe_int (fa_cons fe_int (fa_cons fe_int (fa_cons fe_int (fa_cons fe_int (fa_cons fe_int (fa_cons fe_int (fa_cons fe_int (fa_cons fe_int (fa_cons fe_int (fa_cons fe_int (fa_cons (fe_op opf_add fe_int (fe_call (g__law_draw (P := P) (w := w) (base := base) T) hgu (hr.mono (by decide)) T.m__law_draw T.F__law_draw.kp T.b__law_draw passL (fa_cons (fe_var 0) (fa_cons fe_int fa_nil)))) fa_nil))))))))))))) fa_nil)))))
    (fss_cons (fs_set (i := 7) sc__law_board.nd (fe_lst fa_nil))
    (fss_cons (fs_for ownX rfl (fi_range2 T.z_range (fa_cons fe_int (fa_cons (fe_op opf_add (fe_var 2) fe_int) fa_nil))) (fg_name (i := 8) sc__law_board.nd) (fss_one (fs_expr (fe_extend (fe_var 7) (fe_lcIf (own := [("j", 9)]) rfl sc__law_board.nd (fi_range2 T.z_range (fa_cons (fe_op opf_add (fe_var 8) fe_int) (fa_cons (fe_op opf_add (fe_var 2) fe_int) fa_nil))) (blkOk_by (N := N__law_board) (sc := defScope s__law_board) (own := [("j", 9)]) (by decide +kernel)) (fun _ _ _ _ _ => pg_name (i := 9) sc__law_board.nd rfl (Or.inl rfl)) (fgc_name 9) (fun _ _ _ _ _ => (ft_cmp (opf_lt2 hr.units0) (nomark _) (fe_call (g__law_draw (P := P) (w := w) (base := base) T) hgu (hr.mono (by decide)) T.m__law_draw T.F__law_draw.kp T.b__law_draw passL (fa_cons (fe_var 0) (fa_cons fe_int fa_nil))) (fe_var 4))) (fun _ _ _ _ _ => (fe_tup (fa_cons (fe_var 8) (fa_cons (fe_var 9) fa_nil)))))))))
    (fss_cons (fs_if (ft_cmp (opf_eq hr.units) (nomark _) (fe_var 3) fe_int) (fss_one (fs_ret (fe_tup (fa_cons (fe_op opf_mul (fe_tup (fa_cons fe_int fa_nil)) (fe_var 2)) (fa_cons (fe_tup fa_nil) fa_nil))))) fss_nil)
    (fss_cons (fs_par (i := 5) (j := 7) rfl sc__law_board.nd (fa_cons (fe_if (ft_cmp (opf_eq hr.units) (nomark _) (fe_var 3) fe_int) (fe_op opf_mul (fe_lst (fa_cons fe_int fa_nil)) (fe_var 2)) (fe_var 5)) (fa_cons (fe_if (ft_cmp (opf_eq hr.units) (nomark _) (fe_var 3) fe_int) (fe_lst fa_nil) (fe_var 7)) fa_nil)))
    (fss_cons (fs_if ((fw_and (ft_cmp (opf_eq hr.units) (nomark _) (fe_callB (bf_sum rfl) T.z_sum (fa_cons (fe_var 5) fa_nil)) fe_int) (fw_and1 (ft_cmp (opf_eq hr.units) (nomark _) (fe_var 7) (fe_lst fa_nil))))).ft (fss_one (fs_asg fe_int (fg_sub (fe_var 5) fe_int))) fss_nil)
    (fss_one (fs_ret (fe_tup (fa_cons (fe_callTy bf_tuple T.z_tuple (fa_cons (fe_var 5) fa_nil)) (fa_cons (fe_callTy bf_tuple T.z_tuple (fa_cons (fe_var 7) fa_nil)) fa_nil)))))))))))))
/-! ### _law_set -/
noncomputable def t__law_set_1 : Sl → M Bool :=
    (tstB (op2 geF (call1 2 f__law_draw (consA (var 0) (consA (con (.int 4)) nilA))) (var 2)))
noncomputable def e__law_set_1 : Sl → M D :=
    (var 3)
noncomputable def b__law_set : Sl → M Oc :=
    (seq (set1 2 (call1 2 f__law_draw (consA (var 0) (consA (con (.int 4)) nilA))))
    (ret (app toTup (consA (lcS (iterA itemsR2 (consA (con (.int 1)) (consA (op2 addF (var 1) (con (.int 1))) nilA))) [3] (setN 3) t__law_set_1 e__law_set_1) nilA))))
noncomputable def f__law_set : List D → M D := gcF N__law_set b__law_set
theorem u__law_set (x0 x1 : D) (S : Sto) : f__law_set [x0, x1] S = gcR S.length (retOf (b__law_set [some x0, some x1, none, none] S)) := rfl
theorem g__law_set (T : Txt K mg) : FnG P w K mg base 2 T.a__law_set T.d__law_set ["deck", "n"] f__law_set := fnG_gc T.F__law_set sc__law_set (fun cdv A outer s H E hgu hr =>
    (fss_cons (fs_set (i := 2) sc__law_set.nd (fe_call (g__law_draw (P := P) (w := w) (base := base) T) hgu (hr.mono (by decide)) T.m__law_draw T.F__law_draw.kp T.b__law_draw passX (fa_cons (fe_var 0) (fa_cons fe_int fa_nil))))
    (fss_one (fs_ret (fe_callTy bf_tuple T.z_tuple (fa_cons (fe_lcIf (own := [("peg", 3)]) rfl sc__law_set.nd (fi_range2 T.z_range (fa_cons fe_int (fa_cons (fe_op opf_add (fe_var 1) fe_int) fa_nil))) (blkOk_by (N := N__law_set) (sc := defScope s__law_set) (own := [("peg", 3)]) (by decide +kernel)) (fun _ _ _ _ _ => pg_name (i := 3) sc__law_set.nd rfl (Or.inl rfl)) (fgc_name 3) (fun _ _ _ _ _ => (ft_cmp opf_ge (nomark _) (fe_call (g__law_draw (P := P) (w := w) (base := base) T) hgu (hr.mono (by decide)) T.m__law_draw T.F__law_draw.kp T.b__law_draw passL (fa_cons (fe_var 0) (fa_cons fe_int fa_nil))) (fe_var 2))) (fun _ _ _ _ _ => (fe_var 3))) fa_nil))))))
/-! ### _law_parts -/
noncomputable def t__law_parts_1 : Sl → M Bool :=
    (tstB (op2 notInF (tupV (consA (var 7) (consA (var 3) nilA))) (op2 ixF (var 0) (con (.int 1)))))
noncomputable def e__law_parts_1 : Sl → M D :=
    (var 7)
noncomputable def l__law_parts_1 : Sl → M Oc :=
    (ifS (tstB (op2 eqF (lcS (walk itemsT (var 6)) [7] (setN 7) t__law_parts_1 e__law_parts_1) (lstV nilA))) (dropE (methL1 appendF (var 5) (var 6))) (set1 4 (op2 addF (var 4) (var 6))))
noncomputable def l__law_parts_2 : Sl → M Oc :=
    (seq (par2 4 5 (consA (tupV nilA) (consA (lstV nilA) nilA)))
    (seq (forS (walk itemsL (var 2)) (setN 6) l__law_parts_1)
    (set1 2 (op2 addF (var 5) (lstV (consA (op2 addF (app toTup (consA (app sortF (consA (var 4) nilA)) nilA)) (tupV (consA (var 3) nilA))) nilA))))))
noncomputable def b__law_parts : Sl → M Oc :=
    (seq (set1 2 (lstV nilA))
    (seq (forS (walk itemsT (var 1)) (setN 3) l__law_parts_2)
    (ret (app toTup (consA (app sortF (consA (var 2) nilA)) nilA)))))
noncomputable def f__law_parts : List D → M D := gcF N__law_parts b__law_parts
theorem u__law_parts (x0 x1 : D) (S : Sto) : f__law_parts [x0, x1] S = gcR S.length (retOf (b__law_parts [some x0, some x1, none, none, none, none, none, none] S)) := rfl
theorem g__law_parts (T : Txt K mg) : FnG P w K mg base 1 T.a__law_parts T.d__law_parts ["wall", "pegs"] f__law_parts := fnG_gc T.F__law_parts sc__law_parts (fun cdv A outer s H E hgu hr =>
    (fss_cons (fs_set (i := 2) sc__law_parts.nd (fe_lst fa_nil))
    (fss_cons (fs_for ownX rfl (fi_tup (fe_var 1)) (fg_name (i := 3) sc__law_parts.nd) (fss_cons (fs_par (i := 4) (j := 5) rfl sc__law_parts.nd (fa_cons (fe_tup fa_nil) (fa_cons (fe_lst fa_nil) fa_nil)))
    (fss_cons (fs_for ownX rfl (fi_list (fe_var 2)) (fg_name (i := 6) sc__law_parts.nd) (fss_one (fs_if (ft_cmp (opf_eq hr.units) (nomark _) (fe_lcIf (own := [("other", 7)]) rfl sc__law_parts.nd (fi_tup (fe_var 6)) (blkOk_by (N := N__law_parts) (sc := defScope s__law_parts) (own := [("other", 7)]) (by decide +kernel)) (fun _ _ _ _ _ => pg_name (i := 7) sc__law_parts.nd rfl (Or.inl rfl)) (fgc_name 7) (fun _ _ _ _ _ => (ft_cmp (opf_notIn (u65 hr)) (by rfl) (fe_tup (fa_cons (fe_var 7) (fa_cons (fe_var 3) fa_nil))) (fe_ix (fe_var 0) fe_int))) (fun _ _ _ _ _ => (fe_var 7))) (fe_lst fa_nil)) (fss_one (fs_expr (fe_append (fe_var 5) (fe_var 6)))) (fss_one (fs_set (i := 4) sc__law_parts.nd (fe_op opf_add (fe_var 4) (fe_var 6)))))))
    (fss_one (fs_set (i := 2) sc__law_parts.nd (fe_op opf_add (fe_var 5) (fe_lst (fa_cons (fe_op opf_add (fe_callTy bf_tuple T.z_tuple (fa_cons (fe_callB (bf_sorted hr.units) T.z_sorted (fa_cons (fe_var 4) fa_nil)) fa_nil)) (fe_tup (fa_cons (fe_var 3) fa_nil))) fa_nil))))))))
    (fss_one (fs_ret (fe_callTy bf_tuple T.z_tuple (fa_cons (fe_callB (bf_sorted hr.units) T.z_sorted (fa_cons (fe_var 2) fa_nil)) fa_nil)))))))
/-! ### _law_sets -/
noncomputable def e__law_sets_1 : Sl → M D :=
    (op2 addF (var 3) (tupV (consA (var 2) nilA)))
noncomputable def l__law_sets_1 : Sl → M Oc :=
    (set1 1 (op2 addF (var 1) (lcS (walk itemsL (var 1)) [3] (setN 3) yes e__law_sets_1)))
noncomputable def b__law_sets : Sl → M Oc :=
    (seq (set1 1 (lstV (consA (tupV nilA) nilA)))
    (seq (forS (iterA itemsR2 (consA (con (.int 1)) (consA (op2 addF (var 0) (con (.int 1))) nilA))) (setN 2) l__law_sets_1)
    (ret (var 1))))
noncomputable def f__law_sets : List D → M D := gcF N__law_sets b__law_sets
theorem u__law_sets (x0 : D) (S : Sto) : f__law_sets [x0] S = gcR S.length (retOf (b__law_sets [some x0, none, none, none] S)) := rfl
theorem g__law_sets (T : Txt K mg) : FnG P w K mg base 1 T.a__law_sets T.d__law_sets ["n"] f__law_sets := fnG_gc T.F__law_sets sc__law_sets (fun cdv A outer s H E hgu hr =>
    (fss_cons (fs_set (i := 1) sc__law_sets.nd (fe_lst (fa_cons (fe_tup fa_nil) fa_nil)))
    (fss_cons (fs_for ownX rfl (fi_range2 T.z_range (fa_cons fe_int (fa_cons (fe_op opf_add (fe_var 0) fe_int) fa_nil))) (fg_name (i := 2) sc__law_sets.nd) (fss_one (fs_set (i := 1) sc__law_sets.nd (fe_op opf_add (fe_var 1) (fe_lc (own := [("pegs", 3)]) rfl sc__law_sets.nd (fi_list (fe_var 1)) (blkOk_by (N := N__law_sets) (sc := defScope s__law_sets) (own := [("pegs", 3)]) (by decide +kernel)) (fun _ _ _ _ _ => pg_name (i := 3) sc__law_sets.nd rfl (Or.inl rfl)) (fgc_name 3) (fun _ _ _ _ _ => (fe_op opf_add (fe_var 3) (fe_tup (fa_cons (fe_var 2) fa_nil)))))))))
    (fss_one (fs_ret (fe_var 1))))))
/-! ### _law_is_due -/
noncomputable def k__law_is_due_1 : Sl → M Oc :=
    (seq (set1 4 (tupV (consA (callK 2 2 [1, 0] f_is_set (consA (var 1) (consA (var 0) nilA))) (consA (callK 2 2 [1, 0] f_parts_of (consA (var 1) (consA (var 0) nilA))) (consA (callK 2 2 [1, 0] f_hangs_together (consA (var 1) (consA (var 0) nilA))) nilA)))))
    (ret (op2 eqF (app reprF (consA (var 4) nilA)) (app reprF (consA (tupV (consA (con (.bool true)) (consA (var 3) (consA (op2 eqF (app (purA lenO) (consA (var 3) nilA)) (con (.int 1))) nilA)))) nilA)))))
noncomputable def k__law_is_due_2 : Sl → M Oc :=
    (seq (ifS (notT (tst (var 2))) (ret (con (.bool true))) skip)
    k__law_is_due_1)
noncomputable def k__law_is_due_3 : Sl → M Oc :=
    (seq (ifS (tstB (op2 neF (app reprF (consA (var 4) nilA)) (app reprF (consA (tupV (consA (con (.bool true)) (consA (var 3) (consA (op2 eqF (app (purA lenO) (consA (var 3) nilA)) (con (.int 1))) nilA)))) nilA)))) (ret (con (.bool false))) skip)
    k__law_is_due_2)
noncomputable def k__law_is_due_4 : Sl → M Oc :=
    (seq (set1 4 (tupV (consA (call1 2 f_is_set (consA (var 0) (consA (var 1) nilA))) (consA (call1 2 f_parts_of (consA (var 0) (consA (var 1) nilA))) (consA (call1 2 f_hangs_together (consA (var 0) (consA (var 1) nilA))) nilA)))))
    k__law_is_due_3)
noncomputable def b__law_is_due : Sl → M Oc :=
    (seq (set1 3 (call1 2 f__law_parts (consA (var 0) (consA (var 1) nilA))))
    k__law_is_due_4)
noncomputable def f__law_is_due : List D → M D := gcF N__law_is_due b__law_is_due
theorem u__law_is_due (x0 x1 x2 : D) (S : Sto) : f__law_is_due [x0, x1, x2] S = gcR S.length (retOf (b__law_is_due [some x0, some x1, some x2, none, none] S)) := rfl
theorem g__law_is_due (T : Txt K mg) : FnG P w K mg base 10 T.a__law_is_due T.d__law_is_due ["wall", "pegs", "is_named"] f__law_is_due := fnG_gc T.F__law_is_due sc__law_is_due (fun cdv A outer s H E hgu hr =>
    (fss_cons (fs_set (i := 3) sc__law_is_due.nd (fe_call (g__law_parts (P := P) (w := w) (base := base) T) hgu (hr.mono (by decide)) T.m__law_parts T.F__law_parts.kp T.b__law_parts passX (fa_cons (fe_var 0) (fa_cons (fe_var 1) fa_nil))))
    (fss_cons (fs_set (i := 4) sc__law_is_due.nd (fe_tup (fa_cons (fe_call (g_is_set (P := P) (w := w) (base := base) T) hgu (hr.mono (by decide)) T.m_is_set T.F_is_set.kp T.b_is_set passX (fa_cons (fe_var 0) (fa_cons (fe_var 1) fa_nil))) (fa_cons (fe_call (g_parts_of (P := P) (w := w) (base := base) T) hgu (hr.mono (by decide)) T.m_parts_of T.F_parts_of.kp T.b_parts_of passX (fa_cons (fe_var 0) (fa_cons (fe_var 1) fa_nil))) (fa_cons (fe_call (g_hangs_together (P := P) (w := w) (base := base) T) hgu (hr.mono (by decide)) T.m_hangs_together T.F_hangs_together.kp T.b_hangs_together passX (fa_cons (fe_var 0) (fa_cons (fe_var 1) fa_nil))) fa_nil)))))
    (fss_cons (fs_if (ft_cmp (opf_ne hr.units) (nomark _) (fe_callB (bf_repr hr.units hgu) T.z_repr (fa_cons (fe_var 4) fa_nil)) (fe_callB (bf_repr hr.units hgu) T.z_repr (fa_cons (fe_tup (fa_cons fe_bl (fa_cons (fe_var 3) (fa_cons (fe_cmp (opf_eq hr.units) (nomark _) (fe_callB bf_len T.z_len (fa_cons (fe_var 3) fa_nil)) fe_int) fa_nil)))) fa_nil))) (fss_one (fs_ret fe_bl)) fss_nil)
    (fss_cons (fs_if (ft_not (ft_truth (fe_var 2))) (fss_one (fs_ret fe_bl)) fss_nil)
    (fss_cons (fs_set (i := 4) sc__law_is_due.nd (fe_tup (fa_cons (fe_callK (ks := ["thing", "wall"]) (g_is_set (P := P) (w := w) (base := base) T) hgu (hr.mono (by decide)) T.m_is_set T.F_is_set.kp (T.F_is_set.bindsP (ps := ["wall", "thing"]) (ks := ["thing", "wall"]) (m := 0) (pm := [1, 0]) fun _ _ _ _ _ _ us ws hl hm => match us, ws, hl, hm with | [], [_, _], _, _ => rfl) passX (fk_cons (fe_var 1) (fk_cons (fe_var 0) fk_nil))) (fa_cons (fe_callK (ks := ["pegs", "wall"]) (g_parts_of (P := P) (w := w) (base := base) T) hgu (hr.mono (by decide)) T.m_parts_of T.F_parts_of.kp (T.F_parts_of.bindsP (ps := ["wall", "pegs"]) (ks := ["pegs", "wall"]) (m := 0) (pm := [1, 0]) fun _ _ _ _ _ _ us ws hl hm => match us, ws, hl, hm with | [], [_, _], _, _ => rfl) passX (fk_cons (fe_var 1) (fk_cons (fe_var 0) fk_nil))) (fa_cons (fe_callK (ks := ["pegs", "wall"]) (g_hangs_together (P := P) (w := w) (base := base) T) hgu (hr.mono (by decide)) T.m_hangs_together T.F_hangs_together.kp (T.F_hangs_together.bindsP (ps := ["wall", "pegs"]) (ks := ["pegs", "wall"]) (m := 0) (pm := [1, 0]) fun _ _ _ _ _ _ us ws hl hm => match us, ws, hl, hm with | [], [_, _], _, _ => rfl) passX (fk_cons (fe_var 1) (fk_cons (fe_var 0) fk_nil))) fa_nil)))))
    (fss_one (fs_ret (fe_cmp (opf_eq hr.units) (nomark _) (fe_callB (bf_repr hr.units hgu) T.z_repr (fa_cons (fe_var 4) fa_nil)) (fe_callB (bf_repr hr.units hgu) T.z_repr (fa_cons (fe_tup (fa_cons fe_bl (fa_cons (fe_var 3) (fa_cons (fe_cmp (opf_eq hr.units) (nomark _) (fe_callB bf_len T.z_len (fa_cons (fe_var 3) fa_nil)) fe_int) fa_nil)))) fa_nil)))))))))))
/-! ### law -/
noncomputable def l_law_1 : Sl → M Oc :=
    (seq (set1 6 (op2 notInF (tupV (consA (var 4) (consA (var 5) nilA))) (op2 ixF (var 2) (con (.int 1)))))
    (ifS (tstB (op2 neF (app reprF (consA (tupV (consA (call1 3 f_are_tied (consA (var 2) (consA (var 4) (consA (var 5) nilA)))) (consA (call1 3 f_are_tied (consA (var 2) (consA (var 5) (consA (var 4) nilA)))) (consA (callK 3 3 [2, 1, 0] f_are_tied (consA (var 5) (consA (var 4) (consA (var 2) nilA)))) nilA)))) nilA)) (app reprF (consA (tupV (consA (var 6) (consA (var 6) (consA (var 6) nilA)))) nilA)))) (ret (con (.bool false))) skip))
noncomputable def l_law_2 : Sl → M Oc :=
    (forS (iterA itemsR2 (consA (op2 addF (var 4) (con (.int 1))) (consA (op2 addF (var 3) (con (.int 1))) nilA))) (setN 5) l_law_1)
noncomputable def e_law_1 : Sl → M D :=
    (call1 2 f__law_set (consA (var 1) (consA (var 3) nilA)))
noncomputable def l_law_3 : Sl → M Oc :=
    (ifS (notT (tst (call1 3 f__law_is_due (consA (var 2) (consA (var 10) (consA (op2 eqF (op2 modF (app (purA intO) (consA (var 9) nilA)) (con (.int 5))) (con (.int 3))) nilA)))))) (ret (con (.bool false))) skip)
noncomputable def k_law_1 : Sl → M Oc :=
    (seq (forS (iterA itemsE (consA (var 7) nilA)) (setTup 2 (setCons (setN 9) (setCons (setN 10) setNil))) l_law_3)
    (ret (con (.bool true))))
noncomputable def k_law_2 : Sl → M Oc :=
    (seq (ifS (tstB (op2 gtF (var 3) (con (.int 5)))) (set1 7 (op2 addF (lstV (consA (tupV nilA) (consA (tupV (consA (con (.int 1)) nilA)) (consA (tupV (consA (var 3) nilA)) (consA (tupRg (rg2 (con (.int 1)) (op2 addF (var 3) (con (.int 1))))) nilA))))) (lcS (iterA itemsR1 (consA (con (.int 20)) nilA)) [8] (setN 8) yes e_law_1))) skip)
    k_law_1)
noncomputable def k_law_3 : Sl → M Oc :=
    (seq (set1 7 (call1 1 f__law_sets (consA (var 3) nilA)))
    k_law_2)
noncomputable def k_law_4 : Sl → M Oc :=
    (seq (forS (iterA itemsR2 (consA (con (.int 1)) (consA (op2 addF (var 3) (con (.int 1))) nilA))) (setN 4) l_law_2)
    k_law_3)
noncomputable def k_law_5 : Sl → M Oc :=
    (seq (ifS (tstB (op2 neF (app reprF (consA (tupV (consA (call1 1 f_is_right (consA (var 2) nilA)) (consA (callK 1 1 [0] f_is_right (consA (var 2) nilA)) nilA))) nilA)) (con (.str "(True, True)")))) (ret (con (.bool false))) skip)
    k_law_4)
noncomputable def k_law_6 : Sl → M Oc :=
    (seq (set1 3 (app (purA lenO) (consA (op2 ixF (var 2) (con (.int 0))) nilA)))
    k_law_5)
noncomputable def k_law_7 : Sl → M Oc :=
    (seq (set1 2 (call1 2 f__law_board (consA (var 1) (consA (con (.int 10)) nilA))))
    k_law_6)
noncomputable def b_law : Sl → M Oc :=
    (seq (set1 1 (call1 1 f__law_deck (consA (var 0) nilA)))
    k_law_7)
noncomputable def f_law : List D → M D := gcF N_law b_law
theorem u_law (x0 : D) (S : Sto) : f_law [x0] S = gcR S.length (retOf (b_law [some x0, none, none, none, none, none, none, none, none, none, none] S)) := rfl
theorem g_law (T : Txt K mg) : FnG P w K mg base 11 T.a_law T.d_law ["script"] f_law := fnG_gc T.F_law sc_law (fun cdv A outer s H E hgu hr =>
    (fss_cons (fs_set (i := 1) sc_law.nd (fe_call (g__law_deck (P := P) (w := w) (base := base) T) hgu (hr.mono (by decide)) T.m__law_deck T.F__law_deck.kp T.b__law_deck passX (fa_cons (fe_var 0) fa_nil)))
    (fss_cons (fs_set (i := 2) sc_law.nd (fe_call (g__law_board (P := P) (w := w) (base := base) T) hgu (hr.mono (by decide)) T.m__law_board T.F__law_board.kp T.b__law_board passX (fa_cons (fe_var 1) (fa_cons fe_int fa_nil))))
    (fss_cons (fs_set (i := 3) sc_law.nd (fe_callB bf_len T.z_len (fa_cons (fe_ix (fe_var 2) fe_int) fa_nil)))
    (fss_cons (fs_if (ft_cmp (opf_ne hr.units) (nomark _) (fe_callB (bf_repr hr.units hgu) T.z_repr (fa_cons (fe_tup (fa_cons (fe_call (g_is_right (P := P) (w := w) (base := base) T) hgu (hr.mono (by decide)) T.m_is_right T.F_is_right.kp T.b_is_right passX (fa_cons (fe_var 2) fa_nil)) (fa_cons (fe_callK (ks := ["thing"]) (g_is_right (P := P) (w := w) (base := base) T) hgu (hr.mono (by decide)) T.m_is_right T.F_is_right.kp (T.F_is_right.bindsP (ps := ["thing"]) (ks := ["thing"]) (m := 0) (pm := [0]) fun _ _ _ _ _ _ us ws hl hm => match us, ws, hl, hm with | [], [_], _, _ => rfl) passX (fk_cons (fe_var 2) fk_nil)) fa_nil))) fa_nil)) fe_str) (fss_one (fs_ret fe_bl)) fss_nil)
    (fss_cons (fs_for ownX rfl (fi_range2 T.z_range (fa_cons fe_int (fa_cons (fe_op opf_add (fe_var 3) fe_int) fa_nil))) (fg_name (i := 4) sc_law.nd) (fss_one (fs_for ownX rfl (fi_range2 T.z_range (fa_cons (fe_op opf_add (fe_var 4) fe_int) (fa_cons (fe_op opf_add (fe_var 3) fe_int) fa_nil))) (fg_name (i := 5) sc_law.nd) (fss_cons (fs_set (i := 6) sc_law.nd (fe_cmp (opf_notIn (u65 hr)) (by rfl) (fe_tup (fa_cons (fe_var 4) (fa_cons (fe_var 5) fa_nil))) (fe_ix (fe_var 2) fe_int)))
    (fss_one (fs_if (ft_cmp (opf_ne hr.units) (nomark _) (fe_callB (bf_repr hr.units hgu) T.z_repr (fa_cons (fe_tup (fa_cons (fe_call (g_are_tied (P := P) (w := w) (base := base) T) hgu (hr.mono (by decide)) T.m_are_tied T.F_are_tied.kp T.b_are_tied passX (fa_cons (fe_var 2) (fa_cons (fe_var 4) (fa_cons (fe_var 5) fa_nil)))) (fa_cons (fe_call (g_are_tied (P := P) (w := w) (base := base) T) hgu (hr.mono (by decide)) T.m_are_tied T.F_are_tied.kp T.b_are_tied passX (fa_cons (fe_var 2) (fa_cons (fe_var 5) (fa_cons (fe_var 4) fa_nil)))) (fa_cons (fe_callK (ks := ["j", "i", "wall"]) (g_are_tied (P := P) (w := w) (base := base) T) hgu (hr.mono (by decide)) T.m_are_tied T.F_are_tied.kp (T.F_are_tied.bindsP (ps := ["wall", "i", "j"]) (ks := ["j", "i", "wall"]) (m := 0) (pm := [2, 1, 0]) fun _ _ _ _ _ _ us ws hl hm => match us, ws, hl, hm with | [], [_, _, _], _, _ => rfl) passX (fk_cons (fe_var 5) (fk_cons (fe_var 4) (fk_cons (fe_var 2) fk_nil)))) fa_nil)))) fa_nil)) (fe_callB (bf_repr hr.units hgu) T.z_repr (fa_cons (fe_tup (fa_cons (fe_var 6) (fa_cons (fe_var 6) (fa_cons (fe_var 6) fa_nil)))) fa_nil))) (fss_one (fs_ret fe_bl)) fss_nil))))))
    (fss_cons (fs_set (i := 7) sc_law.nd (fe_call (g__law_sets (P := P) (w := w) (base := base) T) hgu (hr.mono (by decide)) T.m__law_sets T.F__law_sets.kp T.b__law_sets passX (fa_cons (fe_var 3) fa_nil)))
    (fss_cons (fs_if (ft_cmp opf_gt (nomark _) (fe_var 3) fe_int) (fss_one (fs_set (i := 7) sc_law.nd (fe_op opf_add (fe_lst (fa_cons (fe_tup fa_nil) (fa_cons (fe_tup (fa_cons fe_int fa_nil)) (fa_cons (fe_tup (fa_cons (fe_var 3) fa_nil)) (fa_cons (fe_tupRg T.z_tuple (fr_2 T.z_range fe_int (fe_op opf_add (fe_var 3) fe_int))) fa_nil))))) (fe_lc (own := [("turn", 8)]) rfl sc_law.nd (fi_range1 T.z_range (fa_cons fe_int fa_nil)) (blkOk_by (N := N_law) (sc := defScope s_law) (own := [("turn", 8)]) (by decide +kernel)) (fun _ _ _ _ _ => pg_name (i := 8) sc_law.nd rfl (Or.inl rfl)) (fgc_name 8) (fun _ _ _ _ _ => (fe_call (g__law_set (P := P) (w := w) (base := base) T) hgu (hr.mono (by decide)) T.m__law_set T.F__law_set.kp T.b__law_set passL (fa_cons (fe_var 1) (fa_cons (fe_var 3) fa_nil)))))))) fss_nil)
    (fss_cons (fs_for ownX rfl (fi_enum T.z_enumerate (fa_cons (fe_var 7) fa_nil)) (fg_tup (n := 2) rfl (fgs_cons (fg_name (i := 9) sc_law.nd) (fgs_cons (fg_name (i := 10) sc_law.nd) fgs_nil))) (fss_one (fs_if (ft_not (ft_truth (fe_call (g__law_is_due (P := P) (w := w) (base := base) T) hgu (hr.mono (by decide)) T.m__law_is_due T.F__law_is_due.kp T.b__law_is_due passX (fa_cons (fe_var 2) (fa_cons (fe_var 10) (fa_cons (fe_cmp (opf_eq hr.units) (nomark _) (fe_op opf_mod (fe_callTy bf_int T.z_int (fa_cons (fe_var 9) fa_nil)) fe_int) fe_int) fa_nil)))))) (fss_one (fs_ret fe_bl)) fss_nil)))
    (fss_one (fs_ret fe_bl)))))))))))
end K01
end
section
namespace CC
/-- two lists that ascend by f and have the same items are the same -/
theorem eq_of_strict {α : Type} (f : α → Int) : ∀ l m : List α, l.Pairwise (fun a b => f a < f b) → m.Pairwise (fun a b => f a < f b) → (∀ x, x ∈ l ↔ x ∈ m) → l = m
  | [], [], _, _, _ => rfl
  | [], b :: m, _, _, h => absurd ((h b).mpr (by simp)) (by simp)
  | a :: l, [], _, _, h => absurd ((h a).mp (by simp)) (by simp)
  | a :: l, b :: m, h1, h2, h => by
    rw [List.pairwise_cons] at h1 h2
    have e : a = b := by
      rcases List.mem_cons.mp ((h a).mp (by simp)) with e | hm
      · exact e
      · rcases List.mem_cons.mp ((h b).mpr (by simp)) with e | hl
        · exact e.symm
        · have := h2.1 a hm
          have := h1.1 b hl
          omega
    subst e
    rw [eq_of_strict f l m h1.2 h2.2 fun x => ⟨fun hx => ?_, fun hx => ?_⟩]
    · rcases List.mem_cons.mp ((h x).mp (by simp [hx])) with e | hm
      · subst e
        have := h1.1 x hx
        omega
      · exact hm
    · rcases List.mem_cons.mp ((h x).mpr (by simp [hx])) with e | hm
      · subst e
        have := h2.1 x hx
        omega
      · exact hm
section
variable (P : List Int) (T : Int → Int → Prop)
inductive Conn : Int → Int → Prop
  | refl {x} : x ∈ P → Conn x x
  | step {x y z} : Conn x y → T y z → z ∈ P → Conn x z
end
variable {P : List Int} {T : Int → Int → Prop}
theorem Conn.left {x y : Int} (h : Conn P T x y) : x ∈ P := by
  induction h with
  | refl h => exact h
  | step _ _ _ ih => exact ih
theorem Conn.right {x y : Int} (h : Conn P T x y) : y ∈ P := by
  cases h with
  | refl h => exact h
  | step _ _ h => exact h
theorem Conn.trans {x y z : Int} (h : Conn P T x y) (h' : Conn P T y z) : Conn P T x z := by
  induction h' with
  | refl _ => exact h
  | step _ t m ih => exact .step ih t m
theorem Conn.symm (hs : ∀ x y, T x y → T y x) {x y : Int} (h : Conn P T x y) : Conn P T y x := by
  induction h with
  | refl h => exact .refl h
  | step a t m ih => exact Conn.trans (.step (.refl m) (hs _ _ t) a.right) ih
/-- what is closed along ties holds all that hangs on to it -/
theorem Conn.closed {q : List Int} (hq : ∀ x ∈ q, ∀ y ∈ P, T x y → y ∈ q) {x y : Int} (h : Conn P T x y) (hx : x ∈ q) : y ∈ q := by
  induction h with
  | refl _ => exact hx
  | step a t m ih => exact hq _ ih _ m t
/-- the parts of P in their order -/
structure IsParts (P : List Int) (T : Int → Int → Prop) (Q : List (List Int)) : Prop where
  ne : ∀ q ∈ Q, q ≠ []
  asc : ∀ q ∈ Q, q.Pairwise (· < ·)
  mem : ∀ q ∈ Q, ∀ x ∈ q, x ∈ P ∧ ∀ y, y ∈ q ↔ Conn P T x y
  all : ∀ x ∈ P, ∃ q ∈ Q, x ∈ q
  ord : Q.Pairwise fun a b => a.headD 0 < b.headD 0
theorem IsParts.sub {Q1 Q2 : List (List Int)} (h1 : IsParts P T Q1) (h2 : IsParts P T Q2) {q : List Int} (hq : q ∈ Q1) : q ∈ Q2 := by
  obtain ⟨x, hx⟩ : ∃ x, x ∈ q := List.exists_mem_of_ne_nil _ (h1.ne q hq)
  obtain ⟨hp, hm⟩ := h1.mem q hq x hx
  obtain ⟨q2, hq2, hx2⟩ := h2.all x hp
  obtain ⟨_, hm2⟩ := h2.mem q2 hq2 x hx2
  have : q = q2 := eq_of_strict (fun i => i) q q2 (h1.asc q hq) (h2.asc q2 hq2) fun y => (hm y).trans (hm2 y).symm
  rw [this]
  exact hq2
theorem IsParts.unique {Q1 Q2 : List (List Int)} (h1 : IsParts P T Q1) (h2 : IsParts P T Q2) : Q1 = Q2 :=
  eq_of_strict (fun q => q.headD 0) Q1 Q2 h1.ord h2.ord fun q => ⟨fun h => h1.sub h2 h, fun h => h2.sub h1 h⟩

/-! ### sorting -/
noncomputable def srt (l : List Int) : List Int := l.mergeSort (fun a b => decide (a ≤ b))
theorem srt_perm (l : List Int) : (srt l).Perm l := List.mergeSort_perm _ _
theorem srt_mem {l : List Int} {x : Int} : x ∈ srt l ↔ x ∈ l := (srt_perm l).mem_iff
theorem srt_le (l : List Int) : (srt l).Pairwise (· ≤ ·) := by
  have := List.pairwise_mergeSort (le := fun a b : Int => decide (a ≤ b)) (fun a b c h1 h2 => by simp at *; omega) (fun a b => by simp; omega) l
  exact this.imp fun h => by simpa using h
theorem srt_asc {l : List Int} (h : l.Nodup) : (srt l).Pairwise (· < ·) := by
  have n : (srt l).Nodup := (srt_perm l).nodup_iff.mpr h
  have := List.Pairwise.and (srt_le l) n
  exact this.imp fun ⟨a, b⟩ => by omega
/-- the parts sorted -/
noncomputable def srtP (Q : List (List Int)) : List (List Int) := Q.mergeSort (fun a b => decide (a ≤ b))
theorem srtP_perm (l : List (List Int)) : (srtP l).Perm l := List.mergeSort_perm _ _
theorem srtP_le (l : List (List Int)) : (srtP l).Pairwise (· ≤ ·) := by
  have := List.pairwise_mergeSort (le := fun a b : List Int => decide (a ≤ b)) (fun a b c h1 h2 => by
    simp only [decide_eq_true_eq] at *
    exact List.le_trans h1 h2) (fun a b => by
    simp only [Bool.or_eq_true, decide_eq_true_eq]
    exact List.le_total a b) l
  exact this.imp fun h => by simpa using h
theorem head_lt {a b : List Int} (ha : a ≠ []) (hb : b ≠ []) (h : a ≤ b) (hne : a.headD 0 ≠ b.headD 0) : a.headD 0 < b.headD 0 := by
  cases a with
  | nil => exact absurd rfl ha
  | cons x a =>
    cases b with
    | nil => exact absurd rfl hb
    | cons y b =>
      simp only [List.headD_cons] at hne ⊢
      have h' : ¬ (y :: b < x :: a) := h
      rw [List.cons_lt_cons_iff] at h'
      simp only [not_or] at h'
      omega
theorem srtP_ord {Q : List (List Int)} (hne : ∀ q ∈ Q, q ≠ []) (hd : Q.Pairwise fun a b => a.headD 0 ≠ b.headD 0) : (srtP Q).Pairwise fun a b => a.headD 0 < b.headD 0 := by
  have h1 : (srtP Q).Pairwise fun a b => a.headD 0 ≠ b.headD 0 := (srtP_perm Q).symm.pairwise hd (fun h => fun e => h e.symm)
  have h2 := List.Pairwise.and (srtP_le Q) h1
  refine List.Pairwise.imp_of_mem (fun {a b} ha hb ⟨x, y⟩ => ?_) h2
  exact head_lt (hne a ((srtP_perm Q).mem_iff.mp ha)) (hne b ((srtP_perm Q).mem_iff.mp hb)) x y
/-! ### joining peg by peg -/
theorem pw_sym {α : Type} {R : α → α → Prop} (hs : ∀ a b, R a b → R b a) : ∀ {l : List α}, l.Pairwise R → ∀ a ∈ l, ∀ b ∈ l, a ≠ b → R a b
  | [], _, a, ha, _, _, _ => by cases ha
  | c :: l, h, a, ha, b, hb, hne => by
    rw [List.pairwise_cons] at h
    rcases List.mem_cons.mp ha with ea | ha'
    · rcases List.mem_cons.mp hb with eb | hb'
      · exact absurd (ea.trans eb.symm) hne
      · rw [ea]; exact h.1 b hb'
    · rcases List.mem_cons.mp hb with eb | hb'
      · rw [eb]; exact hs _ _ (h.1 a ha')
      · exact pw_sym hs h.2 a ha' b hb' hne
def Sep (T : Int → Int → Prop) (a b : List Int) : Prop := ∀ x ∈ a, ∀ y ∈ b, ¬ T x y ∧ x ≠ y
theorem Sep.symm (hs : ∀ x y, T x y → T y x) {a b : List Int} (h : Sep T a b) : Sep T b a := fun x hx y hy => ⟨fun t => (h y hy x hx).1 (hs _ _ t), fun e => (h y hy x hx).2 e.symm⟩
noncomputable def join (tb : Int → Int → Bool) (found : List (List Int)) (p : Int) : List (List Int) :=
  found.filter (fun q => !(q.any fun x => tb x p)) ++ [srt (found.filter (fun q => q.any fun x => tb x p)).flatten ++ [p]]
structure Jn (P : List Int) (T : Int → Int → Prop) (done : List Int) (found : List (List Int)) : Prop where
  ne : ∀ q ∈ found, q ≠ []
  asc : ∀ q ∈ found, q.Pairwise (· < ·)
  conn : ∀ q ∈ found, ∀ x ∈ q, ∀ y ∈ q, Conn P T x y
  cov : ∀ x, x ∈ done ↔ ∃ q ∈ found, x ∈ q
  sep : found.Pairwise (Sep T)
theorem Jn.nil : Jn P T [] [] := ⟨fun q h => (by cases h), fun q h => (by cases h), fun q h => (by cases h), fun x => ⟨fun h => (by cases h), fun ⟨q, h, _⟩ => (by cases h)⟩, .nil⟩
theorem Jn.step {done : List Int} {found : List (List Int)} {tb : Int → Int → Bool} {p : Int} (h : Jn P T done found) (hs : ∀ x y, T x y → T y x) (hp : p ∈ P) (hlt : ∀ x ∈ done, x < p) (htb : ∀ x ∈ done, (tb x p = true ↔ T x p)) : Jn P T (done ++ [p]) (join tb found p) := by
  have inD : ∀ q ∈ found, ∀ x ∈ q, x ∈ done := fun q hq x hx => (h.cov x).mpr ⟨q, hq, hx⟩
  have ymem : ∀ {y}, y ∈ (found.filter fun q => q.any fun x => tb x p).flatten ↔ ∃ q ∈ found, (∃ x ∈ q, T x p) ∧ y ∈ q := fun {y} => by
    rw [List.mem_flatten]
    constructor
    · rintro ⟨q, hq, hy⟩
      obtain ⟨hq, ha⟩ := List.mem_filter.mp hq
      obtain ⟨x, hx, ht⟩ := List.any_eq_true.mp ha
      exact ⟨q, hq, ⟨x, hx, (htb x (inD q hq x hx)).mp ht⟩, hy⟩
    · rintro ⟨q, hq, ⟨x, hx, ht⟩, hy⟩
      exact ⟨q, List.mem_filter.mpr ⟨hq, List.any_eq_true.mpr ⟨x, hx, (htb x (inD q hq x hx)).mpr ht⟩⟩, hy⟩
  have omem : ∀ {q}, q ∈ found.filter (fun q => !(q.any fun x => tb x p)) ↔ q ∈ found ∧ ∀ x ∈ q, ¬ T x p := fun {q} => by
    rw [List.mem_filter]
    refine and_congr_right fun hq => ?_
    rw [Bool.not_eq_true', List.any_eq_false]
    exact forall_congr' fun x => ⟨fun z hx => fun t => z hx ((htb x (inD q hq x hx)).mpr t), fun z hx => fun t => z hx ((htb x (inD q hq x hx)).mp t)⟩
  have toP : ∀ {y}, y ∈ (found.filter fun q => q.any fun x => tb x p).flatten → Conn P T y p := fun {y} hy => by
    obtain ⟨q, hq, ⟨x, hx, ht⟩, hy⟩ := ymem.mp hy
    exact .step (h.conn q hq y hy x hx) ht hp
  have nd : (found.filter fun q => q.any fun x => tb x p).flatten.Nodup := by
    refine List.pairwise_flatten.mpr ⟨fun q hq => (h.asc q (List.mem_filter.mp hq).1).imp fun z => by omega, ?_⟩
    exact (h.sep.filter _).imp fun z x hx y hy => (z x hx y hy).2
  have newmem : ∀ {y}, y ∈ srt (found.filter fun q => q.any fun x => tb x p).flatten ++ [p] ↔ y ∈ (found.filter fun q => q.any fun x => tb x p).flatten ∨ y = p := fun {y} => by
    rw [List.mem_append, srt_mem, List.mem_singleton]
  refine ⟨fun q hq => ?_, fun q hq => ?_, fun q hq => ?_, fun x => ?_, ?_⟩
  · rcases List.mem_append.mp hq with hq | hq
    · exact h.ne q (omem.mp hq).1
    · rw [List.mem_singleton.mp hq]; simp
  · rcases List.mem_append.mp hq with hq | hq
    · exact h.asc q (omem.mp hq).1
    · rw [List.mem_singleton.mp hq, List.pairwise_append]
      refine ⟨srt_asc nd, by simp, fun a ha b hb => ?_⟩
      rw [List.mem_singleton.mp hb]
      obtain ⟨q, hq, _, hy⟩ := ymem.mp (srt_mem.mp ha)
      exact hlt a (inD q hq a hy)
  · rcases List.mem_append.mp hq with hq | hq
    · exact h.conn q (omem.mp hq).1
    · rw [List.mem_singleton.mp hq]
      intro x hx y hy
      have toP' : ∀ {z}, z ∈ srt (found.filter fun q => q.any fun x => tb x p).flatten ++ [p] → Conn P T z p := fun {z} hz => by
        rcases newmem.mp hz with hz | rfl
        · exact toP hz
        · exact .refl hp
      exact (toP' hx).trans ((toP' hy).symm hs)
  · constructor
    · intro hx
      rcases List.mem_append.mp hx with hx | hx
      · obtain ⟨q, hq, hxq⟩ := (h.cov x).mp hx
        by_cases ht : ∃ y ∈ q, T y p
        · exact ⟨_, List.mem_append.mpr (.inr (List.mem_singleton.mpr rfl)), newmem.mpr (.inl (ymem.mpr ⟨q, hq, ht, hxq⟩))⟩
        · exact ⟨q, List.mem_append.mpr (.inl (omem.mpr ⟨hq, fun y hy t => ht ⟨y, hy, t⟩⟩)), hxq⟩
      · exact ⟨_, List.mem_append.mpr (.inr (List.mem_singleton.mpr rfl)), newmem.mpr (.inr (List.mem_singleton.mp hx))⟩
    · rintro ⟨q, hq, hx⟩
      rw [List.mem_append]
      rcases List.mem_append.mp hq with hq | hq
      · exact .inl (inD q (omem.mp hq).1 x hx)
      · rw [List.mem_singleton.mp hq] at hx
        rcases newmem.mp hx with hx | rfl
        · obtain ⟨q, hq, _, hy⟩ := ymem.mp hx
          exact .inl (inD q hq x hy)
        · exact .inr (by simp)
  · show (_ ++ _ : List (List Int)).Pairwise _
    rw [List.pairwise_append]
    refine ⟨h.sep.filter _, by simp, fun a ha b hb => ?_⟩
    rw [List.mem_singleton.mp hb]
    obtain ⟨ha1, ha2⟩ := omem.mp ha
    intro x hx y hy
    rcases newmem.mp hy with hy | rfl
    · obtain ⟨q, hq, ⟨z, hz, ht⟩, hyq⟩ := ymem.mp hy
      have hne : a ≠ q := fun e => ha2 z (by rw [e]; exact hz) ht
      exact pw_sym (fun a b => Sep.symm hs) h.sep a ha1 q hq hne x hx y hyq
    · exact ⟨ha2 x hx, by have := hlt x (inD a ha1 x hx); omega⟩
theorem Jn.parts {found : List (List Int)} (h : Jn P T P found) (hs : ∀ x y, T x y → T y x) : IsParts P T (srtP found) := by
  have mem : ∀ {q}, q ∈ srtP found ↔ q ∈ found := (srtP_perm found).mem_iff
  refine ⟨fun q hq => h.ne q (mem.mp hq), fun q hq => h.asc q (mem.mp hq), fun q hq x hx => ?_, fun x hx => ?_, ?_⟩
  · have hq := mem.mp hq
    refine ⟨(h.cov x).mpr ⟨q, hq, hx⟩, fun y => ⟨fun hy => h.conn q hq x hx y hy, fun c => ?_⟩⟩
    refine c.closed (q := q) (fun a ha b hb t => ?_) hx
    obtain ⟨q2, hq2, hb2⟩ := (h.cov b).mp hb
    by_cases e : q = q2
    · rw [e]; exact hb2
    · exact absurd t (pw_sym (fun a b => Sep.symm hs) h.sep q hq q2 hq2 e a ha b hb2).1
  · obtain ⟨q, hq, hxq⟩ := (h.cov x).mp hx
    exact ⟨q, mem.mpr hq, hxq⟩
  · refine srtP_ord h.ne (List.Pairwise.imp_of_mem (fun {a b} ha hb s => ?_) h.sep)
    cases a with
    | nil => exact absurd rfl (h.ne _ ha)
    | cons x a =>
      cases b with
      | nil => exact absurd rfl (h.ne _ hb)
      | cons y b => exact (s x (by simp) y (by simp)).2
end CC
end
section
namespace CC
variable {P : List Int} {T : Int → Int → Prop}
/-- parts taken away one by one -/
structure PI (P : List Int) (T : Int → Int → Prop) (left : List Int) (parts : List (List Int)) : Prop where
  up : left.Pairwise (· < ·)
  sub : ∀ x ∈ left, x ∈ P
  cl : ∀ x ∈ left, ∀ y ∈ P, T x y → y ∈ left
  ne : ∀ q ∈ parts, q ≠ []
  asc : ∀ q ∈ parts, q.Pairwise (· < ·)
  mem : ∀ q ∈ parts, ∀ x ∈ q, x ∈ P ∧ ∀ y, y ∈ q ↔ Conn P T x y
  all : ∀ x ∈ P, x ∈ left ∨ ∃ q ∈ parts, x ∈ q
  ord : parts.Pairwise fun a b => a.headD 0 < b.headD 0
  hd : ∀ q ∈ parts, ∀ x ∈ left, q.headD 0 < x
  len : parts.length + left.length ≤ P.length
theorem headD_mem {q : List Int} (h : q ≠ []) : q.headD 0 ∈ q := by
  cases q with
  | nil => exact absurd rfl h
  | cons a l => simp
theorem headD_le {q : List Int} (h : q.Pairwise (· < ·)) {a : Int} (ha : a ∈ q) : q.headD 0 ≤ a := by
  cases q with
  | nil => cases ha
  | cons b l =>
    rw [List.pairwise_cons] at h
    simp only [List.headD_cons]
    rcases List.mem_cons.mp ha with e | ha
    · omega
    · have := h.1 a ha; omega
theorem PI.start (h : P.Pairwise (· < ·)) : PI P T P [] := ⟨h, fun x hx => hx, fun x hx y hy _ => hy, fun q h => (by cases h), fun q h => (by cases h), fun q h => (by cases h), fun x hx => .inl hx, .nil, fun q h => (by cases h), by simp⟩
theorem PI.step {a : Int} {l q : List Int} {parts : List (List Int)} (h : PI P T (a :: l) parts) (hs : ∀ x y, T x y → T y x) (hq : q.Pairwise (· < ·)) (hm : ∀ y, y ∈ q ↔ Conn P T a y) : PI P T ((a :: l).filter fun x => !decide (x ∈ q)) (parts ++ [q]) := by
  have aP : a ∈ P := h.sub a (by simp)
  have aq : a ∈ q := (hm a).mpr (.refl aP)
  have lm : ∀ {x}, x ∈ (a :: l).filter (fun x => !decide (x ∈ q)) ↔ x ∈ a :: l ∧ x ∉ q := fun {x} => by
    rw [List.mem_filter]; simp
  have qne : q ≠ [] := List.ne_nil_of_mem aq
  have qsub : ∀ y ∈ q, y ∈ a :: l := fun y hy => ((hm y).mp hy).closed (q := a :: l) (fun x hx y hy t => h.cl x hx y hy t) (by simp)
  refine ⟨h.up.filter _, fun x hx => h.sub x (lm.mp hx).1, fun x hx y hy t => ?_, fun p hp => ?_, fun p hp => ?_, fun p hp x hx => ?_, fun x hx => ?_, ?_, fun p hp x hx => ?_, ?_⟩
  · obtain ⟨h1, h2⟩ := lm.mp hx
    refine lm.mpr ⟨h.cl x h1 y hy t, fun hyq => h2 ((hm x).mpr (.step ((hm y).mp hyq) (hs _ _ t) (h.sub x h1)))⟩
  · rcases List.mem_append.mp hp with hp | hp
    · exact h.ne p hp
    · rw [List.mem_singleton.mp hp]; exact qne
  · rcases List.mem_append.mp hp with hp | hp
    · exact h.asc p hp
    · rw [List.mem_singleton.mp hp]; exact hq
  · rcases List.mem_append.mp hp with hp | hp
    · exact h.mem p hp x hx
    · rw [List.mem_singleton.mp hp] at hx ⊢
      have c := (hm x).mp hx
      exact ⟨c.right, fun y => (hm y).trans ⟨fun d => (c.symm hs).trans d, fun d => c.trans d⟩⟩
  · rcases h.all x hx with hx | ⟨p, hp, hx⟩
    · by_cases e : x ∈ q
      · exact .inr ⟨q, by simp, e⟩
      · exact .inl (lm.mpr ⟨hx, e⟩)
    · exact .inr ⟨p, by simp [hp], hx⟩
  · rw [List.pairwise_append]
    refine ⟨h.ord, by simp, fun p hp p' hp' => ?_⟩
    rw [List.mem_singleton.mp hp']
    exact h.hd p hp _ (qsub _ (headD_mem qne))
  · obtain ⟨h1, h2⟩ := lm.mp hx
    rcases List.mem_append.mp hp with hp | hp
    · exact h.hd p hp x h1
    · rw [List.mem_singleton.mp hp]
      have := headD_le hq aq
      have hu := (List.pairwise_cons.mp h.up).1
      rcases List.mem_cons.mp h1 with e | h1
      · exact absurd (e ▸ aq) h2
      · have := hu x h1; omega
  · have h1 := h.len
    have h2 : ((a :: l).filter fun x => !decide (x ∈ q)).length ≤ l.length := by
      rw [List.filter_cons, if_neg (by simp [aq])]
      exact List.length_filter_le _ _
    simp only [List.length_append, List.length_cons, List.length_nil] at h1 ⊢
    omega
theorem PI.done {parts : List (List Int)} (h : PI P T [] parts) : IsParts P T parts := ⟨h.ne, h.asc, h.mem, fun x hx => (h.all x hx).elim (fun z => by cases z) id, h.ord⟩
end CC
end
section
set_option maxHeartbeats 400000
namespace K01
open PySem PySem.Spec PyProof.Rows L2 RZ RT Fx
open Classical
theorem is_integer_int (i : Int) {S : Sto} (h : Closed S) : f_is_integer [.d (.int i)] S = .ok (.d (.bool true)) S := by
  rw [u_is_integer]
  refine gc_d (G := []) ?_ rfl h
  rw [List.append_nil]
  simp only [to_ok, seqK_nx, seqK_rt, seq_app, set1_app, ret_app, skip_app, ifS_app, op2_app, op1_app, app_app, nilA_app, consA_app, con_app, slot_some, var_app, call1_app, callK_app, bind_to, pure_to, toB_b, tstB_app, tst_app, toT_b, toT_i, toT_n, andT_app, orT_app, notT_app, andV_app, orV_app, notV_app, ifV_app, chain_app, dropE_app, asg_app, setN_app, methL1_app, forS_app, lcS_app, walk_app, yes_app, optR_some, pur2_app, purA_app, iop_int, iop_tup, addF_int, mulF_int, int2_int, intO_int, eqD_int, lenO_tup, isiF_app, isiR_tt, isiR_ii, isiR_ib, itemsT_tup, ix0, ix1, List.getElem?_cons_zero, List.getElem?_cons_succ, List.set_cons_zero, List.set_cons_succ, List.length_cons, List.length_nil, Nat.reduceAdd, ↓reduceIte, Bool.false_eq_true, Option.some_or, Option.none_or, Bool.not_true, Bool.not_false, retOf_rt, retOf_nx, c_0, c_1, c_2, c_3, c_7, c_12, eq_self, decide_true, decide_false, id, Int.reduceEq, Int.reduceLT, Int.reduceLE, Int.reduceAdd, Int.reduceSub, Int.reduceToNat, b_is_integer]
theorem is_peg_ok {n i : Int} {S : Sto} (h : Closed S) (h1 : 1 ≤ i) (h2 : i ≤ n) : f_is_peg [.d (.int n), .d (.int i)] S = .ok (.d (.bool true)) S := by
  rw [u_is_peg]
  refine gc_d (G := []) ?_ rfl h
  rw [List.append_nil]
  simp only [to_ok, seqK_nx, seqK_rt, seq_app, set1_app, ret_app, skip_app, ifS_app, op2_app, op1_app, app_app, nilA_app, consA_app, con_app, slot_some, var_app, call1_app, callK_app, bind_to, pure_to, toB_b, tstB_app, tst_app, toT_b, toT_i, toT_n, andT_app, orT_app, notT_app, andV_app, orV_app, notV_app, ifV_app, chain_app, dropE_app, asg_app, setN_app, methL1_app, forS_app, lcS_app, walk_app, yes_app, optR_some, pur2_app, purA_app, iop_int, iop_tup, addF_int, mulF_int, int2_int, intO_int, eqD_int, lenO_tup, isiF_app, isiR_tt, isiR_ii, isiR_ib, itemsT_tup, ix0, ix1, List.getElem?_cons_zero, List.getElem?_cons_succ, List.set_cons_zero, List.set_cons_succ, List.length_cons, List.length_nil, Nat.reduceAdd, ↓reduceIte, Bool.false_eq_true, Option.some_or, Option.none_or, Bool.not_true, Bool.not_false, retOf_rt, retOf_nx, c_0, c_1, c_2, c_3, c_7, c_12, eq_self, decide_true, decide_false, id, Int.reduceEq, Int.reduceLT, Int.reduceLE, Int.reduceAdd, Int.reduceSub, Int.reduceToNat, b_is_peg, is_integer_int, h, h1, h2, decide_true]
theorem is_ascending_ok {ps : List PyData} {S : Sto} (h : Closed S) (hl : ps.length ≤ 1000) (ha : ∀ k (hk : k + 1 < ps.length), ltF (.d ps[k]) (.d ps[k + 1]) S = .ok (.d (.bool true)) S) : f_is_ascending [.d (.tuple ps)] S = .ok (.d (.bool true)) S := by
  rw [u_is_ascending]
  refine gc_d (G := []) ?_ rfl h
  rw [List.append_nil]
  have e1 : itemsR2 [.d (.int 1), .d (.int (ps.length : Nat))] S = .ok (rangeD 1 ((ps.length : Int) - 1).toNat, freeG) S := itemsR2_int (okB_of (by omega) (by omega)) (okB_of (by omega) (by omega))
  obtain ⟨ρ2, S2, e, h2, h3⟩ := forL_ix (gd := freeG) (t := setN 1) (b := l_is_ascending_1) (items := rangeD 1 ((ps.length : Int) - 1).toNat) (ρ := [some (.d (.tuple ps)), none]) (S := S) (fun k ρ S' => S' = S ∧ ∃ o, ρ = [some (.d (.tuple ps)), o]) (fun _ _ _ _ _ => trivial) (by
    rintro k x ρ S' hx ⟨rfl, o, rfl⟩
    obtain ⟨hk, rfl⟩ := rangeD_some hx
    refine ⟨_, _, [some (.d (.tuple ps)), some (.d (.int (1 + k)))], S', rfl, ?_, rfl, _, rfl⟩
    have hk2 : k + 1 < ps.length := by omega
    have a1 : atI (ps.map D.d) (1 + (k : Int) - 1) = some (.d ps[k]) := by
      rw [atI_nat (by omega) (by simp; omega)]
      have : (1 + (k : Int) - 1).toNat = k := by omega
      rw [this]
      simp
    have a2 : atI (ps.map D.d) (1 + (k : Int)) = some (.d ps[k + 1]) := by
      rw [atI_nat (by omega) (by simp; omega)]
      have : (1 + (k : Int)).toNat = k + 1 := by omega
      rw [this]
      simp
    have := show optR _ S' = _ from ha k hk2
    simp only [to_ok, seqK_nx, seqK_rt, seq_app, set1_app, ret_app, skip_app, ifS_app, op2_app, op1_app, app_app, nilA_app, consA_app, con_app, slot_some, var_app, call1_app, callK_app, bind_to, pure_to, toB_b, tstB_app, tst_app, toT_b, toT_i, toT_n, andT_app, orT_app, notT_app, andV_app, orV_app, notV_app, ifV_app, chain_app, dropE_app, asg_app, setN_app, methL1_app, forS_app, lcS_app, walk_app, yes_app, optR_some, pur2_app, purA_app, iop_int, iop_tup, addF_int, mulF_int, int2_int, intO_int, eqD_int, lenO_tup, isiF_app, isiR_tt, isiR_ii, isiR_ib, itemsT_tup, ix0, ix1, List.getElem?_cons_zero, List.getElem?_cons_succ, List.set_cons_zero, List.set_cons_succ, List.length_cons, List.length_nil, Nat.reduceAdd, ↓reduceIte, Bool.false_eq_true, Option.some_or, Option.none_or, Bool.not_true, Bool.not_false, retOf_rt, retOf_nx, c_0, c_1, c_2, c_3, c_7, c_12, eq_self, decide_true, decide_false, id, Int.reduceEq, Int.reduceLT, Int.reduceLE, Int.reduceAdd, Int.reduceSub, Int.reduceToNat, l_is_ascending_1, List.set_cons_succ, ixF_tup, a1, a2]
    rw [this]
    simp only [to_ok, seqK_nx, seqK_rt, seq_app, set1_app, ret_app, skip_app, ifS_app, op2_app, op1_app, app_app, nilA_app, consA_app, con_app, slot_some, var_app, call1_app, callK_app, bind_to, pure_to, toB_b, tstB_app, tst_app, toT_b, toT_i, toT_n, andT_app, orT_app, notT_app, andV_app, orV_app, notV_app, ifV_app, chain_app, dropE_app, asg_app, setN_app, methL1_app, forS_app, lcS_app, walk_app, yes_app, optR_some, pur2_app, purA_app, iop_int, iop_tup, addF_int, mulF_int, int2_int, intO_int, eqD_int, lenO_tup, isiF_app, isiR_tt, isiR_ii, isiR_ib, itemsT_tup, ix0, ix1, List.getElem?_cons_zero, List.getElem?_cons_succ, List.set_cons_zero, List.set_cons_succ, List.length_cons, List.length_nil, Nat.reduceAdd, ↓reduceIte, Bool.false_eq_true, Option.some_or, Option.none_or, Bool.not_true, Bool.not_false, retOf_rt, retOf_nx, c_0, c_1, c_2, c_3, c_7, c_12, eq_self, decide_true, decide_false, id, Int.reduceEq, Int.reduceLT, Int.reduceLE, Int.reduceAdd, Int.reduceSub, Int.reduceToNat]) ⟨rfl, _, rfl⟩
  obtain ⟨rfl, o, rfl⟩ := show S2 = S ∧ ∃ o, ρ2 = [some (.d (.tuple ps)), o] from ⟨h2, h3⟩
  simp only [to_ok, seqK_nx, seqK_rt, seq_app, set1_app, ret_app, skip_app, ifS_app, op2_app, op1_app, app_app, nilA_app, consA_app, con_app, slot_some, var_app, call1_app, callK_app, bind_to, pure_to, toB_b, tstB_app, tst_app, toT_b, toT_i, toT_n, andT_app, orT_app, notT_app, andV_app, orV_app, notV_app, ifV_app, chain_app, dropE_app, asg_app, setN_app, methL1_app, forS_app, lcS_app, walk_app, yes_app, optR_some, pur2_app, purA_app, iop_int, iop_tup, addF_int, mulF_int, int2_int, intO_int, eqD_int, lenO_tup, isiF_app, isiR_tt, isiR_ii, isiR_ib, itemsT_tup, ix0, ix1, List.getElem?_cons_zero, List.getElem?_cons_succ, List.set_cons_zero, List.set_cons_succ, List.length_cons, List.length_nil, Nat.reduceAdd, ↓reduceIte, Bool.false_eq_true, Option.some_or, Option.none_or, Bool.not_true, Bool.not_false, retOf_rt, retOf_nx, c_0, c_1, c_2, c_3, c_7, c_12, eq_self, decide_true, decide_false, id, Int.reduceEq, Int.reduceLT, Int.reduceLE, Int.reduceAdd, Int.reduceSub, Int.reduceToNat, b_is_ascending, e1, e]

theorem get_of {α : Type} {l : List α} {k : Nat} {x : α} (h : l[k]? = some x) : x ∈ l := List.mem_of_getElem? h
theorem is_peg_set_ok {n : Int} {pegs : List Int} {S : Sto} (h : Closed S) (hl : pegs.length ≤ 1000) (h1 : ∀ i ∈ pegs, 1 ≤ i ∧ i ≤ n) (h2 : pegs.Pairwise (· < ·)) : f_is_peg_set [.d (.int n), .d (.tuple (pegs.map .int))] S = .ok (.d (.bool true)) S := by
  rw [u_is_peg_set]
  refine gc_d (G := []) ?_ rfl h
  rw [List.append_nil]
  obtain ⟨ρ2, S2, e, h3, h4⟩ := forL_ix (gd := freeG) (t := setN 2) (b := l_is_peg_set_1) (items := (pegs.map PyData.int).map D.d) (ρ := [some (.d (.int n)), some (.d (.tuple (pegs.map .int))), none]) (S := S) (fun k ρ S' => S' = S ∧ ∃ o, ρ = [some (.d (.int n)), some (.d (.tuple (pegs.map .int))), o]) (fun _ _ _ _ _ => trivial) (by
    rintro k x ρ S' hx ⟨rfl, o, rfl⟩
    obtain ⟨y, hy, rfl⟩ := map_some hx
    obtain ⟨i, hi, rfl⟩ := map_some hy
    obtain ⟨a1, a2⟩ := h1 i (get_of hi)
    refine ⟨_, _, [some (.d (.int n)), some (.d (.tuple (pegs.map .int))), some (.d (.int i))], S', rfl, ?_, rfl, _, rfl⟩
    simp only [to_ok, seqK_nx, seqK_rt, seq_app, set1_app, ret_app, skip_app, ifS_app, op2_app, op1_app, app_app, nilA_app, consA_app, con_app, slot_some, var_app, call1_app, callK_app, bind_to, pure_to, toB_b, tstB_app, tst_app, toT_b, toT_i, toT_n, andT_app, orT_app, notT_app, andV_app, orV_app, notV_app, ifV_app, chain_app, dropE_app, asg_app, setN_app, methL1_app, forS_app, lcS_app, walk_app, yes_app, optR_some, pur2_app, purA_app, iop_int, iop_tup, addF_int, mulF_int, int2_int, intO_int, eqD_int, lenO_tup, isiF_app, isiR_tt, isiR_ii, isiR_ib, itemsT_tup, ix0, ix1, List.getElem?_cons_zero, List.getElem?_cons_succ, List.set_cons_zero, List.set_cons_succ, List.length_cons, List.length_nil, Nat.reduceAdd, ↓reduceIte, Bool.false_eq_true, Option.some_or, Option.none_or, Bool.not_true, Bool.not_false, retOf_rt, retOf_nx, c_0, c_1, c_2, c_3, c_7, c_12, eq_self, decide_true, decide_false, id, Int.reduceEq, Int.reduceLT, Int.reduceLE, Int.reduceAdd, Int.reduceSub, Int.reduceToNat, l_is_peg_set_1, is_peg_ok h a1 a2]) ⟨rfl, _, rfl⟩
  obtain ⟨rfl, o, rfl⟩ := show S2 = S ∧ ∃ o, ρ2 = [some (.d (.int n)), some (.d (.tuple (pegs.map .int))), o] from ⟨h3, h4⟩
  have ea : f_is_ascending [.d (.tuple (pegs.map .int))] S2 = .ok (.d (.bool true)) S2 := is_ascending_ok h (by simpa using hl) fun k hk => by
    simp only [List.length_map] at hk
    have := List.pairwise_iff_getElem.mp h2 k (k + 1) (by omega) hk (by omega)
    simp only [List.getElem_map]
    rw [lt_ii, decide_eq_true this]
  simp only [to_ok, seqK_nx, seqK_rt, seq_app, set1_app, ret_app, skip_app, ifS_app, op2_app, op1_app, app_app, nilA_app, consA_app, con_app, slot_some, var_app, call1_app, callK_app, bind_to, pure_to, toB_b, tstB_app, tst_app, toT_b, toT_i, toT_n, andT_app, orT_app, notT_app, andV_app, orV_app, notV_app, ifV_app, chain_app, dropE_app, asg_app, setN_app, methL1_app, forS_app, lcS_app, walk_app, yes_app, optR_some, pur2_app, purA_app, iop_int, iop_tup, addF_int, mulF_int, int2_int, intO_int, eqD_int, lenO_tup, isiF_app, isiR_tt, isiR_ii, isiR_ib, itemsT_tup, ix0, ix1, List.getElem?_cons_zero, List.getElem?_cons_succ, List.set_cons_zero, List.set_cons_succ, List.length_cons, List.length_nil, Nat.reduceAdd, ↓reduceIte, Bool.false_eq_true, Option.some_or, Option.none_or, Bool.not_true, Bool.not_false, retOf_rt, retOf_nx, c_0, c_1, c_2, c_3, c_7, c_12, eq_self, decide_true, decide_false, id, Int.reduceEq, Int.reduceLT, Int.reduceLE, Int.reduceAdd, Int.reduceSub, Int.reduceToNat, b_is_peg_set, e, ea]
def SlipOk (s : Int) : Prop := s = 0 ∨ (2 ≤ s ∧ s ≤ 30)
theorem are_slips_ok {sl : List Int} {S : Sto} (h : Closed S) (h0 : 1 ≤ sl.length) (hl : sl.length ≤ 10) (h1 : ∀ s ∈ sl, SlipOk s) : f__are_slips [.d (.tuple (sl.map .int))] S = .ok (.d (.bool true)) S := by
  rw [u__are_slips]
  refine gc_d (G := []) ?_ rfl h
  rw [List.append_nil]
  obtain ⟨ρ2, S2, e, h3, h4⟩ := forL_ix (gd := freeG) (t := setN 1) (b := l__are_slips_1) (items := (sl.map PyData.int).map D.d) (ρ := [some (.d (.tuple (sl.map .int))), none]) (S := S) (fun k ρ S' => S' = S ∧ ∃ o, ρ = [some (.d (.tuple (sl.map .int))), o]) (fun _ _ _ _ _ => trivial) (by
    rintro k x ρ S' hx ⟨rfl, o, rfl⟩
    obtain ⟨y, hy, rfl⟩ := map_some hx
    obtain ⟨i, hi, rfl⟩ := map_some hy
    refine ⟨_, _, [some (.d (.tuple (sl.map .int))), some (.d (.int i))], S', rfl, ?_, rfl, _, rfl⟩
    rcases h1 i (get_of hi) with a | ⟨a1, a2⟩
    · subst a
      simp only [to_ok, seqK_nx, seqK_rt, seq_app, set1_app, ret_app, skip_app, ifS_app, op2_app, op1_app, app_app, nilA_app, consA_app, con_app, slot_some, var_app, call1_app, callK_app, bind_to, pure_to, toB_b, tstB_app, tst_app, toT_b, toT_i, toT_n, andT_app, orT_app, notT_app, andV_app, orV_app, notV_app, ifV_app, chain_app, dropE_app, asg_app, setN_app, methL1_app, forS_app, lcS_app, walk_app, yes_app, optR_some, pur2_app, purA_app, iop_int, iop_tup, addF_int, mulF_int, int2_int, intO_int, eqD_int, lenO_tup, isiF_app, isiR_tt, isiR_ii, isiR_ib, itemsT_tup, ix0, ix1, List.getElem?_cons_zero, List.getElem?_cons_succ, List.set_cons_zero, List.set_cons_succ, List.length_cons, List.length_nil, Nat.reduceAdd, ↓reduceIte, Bool.false_eq_true, Option.some_or, Option.none_or, Bool.not_true, Bool.not_false, retOf_rt, retOf_nx, c_0, c_1, c_2, c_3, c_7, c_12, eq_self, decide_true, decide_false, id, Int.reduceEq, Int.reduceLT, Int.reduceLE, Int.reduceAdd, Int.reduceSub, Int.reduceToNat, l__are_slips_1, is_integer_int _ h, decide_true, id]
    · by_cases z : i = 0
      · omega
      · simp only [to_ok, seqK_nx, seqK_rt, seq_app, set1_app, ret_app, skip_app, ifS_app, op2_app, op1_app, app_app, nilA_app, consA_app, con_app, slot_some, var_app, call1_app, callK_app, bind_to, pure_to, toB_b, tstB_app, tst_app, toT_b, toT_i, toT_n, andT_app, orT_app, notT_app, andV_app, orV_app, notV_app, ifV_app, chain_app, dropE_app, asg_app, setN_app, methL1_app, forS_app, lcS_app, walk_app, yes_app, optR_some, pur2_app, purA_app, iop_int, iop_tup, addF_int, mulF_int, int2_int, intO_int, eqD_int, lenO_tup, isiF_app, isiR_tt, isiR_ii, isiR_ib, itemsT_tup, ix0, ix1, List.getElem?_cons_zero, List.getElem?_cons_succ, List.set_cons_zero, List.set_cons_succ, List.length_cons, List.length_nil, Nat.reduceAdd, ↓reduceIte, Bool.false_eq_true, Option.some_or, Option.none_or, Bool.not_true, Bool.not_false, retOf_rt, retOf_nx, c_0, c_1, c_2, c_3, c_7, c_12, eq_self, decide_true, decide_false, id, Int.reduceEq, Int.reduceLT, Int.reduceLE, Int.reduceAdd, Int.reduceSub, Int.reduceToNat, l__are_slips_1, is_integer_int _ h, decide_true, id, a1, a2, z, decide_false]) ⟨rfl, _, rfl⟩
  obtain ⟨rfl, o, rfl⟩ := show S2 = S ∧ ∃ o, ρ2 = [some (.d (.tuple (sl.map .int))), o] from ⟨h3, h4⟩
  have c1 : (1 : Int) ≤ (((sl.map PyData.int).length : Nat) : Int) := by simp; omega
  have c2 : (((sl.map PyData.int).length : Nat) : Int) ≤ 10 := by simp; omega
  simp only [to_ok, seqK_nx, seqK_rt, seq_app, set1_app, ret_app, skip_app, ifS_app, op2_app, op1_app, app_app, nilA_app, consA_app, con_app, slot_some, var_app, call1_app, callK_app, bind_to, pure_to, toB_b, tstB_app, tst_app, toT_b, toT_i, toT_n, andT_app, orT_app, notT_app, andV_app, orV_app, notV_app, ifV_app, chain_app, dropE_app, asg_app, setN_app, methL1_app, forS_app, lcS_app, walk_app, yes_app, optR_some, pur2_app, purA_app, iop_int, iop_tup, addF_int, mulF_int, int2_int, intO_int, eqD_int, lenO_tup, isiF_app, isiR_tt, isiR_ii, isiR_ib, itemsT_tup, ix0, ix1, List.getElem?_cons_zero, List.getElem?_cons_succ, List.set_cons_zero, List.set_cons_succ, List.length_cons, List.length_nil, Nat.reduceAdd, ↓reduceIte, Bool.false_eq_true, Option.some_or, Option.none_or, Bool.not_true, Bool.not_false, retOf_rt, retOf_nx, c_0, c_1, c_2, c_3, c_7, c_12, eq_self, decide_true, decide_false, id, Int.reduceEq, Int.reduceLT, Int.reduceLE, Int.reduceAdd, Int.reduceSub, Int.reduceToNat, b__are_slips, e, c1, c2, decide_true]
/-- rails as data -/
def railD (p : Int × Int) : PyData := .tuple ([p.1, p.2].map .int)
def railLt (p q : Int × Int) : Prop := p.1 < q.1 ∨ (p.1 = q.1 ∧ p.2 < q.2)
theorem lexLt2 {p q : Int × Int} (h : railLt p q) : HT.lexLt [p.1, p.2] [q.1, q.2] = true := by
  unfold railLt at h
  rcases h with h | ⟨h1, h2⟩
  · simp [HT.lexLt, h]; exact .inl (by omega)
  · simp [HT.lexLt, h1, h2]; omega
theorem are_rails_ok {n : Int} {rs : List (Int × Int)} {S : Sto} (h : Closed S) (hl : rs.length ≤ 1000) (h1 : ∀ r ∈ rs, 1 ≤ r.1 ∧ r.1 < r.2 ∧ r.2 ≤ n) (h2 : rs.Pairwise railLt) : f__are_rails [.d (.int n), .d (.tuple (rs.map railD))] S = .ok (.d (.bool true)) S := by
  rw [u__are_rails]
  refine gc_d (G := []) ?_ rfl h
  rw [List.append_nil]
  obtain ⟨ρ2, S2, e, h3, h4⟩ := forL_ix (gd := freeG) (t := setN 2) (b := l__are_rails_1) (items := (rs.map railD).map D.d) (ρ := [some (.d (.int n)), some (.d (.tuple (rs.map railD))), none]) (S := S) (fun k ρ S' => S' = S ∧ ∃ o, ρ = [some (.d (.int n)), some (.d (.tuple (rs.map railD))), o]) (fun _ _ _ _ _ => trivial) (by
    rintro k x ρ S' hx ⟨rfl, o, rfl⟩
    obtain ⟨y, hy, rfl⟩ := map_some hx
    obtain ⟨i, hi, rfl⟩ := map_some hy
    obtain ⟨a1, a2, a3⟩ := h1 i (get_of hi)
    refine ⟨_, _, [some (.d (.int n)), some (.d (.tuple (rs.map railD))), some (.d (railD i))], S', rfl, ?_, rfl, _, rfl⟩
    simp only [to_ok, seqK_nx, seqK_rt, seq_app, set1_app, ret_app, skip_app, ifS_app, op2_app, op1_app, app_app, nilA_app, consA_app, con_app, slot_some, var_app, call1_app, callK_app, bind_to, pure_to, toB_b, tstB_app, tst_app, toT_b, toT_i, toT_n, andT_app, orT_app, notT_app, andV_app, orV_app, notV_app, ifV_app, chain_app, dropE_app, asg_app, setN_app, methL1_app, forS_app, lcS_app, walk_app, yes_app, optR_some, pur2_app, purA_app, iop_int, iop_tup, addF_int, mulF_int, int2_int, intO_int, eqD_int, lenO_tup, isiF_app, isiR_tt, isiR_ii, isiR_ib, itemsT_tup, ix0, ix1, List.getElem?_cons_zero, List.getElem?_cons_succ, List.set_cons_zero, List.set_cons_succ, List.length_cons, List.length_nil, Nat.reduceAdd, ↓reduceIte, Bool.false_eq_true, Option.some_or, Option.none_or, Bool.not_true, Bool.not_false, retOf_rt, retOf_nx, c_0, c_1, c_2, c_3, c_7, c_12, eq_self, decide_true, decide_false, id, Int.reduceEq, Int.reduceLT, Int.reduceLE, Int.reduceAdd, Int.reduceSub, Int.reduceToNat, l__are_rails_1, railD, List.map_cons, List.map_nil, is_peg_ok h a1 (Int.le_trans (Int.le_of_lt a2) a3), is_peg_ok h (Int.le_trans a1 (Int.le_of_lt a2)) a3, decide_true, id, a2]) ⟨rfl, _, rfl⟩
  obtain ⟨rfl, o, rfl⟩ := show S2 = S ∧ ∃ o, ρ2 = [some (.d (.int n)), some (.d (.tuple (rs.map railD))), o] from ⟨h3, h4⟩
  have ea : f_is_ascending [.d (.tuple (rs.map railD))] S2 = .ok (.d (.bool true)) S2 := is_ascending_ok h (by simpa using hl) fun k hk => by
    simp only [List.length_map] at hk
    have := List.pairwise_iff_getElem.mp h2 k (k + 1) (by omega) hk (by omega)
    simp only [List.getElem_map]
    unfold railD
    rw [lt_tt, lexLt2 this]
  simp only [to_ok, seqK_nx, seqK_rt, seq_app, set1_app, ret_app, skip_app, ifS_app, op2_app, op1_app, app_app, nilA_app, consA_app, con_app, slot_some, var_app, call1_app, callK_app, bind_to, pure_to, toB_b, tstB_app, tst_app, toT_b, toT_i, toT_n, andT_app, orT_app, notT_app, andV_app, orV_app, notV_app, ifV_app, chain_app, dropE_app, asg_app, setN_app, methL1_app, forS_app, lcS_app, walk_app, yes_app, optR_some, pur2_app, purA_app, iop_int, iop_tup, addF_int, mulF_int, int2_int, intO_int, eqD_int, lenO_tup, isiF_app, isiR_tt, isiR_ii, isiR_ib, itemsT_tup, ix0, ix1, List.getElem?_cons_zero, List.getElem?_cons_succ, List.set_cons_zero, List.set_cons_succ, List.length_cons, List.length_nil, Nat.reduceAdd, ↓reduceIte, Bool.false_eq_true, Option.some_or, Option.none_or, Bool.not_true, Bool.not_false, retOf_rt, retOf_nx, c_0, c_1, c_2, c_3, c_7, c_12, eq_self, decide_true, decide_false, id, Int.reduceEq, Int.reduceLT, Int.reduceLE, Int.reduceAdd, Int.reduceSub, Int.reduceToNat, b__are_rails, e, ea]
/-- a wall that is right -/
structure Wall where
  sl : List Int
  rs : List (Int × Int)
  h0 : 1 ≤ sl.length
  hl : sl.length ≤ 10
  h1 : ∀ s ∈ sl, SlipOk s
  hr : rs.length ≤ 1000
  h2 : ∀ r ∈ rs, 1 ≤ r.1 ∧ r.1 < r.2 ∧ r.2 ≤ (sl.length : Int)
  h3 : rs.Pairwise railLt
def Wall.d (W : Wall) : D := .d (.tuple [.tuple (W.sl.map .int), .tuple (W.rs.map railD)])
theorem is_right_ok (W : Wall) {S : Sto} (h : Closed S) : f_is_right [W.d] S = .ok (.d (.bool true)) S := by
  rw [u_is_right]
  refine gc_d (G := []) ?_ rfl h
  rw [List.append_nil]
  have e1 := are_slips_ok h W.h0 W.hl W.h1
  have e2 := are_rails_ok (n := (((W.sl.map PyData.int).length : Nat) : Int)) h W.hr (by simpa using W.h2) W.h3
  unfold Wall.d
  simp only [to_ok, seqK_nx, seqK_rt, seq_app, set1_app, ret_app, skip_app, ifS_app, op2_app, op1_app, app_app, nilA_app, consA_app, con_app, slot_some, var_app, call1_app, callK_app, bind_to, pure_to, toB_b, tstB_app, tst_app, toT_b, toT_i, toT_n, andT_app, orT_app, notT_app, andV_app, orV_app, notV_app, ifV_app, chain_app, dropE_app, asg_app, setN_app, methL1_app, forS_app, lcS_app, walk_app, yes_app, optR_some, pur2_app, purA_app, iop_int, iop_tup, addF_int, mulF_int, int2_int, intO_int, eqD_int, lenO_tup, isiF_app, isiR_tt, isiR_ii, isiR_ib, itemsT_tup, ix0, ix1, List.getElem?_cons_zero, List.getElem?_cons_succ, List.set_cons_zero, List.set_cons_succ, List.length_cons, List.length_nil, Nat.reduceAdd, ↓reduceIte, Bool.false_eq_true, Option.some_or, Option.none_or, Bool.not_true, Bool.not_false, retOf_rt, retOf_nx, c_0, c_1, c_2, c_3, c_7, c_12, eq_self, decide_true, decide_false, id, Int.reduceEq, Int.reduceLT, Int.reduceLE, Int.reduceAdd, Int.reduceSub, Int.reduceToNat, b_is_right, e1, e2]
theorem need_right_ok (W : Wall) {S : Sto} (h : Closed S) : f_need_right [W.d] S = .ok (.d .none) S := by
  rw [u_need_right]
  refine gc_d (G := []) ?_ rfl h
  rw [List.append_nil]
  simp only [to_ok, seqK_nx, seqK_rt, seq_app, set1_app, ret_app, skip_app, ifS_app, op2_app, op1_app, app_app, nilA_app, consA_app, con_app, slot_some, var_app, call1_app, callK_app, bind_to, pure_to, toB_b, tstB_app, tst_app, toT_b, toT_i, toT_n, andT_app, orT_app, notT_app, andV_app, orV_app, notV_app, ifV_app, chain_app, dropE_app, asg_app, setN_app, methL1_app, forS_app, lcS_app, walk_app, yes_app, optR_some, pur2_app, purA_app, iop_int, iop_tup, addF_int, mulF_int, int2_int, intO_int, eqD_int, lenO_tup, isiF_app, isiR_tt, isiR_ii, isiR_ib, itemsT_tup, ix0, ix1, List.getElem?_cons_zero, List.getElem?_cons_succ, List.set_cons_zero, List.set_cons_succ, List.length_cons, List.length_nil, Nat.reduceAdd, ↓reduceIte, Bool.false_eq_true, Option.some_or, Option.none_or, Bool.not_true, Bool.not_false, retOf_rt, retOf_nx, c_0, c_1, c_2, c_3, c_7, c_12, eq_self, decide_true, decide_false, id, Int.reduceEq, Int.reduceLT, Int.reduceLE, Int.reduceAdd, Int.reduceSub, Int.reduceToNat, b_need_right, is_right_ok W h]
/-- a set of pegs of the wall -/
structure PegSet (W : Wall) where
  ps : List Int
  hl : ps.length ≤ 1000
  h1 : ∀ i ∈ ps, 1 ≤ i ∧ i ≤ (W.sl.length : Int)
  h2 : ps.Pairwise (· < ·)
def PegSet.d {W : Wall} (P : PegSet W) : D := .d (.tuple (P.ps.map .int))
theorem is_set_ok (W : Wall) (P : PegSet W) {S : Sto} (h : Closed S) : f_is_set [W.d, P.d] S = .ok (.d (.bool true)) S := by
  rw [u_is_set]
  refine gc_d (G := []) ?_ rfl h
  rw [List.append_nil]
  have e1 := is_peg_set_ok (n := (((W.sl.map PyData.int).length : Nat) : Int)) h P.hl (by simpa using P.h1) P.h2
  have e2 := need_right_ok W h
  unfold PegSet.d
  unfold Wall.d at e2 ⊢
  simp only [to_ok, seqK_nx, seqK_rt, seq_app, set1_app, ret_app, skip_app, ifS_app, op2_app, op1_app, app_app, nilA_app, consA_app, con_app, slot_some, var_app, call1_app, callK_app, bind_to, pure_to, toB_b, tstB_app, tst_app, toT_b, toT_i, toT_n, andT_app, orT_app, notT_app, andV_app, orV_app, notV_app, ifV_app, chain_app, dropE_app, asg_app, setN_app, methL1_app, forS_app, lcS_app, walk_app, yes_app, optR_some, pur2_app, purA_app, iop_int, iop_tup, addF_int, mulF_int, int2_int, intO_int, eqD_int, lenO_tup, isiF_app, isiR_tt, isiR_ii, isiR_ib, itemsT_tup, ix0, ix1, List.getElem?_cons_zero, List.getElem?_cons_succ, List.set_cons_zero, List.set_cons_succ, List.length_cons, List.length_nil, Nat.reduceAdd, ↓reduceIte, Bool.false_eq_true, Option.some_or, Option.none_or, Bool.not_true, Bool.not_false, retOf_rt, retOf_nx, c_0, c_1, c_2, c_3, c_7, c_12, eq_self, decide_true, decide_false, id, Int.reduceEq, Int.reduceLT, Int.reduceLE, Int.reduceAdd, Int.reduceSub, Int.reduceToNat, b_is_set, e1, e2]
theorem need_set_ok (W : Wall) (P : PegSet W) {S : Sto} (h : Closed S) : f_need_set [W.d, P.d] S = .ok (.d .none) S := by
  rw [u_need_set]
  refine gc_d (G := []) ?_ rfl h
  rw [List.append_nil]
  simp only [to_ok, seqK_nx, seqK_rt, seq_app, set1_app, ret_app, skip_app, ifS_app, op2_app, op1_app, app_app, nilA_app, consA_app, con_app, slot_some, var_app, call1_app, callK_app, bind_to, pure_to, toB_b, tstB_app, tst_app, toT_b, toT_i, toT_n, andT_app, orT_app, notT_app, andV_app, orV_app, notV_app, ifV_app, chain_app, dropE_app, asg_app, setN_app, methL1_app, forS_app, lcS_app, walk_app, yes_app, optR_some, pur2_app, purA_app, iop_int, iop_tup, addF_int, mulF_int, int2_int, intO_int, eqD_int, lenO_tup, isiF_app, isiR_tt, isiR_ii, isiR_ib, itemsT_tup, ix0, ix1, List.getElem?_cons_zero, List.getElem?_cons_succ, List.set_cons_zero, List.set_cons_succ, List.length_cons, List.length_nil, Nat.reduceAdd, ↓reduceIte, Bool.false_eq_true, Option.some_or, Option.none_or, Bool.not_true, Bool.not_false, retOf_rt, retOf_nx, c_0, c_1, c_2, c_3, c_7, c_12, eq_self, decide_true, decide_false, id, Int.reduceEq, Int.reduceLT, Int.reduceLE, Int.reduceAdd, Int.reduceSub, Int.reduceToNat, b_need_set, is_set_ok W P h]
end K01
end
section
set_option maxHeartbeats 400000
namespace K01
open PySem PySem.Spec PyProof.Rows L2 RZ RT Fx
/-! ### the deck of drawn numbers -/
def intsL (cs : List Int) : List D := cs.map fun i => D.d (.int i)
def dkS (A B C : O) (cs : List Int) (m r : Int) (L : Sto) : Sto := A :: B :: C :: .lst (intsL cs) :: .dk [(.inr "cells", .ob 3), (.inr "mixed", .d (.int m)), (.inr "draws", .d (.int r))] :: L
section
variable {A B C : O} {cs : List Int} {m r : Int} {L G : Sto}
theorem dk_closed {cs' : List Int} {m' r' : Int} (h : Closed (dkS A B C cs m r L)) : Closed (dkS A B C cs' m' r' L) := by
  intro o ho
  have hl : (dkS A B C cs' m' r' L).length = (dkS A B C cs m r L).length := rfl
  rw [hl]
  simp only [dkS, List.mem_cons] at ho
  rcases ho with rfl | rfl | rfl | rfl | rfl | ho
  · exact h _ (by simp [dkS])
  · exact h _ (by simp [dkS])
  · exact h _ (by simp [dkS])
  · intro d hd
    obtain ⟨i, _, rfl⟩ := List.mem_map.mp hd
    trivial
  · intro p hp
    simp only [List.mem_cons, List.not_mem_nil, or_false] at hp
    rcases hp with rfl | rfl | rfl
    · show 3 < _; simp [dkS]
    · trivial
    · trivial
  · exact h _ (by simp [dkS, ho])
theorem key_ne {a b : Str} (h : (a == b) = false) : ¬ ((Sum.inr a : Key) = .inr b) := fun e => by cases e; simp at h
theorem dk_draws : dgetF (.ob 4) (.d (.str "draws")) (dkS A B C cs m r L ++ G) = .ok (.d (.int r)) (dkS A B C cs m r L ++ G) := by
  show (match valD [(.inr "cells", .ob 3), (.inr "mixed", .d (.int m)), (.inr "draws", .d (.int r))] (.inr "draws") with | some v => R.ok v (dkS A B C cs m r L ++ G) | none => .stuck) = _
  rw [show valD [(.inr "cells", .ob 3), (.inr "mixed", .d (.int m)), (.inr "draws", .d (.int r))] (.inr "draws") = some (.d (.int r)) from rfl]
theorem dk_mixed : dgetF (.ob 4) (.d (.str "mixed")) (dkS A B C cs m r L ++ G) = .ok (.d (.int m)) (dkS A B C cs m r L ++ G) := by
  show (match valD [(.inr "cells", .ob 3), (.inr "mixed", .d (.int m)), (.inr "draws", .d (.int r))] (.inr "mixed") with | some v => R.ok v (dkS A B C cs m r L ++ G) | none => .stuck) = _
  rw [show valD [(.inr "cells", .ob 3), (.inr "mixed", .d (.int m)), (.inr "draws", .d (.int r))] (.inr "mixed") = some (.d (.int m)) from rfl]
theorem dk_cells : dgetF (.ob 4) (.d (.str "cells")) (dkS A B C cs m r L ++ G) = .ok (.ob 3) (dkS A B C cs m r L ++ G) := by
  show (match valD [(.inr "cells", .ob 3), (.inr "mixed", .d (.int m)), (.inr "draws", .d (.int r))] (.inr "cells") with | some v => R.ok v (dkS A B C cs m r L ++ G) | none => .stuck) = _
  rw [show valD [(.inr "cells", .ob 3), (.inr "mixed", .d (.int m)), (.inr "draws", .d (.int r))] (.inr "cells") = some (.ob 3) from rfl]
theorem dk_put {r' : Int} : dputF (.ob 4) (.d (.str "draws")) (.d (.int r')) (dkS A B C cs m r L ++ G) = .ok () (dkS A B C cs m r' L ++ G) := by
  show (if ([(.inr "cells", .ob 3), (.inr "mixed", .d (.int m)), (.inr "draws", .d (.int r))] : List (Key × D)).length < sizeLine ∧ (([(.inr "cells", .ob 3), (.inr "mixed", .d (.int m)), (.inr "draws", .d (.int r))] : List (Key × D)).map Prod.fst).Nodup then R.ok () ((dkS A B C cs m r L ++ G).set 4 (.dk (putD [(.inr "cells", .ob 3), (.inr "mixed", .d (.int m)), (.inr "draws", .d (.int r))] (.inr "draws") (.d (.int r'))))) else .stuck) = _
  rw [if_pos ⟨by show 3 < sizeLine; decide +kernel, by simp only [List.map_cons, List.map_nil]; decide +kernel⟩, show putD [(.inr "cells", .ob 3), (.inr "mixed", .d (.int m)), (.inr "draws", .d (.int r))] (.inr "draws") (.d (.int r')) = [(.inr "cells", .ob 3), (.inr "mixed", .d (.int m)), (.inr "draws", .d (.int r'))] from rfl]
  rfl
theorem dk_isL : isLst (.ob 3) (dkS A B C cs m r L ++ G) = .ok (.ob 3) (dkS A B C cs m r L ++ G) := rfl
theorem dk_pop {c : Int} : popF (.ob 3) (dkS A B C (cs ++ [c]) m r L ++ G) = .ok (.d (.int c)) (dkS A B C cs m r L ++ G) := by
  have e : intsL (cs ++ [c]) = intsL cs ++ [.d (.int c)] := by simp [intsL]
  show (match (intsL (cs ++ [c]))[(intsL (cs ++ [c])).length - 1]? with | some y => R.ok y ((dkS A B C (cs ++ [c]) m r L ++ G).set 3 (.lst (intsL (cs ++ [c])).dropLast)) | none => .stuck) = _
  rw [e, show (intsL cs ++ [D.d (.int c)])[(intsL cs ++ [D.d (.int c)]).length - 1]? = some (.d (.int c)) by simp, List.dropLast_concat]
  rfl
theorem dk_app {c : Int} (h : cs.length ≤ 1000) : appendF (.ob 3) (.d (.int c)) (dkS A B C cs m r L ++ G) = .ok (.d .none) (dkS A B C (cs ++ [c]) m r L ++ G) := by
  have e : intsL (cs ++ [c]) = intsL cs ++ [.d (.int c)] := by simp [intsL]
  show (if (intsL cs).length < sizeLine then R.ok (D.d .none) ((dkS A B C cs m r L ++ G).set 3 (.lst (intsL cs ++ [.d (.int c)]))) else _) = _
  rw [if_pos (by have : (intsL cs).length = cs.length := by simp [intsL]
                 unfold sizeLine; omega), ← e]
  rfl
theorem shaped_ints' (cs : List Int) : SeqAt.shaped (.list (cs.map .int)) = true := by
  first
  | exact SeqAt.shaped_ints cs
  | exact ke_shaped_ints cs
  | exact PySem.W.shaped_ints cs
  | exact RZ.ke_shaped_ints cs
  | exact OpenK.shaped_ints cs
theorem pys_ints (cs : List Int) : pys (intsL cs) = some (cs.map .int) := by
  induction cs with
  | nil => rfl
  | cons a l ih => simp only [intsL] at ih ⊢; simp [pys, ih]
theorem dk_ne : eqD not (dkS A B C cs m r L ++ [.lst []]) (.ob 3) (.ob (dkS A B C cs m r L).length) = some (.d (.bool (!cs.isEmpty))) := by
  have e1 : whole (dkS A B C cs m r L ++ [.lst []]) (.ob 3) = some (.list (cs.map .int)) := by
    show (pys (intsL cs)).map PyData.list = _
    rw [pys_ints]; rfl
  have e2 : whole (dkS A B C cs m r L ++ [.lst []]) (.ob (dkS A B C cs m r L).length) = some (.list []) := by
    simp only [whole, get_at0]; rfl
  unfold eqD
  rw [e1, e2]
  have e3 : okEq (.list (cs.map .int)) (.list []) = true := by
    unfold okEq
    rw [shaped_ints']; rfl
  show (if okEq (.list (cs.map .int)) (.list []) = true then some (D.d (.bool (not (PyData.eqv (.list (cs.map .int)) (.list []))))) else none) = _
  rw [if_pos e3]
  cases cs <;> rfl
theorem mkLst_at {S : Sto} {ds : List D} (h : ds.length ≤ 1000) : mkLst ds (S ++ G) = .ok (.ob (S.length + G.length)) (S ++ (G ++ [.lst ds])) := by
  unfold mkLst
  rw [if_pos (by unfold sizeLine; omega), List.append_assoc, List.length_append]
theorem cmul_l {i j : Int} (h1 : -1000000000000 < i) (h2 : i < 1000000000000) : CMul i j := .inl ⟨by omega, by omega⟩
theorem cmul_r {i j : Int} (h1 : -1000000000000 < j) (h2 : j < 1000000000000) : CMul i j := .inr ⟨by omega, by omega⟩
theorem fmod_lo {i j : Int} (h : 0 < j) : 0 ≤ i.fmod j := Int.fmod_nonneg_of_pos i h
theorem fmod_hi {i j : Int} (h : 0 < j) : i.fmod j < j := Int.fmod_lt_of_pos i h
theorem dputS_app {fo fi fv : Sl → M D} {ρ : Sl} {S : Sto} : dputS fo fi fv ρ S = (fv ρ S).to fun v S => (fo ρ S).to fun o S => (fi ρ S).to fun i S => (dputF o i v S).to fun _ S => .ok (.nx ρ) S := nz rfl
theorem ne0 {j : Int} (h : 0 < j) : j ≠ 0 := by omega
theorem S_app (S : Sto) : S = S ++ [] := (List.append_nil S).symm
theorem draw_run {many : Int} (h1 : 0 < many) (h2 : many ≤ 1000) (hc : cs.length ≤ 63) :
    ∃ x cs' r' G, retOf (b__law_draw [some (.ob 4), some (.d (.int many)), none, none] (dkS A B C cs m r L)) = .ok (.d (.int (Int.fmod x many))) (dkS A B C cs' m r' L ++ G) ∧ cs'.length ≤ 63 := by
  rw [S_app (dkS A B C cs m r L)]
  have k1 : CMul 61757 (r + 1) := cmul_l (by omega) (by omega)
  have hm := ne0 h1
  have k2 : ∀ i : Int, CMul i 39373 := fun i => cmul_r (by omega) (by omega)
  have k3 : ∀ i : Int, CMul (i.fmod 2147483647) (i.fmod 2147483647) := fun i => cmul_r (by have := fmod_lo (i := i) (j := 2147483647) (by omega); omega) (by have := fmod_hi (i := i) (j := 2147483647) (by omega); omega)
  have k4 : ∀ i : Int, CMul 48889 i := fun i => cmul_l (by omega) (by omega)
  have k5 : ∀ i : Int, CMul i 40692 := fun i => cmul_r (by omega) (by omega)
  have k6 : ∀ i : Int, CDivN i 64 := fun i => ⟨by omega, by omega⟩
  rcases List.eq_nil_or_concat cs with rfl | ⟨cs', c, rfl⟩
  · apply Exists.intro
    refine ⟨[], r + 1, [.lst []], ?_, by simp⟩
    simp only [to_ok, seqK_nx, seqK_rt, seq_app, set1_app, ret_app, skip_app, ifS_app, op2_app, op1_app, app_app, nilA_app, consA_app, con_app, slot_some, var_app, call1_app, callK_app, bind_to, pure_to, toB_b, tstB_app, tst_app, toT_b, toT_i, toT_n, andT_app, orT_app, notT_app, andV_app, orV_app, notV_app, ifV_app, chain_app, dropE_app, asg_app, setN_app, methL1_app, forS_app, lcS_app, walk_app, yes_app, optR_some, pur2_app, purA_app, iop_int, iop_tup, addF_int, mulF_int, int2_int, intO_int, eqD_int, lenO_tup, isiF_app, isiR_tt, isiR_ii, isiR_ib, itemsT_tup, ix0, ix1, List.getElem?_cons_zero, List.getElem?_cons_succ, List.set_cons_zero, List.set_cons_succ, List.length_cons, List.length_nil, Nat.reduceAdd, ↓reduceIte, Bool.false_eq_true, Option.some_or, Option.none_or, Bool.not_true, Bool.not_false, retOf_rt, retOf_nx, c_0, c_1, c_2, c_3, c_7, c_12, eq_self, decide_true, decide_false, id, Int.reduceEq, Int.reduceLT, Int.reduceLE, Int.reduceAdd, Int.reduceSub, Int.reduceToNat, b__law_draw, k__law_draw_1, k__law_draw_2, k__law_draw_3, k__law_draw_4, k__law_draw_5, dputS_app, dk_draws, dk_put, dk_mixed, k1, k2, k3, k4, k5, k6, hm, dk_cells, mkLst_at, List.nil_append, List.length_nil, Nat.add_zero, dk_ne, List.isEmpty_nil, Nat.zero_le, ne_eq, not_false_eq_true]
    rfl
  · have hcl : cs'.length ≤ 62 := by simpa using hc
    have he : (cs' ++ [c]).isEmpty = false := by cases cs' <;> rfl
    have kp : CPow 10 18 := ⟨by omega, by omega, by omega⟩
    rw [List.concat_eq_append] at *
    by_cases hb : (10 : Int) ^ 18 ≤ c
    · have k7 : CDivN c (if many > 2 then many else 2) := by split <;> exact ⟨by omega, by omega⟩
      apply Exists.intro
      refine ⟨cs' ++ [c.fdiv (if many > 2 then many else 2)], r + 1, [.lst []], ?_, by simp; omega⟩
      simp only [to_ok, seqK_nx, seqK_rt, seq_app, set1_app, ret_app, skip_app, ifS_app, op2_app, op1_app, app_app, nilA_app, consA_app, con_app, slot_some, var_app, call1_app, callK_app, bind_to, pure_to, toB_b, tstB_app, tst_app, toT_b, toT_i, toT_n, andT_app, orT_app, notT_app, andV_app, orV_app, notV_app, ifV_app, chain_app, dropE_app, asg_app, setN_app, methL1_app, forS_app, lcS_app, walk_app, yes_app, optR_some, pur2_app, purA_app, iop_int, iop_tup, addF_int, mulF_int, int2_int, intO_int, eqD_int, lenO_tup, isiF_app, isiR_tt, isiR_ii, isiR_ib, itemsT_tup, ix0, ix1, List.getElem?_cons_zero, List.getElem?_cons_succ, List.set_cons_zero, List.set_cons_succ, List.length_cons, List.length_nil, Nat.reduceAdd, ↓reduceIte, Bool.false_eq_true, Option.some_or, Option.none_or, Bool.not_true, Bool.not_false, retOf_rt, retOf_nx, c_0, c_1, c_2, c_3, c_7, c_12, eq_self, decide_true, decide_false, id, Int.reduceEq, Int.reduceLT, Int.reduceLE, Int.reduceAdd, Int.reduceSub, Int.reduceToNat, b__law_draw, k__law_draw_1, k__law_draw_2, k__law_draw_3, k__law_draw_4, k__law_draw_5, dputS_app, dk_draws, dk_put, dk_mixed, k1, k2, k3, k4, k5, k6, k7, hm, dk_cells, mkLst_at, List.nil_append, List.length_nil, Nat.add_zero, dk_ne, he, Nat.zero_le, ne_eq, not_false_eq_true, dk_pop, dk_isL, dk_app (Nat.le_trans hcl (by omega)), kp, hb]
      rfl
    · apply Exists.intro
      refine ⟨cs', r + 1, [.lst []], ?_, by omega⟩
      simp only [to_ok, seqK_nx, seqK_rt, seq_app, set1_app, ret_app, skip_app, ifS_app, op2_app, op1_app, app_app, nilA_app, consA_app, con_app, slot_some, var_app, call1_app, callK_app, bind_to, pure_to, toB_b, tstB_app, tst_app, toT_b, toT_i, toT_n, andT_app, orT_app, notT_app, andV_app, orV_app, notV_app, ifV_app, chain_app, dropE_app, asg_app, setN_app, methL1_app, forS_app, lcS_app, walk_app, yes_app, optR_some, pur2_app, purA_app, iop_int, iop_tup, addF_int, mulF_int, int2_int, intO_int, eqD_int, lenO_tup, isiF_app, isiR_tt, isiR_ii, isiR_ib, itemsT_tup, ix0, ix1, List.getElem?_cons_zero, List.getElem?_cons_succ, List.set_cons_zero, List.set_cons_succ, List.length_cons, List.length_nil, Nat.reduceAdd, ↓reduceIte, Bool.false_eq_true, Option.some_or, Option.none_or, Bool.not_true, Bool.not_false, retOf_rt, retOf_nx, c_0, c_1, c_2, c_3, c_7, c_12, eq_self, decide_true, decide_false, id, Int.reduceEq, Int.reduceLT, Int.reduceLE, Int.reduceAdd, Int.reduceSub, Int.reduceToNat, b__law_draw, k__law_draw_1, k__law_draw_2, k__law_draw_3, k__law_draw_4, k__law_draw_5, dputS_app, dk_draws, dk_put, dk_mixed, k1, k2, k3, k4, k5, k6, hm, dk_cells, mkLst_at, List.nil_append, List.length_nil, Nat.add_zero, dk_ne, he, Nat.zero_le, ne_eq, not_false_eq_true, dk_pop, dk_isL, kp, hb]
      rfl
/-- a store with the deck in it -/
def DkS (A B C : O) (L S : Sto) : Prop := ∃ cs m r, S = dkS A B C cs m r L ∧ cs.length ≤ 63 ∧ Closed S
theorem DkS.closed {S : Sto} (h : DkS A B C L S) : Closed S := by obtain ⟨_, _, _, _, _, h⟩ := h; exact h
theorem DkS.len {S : Sto} (h : DkS A B C L S) : S.length = L.length + 5 := by obtain ⟨_, _, _, rfl, _, h⟩ := h; rfl
theorem DkS.get {S : Sto} (h : DkS A B C L S) (j : Nat) : S[j + 5]? = L[j]? := by obtain ⟨_, _, _, rfl, _, h⟩ := h; rfl
theorem idsInO_le {n k : Nat} (h : n ≤ k) {o : O} (ho : idsInO n o) : idsInO k o := by
  have : ∀ d, idsIn n d → idsIn k d := fun d hd => by
    cases d with
    | d p => trivial
    | ob i => exact Nat.lt_of_lt_of_le hd h
  cases o with
  | lst l => exact fun d hd => this d (ho d hd)
  | dk l => exact fun p hp => this _ (ho p hp)
theorem DkS.push {S : Sto} {o : O} (h : DkS A B C L S) (ho : idsInO S.length o) : DkS A B C (L ++ [o]) (S ++ [o]) := by
  obtain ⟨cs, m, r, rfl, hc, hcl⟩ := h
  refine ⟨cs, m, r, rfl, hc, fun x hx => ?_⟩
  rw [List.length_append]
  rcases List.mem_append.mp hx with hx | hx
  · exact idsInO_le (by omega) (hcl x hx)
  · rw [List.mem_singleton.mp hx]
    exact idsInO_le (by omega) ho
theorem DkS.put {S : Sto} {o : O} {j : Nat} (h : DkS A B C L S) (ho : idsInO S.length o) : DkS A B C (L.set j o) (S.set (j + 5) o) := by
  obtain ⟨cs, m, r, rfl, hc, hcl⟩ := h
  refine ⟨cs, m, r, rfl, hc, fun x hx => ?_⟩
  rw [List.length_set]
  rcases List.mem_or_eq_of_mem_set hx with hx | rfl
  · exact hcl x hx
  · exact ho
theorem draw_ok {S : Sto} {many : Int} (h : DkS A B C L S) (h1 : 0 < many) (h2 : many ≤ 1000) : ∃ v S', f__law_draw [.ob 4, .d (.int many)] S = .ok (.d (.int v)) S' ∧ DkS A B C L S' ∧ 0 ≤ v ∧ v < many := by
  obtain ⟨cs, m, r, rfl, hc, hcl⟩ := h
  obtain ⟨x, cs', r', G, e, hc'⟩ := draw_run (A := A) (B := B) (C := C) (m := m) (r := r) (L := L) h1 h2 hc
  refine ⟨x.fmod many, dkS A B C cs' m r' L, ?_, ⟨cs', m, r', rfl, hc', dk_closed hcl⟩, fmod_lo h1, fmod_hi h1⟩
  rw [u__law_draw]
  exact gc_d e rfl (dk_closed hcl)
theorem gc_dk {S S2 : Sto} {p : PyData} {rr : R D} (h : DkS A B C L S) (h2 : DkS A B C (L ++ G) S2) (e : rr = .ok (.d p) S2) : ∃ S', gcR S.length rr = .ok (.d p) S' ∧ DkS A B C L S' := by
  obtain ⟨cs, m, r, rfl, hc, hcl⟩ := h
  obtain ⟨cs', m', r', rfl, hc', hcl'⟩ := h2
  refine ⟨dkS A B C cs' m' r' L, ?_, cs', m', r', rfl, hc', dk_closed hcl⟩
  exact gc_d (G := G) (S := dkS A B C cs' m' r' L) e rfl (dk_closed hcl)
theorem pick_ok {S : Sto} {j : Nat} {l : List D} (h : DkS A B C L S) (hj : L[j]? = some (.lst l)) (h0 : l ≠ []) (hl : l.length ≤ 1000) (hd : ∀ d ∈ l, ∃ p, d = .d p) : ∃ d S', d ∈ l ∧ f__law_pick [.ob 4, .ob (j + 5)] S = .ok d S' ∧ DkS A B C L S' := by
  have hlen : 0 < l.length := List.length_pos_iff.mpr h0
  obtain ⟨v, S1, e1, h1, v0, v1⟩ := draw_ok (many := ((l.length : Nat) : Int)) h (by omega) (by omega)
  have hv : v.toNat < l.length := by omega
  obtain ⟨p, hp⟩ := hd _ (List.getElem_mem hv)
  have ea : atI l v = some (l[v.toNat]) := by
    rw [atI_nat v0 (by omega)]
    simp [hv]
  have e2 : retOf (b__law_pick [some (.ob 4), some (.ob (j + 5))] S) = .ok (l[v.toNat]) S1 := by
    have s0 : lenO S [.ob (j + 5)] = some (.d (.int ((l.length : Nat) : Int))) := by simp [lenO, seqOf, h.get, hj]
    have s1 : ixF (.ob (j + 5)) (.d (.int v)) S1 = .ok (l[v.toNat]) S1 := by
      simp only [ixF, seqOf, h1.get, hj, ea]
    simp only [to_ok, seqK_nx, seqK_rt, seq_app, set1_app, ret_app, skip_app, ifS_app, op2_app, op1_app, app_app, nilA_app, consA_app, con_app, slot_some, var_app, call1_app, callK_app, bind_to, pure_to, toB_b, tstB_app, tst_app, toT_b, toT_i, toT_n, andT_app, orT_app, notT_app, andV_app, orV_app, notV_app, ifV_app, chain_app, dropE_app, asg_app, setN_app, methL1_app, forS_app, lcS_app, walk_app, yes_app, optR_some, pur2_app, purA_app, iop_int, iop_tup, addF_int, mulF_int, int2_int, intO_int, eqD_int, lenO_tup, isiF_app, isiR_tt, isiR_ii, isiR_ib, itemsT_tup, ix0, ix1, List.getElem?_cons_zero, List.getElem?_cons_succ, List.set_cons_zero, List.set_cons_succ, List.length_cons, List.length_nil, Nat.reduceAdd, ↓reduceIte, Bool.false_eq_true, Option.some_or, Option.none_or, Bool.not_true, Bool.not_false, retOf_rt, retOf_nx, c_0, c_1, c_2, c_3, c_7, c_12, eq_self, decide_true, decide_false, id, Int.reduceEq, Int.reduceLT, Int.reduceLE, Int.reduceAdd, Int.reduceSub, Int.reduceToNat, b__law_pick, s0, e1, s1]
  rw [hp] at e2
  obtain ⟨S', e3, h3⟩ := gc_dk (G := []) h (by rw [List.append_nil]; exact h1) e2
  refine ⟨l[v.toNat], S', List.getElem_mem hv, ?_, h3⟩
  rw [u__law_pick, hp]
  exact e3
end
end K01
end
section
set_option maxHeartbeats 400000
namespace K01
open PySem PySem.Spec PyProof.Rows L2 RZ RT Fx
section
variable {A B C : O} {L G : Sto}
theorem mkLst_ok {S : Sto} {ds : List D} (h : ds.length ≤ 1000) : mkLst ds S = .ok (.ob S.length) (S ++ [.lst ds]) := by
  unfold mkLst
  rw [if_pos (by unfold sizeLine; omega)]
theorem mkTup0 {S : Sto} : mkTup [] S = .ok (.d (.tuple [])) S := by simp [mkTup, pys, sizeLine]
theorem mkTup1 {S : Sto} {p : PyData} : mkTup [.d p] S = .ok (.d (.tuple [p])) S := by simp [mkTup, pys, sizeLine]
theorem mkTup2 {S : Sto} {p q : PyData} : mkTup [.d p, .d q] S = .ok (.d (.tuple [p, q])) S := by simp [mkTup, pys, sizeLine]
theorem mkTup3 {S : Sto} {p q r : PyData} : mkTup [.d p, .d q, .d r] S = .ok (.d (.tuple [p, q, r])) S := by simp [mkTup, pys, sizeLine]
theorem slips_all {v : Int} (h0 : 0 ≤ v) (h1 : v < 29) : ∀ d ∈ intsL [0, 0, 0, 2, 2, 3, 4, 5, 6, 12, 30, 2 + v], ∃ s : Int, d = .d (.int s) ∧ SlipOk s := by
  intro d hd
  simp only [intsL, List.map_cons, List.map_nil, List.mem_cons, List.not_mem_nil, or_false] at hd
  unfold SlipOk
  rcases hd with h | h | h | h | h | h | h | h | h | h | h | h <;> exact ⟨_, h, by omega⟩
theorem el_slip {S : Sto} {ρ : Sl} (h : DkS A B C L S) (hρ : ρ[0]? = some (some (.ob 4))) : ∃ s S' o, e__law_board_1 ρ S = .ok (.d (.int s)) S' ∧ SlipOk s ∧ DkS A B C (L ++ [o]) S' := by
  obtain ⟨v, S1, e1, h1, v0, v1⟩ := draw_ok (many := 29) h (by omega) (by omega)
  have hp := h1.push (o := .lst (intsL [0, 0, 0, 2, 2, 3, 4, 5, 6, 12, 30, 2 + v])) (fun d hd => by
    obtain ⟨s, rfl, _⟩ := slips_all v0 v1 d hd
    trivial)
  obtain ⟨d, S2, hd, e2, h2⟩ := pick_ok (j := L.length) (l := intsL [0, 0, 0, 2, 2, 3, 4, 5, 6, 12, 30, 2 + v]) hp (by simp) (by simp [intsL]) (by simp [intsL]) (fun d hd => by
    obtain ⟨s, rfl, _⟩ := slips_all v0 v1 d hd
    exact ⟨_, rfl⟩)
  obtain ⟨s, rfl, hs⟩ := slips_all v0 v1 d hd
  rw [← h1.len] at e2
  refine ⟨s, S2, _, ?_, hs, h2⟩
  have e3 := mkLst_ok (S := S1) (ds := intsL [0, 0, 0, 2, 2, 3, 4, 5, 6, 12, 30, 2 + v]) (by simp [intsL])
  simp only [intsL, List.map_cons, List.map_nil] at e2 e3
  simp only [to_ok, seqK_nx, seqK_rt, seq_app, set1_app, ret_app, skip_app, ifS_app, op2_app, op1_app, app_app, nilA_app, consA_app, con_app, slot_some, var_app, call1_app, callK_app, bind_to, pure_to, toB_b, tstB_app, tst_app, toT_b, toT_i, toT_n, andT_app, orT_app, notT_app, andV_app, orV_app, notV_app, ifV_app, chain_app, dropE_app, asg_app, setN_app, methL1_app, forS_app, lcS_app, walk_app, yes_app, optR_some, pur2_app, purA_app, iop_int, iop_tup, addF_int, mulF_int, int2_int, intO_int, eqD_int, lenO_tup, isiF_app, isiR_tt, isiR_ii, isiR_ib, itemsT_tup, ix0, ix1, List.getElem?_cons_zero, List.getElem?_cons_succ, List.set_cons_zero, List.set_cons_succ, List.length_cons, List.length_nil, Nat.reduceAdd, ↓reduceIte, Bool.false_eq_true, Option.some_or, Option.none_or, Bool.not_true, Bool.not_false, retOf_rt, retOf_nx, c_0, c_1, c_2, c_3, c_7, c_12, eq_self, decide_true, decide_false, id, Int.reduceEq, Int.reduceLT, Int.reduceLE, Int.reduceAdd, Int.reduceSub, Int.reduceToNat, e__law_board_1, hρ, e1, e3, e2]
theorem intsL_app (xs ys : List Int) : intsL (xs ++ ys) = intsL xs ++ intsL ys := by simp [intsL]
theorem intsL_closed {n : Nat} (xs : List Int) : idsInO n (.lst (intsL xs)) := fun d hd => by
  obtain ⟨i, _, rfl⟩ := List.mem_map.mp hd
  trivial
theorem board_slips {S : Sto} {ρ : Sl} {n : Nat} (h : DkS A B C L S) (hρ : ρ[0]? = some (some (.ob 4))) (hn : n ≤ 1000) :
    ∃ sl S2 G, lcL freeG [6] (setN 6) yes e__law_board_1 (rangeD 0 n) [] ρ S = .ok (.ob S2.length) (S2 ++ [.lst (intsL sl)]) ∧ DkS A B C (L ++ G) S2 ∧ sl.length = n ∧ ∀ s ∈ sl, SlipOk s := by
  obtain ⟨acc, S2, e, ⟨sl, rfl, hl, hs⟩, G, hG⟩ := lcL_ix (gd := freeG) (vs := [6]) (t := setN 6) (tt := yes) (el := e__law_board_1) (ρ := ρ) (items := rangeD 0 n) (S := S)
    (fun k acc S' => (∃ sl : List Int, acc = intsL sl ∧ sl.length = k ∧ ∀ s ∈ sl, SlipOk s) ∧ ∃ G, DkS A B C (L ++ G) S') (fun _ _ _ _ _ => trivial) (by
      rintro k x acc S' hx ⟨⟨sl, rfl, hl, hs⟩, G, hG⟩
      obtain ⟨hk, rfl⟩ := rangeD_some hx
      refine ⟨by simp [intsL, hl, sizeLine]; omega, _, _, true, _, rfl, rfl, ?_⟩
      obtain ⟨s, S3, o, e3, h3, hd⟩ := el_slip (ρ := (wipeD ρ [6]).set 6 (some (D.d (PyData.int (0 + ↑k))))) hG (by
        cases ρ with
        | nil => cases hρ
        | cons a r => simpa [wipeD] using hρ)
      rw [if_pos rfl]
      refine ⟨_, S3, e3, ⟨sl ++ [s], by rw [intsL_app]; rfl, by simp [hl], fun y hy => ?_⟩, G ++ [o], by rw [← List.append_assoc]; exact hd⟩
      rcases List.mem_append.mp hy with hy | hy
      · exact hs y hy
      · rw [List.mem_singleton.mp hy]; exact h3) ⟨⟨[], rfl, rfl, fun s hs => by cases hs⟩, [], by rw [List.append_nil]; exact h⟩
  rw [rangeD_length] at hl
  exact ⟨sl, S2, G, e, hG, hl, hs⟩
/-- rails as locals -/
def railsL (ps : List (Int × Int)) : List D := ps.map fun p => D.d (railD p)
theorem railsL_closed {n : Nat} (xs : List (Int × Int)) : idsInO n (.lst (railsL xs)) := fun d hd => by
  obtain ⟨i, _, rfl⟩ := List.mem_map.mp hd
  trivial
theorem rails_inner {S : Sto} {o1 o3 o5 o6 o7 o9 : Option D} {n i dense : Int} (h : DkS A B C L S) (h0 : 1 ≤ i) (hn : n ≤ 100) (hi : i ≤ n) :
    ∃ ps S2, lcL freeG [9] (setN 9) t__law_board_1 e__law_board_2 (rangeD (i + 1) (n + 1 - (i + 1)).toNat) [] [some (.ob 4), o1, some (.d (.int n)), o3, some (.d (.int dense)), o5, o6, o7, some (.d (.int i)), o9] S = .ok (.ob S2.length) (S2 ++ [.lst (railsL ps)]) ∧ DkS A B C L S2 ∧ ps.length ≤ 100 ∧ ps.Pairwise railLt ∧ ∀ p ∈ ps, p.1 = i ∧ i < p.2 ∧ p.2 ≤ n := by
  obtain ⟨acc, S2, e, ⟨ps, rfl, hl, hp, hr⟩, hS⟩ := lcL_ix (gd := freeG) (vs := [9]) (t := setN 9) (tt := t__law_board_1) (el := e__law_board_2) (ρ := [some (.ob 4), o1, some (.d (.int n)), o3, some (.d (.int dense)), o5, o6, o7, some (.d (.int i)), o9]) (items := rangeD (i + 1) (n + 1 - (i + 1)).toNat) (S := S)
    (fun k acc S' => (∃ ps : List (Int × Int), acc = railsL ps ∧ ps.length ≤ k ∧ ps.Pairwise railLt ∧ ∀ p ∈ ps, p.1 = i ∧ i < p.2 ∧ p.2 < i + 1 + k) ∧ DkS A B C L S') (fun _ _ _ _ _ => trivial) (by
      rintro k x acc S' hx ⟨⟨ps, rfl, hl, hp, hr⟩, hS⟩
      obtain ⟨hk, rfl⟩ := rangeD_some hx
      obtain ⟨v, S1, e1, h1, v0, v1⟩ := draw_ok (many := 4) hS (by omega) (by omega)
      refine ⟨by simp [railsL, sizeLine]; omega, [some (.ob 4), o1, some (.d (.int n)), o3, some (.d (.int dense)), o5, o6, o7, some (.d (.int i)), some (.d (.int (i + 1 + k)))], S', decide (v < dense), S1, rfl, by simp only [to_ok, seqK_nx, seqK_rt, seq_app, set1_app, ret_app, skip_app, ifS_app, op2_app, op1_app, app_app, nilA_app, consA_app, con_app, slot_some, var_app, call1_app, callK_app, bind_to, pure_to, toB_b, tstB_app, tst_app, toT_b, toT_i, toT_n, andT_app, orT_app, notT_app, andV_app, orV_app, notV_app, ifV_app, chain_app, dropE_app, asg_app, setN_app, methL1_app, forS_app, lcS_app, walk_app, yes_app, optR_some, pur2_app, purA_app, iop_int, iop_tup, addF_int, mulF_int, int2_int, intO_int, eqD_int, lenO_tup, isiF_app, isiR_tt, isiR_ii, isiR_ib, itemsT_tup, ix0, ix1, List.getElem?_cons_zero, List.getElem?_cons_succ, List.set_cons_zero, List.set_cons_succ, List.length_cons, List.length_nil, Nat.reduceAdd, ↓reduceIte, Bool.false_eq_true, Option.some_or, Option.none_or, Bool.not_true, Bool.not_false, retOf_rt, retOf_nx, c_0, c_1, c_2, c_3, c_7, c_12, eq_self, decide_true, decide_false, id, Int.reduceEq, Int.reduceLT, Int.reduceLE, Int.reduceAdd, Int.reduceSub, Int.reduceToNat, t__law_board_1, e1], ?_⟩
      by_cases hv : v < dense
      · rw [if_pos (by simpa using hv)]
        refine ⟨.d (railD (i, i + 1 + k)), S1, by simp only [to_ok, seqK_nx, seqK_rt, seq_app, set1_app, ret_app, skip_app, ifS_app, op2_app, op1_app, app_app, nilA_app, consA_app, con_app, slot_some, var_app, call1_app, callK_app, bind_to, pure_to, toB_b, tstB_app, tst_app, toT_b, toT_i, toT_n, andT_app, orT_app, notT_app, andV_app, orV_app, notV_app, ifV_app, chain_app, dropE_app, asg_app, setN_app, methL1_app, forS_app, lcS_app, walk_app, yes_app, optR_some, pur2_app, purA_app, iop_int, iop_tup, addF_int, mulF_int, int2_int, intO_int, eqD_int, lenO_tup, isiF_app, isiR_tt, isiR_ii, isiR_ib, itemsT_tup, ix0, ix1, List.getElem?_cons_zero, List.getElem?_cons_succ, List.set_cons_zero, List.set_cons_succ, List.length_cons, List.length_nil, Nat.reduceAdd, ↓reduceIte, Bool.false_eq_true, Option.some_or, Option.none_or, Bool.not_true, Bool.not_false, retOf_rt, retOf_nx, c_0, c_1, c_2, c_3, c_7, c_12, eq_self, decide_true, decide_false, id, Int.reduceEq, Int.reduceLT, Int.reduceLE, Int.reduceAdd, Int.reduceSub, Int.reduceToNat, e__law_board_2, mkTup2, railD, List.map_cons, List.map_nil], ⟨ps ++ [(i, i + 1 + k)], by simp [railsL], by simp; omega, ?_, ?_⟩, h1⟩
        · rw [List.pairwise_append]
          refine ⟨hp, by simp, fun a ha b hb => ?_⟩
          rw [List.mem_singleton.mp hb]
          obtain ⟨h1, h2, h3⟩ := hr a ha
          exact .inr ⟨h1, h3⟩
        · intro p hp'
          rcases List.mem_append.mp hp' with hp' | hp'
          · obtain ⟨h1, h2, h3⟩ := hr p hp'
            exact ⟨h1, h2, by omega⟩
          · rw [List.mem_singleton.mp hp']
            exact ⟨rfl, by show i < i + 1 + (k : Int); omega, by show i + 1 + (k : Int) < _; omega⟩
      · rw [if_neg (by simpa using hv)]
        exact ⟨⟨ps, rfl, by omega, hp, fun p hp' => by
          obtain ⟨h1, h2, h3⟩ := hr p hp'
          exact ⟨h1, h2, by omega⟩⟩, h1⟩) ⟨⟨[], rfl, by simp, by simp, fun s hs => by cases hs⟩, h⟩
  rw [rangeD_length] at hl hr
  refine ⟨ps, S2, e, hS, by omega, hp, fun p hp' => ?_⟩
  obtain ⟨h1, h2, h3⟩ := hr p hp'
  exact ⟨h1, h2, by omega⟩
theorem DkS.isLst {S : Sto} {j : Nat} {l : List D} (h : DkS A B C L S) (hj : L[j]? = some (.lst l)) : isLst (.ob (j + 5)) S = .ok (.ob (j + 5)) S := by
  unfold Fx.isLst
  simp only [h.get, hj]
theorem extendF_ok {S : Sto} {n m : Nat} {l k : List D} (h1 : S[n]? = some (.lst l)) (h2 : S[m]? = some (.lst k)) (h3 : l.length + k.length ≤ 10000) : extendF (.ob n) (.ob m) S = .ok (.d .none) (S.set n (.lst (l ++ k))) := by
  unfold extendF
  simp only [h1, h2]
  rw [if_pos (by unfold sizeLine; omega)]
/-- walls' rails up to a peg -/
def RailsTo (n : Int) (k : Int) (ps : List (Int × Int)) : Prop := ps.Pairwise railLt ∧ ∀ p ∈ ps, 1 ≤ p.1 ∧ p.1 ≤ k ∧ p.1 < p.2 ∧ p.2 ≤ n
theorem board_rails {S : Sto} {o1 o3 o5 o6 : Option D} {n : Nat} {dense : Int} {jr : Nat} {P0 : Sto} (h : DkS A B C L S) (hj : L[jr]? = some (.lst [])) (hn : n ≤ 10) (hp : P0.length ≤ jr) (hpre : ∃ G, L = P0 ++ G) :
    ∃ ps S2 L2 o8, forL freeG (setN 8) l__law_board_1 (rangeD 1 n) [some (.ob 4), o1, some (.d (.int n)), o3, some (.d (.int dense)), o5, o6, some (.ob (jr + 5)), none, none] S = .ok (.nx [some (.ob 4), o1, some (.d (.int n)), o3, some (.d (.int dense)), o5, o6, some (.ob (jr + 5)), o8, none]) S2 ∧ DkS A B C L2 S2 ∧ L2[jr]? = some (.lst (railsL ps)) ∧ RailsTo n n ps ∧ ps.length ≤ 1000 ∧ (∃ G, L2 = P0 ++ G) ∧ ∀ j, j < L.length → j ≠ jr → L2[j]? = L[j]? := by
  obtain ⟨ρ2, S2, e, ⟨o8, rfl⟩, ps, L2, hS, hjr, hR, hl, hpre2, hsame⟩ := forL_ix (gd := freeG) (t := setN 8) (b := l__law_board_1) (items := rangeD 1 n) (ρ := [some (.ob 4), o1, some (.d (.int n)), o3, some (.d (.int dense)), o5, o6, some (.ob (jr + 5)), none, none]) (S := S)
    (fun k ρ S' => (∃ o8, ρ = [some (.ob 4), o1, some (.d (.int n)), o3, some (.d (.int dense)), o5, o6, some (.ob (jr + 5)), o8, none]) ∧ ∃ ps L2, DkS A B C L2 S' ∧ L2[jr]? = some (.lst (railsL ps)) ∧ RailsTo n k ps ∧ ps.length ≤ 100 * k ∧ (∃ G, L2 = P0 ++ G) ∧ (∀ j, j < L.length → j ≠ jr → L2[j]? = L[j]?)) (fun _ _ _ _ _ => trivial) (by
      rintro k x ρ S' hx ⟨⟨o8, rfl⟩, ps, L2, hS, hjr, ⟨hR1, hR2⟩, hl, ⟨G2, rfl⟩, hsame⟩
      obtain ⟨hk, rfl⟩ := rangeD_some hx
      obtain ⟨qs, S3, e3, h3, hql, hq1, hq2⟩ := rails_inner (o1 := o1) (o3 := o3) (o5 := o5) (o6 := o6) (o7 := some (.ob (jr + 5))) (o9 := none) (n := n) (i := 1 + k) (dense := dense) hS (by omega) (by omega) (by omega)
      have hps := h3.push (o := .lst (railsL qs)) (railsL_closed qs)
      have hlt : jr < (P0 ++ G2).length := (List.getElem?_eq_some_iff.mp hjr).1
      have g1 : (S3 ++ [O.lst (railsL qs)])[jr + 5]? = some (.lst (railsL ps)) := by rw [hps.get, List.getElem?_append_left hlt]; exact hjr
      have g2 : (S3 ++ [O.lst (railsL qs)])[S3.length]? = some (.lst (railsL qs)) := by rw [get_at0]; rfl
      have hx := extendF_ok g1 g2 (by simp [railsL]; omega)
      have hp2 := hps.put (j := jr) (o := .lst (railsL ps ++ railsL qs)) (by
        rw [show railsL ps ++ railsL qs = railsL (ps ++ qs) by simp [railsL]]
        exact railsL_closed _)
      have er : itemsR2 [.d (.int (1 + (k : Int) + 1)), .d (.int ((n : Int) + 1))] S' = .ok (rangeD (1 + (k : Int) + 1) ((n : Int) + 1 - (1 + (k : Int) + 1)).toNat, freeG) S' := itemsR2_int (okB_of (by omega) (by omega)) (okB_of (by omega) (by omega))
      refine ⟨[some (.ob 4), o1, some (.d (.int n)), o3, some (.d (.int dense)), o5, o6, some (.ob (jr + 5)), some (.d (.int (1 + k))), none], S', [some (.ob 4), o1, some (.d (.int n)), o3, some (.d (.int dense)), o5, o6, some (.ob (jr + 5)), some (.d (.int (1 + k))), none], _, rfl, ?_, ⟨_, rfl⟩, ps ++ qs, _, hp2, ?_, ⟨?_, ?_⟩, ?_, ?_, ?_⟩
      · simp only [to_ok, seqK_nx, seqK_rt, seq_app, set1_app, ret_app, skip_app, ifS_app, op2_app, op1_app, app_app, nilA_app, consA_app, con_app, slot_some, var_app, call1_app, callK_app, bind_to, pure_to, toB_b, tstB_app, tst_app, toT_b, toT_i, toT_n, andT_app, orT_app, notT_app, andV_app, orV_app, notV_app, ifV_app, chain_app, dropE_app, asg_app, setN_app, methL1_app, forS_app, lcS_app, walk_app, yes_app, optR_some, pur2_app, purA_app, iop_int, iop_tup, addF_int, mulF_int, int2_int, intO_int, eqD_int, lenO_tup, isiF_app, isiR_tt, isiR_ii, isiR_ib, itemsT_tup, ix0, ix1, List.getElem?_cons_zero, List.getElem?_cons_succ, List.set_cons_zero, List.set_cons_succ, List.length_cons, List.length_nil, Nat.reduceAdd, ↓reduceIte, Bool.false_eq_true, Option.some_or, Option.none_or, Bool.not_true, Bool.not_false, retOf_rt, retOf_nx, c_0, c_1, c_2, c_3, c_7, c_12, eq_self, decide_true, decide_false, id, Int.reduceEq, Int.reduceLT, Int.reduceLE, Int.reduceAdd, Int.reduceSub, Int.reduceToNat, l__law_board_1, hS.isLst hjr, er, e3, hx]
      · rw [List.getElem?_set_self (by simp at hlt ⊢; omega)]
        simp [railsL]
      · rw [List.pairwise_append]
        refine ⟨hR1, hq1, fun a ha b hb => .inl ?_⟩
        obtain ⟨_, a2, _⟩ := hR2 a ha
        obtain ⟨b1, _⟩ := hq2 b hb
        omega
      · intro p hp'
        rcases List.mem_append.mp hp' with hp' | hp'
        · obtain ⟨a1, a2, a3, a4⟩ := hR2 p hp'
          exact ⟨a1, by omega, a3, a4⟩
        · obtain ⟨b1, b2, b3⟩ := hq2 p hp'
          exact ⟨by omega, by omega, by omega, b3⟩
      · simp; omega
      · refine ⟨(G2 ++ [O.lst (railsL qs)]).set (jr - P0.length) (.lst (railsL ps ++ railsL qs)), ?_⟩
        rw [List.append_assoc, List.set_append_right _ _ hp]
      · intro j hj hne
        have hjl : j < (P0 ++ G2).length := by
          rcases Nat.lt_or_ge j (P0 ++ G2).length with q | q
          · exact q
          · have := hsame j hj hne
            rw [List.getElem?_eq_none q, List.getElem?_eq_getElem hj] at this
            cases this
        rw [List.getElem?_set_ne (fun e => hne e.symm), List.getElem?_append_left hjl]
        exact hsame j hj hne) ⟨⟨none, rfl⟩, [], L, h, hj, ⟨.nil, fun p hp => by cases hp⟩, by simp, hpre, fun _ _ _ => rfl⟩
  rw [rangeD_length] at hR hl
  exact ⟨ps, S2, L2, o8, e, hS, hjr, hR, by omega, hpre2, hsame⟩
end
end K01
end
section
set_option maxHeartbeats 400000
namespace K01
open PySem PySem.Spec PyProof.Rows L2 RZ RT Fx
def parK (i j : Nat) (ρ : Sl) : List D → Sto → R Oc := fun ds => match ds with
  | [a, b] => M.pure (.nx ((ρ.set i (some a)).set j (some b)))
  | _ => stuck
theorem par2_app {i j : Nat} {r : Sl → M (List D)} {ρ : Sl} {S : Sto} : par2 i j r ρ S = (r ρ S).to (parK i j ρ) := nz rfl
theorem parK_2 {i j : Nat} {ρ : Sl} {a b : D} {S : Sto} : parK i j ρ [a, b] S = .ok (.nx ((ρ.set i (some a)).set j (some b))) S := nz rfl
theorem setIx_app {fo fi : Sl → M D} {v : D} {ρ : Sl} {S : Sto} : setIx fo fi v ρ S = (fo ρ S).to fun o S => (fi ρ S).to fun i S => (putIx o i v S).to fun _ S => .ok ρ S := nz rfl
theorem intsOf_ints (l : List Int) : intsOf (intsL l) = some l := by
  induction l with
  | nil => rfl
  | cons a l ih => simp only [intsL] at ih ⊢; simp [intsOf, ih]
theorem sum_at {S : Sto} {i : Nat} {l : List Int} (h : S[i]? = some (.lst (intsL l))) : sumO S [.ob i] = some (.d (.int l.sum)) := by
  simp [sumO, Fx.listOf, h, intsOf_ints]
theorem toTup_at {S : Sto} {i : Nat} {l : List D} {ps : List PyData} (h : S[i]? = some (.lst l)) (h2 : pys l = some ps) : toTup [.ob i] S = .ok (.d (.tuple ps)) S := by
  simp [toTup, Fx.listOf, h, h2]
theorem pys_map (ps : List PyData) : pys (ps.map D.d) = some ps := by
  induction ps with
  | nil => rfl
  | cons a l ih => simp [pys, ih]
theorem pys_rails (ps : List (Int × Int)) : pys (railsL ps) = some (ps.map railD) := by
  have : railsL ps = (ps.map railD).map D.d := by simp [railsL]
  rw [this, pys_map]
theorem putIx_at {S : Sto} {i : Nat} {l : List D} {v : D} (h : S[i]? = some (.lst l)) (h0 : 1 ≤ l.length) : putIx (.ob i) (.d (.int 0)) v S = .ok () (S.set i (.lst (l.set 0 v))) := by
  unfold putIx
  simp only [h]
  have : ixN l.length 0 = some 0 := by unfold ixN; simp only [Int.le_refl, if_true]; first | rfl | (rw [if_pos (by omega)]; rfl) | (simp; omega)
  rw [this]
theorem depth_rails : ∀ ps : List (Int × Int), PyData.depthAll (ps.map railD) ≤ 2
  | [] => by simp [PyData.depthAll]
  | p :: r => by
    have := depth_rails r
    simp only [List.map_cons, PyData.depthAll]
    have h2 : (railD p).depth ≤ 2 := by simp [railD, PyData.depth, PyData.depthAll]
    omega
theorem lay_rails : ∀ ps : List (Int × Int), PyData.canLayAll0 (ps.map railD) = true
  | [] => by simp [PyData.canLayAll0]
  | p :: r => by
    have h2 : (railD p).canLay0 = true := by simp [railD, PyData.canLay0, PyData.canLayAll0]
    simp only [List.map_cons, PyData.canLayAll0, lay_rails r, h2]
    rfl
theorem shaped_rails (ps : List (Int × Int)) : SeqAt.shaped (.list (ps.map railD)) = true := by
  have h1 := depth_rails ps
  have h2 : PyData.depth (.list (ps.map railD)) ≤ 64 := by simp only [PyData.depth]; omega
  show (PyData.canLay0 (.list (ps.map railD)) && decide (PyData.depth (.list (ps.map railD)) ≤ 64)) = true
  rw [decide_eq_true h2]
  simp [PyData.canLay0, lay_rails]
theorem shaped_railsT (ps : List (Int × Int)) : SeqAt.shaped (.tuple (ps.map railD)) = true := by
  have h1 := depth_rails ps
  have h2 : PyData.depth (.tuple (ps.map railD)) ≤ 64 := by simp only [PyData.depth]; omega
  show (PyData.canLay0 (.tuple (ps.map railD)) && decide (PyData.depth (.tuple (ps.map railD)) ≤ 64)) = true
  rw [decide_eq_true h2]
  simp [PyData.canLay0, lay_rails]
theorem eq_nil_at {S : Sto} {i : Nat} {ps : List (Int × Int)} (h : S[i]? = some (.lst (railsL ps))) : eqD id (S ++ [.lst []]) (.ob i) (.ob S.length) = some (.d (.bool ps.isEmpty)) := by
  have hi : i < S.length := (List.getElem?_eq_some_iff.mp h).1
  have e1 : whole (S ++ [.lst []]) (.ob i) = some (.list (ps.map railD)) := by
    simp only [whole, List.getElem?_append_left hi, h, pys_rails]; rfl
  have e2 : whole (S ++ [.lst []]) (.ob S.length) = some (.list []) := by
    simp only [whole, get_at0]; rfl
  have e3 : okEq (.list (ps.map railD)) (.list []) = true := by
    unfold okEq
    rw [shaped_rails]; rfl
  unfold eqD
  rw [e1, e2]
  show (if okEq (.list (ps.map railD)) (.list []) = true then some (D.d (.bool (id (PyData.eqv (.list (ps.map railD)) (.list []))))) else none) = _
  rw [if_pos e3]
  cases ps <;> rfl
theorem mulF_l0 {S : Sto} {n : Nat} (h : n ≤ 1000) : mulF (.ob S.length) (.d (.int n)) (S ++ [O.lst [.d (.int 0)]]) = .ok (.ob (S.length + 1)) (S ++ [O.lst [.d (.int 0)]] ++ [O.lst (intsL (List.replicate n 0))]) := by
  show (match (S ++ [O.lst [.d (.int 0)]])[S.length]? with
    | some (.lst xs) => if -(2 ^ 63) ≤ (n : Int) ∧ (n : Int) < 2 ^ 63 ∧ xs.length * (n : Int).toNat ≤ sizeLine then R.ok (D.ob (S ++ [O.lst [.d (.int 0)]]).length) (S ++ [O.lst [.d (.int 0)]] ++ [O.lst (List.replicate (n : Int).toNat xs).flatten]) else .stuck
    | _ => .stuck) = _
  rw [get_at0]
  show (if -(2 ^ 63) ≤ (n : Int) ∧ (n : Int) < 2 ^ 63 ∧ 1 * (n : Int).toNat ≤ sizeLine then R.ok (D.ob (S ++ [O.lst [.d (.int 0)]]).length) (S ++ [O.lst [.d (.int 0)]] ++ [O.lst (List.replicate (n : Int).toNat [D.d (.int 0)]).flatten]) else .stuck) = _
  rw [if_pos ⟨by omega, by omega, by unfold sizeLine; omega⟩]
  simp [intsL]
theorem mulF_t0 {S : Sto} {n : Nat} (h0 : 1 ≤ n) (h : n ≤ 1000) : mulF (.d (.tuple [.int 0])) (.d (.int n)) S = .ok (.d (.tuple ((List.replicate n (0 : Int)).map .int))) S := by
  show (if ([PyData.int 0] : List PyData) ≠ [] ∧ 1 ≤ (n : Int) ∧ (n : Int) ≤ 1000 ∧ ([PyData.int 0] : List PyData).length ≤ 1000 then R.ok (D.d (.tuple (List.replicate (n : Int).toNat [PyData.int 0]).flatten)) S else .stuck) = _
  rw [if_pos ⟨by simp, by omega, by omega, by simp⟩]
  simp
section
variable {A B C : O} {L G : Sto}
theorem board_t1 {S : Sto} {o1 o2 o3 o4 o6 o8 o9 : Option D} {j1 j2 : Nat} {sl : List Int} {ps : List (Int × Int)} {P0 : Sto} (h : DkS A B C L S) (h1 : L[j1]? = some (.lst (intsL sl))) (h2 : L[j2]? = some (.lst (railsL ps))) (hne : j1 ≠ j2) (h0 : 1 ≤ sl.length) (hs : ∀ s ∈ sl, SlipOk s) (hp : P0.length ≤ j1) (hpre : ∃ G, L = P0 ++ G) :
    ∃ (sl' : List Int) (S2 L2 : Sto), k__law_board_1 [some (.ob 4), o1, o2, o3, o4, some (.ob (j1 + 5)), o6, some (.ob (j2 + 5)), o8, o9] S = .ok (.rt (.d (.tuple [.tuple (sl'.map .int), .tuple (ps.map railD)]))) S2 ∧ sl'.length = sl.length ∧ (∀ s ∈ sl', SlipOk s) ∧ DkS A B C L2 S2 ∧ ∃ G, L2 = P0 ++ G := by
  have g1 : S[j1 + 5]? = some (.lst (intsL sl)) := by rw [h.get]; exact h1
  have g2 : S[j2 + 5]? = some (.lst (railsL ps)) := by rw [h.get]; exact h2
  have lt1 := (List.getElem?_eq_some_iff.mp g1).1
  have lt2 := (List.getElem?_eq_some_iff.mp g2).1
  have l1 := (List.getElem?_eq_some_iff.mp h1).1
  have t1 := toTup_at g1 (pys_ints sl)
  have t2 := toTup_at g2 (pys_rails ps)
  have s1 := sum_at g1
  by_cases hz : sl.sum = 0
  · have hp2 := h.push (o := .lst []) (fun d hd => by cases hd)
    have e2 := mkLst_ok (S := S) (ds := []) (by simp)
    have e3 := eq_nil_at g2
    have g1' : (S ++ [O.lst []])[j1 + 5]? = some (.lst (intsL sl)) := by rw [List.getElem?_append_left lt1]; exact g1
    have g2' : (S ++ [O.lst []])[j2 + 5]? = some (.lst (railsL ps)) := by rw [List.getElem?_append_left lt2]; exact g2
    by_cases hr : ps = []
    · subst hr
      have hset : (intsL sl).set 0 (.d (.int 3)) = intsL (sl.set 0 3) := by
        simp [intsL, List.map_set]
      have e4 := putIx_at (v := .d (.int 3)) g1' (by simpa [intsL] using h0)
      rw [hset] at e4
      have hp3 := hp2.put (j := j1) (o := .lst (intsL (sl.set 0 3))) (intsL_closed _)
      have g1'' : ((S ++ [O.lst []]).set (j1 + 5) (.lst (intsL (sl.set 0 3))))[j1 + 5]? = some (.lst (intsL (sl.set 0 3))) := by
        rw [List.getElem?_set_self (by simp; omega)]
      have g2'' : ((S ++ [O.lst []]).set (j1 + 5) (.lst (intsL (sl.set 0 3))))[j2 + 5]? = some (.lst (railsL [])) := by
        rw [List.getElem?_set_ne (by omega)]; exact g2'
      have t1' := toTup_at g1'' (pys_ints _)
      have t2' := toTup_at g2'' (pys_rails _)
      refine ⟨sl.set 0 3, _, _, ?_, by simp, ?_, hp3, ?_⟩
      · simp only [to_ok, seqK_nx, seqK_rt, seq_app, set1_app, ret_app, skip_app, ifS_app, op2_app, op1_app, app_app, nilA_app, consA_app, con_app, slot_some, var_app, call1_app, callK_app, bind_to, pure_to, toB_b, tstB_app, tst_app, toT_b, toT_i, toT_n, andT_app, orT_app, notT_app, andV_app, orV_app, notV_app, ifV_app, chain_app, dropE_app, asg_app, setN_app, methL1_app, forS_app, lcS_app, walk_app, yes_app, optR_some, pur2_app, purA_app, iop_int, iop_tup, addF_int, mulF_int, int2_int, intO_int, eqD_int, lenO_tup, isiF_app, isiR_tt, isiR_ii, isiR_ib, itemsT_tup, ix0, ix1, List.getElem?_cons_zero, List.getElem?_cons_succ, List.set_cons_zero, List.set_cons_succ, List.length_cons, List.length_nil, Nat.reduceAdd, ↓reduceIte, Bool.false_eq_true, Option.some_or, Option.none_or, Bool.not_true, Bool.not_false, retOf_rt, retOf_nx, c_0, c_1, c_2, c_3, c_7, c_12, eq_self, decide_true, decide_false, id, Int.reduceEq, Int.reduceLT, Int.reduceLE, Int.reduceAdd, Int.reduceSub, Int.reduceToNat, k__law_board_1, s1, hz, e2, e3, List.isEmpty_nil, setIx_app, e4, t1', t2', mkTup2]
      · intro s hs'
        rcases List.mem_or_eq_of_mem_set hs' with h | rfl
        · exact hs s h
        · exact .inr ⟨by omega, by omega⟩
      · obtain ⟨G, rfl⟩ := hpre
        exact ⟨(G ++ [O.lst []]).set (j1 - P0.length) (.lst (intsL (sl.set 0 3))), by rw [List.append_assoc, List.set_append_right _ _ hp]⟩
    · have hie : ps.isEmpty = false := by cases ps with
        | nil => exact absurd rfl hr
        | cons a l => rfl
      have t1' := toTup_at g1' (pys_ints sl)
      have t2' := toTup_at g2' (pys_rails ps)
      refine ⟨sl, _, _, ?_, rfl, hs, hp2, ?_⟩
      · simp only [to_ok, seqK_nx, seqK_rt, seq_app, set1_app, ret_app, skip_app, ifS_app, op2_app, op1_app, app_app, nilA_app, consA_app, con_app, slot_some, var_app, call1_app, callK_app, bind_to, pure_to, toB_b, tstB_app, tst_app, toT_b, toT_i, toT_n, andT_app, orT_app, notT_app, andV_app, orV_app, notV_app, ifV_app, chain_app, dropE_app, asg_app, setN_app, methL1_app, forS_app, lcS_app, walk_app, yes_app, optR_some, pur2_app, purA_app, iop_int, iop_tup, addF_int, mulF_int, int2_int, intO_int, eqD_int, lenO_tup, isiF_app, isiR_tt, isiR_ii, isiR_ib, itemsT_tup, ix0, ix1, List.getElem?_cons_zero, List.getElem?_cons_succ, List.set_cons_zero, List.set_cons_succ, List.length_cons, List.length_nil, Nat.reduceAdd, ↓reduceIte, Bool.false_eq_true, Option.some_or, Option.none_or, Bool.not_true, Bool.not_false, retOf_rt, retOf_nx, c_0, c_1, c_2, c_3, c_7, c_12, eq_self, decide_true, decide_false, id, Int.reduceEq, Int.reduceLT, Int.reduceLE, Int.reduceAdd, Int.reduceSub, Int.reduceToNat, k__law_board_1, s1, hz, e2, e3, hie, t1', t2', mkTup2]
      · obtain ⟨G, rfl⟩ := hpre
        exact ⟨G ++ [O.lst []], by rw [List.append_assoc]⟩
  · refine ⟨sl, _, _, ?_, rfl, hs, h, hpre⟩
    simp only [to_ok, seqK_nx, seqK_rt, seq_app, set1_app, ret_app, skip_app, ifS_app, op2_app, op1_app, app_app, nilA_app, consA_app, con_app, slot_some, var_app, call1_app, callK_app, bind_to, pure_to, toB_b, tstB_app, tst_app, toT_b, toT_i, toT_n, andT_app, orT_app, notT_app, andV_app, orV_app, notV_app, ifV_app, chain_app, dropE_app, asg_app, setN_app, methL1_app, forS_app, lcS_app, walk_app, yes_app, optR_some, pur2_app, purA_app, iop_int, iop_tup, addF_int, mulF_int, int2_int, intO_int, eqD_int, lenO_tup, isiF_app, isiR_tt, isiR_ii, isiR_ib, itemsT_tup, ix0, ix1, List.getElem?_cons_zero, List.getElem?_cons_succ, List.set_cons_zero, List.set_cons_succ, List.length_cons, List.length_nil, Nat.reduceAdd, ↓reduceIte, Bool.false_eq_true, Option.some_or, Option.none_or, Bool.not_true, Bool.not_false, retOf_rt, retOf_nx, c_0, c_1, c_2, c_3, c_7, c_12, eq_self, decide_true, decide_false, id, Int.reduceEq, Int.reduceLT, Int.reduceLE, Int.reduceAdd, Int.reduceSub, Int.reduceToNat, k__law_board_1, s1, hz, t1, t2, mkTup2]
theorem slip0 : ∀ n : Nat, ∀ s ∈ List.replicate n (0 : Int), SlipOk s := fun n s hs => by
  rw [List.eq_of_mem_replicate hs]
  exact .inl rfl
theorem railsTo_nil {n k : Int} : RailsTo n k [] := ⟨.nil, fun p hp => by cases hp⟩
theorem board_t2 {S : Sto} {o1 o4 o6 o8 o9 : Option D} {j1 j2 : Nat} {sl : List Int} {ps : List (Int × Int)} {P0 : Sto} {n : Nat} {way : Int} (h : DkS A B C L S) (h1 : L[j1]? = some (.lst (intsL sl))) (h2 : L[j2]? = some (.lst (railsL ps))) (hne : j1 ≠ j2) (hn : sl.length = n) (h0 : 1 ≤ n) (hn2 : n ≤ 10) (hs : ∀ s ∈ sl, SlipOk s) (hr : RailsTo n n ps) (hrl : ps.length ≤ 1000) (hp : P0.length ≤ j1) (hpre : ∃ G, L = P0 ++ G) :
    ∃ (sl' : List Int) (ps' : List (Int × Int)) (S2 L2 : Sto), k__law_board_2 [some (.ob 4), o1, some (.d (.int n)), some (.d (.int way)), o4, some (.ob (j1 + 5)), o6, some (.ob (j2 + 5)), o8, o9] S = .ok (.rt (.d (.tuple [.tuple (sl'.map .int), .tuple (ps'.map railD)]))) S2 ∧ sl'.length = n ∧ (∀ s ∈ sl', SlipOk s) ∧ RailsTo n n ps' ∧ ps'.length ≤ 1000 ∧ DkS A B C L2 S2 ∧ ∃ G, L2 = P0 ++ G := by
  have l1 := (List.getElem?_eq_some_iff.mp h1).1
  have l2 := (List.getElem?_eq_some_iff.mp h2).1
  obtain ⟨G, rfl⟩ := hpre
  by_cases w1 : way = 1
  · subst w1
    have e1 := mkLst_ok (S := S) (ds := [.d (.int 0)]) (by simp)
    have e2 := mulF_l0 (S := S) (n := n) (by omega)
    have hp1 := h.push (o := .lst [.d (.int 0)]) (intsL_closed [0])
    have hp2 := hp1.push (o := .lst (intsL (List.replicate n 0))) (intsL_closed _)
    have hl : S.length + 1 = (P0 ++ G ++ [O.lst [.d (.int 0)]]).length + 5 := by rw [h.len]; simp; omega
    obtain ⟨sl', S2, L2, e, a1, a2, a3, a4⟩ := board_t1 (o1 := o1) (o2 := some (.d (.int n))) (o3 := some (.d (.int 1))) (o4 := o4) (o6 := o6) (o8 := o8) (o9 := o9) (P0 := P0) (j1 := (P0 ++ G ++ [O.lst [.d (.int 0)]]).length) (j2 := j2) (sl := List.replicate n 0) (ps := ps) hp2 (by rw [get_at0]; rfl) (by rw [List.getElem?_append_left (by simp at l2 ⊢; omega), List.getElem?_append_left l2]; exact h2) (by simp at l2 ⊢; omega) (by simpa using h0) (slip0 n) (by simp) ⟨G ++ [O.lst [D.d (PyData.int 0)]] ++ [O.lst (intsL (List.replicate n 0))], by simp only [List.append_assoc]⟩
    refine ⟨sl', ps, S2, L2, ?_, by simpa using a1, a2, hr, hrl, a3, a4⟩
    rw [← hl] at e
    simp only [to_ok, seqK_nx, seqK_rt, seq_app, set1_app, ret_app, skip_app, ifS_app, op2_app, op1_app, app_app, nilA_app, consA_app, con_app, slot_some, var_app, call1_app, callK_app, bind_to, pure_to, toB_b, tstB_app, tst_app, toT_b, toT_i, toT_n, andT_app, orT_app, notT_app, andV_app, orV_app, notV_app, ifV_app, chain_app, dropE_app, asg_app, setN_app, methL1_app, forS_app, lcS_app, walk_app, yes_app, optR_some, pur2_app, purA_app, iop_int, iop_tup, addF_int, mulF_int, int2_int, intO_int, eqD_int, lenO_tup, isiF_app, isiR_tt, isiR_ii, isiR_ib, itemsT_tup, ix0, ix1, List.getElem?_cons_zero, List.getElem?_cons_succ, List.set_cons_zero, List.set_cons_succ, List.length_cons, List.length_nil, Nat.reduceAdd, ↓reduceIte, Bool.false_eq_true, Option.some_or, Option.none_or, Bool.not_true, Bool.not_false, retOf_rt, retOf_nx, c_0, c_1, c_2, c_3, c_7, c_12, eq_self, decide_true, decide_false, id, Int.reduceEq, Int.reduceLT, Int.reduceLE, Int.reduceAdd, Int.reduceSub, Int.reduceToNat, k__law_board_2, par2_app, parK_2, e1, e2, e]
  · by_cases w2 : way = 2
    · subst w2
      have e1 := mkLst_ok (S := S) (ds := []) (by simp)
      have hp1 := h.push (o := .lst []) (fun d hd => by cases hd)
      have hl : S.length = (P0 ++ G).length + 5 := h.len
      obtain ⟨sl', S2, L2, e, a1, a2, a3, a4⟩ := board_t1 (o1 := o1) (o2 := some (.d (.int n))) (o3 := some (.d (.int 2))) (o4 := o4) (o6 := o6) (o8 := o8) (o9 := o9) (P0 := P0) (j1 := j1) (j2 := (P0 ++ G).length) (sl := sl) (ps := []) hp1 (by rw [List.getElem?_append_left l1]; exact h1) (by rw [get_at0]; rfl) (by omega) (by omega) hs hp ⟨_, by rw [List.append_assoc]⟩
      refine ⟨sl', [], S2, L2, ?_, by omega, a2, railsTo_nil, by simp, a3, a4⟩
      rw [← hl] at e
      simp only [to_ok, seqK_nx, seqK_rt, seq_app, set1_app, ret_app, skip_app, ifS_app, op2_app, op1_app, app_app, nilA_app, consA_app, con_app, slot_some, var_app, call1_app, callK_app, bind_to, pure_to, toB_b, tstB_app, tst_app, toT_b, toT_i, toT_n, andT_app, orT_app, notT_app, andV_app, orV_app, notV_app, ifV_app, chain_app, dropE_app, asg_app, setN_app, methL1_app, forS_app, lcS_app, walk_app, yes_app, optR_some, pur2_app, purA_app, iop_int, iop_tup, addF_int, mulF_int, int2_int, intO_int, eqD_int, lenO_tup, isiF_app, isiR_tt, isiR_ii, isiR_ib, itemsT_tup, ix0, ix1, List.getElem?_cons_zero, List.getElem?_cons_succ, List.set_cons_zero, List.set_cons_succ, List.length_cons, List.length_nil, Nat.reduceAdd, ↓reduceIte, Bool.false_eq_true, Option.some_or, Option.none_or, Bool.not_true, Bool.not_false, retOf_rt, retOf_nx, c_0, c_1, c_2, c_3, c_7, c_12, eq_self, decide_true, decide_false, id, Int.reduceEq, Int.reduceLT, Int.reduceLE, Int.reduceAdd, Int.reduceSub, Int.reduceToNat, k__law_board_2, par2_app, parK_2, e1, e]
    · obtain ⟨sl', S2, L2, e, a1, a2, a3, a4⟩ := board_t1 (o1 := o1) (o2 := some (.d (.int n))) (o3 := some (.d (.int way))) (o4 := o4) (o6 := o6) (o8 := o8) (o9 := o9) (P0 := P0) (j1 := j1) (j2 := j2) (sl := sl) (ps := ps) h h1 h2 hne (by omega) hs hp ⟨_, rfl⟩
      refine ⟨sl', ps, S2, L2, ?_, by omega, a2, hr, hrl, a3, a4⟩
      simp only [to_ok, seqK_nx, seqK_rt, seq_app, set1_app, ret_app, skip_app, ifS_app, op2_app, op1_app, app_app, nilA_app, consA_app, con_app, slot_some, var_app, call1_app, callK_app, bind_to, pure_to, toB_b, tstB_app, tst_app, toT_b, toT_i, toT_n, andT_app, orT_app, notT_app, andV_app, orV_app, notV_app, ifV_app, chain_app, dropE_app, asg_app, setN_app, methL1_app, forS_app, lcS_app, walk_app, yes_app, optR_some, pur2_app, purA_app, iop_int, iop_tup, addF_int, mulF_int, int2_int, intO_int, eqD_int, lenO_tup, isiF_app, isiR_tt, isiR_ii, isiR_ib, itemsT_tup, ix0, ix1, List.getElem?_cons_zero, List.getElem?_cons_succ, List.set_cons_zero, List.set_cons_succ, List.length_cons, List.length_nil, Nat.reduceAdd, ↓reduceIte, Bool.false_eq_true, Option.some_or, Option.none_or, Bool.not_true, Bool.not_false, retOf_rt, retOf_nx, c_0, c_1, c_2, c_3, c_7, c_12, eq_self, decide_true, decide_false, id, Int.reduceEq, Int.reduceLT, Int.reduceLE, Int.reduceAdd, Int.reduceSub, Int.reduceToNat, k__law_board_2, par2_app, parK_2, w1, w2, e]
theorem board_t3 {S : Sto} {o1 o4 o6 o8 o9 : Option D} {j1 j2 : Nat} {sl : List Int} {ps : List (Int × Int)} {P0 : Sto} {n : Nat} {way : Int} (h : DkS A B C L S) (h1 : L[j1]? = some (.lst (intsL sl))) (h2 : L[j2]? = some (.lst (railsL ps))) (hne : j1 ≠ j2) (hn : sl.length = n) (h0 : 1 ≤ n) (hn2 : n ≤ 10) (hs : ∀ s ∈ sl, SlipOk s) (hr : RailsTo n n ps) (hrl : ps.length ≤ 1000) (hp : P0.length ≤ j1) (hpre : ∃ G, L = P0 ++ G) :
    ∃ (sl' : List Int) (ps' : List (Int × Int)) (S2 L2 : Sto), k__law_board_3 [some (.ob 4), o1, some (.d (.int n)), some (.d (.int way)), o4, some (.ob (j1 + 5)), o6, some (.ob (j2 + 5)), o8, o9] S = .ok (.rt (.d (.tuple [.tuple (sl'.map .int), .tuple (ps'.map railD)]))) S2 ∧ sl'.length = n ∧ (∀ s ∈ sl', SlipOk s) ∧ RailsTo n n ps' ∧ ps'.length ≤ 1000 ∧ DkS A B C L2 S2 ∧ ∃ G, L2 = P0 ++ G := by
  by_cases w0 : way = 0
  · subst w0
    refine ⟨List.replicate n 0, [], S, L, ?_, by simp, slip0 n, railsTo_nil, by simp, h, hpre⟩
    simp only [to_ok, seqK_nx, seqK_rt, seq_app, set1_app, ret_app, skip_app, ifS_app, op2_app, op1_app, app_app, nilA_app, consA_app, con_app, slot_some, var_app, call1_app, callK_app, bind_to, pure_to, toB_b, tstB_app, tst_app, toT_b, toT_i, toT_n, andT_app, orT_app, notT_app, andV_app, orV_app, notV_app, ifV_app, chain_app, dropE_app, asg_app, setN_app, methL1_app, forS_app, lcS_app, walk_app, yes_app, optR_some, pur2_app, purA_app, iop_int, iop_tup, addF_int, mulF_int, int2_int, intO_int, eqD_int, lenO_tup, isiF_app, isiR_tt, isiR_ii, isiR_ib, itemsT_tup, ix0, ix1, List.getElem?_cons_zero, List.getElem?_cons_succ, List.set_cons_zero, List.set_cons_succ, List.length_cons, List.length_nil, Nat.reduceAdd, ↓reduceIte, Bool.false_eq_true, Option.some_or, Option.none_or, Bool.not_true, Bool.not_false, retOf_rt, retOf_nx, c_0, c_1, c_2, c_3, c_7, c_12, eq_self, decide_true, decide_false, id, Int.reduceEq, Int.reduceLT, Int.reduceLE, Int.reduceAdd, Int.reduceSub, Int.reduceToNat, k__law_board_3, mkTup1, mkTup0, mulF_t0 h0 (Nat.le_trans hn2 (by omega)), mkTup2, List.map_nil]
  · obtain ⟨sl', ps', S2, L2, e, a⟩ := board_t2 (o1 := o1) (o4 := o4) (o6 := o6) (o8 := o8) (o9 := o9) (way := way) h h1 h2 hne hn h0 hn2 hs hr hrl hp hpre
    refine ⟨sl', ps', S2, L2, ?_, a⟩
    simp only [to_ok, seqK_nx, seqK_rt, seq_app, set1_app, ret_app, skip_app, ifS_app, op2_app, op1_app, app_app, nilA_app, consA_app, con_app, slot_some, var_app, call1_app, callK_app, bind_to, pure_to, toB_b, tstB_app, tst_app, toT_b, toT_i, toT_n, andT_app, orT_app, notT_app, andV_app, orV_app, notV_app, ifV_app, chain_app, dropE_app, asg_app, setN_app, methL1_app, forS_app, lcS_app, walk_app, yes_app, optR_some, pur2_app, purA_app, iop_int, iop_tup, addF_int, mulF_int, int2_int, intO_int, eqD_int, lenO_tup, isiF_app, isiR_tt, isiR_ii, isiR_ib, itemsT_tup, ix0, ix1, List.getElem?_cons_zero, List.getElem?_cons_succ, List.set_cons_zero, List.set_cons_succ, List.length_cons, List.length_nil, Nat.reduceAdd, ↓reduceIte, Bool.false_eq_true, Option.some_or, Option.none_or, Bool.not_true, Bool.not_false, retOf_rt, retOf_nx, c_0, c_1, c_2, c_3, c_7, c_12, eq_self, decide_true, decide_false, id, Int.reduceEq, Int.reduceLT, Int.reduceLE, Int.reduceAdd, Int.reduceSub, Int.reduceToNat, k__law_board_3, w0, e]
theorem board_ok {S : Sto} {most : Int} (h : DkS A B C L S) (h0 : 1 ≤ most) (hm : most ≤ 10) : ∃ (W : Wall) (S' : Sto), f__law_board [.ob 4, .d (.int most)] S = .ok W.d S' ∧ DkS A B C L S' ∧ (W.sl.length : Int) ≤ most := by
  obtain ⟨a, S1, e1, h1, a0, a1⟩ := draw_ok (many := most) h (by omega) (by omega)
  obtain ⟨b, S2, e2, h2, b0, b1⟩ := draw_ok (many := most) h1 (by omega) (by omega)
  obtain ⟨way, S3, e3, h3, _, _⟩ := draw_ok (many := 8) h2 (by omega) (by omega)
  have e4 := mkLst_ok (S := S3) (ds := intsL [0, 1, 1, 2, 2, 3, 4]) (by simp [intsL])
  have h4 := h3.push (o := .lst (intsL [0, 1, 1, 2, 2, 3, 4])) (intsL_closed _)
  obtain ⟨d, S5, hd, e5, h5⟩ := pick_ok (j := L.length) (l := intsL [0, 1, 1, 2, 2, 3, 4]) h4 (by rw [get_at0]; rfl) (by simp [intsL]) (by simp [intsL]) (fun d hd => by
    obtain ⟨i, _, rfl⟩ := List.mem_map.mp hd
    exact ⟨_, rfl⟩)
  obtain ⟨dense, _, rfl⟩ := List.mem_map.mp hd
  rw [← h3.len] at e5
  obtain ⟨n, hn⟩ : ∃ n : Nat, (n : Int) = 1 + (if b > a then b else a) := ⟨(1 + (if b > a then b else a)).toNat, by split <;> omega⟩
  have hn0 : 1 ≤ n := by split at hn <;> omega
  have hn1 : (n : Int) ≤ most := by split at hn <;> omega
  obtain ⟨sl, S6, G6, e6, h6, hsl, hs⟩ := board_slips (ρ := [some (.ob 4), some (.d (.int most)), some (.d (.int n)), some (.d (.int way)), some (.d (.int dense)), none, none, none, none, none]) (n := n) h5 rfl (by omega)
  have h7 := h6.push (o := .lst (intsL sl)) (intsL_closed _)
  have e8 := mkLst_ok (S := S6 ++ [O.lst (intsL sl)]) (ds := []) (by simp)
  have h8 := h7.push (o := .lst []) (fun d hd => by cases hd)
  have l6 := h6.len
  have l7 := h7.len
  obtain ⟨ps, S9, L9, o8, e9, h9, j9, hR, hrl, hpre, hsame⟩ := board_rails (o1 := some (.d (.int most))) (o3 := some (.d (.int way))) (o5 := some (.ob S6.length)) (o6 := none) (n := n) (dense := dense) (P0 := L) h8 (jr := (L ++ [O.lst (intsL [0, 1, 1, 2, 2, 3, 4])] ++ G6 ++ [O.lst (intsL sl)]).length) (by rw [get_at0]; rfl) (by omega) (by simp) ⟨[O.lst (intsL [0, 1, 1, 2, 2, 3, 4])] ++ (G6 ++ ([O.lst (intsL sl)] ++ [O.lst []])), by simp only [List.append_assoc]⟩
  rw [← l7] at e9
  have hj1 : L9[(L ++ [O.lst (intsL [0, 1, 1, 2, 2, 3, 4])] ++ G6).length]? = some (.lst (intsL sl)) := by
    rw [hsame _ (by simp) (by simp), List.getElem?_append_left (by simp), get_at0]
    rfl
  obtain ⟨sl', ps', S10, L10, e10, a1', a2, a3, a4, a5, ⟨G10, rfl⟩⟩ := board_t3 (o1 := some (.d (.int most))) (o4 := some (.d (.int dense))) (o6 := none) (o8 := o8) (o9 := none) (way := way) (P0 := L) h9 hj1 j9 (by simp) hsl hn0 (by omega) hs hR hrl (by simp) hpre
  rw [← l7, ← l6] at e10
  have er1 : itemsR1 [.d (.int (n : Int))] S5 = .ok (rangeD 0 n, freeG) S5 := by
    have := itemsR1_int (S := S5) (j := (n : Int)) (okB_of (by omega) (by omega))
    rwa [Int.toNat_natCast] at this
  have er2 : itemsR2 [.d (.int 1), .d (.int ((n : Int) + 1))] (S6 ++ [O.lst (intsL sl)] ++ [O.lst []]) = .ok (rangeD 1 n, freeG) (S6 ++ [O.lst (intsL sl)] ++ [O.lst []]) := by
    have := itemsR2_int (S := S6 ++ [O.lst (intsL sl)] ++ [O.lst []]) (i := 1) (j := (n : Int) + 1) (okB_of (by omega) (by omega)) (okB_of (by omega) (by omega))
    rwa [show ((n : Int) + 1 - 1).toNat = n by omega] at this
  simp only [intsL, List.map_cons, List.map_nil] at e4 e5
  have et : retOf (b__law_board [some (.ob 4), some (.d (.int most)), none, none, none, none, none, none, none, none] S) = .ok (.d (.tuple [.tuple (sl'.map .int), .tuple (ps'.map railD)])) S10 := by
    have hst : setTup 3 (setCons (setN 2) (setCons (setN 3) (setCons (setN 4) setNil))) (.d (.tuple [.int (n : Int), .int way, .int dense])) [some (.ob 4), some (.d (.int most)), none, none, none, none, none, none, none, none] S5 = .ok [some (.ob 4), some (.d (.int most)), some (.d (.int n)), some (.d (.int way)), some (.d (.int dense)), none, none, none, none, none] S5 := rfl
    simp only [to_ok, seqK_nx, seqK_rt, seq_app, set1_app, ret_app, skip_app, ifS_app, op2_app, op1_app, app_app, nilA_app, consA_app, con_app, slot_some, var_app, call1_app, callK_app, bind_to, pure_to, toB_b, tstB_app, tst_app, toT_b, toT_i, toT_n, andT_app, orT_app, notT_app, andV_app, orV_app, notV_app, ifV_app, chain_app, dropE_app, asg_app, setN_app, methL1_app, forS_app, lcS_app, walk_app, yes_app, optR_some, pur2_app, purA_app, iop_int, iop_tup, addF_int, mulF_int, int2_int, intO_int, eqD_int, lenO_tup, isiF_app, isiR_tt, isiR_ii, isiR_ib, itemsT_tup, ix0, ix1, List.getElem?_cons_zero, List.getElem?_cons_succ, List.set_cons_zero, List.set_cons_succ, List.length_cons, List.length_nil, Nat.reduceAdd, ↓reduceIte, Bool.false_eq_true, Option.some_or, Option.none_or, Bool.not_true, Bool.not_false, retOf_rt, retOf_nx, c_0, c_1, c_2, c_3, c_7, c_12, eq_self, decide_true, decide_false, id, Int.reduceEq, Int.reduceLT, Int.reduceLE, Int.reduceAdd, Int.reduceSub, Int.reduceToNat, b__law_board, e1, e2, e3, e4, e5, ← hn, mkTup3, hst, k__law_board_6, er1, e6, k__law_board_5, e8, k__law_board_4, er2, e9, e10]
  obtain ⟨S', eg, hg⟩ := gc_dk h a5 et
  refine ⟨⟨sl', ps', by omega, by omega, a2, a4, fun r hr => ?_, a3.1⟩, S', ?_, hg, by show ((sl'.length : Nat) : Int) ≤ most; omega⟩
  · obtain ⟨b1, b2, b3, b4⟩ := a3.2 r hr
    exact ⟨b1, b3, by omega⟩
  · rw [u__law_board]
    exact eg
end
end K01
end
section
set_option maxHeartbeats 400000
namespace K01
open PySem PySem.Spec PyProof.Rows L2 RZ RT Fx
def mn (i j : Int) : Int := if j < i then j else i
def mx (i j : Int) : Int := if j > i then j else i
/-- two pegs that are tied -/
def Wall.tie (W : Wall) (i j : Int) : Prop := i ≠ j ∧ (mn i j, mx i j) ∉ W.rs
instance (W : Wall) (i j : Int) : Decidable (W.tie i j) := inferInstanceAs (Decidable (_ ∧ _))
theorem mn_comm (i j : Int) : mn i j = mn j i := by unfold mn; split <;> split <;> omega
theorem mx_comm (i j : Int) : mx i j = mx j i := by unfold mx; split <;> split <;> omega
theorem Wall.tie_symm (W : Wall) {i j : Int} (h : W.tie i j) : W.tie j i := ⟨h.1.symm, by rw [mn_comm, mx_comm]; exact h.2⟩
theorem eqv_rail (p : Int × Int) (a b : Int) : PyData.eqv (railD p) (.tuple [.int a, .int b]) = decide (p = (a, b)) := by
  obtain ⟨x, y⟩ := p
  simp only [railD, List.map_cons, List.map_nil, PyData.eqv, PyData.eqvAll, Bool.and_true]
  by_cases h1 : x = a <;> by_cases h2 : y = b <;> simp [h1, h2]
theorem any_rail (rs : List (Int × Int)) (a b : Int) : ((rs.map railD).any fun z => PyData.eqv z (.tuple [.int a, .int b])) = decide ((a, b) ∈ rs) := by
  induction rs with
  | nil => simp
  | cons p l ih =>
    rw [List.map_cons, List.any_cons, ih, eqv_rail]
    by_cases h : p = (a, b)
    · subst h; simp
    · have h' : ¬ (a, b) = p := fun e => h e.symm
      simp [h, h']
theorem shaped_rail (a b : Int) : SeqAt.shaped (.tuple [.int a, .int b]) = true := by
  show (PyData.canLay0 _ && decide (PyData.depth _ ≤ 64)) = true
  simp [PyData.canLay0, PyData.canLayAll0, PyData.depth, PyData.depthAll]
theorem notIn_rails {S : Sto} {rs : List (Int × Int)} {a b : Int} : inD not S (.d (.tuple [.int a, .int b])) (.d (.tuple (rs.map railD))) = some (.d (.bool (!decide ((a, b) ∈ rs)))) := by
  show (if okEq (.tuple [.int a, .int b]) (.tuple (rs.map railD)) = true then some (D.d (.bool (not ((rs.map railD).any fun z => PyData.eqv z (.tuple [.int a, .int b]))))) else none) = _
  rw [any_rail, if_pos (by unfold okEq; rw [shaped_rail, shaped_railsT]; rfl)]
theorem lacks_ok (W : Wall) {i j : Int} {S : Sto} (h : Closed S) : f_lacks_rail [W.d, .d (.int i), .d (.int j)] S = .ok (.d (.bool (decide (W.tie i j)))) S := by
  rw [u_lacks_rail]
  refine gc_d (G := []) ?_ rfl h
  rw [List.append_nil]
  unfold Wall.d
  by_cases hij : i = j
  · simp only [to_ok, seqK_nx, seqK_rt, seq_app, set1_app, ret_app, skip_app, ifS_app, op2_app, op1_app, app_app, nilA_app, consA_app, con_app, slot_some, var_app, call1_app, callK_app, bind_to, pure_to, toB_b, tstB_app, tst_app, toT_b, toT_i, toT_n, andT_app, orT_app, notT_app, andV_app, orV_app, notV_app, ifV_app, chain_app, dropE_app, asg_app, setN_app, methL1_app, forS_app, lcS_app, walk_app, yes_app, optR_some, pur2_app, purA_app, iop_int, iop_tup, addF_int, mulF_int, int2_int, intO_int, eqD_int, lenO_tup, isiF_app, isiR_tt, isiR_ii, isiR_ib, itemsT_tup, ix0, ix1, List.getElem?_cons_zero, List.getElem?_cons_succ, List.set_cons_zero, List.set_cons_succ, List.length_cons, List.length_nil, Nat.reduceAdd, ↓reduceIte, Bool.false_eq_true, Option.some_or, Option.none_or, Bool.not_true, Bool.not_false, retOf_rt, retOf_nx, c_0, c_1, c_2, c_3, c_7, c_12, eq_self, decide_true, decide_false, id, Int.reduceEq, Int.reduceLT, Int.reduceLE, Int.reduceAdd, Int.reduceSub, Int.reduceToNat, b_lacks_rail, hij, Wall.tie, ne_eq, not_true_eq_false, false_and]
  · have e : decide (W.tie i j) = !decide ((mn i j, mx i j) ∈ W.rs) := by
      unfold Wall.tie
      by_cases hm : (mn i j, mx i j) ∈ W.rs <;> simp [hij, hm]
    rw [e]
    have e2 := notIn_rails (S := S) (rs := W.rs) (a := mn i j) (b := mx i j)
    unfold mn mx at e2 ⊢
    simp only [to_ok, seqK_nx, seqK_rt, seq_app, set1_app, ret_app, skip_app, ifS_app, op2_app, op1_app, app_app, nilA_app, consA_app, con_app, slot_some, var_app, call1_app, callK_app, bind_to, pure_to, toB_b, tstB_app, tst_app, toT_b, toT_i, toT_n, andT_app, orT_app, notT_app, andV_app, orV_app, notV_app, ifV_app, chain_app, dropE_app, asg_app, setN_app, methL1_app, forS_app, lcS_app, walk_app, yes_app, optR_some, pur2_app, purA_app, iop_int, iop_tup, addF_int, mulF_int, int2_int, intO_int, eqD_int, lenO_tup, isiF_app, isiR_tt, isiR_ii, isiR_ib, itemsT_tup, ix0, ix1, List.getElem?_cons_zero, List.getElem?_cons_succ, List.set_cons_zero, List.set_cons_succ, List.length_cons, List.length_nil, Nat.reduceAdd, ↓reduceIte, Bool.false_eq_true, Option.some_or, Option.none_or, Bool.not_true, Bool.not_false, retOf_rt, retOf_nx, c_0, c_1, c_2, c_3, c_7, c_12, eq_self, decide_true, decide_false, id, Int.reduceEq, Int.reduceLT, Int.reduceLE, Int.reduceAdd, Int.reduceSub, Int.reduceToNat, b_lacks_rail, hij, mkTup2, e2]
theorem tied_ok (W : Wall) {i j : Int} {S : Sto} (h : Closed S) : f_are_tied [W.d, .d (.int i), .d (.int j)] S = .ok (.d (.bool (decide (W.tie i j)))) S := by
  rw [u_are_tied]
  refine gc_d (G := []) ?_ rfl h
  rw [List.append_nil]
  simp only [to_ok, seqK_nx, seqK_rt, seq_app, set1_app, ret_app, skip_app, ifS_app, op2_app, op1_app, app_app, nilA_app, consA_app, con_app, slot_some, var_app, call1_app, callK_app, bind_to, pure_to, toB_b, tstB_app, tst_app, toT_b, toT_i, toT_n, andT_app, orT_app, notT_app, andV_app, orV_app, notV_app, ifV_app, chain_app, dropE_app, asg_app, setN_app, methL1_app, forS_app, lcS_app, walk_app, yes_app, optR_some, pur2_app, purA_app, iop_int, iop_tup, addF_int, mulF_int, int2_int, intO_int, eqD_int, lenO_tup, isiF_app, isiR_tt, isiR_ii, isiR_ib, itemsT_tup, ix0, ix1, List.getElem?_cons_zero, List.getElem?_cons_succ, List.set_cons_zero, List.set_cons_succ, List.length_cons, List.length_nil, Nat.reduceAdd, ↓reduceIte, Bool.false_eq_true, Option.some_or, Option.none_or, Bool.not_true, Bool.not_false, retOf_rt, retOf_nx, c_0, c_1, c_2, c_3, c_7, c_12, eq_self, decide_true, decide_false, id, Int.reduceEq, Int.reduceLT, Int.reduceLE, Int.reduceAdd, Int.reduceSub, Int.reduceToNat, b_are_tied, need_right_ok W h, lacks_ok W h]
/-! ### a while -/
theorem whileW_run {c : Sl → M Bool} {b : Sl → M Oc} (I : Nat → Sl → Sto → Prop)
    (hs : ∀ m ρ S, I m ρ S → (∃ S1, c ρ S = .ok false S1 ∧ I m ρ S1 ∧ (∃ S0, c ρ S0 = .ok false S1 ∧ I m ρ S0)) ∨ ∃ S1 ρ2 S2 m', c ρ S = .ok true S1 ∧ b ρ S1 = .ok (.nx ρ2) S2 ∧ m' < m ∧ I m' ρ2 S2) :
    ∀ m ρ S, I m ρ S → ∃ m' ρ2 S2, whileW c b ρ S = .ok (.nx ρ2) S2 ∧ I m' ρ2 S2 ∧ ∃ S0, c ρ2 S0 = .ok false S2 ∧ I m' ρ2 S0 := by
  have key : ∀ m ρ S, I m ρ S → ∃ n m' ρ2 S2, whileL c b n ρ S = .ok (.nx ρ2) S2 ∧ I m' ρ2 S2 ∧ ∃ S0, c ρ2 S0 = .ok false S2 ∧ I m' ρ2 S0 := fun m => by
    induction m using Nat.strongRecOn with
    | ind m ih =>
      intro ρ S h
      rcases hs m ρ S h with ⟨S1, e, h1, h2⟩ | ⟨S1, ρ2, S2, m', e1, e2, hm, h2⟩
      · refine ⟨1, m, ρ, S1, ?_, h1, h2⟩
        exact (bind_of e).trans rfl
      · obtain ⟨n, m2, ρ3, S3, e3, h3, h4⟩ := ih m' hm ρ2 S2 h2
        refine ⟨n + 1, m2, ρ3, S3, ?_, h3, h4⟩
        refine (bind_of e1).trans ?_
        refine Eq.trans ?_ e3
        exact (bind_of e2).trans rfl
  intro m ρ S h
  obtain ⟨n, m', ρ2, S2, e, h2⟩ := key m ρ S h
  refine ⟨m', ρ2, S2, ?_, h2⟩
  rw [whileW_eq n (by rw [e]; intro z; cases z), e]
end K01
end
section
set_option maxHeartbeats 400000
namespace K01
open PySem PySem.Spec PyProof.Rows L2 RZ RT Fx CC
theorem nodup_len : ∀ (l m : List Int), l.Nodup → (∀ x ∈ l, x ∈ m) → l.length ≤ m.length
  | [], _, _, _ => Nat.zero_le _
  | a :: l, m, h, hs => by
    rw [List.nodup_cons] at h
    have ha : a ∈ m := hs a (by simp)
    have := nodup_len l (m.erase a) h.2 fun x hx => by
      have hne : x ≠ a := fun e => h.1 (e ▸ hx)
      exact (List.mem_erase_of_ne hne).mpr (hs x (by simp [hx]))
    rw [List.length_erase_of_mem ha] at this
    have := List.length_pos_of_mem ha
    simp only [List.length_cons]
    omega
theorem any_ints (l : List Int) (y : Int) : ((l.map PyData.int).any fun z => PyData.eqv z (.int y)) = decide (y ∈ l) := by
  induction l with
  | nil => simp
  | cons a l ih =>
    rw [List.map_cons, List.any_cons, ih, eqv_int]
    by_cases h : a = y
    · subst h; simp
    · have h' : ¬ y = a := fun e => h e.symm
      simp [h, h']
theorem notIn_ints {S : Sto} {n : Nat} {l : List Int} {y : Int} (h : S[n]? = some (.lst (intsL l))) : inD not S (.d (.int y)) (.ob n) = some (.d (.bool (!decide (y ∈ l)))) := by
  have e1 : whole S (.ob n) = some (.list (l.map .int)) := by
    simp only [whole, h, pys_ints]; rfl
  unfold inD
  rw [e1]
  show (if okEq (.int y) (.list (l.map .int)) = true then some (D.d (.bool (not ((l.map PyData.int).any fun z => PyData.eqv z (.int y))))) else none) = _
  rw [any_ints, if_pos (by unfold okEq; rw [shaped_ints']; rfl)]
theorem notIn_tup {S : Sto} {l : List Int} {y : Int} : inD not S (.d (.int y)) (.d (.tuple (l.map .int))) = some (.d (.bool (!decide (y ∈ l)))) := by
  have e3 : SeqAt.shaped (.tuple (l.map .int)) = true := by
    have h1 := depthAll_ints l
    have h2 : PyData.depth (.tuple (l.map PyData.int)) ≤ 64 := by simp only [PyData.depth]; omega
    show (PyData.canLay0 (.tuple (l.map PyData.int)) && decide (PyData.depth (.tuple (l.map PyData.int)) ≤ 64)) = true
    rw [decide_eq_true h2]
    simp [PyData.canLay0, PySem.W.canLayAll0_ints]
  show (if okEq (.int y) (.tuple (l.map .int)) = true then some (D.d (.bool (not ((l.map PyData.int).any fun z => PyData.eqv z (.int y))))) else none) = _
  rw [any_ints, if_pos (by unfold okEq; rw [e3]; rfl)]
theorem okSort_ints {l : List Int} (h : l.length ≤ 1000) : okSort (l.map .int) := by
  refine ⟨PySem.W.AllAlike.of fun b b' => by simp [PySem.W.alike], PySem.W.Sortable.others fun b => ⟨by simp, by simp⟩, by simp [sizeLine]; omega, fun p hp => ?_⟩
  obtain ⟨i, _, rfl⟩ := List.mem_map.mp hp
  simp [PyData.depth]
theorem sortP_ints (l : List Int) : sortP (l.map .int) = (srt l).map .int := by
  unfold sortP srt
  symm
  refine List.map_mergeSort fun a _ b _ => ?_
  have := congrFun (congrFun (PySem.W.dataLe_int (β := Int) id) a) b
  exact this.symm
theorem sort_ints {S : Sto} {n : Nat} {l : List Int} (h : S[n]? = some (.lst (intsL l))) (hl : l.length ≤ 1000) : sortF [.ob n] S = .ok (.ob S.length) (S ++ [.lst (intsL (srt l))]) := by
  have e1 : seqOf S (.ob n) = some (intsL l) := by simp [seqOf, h]
  unfold sortF
  simp only [e1, pys_ints]
  rw [if_pos (okSort_ints hl), sortP_ints]
  simp [intsL]
theorem aug_int {i : Nat} {k : Int → Int → Int} {f : Sl → M D} {ρ : Sl} {S S' : Sto} {a b : Int} (h : ρ[i]? = some (some (.d (.int a)))) (e : f ρ S = .ok (.d (.int b)) S') : aug i k f ρ S = .ok (.nx (ρ.set i (some (.d (.int (k a b)))))) S' := by
  unfold aug
  rw [h]
  show (f ρ >>= isI >>= fun b => M.pure (Oc.nx (ρ.set i (some (.d (.int (k a b))))))) S = _
  have : (f ρ >>= isI) S = .ok b S' := by rw [bind_of e]; rfl
  rw [bind_of this]
  rfl
theorem closed_push {S : Sto} {o : O} (h : Closed S) (ho : idsInO S.length o) : Closed (S ++ [o]) := fun x hx => by
  rw [List.length_append]
  rcases List.mem_append.mp hx with hx | hx
  · exact idsInO_le (by omega) (h x hx)
  · rw [List.mem_singleton.mp hx]
    exact idsInO_le (by omega) ho
/-- a part as it grows -/
structure BF (W : Wall) (P pegs : List Int) (first : Int) (part : List Int) : Prop where
  nd : part.Nodup
  ft : first ∈ part
  hs : ∀ x ∈ part, x ∈ pegs ∧ Conn P W.tie first x
theorem BF.len {W : Wall} {P pegs part : List Int} {first : Int} (h : BF W P pegs first part) : part.length ≤ pegs.length := nodup_len _ _ h.nd fun x hx => (h.hs x hx).1
theorem BF.add {W : Wall} {P pegs part : List Int} {first cur y : Int} (h : BF W P pegs first part) (hc : cur ∈ part) (hy : y ∈ pegs) (hP : ∀ x ∈ pegs, x ∈ P) (ht : W.tie cur y) (hn : y ∉ part) : BF W P pegs first (part ++ [y]) := by
  refine ⟨?_, by simp [h.ft], fun x hx => ?_⟩
  · rw [List.nodup_append]
    exact ⟨h.nd, by simp, fun a ha b hb e => hn (by rw [← List.mem_singleton.mp hb, ← e]; exact ha)⟩
  · rcases List.mem_append.mp hx with hx | hx
    · exact h.hs x hx
    · rw [List.mem_singleton.mp hx]
      exact ⟨hy, .step (h.hs cur hc).2 ht (hP y hy)⟩
theorem ix_ints {S : Sto} {n at_ : Nat} {l : List Int} {c : Int} (h : S[n]? = some (.lst (intsL l))) (hc : l[at_]? = some c) : ixF (.ob n) (.d (.int (at_ : Nat))) S = .ok (.d (.int c)) S := by
  have hl : at_ < l.length := (List.getElem?_eq_some_iff.mp hc).1
  have e : atI (intsL l) ((at_ : Nat) : Int) = some (.d (.int c)) := by
    rw [atI_nat (by omega) (by simp [intsL]; omega)]
    simp [intsL, hc]
  simp only [ixF, seqOf, h, e]
theorem isLst_at {S : Sto} {n : Nat} {l : List D} (h : S[n]? = some (.lst l)) : isLst (.ob n) S = .ok (.ob n) S := by simp [isLst, h]
theorem append_at {S : Sto} {l : List D} {v : D} (h : l.length ≤ 10000) : appendF (.ob S.length) v (S ++ [.lst l]) = .ok (.d .none) (S ++ [.lst (l ++ [v])]) := by
  unfold appendF
  simp only [get_at0, List.getElem?_cons_zero]
  rw [if_pos (by unfold sizeLine; omega), set_at0]
  rfl
section
variable {W : Wall} {P pegs : List Int} {first : Int} {S : Sto} {k : Nat}
theorem part_inner {part : List Int} {at_ : Nat} {cur : Int} {o5 : Option D} (h : Closed S) (hk : S[k]? = some (.lst (intsL pegs))) (hl : pegs.length ≤ 1000) (hP : ∀ x ∈ pegs, x ∈ P) (hB : BF W P pegs first part) (hc : part[at_]? = some cur) :
    ∃ part' o5', forL (fun S' => S'[k]? = some (.lst (intsL pegs))) (setN 5) l__part_about_1 (intsL pegs) [some W.d, some (.d (.int first)), some (.ob k), some (.ob S.length), some (.d (.int (at_ : Nat))), o5] (S ++ [.lst (intsL part)]) = .ok (.nx [some W.d, some (.d (.int first)), some (.ob k), some (.ob S.length), some (.d (.int (at_ : Nat))), o5']) (S ++ [.lst (intsL part')]) ∧ BF W P pegs first part' ∧ (∃ E, part' = part ++ E) ∧ ∀ y ∈ pegs, W.tie cur y → y ∈ part' := by
  have hkl : k < S.length := (List.getElem?_eq_some_iff.mp hk).1
  have hg : ∀ o, (S ++ [o])[k]? = some (.lst (intsL pegs)) := fun o => by rw [List.getElem?_append_left hkl]; exact hk
  obtain ⟨ρ2, S2, e, part', o5', rfl, rfl, h1, h2, h3⟩ := forL_ix (gd := fun S' => S'[k]? = some (.lst (intsL pegs))) (t := setN 5) (b := l__part_about_1) (items := intsL pegs) (ρ := [some W.d, some (.d (.int first)), some (.ob k), some (.ob S.length), some (.d (.int (at_ : Nat))), o5]) (S := S ++ [.lst (intsL part)])
    (fun i ρ S' => ∃ part' o5, ρ = [some W.d, some (.d (.int first)), some (.ob k), some (.ob S.length), some (.d (.int (at_ : Nat))), o5] ∧ S' = S ++ [.lst (intsL part')] ∧ BF W P pegs first part' ∧ (∃ E, part' = part ++ E) ∧ ∀ j, j < i → ∀ y, pegs[j]? = some y → W.tie cur y → y ∈ part')
    (fun i ρ S' _ ⟨_, _, _, hS, _⟩ => by rw [hS]; exact hg _) (by
      rintro i x ρ S' hx ⟨part', o5, rfl, rfl, hB', ⟨E, rfl⟩, hj⟩
      obtain ⟨y, hy, rfl⟩ := map_some hx
      have hyp : y ∈ pegs := List.mem_of_getElem? hy
      have g : (S ++ [O.lst (intsL (part ++ E))])[S.length]? = some (.lst (intsL (part ++ E))) := by rw [get_at0]; rfl
      have hc' : (part ++ E)[at_]? = some cur := by rw [List.getElem?_append_left (List.getElem?_eq_some_iff.mp hc).1]; exact hc
      have e1 := notIn_ints (y := y) g
      have e2 := ix_ints g hc'
      have hcl : Closed (S ++ [O.lst (intsL (part ++ E))]) := closed_push h (intsL_closed _)
      have e3 := lacks_ok W (i := cur) (j := y) hcl
      have hlen := hB'.len
      by_cases hin : y ∈ part ++ E
      · refine ⟨_, _, [some W.d, some (.d (.int first)), some (.ob k), some (.ob S.length), some (.d (.int (at_ : Nat))), some (.d (.int y))], _, rfl, ?_, part ++ E, _, rfl, rfl, hB', ⟨E, rfl⟩, fun j hj' z hz ht => ?_⟩
        · simp only [to_ok, seqK_nx, seqK_rt, seq_app, set1_app, ret_app, skip_app, ifS_app, op2_app, op1_app, app_app, nilA_app, consA_app, con_app, slot_some, var_app, call1_app, callK_app, bind_to, pure_to, toB_b, tstB_app, tst_app, toT_b, toT_i, toT_n, andT_app, orT_app, notT_app, andV_app, orV_app, notV_app, ifV_app, chain_app, dropE_app, asg_app, setN_app, methL1_app, forS_app, lcS_app, walk_app, yes_app, optR_some, pur2_app, purA_app, iop_int, iop_tup, addF_int, mulF_int, int2_int, intO_int, eqD_int, lenO_tup, isiF_app, isiR_tt, isiR_ii, isiR_ib, itemsT_tup, ix0, ix1, List.getElem?_cons_zero, List.getElem?_cons_succ, List.set_cons_zero, List.set_cons_succ, List.length_cons, List.length_nil, Nat.reduceAdd, ↓reduceIte, Bool.false_eq_true, Option.some_or, Option.none_or, Bool.not_true, Bool.not_false, retOf_rt, retOf_nx, c_0, c_1, c_2, c_3, c_7, c_12, eq_self, decide_true, decide_false, id, Int.reduceEq, Int.reduceLT, Int.reduceLE, Int.reduceAdd, Int.reduceSub, Int.reduceToNat, l__part_about_1, e1, hin]
        · rcases Nat.lt_or_eq_of_le (Nat.le_of_lt_succ hj') with q | q
          · exact hj j q z hz ht
          · subst q; rw [hy] at hz; cases hz; exact hin
      · by_cases ht : W.tie cur y
        · refine ⟨_, _, [some W.d, some (.d (.int first)), some (.ob k), some (.ob S.length), some (.d (.int (at_ : Nat))), some (.d (.int y))], _, rfl, ?_, part ++ E ++ [y], _, rfl, rfl, hB'.add (by exact List.mem_of_getElem? hc') hyp hP ht hin, ⟨E ++ [y], by simp⟩, fun j hj' z hz ht' => ?_⟩
          · have e4 := append_at (S := S) (l := intsL (part ++ E)) (v := .d (.int y)) (by simp [intsL] at hlen ⊢; omega)
            rw [show intsL (part ++ E) ++ [.d (.int y)] = intsL (part ++ E ++ [y]) by simp [intsL]] at e4
            simp only [to_ok, seqK_nx, seqK_rt, seq_app, set1_app, ret_app, skip_app, ifS_app, op2_app, op1_app, app_app, nilA_app, consA_app, con_app, slot_some, var_app, call1_app, callK_app, bind_to, pure_to, toB_b, tstB_app, tst_app, toT_b, toT_i, toT_n, andT_app, orT_app, notT_app, andV_app, orV_app, notV_app, ifV_app, chain_app, dropE_app, asg_app, setN_app, methL1_app, forS_app, lcS_app, walk_app, yes_app, optR_some, pur2_app, purA_app, iop_int, iop_tup, addF_int, mulF_int, int2_int, intO_int, eqD_int, lenO_tup, isiF_app, isiR_tt, isiR_ii, isiR_ib, itemsT_tup, ix0, ix1, List.getElem?_cons_zero, List.getElem?_cons_succ, List.set_cons_zero, List.set_cons_succ, List.length_cons, List.length_nil, Nat.reduceAdd, ↓reduceIte, Bool.false_eq_true, Option.some_or, Option.none_or, Bool.not_true, Bool.not_false, retOf_rt, retOf_nx, c_0, c_1, c_2, c_3, c_7, c_12, eq_self, decide_true, decide_false, id, Int.reduceEq, Int.reduceLT, Int.reduceLE, Int.reduceAdd, Int.reduceSub, Int.reduceToNat, l__part_about_1, e1, hin, e2, e3, ht, isLst_at g, e4]
          · rcases Nat.lt_or_eq_of_le (Nat.le_of_lt_succ hj') with q | q
            · exact List.mem_append.mpr (.inl (hj j q z hz ht'))
            · subst q; rw [hy] at hz; cases hz; simp
        · refine ⟨_, _, [some W.d, some (.d (.int first)), some (.ob k), some (.ob S.length), some (.d (.int (at_ : Nat))), some (.d (.int y))], _, rfl, ?_, part ++ E, _, rfl, rfl, hB', ⟨E, rfl⟩, fun j hj' z hz ht' => ?_⟩
          · simp only [to_ok, seqK_nx, seqK_rt, seq_app, set1_app, ret_app, skip_app, ifS_app, op2_app, op1_app, app_app, nilA_app, consA_app, con_app, slot_some, var_app, call1_app, callK_app, bind_to, pure_to, toB_b, tstB_app, tst_app, toT_b, toT_i, toT_n, andT_app, orT_app, notT_app, andV_app, orV_app, notV_app, ifV_app, chain_app, dropE_app, asg_app, setN_app, methL1_app, forS_app, lcS_app, walk_app, yes_app, optR_some, pur2_app, purA_app, iop_int, iop_tup, addF_int, mulF_int, int2_int, intO_int, eqD_int, lenO_tup, isiF_app, isiR_tt, isiR_ii, isiR_ib, itemsT_tup, ix0, ix1, List.getElem?_cons_zero, List.getElem?_cons_succ, List.set_cons_zero, List.set_cons_succ, List.length_cons, List.length_nil, Nat.reduceAdd, ↓reduceIte, Bool.false_eq_true, Option.some_or, Option.none_or, Bool.not_true, Bool.not_false, retOf_rt, retOf_nx, c_0, c_1, c_2, c_3, c_7, c_12, eq_self, decide_true, decide_false, id, Int.reduceEq, Int.reduceLT, Int.reduceLE, Int.reduceAdd, Int.reduceSub, Int.reduceToNat, l__part_about_1, e1, hin, e2, e3, ht]
          · rcases Nat.lt_or_eq_of_le (Nat.le_of_lt_succ hj') with q | q
            · exact hj j q z hz ht'
            · subst q; rw [hy] at hz; cases hz; exact absurd ht' ht) ⟨part, o5, rfl, rfl, hB, ⟨[], by simp⟩, fun j hj => by omega⟩
  refine ⟨part', o5', e, h1, h2, fun y hy ht => ?_⟩
  obtain ⟨j, hj, rfl⟩ := List.mem_iff_getElem.mp hy
  exact h3 j (by simpa [intsL] using hj) _ (List.getElem?_eq_getElem hj) ht
theorem part_ok (hW : ∀ x y, W.tie x y → W.tie y x) (h : Closed S) (hk : S[k]? = some (.lst (intsL pegs))) (hl : pegs.length ≤ 1000) (hP : ∀ x ∈ pegs, x ∈ P) (hcl : ∀ x ∈ pegs, ∀ y ∈ P, W.tie x y → y ∈ pegs) (hf : first ∈ pegs) :
    ∃ q : List Int, f__part_about [W.d, .d (.int first), .ob k] S = .ok (.d (.tuple (q.map .int))) S ∧ q.Pairwise (· < ·) ∧ ∀ y, y ∈ q ↔ Conn P W.tie first y := by
  have hkl : k < S.length := (List.getElem?_eq_some_iff.mp hk).1
  have hg : ∀ o, (S ++ [o])[k]? = some (.lst (intsL pegs)) := fun o => by rw [List.getElem?_append_left hkl]; exact hk
  have hB0 : BF W P pegs first [first] := ⟨by simp, by simp, fun x hx => by rw [List.mem_singleton.mp hx]; exact ⟨hf, .refl (hP _ hf)⟩⟩
  obtain ⟨m', ρ2, S2, e, ⟨part, at_, o5, rfl, rfl, hB, hat, hm, hc⟩, S0, ec, ⟨part0, at0, o50, hr, rfl, _⟩⟩ := whileW_run (c := w__part_about_1) (b := l__part_about_2)
    (fun m ρ S' => ∃ (part : List Int) (at_ : Nat) (o5 : Option D), ρ = [some W.d, some (.d (.int first)), some (.ob k), some (.ob S.length), some (.d (.int (at_ : Nat))), o5] ∧ S' = S ++ [.lst (intsL part)] ∧ BF W P pegs first part ∧ at_ ≤ part.length ∧ m = pegs.length - at_ ∧ ∀ j, j < at_ → ∀ x, part[j]? = some x → ∀ y ∈ pegs, W.tie x y → y ∈ part) (by
      rintro m ρ S' ⟨part, at_, o5, rfl, rfl, hB, hat, hm, hc⟩
      have g : (S ++ [O.lst (intsL part)])[S.length]? = some (.lst (intsL part)) := by rw [get_at0]; rfl
      have el : lenO (S ++ [O.lst (intsL part)]) [.ob S.length] = some (.d (.int ((part.length : Nat) : Int))) := by simp [lenO, seqOf, g, intsL]
      have ec : w__part_about_1 [some W.d, some (.d (.int first)), some (.ob k), some (.ob S.length), some (.d (.int (at_ : Nat))), o5] (S ++ [O.lst (intsL part)]) = .ok (decide ((at_ : Int) < ((part.length : Nat) : Int))) (S ++ [O.lst (intsL part)]) := by
        simp only [to_ok, seqK_nx, seqK_rt, seq_app, set1_app, ret_app, skip_app, ifS_app, op2_app, op1_app, app_app, nilA_app, consA_app, con_app, slot_some, var_app, call1_app, callK_app, bind_to, pure_to, toB_b, tstB_app, tst_app, toT_b, toT_i, toT_n, andT_app, orT_app, notT_app, andV_app, orV_app, notV_app, ifV_app, chain_app, dropE_app, asg_app, setN_app, methL1_app, forS_app, lcS_app, walk_app, yes_app, optR_some, pur2_app, purA_app, iop_int, iop_tup, addF_int, mulF_int, int2_int, intO_int, eqD_int, lenO_tup, isiF_app, isiR_tt, isiR_ii, isiR_ib, itemsT_tup, ix0, ix1, List.getElem?_cons_zero, List.getElem?_cons_succ, List.set_cons_zero, List.set_cons_succ, List.length_cons, List.length_nil, Nat.reduceAdd, ↓reduceIte, Bool.false_eq_true, Option.some_or, Option.none_or, Bool.not_true, Bool.not_false, retOf_rt, retOf_nx, c_0, c_1, c_2, c_3, c_7, c_12, eq_self, decide_true, decide_false, id, Int.reduceEq, Int.reduceLT, Int.reduceLE, Int.reduceAdd, Int.reduceSub, Int.reduceToNat, w__part_about_1, el]
      by_cases hlt : at_ < part.length
      · refine .inr ?_
        have hcur : part[at_]? = some part[at_] := List.getElem?_eq_getElem hlt
        obtain ⟨part', o5', e1, hB', ⟨E, rfl⟩, hcv⟩ := part_inner (o5 := o5) h hk hl hP hB hcur
        have hlen := hB.len
        have eI : itemsL (.ob k) (S ++ [O.lst (intsL part)]) = .ok (intsL pegs, fun S' => S'[k]? = some (.lst (intsL pegs))) (S ++ [O.lst (intsL part)]) := by
          unfold itemsL
          simp only [srcL, hg]
        refine ⟨S ++ [O.lst (intsL part)], [some W.d, some (.d (.int first)), some (.ob k), some (.ob S.length), some (.d (.int ((at_ + 1 : Nat) : Int))), o5'], S ++ [O.lst (intsL (part ++ E))], pegs.length - (at_ + 1), ?_, ?_, by omega, part ++ E, at_ + 1, o5', rfl, rfl, hB', by simp; omega, rfl, fun j hj x hx y hy ht => ?_⟩
        · rw [ec, decide_eq_true (by omega)]
        · have ea : aug 4 (fun i j => i + j) (con (.int 1)) [some W.d, some (.d (.int first)), some (.ob k), some (.ob S.length), some (.d (.int (at_ : Nat))), o5'] (S ++ [O.lst (intsL (part ++ E))]) = .ok (.nx [some W.d, some (.d (.int first)), some (.ob k), some (.ob S.length), some (.d (.int ((at_ : Int) + 1))), o5']) (S ++ [O.lst (intsL (part ++ E))]) := aug_int (a := at_) (b := 1) rfl rfl
          simp only [to_ok, seqK_nx, seqK_rt, seq_app, set1_app, ret_app, skip_app, ifS_app, op2_app, op1_app, app_app, nilA_app, consA_app, con_app, slot_some, var_app, call1_app, callK_app, bind_to, pure_to, toB_b, tstB_app, tst_app, toT_b, toT_i, toT_n, andT_app, orT_app, notT_app, andV_app, orV_app, notV_app, ifV_app, chain_app, dropE_app, asg_app, setN_app, methL1_app, forS_app, lcS_app, walk_app, yes_app, optR_some, pur2_app, purA_app, iop_int, iop_tup, addF_int, mulF_int, int2_int, intO_int, eqD_int, lenO_tup, isiF_app, isiR_tt, isiR_ii, isiR_ib, itemsT_tup, ix0, ix1, List.getElem?_cons_zero, List.getElem?_cons_succ, List.set_cons_zero, List.set_cons_succ, List.length_cons, List.length_nil, Nat.reduceAdd, ↓reduceIte, Bool.false_eq_true, Option.some_or, Option.none_or, Bool.not_true, Bool.not_false, retOf_rt, retOf_nx, c_0, c_1, c_2, c_3, c_7, c_12, eq_self, decide_true, decide_false, id, Int.reduceEq, Int.reduceLT, Int.reduceLE, Int.reduceAdd, Int.reduceSub, Int.reduceToNat, l__part_about_2, eI, e1, ea]
          rfl
        · rcases Nat.lt_or_eq_of_le (Nat.le_of_lt_succ hj) with q | q
          · rw [List.getElem?_append_left (by omega)] at hx
            exact List.mem_append.mpr (.inl (hc j q x hx y hy ht))
          · subst q
            rw [List.getElem?_append_left hlt, hcur] at hx
            cases hx
            exact hcv y hy ht
      · refine .inl ⟨_, by rw [ec, decide_eq_false (by omega)], ⟨part, at_, o5, rfl, rfl, hB, hat, hm, hc⟩, _, by rw [ec, decide_eq_false (by omega)], ⟨part, at_, o5, rfl, rfl, hB, hat, hm, hc⟩⟩) (pegs.length - 0) [some W.d, some (.d (.int first)), some (.ob k), some (.ob S.length), some (.d (.int (0 : Nat))), none] (S ++ [O.lst (intsL [first])]) ⟨[first], 0, none, rfl, rfl, hB0, by simp, rfl, fun j hj => by omega⟩
  have g : (S ++ [O.lst (intsL part)])[S.length]? = some (.lst (intsL part)) := by rw [get_at0]; rfl
  have hend : at_ = part.length := by
    rcases Nat.lt_or_ge at_ part.length with q | q
    · exfalso
      have el : ∀ p0 : List Int, lenO (S ++ [O.lst (intsL p0)]) [.ob S.length] = some (.d (.int ((p0.length : Nat) : Int))) := fun p0 => by simp [lenO, seqOf, get_at0, intsL]
      have ec' : w__part_about_1 [some W.d, some (.d (.int first)), some (.ob k), some (.ob S.length), some (.d (.int (at_ : Nat))), o5] (S ++ [O.lst (intsL part0)]) = .ok (decide ((at_ : Int) < ((part0.length : Nat) : Int))) (S ++ [O.lst (intsL part0)]) := by
        simp only [to_ok, seqK_nx, seqK_rt, seq_app, set1_app, ret_app, skip_app, ifS_app, op2_app, op1_app, app_app, nilA_app, consA_app, con_app, slot_some, var_app, call1_app, callK_app, bind_to, pure_to, toB_b, tstB_app, tst_app, toT_b, toT_i, toT_n, andT_app, orT_app, notT_app, andV_app, orV_app, notV_app, ifV_app, chain_app, dropE_app, asg_app, setN_app, methL1_app, forS_app, lcS_app, walk_app, yes_app, optR_some, pur2_app, purA_app, iop_int, iop_tup, addF_int, mulF_int, int2_int, intO_int, eqD_int, lenO_tup, isiF_app, isiR_tt, isiR_ii, isiR_ib, itemsT_tup, ix0, ix1, List.getElem?_cons_zero, List.getElem?_cons_succ, List.set_cons_zero, List.set_cons_succ, List.length_cons, List.length_nil, Nat.reduceAdd, ↓reduceIte, Bool.false_eq_true, Option.some_or, Option.none_or, Bool.not_true, Bool.not_false, retOf_rt, retOf_nx, c_0, c_1, c_2, c_3, c_7, c_12, eq_self, decide_true, decide_false, id, Int.reduceEq, Int.reduceLT, Int.reduceLE, Int.reduceAdd, Int.reduceSub, Int.reduceToNat, w__part_about_1, el]
      rw [ec'] at ec
      injection ec with ec1 ec2
      have : part0 = part := by
        have := List.append_cancel_left ec2
        simp only [List.cons.injEq, O.lst.injEq, and_true] at this
        have h2 : (intsL part0).map (fun d => match d with | .d (.int i) => i | _ => 0) = (intsL part).map (fun d => match d with | .d (.int i) => i | _ => 0) := by rw [this]
        simpa [intsL, Function.comp_def] using h2
      subst this
      rw [decide_eq_false_iff_not] at ec1
      omega
    · omega
  have hlen := hB.len
  have es := sort_ints g (Nat.le_trans hlen hl)
  have et : toTup [.ob (S ++ [O.lst (intsL part)]).length] (S ++ [O.lst (intsL part)] ++ [O.lst (intsL (srt part))]) = .ok (.d (.tuple ((srt part).map .int))) (S ++ [O.lst (intsL part)] ++ [O.lst (intsL (srt part))]) := toTup_at (by rw [get_at0]; rfl) (pys_ints _)
  have e0 := mkLst_ok (S := S) (ds := [.d (.int first)]) (by simp)
  refine ⟨srt part, ?_, srt_asc hB.nd, fun y => ?_⟩
  · rw [u__part_about]
    refine gc_d (G := [O.lst (intsL part)] ++ [O.lst (intsL (srt part))]) ?_ rfl h
    rw [← List.append_assoc]
    have e' : whileW w__part_about_1 l__part_about_2 [some W.d, some (.d (.int first)), some (.ob k), some (.ob S.length), some (.d (.int 0)), none] (S ++ [O.lst [.d (.int first)]]) = _ := e
    simp only [to_ok, seqK_nx, seqK_rt, seq_app, set1_app, ret_app, skip_app, ifS_app, op2_app, op1_app, app_app, nilA_app, consA_app, con_app, slot_some, var_app, call1_app, callK_app, bind_to, pure_to, toB_b, tstB_app, tst_app, toT_b, toT_i, toT_n, andT_app, orT_app, notT_app, andV_app, orV_app, notV_app, ifV_app, chain_app, dropE_app, asg_app, setN_app, methL1_app, forS_app, lcS_app, walk_app, yes_app, optR_some, pur2_app, purA_app, iop_int, iop_tup, addF_int, mulF_int, int2_int, intO_int, eqD_int, lenO_tup, isiF_app, isiR_tt, isiR_ii, isiR_ib, itemsT_tup, ix0, ix1, List.getElem?_cons_zero, List.getElem?_cons_succ, List.set_cons_zero, List.set_cons_succ, List.length_cons, List.length_nil, Nat.reduceAdd, ↓reduceIte, Bool.false_eq_true, Option.some_or, Option.none_or, Bool.not_true, Bool.not_false, retOf_rt, retOf_nx, c_0, c_1, c_2, c_3, c_7, c_12, eq_self, decide_true, decide_false, id, Int.reduceEq, Int.reduceLT, Int.reduceLE, Int.reduceAdd, Int.reduceSub, Int.reduceToNat, b__part_about, e0, e', es, et]
  · rw [srt_mem]
    refine ⟨fun hy => (hB.hs y hy).2, fun c => ?_⟩
    refine c.closed (q := part) (fun a ha b hb t => ?_) hB.ft
    obtain ⟨j, hj, rfl⟩ := List.mem_iff_getElem.mp ha
    exact hc j (by omega) _ (List.getElem?_eq_getElem hj) b (hcl _ (hB.hs _ ha).1 b hb t) t
end
end K01
end
section
set_option maxHeartbeats 400000
namespace K01
open PySem PySem.Spec PyProof.Rows L2 RZ RT Fx CC
def tupI (q : List Int) : PyData := .tuple (q.map .int)
def partsL (Q : List (List Int)) : List D := Q.map fun q => D.d (tupI q)
theorem pys_parts (Q : List (List Int)) : pys (partsL Q) = some (Q.map tupI) := by
  have : partsL Q = (Q.map tupI).map D.d := by simp [partsL]
  rw [this, pys_map]
theorem partsL_closed {n : Nat} (xs : List (List Int)) : idsInO n (.lst (partsL xs)) := fun d hd => by
  obtain ⟨i, _, rfl⟩ := List.mem_map.mp hd
  trivial
theorem closed_put {S : Sto} {o o' : O} {G : Sto} (h : Closed (S ++ o :: G)) (ho : idsInO S.length o') : Closed (S ++ o' :: G) := fun x hx => by
  have hl : (S ++ o' :: G).length = (S ++ o :: G).length := by simp
  rw [hl]
  rcases List.mem_append.mp hx with hx | hx
  · exact h x (List.mem_append.mpr (.inl hx))
  · rcases List.mem_cons.mp hx with rfl | hx
    · exact idsInO_le (by simp) ho
    · exact h x (List.mem_append.mpr (.inr (by simp [hx])))
theorem whileW_q {c : Sl → M Bool} {b : Sl → M Oc} (I : Nat → Sl → Sto → Prop) (Q : Sl → Sto → Prop)
    (hs : ∀ m ρ S, I m ρ S → (∃ S1, c ρ S = .ok false S1 ∧ Q ρ S1) ∨ ∃ S1 ρ2 S2 m', c ρ S = .ok true S1 ∧ b ρ S1 = .ok (.nx ρ2) S2 ∧ m' < m ∧ I m' ρ2 S2) :
    ∀ m ρ S, I m ρ S → ∃ ρ2 S2, whileW c b ρ S = .ok (.nx ρ2) S2 ∧ Q ρ2 S2 := by
  have key : ∀ m ρ S, I m ρ S → ∃ n ρ2 S2, whileL c b n ρ S = .ok (.nx ρ2) S2 ∧ Q ρ2 S2 := fun m => by
    induction m using Nat.strongRecOn with
    | ind m ih =>
      intro ρ S h
      rcases hs m ρ S h with ⟨S1, e, h2⟩ | ⟨S1, ρ2, S2, m', e1, e2, hm, h2⟩
      · exact ⟨1, ρ, S1, (bind_of e).trans rfl, h2⟩
      · obtain ⟨n, ρ3, S3, e3, h4⟩ := ih m' hm ρ2 S2 h2
        refine ⟨n + 1, ρ3, S3, ?_, h4⟩
        refine (bind_of e1).trans ?_
        refine Eq.trans ?_ e3
        exact (bind_of e2).trans rfl
  intro m ρ S h
  obtain ⟨n, ρ2, S2, e, h2⟩ := key m ρ S h
  refine ⟨ρ2, S2, ?_, h2⟩
  rw [whileW_eq n (by rw [e]; intro z; cases z), e]
section
variable {W : Wall}
theorem filter_left {q left : List Int} {S : Sto} {k : Nat} {o2 o0 o1 : Option D} (hk : S[k]? = some (.lst (intsL left))) (hl : left.length ≤ 1000) :
    lcL (fun S' => S'[k]? = some (.lst (intsL left))) [5] (setN 5) t_parts_of_1 e_parts_of_1 (intsL left) [] [o0, o1, o2, some (.ob k), some (.d (tupI q)), none] S = .ok (.ob S.length) (S ++ [.lst (intsL (left.filter fun x => !decide (x ∈ q)))]) := by
  obtain ⟨acc, S2, e, rfl, rfl⟩ := lcL_ix (gd := fun S' => S'[k]? = some (.lst (intsL left))) (vs := [5]) (t := setN 5) (tt := t_parts_of_1) (el := e_parts_of_1) (items := intsL left) (ρ := [o0, o1, o2, some (.ob k), some (.d (tupI q)), none]) (S := S)
    (fun i acc S' => S' = S ∧ acc = intsL ((left.take i).filter fun x => !decide (x ∈ q))) (fun i acc S' _ ⟨h, _⟩ => by rw [h]; exact hk) (by
      rintro i x acc S' hx ⟨rfl, rfl⟩
      obtain ⟨y, hy, rfl⟩ := map_some hx
      have hlen : ((left.take i).filter fun x => !decide (x ∈ q)).length ≤ left.length := Nat.le_trans (List.length_filter_le _ _) (by simp; omega)
      have et : (left.take (i + 1)).filter (fun x => !decide (x ∈ q)) = (left.take i).filter (fun x => !decide (x ∈ q)) ++ [y].filter (fun x => !decide (x ∈ q)) := by
        rw [List.take_add_one, hy, List.filter_append]
        rfl
      refine ⟨by simp [intsL, sizeLine]; omega, [o0, o1, o2, some (.ob k), some (.d (tupI q)), some (.d (.int y))], S', !decide (y ∈ q), S', rfl, by unfold tupI; simp only [to_ok, seqK_nx, seqK_rt, seq_app, set1_app, ret_app, skip_app, ifS_app, op2_app, op1_app, app_app, nilA_app, consA_app, con_app, slot_some, var_app, call1_app, callK_app, bind_to, pure_to, toB_b, tstB_app, tst_app, toT_b, toT_i, toT_n, andT_app, orT_app, notT_app, andV_app, orV_app, notV_app, ifV_app, chain_app, dropE_app, asg_app, setN_app, methL1_app, forS_app, lcS_app, walk_app, yes_app, optR_some, pur2_app, purA_app, iop_int, iop_tup, addF_int, mulF_int, int2_int, intO_int, eqD_int, lenO_tup, isiF_app, isiR_tt, isiR_ii, isiR_ib, itemsT_tup, ix0, ix1, List.getElem?_cons_zero, List.getElem?_cons_succ, List.set_cons_zero, List.set_cons_succ, List.length_cons, List.length_nil, Nat.reduceAdd, ↓reduceIte, Bool.false_eq_true, Option.some_or, Option.none_or, Bool.not_true, Bool.not_false, retOf_rt, retOf_nx, c_0, c_1, c_2, c_3, c_7, c_12, eq_self, decide_true, decide_false, id, Int.reduceEq, Int.reduceLT, Int.reduceLE, Int.reduceAdd, Int.reduceSub, Int.reduceToNat, t_parts_of_1, notIn_tup], ?_⟩
      by_cases hin : y ∈ q
      · rw [if_neg (by simp [hin]), et]
        simp [hin]
      · rw [if_pos (by simp [hin]), et]
        refine ⟨.d (.int y), S', by simp only [to_ok, seqK_nx, seqK_rt, seq_app, set1_app, ret_app, skip_app, ifS_app, op2_app, op1_app, app_app, nilA_app, consA_app, con_app, slot_some, var_app, call1_app, callK_app, bind_to, pure_to, toB_b, tstB_app, tst_app, toT_b, toT_i, toT_n, andT_app, orT_app, notT_app, andV_app, orV_app, notV_app, ifV_app, chain_app, dropE_app, asg_app, setN_app, methL1_app, forS_app, lcS_app, walk_app, yes_app, optR_some, pur2_app, purA_app, iop_int, iop_tup, addF_int, mulF_int, int2_int, intO_int, eqD_int, lenO_tup, isiF_app, isiR_tt, isiR_ii, isiR_ib, itemsT_tup, ix0, ix1, List.getElem?_cons_zero, List.getElem?_cons_succ, List.set_cons_zero, List.set_cons_succ, List.length_cons, List.length_nil, Nat.reduceAdd, ↓reduceIte, Bool.false_eq_true, Option.some_or, Option.none_or, Bool.not_true, Bool.not_false, retOf_rt, retOf_nx, c_0, c_1, c_2, c_3, c_7, c_12, eq_self, decide_true, decide_false, id, Int.reduceEq, Int.reduceLT, Int.reduceLE, Int.reduceAdd, Int.reduceSub, Int.reduceToNat, e_parts_of_1], rfl, ?_⟩
        simp [hin, intsL]) ⟨rfl, by simp [intsL]⟩
  rw [e]
  simp [intsL]
theorem parts_ok (P : PegSet W) {S : Sto} (h : Closed S) : ∃ parts, IsParts P.ps W.tie parts ∧ f_parts_of [W.d, P.d] S = .ok (.d (.tuple (parts.map tupI))) S := by
  have hsym : ∀ x y, W.tie x y → W.tie y x := fun x y t => W.tie_symm t
  obtain ⟨ρ2, S2, e, parts, G, k, o4, rfl, rfl, hQ⟩ := whileW_q (c := w_parts_of_1) (b := l_parts_of_1)
    (fun m ρ S' => ∃ (left : List Int) (parts : List (List Int)) (G : Sto) (k : Nat) (o4 o5 : Option D), ρ = [some W.d, some P.d, some (.ob S.length), some (.ob k), o4, none] ∧ S' = S ++ .lst (partsL parts) :: G ∧ S'[k]? = some (.lst (intsL left)) ∧ S.length < k ∧ Closed S' ∧ PI P.ps W.tie left parts ∧ m = left.length)
    (fun ρ S' => ∃ (parts : List (List Int)) (G : Sto) (k : Nat) (o4 : Option D), ρ = [some W.d, some P.d, some (.ob S.length), some (.ob k), o4, none] ∧ S' = S ++ .lst (partsL parts) :: G ∧ IsParts P.ps W.tie parts) (by
      rintro m ρ S' ⟨left, parts, G, k, o4, o5, rfl, rfl, hk, hkl, hcl, hI, hm⟩
      have g : (S ++ O.lst (partsL parts) :: G)[S.length]? = some (.lst (partsL parts)) := by rw [get_at0]; rfl
      have ec : w_parts_of_1 [some W.d, some P.d, some (.ob S.length), some (.ob k), o4, none] (S ++ O.lst (partsL parts) :: G) = .ok (!left.isEmpty) (S ++ O.lst (partsL parts) :: G) := by
        simp only [to_ok, seqK_nx, seqK_rt, seq_app, set1_app, ret_app, skip_app, ifS_app, op2_app, op1_app, app_app, nilA_app, consA_app, con_app, slot_some, var_app, call1_app, callK_app, bind_to, pure_to, toB_b, tstB_app, tst_app, toT_b, toT_i, toT_n, andT_app, orT_app, notT_app, andV_app, orV_app, notV_app, ifV_app, chain_app, dropE_app, asg_app, setN_app, methL1_app, forS_app, lcS_app, walk_app, yes_app, optR_some, pur2_app, purA_app, iop_int, iop_tup, addF_int, mulF_int, int2_int, intO_int, eqD_int, lenO_tup, isiF_app, isiR_tt, isiR_ii, isiR_ib, itemsT_tup, ix0, ix1, List.getElem?_cons_zero, List.getElem?_cons_succ, List.set_cons_zero, List.set_cons_succ, List.length_cons, List.length_nil, Nat.reduceAdd, ↓reduceIte, Bool.false_eq_true, Option.some_or, Option.none_or, Bool.not_true, Bool.not_false, retOf_rt, retOf_nx, c_0, c_1, c_2, c_3, c_7, c_12, eq_self, decide_true, decide_false, id, Int.reduceEq, Int.reduceLT, Int.reduceLE, Int.reduceAdd, Int.reduceSub, Int.reduceToNat, w_parts_of_1]
        simp only [toT, truth, hk]
        cases left <;> rfl
      cases left with
      | nil => exact .inl ⟨_, ec, parts, G, k, o4, rfl, rfl, hI.done⟩
      | cons a l =>
        refine .inr ?_
        have hlen := hI.len
        have hPl := P.hl
        obtain ⟨q, e1, hq, hm1⟩ := part_ok (W := W) (P := P.ps) (pegs := a :: l) (first := a) (k := k) (S := S ++ O.lst (partsL parts) :: G) hsym hcl hk (by omega) hI.sub hI.cl (by simp)
        have e0 : ixF (.ob k) (.d (.int 0)) (S ++ O.lst (partsL parts) :: G) = .ok (.d (.int a)) (S ++ O.lst (partsL parts) :: G) := ix_ints (at_ := 0) hk rfl
        have ea : appendF (.ob S.length) (.d (tupI q)) (S ++ O.lst (partsL parts) :: G) = .ok (.d .none) (S ++ O.lst (partsL (parts ++ [q])) :: G) := by
          unfold appendF
          simp only [get_at0, List.getElem?_cons_zero]
          rw [if_pos (by simp [partsL, sizeLine]; omega), set_at0]
          simp [partsL]
        have hk2 : (S ++ O.lst (partsL (parts ++ [q])) :: G)[k]? = some (.lst (intsL (a :: l))) := by
          rw [← hk, List.getElem?_append_right (by omega), List.getElem?_append_right (by omega)]
          cases hkk : k - S.length with
          | zero => omega
          | succ n => rfl
        have hcl2 : Closed (S ++ O.lst (partsL (parts ++ [q])) :: G) := closed_put hcl (partsL_closed _)
        have ef := filter_left (q := q) (o0 := some W.d) (o1 := some P.d) (o2 := some (.ob S.length)) hk2 (by omega)
        have eI : itemsL (.ob k) (S ++ O.lst (partsL (parts ++ [q])) :: G) = .ok (intsL (a :: l), fun S' => S'[k]? = some (.lst (intsL (a :: l)))) (S ++ O.lst (partsL (parts ++ [q])) :: G) := by
          unfold itemsL
          simp only [srcL, hk2]
        have hlf : ((a :: l).filter fun x => !decide (x ∈ q)).length < (a :: l).length := by
          have aq : a ∈ q := (hm1 a).mpr (.refl (hI.sub a (by simp)))
          rw [List.filter_cons, if_neg (by simp [aq])]
          exact Nat.lt_succ_of_le (List.length_filter_le _ _)
        refine ⟨_, [some W.d, some P.d, some (.ob S.length), some (.ob (S ++ O.lst (partsL (parts ++ [q])) :: G).length), some (.d (tupI q)), none], S ++ O.lst (partsL (parts ++ [q])) :: (G ++ [.lst (intsL ((a :: l).filter fun x => !decide (x ∈ q)))]), ((a :: l).filter fun x => !decide (x ∈ q)).length, ec, ?_, by omega, (a :: l).filter fun x => !decide (x ∈ q), parts ++ [q], G ++ [.lst (intsL ((a :: l).filter fun x => !decide (x ∈ q)))], _, some (.d (tupI q)), none, rfl, rfl, ?_, by simp, ?_, hI.step hsym hq hm1, rfl⟩
        · unfold tupI at ea ef ⊢
          simp only [to_ok, seqK_nx, seqK_rt, seq_app, set1_app, ret_app, skip_app, ifS_app, op2_app, op1_app, app_app, nilA_app, consA_app, con_app, slot_some, var_app, call1_app, callK_app, bind_to, pure_to, toB_b, tstB_app, tst_app, toT_b, toT_i, toT_n, andT_app, orT_app, notT_app, andV_app, orV_app, notV_app, ifV_app, chain_app, dropE_app, asg_app, setN_app, methL1_app, forS_app, lcS_app, walk_app, yes_app, optR_some, pur2_app, purA_app, iop_int, iop_tup, addF_int, mulF_int, int2_int, intO_int, eqD_int, lenO_tup, isiF_app, isiR_tt, isiR_ii, isiR_ib, itemsT_tup, ix0, ix1, List.getElem?_cons_zero, List.getElem?_cons_succ, List.set_cons_zero, List.set_cons_succ, List.length_cons, List.length_nil, Nat.reduceAdd, ↓reduceIte, Bool.false_eq_true, Option.some_or, Option.none_or, Bool.not_true, Bool.not_false, retOf_rt, retOf_nx, c_0, c_1, c_2, c_3, c_7, c_12, eq_self, decide_true, decide_false, id, Int.reduceEq, Int.reduceLT, Int.reduceLE, Int.reduceAdd, Int.reduceSub, Int.reduceToNat, l_parts_of_1, e0, e1, isLst_at g, ea, eI, ef]
          simp
        · rw [show S ++ O.lst (partsL (parts ++ [q])) :: (G ++ [O.lst (intsL ((a :: l).filter fun x => !decide (x ∈ q)))]) = (S ++ O.lst (partsL (parts ++ [q])) :: G) ++ [O.lst (intsL ((a :: l).filter fun x => !decide (x ∈ q)))] by simp, get_at0]
          rfl
        · rw [show S ++ O.lst (partsL (parts ++ [q])) :: (G ++ [O.lst (intsL ((a :: l).filter fun x => !decide (x ∈ q)))]) = (S ++ O.lst (partsL (parts ++ [q])) :: G) ++ [O.lst (intsL ((a :: l).filter fun x => !decide (x ∈ q)))] by simp]
          exact closed_push hcl2 (intsL_closed _)) P.ps.length [some W.d, some P.d, some (.ob S.length), some (.ob (S.length + 1)), none, none] (S ++ [.lst [], .lst (intsL P.ps)]) ⟨P.ps, [], [.lst (intsL P.ps)], S.length + 1, none, none, rfl, rfl, by rw [get_at]; rfl, by omega, by
        have := closed_push (closed_push (S := S) (o := .lst []) h (fun d hd => by cases hd)) (o := .lst (intsL P.ps)) (intsL_closed _)
        simpa using this, PI.start P.h2, rfl⟩
  refine ⟨parts, hQ, ?_⟩
  rw [u_parts_of]
  refine gc_d (G := .lst (partsL parts) :: G) ?_ rfl h
  have e1 := need_set_ok W P h
  have e2 := mkLst_ok (S := S) (ds := []) (by simp)
  have e3 : toList [P.d] (S ++ [.lst []]) = .ok (.ob (S.length + 1)) (S ++ [.lst [], .lst (intsL P.ps)]) := by
    unfold PegSet.d
    simp [toList, seqOf, intsL]
  have e4 : toTup [.ob S.length] (S ++ .lst (partsL parts) :: G) = .ok (.d (.tuple (parts.map tupI))) (S ++ .lst (partsL parts) :: G) := toTup_at (by rw [get_at0]; rfl) (pys_parts _)
  simp only [to_ok, seqK_nx, seqK_rt, seq_app, set1_app, ret_app, skip_app, ifS_app, op2_app, op1_app, app_app, nilA_app, consA_app, con_app, slot_some, var_app, call1_app, callK_app, bind_to, pure_to, toB_b, tstB_app, tst_app, toT_b, toT_i, toT_n, andT_app, orT_app, notT_app, andV_app, orV_app, notV_app, ifV_app, chain_app, dropE_app, asg_app, setN_app, methL1_app, forS_app, lcS_app, walk_app, yes_app, optR_some, pur2_app, purA_app, iop_int, iop_tup, addF_int, mulF_int, int2_int, intO_int, eqD_int, lenO_tup, isiF_app, isiR_tt, isiR_ii, isiR_ib, itemsT_tup, ix0, ix1, List.getElem?_cons_zero, List.getElem?_cons_succ, List.set_cons_zero, List.set_cons_succ, List.length_cons, List.length_nil, Nat.reduceAdd, ↓reduceIte, Bool.false_eq_true, Option.some_or, Option.none_or, Bool.not_true, Bool.not_false, retOf_rt, retOf_nx, c_0, c_1, c_2, c_3, c_7, c_12, eq_self, decide_true, decide_false, id, Int.reduceEq, Int.reduceLT, Int.reduceLE, Int.reduceAdd, Int.reduceSub, Int.reduceToNat, b_parts_of, e1, e2, e3, e, e4]
theorem hangs_ok (P : PegSet W) {S : Sto} (h : Closed S) {parts : List (List Int)} (e : f_parts_of [W.d, P.d] S = .ok (.d (.tuple (parts.map tupI))) S) : f_hangs_together [W.d, P.d] S = .ok (.d (.bool (decide (((parts.length : Nat) : Int) = 1)))) S := by
  rw [u_hangs_together]
  refine gc_d (G := []) ?_ rfl h
  rw [List.append_nil]
  simp only [to_ok, seqK_nx, seqK_rt, seq_app, set1_app, ret_app, skip_app, ifS_app, op2_app, op1_app, app_app, nilA_app, consA_app, con_app, slot_some, var_app, call1_app, callK_app, bind_to, pure_to, toB_b, tstB_app, tst_app, toT_b, toT_i, toT_n, andT_app, orT_app, notT_app, andV_app, orV_app, notV_app, ifV_app, chain_app, dropE_app, asg_app, setN_app, methL1_app, forS_app, lcS_app, walk_app, yes_app, optR_some, pur2_app, purA_app, iop_int, iop_tup, addF_int, mulF_int, int2_int, intO_int, eqD_int, lenO_tup, isiF_app, isiR_tt, isiR_ii, isiR_ib, itemsT_tup, ix0, ix1, List.getElem?_cons_zero, List.getElem?_cons_succ, List.set_cons_zero, List.set_cons_succ, List.length_cons, List.length_nil, Nat.reduceAdd, ↓reduceIte, Bool.false_eq_true, Option.some_or, Option.none_or, Bool.not_true, Bool.not_false, retOf_rt, retOf_nx, c_0, c_1, c_2, c_3, c_7, c_12, eq_self, decide_true, decide_false, id, Int.reduceEq, Int.reduceLT, Int.reduceLE, Int.reduceAdd, Int.reduceSub, Int.reduceToNat, b_hangs_together, e, List.length_map]
end
end K01
end
section
set_option maxHeartbeats 400000
namespace K01
open PySem PySem.Spec PyProof.Rows L2 RZ RT Fx CC
theorem tup_le (a b : List Int) : PySem.W.dataLe false (fun p => tupI p) a b = decide (a ≤ b) := by
  rw [PySem.W.dataLe_eq]
  have e : PySem.W.dataLt (tupI b) (tupI a) = decide (b < a) := by
    unfold tupI
    rw [PySem.W.dataLt_tuple, ← PySem.W.dataLt_ints]
    rfl
  show (!PySem.W.dataLt (tupI b) (tupI a)) = _
  rw [e]
  rcases Decidable.em (b < a) with q | q
  · have : ¬ a ≤ b := fun r => r q
    rw [decide_eq_true q, decide_eq_false this]; rfl
  · have : a ≤ b := q
    rw [decide_eq_false q, decide_eq_true this]; rfl
theorem sortP_parts (Q : List (List Int)) : sortP (Q.map tupI) = (srtP Q).map tupI := by
  unfold sortP srtP
  symm
  exact List.map_mergeSort fun a _ b _ => (tup_le a b).symm
theorem depth_ints (l : List Int) : (PyData.tuple (l.map .int)).depth ≤ 2 := by
  have h1 := PySem.W.depthAll_ints l
  simp only [PyData.depth]; omega
theorem okSort_parts {Q : List (List Int)} (h : Q.length ≤ 1000) (hne : ∀ q ∈ Q, q ≠ []) : okSort (Q.map tupI) := by
  refine ⟨PySem.W.AllAlike.of fun b b' => by simp only [tupI, PySem.W.alike]; exact PySem.W.alike_ints _ _, .inl fun d hd => ?_, by simp [sizeLine]; omega, fun p hp => ?_⟩
  · obtain ⟨q, hq, rfl⟩ := List.mem_map.mp hd
    cases q with
    | nil => exact absurd rfl (hne _ hq)
    | cons a l => exact ⟨_, _, rfl⟩
  · obtain ⟨q, hq, rfl⟩ := List.mem_map.mp hp
    have := depth_ints q
    unfold tupI
    omega
theorem sort_parts {S : Sto} {n : Nat} {Q : List (List Int)} (h : S[n]? = some (.lst (partsL Q))) (hl : Q.length ≤ 1000) (hne : ∀ q ∈ Q, q ≠ []) : sortF [.ob n] S = .ok (.ob S.length) (S ++ [.lst (partsL (srtP Q))]) := by
  have e1 : seqOf S (.ob n) = some (partsL Q) := by simp [seqOf, h]
  unfold sortF
  simp only [e1, pys_parts]
  rw [if_pos (okSort_parts hl hne), sortP_parts]
  simp [partsL]
theorem sort_tup {S : Sto} {l : List Int} (hl : l.length ≤ 1000) : sortF [.d (.tuple (l.map .int))] S = .ok (.ob S.length) (S ++ [.lst (intsL (srt l))]) := by
  have e1 : seqOf S (.d (.tuple (l.map .int))) = some (intsL l) := by simp [seqOf, intsL]
  unfold sortF
  simp only [e1, pys_ints]
  rw [if_pos (okSort_ints hl), sortP_ints]
  simp [intsL]
theorem addF_lst {S : Sto} {a b : Nat} {l k : List D} (h1 : S[a]? = some (.lst l)) (h2 : S[b]? = some (.lst k)) (h : l.length + k.length ≤ 10000) : addF (.ob a) (.ob b) S = .ok (.ob S.length) (S ++ [.lst (l ++ k)]) := by
  show lAddF (.ob a) (.ob b) S = _
  unfold lAddF
  simp only [h1, h2]
  rw [if_pos (by unfold sizeLine; omega)]
theorem addF_tt {S : Sto} {l k : List Int} (h : l.length + k.length ≤ 10000) : addF (.d (.tuple (l.map .int))) (.d (.tuple (k.map .int))) S = .ok (.d (.tuple ((l ++ k).map .int))) S := by
  rw [addF_tup, if_pos (by simp [sizeLine]; omega)]
  simp
theorem eq_nil_ints {S : Sto} {l : List Int} : eqD id (S ++ [.lst (intsL l)] ++ [.lst []]) (.ob S.length) (.ob (S ++ [O.lst (intsL l)]).length) = some (.d (.bool l.isEmpty)) := by
  have e1 : whole (S ++ [O.lst (intsL l)] ++ [.lst []]) (.ob S.length) = some (.list (l.map .int)) := by
    have : (S ++ [O.lst (intsL l)] ++ [.lst []])[S.length]? = some (.lst (intsL l)) := by rw [List.append_assoc, get_at0]; rfl
    simp only [whole, this, pys_ints]; rfl
  have e2 : whole (S ++ [O.lst (intsL l)] ++ [.lst []]) (.ob (S ++ [O.lst (intsL l)]).length) = some (.list []) := by
    simp only [whole, get_at0]; rfl
  have e3 : okEq (.list (l.map .int)) (.list []) = true := by
    unfold okEq
    rw [shaped_ints']; rfl
  unfold eqD
  rw [e1, e2]
  show (if okEq (.list (l.map .int)) (.list []) = true then some (D.d (.bool (id (PyData.eqv (.list (l.map .int)) (.list []))))) else none) = _
  rw [if_pos e3]
  cases l <;> rfl
section
variable {W : Wall}
/-- the others of a part that have no rail to p -/
def Wall.tb (W : Wall) (x p : Int) : Bool := !decide ((x, p) ∈ W.rs)
theorem lone_parts {q : List Int} {p : Int} {S : Sto} {o1 o2 o4 o5 : Option D} (hl : q.length ≤ 1000) :
    lcL freeG [7] (setN 7) t__law_parts_1 e__law_parts_1 ((q.map PyData.int).map D.d) [] [some W.d, o1, o2, some (.d (.int p)), o4, o5, some (.d (tupI q)), none] S = .ok (.ob S.length) (S ++ [.lst (intsL (q.filter fun x => W.tb x p))]) := by
  obtain ⟨acc, S2, e, rfl, rfl⟩ := lcL_ix (gd := freeG) (vs := [7]) (t := setN 7) (tt := t__law_parts_1) (el := e__law_parts_1) (items := (q.map PyData.int).map D.d) (ρ := [some W.d, o1, o2, some (.d (.int p)), o4, o5, some (.d (tupI q)), none]) (S := S)
    (fun i acc S' => S' = S ∧ acc = intsL ((q.take i).filter fun x => W.tb x p)) (fun _ _ _ _ _ => trivial) (by
      rintro i x acc S' hx ⟨rfl, rfl⟩
      obtain ⟨z, hz, rfl⟩ := map_some hx
      obtain ⟨y, hy, rfl⟩ := map_some hz
      have hlen : ((q.take i).filter fun x => W.tb x p).length ≤ q.length := Nat.le_trans (List.length_filter_le _ _) (by simp; omega)
      have et : (q.take (i + 1)).filter (fun x => W.tb x p) = (q.take i).filter (fun x => W.tb x p) ++ [y].filter (fun x => W.tb x p) := by
        rw [List.take_add_one, hy, List.filter_append]
        rfl
      refine ⟨by simp [intsL, sizeLine]; omega, [some W.d, o1, o2, some (.d (.int p)), o4, o5, some (.d (tupI q)), some (.d (.int y))], S', W.tb y p, S', rfl, by unfold Wall.d Wall.tb; simp only [to_ok, seqK_nx, seqK_rt, seq_app, set1_app, ret_app, skip_app, ifS_app, op2_app, op1_app, app_app, nilA_app, consA_app, con_app, slot_some, var_app, call1_app, callK_app, bind_to, pure_to, toB_b, tstB_app, tst_app, toT_b, toT_i, toT_n, andT_app, orT_app, notT_app, andV_app, orV_app, notV_app, ifV_app, chain_app, dropE_app, asg_app, setN_app, methL1_app, forS_app, lcS_app, walk_app, yes_app, optR_some, pur2_app, purA_app, iop_int, iop_tup, addF_int, mulF_int, int2_int, intO_int, eqD_int, lenO_tup, isiF_app, isiR_tt, isiR_ii, isiR_ib, itemsT_tup, ix0, ix1, List.getElem?_cons_zero, List.getElem?_cons_succ, List.set_cons_zero, List.set_cons_succ, List.length_cons, List.length_nil, Nat.reduceAdd, ↓reduceIte, Bool.false_eq_true, Option.some_or, Option.none_or, Bool.not_true, Bool.not_false, retOf_rt, retOf_nx, c_0, c_1, c_2, c_3, c_7, c_12, eq_self, decide_true, decide_false, id, Int.reduceEq, Int.reduceLT, Int.reduceLE, Int.reduceAdd, Int.reduceSub, Int.reduceToNat, t__law_parts_1, mkTup2, notIn_rails], ?_⟩
      by_cases hin : W.tb y p = true
      · rw [if_pos hin, et]
        refine ⟨.d (.int y), S', by simp only [to_ok, seqK_nx, seqK_rt, seq_app, set1_app, ret_app, skip_app, ifS_app, op2_app, op1_app, app_app, nilA_app, consA_app, con_app, slot_some, var_app, call1_app, callK_app, bind_to, pure_to, toB_b, tstB_app, tst_app, toT_b, toT_i, toT_n, andT_app, orT_app, notT_app, andV_app, orV_app, notV_app, ifV_app, chain_app, dropE_app, asg_app, setN_app, methL1_app, forS_app, lcS_app, walk_app, yes_app, optR_some, pur2_app, purA_app, iop_int, iop_tup, addF_int, mulF_int, int2_int, intO_int, eqD_int, lenO_tup, isiF_app, isiR_tt, isiR_ii, isiR_ib, itemsT_tup, ix0, ix1, List.getElem?_cons_zero, List.getElem?_cons_succ, List.set_cons_zero, List.set_cons_succ, List.length_cons, List.length_nil, Nat.reduceAdd, ↓reduceIte, Bool.false_eq_true, Option.some_or, Option.none_or, Bool.not_true, Bool.not_false, retOf_rt, retOf_nx, c_0, c_1, c_2, c_3, c_7, c_12, eq_self, decide_true, decide_false, id, Int.reduceEq, Int.reduceLT, Int.reduceLE, Int.reduceAdd, Int.reduceSub, Int.reduceToNat, e__law_parts_1], rfl, ?_⟩
        simp [hin, intsL]
      · rw [if_neg hin, et]
        simp [hin]) ⟨rfl, by simp [intsL]⟩
  rw [e]
  simp [intsL]
theorem flat_len {l m : List (List Int)} (h : l.Sublist m) : l.flatten.length ≤ m.flatten.length := by
  induction h with
  | slnil => simp
  | cons a h ih => simp only [List.flatten_cons, List.length_append]; omega
  | cons_cons a h ih => simp only [List.flatten_cons, List.length_append]; omega
theorem filter_empty (q : List Int) (f : Int → Bool) : (q.filter f).isEmpty = !q.any f := by
  induction q with
  | nil => rfl
  | cons a l ih =>
    rw [List.filter_cons, List.any_cons]
    cases f a with
    | true => rfl
    | false => simpa using ih
theorem joined_inner {found : List (List Int)} {p : Int} {B : Sto} {kf : Nat} {o1 o6 : Option D} (hB : Closed B) (hk : B[kf]? = some (.lst (partsL found))) (hfl : found.flatten.length ≤ 1000) (hfn : found.length ≤ 1000) :
    ∃ G o6', forL (fun S' => S'[kf]? = some (.lst (partsL found))) (setN 6) l__law_parts_1 (partsL found) [some W.d, o1, some (.ob kf), some (.d (.int p)), some (.d (.tuple [])), some (.ob B.length), o6, none] (B ++ [.lst []]) = .ok (.nx [some W.d, o1, some (.ob kf), some (.d (.int p)), some (.d (tupI (found.filter (fun q => q.any fun x => W.tb x p)).flatten)), some (.ob B.length), o6', none]) (B ++ .lst (partsL (found.filter fun q => !(q.any fun x => W.tb x p))) :: G) ∧ Closed (B ++ .lst (partsL (found.filter fun q => !(q.any fun x => W.tb x p))) :: G) := by
  have hkl : kf < B.length := (List.getElem?_eq_some_iff.mp hk).1
  obtain ⟨ρ2, S2, e, G, o6', rfl, rfl, hc⟩ := forL_ix (gd := fun S' => S'[kf]? = some (.lst (partsL found))) (t := setN 6) (b := l__law_parts_1) (items := partsL found) (ρ := [some W.d, o1, some (.ob kf), some (.d (.int p)), some (.d (.tuple [])), some (.ob B.length), o6, none]) (S := B ++ [.lst []])
    (fun i ρ S' => ∃ G o6, ρ = [some W.d, o1, some (.ob kf), some (.d (.int p)), some (.d (tupI ((found.take i).filter (fun q => q.any fun x => W.tb x p)).flatten)), some (.ob B.length), o6, none] ∧ S' = B ++ .lst (partsL ((found.take i).filter fun q => !(q.any fun x => W.tb x p))) :: G ∧ Closed S')
    (fun i ρ S' _ ⟨G, o6, _, hS, _⟩ => by rw [hS, List.getElem?_append_left hkl]; exact hk) (by
      rintro i x ρ S' hx ⟨G, o6, rfl, rfl, hcl⟩
      obtain ⟨q, hq, rfl⟩ := map_some hx
      have hqf : q ∈ found := List.mem_of_getElem? hq
      have hql : q.length ≤ 1000 := Nat.le_trans (List.Sublist.length_le (List.sublist_flatten_of_mem hqf)) hfl
      have et1 : ∀ f : List Int → Bool, (found.take (i + 1)).filter f = (found.take i).filter f ++ [q].filter f := fun f => by
        rw [List.take_add_one, hq, List.filter_append]
        rfl
      have hjl : ((found.take i).filter (fun q => q.any fun x => W.tb x p)).flatten.length ≤ 1000 :=
        Nat.le_trans (flat_len (List.Sublist.trans List.filter_sublist (List.take_sublist _ _))) hfl
      have hol : ((found.take i).filter fun q => !(q.any fun x => W.tb x p)).length ≤ 1000 := Nat.le_trans (List.Sublist.length_le (List.Sublist.trans List.filter_sublist (List.take_sublist _ _))) hfn
      generalize hO : (found.take i).filter (fun q => !(q.any fun x => W.tb x p)) = oth at *
      generalize hJ : ((found.take i).filter (fun q => q.any fun x => W.tb x p)).flatten = jn at *
      have e1 := lone_parts (W := W) (q := q) (p := p) (S := B ++ .lst (partsL oth) :: G) (o1 := o1) (o2 := some (.ob kf)) (o4 := some (.d (tupI jn))) (o5 := some (.ob B.length)) hql
      have e2 := mkLst_ok (S := B ++ .lst (partsL oth) :: G ++ [.lst (intsL (q.filter fun x => W.tb x p))]) (ds := []) (by simp)
      have e3 := eq_nil_ints (S := B ++ .lst (partsL oth) :: G) (l := q.filter fun x => W.tb x p)
      rw [filter_empty] at e3
      have hc2 : Closed (B ++ .lst (partsL oth) :: G ++ [.lst (intsL (q.filter fun x => W.tb x p))] ++ [.lst []]) := closed_push (closed_push hcl (intsL_closed _)) (fun d hd => by cases hd)
      have g : (B ++ .lst (partsL oth) :: G ++ [O.lst (intsL (q.filter fun x => W.tb x p))] ++ [O.lst []])[B.length]? = some (.lst (partsL oth)) := by
        rw [List.append_assoc, List.append_assoc, get_at0]; rfl
      by_cases ha : q.any (fun x => W.tb x p) = true
      · have e4 := addF_tt (S := B ++ .lst (partsL oth) :: G ++ [.lst (intsL (q.filter fun x => W.tb x p))] ++ [.lst []]) (l := jn) (k := q) (by omega)
        refine ⟨_, _, [some W.d, o1, some (.ob kf), some (.d (.int p)), some (.d (tupI (jn ++ q))), some (.ob B.length), some (.d (tupI q)), none], B ++ .lst (partsL oth) :: (G ++ [.lst (intsL (q.filter fun x => W.tb x p))] ++ [.lst []]), rfl, ?_, G ++ [.lst (intsL (q.filter fun x => W.tb x p))] ++ [.lst []], some (.d (tupI q)), ?_, ?_, ?_⟩
        · rw [ha] at e3
          unfold tupI at e1 ⊢
          simp only [to_ok, seqK_nx, seqK_rt, seq_app, set1_app, ret_app, skip_app, ifS_app, op2_app, op1_app, app_app, nilA_app, consA_app, con_app, slot_some, var_app, call1_app, callK_app, bind_to, pure_to, toB_b, tstB_app, tst_app, toT_b, toT_i, toT_n, andT_app, orT_app, notT_app, andV_app, orV_app, notV_app, ifV_app, chain_app, dropE_app, asg_app, setN_app, methL1_app, forS_app, lcS_app, walk_app, yes_app, optR_some, pur2_app, purA_app, iop_int, iop_tup, addF_int, mulF_int, int2_int, intO_int, eqD_int, lenO_tup, isiF_app, isiR_tt, isiR_ii, isiR_ib, itemsT_tup, ix0, ix1, List.getElem?_cons_zero, List.getElem?_cons_succ, List.set_cons_zero, List.set_cons_succ, List.length_cons, List.length_nil, Nat.reduceAdd, ↓reduceIte, Bool.false_eq_true, Option.some_or, Option.none_or, Bool.not_true, Bool.not_false, retOf_rt, retOf_nx, c_0, c_1, c_2, c_3, c_7, c_12, eq_self, decide_true, decide_false, id, Int.reduceEq, Int.reduceLT, Int.reduceLE, Int.reduceAdd, Int.reduceSub, Int.reduceToNat, l__law_parts_1, e1, e2, e3, e4]
          simp
        · rw [et1]; simp [ha, hJ]
        · rw [et1]; simp [ha, hO]
        · simpa using hc2
      · have ha' : q.any (fun x => W.tb x p) = false := by simpa using ha
        have e4 : appendF (.ob B.length) (.d (tupI q)) (B ++ .lst (partsL oth) :: G ++ [.lst (intsL (q.filter fun x => W.tb x p))] ++ [.lst []]) = .ok (.d .none) (B ++ .lst (partsL (oth ++ [q])) :: (G ++ [.lst (intsL (q.filter fun x => W.tb x p))] ++ [.lst []])) := by
          unfold appendF
          simp only [g]
          rw [if_pos (by simp [partsL, sizeLine]; omega), List.append_assoc, List.append_assoc, set_at0]
          simp [partsL]
        refine ⟨_, _, [some W.d, o1, some (.ob kf), some (.d (.int p)), some (.d (tupI jn)), some (.ob B.length), some (.d (tupI q)), none], B ++ .lst (partsL (oth ++ [q])) :: (G ++ [.lst (intsL (q.filter fun x => W.tb x p))] ++ [.lst []]), rfl, ?_, G ++ [.lst (intsL (q.filter fun x => W.tb x p))] ++ [.lst []], some (.d (tupI q)), ?_, ?_, ?_⟩
        · rw [ha'] at e3
          unfold tupI at e1 e4 ⊢
          simp only [to_ok, seqK_nx, seqK_rt, seq_app, set1_app, ret_app, skip_app, ifS_app, op2_app, op1_app, app_app, nilA_app, consA_app, con_app, slot_some, var_app, call1_app, callK_app, bind_to, pure_to, toB_b, tstB_app, tst_app, toT_b, toT_i, toT_n, andT_app, orT_app, notT_app, andV_app, orV_app, notV_app, ifV_app, chain_app, dropE_app, asg_app, setN_app, methL1_app, forS_app, lcS_app, walk_app, yes_app, optR_some, pur2_app, purA_app, iop_int, iop_tup, addF_int, mulF_int, int2_int, intO_int, eqD_int, lenO_tup, isiF_app, isiR_tt, isiR_ii, isiR_ib, itemsT_tup, ix0, ix1, List.getElem?_cons_zero, List.getElem?_cons_succ, List.set_cons_zero, List.set_cons_succ, List.length_cons, List.length_nil, Nat.reduceAdd, ↓reduceIte, Bool.false_eq_true, Option.some_or, Option.none_or, Bool.not_true, Bool.not_false, retOf_rt, retOf_nx, c_0, c_1, c_2, c_3, c_7, c_12, eq_self, decide_true, decide_false, id, Int.reduceEq, Int.reduceLT, Int.reduceLE, Int.reduceAdd, Int.reduceSub, Int.reduceToNat, l__law_parts_1, e1, e2, e3, isLst_at g, e4]
        · rw [et1]; simp [ha', hJ]
        · rw [et1]; simp [ha', hO]
        · exact closed_put (o := .lst (partsL oth)) (by simpa using hc2) (partsL_closed _)) ⟨[], o6, by simp [tupI], by simp [partsL], closed_push hB (fun d hd => by cases hd)⟩
  have hf : (partsL found).length = found.length := by simp [partsL]
  rw [hf, List.take_length] at e hc
  exact ⟨G, o6', e, hc⟩
theorem Jn.flat {P done : List Int} {T : Int → Int → Prop} {found : List (List Int)} (h : Jn P T done found) : found.flatten.length ≤ done.length := by
  refine nodup_len _ _ ?_ fun x hx => ?_
  · refine List.pairwise_flatten.mpr ⟨fun q hq => (h.asc q hq).imp fun z => by omega, ?_⟩
    exact h.sep.imp fun z x hx y hy => (z x hx y hy).2
  · obtain ⟨q, hq, hxq⟩ := List.mem_flatten.mp hx
    exact (h.cov x).mpr ⟨q, hq, hxq⟩
theorem flat_ge : ∀ {Q : List (List Int)}, (∀ q ∈ Q, q ≠ []) → Q.length ≤ Q.flatten.length
  | [], _ => Nat.zero_le _
  | q :: Q, h => by
    have := flat_ge (Q := Q) fun p hp => h p (by simp [hp])
    have := List.length_pos_iff.mpr (h q (by simp))
    simp only [List.flatten_cons, List.length_append, List.length_cons]
    omega
theorem tb_tie {x p : Int} (h : x < p) : W.tb x p = true ↔ W.tie x p := by
  unfold Wall.tb Wall.tie mn mx
  rw [if_neg (by omega), if_pos (by omega)]
  simp; omega
theorem lawparts_ok (P : PegSet W) {S : Sto} (h : Closed S) : ∃ parts, IsParts P.ps W.tie parts ∧ f__law_parts [W.d, P.d] S = .ok (.d (.tuple (parts.map tupI))) S := by
  have hsym : ∀ x y, W.tie x y → W.tie y x := fun x y t => W.tie_symm t
  have hPl := P.hl
  obtain ⟨ρ2, S2, e, found, G, kf, o3, o4, o5, o6, rfl, rfl, hk, hkl, hcl, hJ⟩ := forL_ix (gd := freeG) (t := setN 3) (b := l__law_parts_2) (items := (P.ps.map PyData.int).map D.d) (ρ := [some W.d, some P.d, some (.ob S.length), none, none, none, none, none]) (S := S ++ [.lst []])
    (fun i ρ S' => ∃ found G kf o3 o4 o5 o6, ρ = [some W.d, some P.d, some (.ob kf), o3, o4, o5, o6, none] ∧ S' = S ++ G ∧ S'[kf]? = some (.lst (partsL found)) ∧ S.length ≤ kf ∧ Closed S' ∧ Jn P.ps W.tie (P.ps.take i) found) (fun _ _ _ _ _ => trivial) (by
      rintro i x ρ S' hx ⟨found, G, kf, o3, o4, o5, o6, rfl, rfl, hk, hkl, hcl, hJ⟩
      obtain ⟨z, hz, rfl⟩ := map_some hx
      obtain ⟨p, hp, rfl⟩ := map_some hz
      have hpP : p ∈ P.ps := List.mem_of_getElem? hp
      have hfl : found.flatten.length ≤ 1000 := Nat.le_trans (Jn.flat hJ) (by simp; omega)
      have hfn : found.length ≤ 1000 := Nat.le_trans (flat_ge hJ.ne) hfl
      obtain ⟨G2, o6', e1, hc1⟩ := joined_inner (W := W) (p := p) (B := S ++ G) (kf := kf) (o1 := some P.d) (o6 := o6) hcl hk hfl hfn
      have hlt : ∀ x ∈ P.ps.take i, x < p := fun x hx => by
        obtain ⟨j, hj, rfl⟩ := List.mem_iff_getElem.mp hx
        have hi : i < P.ps.length := (List.getElem?_eq_some_iff.mp hp).1
        rw [List.getElem?_eq_getElem hi] at hp
        cases hp
        rw [List.getElem_take]
        exact List.pairwise_iff_getElem.mp P.h2 j i (by simp at hj; omega) hi (by simp at hj; omega)
      have hJ2 := hJ.step (tb := W.tb) hsym hpP hlt fun x hx => tb_tie (hlt x hx)
      have htk : P.ps.take (i + 1) = P.ps.take i ++ [p] := by rw [List.take_add_one, hp]; rfl
      have hjl : (found.filter (fun q => q.any fun x => W.tb x p)).flatten.length ≤ 1000 := Nat.le_trans (flat_len List.filter_sublist) hfl
      have hol : (found.filter fun q => !(q.any fun x => W.tb x p)).length ≤ 1000 := Nat.le_trans (List.Sublist.length_le List.filter_sublist) hfn
      unfold join at hJ2
      generalize hO : found.filter (fun q => !(q.any fun x => W.tb x p)) = oth at *
      generalize hJn : (found.filter (fun q => q.any fun x => W.tb x p)).flatten = jn at *
      have hI : ∀ S' : Sto, S'[kf]? = some (.lst (partsL found)) → itemsL (.ob kf) S' = .ok (partsL found, fun S' => S'[kf]? = some (.lst (partsL found))) S' := fun S' hS => by
        unfold itemsL
        simp only [srcL, hS]
      have hkl2 : kf < (S ++ G).length := (List.getElem?_eq_some_iff.mp hk).1
      have e0 := mkLst_ok (S := S ++ G) (ds := []) (by simp)
      have eI := hI (S ++ G ++ [.lst []]) (by rw [List.getElem?_append_left hkl2]; exact hk)
      generalize hS1 : S ++ G ++ O.lst (partsL oth) :: G2 = S1 at *
      have g1 : S1[(S ++ G).length]? = some (.lst (partsL oth)) := by rw [← hS1, get_at0]; rfl
      have e2 := sort_tup (S := S1) (l := jn) hjl
      have e3 : toTup [.ob S1.length] (S1 ++ [.lst (intsL (srt jn))]) = .ok (.d (.tuple ((srt jn).map .int))) (S1 ++ [.lst (intsL (srt jn))]) := toTup_at (by rw [get_at0]; rfl) (pys_ints _)
      have hsl : (srt jn).length = jn.length := (srt_perm jn).length_eq
      have e4 := addF_tt (S := S1 ++ [.lst (intsL (srt jn))]) (l := srt jn) (k := [p]) (by simp; omega)
      have e5 := mkLst_ok (S := S1 ++ [.lst (intsL (srt jn))]) (ds := [.d (.tuple ((srt jn ++ [p]).map .int))]) (by simp)
      have g2 : (S1 ++ [O.lst (intsL (srt jn))] ++ [O.lst [.d (.tuple ((srt jn ++ [p]).map .int))]])[(S ++ G).length]? = some (.lst (partsL oth)) := by
        have : (S ++ G).length < S1.length := (List.getElem?_eq_some_iff.mp g1).1
        rw [List.append_assoc, List.getElem?_append_left this]; exact g1
      have e6 := addF_lst (a := (S ++ G).length) (b := (S1 ++ [O.lst (intsL (srt jn))]).length) g2 (by rw [get_at0]; rfl) (by simp [partsL]; omega)
      have hnew : partsL oth ++ [.d (.tuple ((srt jn ++ [p]).map .int))] = partsL (oth ++ [srt jn ++ [p]]) := by simp [partsL, tupI]
      rw [hnew] at e6
      have hc2 : Closed (S1 ++ [O.lst (intsL (srt jn))] ++ [O.lst [.d (.tuple ((srt jn ++ [p]).map .int))]] ++ [O.lst (partsL (oth ++ [srt jn ++ [p]]))]) :=
        closed_push (closed_push (closed_push hc1 (intsL_closed _)) (partsL_closed [srt jn ++ [p]])) (partsL_closed _)
      have hS' : S1 ++ [O.lst (intsL (srt jn))] ++ [O.lst [.d (.tuple ((srt jn ++ [p]).map .int))]] ++ [O.lst (partsL (oth ++ [srt jn ++ [p]]))] = S ++ (G ++ O.lst (partsL oth) :: G2 ++ [O.lst (intsL (srt jn))] ++ [O.lst [.d (.tuple ((srt jn ++ [p]).map .int))]] ++ [O.lst (partsL (oth ++ [srt jn ++ [p]]))]) := by
        rw [← hS1]; simp only [List.append_assoc, List.cons_append]
      refine ⟨[some W.d, some P.d, some (.ob kf), some (.d (.int p)), o4, o5, o6, none], S ++ G, [some W.d, some P.d, some (.ob (S1 ++ [O.lst (intsL (srt jn))] ++ [O.lst [.d (.tuple ((srt jn ++ [p]).map .int))]]).length), some (.d (.int p)), some (.d (tupI jn)), some (.ob (S ++ G).length), o6', none], S1 ++ [O.lst (intsL (srt jn))] ++ [O.lst [.d (.tuple ((srt jn ++ [p]).map .int))]] ++ [O.lst (partsL (oth ++ [srt jn ++ [p]]))], rfl, ?_, oth ++ [srt jn ++ [p]], _, _, _, _, _, _, rfl, hS', by rw [get_at0]; rfl, ?_, hc2, by rw [htk]; exact hJ2⟩
      · unfold tupI at e1
        simp only [to_ok, seqK_nx, seqK_rt, seq_app, set1_app, ret_app, skip_app, ifS_app, op2_app, op1_app, app_app, nilA_app, consA_app, con_app, slot_some, var_app, call1_app, callK_app, bind_to, pure_to, toB_b, tstB_app, tst_app, toT_b, toT_i, toT_n, andT_app, orT_app, notT_app, andV_app, orV_app, notV_app, ifV_app, chain_app, dropE_app, asg_app, setN_app, methL1_app, forS_app, lcS_app, walk_app, yes_app, optR_some, pur2_app, purA_app, iop_int, iop_tup, addF_int, mulF_int, int2_int, intO_int, eqD_int, lenO_tup, isiF_app, isiR_tt, isiR_ii, isiR_ib, itemsT_tup, ix0, ix1, List.getElem?_cons_zero, List.getElem?_cons_succ, List.set_cons_zero, List.set_cons_succ, List.length_cons, List.length_nil, Nat.reduceAdd, ↓reduceIte, Bool.false_eq_true, Option.some_or, Option.none_or, Bool.not_true, Bool.not_false, retOf_rt, retOf_nx, c_0, c_1, c_2, c_3, c_7, c_12, eq_self, decide_true, decide_false, id, Int.reduceEq, Int.reduceLT, Int.reduceLE, Int.reduceAdd, Int.reduceSub, Int.reduceToNat, l__law_parts_2, par2_app, parK_2, mkTup0, e0, eI, e1]
        simp only [List.map_cons, List.map_nil] at e4
        simp only [to_ok, seqK_nx, seqK_rt, seq_app, set1_app, ret_app, skip_app, ifS_app, op2_app, op1_app, app_app, nilA_app, consA_app, con_app, slot_some, var_app, call1_app, callK_app, bind_to, pure_to, toB_b, tstB_app, tst_app, toT_b, toT_i, toT_n, andT_app, orT_app, notT_app, andV_app, orV_app, notV_app, ifV_app, chain_app, dropE_app, asg_app, setN_app, methL1_app, forS_app, lcS_app, walk_app, yes_app, optR_some, pur2_app, purA_app, iop_int, iop_tup, addF_int, mulF_int, int2_int, intO_int, eqD_int, lenO_tup, isiF_app, isiR_tt, isiR_ii, isiR_ib, itemsT_tup, ix0, ix1, List.getElem?_cons_zero, List.getElem?_cons_succ, List.set_cons_zero, List.set_cons_succ, List.length_cons, List.length_nil, Nat.reduceAdd, ↓reduceIte, Bool.false_eq_true, Option.some_or, Option.none_or, Bool.not_true, Bool.not_false, retOf_rt, retOf_nx, c_0, c_1, c_2, c_3, c_7, c_12, eq_self, decide_true, decide_false, id, Int.reduceEq, Int.reduceLT, Int.reduceLE, Int.reduceAdd, Int.reduceSub, Int.reduceToNat, mkTup1, e2, e3, e4, e5, e6]
        rfl
      · have : (S ++ G).length < S1.length := (List.getElem?_eq_some_iff.mp g1).1
        simp at this ⊢
        omega) ⟨[], [.lst []], S.length, none, none, none, none, rfl, rfl, by rw [get_at0]; rfl, Nat.le_refl _, closed_push h (o := .lst []) (fun d hd => by cases hd), by rw [List.take_zero]; exact Jn.nil⟩
  have hf : ((P.ps.map PyData.int).map D.d).length = P.ps.length := by simp
  rw [hf, List.take_length] at hJ
  refine ⟨srtP found, hJ.parts hsym, ?_⟩
  have hfn : found.length ≤ 1000 := Nat.le_trans (flat_ge hJ.ne) (Nat.le_trans (Jn.flat hJ) hPl)
  rw [u__law_parts]
  refine gc_d (G := G ++ [.lst (partsL (srtP found))]) ?_ rfl h
  have e0 := mkLst_ok (S := S) (ds := []) (by simp)
  have e2 := sort_parts hk hfn hJ.ne
  have e3 : toTup [.ob (S ++ G).length] (S ++ G ++ [.lst (partsL (srtP found))]) = .ok (.d (.tuple ((srtP found).map tupI))) (S ++ G ++ [.lst (partsL (srtP found))]) := toTup_at (by rw [get_at0]; rfl) (pys_parts _)
  rw [← List.append_assoc]
  have eT : itemsT P.d (S ++ [.lst []]) = .ok ((P.ps.map PyData.int).map D.d, freeG) (S ++ [.lst []]) := rfl
  simp only [to_ok, seqK_nx, seqK_rt, seq_app, set1_app, ret_app, skip_app, ifS_app, op2_app, op1_app, app_app, nilA_app, consA_app, con_app, slot_some, var_app, call1_app, callK_app, bind_to, pure_to, toB_b, tstB_app, tst_app, toT_b, toT_i, toT_n, andT_app, orT_app, notT_app, andV_app, orV_app, notV_app, ifV_app, chain_app, dropE_app, asg_app, setN_app, methL1_app, forS_app, lcS_app, walk_app, yes_app, optR_some, pur2_app, purA_app, iop_int, iop_tup, addF_int, mulF_int, int2_int, intO_int, eqD_int, lenO_tup, isiF_app, isiR_tt, isiR_ii, isiR_ib, itemsT_tup, ix0, ix1, List.getElem?_cons_zero, List.getElem?_cons_succ, List.set_cons_zero, List.set_cons_succ, List.length_cons, List.length_nil, Nat.reduceAdd, ↓reduceIte, Bool.false_eq_true, Option.some_or, Option.none_or, Bool.not_true, Bool.not_false, retOf_rt, retOf_nx, c_0, c_1, c_2, c_3, c_7, c_12, eq_self, decide_true, decide_false, id, Int.reduceEq, Int.reduceLT, Int.reduceLE, Int.reduceAdd, Int.reduceSub, Int.reduceToNat, b__law_parts, e0, eT, e, e2, e3]
end
end K01
end
section
set_option maxHeartbeats 400000
namespace K01
open PySem PySem.Spec PyProof.Rows L2 RZ RT Fx CC
/-! ### what repr writes -/
def SOk (s : Str) : Prop := ∀ c ∈ s.cps.toList, c < 0x110000
theorem sok_of (s : String) : SOk (Str.ofString s) := fun c hc => by
  rw [Str.ofString_eq_toList] at hc
  simp only [List.mem_map] at hc
  obtain ⟨ch, _, rfl⟩ := hc
  have := ch.valid
  unfold UInt32.isValidChar Nat.isValidChar at this
  show ch.val.toNat < 0x110000
  omega
theorem sok_app {a b : Str} (ha : SOk a) (hb : SOk b) : SOk (a ++ b) := fun c hc => by
  have : c ∈ (a.cps ++ b.cps).toList := hc
  rw [Array.toList_append, List.mem_append] at this
  exact this.elim (ha c) (hb c)
theorem sok_join {sep : Str} (hs : SOk sep) : ∀ ts : List Str, (∀ t ∈ ts, SOk t) → SOk (Str.join sep ts)
  | [], _ => fun c hc => by cases hc
  | [x], h => h x (by simp)
  | x :: y :: r, h => sok_app (sok_app (h x (by simp)) hs) (sok_join hs (y :: r) fun t ht => h t (by simp [ht]))
theorem sok_tuple {ts : List Str} (h : ∀ t ∈ ts, SOk t) : SOk (tupleText ts) := by
  unfold tupleText
  exact sok_app (sok_app (sok_of _) (sok_join (sok_of _) ts h)) (by split <;> exact sok_of _)
theorem shown_tuple (xs : List PyData) : (PyData.tuple xs).shown = tupleText (PyData.shownAll xs) := by rw [PyData.shown]
theorem sok_shownT {xs : List PyData} (h : ∀ x ∈ xs, SOk x.shown) : SOk (PyData.tuple xs).shown := by
  rw [shown_tuple]
  refine sok_tuple fun t ht => ?_
  have : ∀ xs : List PyData, t ∈ PyData.shownAll xs → ∃ x ∈ xs, t = x.shown := fun xs => by
    induction xs with
    | nil => intro z; simp [PyData.shownAll] at z
    | cons a l ih =>
      intro z
      simp only [PyData.shownAll, List.mem_cons] at z
      rcases z with rfl | z
      · exact ⟨a, by simp, rfl⟩
      · obtain ⟨x, hx, e⟩ := ih z
        exact ⟨x, by simp [hx], e⟩
  obtain ⟨x, hx, rfl⟩ := this xs ht
  exact h x hx
theorem sok_int (i : Int) : SOk (PyData.int i).shown := by rw [PyData.shown]; exact sok_of _
theorem sok_bool (b : Bool) : SOk (PyData.bool b).shown := by rw [PyData.shown]; split <;> exact sok_of _
theorem sok_ints (q : List Int) : SOk (tupI q).shown := sok_shownT fun x hx => by
  obtain ⟨i, _, rfl⟩ := List.mem_map.mp hx
  exact sok_int i
theorem shaped_str {s : Str} (h : SOk s) : SeqAt.shaped (.str s) = true := by
  show (PyData.canLay0 (.str s) && decide (PyData.depth (.str s) ≤ 64)) = true
  have : PyData.strOk s = true := by
    unfold PyData.strOk
    rw [Array.all_eq_true']
    intro c hc
    exact decide_eq_true (h c (by simpa using hc))
  simp [PyData.canLay0, this, PyData.depth]
theorem eq_strs {S : Sto} {k : Bool → Bool} {s : Str} (h : SOk s) : eqD k S (.d (.str s)) (.d (.str s)) = some (.d (.bool (k true))) := by
  show (if okEq (.str s) (.str s) = true then some (D.d (.bool (k (PyData.eqv (.str s) (.str s))))) else none) = _
  rw [if_pos (by unfold okEq; rw [shaped_str h]; rfl)]
  simp [PyData.eqv]
/-- small sets of small sets -/
structure Small (Q : List (List Int)) : Prop where
  len : Q.length ≤ 1000
  le : ∀ q ∈ Q, q.length ≤ 100
  at_ : ∀ q ∈ Q, ∀ i ∈ q, 1 ≤ i ∧ i ≤ 10
theorem int_short {i : Int} (h0 : 1 ≤ i) (h1 : i ≤ 10) : PyData.intsShort 13 (.int i) = true ∧ PyData.weight (.int i) ≤ 5 ∧ PyData.showable (.int i) = true := by
  have : i = 1 ∨ i = 2 ∨ i = 3 ∨ i = 4 ∨ i = 5 ∨ i = 6 ∨ i = 7 ∨ i = 8 ∨ i = 9 ∨ i = 10 := by omega
  rcases this with rfl | rfl | rfl | rfl | rfl | rfl | rfl | rfl | rfl | rfl <;> decide +kernel
theorem ints_short : ∀ {q : List Int}, (∀ i ∈ q, 1 ≤ i ∧ i ≤ 10) → PyData.intsShortAll 13 (q.map .int) = true ∧ PyData.weightAll (q.map .int) ≤ 6 * q.length ∧ PyData.showableAll (q.map .int) = true ∧ PyData.canLayAll0 (q.map .int) = true
  | [], _ => by simp [PyData.intsShortAll, PyData.weightAll, PyData.showableAll, PyData.canLayAll0]
  | a :: q, h => by
    obtain ⟨h1, h2, h3, h4⟩ := ints_short (q := q) fun i hi => h i (by simp [hi])
    obtain ⟨g1, g2, g3⟩ := int_short (h a (by simp)).1 (h a (by simp)).2
    simp only [List.map_cons, PyData.intsShortAll, PyData.weightAll, PyData.showableAll, PyData.canLayAll0, PyData.canLay0, h1, h3, h4, g1, g3, List.length_cons, Bool.and_true, Bool.and_self, true_and, and_true]
    omega
theorem tups_short : ∀ {Q : List (List Int)}, (∀ q ∈ Q, q.length ≤ 100 ∧ ∀ i ∈ q, 1 ≤ i ∧ i ≤ 10) → PyData.intsShortAll 13 (Q.map tupI) = true ∧ PyData.weightAll (Q.map tupI) ≤ 601 * Q.length ∧ PyData.showableAll (Q.map tupI) = true ∧ PyData.canLayAll0 (Q.map tupI) = true ∧ PyData.depthAll (Q.map tupI) ≤ 2
  | [], _ => by simp [PyData.intsShortAll, PyData.weightAll, PyData.showableAll, PyData.canLayAll0, PyData.depthAll]
  | q :: Q, h => by
    obtain ⟨h1, h2, h3, h4, h5⟩ := tups_short (Q := Q) fun p hp => h p (by simp [hp])
    obtain ⟨a1, a2⟩ := h q (by simp)
    obtain ⟨g1, g2, g3, g4⟩ := ints_short a2
    have g5 := depth_ints q
    simp only [List.map_cons, PyData.intsShortAll, PyData.weightAll, PyData.showableAll, PyData.canLayAll0, PyData.depthAll, tupI, PyData.intsShort, PyData.weight, PyData.showable, PyData.canLay0, h1, h3, h4, g1, g3, g4, List.length_cons, Bool.and_self, true_and]
    refine ⟨?_, ?_⟩
    · omega
    · have : PyData.depthAll (List.map tupI Q) ≤ 2 := h5
      omega
theorem okRepr_due {Q : List (List Int)} {b : Bool} (h : Small Q) : okRepr (.tuple [.bool true, .tuple (Q.map tupI), .bool b]) := by
  obtain ⟨h1, h2, h3, h4, h5⟩ := tups_short (Q := Q) fun q hq => ⟨h.le q hq, h.at_ q hq⟩
  have hl := h.len
  have cl : (PyData.tuple [.bool true, .tuple (Q.map tupI), .bool b]).canLay0 = true := by simp [PyData.canLay0, PyData.canLayAll0, h4]
  have dp : (PyData.tuple [.bool true, .tuple (Q.map tupI), .bool b]).depth ≤ 60 := by simp only [PyData.depth, PyData.depthAll]; omega
  refine ⟨by simp [PyData.showable, PyData.showableAll, h3], ?_, dp, PyData.hasDict_of_canLay _ cl⟩
  have := shown_le13 (d := .tuple [.bool true, .tuple (Q.map tupI), .bool b]) (by
    unfold PyData.layable0
    rw [cl, decide_eq_true (by omega), decide_eq_true (by simp only [PyData.weight, PyData.weightAll]; omega)]
    rfl) (by simp [PyData.intsShort, PyData.intsShortAll, h1])
  unfold sizeLine
  omega
theorem sok_due {Q : List (List Int)} {b : Bool} : SOk (PyData.tuple [.bool true, .tuple (Q.map tupI), .bool b]).shown := sok_shownT fun x hx => by
  simp only [List.mem_cons, List.not_mem_nil, or_false] at hx
  rcases hx with rfl | rfl | rfl
  · exact sok_bool _
  · refine sok_shownT fun x hx => ?_
    obtain ⟨q, _, rfl⟩ := List.mem_map.mp hx
    exact sok_ints q
  · exact sok_bool _
theorem repr_ok {S : Sto} {ps : List PyData} (h : okRepr (.tuple ps)) : reprF [.d (.tuple ps)] S = .ok (.d (.str (PyData.tuple ps).shown)) S := by
  unfold reprF
  simp only [if_pos h]
theorem small_parts {W : Wall} (P : PegSet W) {Q : List (List Int)} (h : IsParts P.ps W.tie Q) : Small Q := by
  have hW := W.hl
  have hp : ∀ q ∈ Q, ∀ i ∈ q, i ∈ P.ps := fun q hq i hi => (h.mem q hq i hi).1
  have hnd : P.ps.Nodup := P.h2.imp fun z => by omega
  have hPl : P.ps.length ≤ 10 := by
    have := nodup_len P.ps ((List.range 10).map fun i => ((i : Nat) : Int) + 1) hnd fun x hx => by
      obtain ⟨a, b⟩ := P.h1 x hx
      rw [List.mem_map]
      exact ⟨(x - 1).toNat, by simp; omega, by omega⟩
    simpa using this
  refine ⟨?_, fun q hq => ?_, fun q hq i hi => ?_⟩
  · have hh : (Q.map fun q => q.headD 0).Nodup := by
      refine List.pairwise_map.mpr (h.ord.imp fun z => by omega)
    have := nodup_len _ P.ps hh fun x hx => by
      obtain ⟨q, hq, rfl⟩ := List.mem_map.mp hx
      exact hp q hq _ (headD_mem (h.ne q hq))
    simp at this
    omega
  · have := nodup_len q P.ps ((h.asc q hq).imp fun z => by omega) fun x hx => hp q hq x hx
    omega
  · obtain ⟨a, b⟩ := P.h1 i (hp q hq i hi)
    omega
section
variable {W : Wall}
theorem due_ok (P : PegSet W) (b : Bool) {S : Sto} (h : Closed S) : f__law_is_due [W.d, P.d, .d (.bool b)] S = .ok (.d (.bool true)) S := by
  obtain ⟨parts, hI, e1⟩ := lawparts_ok P h
  obtain ⟨parts', hI', e2⟩ := parts_ok P h
  have := hI.unique hI'
  subst this
  have e3 := hangs_ok P h e2
  have e4 := is_set_ok W P h
  have hr := okRepr_due (b := decide (((parts.length : Nat) : Int) = 1)) (small_parts P hI)
  have e5 := repr_ok (S := S) hr
  have e6 : ∀ k, eqD k S _ _ = _ := fun k => eq_strs (S := S) (k := k) (sok_due (Q := parts) (b := decide (((parts.length : Nat) : Int) = 1)))
  have e7 : permL [1, 0] [P.d, W.d] = [W.d, P.d] := rfl
  rw [u__law_is_due]
  refine gc_d (G := []) ?_ rfl h
  rw [List.append_nil]
  cases b with
  | false => simp only [to_ok, seqK_nx, seqK_rt, seq_app, set1_app, ret_app, skip_app, ifS_app, op2_app, op1_app, app_app, nilA_app, consA_app, con_app, slot_some, var_app, call1_app, callK_app, bind_to, pure_to, toB_b, tstB_app, tst_app, toT_b, toT_i, toT_n, andT_app, orT_app, notT_app, andV_app, orV_app, notV_app, ifV_app, chain_app, dropE_app, asg_app, setN_app, methL1_app, forS_app, lcS_app, walk_app, yes_app, optR_some, pur2_app, purA_app, iop_int, iop_tup, addF_int, mulF_int, int2_int, intO_int, eqD_int, lenO_tup, isiF_app, isiR_tt, isiR_ii, isiR_ib, itemsT_tup, ix0, ix1, List.getElem?_cons_zero, List.getElem?_cons_succ, List.set_cons_zero, List.set_cons_succ, List.length_cons, List.length_nil, Nat.reduceAdd, ↓reduceIte, Bool.false_eq_true, Option.some_or, Option.none_or, Bool.not_true, Bool.not_false, retOf_rt, retOf_nx, c_0, c_1, c_2, c_3, c_7, c_12, eq_self, decide_true, decide_false, id, Int.reduceEq, Int.reduceLT, Int.reduceLE, Int.reduceAdd, Int.reduceSub, Int.reduceToNat, b__law_is_due, k__law_is_due_4, k__law_is_due_3, k__law_is_due_2, e1, e4, e2, e3, mkTup3, e5, e6, List.length_map]
  | true => simp only [to_ok, seqK_nx, seqK_rt, seq_app, set1_app, ret_app, skip_app, ifS_app, op2_app, op1_app, app_app, nilA_app, consA_app, con_app, slot_some, var_app, call1_app, callK_app, bind_to, pure_to, toB_b, tstB_app, tst_app, toT_b, toT_i, toT_n, andT_app, orT_app, notT_app, andV_app, orV_app, notV_app, ifV_app, chain_app, dropE_app, asg_app, setN_app, methL1_app, forS_app, lcS_app, walk_app, yes_app, optR_some, pur2_app, purA_app, iop_int, iop_tup, addF_int, mulF_int, int2_int, intO_int, eqD_int, lenO_tup, isiF_app, isiR_tt, isiR_ii, isiR_ib, itemsT_tup, ix0, ix1, List.getElem?_cons_zero, List.getElem?_cons_succ, List.set_cons_zero, List.set_cons_succ, List.length_cons, List.length_nil, Nat.reduceAdd, ↓reduceIte, Bool.false_eq_true, Option.some_or, Option.none_or, Bool.not_true, Bool.not_false, retOf_rt, retOf_nx, c_0, c_1, c_2, c_3, c_7, c_12, eq_self, decide_true, decide_false, id, Int.reduceEq, Int.reduceLT, Int.reduceLE, Int.reduceAdd, Int.reduceSub, Int.reduceToNat, b__law_is_due, k__law_is_due_4, k__law_is_due_3, k__law_is_due_2, k__law_is_due_1, e1, e4, e2, e3, mkTup3, e5, e6, e7, List.length_map, and_self]
end
end K01
end
section
set_option maxHeartbeats 400000
namespace K01
open PySem PySem.Spec PyProof.Rows L2 RZ RT Fx CC
theorem slF_app {s : D → Option Int → Option Int → M D} {f : Sl → M D} {l h : Sl → M (Option Int)} {ρ : Sl} {S : Sto} : slF s f l h ρ S = (f ρ S).to fun a S => (l ρ S).to fun lo S => (h ρ S).to fun hi S => s a lo hi S := nz rfl
theorem noPart_app {ρ : Sl} {S : Sto} : noPart ρ S = .ok none S := nz rfl
theorem part63 {ρ : Sl} {S : Sto} {i : Int} : part (con (.int i)) ρ S = .ok (some i) S := nz rfl
theorem cut_map {α β : Type} (f : α → β) (l : List α) (lo hi : Option Int) : cutD (l.map f) lo hi = (cutD l lo hi).map f := by
  unfold Fx.cutD
  rw [List.length_map, List.map_take, List.map_drop]
theorem cut_len {α : Type} (l : List α) (lo hi : Option Int) : (cutD l lo hi).length ≤ l.length := by
  unfold Fx.cutD
  rw [List.length_take, List.length_drop]
  omega
theorem slL_list {S : Sto} {ns : List Int} {lo hi : Option Int} : slL (.d (.list (ns.map .int))) lo hi S = .ok (.ob S.length) (S ++ [.lst (intsL (cutD ns lo hi))]) := by
  show R.ok (D.ob S.length) (S ++ [O.lst ((cutD (ns.map PyData.int) lo hi).map D.d)]) = _
  rw [cut_map]
  simp [intsL]
def consPK (k d : D) (ds : List (Key × D)) (S : Sto) : R (List (Key × D)) := match keyD k with
  | some key => .ok ((key, d) :: ds) S
  | none => .stuck
theorem consP_app {k f : Sl → M D} {r : Sl → M (List (Key × D))} {ρ : Sl} {S : Sto} : consP k f r ρ S = (k ρ S).to fun kd S => (f ρ S).to fun d S => (r ρ S).to fun ds S => consPK kd d ds S := nz rfl
theorem consPK_s {k : Str} {d : D} {ds : List (Key × D)} {S : Sto} : consPK (.d (.str k)) d ds S = .ok ((.inr k, d) :: ds) S := nz rfl
theorem nilP_app {ρ : Sl} {S : Sto} : nilP ρ S = .ok [] S := nz rfl
theorem deck_ok (ns : List Int) (hl : ns.length ≤ 63) : ∃ A B C S, f__law_deck [.d (.list (ns.map .int))] [] = .ok (.ob 4) S ∧ DkS A B C [] S := by
  let cs := cutD ns none (some 63)
  have hcs : cs.length ≤ 63 := Nat.le_trans (cut_len _ _ _) hl
  have k2 : ∀ i : Int, CMul i 48271 := fun i => cmul_r (by omega) (by omega)
  obtain ⟨ρ2, S2, e, rfl, m, o, rfl⟩ := forL_ix (gd := fun S' => S'[0]? = some (.lst (intsL cs))) (t := setN 2) (b := l__law_deck_1) (items := intsL cs) (ρ := [some (.d (.list (ns.map .int))), some (.d (.int 10898001)), none]) (S := [.lst (intsL cs)])
    (fun i ρ S' => S' = [.lst (intsL cs)] ∧ ∃ m o, ρ = [some (.d (.list (ns.map .int))), some (.d (.int m)), o]) (fun i ρ S' _ ⟨h, _⟩ => by rw [h]; rfl) (by
      rintro i x ρ S' hx ⟨rfl, m, o, rfl⟩
      obtain ⟨c, hc, rfl⟩ := map_some hx
      refine ⟨_, _, [some (.d (.list (ns.map .int))), some (.d (.int (Int.fmod (m * 48271 + Int.fmod c 2147483629 + 59) 2147483587))), some (.d (.int c))], [.lst (intsL cs)], rfl, ?_, rfl, _, _, rfl⟩
      simp only [to_ok, seqK_nx, seqK_rt, seq_app, set1_app, ret_app, skip_app, ifS_app, op2_app, op1_app, app_app, nilA_app, consA_app, con_app, slot_some, var_app, call1_app, callK_app, bind_to, pure_to, toB_b, tstB_app, tst_app, toT_b, toT_i, toT_n, andT_app, orT_app, notT_app, andV_app, orV_app, notV_app, ifV_app, chain_app, dropE_app, asg_app, setN_app, methL1_app, forS_app, lcS_app, walk_app, yes_app, optR_some, pur2_app, purA_app, iop_int, iop_tup, addF_int, mulF_int, int2_int, intO_int, eqD_int, lenO_tup, isiF_app, isiR_tt, isiR_ii, isiR_ib, itemsT_tup, ix0, ix1, List.getElem?_cons_zero, List.getElem?_cons_succ, List.set_cons_zero, List.set_cons_succ, List.length_cons, List.length_nil, Nat.reduceAdd, ↓reduceIte, Bool.false_eq_true, Option.some_or, Option.none_or, Bool.not_true, Bool.not_false, retOf_rt, retOf_nx, c_0, c_1, c_2, c_3, c_7, c_12, eq_self, decide_true, decide_false, id, Int.reduceEq, Int.reduceLT, Int.reduceLE, Int.reduceAdd, Int.reduceSub, Int.reduceToNat, l__law_deck_1, k2, ne_eq, not_false_eq_true]) ⟨rfl, _, _, rfl⟩
  have e1 : slL (.d (.list (ns.map .int))) none (some 63) [] = .ok (.ob 0) [.lst (intsL cs)] := slL_list
  have e2 : slL (.d (.list (ns.map .int))) none (some 63) [.lst (intsL cs)] = .ok (.ob 1) [.lst (intsL cs), .lst (intsL cs)] := slL_list
  have e3 : itemsL (.ob 0) [.lst (intsL cs)] = .ok (intsL cs, fun S' => S'[0]? = some (.lst (intsL cs))) [.lst (intsL cs)] := rfl
  have e4 : toList [.ob 1] [.lst (intsL cs), .lst (intsL cs)] = .ok (.ob 2) [.lst (intsL cs), .lst (intsL cs), .lst (intsL cs)] := rfl
  have e5 : revF (.ob 2) [.lst (intsL cs), .lst (intsL cs), .lst (intsL cs)] = .ok (.ob 3) [.lst (intsL cs), .lst (intsL cs), .lst (intsL cs), .lst (intsL cs.reverse)] := by
    show R.ok (D.ob 3) ([.lst (intsL cs), .lst (intsL cs), .lst (intsL cs)] ++ [O.lst (intsL cs).reverse]) = _
    simp [intsL]
  have e6 : dispK [(.inr "cells", .ob 3), (.inr "mixed", .d (.int m)), (.inr "draws", .d (.int 0))] [.lst (intsL cs), .lst (intsL cs), .lst (intsL cs), .lst (intsL cs.reverse)] = .ok (.ob 4) (dkS (.lst (intsL cs)) (.lst (intsL cs)) (.lst (intsL cs)) cs.reverse m 0 []) := by
    unfold dispK
    rw [if_pos ⟨by show 3 ≤ 15; omega, by simp only [List.map_cons, List.map_nil]; decide +kernel⟩]
    rfl
  refine ⟨.lst (intsL cs), .lst (intsL cs), .lst (intsL cs), _, ?_, cs.reverse, m, 0, rfl, by simpa using hcs, ?_⟩
  · rw [u__law_deck]
    simp only [to_ok, seqK_nx, seqK_rt, seq_app, set1_app, ret_app, skip_app, ifS_app, op2_app, op1_app, app_app, nilA_app, consA_app, con_app, slot_some, var_app, call1_app, callK_app, bind_to, pure_to, toB_b, tstB_app, tst_app, toT_b, toT_i, toT_n, andT_app, orT_app, notT_app, andV_app, orV_app, notV_app, ifV_app, chain_app, dropE_app, asg_app, setN_app, methL1_app, forS_app, lcS_app, walk_app, yes_app, optR_some, pur2_app, purA_app, iop_int, iop_tup, addF_int, mulF_int, int2_int, intO_int, eqD_int, lenO_tup, isiF_app, isiR_tt, isiR_ii, isiR_ib, itemsT_tup, ix0, ix1, List.getElem?_cons_zero, List.getElem?_cons_succ, List.set_cons_zero, List.set_cons_succ, List.length_cons, List.length_nil, Nat.reduceAdd, ↓reduceIte, Bool.false_eq_true, Option.some_or, Option.none_or, Bool.not_true, Bool.not_false, retOf_rt, retOf_nx, c_0, c_1, c_2, c_3, c_7, c_12, eq_self, decide_true, decide_false, id, Int.reduceEq, Int.reduceLT, Int.reduceLE, Int.reduceAdd, Int.reduceSub, Int.reduceToNat, b__law_deck, slF_app, noPart_app, part63, e1, e3, e, e2, e4, e5, consP_app, consPK_s, nilP_app, e6, dispF]
  · intro o ho
    simp only [dkS, List.mem_cons, List.not_mem_nil, or_false] at ho
    rcases ho with rfl | rfl | rfl | rfl | rfl
    · exact intsL_closed _
    · exact intsL_closed _
    · exact intsL_closed _
    · exact intsL_closed _
    · intro p hp
      simp only [List.mem_cons, List.not_mem_nil, or_false] at hp
      rcases hp with rfl | rfl | rfl
      · show 3 < 5; omega
      · trivial
      · trivial
/-- a row of pegs up to k -/
def UpTo (k : Int) (q : List Int) : Prop := q.Pairwise (· < ·) ∧ ∀ x ∈ q, 1 ≤ x ∧ x ≤ k
theorem UpTo.add {k y : Int} {q : List Int} (h : UpTo k q) (hy : k < y) (h0 : 1 ≤ y) : UpTo y (q ++ [y]) := by
  refine ⟨?_, fun x hx => ?_⟩
  · rw [List.pairwise_append]
    refine ⟨h.1, by simp, fun a ha b hb => ?_⟩
    rw [List.mem_singleton.mp hb]
    have := (h.2 a ha).2
    omega
  · rcases List.mem_append.mp hx with hx | hx
    · have := h.2 x hx; omega
    · rw [List.mem_singleton.mp hx]; omega
theorem UpTo.mono {k k' : Int} {q : List Int} (h : UpTo k q) (hk : k ≤ k') : UpTo k' q := ⟨h.1, fun x hx => by have := h.2 x hx; omega⟩
section
variable {A B C : O} {L G : Sto}
theorem set_ok {n : Nat} {S : Sto} (h : DkS A B C L S) (hn : n ≤ 10) : ∃ (q : List Int) (S' : Sto), f__law_set [.ob 4, .d (.int n)] S = .ok (.d (tupI q)) S' ∧ DkS A B C L S' ∧ UpTo n q ∧ q.length ≤ 100 := by
  obtain ⟨way, S1, e1, h1, _, _⟩ := draw_ok (many := 4) h (by omega) (by omega)
  obtain ⟨acc, S2, e, hS, q, rfl, hq, hl⟩ := lcL_ix (gd := freeG) (vs := [3]) (t := setN 3) (tt := t__law_set_1) (el := e__law_set_1) (items := rangeD 1 n) (ρ := [some (.ob 4), some (.d (.int n)), some (.d (.int way)), none]) (S := S1)
    (fun i acc S' => DkS A B C L S' ∧ ∃ q, acc = intsL q ∧ UpTo i q ∧ q.length ≤ i) (fun _ _ _ _ _ => trivial) (by
      rintro i x acc S' hx ⟨hS, q, rfl, hq, hl⟩
      obtain ⟨hk, rfl⟩ := rangeD_some hx
      obtain ⟨v, S3, e3, h3, _, _⟩ := draw_ok (many := 4) hS (by omega) (by omega)
      refine ⟨by simp [intsL, sizeLine]; omega, [some (.ob 4), some (.d (.int n)), some (.d (.int way)), some (.d (.int (1 + i)))], S', decide (way ≤ v), S3, rfl, by simp only [to_ok, seqK_nx, seqK_rt, seq_app, set1_app, ret_app, skip_app, ifS_app, op2_app, op1_app, app_app, nilA_app, consA_app, con_app, slot_some, var_app, call1_app, callK_app, bind_to, pure_to, toB_b, tstB_app, tst_app, toT_b, toT_i, toT_n, andT_app, orT_app, notT_app, andV_app, orV_app, notV_app, ifV_app, chain_app, dropE_app, asg_app, setN_app, methL1_app, forS_app, lcS_app, walk_app, yes_app, optR_some, pur2_app, purA_app, iop_int, iop_tup, addF_int, mulF_int, int2_int, intO_int, eqD_int, lenO_tup, isiF_app, isiR_tt, isiR_ii, isiR_ib, itemsT_tup, ix0, ix1, List.getElem?_cons_zero, List.getElem?_cons_succ, List.set_cons_zero, List.set_cons_succ, List.length_cons, List.length_nil, Nat.reduceAdd, ↓reduceIte, Bool.false_eq_true, Option.some_or, Option.none_or, Bool.not_true, Bool.not_false, retOf_rt, retOf_nx, c_0, c_1, c_2, c_3, c_7, c_12, eq_self, decide_true, decide_false, id, Int.reduceEq, Int.reduceLT, Int.reduceLE, Int.reduceAdd, Int.reduceSub, Int.reduceToNat, t__law_set_1, e3], ?_⟩
      by_cases hv : way ≤ v
      · rw [if_pos (by simpa using hv)]
        refine ⟨.d (.int (1 + i)), S3, by simp only [to_ok, seqK_nx, seqK_rt, seq_app, set1_app, ret_app, skip_app, ifS_app, op2_app, op1_app, app_app, nilA_app, consA_app, con_app, slot_some, var_app, call1_app, callK_app, bind_to, pure_to, toB_b, tstB_app, tst_app, toT_b, toT_i, toT_n, andT_app, orT_app, notT_app, andV_app, orV_app, notV_app, ifV_app, chain_app, dropE_app, asg_app, setN_app, methL1_app, forS_app, lcS_app, walk_app, yes_app, optR_some, pur2_app, purA_app, iop_int, iop_tup, addF_int, mulF_int, int2_int, intO_int, eqD_int, lenO_tup, isiF_app, isiR_tt, isiR_ii, isiR_ib, itemsT_tup, ix0, ix1, List.getElem?_cons_zero, List.getElem?_cons_succ, List.set_cons_zero, List.set_cons_succ, List.length_cons, List.length_nil, Nat.reduceAdd, ↓reduceIte, Bool.false_eq_true, Option.some_or, Option.none_or, Bool.not_true, Bool.not_false, retOf_rt, retOf_nx, c_0, c_1, c_2, c_3, c_7, c_12, eq_self, decide_true, decide_false, id, Int.reduceEq, Int.reduceLT, Int.reduceLE, Int.reduceAdd, Int.reduceSub, Int.reduceToNat, e__law_set_1], h3, q ++ [1 + (i : Int)], by simp [intsL], ?_, by simp; omega⟩
        have := hq.add (y := 1 + (i : Int)) (by omega) (by omega)
        rwa [show (1 + (i : Int)) = ((i + 1 : Nat) : Int) by omega] at this ⊢
      · rw [if_neg (by simpa using hv)]
        exact ⟨h3, q, rfl, hq.mono (by omega), by omega⟩) ⟨h1, [], rfl, ⟨.nil, fun x hx => by cases hx⟩, by simp⟩
  rw [rangeD_length] at hq hl
  have h2 := hS.push (o := .lst (intsL q)) (intsL_closed _)
  have er : itemsR2 [.d (.int 1), .d (.int ((n : Int) + 1))] S1 = .ok (rangeD 1 n, freeG) S1 := by
    have := itemsR2_int (S := S1) (i := 1) (j := (n : Int) + 1) (okB_of (by omega) (by omega)) (okB_of (by omega) (by omega))
    rwa [show ((n : Int) + 1 - 1).toNat = n by omega] at this
  have et : toTup [.ob S2.length] (S2 ++ [.lst (intsL q)]) = .ok (.d (.tuple (q.map .int))) (S2 ++ [.lst (intsL q)]) := toTup_at (by rw [get_at0]; rfl) (pys_ints _)
  have eb : retOf (b__law_set [some (.ob 4), some (.d (.int n)), none, none] S) = .ok (.d (.tuple (q.map .int))) (S2 ++ [.lst (intsL q)]) := by
    simp only [to_ok, seqK_nx, seqK_rt, seq_app, set1_app, ret_app, skip_app, ifS_app, op2_app, op1_app, app_app, nilA_app, consA_app, con_app, slot_some, var_app, call1_app, callK_app, bind_to, pure_to, toB_b, tstB_app, tst_app, toT_b, toT_i, toT_n, andT_app, orT_app, notT_app, andV_app, orV_app, notV_app, ifV_app, chain_app, dropE_app, asg_app, setN_app, methL1_app, forS_app, lcS_app, walk_app, yes_app, optR_some, pur2_app, purA_app, iop_int, iop_tup, addF_int, mulF_int, int2_int, intO_int, eqD_int, lenO_tup, isiF_app, isiR_tt, isiR_ii, isiR_ib, itemsT_tup, ix0, ix1, List.getElem?_cons_zero, List.getElem?_cons_succ, List.set_cons_zero, List.set_cons_succ, List.length_cons, List.length_nil, Nat.reduceAdd, ↓reduceIte, Bool.false_eq_true, Option.some_or, Option.none_or, Bool.not_true, Bool.not_false, retOf_rt, retOf_nx, c_0, c_1, c_2, c_3, c_7, c_12, eq_self, decide_true, decide_false, id, Int.reduceEq, Int.reduceLT, Int.reduceLE, Int.reduceAdd, Int.reduceSub, Int.reduceToNat, b__law_set, e1, er, e, et]
  obtain ⟨S', eg, hg⟩ := gc_dk h h2 eb
  exact ⟨q, S', by rw [u__law_set]; exact eg, hg, hq, by omega⟩
end
theorem sets_ok {n : Nat} {S : Sto} (h : Closed S) (hn : n ≤ 10) : ∃ Q : List (List Int), f__law_sets [.d (.int n)] S = .ok (.ob S.length) (S ++ [.lst (partsL Q)]) ∧ Q.length ≤ 1024 ∧ ∀ q ∈ Q, UpTo n q ∧ q.length ≤ 100 := by
  obtain ⟨ρ2, S2, e, Q, G, k, o2, rfl, rfl, hk, hkl, hcl, hQl, hQ⟩ := forL_ix (gd := freeG) (t := setN 2) (b := l__law_sets_1) (items := rangeD 1 n) (ρ := [some (.d (.int n)), some (.ob S.length), none, none]) (S := S ++ [.lst [.d (.tuple [])]])
    (fun i ρ S' => ∃ Q G k o2, ρ = [some (.d (.int n)), some (.ob k), o2, none] ∧ S' = S ++ G ∧ S'[k]? = some (.lst (partsL Q)) ∧ S.length ≤ k ∧ Closed S' ∧ Q.length = 2 ^ i ∧ ∀ q ∈ Q, UpTo i q ∧ q.length ≤ i) (fun _ _ _ _ _ => trivial) (by
      rintro i x ρ S' hx ⟨Q, G, k, o2, rfl, rfl, hk, hkl, hcl, hQl, hQ⟩
      obtain ⟨hin, rfl⟩ := rangeD_some hx
      have hp : 2 ^ i ≤ 512 := by
        have : 2 ^ i ≤ 2 ^ 9 := Nat.pow_le_pow_right (by omega) (by omega)
        simpa using this
      have hk0 : k < (S ++ G).length := (List.getElem?_eq_some_iff.mp hk).1
      obtain ⟨acc, S3, e3, rfl, rfl⟩ := lcL_ix (gd := fun S' => S'[k]? = some (.lst (partsL Q))) (vs := [3]) (t := setN 3) (tt := yes) (el := e__law_sets_1) (items := partsL Q) (ρ := [some (.d (.int n)), some (.ob k), some (.d (.int (1 + i))), none]) (S := S ++ G)
        (fun j acc S' => S' = S ++ G ∧ acc = partsL ((Q.take j).map fun q => q ++ [1 + (i : Int)])) (fun j acc S' _ ⟨h, _⟩ => by rw [h]; exact hk) (by
          rintro j x acc S' hx ⟨rfl, rfl⟩
          obtain ⟨q, hq, rfl⟩ := map_some hx
          have hql := (hQ q (List.mem_of_getElem? hq)).2
          have hjl : j < Q.length := (List.getElem?_eq_some_iff.mp hq).1
          have e4 := addF_tt (S := S ++ G) (l := q) (k := [1 + (i : Int)]) (by simp; omega)
          simp only [List.map_cons, List.map_nil] at e4
          refine ⟨by simp [partsL, sizeLine]; omega, [some (.d (.int n)), some (.ob k), some (.d (.int (1 + i))), some (.d (tupI q))], S ++ G, true, S ++ G, rfl, rfl, ?_⟩
          rw [if_pos rfl]
          refine ⟨.d (tupI (q ++ [1 + (i : Int)])), S ++ G, by unfold tupI; simp only [to_ok, seqK_nx, seqK_rt, seq_app, set1_app, ret_app, skip_app, ifS_app, op2_app, op1_app, app_app, nilA_app, consA_app, con_app, slot_some, var_app, call1_app, callK_app, bind_to, pure_to, toB_b, tstB_app, tst_app, toT_b, toT_i, toT_n, andT_app, orT_app, notT_app, andV_app, orV_app, notV_app, ifV_app, chain_app, dropE_app, asg_app, setN_app, methL1_app, forS_app, lcS_app, walk_app, yes_app, optR_some, pur2_app, purA_app, iop_int, iop_tup, addF_int, mulF_int, int2_int, intO_int, eqD_int, lenO_tup, isiF_app, isiR_tt, isiR_ii, isiR_ib, itemsT_tup, ix0, ix1, List.getElem?_cons_zero, List.getElem?_cons_succ, List.set_cons_zero, List.set_cons_succ, List.length_cons, List.length_nil, Nat.reduceAdd, ↓reduceIte, Bool.false_eq_true, Option.some_or, Option.none_or, Bool.not_true, Bool.not_false, retOf_rt, retOf_nx, c_0, c_1, c_2, c_3, c_7, c_12, eq_self, decide_true, decide_false, id, Int.reduceEq, Int.reduceLT, Int.reduceLE, Int.reduceAdd, Int.reduceSub, Int.reduceToNat, e__law_sets_1, mkTup1, e4], rfl, ?_⟩
          rw [List.take_add_one, hq]
          simp [partsL]) ⟨rfl, by simp [partsL]⟩
      have hpl : (partsL Q).length = Q.length := by simp [partsL]
      rw [hpl, List.take_length] at e3
      have g2 : (S ++ G ++ [O.lst (partsL (Q.map fun q => q ++ [1 + (i : Int)]))])[k]? = some (.lst (partsL Q)) := by rw [List.getElem?_append_left hk0]; exact hk
      have e5 := addF_lst (a := k) (b := (S ++ G).length) g2 (by rw [get_at0]; rfl) (by simp [partsL]; omega)
      have hnew : partsL Q ++ partsL (Q.map fun q => q ++ [1 + (i : Int)]) = partsL (Q ++ Q.map fun q => q ++ [1 + (i : Int)]) := by simp [partsL]
      rw [hnew] at e5
      have eI : itemsL (.ob k) (S ++ G) = .ok (partsL Q, fun S' => S'[k]? = some (.lst (partsL Q))) (S ++ G) := by
        unfold itemsL
        simp only [srcL, hk]
      refine ⟨_, _, [some (.d (.int n)), some (.ob (S ++ G ++ [O.lst (partsL (Q.map fun q => q ++ [1 + (i : Int)]))]).length), some (.d (.int (1 + i))), none], S ++ (G ++ [O.lst (partsL (Q.map fun q => q ++ [1 + (i : Int)]))] ++ [O.lst (partsL (Q ++ Q.map fun q => q ++ [1 + (i : Int)]))]), rfl, ?_, Q ++ Q.map fun q => q ++ [1 + (i : Int)], _, _, _, rfl, rfl, ?_, ?_, ?_, ?_, ?_⟩
      · simp only [to_ok, seqK_nx, seqK_rt, seq_app, set1_app, ret_app, skip_app, ifS_app, op2_app, op1_app, app_app, nilA_app, consA_app, con_app, slot_some, var_app, call1_app, callK_app, bind_to, pure_to, toB_b, tstB_app, tst_app, toT_b, toT_i, toT_n, andT_app, orT_app, notT_app, andV_app, orV_app, notV_app, ifV_app, chain_app, dropE_app, asg_app, setN_app, methL1_app, forS_app, lcS_app, walk_app, yes_app, optR_some, pur2_app, purA_app, iop_int, iop_tup, addF_int, mulF_int, int2_int, intO_int, eqD_int, lenO_tup, isiF_app, isiR_tt, isiR_ii, isiR_ib, itemsT_tup, ix0, ix1, List.getElem?_cons_zero, List.getElem?_cons_succ, List.set_cons_zero, List.set_cons_succ, List.length_cons, List.length_nil, Nat.reduceAdd, ↓reduceIte, Bool.false_eq_true, Option.some_or, Option.none_or, Bool.not_true, Bool.not_false, retOf_rt, retOf_nx, c_0, c_1, c_2, c_3, c_7, c_12, eq_self, decide_true, decide_false, id, Int.reduceEq, Int.reduceLT, Int.reduceLE, Int.reduceAdd, Int.reduceSub, Int.reduceToNat, l__law_sets_1, eI, e3, e5]
        simp
      · rw [← List.append_assoc, ← List.append_assoc, get_at0]; rfl
      · simp
      · have := closed_push (closed_push hcl (partsL_closed (Q.map fun q => q ++ [1 + (i : Int)]))) (partsL_closed (Q ++ Q.map fun q => q ++ [1 + (i : Int)]))
        simpa using this
      · simp [hQl, Nat.pow_succ]; omega
      · intro q hq
        rcases List.mem_append.mp hq with hq | hq
        · obtain ⟨a, b⟩ := hQ q hq
          exact ⟨a.mono (by omega), by omega⟩
        · obtain ⟨p, hp', rfl⟩ := List.mem_map.mp hq
          obtain ⟨a, b⟩ := hQ p hp'
          refine ⟨?_, by simp; omega⟩
          have := a.add (y := 1 + (i : Int)) (by omega) (by omega)
          rwa [show (1 + (i : Int)) = ((i + 1 : Nat) : Int) by omega] at this ⊢) ⟨[[]], [.lst [.d (.tuple [])]], S.length, none, rfl, rfl, by rw [get_at0]; rfl, Nat.le_refl _, closed_push h (partsL_closed [[]]), rfl, fun q hq => by
        rw [List.mem_singleton.mp hq]; exact ⟨⟨.nil, fun x hx => by cases hx⟩, by simp⟩⟩
  rw [rangeD_length] at hQl hQ
  have hp : 2 ^ n ≤ 1024 := by
    have : 2 ^ n ≤ 2 ^ 10 := Nat.pow_le_pow_right (by omega) hn
    simpa using this
  have er : itemsR2 [.d (.int 1), .d (.int ((n : Int) + 1))] (S ++ [.lst [.d (.tuple [])]]) = .ok (rangeD 1 n, freeG) (S ++ [.lst [.d (.tuple [])]]) := by
    have := itemsR2_int (S := S ++ [.lst [.d (.tuple [])]]) (i := 1) (j := (n : Int) + 1) (okB_of (by omega) (by omega)) (okB_of (by omega) (by omega))
    rwa [show ((n : Int) + 1 - 1).toNat = n by omega] at this
  have e0 := mkLst_ok (S := S) (ds := [.d (.tuple [])]) (by simp)
  refine ⟨Q, ?_, by omega, fun q hq => ⟨(hQ q hq).1, by have := (hQ q hq).2; omega⟩⟩
  rw [u__law_sets]
  refine gc_ob (G := G) (i := k) (o := .lst (partsL Q)) ?_ hk hkl (partsL_closed _) rfl h
  simp only [to_ok, seqK_nx, seqK_rt, seq_app, set1_app, ret_app, skip_app, ifS_app, op2_app, op1_app, app_app, nilA_app, consA_app, con_app, slot_some, var_app, call1_app, callK_app, bind_to, pure_to, toB_b, tstB_app, tst_app, toT_b, toT_i, toT_n, andT_app, orT_app, notT_app, andV_app, orV_app, notV_app, ifV_app, chain_app, dropE_app, asg_app, setN_app, methL1_app, forS_app, lcS_app, walk_app, yes_app, optR_some, pur2_app, purA_app, iop_int, iop_tup, addF_int, mulF_int, int2_int, intO_int, eqD_int, lenO_tup, isiF_app, isiR_tt, isiR_ii, isiR_ib, itemsT_tup, ix0, ix1, List.getElem?_cons_zero, List.getElem?_cons_succ, List.set_cons_zero, List.set_cons_succ, List.length_cons, List.length_nil, Nat.reduceAdd, ↓reduceIte, Bool.false_eq_true, Option.some_or, Option.none_or, Bool.not_true, Bool.not_false, retOf_rt, retOf_nx, c_0, c_1, c_2, c_3, c_7, c_12, eq_self, decide_true, decide_false, id, Int.reduceEq, Int.reduceLT, Int.reduceLE, Int.reduceAdd, Int.reduceSub, Int.reduceToNat, b__law_sets, mkTup0, e0, er, e]
end K01
end
section
set_option maxHeartbeats 400000
namespace K01
open PySem PySem.Spec PyProof.Rows L2 RZ RT Fx CC
theorem okRepr_b3 (a b c : Bool) : okRepr (.tuple [.bool a, .bool b, .bool c]) := by
  cases a <;> cases b <;> cases c <;> exact ⟨by decide +kernel, by decide +kernel, by decide +kernel, by decide +kernel⟩
theorem okRepr_tt : okRepr (.tuple [.bool true, .bool true]) := ⟨by decide +kernel, by decide +kernel, by decide +kernel, by decide +kernel⟩
theorem shown_tt : (PyData.tuple [.bool true, .bool true]).shown = "(True, True)" := by decide +kernel
theorem sok_b3 (a b c : Bool) : SOk (PyData.tuple [.bool a, .bool b, .bool c]).shown := sok_shownT fun x hx => by
  simp only [List.mem_cons, List.not_mem_nil, or_false] at hx
  rcases hx with rfl | rfl | rfl <;> exact sok_bool _
section
variable {A B C : O} {L G : Sto} {W : Wall}
theorem ties_ok {o0 o1 o6 o7 o8 o9 o10 : Option D} {i j : Int} {S : Sto} (h : Closed S) (hij : i < j) :
    l_law_1 [o0, o1, some W.d, o7, some (.d (.int i)), some (.d (.int j)), o6, o8, o9, o10, none] S = .ok (.nx [o0, o1, some W.d, o7, some (.d (.int i)), some (.d (.int j)), some (.d (.bool (decide (W.tie i j)))), o8, o9, o10, none]) S := by
  have e1 : ixF W.d (.d (.int 1)) S = .ok (.d (.tuple (W.rs.map railD))) S := by unfold Wall.d; exact ix1
  have e2 := notIn_rails (S := S) (rs := W.rs) (a := i) (b := j)
  have e3 : (!decide ((i, j) ∈ W.rs)) = decide (W.tie i j) := by
    have a1 : mn i j = i := if_neg (by omega)
    have a2 : mx i j = j := if_pos (by omega)
    by_cases hm : (i, j) ∈ W.rs
    · rw [decide_eq_true hm, decide_eq_false (fun t : W.tie i j => t.2 (by rw [a1, a2]; exact hm))]; rfl
    · rw [decide_eq_false hm, decide_eq_true (show W.tie i j from ⟨by omega, by rw [a1, a2]; exact hm⟩)]; rfl
  rw [e3] at e2
  have e4 : decide (W.tie j i) = decide (W.tie i j) := by
    by_cases ht : W.tie i j
    · rw [decide_eq_true ht, decide_eq_true (W.tie_symm ht)]
    · rw [decide_eq_false ht, decide_eq_false fun t => ht (W.tie_symm t)]
  have t1 := tied_ok W (i := i) (j := j) h
  have t2 := tied_ok W (i := j) (j := i) h
  rw [e4] at t2
  generalize decide (W.tie i j) = b at *
  have e5 := repr_ok (S := S) (okRepr_b3 b b b)
  have e6 : ∀ k, eqD k S _ _ = _ := fun k => eq_strs (S := S) (k := k) (sok_b3 b b b)
  have e7 : permL [2, 1, 0] [D.d (.int j), D.d (.int i), W.d] = [W.d, D.d (.int i), D.d (.int j)] := rfl
  simp only [to_ok, seqK_nx, seqK_rt, seq_app, set1_app, ret_app, skip_app, ifS_app, op2_app, op1_app, app_app, nilA_app, consA_app, con_app, slot_some, var_app, call1_app, callK_app, bind_to, pure_to, toB_b, tstB_app, tst_app, toT_b, toT_i, toT_n, andT_app, orT_app, notT_app, andV_app, orV_app, notV_app, ifV_app, chain_app, dropE_app, asg_app, setN_app, methL1_app, forS_app, lcS_app, walk_app, yes_app, optR_some, pur2_app, purA_app, iop_int, iop_tup, addF_int, mulF_int, int2_int, intO_int, eqD_int, lenO_tup, isiF_app, isiR_tt, isiR_ii, isiR_ib, itemsT_tup, ix0, ix1, List.getElem?_cons_zero, List.getElem?_cons_succ, List.set_cons_zero, List.set_cons_succ, List.length_cons, List.length_nil, Nat.reduceAdd, ↓reduceIte, Bool.false_eq_true, Option.some_or, Option.none_or, Bool.not_true, Bool.not_false, retOf_rt, retOf_nx, c_0, c_1, c_2, c_3, c_7, c_12, eq_self, decide_true, decide_false, id, Int.reduceEq, Int.reduceLT, Int.reduceLE, Int.reduceAdd, Int.reduceSub, Int.reduceToNat, l_law_1, mkTup2, e1, e2, t1, t2, mkTup3, e5, e6, e7, and_self]
theorem all_ties {o0 o1 : Option D} {S : Sto} (h : Closed S) : ∃ o4 o5 o6, forL freeG (setN 4) l_law_2 (rangeD 1 W.sl.length) [o0, o1, some W.d, some (.d (.int (W.sl.length : Nat))), none, none, none, none, none, none, none] S = .ok (.nx [o0, o1, some W.d, some (.d (.int (W.sl.length : Nat))), o4, o5, o6, none, none, none, none]) S := by
  have hW := W.hl
  obtain ⟨ρ2, S2, e, rfl, o4, o5, o6, rfl⟩ := forL_ix (gd := freeG) (t := setN 4) (b := l_law_2) (items := rangeD 1 W.sl.length) (ρ := [o0, o1, some W.d, some (.d (.int (W.sl.length : Nat))), none, none, none, none, none, none, none]) (S := S)
    (fun i ρ S' => S' = S ∧ ∃ o4 o5 o6, ρ = [o0, o1, some W.d, some (.d (.int (W.sl.length : Nat))), o4, o5, o6, none, none, none, none]) (fun _ _ _ _ _ => trivial) (by
      rintro i x ρ S' hx ⟨rfl, o4, o5, o6, rfl⟩
      obtain ⟨hi, rfl⟩ := rangeD_some hx
      obtain ⟨ρ3, S3, e3, rfl, o5', o6', rfl⟩ := forL_ix (gd := freeG) (t := setN 5) (b := l_law_1) (items := rangeD (1 + (i : Int) + 1) ((W.sl.length : Int) + 1 - (1 + (i : Int) + 1)).toNat) (ρ := [o0, o1, some W.d, some (.d (.int (W.sl.length : Nat))), some (.d (.int (1 + i))), o5, o6, none, none, none, none]) (S := S')
        (fun j ρ S'' => S'' = S' ∧ ∃ o5 o6, ρ = [o0, o1, some W.d, some (.d (.int (W.sl.length : Nat))), some (.d (.int (1 + i))), o5, o6, none, none, none, none]) (fun _ _ _ _ _ => trivial) (by
          rintro j x ρ S'' hx ⟨rfl, o5, o6, rfl⟩
          obtain ⟨hj, rfl⟩ := rangeD_some hx
          exact ⟨_, _, _, _, rfl, ties_ok h (by omega), rfl, _, _, rfl⟩) ⟨rfl, _, _, rfl⟩
      have er : itemsR2 [.d (.int (1 + (i : Int) + 1)), .d (.int (((W.sl.length : Nat) : Int) + 1))] S3 = .ok (rangeD (1 + (i : Int) + 1) ((W.sl.length : Int) + 1 - (1 + (i : Int) + 1)).toNat, freeG) S3 := itemsR2_int (okB_of (by omega) (by omega)) (okB_of (by omega) (by omega))
      refine ⟨[o0, o1, some W.d, some (.d (.int (W.sl.length : Nat))), some (.d (.int (1 + i))), o5, o6, none, none, none, none], S3, [o0, o1, some W.d, some (.d (.int (W.sl.length : Nat))), some (.d (.int (1 + i))), o5', o6', none, none, none, none], S3, rfl, ?_, rfl, some (.d (.int (1 + i))), o5', o6', rfl⟩
      simp only [to_ok, seqK_nx, seqK_rt, seq_app, set1_app, ret_app, skip_app, ifS_app, op2_app, op1_app, app_app, nilA_app, consA_app, con_app, slot_some, var_app, call1_app, callK_app, bind_to, pure_to, toB_b, tstB_app, tst_app, toT_b, toT_i, toT_n, andT_app, orT_app, notT_app, andV_app, orV_app, notV_app, ifV_app, chain_app, dropE_app, asg_app, setN_app, methL1_app, forS_app, lcS_app, walk_app, yes_app, optR_some, pur2_app, purA_app, iop_int, iop_tup, addF_int, mulF_int, int2_int, intO_int, eqD_int, lenO_tup, isiF_app, isiR_tt, isiR_ii, isiR_ib, itemsT_tup, ix0, ix1, List.getElem?_cons_zero, List.getElem?_cons_succ, List.set_cons_zero, List.set_cons_succ, List.length_cons, List.length_nil, Nat.reduceAdd, ↓reduceIte, Bool.false_eq_true, Option.some_or, Option.none_or, Bool.not_true, Bool.not_false, retOf_rt, retOf_nx, c_0, c_1, c_2, c_3, c_7, c_12, eq_self, decide_true, decide_false, id, Int.reduceEq, Int.reduceLT, Int.reduceLE, Int.reduceAdd, Int.reduceSub, Int.reduceToNat, l_law_2, er, e3]) ⟨rfl, none, none, none, rfl⟩
  exact ⟨o4, o5, o6, e⟩
theorem UpTo.set {q : List Int} (h : UpTo (W.sl.length : Int) q) (hl : q.length ≤ 100) : ∃ P : PegSet W, P.d = .d (tupI q) := ⟨⟨q, by omega, h.2, h.1⟩, rfl⟩
theorem some_ok {o0 o1 o3 o4 o5 o6 o8 : Option D} {S : Sto} {k : Nat} {Q : List (List Int)} (h : Closed S) (hk : S[k]? = some (.lst (partsL Q))) (hQ : ∀ q ∈ Q, UpTo (W.sl.length : Int) q ∧ q.length ≤ 100) :
    k_law_1 [o0, o1, some W.d, o3, o4, o5, o6, some (.ob k), o8, none, none] S = .ok (.rt (.d (.bool true))) S := by
  obtain ⟨ρ2, S2, e, rfl, o9, o10, rfl⟩ := forL_ix (gd := fun S' => S'[k]? = some (.lst (partsL Q))) (t := setTup 2 (setCons (setN 9) (setCons (setN 10) setNil))) (b := l_law_3) (items := enumD (Q.map tupI)) (ρ := [o0, o1, some W.d, o3, o4, o5, o6, some (.ob k), o8, none, none]) (S := S)
    (fun i ρ S' => S' = S ∧ ∃ o9 o10, ρ = [o0, o1, some W.d, o3, o4, o5, o6, some (.ob k), o8, o9, o10]) (fun i ρ S' _ ⟨hS, _⟩ => by rw [hS]; exact hk) (by
      rintro i x ρ S' hx ⟨rfl, o9, o10, rfl⟩
      rw [enumD_get, List.getElem?_map] at hx
      cases hq : Q[i]? with
      | none => rw [hq] at hx; cases hx
      | some q =>
        rw [hq] at hx
        cases hx
        obtain ⟨P, hP⟩ := UpTo.set (hQ q (List.mem_of_getElem? hq)).1 (hQ q (List.mem_of_getElem? hq)).2
        have e1 := due_ok P (decide (Int.fmod ((i : Nat) : Int) 5 = 3)) h
        rw [hP] at e1
        refine ⟨[o0, o1, some W.d, o3, o4, o5, o6, some (.ob k), o8, some (.d (.int (i : Nat))), some (.d (tupI q))], S', [o0, o1, some W.d, o3, o4, o5, o6, some (.ob k), o8, some (.d (.int (i : Nat))), some (.d (tupI q))], S', rfl, ?_, rfl, _, _, rfl⟩
        simp only [to_ok, seqK_nx, seqK_rt, seq_app, set1_app, ret_app, skip_app, ifS_app, op2_app, op1_app, app_app, nilA_app, consA_app, con_app, slot_some, var_app, call1_app, callK_app, bind_to, pure_to, toB_b, tstB_app, tst_app, toT_b, toT_i, toT_n, andT_app, orT_app, notT_app, andV_app, orV_app, notV_app, ifV_app, chain_app, dropE_app, asg_app, setN_app, methL1_app, forS_app, lcS_app, walk_app, yes_app, optR_some, pur2_app, purA_app, iop_int, iop_tup, addF_int, mulF_int, int2_int, intO_int, eqD_int, lenO_tup, isiF_app, isiR_tt, isiR_ii, isiR_ib, itemsT_tup, ix0, ix1, List.getElem?_cons_zero, List.getElem?_cons_succ, List.set_cons_zero, List.set_cons_succ, List.length_cons, List.length_nil, Nat.reduceAdd, ↓reduceIte, Bool.false_eq_true, Option.some_or, Option.none_or, Bool.not_true, Bool.not_false, retOf_rt, retOf_nx, c_0, c_1, c_2, c_3, c_7, c_12, eq_self, decide_true, decide_false, id, Int.reduceEq, Int.reduceLT, Int.reduceLE, Int.reduceAdd, Int.reduceSub, Int.reduceToNat, l_law_3, e1, ne_eq, not_false_eq_true]) ⟨rfl, _, _, rfl⟩
  have eI : itemsE [.ob k] S2 = .ok (enumD (Q.map tupI), fun S' => S'[k]? = some (.lst (partsL Q))) S2 := by
    unfold itemsE
    simp only [srcL, hk, pys_parts]
  simp only [to_ok, seqK_nx, seqK_rt, seq_app, set1_app, ret_app, skip_app, ifS_app, op2_app, op1_app, app_app, nilA_app, consA_app, con_app, slot_some, var_app, call1_app, callK_app, bind_to, pure_to, toB_b, tstB_app, tst_app, toT_b, toT_i, toT_n, andT_app, orT_app, notT_app, andV_app, orV_app, notV_app, ifV_app, chain_app, dropE_app, asg_app, setN_app, methL1_app, forS_app, lcS_app, walk_app, yes_app, optR_some, pur2_app, purA_app, iop_int, iop_tup, addF_int, mulF_int, int2_int, intO_int, eqD_int, lenO_tup, isiF_app, isiR_tt, isiR_ii, isiR_ib, itemsT_tup, ix0, ix1, List.getElem?_cons_zero, List.getElem?_cons_succ, List.set_cons_zero, List.set_cons_succ, List.length_cons, List.length_nil, Nat.reduceAdd, ↓reduceIte, Bool.false_eq_true, Option.some_or, Option.none_or, Bool.not_true, Bool.not_false, retOf_rt, retOf_nx, c_0, c_1, c_2, c_3, c_7, c_12, eq_self, decide_true, decide_false, id, Int.reduceEq, Int.reduceLT, Int.reduceLE, Int.reduceAdd, Int.reduceSub, Int.reduceToNat, k_law_1, eI, e]
theorem draws_some {S : Sto} {n : Nat} {o0 o2 o4 o5 o6 o7 : Option D} (h : DkS A B C L S) (hn : n ≤ 10) : ∃ Q S2, lcL freeG [8] (setN 8) yes e_law_1 (rangeD 0 20) [] [o0, some (.ob 4), o2, some (.d (.int n)), o4, o5, o6, o7, none, none, none] S = .ok (.ob S2.length) (S2 ++ [.lst (partsL Q)]) ∧ DkS A B C L S2 ∧ Q.length ≤ 20 ∧ ∀ q ∈ Q, UpTo n q ∧ q.length ≤ 100 := by
  obtain ⟨acc, S2, e, hS, Q, rfl, hl, hQ⟩ := lcL_ix (gd := freeG) (vs := [8]) (t := setN 8) (tt := yes) (el := e_law_1) (items := rangeD 0 20) (ρ := [o0, some (.ob 4), o2, some (.d (.int n)), o4, o5, o6, o7, none, none, none]) (S := S)
    (fun i acc S' => DkS A B C L S' ∧ ∃ Q, acc = partsL Q ∧ Q.length ≤ i ∧ ∀ q ∈ Q, UpTo n q ∧ q.length ≤ 100) (fun _ _ _ _ _ => trivial) (by
      rintro i x acc S' hx ⟨hS, Q, rfl, hl, hQ⟩
      obtain ⟨hi, rfl⟩ := rangeD_some hx
      obtain ⟨q, S3, e3, h3, hq, hql⟩ := set_ok hS hn
      refine ⟨by simp [partsL, sizeLine]; omega, [o0, some (.ob 4), o2, some (.d (.int n)), o4, o5, o6, o7, some (.d (.int (0 + i))), none, none], S', true, S', rfl, rfl, ?_⟩
      rw [if_pos rfl]
      refine ⟨.d (tupI q), S3, by simp only [to_ok, seqK_nx, seqK_rt, seq_app, set1_app, ret_app, skip_app, ifS_app, op2_app, op1_app, app_app, nilA_app, consA_app, con_app, slot_some, var_app, call1_app, callK_app, bind_to, pure_to, toB_b, tstB_app, tst_app, toT_b, toT_i, toT_n, andT_app, orT_app, notT_app, andV_app, orV_app, notV_app, ifV_app, chain_app, dropE_app, asg_app, setN_app, methL1_app, forS_app, lcS_app, walk_app, yes_app, optR_some, pur2_app, purA_app, iop_int, iop_tup, addF_int, mulF_int, int2_int, intO_int, eqD_int, lenO_tup, isiF_app, isiR_tt, isiR_ii, isiR_ib, itemsT_tup, ix0, ix1, List.getElem?_cons_zero, List.getElem?_cons_succ, List.set_cons_zero, List.set_cons_succ, List.length_cons, List.length_nil, Nat.reduceAdd, ↓reduceIte, Bool.false_eq_true, Option.some_or, Option.none_or, Bool.not_true, Bool.not_false, retOf_rt, retOf_nx, c_0, c_1, c_2, c_3, c_7, c_12, eq_self, decide_true, decide_false, id, Int.reduceEq, Int.reduceLT, Int.reduceLE, Int.reduceAdd, Int.reduceSub, Int.reduceToNat, e_law_1, e3], h3, Q ++ [q], by simp [partsL], by simp; omega, fun p hp => ?_⟩
      rcases List.mem_append.mp hp with hp | hp
      · exact hQ p hp
      · rw [List.mem_singleton.mp hp]; exact ⟨hq, hql⟩) ⟨h, [], rfl, by simp, fun q hq => by cases hq⟩
  rw [rangeD_length] at hl
  exact ⟨Q, S2, e, hS, hl, hQ⟩
end
end K01
end
section
set_option maxHeartbeats 400000
namespace K01
open PySem PySem.Spec PyProof.Rows L2 RZ RT Fx CC
section
variable {A B C : O} {L G : Sto} {W : Wall}
theorem tupRg_app {f : Sl → M (Int × Int)} {ρ : Sl} {S : Sto} : tupRg f ρ S = (f ρ S).to fun p S => if RgOk p.1 p.2 then .ok (.d (.tuple (rgP p.1 p.2))) S else .stuck := nz rfl
theorem rg2_int {f h : Sl → M D} {ρ : Sl} {S : Sto} {i j : Int} (e1 : f ρ S = .ok (.d (.int i)) S) (e2 : h ρ S = .ok (.d (.int j)) S) : rg2 f h ρ S = .ok (i, j) S := by
  have a1 : (f ρ >>= isI) S = .ok i S := by rw [bind_of e1]; rfl
  have a2 : (h ρ >>= isI) S = .ok j S := by rw [bind_of e2]; rfl
  exact (bind_of a1).trans ((bind_of a2).trans rfl)
theorem rgP_n (n : Nat) : PyData.tuple (rgP 1 ((n : Int) + 1)) = tupI ((List.range n).map fun i => 1 + ((i : Nat) : Int)) := by
  unfold rgP tupI
  rw [show ((n : Int) + 1 - 1).toNat = n by omega]
  simp
theorem upTo_range (n : Nat) : UpTo n ((List.range n).map fun i => 1 + ((i : Nat) : Int)) := by
  refine ⟨?_, fun x hx => ?_⟩
  · rw [List.pairwise_map]
    exact List.pairwise_lt_range.imp fun h => by omega
  · obtain ⟨i, hi, rfl⟩ := List.mem_map.mp hx
    rw [List.mem_range] at hi
    omega
theorem rg_ok {n : Nat} (hn : n ≤ 10) : RgOk 1 ((n : Int) + 1) := RgOk.of_le (by omega) (by omega) (by omega) (by omega)
theorem tupRg_ok {f : Sl → M (Int × Int)} {ρ : Sl} {S : Sto} {n : Nat} (hn : n ≤ 10) (e : f ρ S = .ok (1, (n : Int) + 1) S) : tupRg f ρ S = .ok (.d (tupI ((List.range n).map fun i => 1 + ((i : Nat) : Int)))) S := by
  rw [tupRg_app, e, to_ok, if_pos (rg_ok hn), rgP_n]
theorem law_some {o0 o4 o5 o6 : Option D} {S : Sto} {k : Nat} {Q : List (List Int)} (h : DkS A B C L S) (hk : S[k]? = some (.lst (partsL Q))) (hQ : ∀ q ∈ Q, UpTo (W.sl.length : Int) q ∧ q.length ≤ 100) :
    ∃ S2, k_law_2 [o0, some (.ob 4), some W.d, some (.d (.int (W.sl.length : Nat))), o4, o5, o6, some (.ob k), none, none, none] S = .ok (.rt (.d (.bool true))) S2 := by
  have hW := W.hl
  by_cases hn : 5 < W.sl.length
  · let Q4 : List (List Int) := [[], [1], [((W.sl.length : Nat) : Int)], (List.range W.sl.length).map fun i => 1 + ((i : Nat) : Int)]
    have e0 : tupRg (rg2 (con (.int 1)) (op2 addF (var 3) (con (.int 1)))) [o0, some (.ob 4), some W.d, some (.d (.int (W.sl.length : Nat))), o4, o5, o6, some (.ob k), none, none, none] S = .ok (.d (tupI ((List.range W.sl.length).map fun i => 1 + ((i : Nat) : Int)))) S := by
      refine tupRg_ok hW (rg2_int ?_ ?_)
      · simp only [to_ok, seqK_nx, seqK_rt, seq_app, set1_app, ret_app, skip_app, ifS_app, op2_app, op1_app, app_app, nilA_app, consA_app, con_app, slot_some, var_app, call1_app, callK_app, bind_to, pure_to, toB_b, tstB_app, tst_app, toT_b, toT_i, toT_n, andT_app, orT_app, notT_app, andV_app, orV_app, notV_app, ifV_app, chain_app, dropE_app, asg_app, setN_app, methL1_app, forS_app, lcS_app, walk_app, yes_app, optR_some, pur2_app, purA_app, iop_int, iop_tup, addF_int, mulF_int, int2_int, intO_int, eqD_int, lenO_tup, isiF_app, isiR_tt, isiR_ii, isiR_ib, itemsT_tup, ix0, ix1, List.getElem?_cons_zero, List.getElem?_cons_succ, List.set_cons_zero, List.set_cons_succ, List.length_cons, List.length_nil, Nat.reduceAdd, ↓reduceIte, Bool.false_eq_true, Option.some_or, Option.none_or, Bool.not_true, Bool.not_false, retOf_rt, retOf_nx, c_0, c_1, c_2, c_3, c_7, c_12, eq_self, decide_true, decide_false, id, Int.reduceEq, Int.reduceLT, Int.reduceLE, Int.reduceAdd, Int.reduceSub, Int.reduceToNat]
      · simp only [to_ok, seqK_nx, seqK_rt, seq_app, set1_app, ret_app, skip_app, ifS_app, op2_app, op1_app, app_app, nilA_app, consA_app, con_app, slot_some, var_app, call1_app, callK_app, bind_to, pure_to, toB_b, tstB_app, tst_app, toT_b, toT_i, toT_n, andT_app, orT_app, notT_app, andV_app, orV_app, notV_app, ifV_app, chain_app, dropE_app, asg_app, setN_app, methL1_app, forS_app, lcS_app, walk_app, yes_app, optR_some, pur2_app, purA_app, iop_int, iop_tup, addF_int, mulF_int, int2_int, intO_int, eqD_int, lenO_tup, isiF_app, isiR_tt, isiR_ii, isiR_ib, itemsT_tup, ix0, ix1, List.getElem?_cons_zero, List.getElem?_cons_succ, List.set_cons_zero, List.set_cons_succ, List.length_cons, List.length_nil, Nat.reduceAdd, ↓reduceIte, Bool.false_eq_true, Option.some_or, Option.none_or, Bool.not_true, Bool.not_false, retOf_rt, retOf_nx, c_0, c_1, c_2, c_3, c_7, c_12, eq_self, decide_true, decide_false, id, Int.reduceEq, Int.reduceLT, Int.reduceLE, Int.reduceAdd, Int.reduceSub, Int.reduceToNat]
    have e1 := mkLst_ok (S := S) (ds := partsL Q4) (by simp [partsL, Q4])
    have h1 := h.push (o := .lst (partsL Q4)) (partsL_closed _)
    obtain ⟨R, S2, e2, h2, hR, hRq⟩ := draws_some (o0 := o0) (o2 := some W.d) (o4 := o4) (o5 := o5) (o6 := o6) (o7 := some (.ob k)) h1 hW
    have h3 := h2.push (o := .lst (partsL R)) (partsL_closed _)
    have l1 := h.len
    have l2 := h2.len
    have g1 : (S2 ++ [O.lst (partsL R)])[S.length]? = some (.lst (partsL Q4)) := by
      rw [l1, h3.get, List.append_assoc, get_at0]; rfl
    have e3 := addF_lst (a := S.length) (b := S2.length) g1 (by rw [get_at0]; rfl) (by simp [partsL, Q4]; omega)
    have hnew : partsL Q4 ++ partsL R = partsL (Q4 ++ R) := by simp [partsL]
    rw [hnew] at e3
    have h4 := h3.push (o := .lst (partsL (Q4 ++ R))) (partsL_closed _)
    have e4 := some_ok (W := W) (o0 := o0) (o1 := some (.ob 4)) (o3 := some (.d (.int (W.sl.length : Nat)))) (o4 := o4) (o5 := o5) (o6 := o6) (o8 := none) (k := (S2 ++ [O.lst (partsL R)]).length) (Q := Q4 ++ R) h4.closed (by rw [get_at0]; rfl) (fun q hq => by
      rcases List.mem_append.mp hq with hq | hq
      · simp only [Q4, List.mem_cons, List.not_mem_nil, or_false] at hq
        rcases hq with rfl | rfl | rfl | rfl
        · exact ⟨⟨.nil, fun x hx => by cases hx⟩, by simp⟩
        · exact ⟨⟨by simp, fun x hx => by rw [List.mem_singleton.mp hx]; omega⟩, by simp⟩
        · exact ⟨⟨by simp, fun x hx => by rw [List.mem_singleton.mp hx]; omega⟩, by simp⟩
        · exact ⟨upTo_range _, by simp; omega⟩
      · exact hRq q hq)
    have er : itemsR1 [.d (.int 20)] (S ++ [O.lst (partsL Q4)]) = .ok (rangeD 0 20, freeG) (S ++ [O.lst (partsL Q4)]) := itemsR1_int (okB_of (by omega) (by omega))
    refine ⟨S2 ++ [O.lst (partsL R)] ++ [O.lst (partsL (Q4 ++ R))], ?_⟩
    have hgt : (5 : Int) < ((W.sl.length : Nat) : Int) := by omega
    have hQ4 : [D.d (.tuple []), D.d (.tuple [.int 1]), D.d (.tuple [.int ((W.sl.length : Nat) : Int)]), D.d (tupI ((List.range W.sl.length).map fun i => 1 + ((i : Nat) : Int)))] = partsL Q4 := by simp [partsL, Q4, tupI]
    have e1'' : mkLst [D.d (.tuple []), D.d (.tuple [.int 1]), D.d (.tuple [.int ((W.sl.length : Nat) : Int)]), D.d (tupI ((List.range W.sl.length).map fun i => 1 + ((i : Nat) : Int)))] S = .ok (.ob S.length) (S ++ [.lst (partsL Q4)]) := by rw [hQ4]; exact e1
    simp only [to_ok, seqK_nx, seqK_rt, seq_app, set1_app, ret_app, skip_app, ifS_app, op2_app, op1_app, app_app, nilA_app, consA_app, con_app, slot_some, var_app, call1_app, callK_app, bind_to, pure_to, toB_b, tstB_app, tst_app, toT_b, toT_i, toT_n, andT_app, orT_app, notT_app, andV_app, orV_app, notV_app, ifV_app, chain_app, dropE_app, asg_app, setN_app, methL1_app, forS_app, lcS_app, walk_app, yes_app, optR_some, pur2_app, purA_app, iop_int, iop_tup, addF_int, mulF_int, int2_int, intO_int, eqD_int, lenO_tup, isiF_app, isiR_tt, isiR_ii, isiR_ib, itemsT_tup, ix0, ix1, List.getElem?_cons_zero, List.getElem?_cons_succ, List.set_cons_zero, List.set_cons_succ, List.length_cons, List.length_nil, Nat.reduceAdd, ↓reduceIte, Bool.false_eq_true, Option.some_or, Option.none_or, Bool.not_true, Bool.not_false, retOf_rt, retOf_nx, c_0, c_1, c_2, c_3, c_7, c_12, eq_self, decide_true, decide_false, id, Int.reduceEq, Int.reduceLT, Int.reduceLE, Int.reduceAdd, Int.reduceSub, Int.reduceToNat, k_law_2, hgt, mkTup0, mkTup1, e0, e1'', er, e2, e3, e4]
  · have hgt : ¬ (5 : Int) < ((W.sl.length : Nat) : Int) := by omega
    have e4 := some_ok (W := W) (o0 := o0) (o1 := some (.ob 4)) (o3 := some (.d (.int (W.sl.length : Nat)))) (o4 := o4) (o5 := o5) (o6 := o6) (o8 := none) h.closed hk hQ
    refine ⟨S, ?_⟩
    simp only [to_ok, seqK_nx, seqK_rt, seq_app, set1_app, ret_app, skip_app, ifS_app, op2_app, op1_app, app_app, nilA_app, consA_app, con_app, slot_some, var_app, call1_app, callK_app, bind_to, pure_to, toB_b, tstB_app, tst_app, toT_b, toT_i, toT_n, andT_app, orT_app, notT_app, andV_app, orV_app, notV_app, ifV_app, chain_app, dropE_app, asg_app, setN_app, methL1_app, forS_app, lcS_app, walk_app, yes_app, optR_some, pur2_app, purA_app, iop_int, iop_tup, addF_int, mulF_int, int2_int, intO_int, eqD_int, lenO_tup, isiF_app, isiR_tt, isiR_ii, isiR_ib, itemsT_tup, ix0, ix1, List.getElem?_cons_zero, List.getElem?_cons_succ, List.set_cons_zero, List.set_cons_succ, List.length_cons, List.length_nil, Nat.reduceAdd, ↓reduceIte, Bool.false_eq_true, Option.some_or, Option.none_or, Bool.not_true, Bool.not_false, retOf_rt, retOf_nx, c_0, c_1, c_2, c_3, c_7, c_12, eq_self, decide_true, decide_false, id, Int.reduceEq, Int.reduceLT, Int.reduceLE, Int.reduceAdd, Int.reduceSub, Int.reduceToNat, k_law_2, hgt, e4]
end
end K01
end
section
set_option maxHeartbeats 400000
namespace K01
open PySem PySem.Spec PyProof.Rows L2 RZ RT Fx CC
theorem law_true (ns : List Int) (hl : ns.length ≤ 63) : f_law [.d (.list (ns.map .int))] [] = .ok (.d (.bool true)) [] := by
  obtain ⟨A, B, C, S1, e1, h1⟩ := deck_ok ns hl
  obtain ⟨W, S2, e2, h2, hm⟩ := board_ok h1 (most := 10) (by omega) (by omega)
  have hW := W.hl
  have r1 := is_right_ok W h2.closed
  have e3 := repr_ok (S := S2) okRepr_tt
  rw [shown_tt] at e3
  have e4 : ∀ k, eqD k S2 (.d (.str "(True, True)")) (.d (.str "(True, True)")) = some (.d (.bool (k true))) := fun k => eq_strs (sok_of _)
  obtain ⟨o4, o5, o6, e5⟩ := all_ties (W := W) (o0 := some (.d (.list (ns.map .int)))) (o1 := some (.ob 4)) h2.closed
  obtain ⟨Q, e6, hQl, hQ⟩ := sets_ok (n := W.sl.length) h2.closed hW
  have h3 := h2.push (o := .lst (partsL Q)) (partsL_closed _)
  obtain ⟨S3, e7⟩ := law_some (W := W) (o0 := some (.d (.list (ns.map .int)))) (o4 := o4) (o5 := o5) (o6 := o6) (k := S2.length) (Q := Q) h3 (by rw [get_at0]; rfl) hQ
  have er : itemsR2 [.d (.int 1), .d (.int (((W.sl.length : Nat) : Int) + 1))] S2 = .ok (rangeD 1 W.sl.length, freeG) S2 := by
    have := itemsR2_int (S := S2) (i := 1) (j := ((W.sl.length : Nat) : Int) + 1) (okB_of (by omega) (by omega)) (okB_of (by omega) (by omega))
    rwa [show (((W.sl.length : Nat) : Int) + 1 - 1).toNat = W.sl.length by omega] at this
  have e0 : ixF W.d (.d (.int 0)) S2 = .ok (.d (.tuple (W.sl.map .int))) S2 := by unfold Wall.d; exact ix0
  have ep : permL [0] [W.d] = [W.d] := rfl
  rw [u_law]
  refine gc_d (G := S3) (S := []) ?_ rfl (fun o ho => by cases ho)
  rw [List.nil_append]
  simp only [to_ok, seqK_nx, seqK_rt, seq_app, set1_app, ret_app, skip_app, ifS_app, op2_app, op1_app, app_app, nilA_app, consA_app, con_app, slot_some, var_app, call1_app, callK_app, bind_to, pure_to, toB_b, tstB_app, tst_app, toT_b, toT_i, toT_n, andT_app, orT_app, notT_app, andV_app, orV_app, notV_app, ifV_app, chain_app, dropE_app, asg_app, setN_app, methL1_app, forS_app, lcS_app, walk_app, yes_app, optR_some, pur2_app, purA_app, iop_int, iop_tup, addF_int, mulF_int, int2_int, intO_int, eqD_int, lenO_tup, isiF_app, isiR_tt, isiR_ii, isiR_ib, itemsT_tup, ix0, ix1, List.getElem?_cons_zero, List.getElem?_cons_succ, List.set_cons_zero, List.set_cons_succ, List.length_cons, List.length_nil, Nat.reduceAdd, ↓reduceIte, Bool.false_eq_true, Option.some_or, Option.none_or, Bool.not_true, Bool.not_false, retOf_rt, retOf_nx, c_0, c_1, c_2, c_3, c_7, c_12, eq_self, decide_true, decide_false, id, Int.reduceEq, Int.reduceLT, Int.reduceLE, Int.reduceAdd, Int.reduceSub, Int.reduceToNat, b_law, e1, k_law_7, e2, k_law_6, e0, List.length_map, k_law_5, r1, ep, mkTup2, e3, e4, and_self, k_law_4, er, e5, k_law_3, e6, e7]
end K01
end
section
namespace K01
open PySem PySem.Spec PyProof.Rows L2 RZ RT Fx

/-! ### the end -/
theorem all_mk {l : PySem.W.OpenLaw} {w : World} {K : PySem.W.Frag} {h : Heap} {mg : Str → Option Value} {fa : Addr} (X : K.In h) (G : h.Ns mainGlobals mg) (hfa : mg "law" = some (.ref fa))
    {f0 : Addr} {od0 an0 : Option Addr} {sl0 : Array (Option Value)} {oc0 kV0 dc0 pm0 cd0 ct0 : Value}
    (a0 : PySem.W.nsIn K mainGlobals "is_integer" = some (some (.ref f0))) (l0 : K.lookup f0 = some ⟨oc0, od0, .func (PySem.W.fnOf "is_integer" "is_integer" (defArgs s_is_integer) (defBody s_is_integer) (defScope s_is_integer) .none kV0 dc0 pm0 an0 cd0 ct0), sl0⟩) (c0 : PySem.W.codeIn K cd0 "is_integer" = true) (k0 : PySem.W.keepIn K (.ref f0) = true)
    {f1 : Addr} {od1 an1 : Option Addr} {sl1 : Array (Option Value)} {oc1 kV1 dc1 pm1 cd1 ct1 : Value}
    (a1 : PySem.W.nsIn K mainGlobals "is_peg" = some (some (.ref f1))) (l1 : K.lookup f1 = some ⟨oc1, od1, .func (PySem.W.fnOf "is_peg" "is_peg" (defArgs s_is_peg) (defBody s_is_peg) (defScope s_is_peg) .none kV1 dc1 pm1 an1 cd1 ct1), sl1⟩) (c1 : PySem.W.codeIn K cd1 "is_peg" = true) (k1 : PySem.W.keepIn K (.ref f1) = true)
    {f2 : Addr} {od2 an2 : Option Addr} {sl2 : Array (Option Value)} {oc2 kV2 dc2 pm2 cd2 ct2 : Value}
    (a2 : PySem.W.nsIn K mainGlobals "is_ascending" = some (some (.ref f2))) (l2 : K.lookup f2 = some ⟨oc2, od2, .func (PySem.W.fnOf "is_ascending" "is_ascending" (defArgs s_is_ascending) (defBody s_is_ascending) (defScope s_is_ascending) .none kV2 dc2 pm2 an2 cd2 ct2), sl2⟩) (c2 : PySem.W.codeIn K cd2 "is_ascending" = true) (k2 : PySem.W.keepIn K (.ref f2) = true)
    {f3 : Addr} {od3 an3 : Option Addr} {sl3 : Array (Option Value)} {oc3 kV3 dc3 pm3 cd3 ct3 : Value}
    (a3 : PySem.W.nsIn K mainGlobals "is_peg_set" = some (some (.ref f3))) (l3 : K.lookup f3 = some ⟨oc3, od3, .func (PySem.W.fnOf "is_peg_set" "is_peg_set" (defArgs s_is_peg_set) (defBody s_is_peg_set) (defScope s_is_peg_set) .none kV3 dc3 pm3 an3 cd3 ct3), sl3⟩) (c3 : PySem.W.codeIn K cd3 "is_peg_set" = true) (k3 : PySem.W.keepIn K (.ref f3) = true)
    {f4 : Addr} {od4 an4 : Option Addr} {sl4 : Array (Option Value)} {oc4 kV4 dc4 pm4 cd4 ct4 : Value}
    (a4 : PySem.W.nsIn K mainGlobals "_are_slips" = some (some (.ref f4))) (l4 : K.lookup f4 = some ⟨oc4, od4, .func (PySem.W.fnOf "_are_slips" "_are_slips" (defArgs s__are_slips) (defBody s__are_slips) (defScope s__are_slips) .none kV4 dc4 pm4 an4 cd4 ct4), sl4⟩) (c4 : PySem.W.codeIn K cd4 "_are_slips" = true) (k4 : PySem.W.keepIn K (.ref f4) = true)
    {f5 : Addr} {od5 an5 : Option Addr} {sl5 : Array (Option Value)} {oc5 kV5 dc5 pm5 cd5 ct5 : Value}
    (a5 : PySem.W.nsIn K mainGlobals "_are_rails" = some (some (.ref f5))) (l5 : K.lookup f5 = some ⟨oc5, od5, .func (PySem.W.fnOf "_are_rails" "_are_rails" (defArgs s__are_rails) (defBody s__are_rails) (defScope s__are_rails) .none kV5 dc5 pm5 an5 cd5 ct5), sl5⟩) (c5 : PySem.W.codeIn K cd5 "_are_rails" = true) (k5 : PySem.W.keepIn K (.ref f5) = true)
    {f6 : Addr} {od6 an6 : Option Addr} {sl6 : Array (Option Value)} {oc6 kV6 dc6 pm6 cd6 ct6 : Value}
    (a6 : PySem.W.nsIn K mainGlobals "is_right" = some (some (.ref f6))) (l6 : K.lookup f6 = some ⟨oc6, od6, .func (PySem.W.fnOf "is_right" "is_right" (defArgs s_is_right) (defBody s_is_right) (defScope s_is_right) .none kV6 dc6 pm6 an6 cd6 ct6), sl6⟩) (c6 : PySem.W.codeIn K cd6 "is_right" = true) (k6 : PySem.W.keepIn K (.ref f6) = true)
    {f7 : Addr} {od7 an7 : Option Addr} {sl7 : Array (Option Value)} {oc7 kV7 dc7 pm7 cd7 ct7 : Value}
    (a7 : PySem.W.nsIn K mainGlobals "need_right" = some (some (.ref f7))) (l7 : K.lookup f7 = some ⟨oc7, od7, .func (PySem.W.fnOf "need_right" "need_right" (defArgs s_need_right) (defBody s_need_right) (defScope s_need_right) .none kV7 dc7 pm7 an7 cd7 ct7), sl7⟩) (c7 : PySem.W.codeIn K cd7 "need_right" = true) (k7 : PySem.W.keepIn K (.ref f7) = true)
    {f8 : Addr} {od8 an8 : Option Addr} {sl8 : Array (Option Value)} {oc8 kV8 dc8 pm8 cd8 ct8 : Value}
    (a8 : PySem.W.nsIn K mainGlobals "is_set" = some (some (.ref f8))) (l8 : K.lookup f8 = some ⟨oc8, od8, .func (PySem.W.fnOf "is_set" "is_set" (defArgs s_is_set) (defBody s_is_set) (defScope s_is_set) .none kV8 dc8 pm8 an8 cd8 ct8), sl8⟩) (c8 : PySem.W.codeIn K cd8 "is_set" = true) (k8 : PySem.W.keepIn K (.ref f8) = true)
    {f9 : Addr} {od9 an9 : Option Addr} {sl9 : Array (Option Value)} {oc9 kV9 dc9 pm9 cd9 ct9 : Value}
    (a9 : PySem.W.nsIn K mainGlobals "need_set" = some (some (.ref f9))) (l9 : K.lookup f9 = some ⟨oc9, od9, .func (PySem.W.fnOf "need_set" "need_set" (defArgs s_need_set) (defBody s_need_set) (defScope s_need_set) .none kV9 dc9 pm9 an9 cd9 ct9), sl9⟩) (c9 : PySem.W.codeIn K cd9 "need_set" = true) (k9 : PySem.W.keepIn K (.ref f9) = true)
    {f10 : Addr} {od10 an10 : Option Addr} {sl10 : Array (Option Value)} {oc10 kV10 dc10 pm10 cd10 ct10 : Value}
    (a10 : PySem.W.nsIn K mainGlobals "lacks_rail" = some (some (.ref f10))) (l10 : K.lookup f10 = some ⟨oc10, od10, .func (PySem.W.fnOf "lacks_rail" "lacks_rail" (defArgs s_lacks_rail) (defBody s_lacks_rail) (defScope s_lacks_rail) .none kV10 dc10 pm10 an10 cd10 ct10), sl10⟩) (c10 : PySem.W.codeIn K cd10 "lacks_rail" = true) (k10 : PySem.W.keepIn K (.ref f10) = true)
    {f11 : Addr} {od11 an11 : Option Addr} {sl11 : Array (Option Value)} {oc11 kV11 dc11 pm11 cd11 ct11 : Value}
    (a11 : PySem.W.nsIn K mainGlobals "are_tied" = some (some (.ref f11))) (l11 : K.lookup f11 = some ⟨oc11, od11, .func (PySem.W.fnOf "are_tied" "are_tied" (defArgs s_are_tied) (defBody s_are_tied) (defScope s_are_tied) .none kV11 dc11 pm11 an11 cd11 ct11), sl11⟩) (c11 : PySem.W.codeIn K cd11 "are_tied" = true) (k11 : PySem.W.keepIn K (.ref f11) = true)
    {f12 : Addr} {od12 an12 : Option Addr} {sl12 : Array (Option Value)} {oc12 kV12 dc12 pm12 cd12 ct12 : Value}
    (a12 : PySem.W.nsIn K mainGlobals "_part_about" = some (some (.ref f12))) (l12 : K.lookup f12 = some ⟨oc12, od12, .func (PySem.W.fnOf "_part_about" "_part_about" (defArgs s__part_about) (defBody s__part_about) (defScope s__part_about) .none kV12 dc12 pm12 an12 cd12 ct12), sl12⟩) (c12 : PySem.W.codeIn K cd12 "_part_about" = true) (k12 : PySem.W.keepIn K (.ref f12) = true)
    {f13 : Addr} {od13 an13 : Option Addr} {sl13 : Array (Option Value)} {oc13 kV13 dc13 pm13 cd13 ct13 : Value}
    (a13 : PySem.W.nsIn K mainGlobals "parts_of" = some (some (.ref f13))) (l13 : K.lookup f13 = some ⟨oc13, od13, .func (PySem.W.fnOf "parts_of" "parts_of" (defArgs s_parts_of) (defBody s_parts_of) (defScope s_parts_of) .none kV13 dc13 pm13 an13 cd13 ct13), sl13⟩) (c13 : PySem.W.codeIn K cd13 "parts_of" = true) (k13 : PySem.W.keepIn K (.ref f13) = true)
    {f14 : Addr} {od14 an14 : Option Addr} {sl14 : Array (Option Value)} {oc14 kV14 dc14 pm14 cd14 ct14 : Value}
    (a14 : PySem.W.nsIn K mainGlobals "hangs_together" = some (some (.ref f14))) (l14 : K.lookup f14 = some ⟨oc14, od14, .func (PySem.W.fnOf "hangs_together" "hangs_together" (defArgs s_hangs_together) (defBody s_hangs_together) (defScope s_hangs_together) .none kV14 dc14 pm14 an14 cd14 ct14), sl14⟩) (c14 : PySem.W.codeIn K cd14 "hangs_together" = true) (k14 : PySem.W.keepIn K (.ref f14) = true)
    {f15 : Addr} {od15 an15 : Option Addr} {sl15 : Array (Option Value)} {oc15 kV15 dc15 pm15 cd15 ct15 : Value}
    (a15 : PySem.W.nsIn K mainGlobals "_law_deck" = some (some (.ref f15))) (l15 : K.lookup f15 = some ⟨oc15, od15, .func (PySem.W.fnOf "_law_deck" "_law_deck" (defArgs s__law_deck) (defBody s__law_deck) (defScope s__law_deck) .none kV15 dc15 pm15 an15 cd15 ct15), sl15⟩) (c15 : PySem.W.codeIn K cd15 "_law_deck" = true) (k15 : PySem.W.keepIn K (.ref f15) = true)
    {f16 : Addr} {od16 an16 : Option Addr} {sl16 : Array (Option Value)} {oc16 kV16 dc16 pm16 cd16 ct16 : Value}
    (a16 : PySem.W.nsIn K mainGlobals "_law_draw" = some (some (.ref f16))) (l16 : K.lookup f16 = some ⟨oc16, od16, .func (PySem.W.fnOf "_law_draw" "_law_draw" (defArgs s__law_draw) (defBody s__law_draw) (defScope s__law_draw) .none kV16 dc16 pm16 an16 cd16 ct16), sl16⟩) (c16 : PySem.W.codeIn K cd16 "_law_draw" = true) (k16 : PySem.W.keepIn K (.ref f16) = true)
    {f17 : Addr} {od17 an17 : Option Addr} {sl17 : Array (Option Value)} {oc17 kV17 dc17 pm17 cd17 ct17 : Value}
    (a17 : PySem.W.nsIn K mainGlobals "_law_pick" = some (some (.ref f17))) (l17 : K.lookup f17 = some ⟨oc17, od17, .func (PySem.W.fnOf "_law_pick" "_law_pick" (defArgs s__law_pick) (defBody s__law_pick) (defScope s__law_pick) .none kV17 dc17 pm17 an17 cd17 ct17), sl17⟩) (c17 : PySem.W.codeIn K cd17 "_law_pick" = true) (k17 : PySem.W.keepIn K (.ref f17) = true)
    {f18 : Addr} {od18 an18 : Option Addr} {sl18 : Array (Option Value)} {oc18 kV18 dc18 pm18 cd18 ct18 : Value}
    (a18 : PySem.W.nsIn K mainGlobals "_law_board" = some (some (.ref f18))) (l18 : K.lookup f18 = some ⟨oc18, od18, .func (PySem.W.fnOf "_law_board" "_law_board" (defArgs s__law_board) (defBody s__law_board) (defScope s__law_board) .none kV18 dc18 pm18 an18 cd18 ct18), sl18⟩) (c18 : PySem.W.codeIn K cd18 "_law_board" = true) (k18 : PySem.W.keepIn K (.ref f18) = true)
    {f19 : Addr} {od19 an19 : Option Addr} {sl19 : Array (Option Value)} {oc19 kV19 dc19 pm19 cd19 ct19 : Value}
    (a19 : PySem.W.nsIn K mainGlobals "_law_set" = some (some (.ref f19))) (l19 : K.lookup f19 = some ⟨oc19, od19, .func (PySem.W.fnOf "_law_set" "_law_set" (defArgs s__law_set) (defBody s__law_set) (defScope s__law_set) .none kV19 dc19 pm19 an19 cd19 ct19), sl19⟩) (c19 : PySem.W.codeIn K cd19 "_law_set" = true) (k19 : PySem.W.keepIn K (.ref f19) = true)
    {f20 : Addr} {od20 an20 : Option Addr} {sl20 : Array (Option Value)} {oc20 kV20 dc20 pm20 cd20 ct20 : Value}
    (a20 : PySem.W.nsIn K mainGlobals "_law_parts" = some (some (.ref f20))) (l20 : K.lookup f20 = some ⟨oc20, od20, .func (PySem.W.fnOf "_law_parts" "_law_parts" (defArgs s__law_parts) (defBody s__law_parts) (defScope s__law_parts) .none kV20 dc20 pm20 an20 cd20 ct20), sl20⟩) (c20 : PySem.W.codeIn K cd20 "_law_parts" = true) (k20 : PySem.W.keepIn K (.ref f20) = true)
    {f21 : Addr} {od21 an21 : Option Addr} {sl21 : Array (Option Value)} {oc21 kV21 dc21 pm21 cd21 ct21 : Value}
    (a21 : PySem.W.nsIn K mainGlobals "_law_sets" = some (some (.ref f21))) (l21 : K.lookup f21 = some ⟨oc21, od21, .func (PySem.W.fnOf "_law_sets" "_law_sets" (defArgs s__law_sets) (defBody s__law_sets) (defScope s__law_sets) .none kV21 dc21 pm21 an21 cd21 ct21), sl21⟩) (c21 : PySem.W.codeIn K cd21 "_law_sets" = true) (k21 : PySem.W.keepIn K (.ref f21) = true)
    {f22 : Addr} {od22 an22 : Option Addr} {sl22 : Array (Option Value)} {oc22 kV22 dc22 pm22 cd22 ct22 : Value}
    (a22 : PySem.W.nsIn K mainGlobals "_law_is_due" = some (some (.ref f22))) (l22 : K.lookup f22 = some ⟨oc22, od22, .func (PySem.W.fnOf "_law_is_due" "_law_is_due" (defArgs s__law_is_due) (defBody s__law_is_due) (defScope s__law_is_due) .none kV22 dc22 pm22 an22 cd22 ct22), sl22⟩) (c22 : PySem.W.codeIn K cd22 "_law_is_due" = true) (k22 : PySem.W.keepIn K (.ref f22) = true)
    {f23 : Addr} {od23 an23 : Option Addr} {sl23 : Array (Option Value)} {oc23 kV23 dc23 pm23 cd23 ct23 : Value}
    (a23 : PySem.W.nsIn K mainGlobals "law" = some (some (.ref f23))) (l23 : K.lookup f23 = some ⟨oc23, od23, .func (PySem.W.fnOf "law" "law" (defArgs s_law) (defBody s_law) (defScope s_law) .none kV23 dc23 pm23 an23 cd23 ct23), sl23⟩) (c23 : PySem.W.codeIn K cd23 "law" = true) (k23 : PySem.W.keepIn K (.ref f23) = true)
    {tk0 : Tok} (v0 : PySem.W.nsIn K mainGlobals "MOST_PEGS" = some (some (.int 10 tk0)))
    {tk1 : Tok} (v1 : PySem.W.nsIn K mainGlobals "LEAST_SLIP" = some (some (.int 2 tk1)))
    {tk2 : Tok} (v2 : PySem.W.nsIn K mainGlobals "MOST_SLIP" = some (some (.int 30 tk2)))
    (z0 : PySem.W.nsIn K mainGlobals "isinstance" = some none)
    (z1 : PySem.W.nsIn K mainGlobals "int" = some none)
    (z2 : PySem.W.nsIn K mainGlobals "bool" = some none)
    (z3 : PySem.W.nsIn K mainGlobals "len" = some none)
    (z4 : PySem.W.nsIn K mainGlobals "range" = some none)
    (z5 : PySem.W.nsIn K mainGlobals "tuple" = some none)
    (z6 : PySem.W.nsIn K mainGlobals "max" = some none)
    (z7 : PySem.W.nsIn K mainGlobals "min" = some none)
    (z8 : PySem.W.nsIn K mainGlobals "sorted" = some none)
    (z9 : PySem.W.nsIn K mainGlobals "list" = some none)
    (z10 : PySem.W.nsIn K mainGlobals "sum" = some none)
    (z11 : PySem.W.nsIn K mainGlobals "repr" = some none)
    (z12 : PySem.W.nsIn K mainGlobals "enumerate" = some none)
    : ∃ fd : FuncData, (∀ (s : Shared) (v : Value), BindsTo s fd ⟨[v], []⟩ [("script", v)]) ∧ ∀ base : Heap, K.In base → base.Ns mainGlobals mg → FnG l.prog w K mg base 11 fa fd ["script"] f_law := by
  have e := hfa.symm.trans (PySem.W.mg_of X G a23)
  cases e
  have F0 := fun_mk (st := s_is_integer) l0 c0 k0
  have F1 := fun_mk (st := s_is_peg) l1 c1 k1
  have F2 := fun_mk (st := s_is_ascending) l2 c2 k2
  have F3 := fun_mk (st := s_is_peg_set) l3 c3 k3
  have F4 := fun_mk (st := s__are_slips) l4 c4 k4
  have F5 := fun_mk (st := s__are_rails) l5 c5 k5
  have F6 := fun_mk (st := s_is_right) l6 c6 k6
  have F7 := fun_mk (st := s_need_right) l7 c7 k7
  have F8 := fun_mk (st := s_is_set) l8 c8 k8
  have F9 := fun_mk (st := s_need_set) l9 c9 k9
  have F10 := fun_mk (st := s_lacks_rail) l10 c10 k10
  have F11 := fun_mk (st := s_are_tied) l11 c11 k11
  have F12 := fun_mk (st := s__part_about) l12 c12 k12
  have F13 := fun_mk (st := s_parts_of) l13 c13 k13
  have F14 := fun_mk (st := s_hangs_together) l14 c14 k14
  have F15 := fun_mk (st := s__law_deck) l15 c15 k15
  have F16 := fun_mk (st := s__law_draw) l16 c16 k16
  have F17 := fun_mk (st := s__law_pick) l17 c17 k17
  have F18 := fun_mk (st := s__law_board) l18 c18 k18
  have F19 := fun_mk (st := s__law_set) l19 c19 k19
  have F20 := fun_mk (st := s__law_parts) l20 c20 k20
  have F21 := fun_mk (st := s__law_sets) l21 c21 k21
  have F22 := fun_mk (st := s__law_is_due) l22 c22 k22
  have F23 := fun_mk (st := s_law) l23 c23 k23
  let T : Txt K mg := {
    a_is_integer := f0
    d_is_integer := _
    F_is_integer := F0
    m_is_integer := PySem.W.mg_of X G a0
    b_is_integer := F0.binds (ps := ["thing"]) (fun _ _ _ _ _ _ us hl => match us, hl with | [_], _ => rfl)
    a_is_peg := f1
    d_is_peg := _
    F_is_peg := F1
    m_is_peg := PySem.W.mg_of X G a1
    b_is_peg := F1.binds (ps := ["many", "thing"]) (fun _ _ _ _ _ _ us hl => match us, hl with | [_, _], _ => rfl)
    a_is_ascending := f2
    d_is_ascending := _
    F_is_ascending := F2
    m_is_ascending := PySem.W.mg_of X G a2
    b_is_ascending := F2.binds (ps := ["row"]) (fun _ _ _ _ _ _ us hl => match us, hl with | [_], _ => rfl)
    a_is_peg_set := f3
    d_is_peg_set := _
    F_is_peg_set := F3
    m_is_peg_set := PySem.W.mg_of X G a3
    b_is_peg_set := F3.binds (ps := ["many", "thing"]) (fun _ _ _ _ _ _ us hl => match us, hl with | [_, _], _ => rfl)
    a__are_slips := f4
    d__are_slips := _
    F__are_slips := F4
    m__are_slips := PySem.W.mg_of X G a4
    b__are_slips := F4.binds (ps := ["thing"]) (fun _ _ _ _ _ _ us hl => match us, hl with | [_], _ => rfl)
    a__are_rails := f5
    d__are_rails := _
    F__are_rails := F5
    m__are_rails := PySem.W.mg_of X G a5
    b__are_rails := F5.binds (ps := ["many", "thing"]) (fun _ _ _ _ _ _ us hl => match us, hl with | [_, _], _ => rfl)
    a_is_right := f6
    d_is_right := _
    F_is_right := F6
    m_is_right := PySem.W.mg_of X G a6
    b_is_right := F6.binds (ps := ["thing"]) (fun _ _ _ _ _ _ us hl => match us, hl with | [_], _ => rfl)
    a_need_right := f7
    d_need_right := _
    F_need_right := F7
    m_need_right := PySem.W.mg_of X G a7
    b_need_right := F7.binds (ps := ["wall"]) (fun _ _ _ _ _ _ us hl => match us, hl with | [_], _ => rfl)
    a_is_set := f8
    d_is_set := _
    F_is_set := F8
    m_is_set := PySem.W.mg_of X G a8
    b_is_set := F8.binds (ps := ["wall", "thing"]) (fun _ _ _ _ _ _ us hl => match us, hl with | [_, _], _ => rfl)
    a_need_set := f9
    d_need_set := _
    F_need_set := F9
    m_need_set := PySem.W.mg_of X G a9
    b_need_set := F9.binds (ps := ["wall", "pegs"]) (fun _ _ _ _ _ _ us hl => match us, hl with | [_, _], _ => rfl)
    a_lacks_rail := f10
    d_lacks_rail := _
    F_lacks_rail := F10
    m_lacks_rail := PySem.W.mg_of X G a10
    b_lacks_rail := F10.binds (ps := ["wall", "i", "j"]) (fun _ _ _ _ _ _ us hl => match us, hl with | [_, _, _], _ => rfl)
    a_are_tied := f11
    d_are_tied := _
    F_are_tied := F11
    m_are_tied := PySem.W.mg_of X G a11
    b_are_tied := F11.binds (ps := ["wall", "i", "j"]) (fun _ _ _ _ _ _ us hl => match us, hl with | [_, _, _], _ => rfl)
    a__part_about := f12
    d__part_about := _
    F__part_about := F12
    m__part_about := PySem.W.mg_of X G a12
    b__part_about := F12.binds (ps := ["wall", "first", "pegs"]) (fun _ _ _ _ _ _ us hl => match us, hl with | [_, _, _], _ => rfl)
    a_parts_of := f13
    d_parts_of := _
    F_parts_of := F13
    m_parts_of := PySem.W.mg_of X G a13
    b_parts_of := F13.binds (ps := ["wall", "pegs"]) (fun _ _ _ _ _ _ us hl => match us, hl with | [_, _], _ => rfl)
    a_hangs_together := f14
    d_hangs_together := _
    F_hangs_together := F14
    m_hangs_together := PySem.W.mg_of X G a14
    b_hangs_together := F14.binds (ps := ["wall", "pegs"]) (fun _ _ _ _ _ _ us hl => match us, hl with | [_, _], _ => rfl)
    a__law_deck := f15
    d__law_deck := _
    F__law_deck := F15
    m__law_deck := PySem.W.mg_of X G a15
    b__law_deck := F15.binds (ps := ["script"]) (fun _ _ _ _ _ _ us hl => match us, hl with | [_], _ => rfl)
    a__law_draw := f16
    d__law_draw := _
    F__law_draw := F16
    m__law_draw := PySem.W.mg_of X G a16
    b__law_draw := F16.binds (ps := ["deck", "many"]) (fun _ _ _ _ _ _ us hl => match us, hl with | [_, _], _ => rfl)
    a__law_pick := f17
    d__law_pick := _
    F__law_pick := F17
    m__law_pick := PySem.W.mg_of X G a17
    b__law_pick := F17.binds (ps := ["deck", "some"]) (fun _ _ _ _ _ _ us hl => match us, hl with | [_, _], _ => rfl)
    a__law_board := f18
    d__law_board := _
    F__law_board := F18
    m__law_board := PySem.W.mg_of X G a18
    b__law_board := F18.binds (ps := ["deck", "most"]) (fun _ _ _ _ _ _ us hl => match us, hl with | [_, _], _ => rfl)
    a__law_set := f19
    d__law_set := _
    F__law_set := F19
    m__law_set := PySem.W.mg_of X G a19
    b__law_set := F19.binds (ps := ["deck", "n"]) (fun _ _ _ _ _ _ us hl => match us, hl with | [_, _], _ => rfl)
    a__law_parts := f20
    d__law_parts := _
    F__law_parts := F20
    m__law_parts := PySem.W.mg_of X G a20
    b__law_parts := F20.binds (ps := ["wall", "pegs"]) (fun _ _ _ _ _ _ us hl => match us, hl with | [_, _], _ => rfl)
    a__law_sets := f21
    d__law_sets := _
    F__law_sets := F21
    m__law_sets := PySem.W.mg_of X G a21
    b__law_sets := F21.binds (ps := ["n"]) (fun _ _ _ _ _ _ us hl => match us, hl with | [_], _ => rfl)
    a__law_is_due := f22
    d__law_is_due := _
    F__law_is_due := F22
    m__law_is_due := PySem.W.mg_of X G a22
    b__law_is_due := F22.binds (ps := ["wall", "pegs", "is_named"]) (fun _ _ _ _ _ _ us hl => match us, hl with | [_, _, _], _ => rfl)
    a_law := fa
    d_law := _
    F_law := F23
    m_law := PySem.W.mg_of X G a23
    b_law := F23.binds (ps := ["script"]) (fun _ _ _ _ _ _ us hl => match us, hl with | [_], _ => rfl)
    t_MOST_PEGS := tk0
    c_MOST_PEGS := PySem.W.mg_of X G v0
    t_LEAST_SLIP := tk1
    c_LEAST_SLIP := PySem.W.mg_of X G v1
    t_MOST_SLIP := tk2
    c_MOST_SLIP := PySem.W.mg_of X G v2
    z_isinstance := PySem.W.mg_none_of X G z0
    z_int := PySem.W.mg_none_of X G z1
    z_bool := PySem.W.mg_none_of X G z2
    z_len := PySem.W.mg_none_of X G z3
    z_range := PySem.W.mg_none_of X G z4
    z_tuple := PySem.W.mg_none_of X G z5
    z_max := PySem.W.mg_none_of X G z6
    z_min := PySem.W.mg_none_of X G z7
    z_sorted := PySem.W.mg_none_of X G z8
    z_list := PySem.W.mg_none_of X G z9
    z_sum := PySem.W.mg_none_of X G z10
    z_repr := PySem.W.mg_none_of X G z11
    z_enumerate := PySem.W.mg_none_of X G z12 }
  exact ⟨_, fun s v => .of_eq rfl, fun base _ _ => g_law (P := l.prog) (w := w) (base := base) T⟩
end K01
open PySem PySem.W PyProof.Rows
set_option maxHeartbeats 0 in
theorem PySem.Challenge.cw_pulledpegs_k01_tied_pegs_and_parts_of_se_holds : PySem.Challenge.rw_pulledpegs_k01_tied_pegs_and_parts_of_se.Holds := by
  w_on; o_law; k_head; (case hw => w_witness2)
  k_fill
  refine Fx.walk_G (l := PySem.Challenge.rw_pulledpegs_k01_tied_pegs_and_parts_of_se) (n := 63) (k := 11) (x := "script") (Fl := K01.f_law) rfl (by decide) rfl ⟨rfl, by decide, by decide⟩ (fun w h Y => PySem.W.kIn_of Y) ?F (fun ns hl => K01.law_true ns hl)
  case F =>
    intro w mg fa h KX G hmg
    refine' K01.all_mk KX G hmg ?a0 ?l0 ?c0 ?k0 ?a1 ?l1 ?c1 ?k1 ?a2 ?l2 ?c2 ?k2 ?a3 ?l3 ?c3 ?k3 ?a4 ?l4 ?c4 ?k4 ?a5 ?l5 ?c5 ?k5 ?a6 ?l6 ?c6 ?k6 ?a7 ?l7 ?c7 ?k7 ?a8 ?l8 ?c8 ?k8 ?a9 ?l9 ?c9 ?k9 ?a10 ?l10 ?c10 ?k10 ?a11 ?l11 ?c11 ?k11 ?a12 ?l12 ?c12 ?k12 ?a13 ?l13 ?c13 ?k13 ?a14 ?l14 ?c14 ?k14 ?a15 ?l15 ?c15 ?k15 ?a16 ?l16 ?c16 ?k16 ?a17 ?l17 ?c17 ?k17 ?a18 ?l18 ?c18 ?k18 ?a19 ?l19 ?c19 ?k19 ?a20 ?l20 ?c20 ?k20 ?a21 ?l21 ?c21 ?k21 ?a22 ?l22 ?c22 ?k22 ?a23 ?l23 ?c23 ?k23 ?v0 ?v1 ?v2 ?z0 ?z1 ?z2 ?z3 ?z4 ?z5 ?z6 ?z7 ?z8 ?z9 ?z10 ?z11 ?z12
    (case a0 => k_is)
    (case l0 => k_is)
    (case c0 => k_is)
    (case k0 => k_is)
    (case a1 => k_is)
    (case l1 => k_is)
    (case c1 => k_is)
    (case k1 => k_is)
    (case a2 => k_is)
    (case l2 => k_is)
    (case c2 => k_is)
    (case k2 => k_is)
    (case a3 => k_is)
    (case l3 => k_is)
    (case c3 => k_is)
    (case k3 => k_is)
    (case a4 => k_is)
    (case l4 => k_is)
    (case c4 => k_is)
    (case k4 => k_is)
    (case a5 => k_is)
    (case l5 => k_is)
    (case c5 => k_is)
    (case k5 => k_is)
    (case a6 => k_is)
    (case l6 => k_is)
    (case c6 => k_is)
    (case k6 => k_is)
    (case a7 => k_is)
    (case l7 => k_is)
    (case c7 => k_is)
    (case k7 => k_is)
    (case a8 => k_is)
    (case l8 => k_is)
    (case c8 => k_is)
    (case k8 => k_is)
    (case a9 => k_is)
    (case l9 => k_is)
    (case c9 => k_is)
    (case k9 => k_is)
    (case a10 => k_is)
    (case l10 => k_is)
    (case c10 => k_is)
    (case k10 => k_is)
    (case a11 => k_is)
    (case l11 => k_is)
    (case c11 => k_is)
    (case k11 => k_is)
    (case a12 => k_is)
    (case l12 => k_is)
    (case c12 => k_is)
    (case k12 => k_is)
    (case a13 => k_is)
    (case l13 => k_is)
    (case c13 => k_is)
    (case k13 => k_is)
    (case a14 => k_is)
    (case l14 => k_is)
    (case c14 => k_is)
    (case k14 => k_is)
    (case a15 => k_is)
    (case l15 => k_is)
    (case c15 => k_is)
    (case k15 => k_is)
    (case a16 => k_is)
    (case l16 => k_is)
    (case c16 => k_is)
    (case k16 => k_is)
    (case a17 => k_is)
    (case l17 => k_is)
    (case c17 => k_is)
    (case k17 => k_is)
    (case a18 => k_is)
    (case l18 => k_is)
    (case c18 => k_is)
    (case k18 => k_is)
    (case a19 => k_is)
    (case l19 => k_is)
    (case c19 => k_is)
    (case k19 => k_is)
    (case a20 => k_is)
    (case l20 => k_is)
    (case c20 => k_is)
    (case k20 => k_is)
    (case a21 => k_is)
    (case l21 => k_is)
    (case c21 => k_is)
    (case k21 => k_is)
    (case a22 => k_is)
    (case l22 => k_is)
    (case c22 => k_is)
    (case k22 => k_is)
    (case a23 => k_is)
    (case l23 => k_is)
    (case c23 => k_is)
    (case k23 => k_is)
    (case v0 => k_is)
    (case v1 => k_is)
    (case v2 => k_is)
    (case z0 => k_is)
    (case z1 => k_is)
    (case z2 => k_is)
    (case z3 => k_is)
    (case z4 => k_is)
    (case z5 => k_is)
    (case z6 => k_is)
    (case z7 => k_is)
    (case z8 => k_is)
    (case z9 => k_is)
    (case z10 => k_is)
    (case z11 => k_is)
    (case z12 => k_is)
end
