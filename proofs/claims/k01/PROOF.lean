import PyProof.Rows.All
import Wide.All
import OpenK.AllK
import Wide.FinOn
import HandS.ForMost
import HandS.IsInst
import HandS.Flow
import HandS.Style
import HandS.Walk
import HandS.TupAny
import HandS.TupMul
import HandS.Zip
import HandS.Rev
import HandS.Strs
import HandS.SetBool
import HandS.SetKeys
import HandS.DeepEq
import HandS.NoneIn
import HandS.Wide
import KE.KUnpackStar
import KE.KStar
import KE.KItemsList
import KE.KEqDict
import HandS.SetFor
import HandS.CallLocal
import HandS.More
import KE.GoesEnum
import KE.DataMinMax
import HandS.Conv
import KE.SortData
import HandS.SortInts
import HandS.Iter
import PySem.Challenge.RW_barewords_k01_whole_kinds
set_option Elab.async false
set_option linter.all false
set_option maxRecDepth 100000
namespace B
open PySem PySem.Spec L2
set_option autoImplicit false

/-! ### plain worths -/
/-- what a name holds: immutable things as trees; a thing that may change as its number in the store -/
inductive W where
  | non
  | bl (b : Bool)
  | int (i : Int)
  | str (x : Str)
  | tup (xs : List W)
  | fl (xs : List W)
  | ref (i : Nat)
  | ext (v : V)
  /-- a def of the module, by its name -/
  | fnc (x : Str)

/-- an object of the store -/
inductive SO where
  | lst (xs : List W)
  | dct (kvs : List (Key × W))
  /-- a dict whose keys are tuples -/
  | dtt (kvs : List (List Key × W))

abbrev Sto := List SO
abbrev M (α : Type) := Sto → Option (α × Sto)
@[simp] def ret {α : Type} (a : α) : M α := fun st => some (a, st)
@[simp] def bnd {α β : Type} (m : M α) (f : α → M β) : M β := fun st => match m st with
  | none => none
  | some (a, st') => f a st'
@[simp] def fail {α : Type} : M α := fun _ => none

abbrev En := List (Option W)
abbrev EM := En → M W
abbrev TM := En → M Bool
abbrev AM := En → M (List W)
inductive Fl where
  | nx | bk | ct
  | rt (w : W)
abbrev SM := En → M (Fl × En)

theorem bnd_some {α β : Type} {m : M α} {f : α → M β} {st : Sto} {r : β × Sto} (h : bnd m f st = some r) : ∃ a st1, m st = some (a, st1) ∧ f a st1 = some r := by
  unfold bnd at h
  split at h
  · cases h
  · rename_i a st1 e; exact ⟨a, st1, e, h⟩
theorem bnd_of {α β : Type} {m : M α} {f : α → M β} {st st1 : Sto} {a : α} (h : m st = some (a, st1)) : bnd m f st = f a st1 := by
  unfold bnd; rw [h]

/-! ### how worths lie in the heap -/
section
variable (K : PySem.W.Frag) (β : List Addr) (H : Hp)
/-- a list that nobody changes -/
def Fix (a : Addr) (vs : List V) : Prop := (∃ o, H a = some (.frz o (.lst vs))) ∨
    ∃ (o : Obj) (its : Array Value) (n : Nat), K.lookup a = some o ∧ o.cls = .type "list" ∧ o.dict = none ∧ o.data = .seq its n ∧ its.size ≤ sizeLine ∧ Vals vs its.toList
/-- a tuple: made while it ran, or one of the module's, of words alone -/
def TqT (a : Addr) (vs : List V) : Prop := H a = some (.tup vs) ∨
    ((∃ (o : Obj) (its : Array Value) (n : Nat), K.lookup a = some o ∧ o.cls = .type "tuple" ∧ o.data = .seq its n ∧ its.size ≤ sizeLine ∧ Vals vs its.toList) ∧ ∀ v ∈ vs, ∃ x, v = V.str x)
mutual
inductive RW : W → V → Prop
  | non : RW .non .non
  | bl (b : Bool) : RW (.bl b) (.bl b)
  | int (i : Int) : RW (.int i) (.int i)
  | str (x : Str) : RW (.str x) (.str x)
  | tup {a : Addr} {xs : List W} {vs : List V} : TqT K H a vs → RWs xs vs → RW (.tup xs) (.ref a)
  | fl {a : Addr} {xs : List W} {vs : List V} : Fix K H a vs → RWs xs vs → RW (.fl xs) (.ref a)
  | ref {i : Nat} {a : Addr} : β[i]? = some a → RW (.ref i) (.ref a)
  | ext (v : V) : RW (.ext v) v
  | fnc {x : Str} {f : Addr} : PySem.W.nsIn K mainGlobals x = some (some (.ref f)) → RW (.fnc x) (.ref f)
inductive RWs : List W → List V → Prop
  | nil : RWs [] []
  | cons {x : W} {v : V} {xs : List W} {vs : List V} : RW x v → RWs xs vs → RWs (x :: xs) (v :: vs)
end
inductive RKs {T : Type} : List (T × W) → List (T × V) → Prop
  | nil : RKs [] []
  | cons {k : T} {x : W} {v : V} {xs : List (T × W)} {vs : List (T × V)} : RW K β H x v → RKs xs vs → RKs ((k, x) :: xs) ((k, v) :: vs)
def RO (a : Addr) : SO → Prop
  | .lst xs => ∃ vs, H a = some (.lst vs) ∧ RWs K β H xs vs
  | .dct kvs => ∃ vs, H a = some (.dK vs) ∧ RKs K β H kvs vs
  | .dtt kvs => ∃ vs, H a = some (.dT vs) ∧ RKs K β H kvs vs
structure RS (st : Sto) : Prop where
  len : β.length = st.length
  nd : β.Nodup
  ob : ∀ (i : Nat) (o : SO), st[i]? = some o → ∃ a, β[i]? = some a ∧ RO K β H a o
structure RE (env : En) (σ : St) : Prop where
  len : env.length = σ.length
  at' : ∀ (i : Nat) (w : W), env[i]? = some (some w) → ∃ v, σ[i]? = some (some v) ∧ RW K β H w v
end
/-- what may become of the heap: more objects, those that never change stay -/
structure Ext (β : List Addr) (H : Hp) (β' : List Addr) (H' : Hp) : Prop where
  more : ∃ γ, β' = β ++ γ
  tups : ∀ a xs, H a = some (.tup xs) → H' a = some (.tup xs)
  frzs : ∀ a o u, H a = some (.frz o u) → H' a = some (.frz o u)

section
variable {K : PySem.W.Frag} {β β1 β2 : List Addr} {H H1 H2 : Hp}
theorem Ext.refl : Ext β H β H := ⟨⟨[], by simp⟩, fun _ _ h => h, fun _ _ _ h => h⟩
theorem Ext.trans (a : Ext β H β1 H1) (b : Ext β1 H1 β2 H2) : Ext β H β2 H2 := by
  obtain ⟨γ, rfl⟩ := a.more
  obtain ⟨δ, rfl⟩ := b.more
  exact ⟨⟨γ ++ δ, by simp⟩, fun c xs h => b.tups c xs (a.tups c xs h), fun c o u h => b.frzs c o u (a.frzs c o u h)⟩
theorem Ext.sqT (e : Ext β H β1 H1) {a : Addr} {xs : List V} (h : SqT K H a xs) : SqT K H1 a xs := by
  rcases h with (h | ⟨o, h⟩) | h
  · exact .inl (.inl (e.tups _ _ h))
  · exact .inl (.inr ⟨o, e.frzs _ _ _ h⟩)
  · exact .inr h
theorem TqT.sq {a : Addr} {vs : List V} (h : TqT K H a vs) : SqT K H a vs := by
  rcases h with h | ⟨h, _⟩
  · exact .inl (.inl h)
  · exact .inr h
theorem Ext.tqT (e : Ext β H β1 H1) {a : Addr} {xs : List V} (h : TqT K H a xs) : TqT K H1 a xs := by
  rcases h with h | h
  · exact .inl (e.tups _ _ h)
  · exact .inr h
theorem Ext.fix (e : Ext β H β1 H1) {a : Addr} {xs : List V} (h : Fix K H a xs) : Fix K H1 a xs := by
  rcases h with ⟨o, h⟩ | h
  · exact .inl ⟨o, e.frzs _ _ _ h⟩
  · exact .inr h
theorem Ext.ix (e : Ext β H β1 H1) {i : Nat} {a : Addr} (h : β[i]? = some a) : β1[i]? = some a := by
  obtain ⟨γ, rfl⟩ := e.more
  rw [List.getElem?_append_left (List.getElem?_eq_some_iff.mp h).1]
  exact h
mutual
theorem RW.ext' (e : Ext β H β1 H1) : ∀ {w : W} {v : V}, RW K β H w v → RW K β1 H1 w v
  | _, _, .non => .non
  | _, _, .bl b => .bl b
  | _, _, .int i => .int i
  | _, _, .str x => .str x
  | _, _, .tup h r => .tup (e.tqT h) (RWs.ext e r)
  | _, _, .fl h r => .fl (e.fix h) (RWs.ext e r)
  | _, _, .ref h => .ref (e.ix h)
  | _, _, .ext v => .ext v
  | _, _, .fnc h => .fnc h
theorem RWs.ext (e : Ext β H β1 H1) : ∀ {ws : List W} {vs : List V}, RWs K β H ws vs → RWs K β1 H1 ws vs
  | _, _, .nil => .nil
  | _, _, .cons r t => .cons (RW.ext' e r) (RWs.ext e t)
end
theorem RKs.ext {T : Type} (e : Ext β H β1 H1) : ∀ {ws : List (T × W)} {vs : List (T × V)}, RKs K β H ws vs → RKs K β1 H1 ws vs
  | _, _, .nil => .nil
  | _, _, .cons r t => .cons (RW.ext' e r) (RKs.ext e t)
theorem RE.ext (e : Ext β H β1 H1) {env : En} {σ : St} (h : RE K β H env σ) : RE K β1 H1 env σ :=
  ⟨h.len, fun i w hi => let ⟨v, a, b⟩ := h.at' i w hi; ⟨v, a, b.ext' e⟩⟩
theorem RE.set {env : En} {σ : St} (h : RE K β H env σ) {w : W} {v : V} (r : RW K β H w v) (i : Nat) : RE K β H (env.set i (some w)) (σ.set i (some v)) := by
  refine ⟨by simp [h.len], fun j x hj => ?_⟩
  by_cases e : i = j
  · subst e
    have hi : i < env.length := by
      have := (List.getElem?_eq_some_iff.mp hj).1
      simpa using this
    rw [List.getElem?_set_self hi] at hj
    cases hj
    exact ⟨v, List.getElem?_set_self (by rw [← h.len]; exact hi), r⟩
  · rw [List.getElem?_set_ne e] at hj
    obtain ⟨v', a, b⟩ := h.at' j x hj
    exact ⟨v', by rw [List.getElem?_set_ne e]; exact a, b⟩

theorem RWs.length : ∀ {ws : List W} {vs : List V}, RWs K β H ws vs → ws.length = vs.length
  | _, _, .nil => rfl
  | _, _, .cons _ t => by simp [RWs.length t]
theorem RWs.get : ∀ {ws : List W} {vs : List V} {i : Nat} {w : W}, RWs K β H ws vs → ws[i]? = some w → ∃ v, vs[i]? = some v ∧ RW K β H w v
  | _, _, _, _, .nil, h => by simp at h
  | _, _, 0, _, .cons r _, h => by simp at h; subst h; exact ⟨_, rfl, r⟩
  | _, _, i + 1, w, .cons _ t, h => by
    obtain ⟨v, a, b⟩ := RWs.get (i := i) t (by simpa using h)
    exact ⟨v, by simpa using a, b⟩
theorem RWs.getV : ∀ {ws : List W} {vs : List V} {i : Nat} {v : V}, RWs K β H ws vs → vs[i]? = some v → ∃ w, ws[i]? = some w ∧ RW K β H w v
  | _, _, _, _, .nil, h => by simp at h
  | _, _, 0, _, .cons r _, h => by simp at h; subst h; exact ⟨_, rfl, r⟩
  | _, _, i + 1, w, .cons _ t, h => by
    obtain ⟨v, a, b⟩ := RWs.getV (i := i) t (by simpa using h)
    exact ⟨v, by simpa using a, b⟩
theorem RWs.append : ∀ {ws ws' : List W} {vs vs' : List V}, RWs K β H ws vs → RWs K β H ws' vs' → RWs K β H (ws ++ ws') (vs ++ vs')
  | _, _, _, _, .nil, h => h
  | _, _, _, _, .cons r t, h => .cons r (RWs.append t h)
theorem RWs.take : ∀ {ws : List W} {vs : List V} (n : Nat), RWs K β H ws vs → RWs K β H (ws.take n) (vs.take n)
  | _, _, 0, _ => by simp; exact .nil
  | _, _, _ + 1, .nil => by simp; exact .nil
  | _, _, n + 1, .cons r t => .cons r (RWs.take n t)
theorem RWs.drop : ∀ {ws : List W} {vs : List V} (n : Nat), RWs K β H ws vs → RWs K β H (ws.drop n) (vs.drop n)
  | _, _, 0, h => h
  | _, _, _ + 1, .nil => by simp; exact .nil
  | _, _, n + 1, .cons _ t => RWs.drop n t
theorem RWs.reverse {ws : List W} {vs : List V} (h : RWs K β H ws vs) : RWs K β H ws.reverse vs.reverse := by
  induction ws generalizing vs with
  | nil => cases h; exact .nil
  | cons x xs ih =>
    cases h with
    | cons r t =>
      rw [List.reverse_cons, List.reverse_cons]
      exact (ih t).append (.cons r .nil)
theorem RWs.set {w : W} {v : V} (r : RW K β H w v) : ∀ {ws : List W} {vs : List V} (i : Nat), RWs K β H ws vs → RWs K β H (ws.set i w) (vs.set i v)
  | _, _, _, .nil => .nil
  | _, _, 0, .cons _ t => .cons r t
  | _, _, i + 1, .cons q t => .cons q (RWs.set r i t)
theorem RWs.eraseIdx : ∀ {ws : List W} {vs : List V} (i : Nat), RWs K β H ws vs → RWs K β H (ws.eraseIdx i) (vs.eraseIdx i)
  | _, _, _, .nil => .nil
  | _, _, 0, .cons _ t => t
  | _, _, i + 1, .cons q t => .cons q (RWs.eraseIdx i t)
theorem RWs.dropLast {ws : List W} {vs : List V} (h : RWs K β H ws vs) : RWs K β H ws.dropLast vs.dropLast := by
  rw [List.dropLast_eq_take, List.dropLast_eq_take, h.length]
  exact h.take _
theorem RWs.snoc {ws : List W} {vs : List V} {w : W} {v : V} (h : RWs K β H ws vs) (r : RW K β H w v) : RWs K β H (ws ++ [w]) (vs ++ [v]) := h.append (.cons r .nil)
theorem RW.int_inv {i : Int} {v : V} (h : RW K β H (.int i) v) : v = .int i := by cases h; rfl
theorem RW.bl_inv {i : Bool} {v : V} (h : RW K β H (.bl i) v) : v = .bl i := by cases h; rfl
theorem RW.str_inv {i : Str} {v : V} (h : RW K β H (.str i) v) : v = .str i := by cases h; rfl
theorem RW.non_inv {v : V} (h : RW K β H .non v) : v = .non := by cases h; rfl
theorem Fix.sq {a : Addr} {vs : List V} (h : Fix K H a vs) : SqL K H a vs := by
  rcases h with ⟨o, h⟩ | h
  · exact .inl (.inr ⟨o, h⟩)
  · exact .inr h

/-! ### a new object, a changed one -/
theorem RO.upd {a p : Addr} {o : SO} {u : HO} (h : RO K β H a o) (e : Ext β H β1 (upd H p u)) (n : a ≠ p) : RO K β1 (L2.upd H p u) a o := by
  cases o with
  | lst xs =>
    obtain ⟨vs, e1, r⟩ := h
    exact ⟨vs, by rw [upd_ne n]; exact e1, r.ext e⟩
  | dct kvs =>
    obtain ⟨vs, e1, r⟩ := h
    exact ⟨vs, by rw [upd_ne n]; exact e1, r.ext e⟩
  | dtt kvs =>
    obtain ⟨vs, e1, r⟩ := h
    exact ⟨vs, by rw [upd_ne n]; exact e1, r.ext e⟩
theorem RO.there {a : Addr} {o : SO} (h : RO K β H a o) : ∃ u, H a = Option.some u := by
  cases o with
  | lst xs => obtain ⟨vs, e1, r⟩ := h; exact ⟨_, e1⟩
  | dct kvs => obtain ⟨vs, e1, r⟩ := h; exact ⟨_, e1⟩
  | dtt kvs => obtain ⟨vs, e1, r⟩ := h; exact ⟨_, e1⟩
theorem RO.some {a : Addr} {o : SO} (h : RO K β H a o) : ∃ u, H a = Option.some u ∧ (∀ xs, u ≠ .tup xs) ∧ (∀ ob v, u ≠ .frz ob v) := by
  cases o with
  | lst xs =>
    obtain ⟨vs, e1, r⟩ := h
    exact ⟨_, e1, fun _ z => (nomatch z), fun _ _ z => (nomatch z)⟩
  | dct kvs =>
    obtain ⟨vs, e1, r⟩ := h
    exact ⟨_, e1, fun _ z => (nomatch z), fun _ _ z => (nomatch z)⟩
  | dtt kvs =>
    obtain ⟨vs, e1, r⟩ := h
    exact ⟨_, e1, fun _ z => (nomatch z), fun _ _ z => (nomatch z)⟩
/-- an object at a free place that is not of the store (a tuple) -/
theorem Ext.new {p : Addr} {u : HO} (hp : H p = none) : Ext β H β (upd H p u) :=
  ⟨⟨[], by simp⟩, fun a xs h => by rw [upd_ne (ne_of_none h hp)]; exact h, fun a o v h => by rw [upd_ne (ne_of_none h hp)]; exact h⟩
theorem RS.new {st : Sto} (s : RS K β H st) {p : Addr} {u : HO} (hp : H p = none) : RS K β (upd H p u) st :=
  ⟨s.len, s.nd, fun i o hi => by
    obtain ⟨a, ha, r⟩ := s.ob i o hi
    obtain ⟨z, hz⟩ := r.there
    exact ⟨a, ha, r.upd (Ext.new hp) (ne_of_none hz hp)⟩⟩
/-- .. of the store -/
theorem Ext.alloc {p : Addr} {u : HO} (hp : H p = none) : Ext β H (β ++ [p]) (upd H p u) :=
  ⟨⟨[p], rfl⟩, fun a xs h => by rw [upd_ne (ne_of_none h hp)]; exact h, fun a o v h => by rw [upd_ne (ne_of_none h hp)]; exact h⟩
theorem RS.alloc {st : Sto} (s : RS K β H st) {p : Addr} {u : HO} {o : SO} (hp : H p = none) (r : RO K (β ++ [p]) (upd H p u) p o) : RS K (β ++ [p]) (upd H p u) (st ++ [o]) := by
  have hb : p ∉ β := fun hm => by
    obtain ⟨i, hi, e⟩ := List.mem_iff_getElem.mp hm
    have hs : i < st.length := by rw [← s.len]; exact hi
    obtain ⟨a, ha, r⟩ := s.ob i st[i] (by simp [hs])
    rw [List.getElem?_eq_getElem hi, e] at ha
    cases ha
    obtain ⟨z, hz⟩ := r.there
    rw [hp] at hz; cases hz
  refine ⟨by simp [s.len], ?_, fun i q hi => ?_⟩
  · rw [List.nodup_append]
    exact ⟨s.nd, by simp, fun a ha b hb' => by simp at hb'; subst hb'; exact fun z => hb (z ▸ ha)⟩
  · by_cases hl : i < st.length
    · rw [List.getElem?_append_left hl] at hi
      obtain ⟨a, ha, r⟩ := s.ob i q hi
      obtain ⟨z, hz⟩ := r.there
      exact ⟨a, (Ext.alloc (u := u) hp).ix ha, r.upd (Ext.alloc hp) (ne_of_none hz hp)⟩
    · rw [List.getElem?_append_right (by omega)] at hi
      have h0 : i - st.length = 0 := by
        have := (List.getElem?_eq_some_iff.mp hi).1
        simp at this; omega
      rw [h0] at hi
      simp at hi
      subst hi
      exact ⟨p, by rw [List.getElem?_append_right (by rw [s.len]; omega)]; simp [s.len, h0], r⟩
theorem alloc_ix {st : Sto} (s : RS K β H st) {p : Addr} : (β ++ [p])[st.length]? = some p := by
  rw [← s.len]; simp
/-- the object with number i is changed -/
theorem Ext.chg {a : Addr} {u : HO} {z : HO} (hz : H a = some z) (h1 : ∀ xs, z ≠ .tup xs) (h2 : ∀ ob v, z ≠ .frz ob v) : Ext β H β (upd H a u) :=
  ⟨⟨[], by simp⟩, fun b xs h => by rw [upd_ne (fun e => by subst e; rw [hz] at h; exact h1 xs (Option.some.inj h))]; exact h,
    fun b o v h => by rw [upd_ne (fun e => by subst e; rw [hz] at h; exact h2 o v (Option.some.inj h))]; exact h⟩
theorem RS.chg {st : Sto} (s : RS K β H st) {i : Nat} {o o' : SO} {a : Addr} {u : HO} (hi : st[i]? = some o) (ha : β[i]? = some a) (r : RO K β (upd H a u) a o') :
    Ext β H β (upd H a u) ∧ RS K β (upd H a u) (st.set i o') := by
  obtain ⟨a', ha', r0⟩ := s.ob i o hi
  rw [ha] at ha'; cases ha'
  obtain ⟨z, hz, h1, h2⟩ := r0.some
  have e : Ext β H β (L2.upd H a u) := Ext.chg hz h1 h2
  refine ⟨e, by simp [s.len], s.nd, fun j q hj => ?_⟩
  by_cases c : i = j
  · subst c
    rw [List.getElem?_set_self (List.getElem?_eq_some_iff.mp hi).1] at hj
    cases hj
    exact ⟨a, ha, r⟩
  · rw [List.getElem?_set_ne c] at hj
    obtain ⟨b, hb, rb⟩ := s.ob j q hj
    refine ⟨b, hb, rb.upd e fun z => c ?_⟩
    subst z
    have h1 := List.getElem?_eq_some_iff.mp ha
    have h2 := List.getElem?_eq_some_iff.mp hb
    exact (List.getElem_inj s.nd).mp (h1.2.trans h2.2.symm)
end

/-! ### the judgements -/
section
variable (K : PySem.W.Frag)
def tM (m : EM) : TE := fun σ H Q => ∃ β st env w st', RE K β H env σ ∧ RS K β H st ∧ m env st = some (w, st') ∧
  ∀ v H' β', Ext β H β' H' → RS K β' H' st' → RW K β' H' w v → Q v H'
def tMT (m : TM) : TT := fun σ H Q => ∃ β st env b st', RE K β H env σ ∧ RS K β H st ∧ m env st = some (b, st') ∧
  ∀ H' β', Ext β H β' H' → RS K β' H' st' → Q b H'
def tMA (m : AM) : TA := fun σ H Q => ∃ β st env ws st', RE K β H env σ ∧ RS K β H st ∧ m env st = some (ws, st') ∧
  ∀ vs H' β', Ext β H β' H' → RS K β' H' st' → RWs K β' H' ws vs → Q vs H'
def fin (D : Ends) (fl : Fl) (env : En) (σ : St) (β : List Addr) (H : Hp) : Prop := match fl with
  | .nx => D.nx σ H
  | .bk => D.bk σ H
  | .ct => D.ct σ H
  | .rt w => ∀ v, RW K β H w v → D.rt v H
def tMS (m : SM) : TS := fun D σ H => ∃ β st env fl env' st', RE K β H env σ ∧ RS K β H st ∧ m env st = some ((fl, env'), st') ∧
  ∀ σ' H' β', Ext β H β' H' → RS K β' H' st' → RE K β' H' env' σ' → fin K D fl env' σ' β' H'
end
structure SE (X : Cx) (e : Expr) (m : EM) : Prop where
  pe : PE X e (tM X.K m)
structure ST (X : Cx) (e : Expr) (m : TM) : Prop where
  pt : PT X e (tMT X.K m)
structure SA (X : Cx) (es : List Expr) (m : AM) : Prop where
  pa : PA X es (tMA X.K m)
  len : ∀ env st r, m env st = some r → r.1.length = es.length
structure SS (X : Cx) (st : Stmt) (m : SM) : Prop where
  ps : PS X st (tMS X.K m)
structure SB (X : Cx) (st : List Stmt) (m : SM) : Prop where
  pss : PSs X st (tMS X.K m)

theorem PEimp {X : Cx} {e : Expr} {t t' : TE} (h : PE X e t) (i : ∀ σ H Q, t' σ H Q → t σ H Q) : PE X e t' := ⟨fun pins s σ H Q I hq => h.run pins s σ H Q I (i σ H Q hq)⟩
theorem PTimp {X : Cx} {e : Expr} {t t' : TT} (h : PT X e t) (i : ∀ σ H Q, t' σ H Q → t σ H Q) : PT X e t' := ⟨fun pins s σ H Q I hq => h.run pins s σ H Q I (i σ H Q hq)⟩
theorem PAimp {X : Cx} {es : List Expr} {t t' : TA} (h : PA X es t) (i : ∀ σ H Q, t' σ H Q → t σ H Q) : PA X es t' := ⟨fun pos pins s σ H Q I hq => h.run pos pins s σ H Q I (i σ H Q hq)⟩
theorem PSimp {X : Cx} {st : Stmt} {t t' : TS} (h : PS X st t) (i : ∀ D σ H, t' D σ H → t D σ H) : PS X st t' := ⟨fun pins s σ H D I hq => h.run pins s σ H D I (i D σ H hq)⟩
theorem PSsimp {X : Cx} {st : List Stmt} {t t' : TS} (h : PSs X st t) (i : ∀ D σ H, t' D σ H → t D σ H) : PSs X st t' := ⟨fun pins s σ H D I hq => h.run pins s σ H D I (i D σ H hq)⟩
end B

set_option Elab.async false
set_option linter.all false
set_option maxRecDepth 100000
namespace B
open PySem PySem.Spec L2
set_option autoImplicit false

def sml (n : Nat) : Bool := Nat.ble n 1000000
theorem sml_le {n : Nat} (h : sml n = true) : n ≤ 1000000 := Nat.le_of_ble_eq_true h
theorem sml_line {n : Nat} (h : sml n = true) : n < sizeLine := Nat.lt_of_le_of_lt (sml_le h) (by rw [sizeLine_eq]; decide)
theorem sml_of {n : Nat} (h : n ≤ 1000000) : sml n = true := Nat.ble_eq_true_of_le h

/-! ### pure words -/
@[simp] def eVar (i : Nat) : EM := fun env st => match env[i]? with
  | some (some w) => some (w, st)
  | _ => none
@[simp] def eC (w : W) : EM := fun _ st => some (w, st)
@[simp] def eOp (f : W → W → M W) (a b : EM) : EM := fun env => bnd (a env) fun x => bnd (b env) fun y => f x y
@[simp] def eUn (f : W → M W) (a : EM) : EM := fun env => bnd (a env) f
@[simp] def aNil : AM := fun _ => ret []
@[simp] def aCons (a : EM) (r : AM) : AM := fun env => bnd (a env) fun x => bnd (r env) fun xs => ret (x :: xs)
@[simp] def mkTup (ws : List W) : M W := fun st => if sml ws.length = true then some (.tup ws, st) else none
@[simp] def mkLst (ws : List W) : M W := fun st => if sml ws.length = true then some (.ref st.length, st ++ [.lst ws]) else none
@[simp] def eTup (a : AM) : EM := fun env => bnd (a env) mkTup
@[simp] def eLst (a : AM) : EM := fun env => bnd (a env) mkLst
@[simp] def eCall (F : List W → M W) (a : AM) : EM := fun env => bnd (a env) F
/-- truth of a worth -/
@[simp] def truth (w : W) : M Bool := fun st => match w with
  | .non => some (false, st)
  | .bl b => some (b, st)
  | .int i => some (i != 0, st)
  | .tup xs => some (!xs.isEmpty, st)
  | .fl xs => some (!xs.isEmpty, st)
  | .ref i => match st[i]? with
    | some (.lst xs) => some (!xs.isEmpty, st)
    | some (.dct xs) => some (!xs.isEmpty, st)
    | _ => none
  | _ => none
@[simp] def isBl (w : W) : M Bool := fun st => match w with
  | .bl b => some (b, st)
  | _ => none
@[simp] def tVal (a : EM) : TM := fun env => bnd (a env) truth
@[simp] def tBl (a : EM) : TM := fun env => bnd (a env) isBl
@[simp] def tAndM (a b : TM) : TM := fun env => bnd (a env) fun c => if c = true then b env else ret false
@[simp] def tOrM (a b : TM) : TM := fun env => bnd (a env) fun c => if c = true then ret true else b env
@[simp] def tNotM (a : TM) : TM := fun env => bnd (a env) fun c => ret (!c)
@[simp] def eAnd (a b : EM) : EM := fun env => bnd (bnd (a env) isBl) fun c => if c = true then b env else ret (.bl false)
@[simp] def eOr (a b : EM) : EM := fun env => bnd (bnd (a env) isBl) fun c => if c = true then ret (.bl true) else b env
@[simp] def eNot (a : EM) : EM := fun env => bnd (bnd (a env) isBl) fun c => ret (.bl (!c))
@[simp] def eIf (c : TM) (a b : EM) : EM := fun env => bnd (c env) fun k => if k = true then a env else b env

section
variable {X : Cx}
/-! ### names and constants -/
theorem se_var (i : Nat) {x : Str} {pos : Pos} (hN : X.N[i]? = some x := by rfl) (hv : Vis X.env.scope x := by first | exact Or.inl rfl | exact Or.inr (Or.inl rfl) | exact Or.inr (Or.inr rfl)) (hd : (x == ("__debug__" : Str)) = false := by decide)
    (hcd : (x == ("__classdict__" : Str)) = false := by decide) : SE X (.Name x pos) (eVar i) := by
  refine ⟨PEimp (pe_var (i := i) hN hv hd hcd) ?_⟩
  rintro σ H Q ⟨β, st, env, w, st', hE, hS, hm, k⟩
  unfold eVar at hm
  split at hm
  · rename_i w' e
    cases hm
    obtain ⟨v, e2, r⟩ := hE.at' i w e
    exact ⟨v, e2, k v H β .refl hS r⟩
  · cases hm
theorem c_of {e : Expr} {w : W} {v : V} (h : PE X e (tC v)) (r : ∀ β H, RW X.K β H w v) : SE X e (eC w) := by
  refine ⟨PEimp h ?_⟩
  rintro σ H Q ⟨β, st, env, w', st', hE, hS, hm, k⟩
  cases hm
  exact k v H β .refl hS (r β H)
theorem se_int {i j pos} : SE X (.Constant (.int i) j pos) (eC (.int i)) := c_of pe_int fun _ _ => .int i
theorem se_bl {b j pos} : SE X (.Constant (.bool b) j pos) (eC (.bl b)) := c_of pe_bl fun _ _ => .bl b
theorem se_non {j pos} : SE X (.Constant .none j pos) (eC .non) := c_of pe_non fun _ _ => .non
theorem se_str {x j pos} : SE X (.Constant (.str x) j pos) (eC (.str x)) := c_of pe_str fun _ _ => .str x
/-- a built-in type as a value -/
theorem se_ty {x : Str} {T : String} {pos : Pos} (hg : Gl X x) (hm : X.mg x = none) (hv : bootBuiltins x = some (.type T) := by decide +kernel) (hn : x ≠ "__name__" := by decide) (hd : (x == ("__debug__" : Str)) = false := by decide) : SE X (.Name x pos) (eC (.ext (.ty T))) :=
  c_of (pe_bltn (v := .ty T) hg hm hv rfl hn hd) fun _ _ => .ext _

/-! ### arguments, tuples, lists -/
theorem sa_nil : SA X [] aNil := by
  refine ⟨PAimp pa_nil ?_, fun env st r h => by cases h; rfl⟩
  rintro σ H Q ⟨β, st, env, w, st', hE, hS, hm, k⟩
  cases hm
  exact k [] H β .refl hS .nil
theorem sa_cons {e : Expr} {es : List Expr} {m : EM} {r : AM} (ha : SE X e m) (hr : SA X es r) (hs : starEach (e :: es) X.env = (false, eval e X.env) :: starEach es X.env := by rfl) : SA X (e :: es) (aCons m r) := by
  refine ⟨PAimp (pa_cons ha.pe hr.pa hs) ?_, fun env st r h => ?_⟩
  rotate_left
  · obtain ⟨x, st1, h1, h2⟩ := bnd_some h
    obtain ⟨xs, st2, h3, h4⟩ := bnd_some h2
    cases h4
    have := hr.len _ _ _ h3
    simp at this ⊢
    exact this
  rintro σ H Q ⟨β, st, env, w, st', hE, hS, hm, k⟩
  obtain ⟨x, st1, h1, h2⟩ := bnd_some hm
  obtain ⟨xs, st2, h3, h4⟩ := bnd_some h2
  cases h4
  exact ⟨β, st, env, x, st1, hE, hS, h1, fun v H1 β1 e1 s1 r1 => ⟨β1, st1, env, xs, _, hE.ext e1, s1, h3, fun vs H2 β2 e2 s2 r2 => k _ _ _ (e1.trans e2) s2 (.cons (r1.ext' e2) r2)⟩⟩
theorem se_tup {es : List Expr} {x1 pos} {m : AM} (h : SA X es m) : SE X (.Tuple es x1 pos) (eTup m) := by
  refine ⟨PEimp (pe_tup h.pa) ?_⟩
  rintro σ H Q ⟨β, st, env, w, st', hE, hS, hm, k⟩
  obtain ⟨xs, st1, h1, h2⟩ := bnd_some hm
  unfold mkTup at h2
  split at h2
  · rename_i hz
    cases h2
    refine ⟨β, st, env, xs, st', hE, hS, h1, fun vs H1 β1 e1 s1 r1 => ?_⟩
    have hl := r1.length
    refine ⟨by rw [← hl]; exact Nat.le_of_lt (sml_line hz), fun p hp => ?_⟩
    exact k _ _ β1 (e1.trans (Ext.new hp)) (s1.new hp) (.tup (.inl upd_same) (r1.ext (Ext.new hp)))
  · cases h2
theorem ref_mkLst {σ : L2.St} {β : List Addr} {H : Hp} {st st' : Sto} {w : W} {xs : List W} {vs : List V} (hm : mkLst xs st = some (w, st')) (hS : RS X.K β H st) (r1 : RWs X.K β H xs vs) {Q : VK}
    (k : ∀ v H' β', Ext β H β' H' → RS X.K β' H' st' → RW X.K β' H' w v → Q v H') : vs.length ≤ sizeLine ∧ ∀ p, H p = none → Q (.ref p) (upd H p (.lst vs)) := by
  unfold mkLst at hm
  split at hm
  · rename_i hz
    cases hm
    have hl := r1.length
    refine ⟨by rw [← hl]; exact Nat.le_of_lt (sml_line hz), fun p hp => ?_⟩
    have e : Ext β H (β ++ [p]) (upd H p (.lst vs)) := Ext.alloc hp
    exact k _ _ _ e (hS.alloc hp ⟨vs, upd_same, r1.ext e⟩) (.ref (alloc_ix hS))
  · cases hm
theorem se_lst {es : List Expr} {pos} {m : AM} (h : SA X es m) : SE X (.List es pos) (eLst m) := by
  refine ⟨PEimp (pe_lst h.pa) ?_⟩
  rintro σ H Q ⟨β, st, env, w, st', hE, hS, hm, k⟩
  obtain ⟨xs, st1, h1, h2⟩ := bnd_some hm
  exact ⟨β, st, env, xs, st1, hE, hS, h1, fun vs H1 β1 e1 s1 r1 => ref_mkLst (σ := σ) h2 s1 r1 fun v H2 β2 e2 s2 r2 => k v H2 β2 (e1.trans e2) s2 r2⟩

/-! ### operators by values -/
/-- f is what the rule r asks, for worths -/
def Ref2 (K : PySem.W.Frag) (f : W → W → M W) (r : R2) : Prop := ∀ (β : List Addr) (H : Hp) (st st' : Sto) (x y w : W) (vx vy : V) (Q : VK), RS K β H st → RW K β H x vx → RW K β H y vy → f x y st = some (w, st') →
  (∀ v H' β', Ext β H β' H' → RS K β' H' st' → RW K β' H' w v → Q v H') → r vx vy H Q
def Ref1 (K : PySem.W.Frag) (f : W → M W) (r : V → Hp → VK → Prop) : Prop := ∀ (β : List Addr) (H : Hp) (st st' : Sto) (x w : W) (vx : V) (Q : VK), RS K β H st → RW K β H x vx → f x st = some (w, st') →
  (∀ v H' β', Ext β H β' H' → RS K β' H' st' → RW K β' H' w v → Q v H') → r vx H Q
def RefN (K : PySem.W.Frag) (f : List W → M W) (r : List V → Hp → VK → Prop) : Prop := ∀ (β : List Addr) (H : Hp) (st st' : Sto) (xs : List W) (w : W) (vs : List V) (Q : VK), RS K β H st → RWs K β H xs vs → f xs st = some (w, st') →
  (∀ v H' β', Ext β H β' H' → RS K β' H' st' → RW K β' H' w v → Q v H') → r vs H Q
theorem tM_op {f : W → W → M W} {r : R2} (hf : Ref2 X.K f r) {a b : EM} {σ : L2.St} {H : Hp} {Q : VK} (h : tM X.K (eOp f a b) σ H Q) : tOp r (tM X.K a) (tM X.K b) σ H Q := by
  obtain ⟨β, st, env, w, st', hE, hS, hm, k⟩ := h
  obtain ⟨x, st1, h1, h2⟩ := bnd_some hm
  obtain ⟨y, st2, h3, h4⟩ := bnd_some h2
  exact ⟨β, st, env, x, st1, hE, hS, h1, fun v H1 β1 e1 s1 r1 => ⟨β1, st1, env, y, st2, hE.ext e1, s1, h3, fun u H2 β2 e2 s2 r2 =>
    hf β2 H2 st2 st' x y w v u Q s2 (r1.ext' e2) r2 h4 fun z H3 β3 e3 s3 r3 => k z H3 β3 ((e1.trans e2).trans e3) s3 r3⟩⟩
theorem se_op {a b : Expr} {op : Operator} {pos : Pos} {ma mb : EM} {f : W → W → M W} {r : R2} (ho : OpR X (binaryOp op) r) (hf : Ref2 X.K f r) (ha : SE X a ma) (hb : SE X b mb) : SE X (.BinOp a op b pos) (eOp f ma mb) :=
  ⟨PEimp (pe_op ho ha.pe hb.pe) fun _ _ _ h => tM_op hf h⟩
theorem se_cmp {a b : Expr} {op : CmpOp} {pos : Pos} {ma mb : EM} {f : W → W → M W} {r : R2} (ho : OpR X (compareOp op) r) (hf : Ref2 X.K f r) (ha : SE X a ma) (hb : SE X b mb) (hm : behindInMarks op b = false := by first | exact nomark _ | rfl) : SE X (.Compare a [op] [b] pos) (eOp f ma mb) :=
  ⟨PEimp (pe_cmpR ho ha.pe hb.pe hm) fun _ _ _ h => tM_op hf h⟩
theorem tM_bl {f : EM} {σ : L2.St} {H : Hp} {Q : Bool → Hp → Prop} (h : tMT X.K (tBl f) σ H Q) : tM X.K f σ H (fun v H' => ∃ k, v = .bl k ∧ Q k H') := by
  obtain ⟨β, st, env, c, st', hE, hS, hm, k⟩ := h
  obtain ⟨x, st1, h1, h2⟩ := bnd_some hm
  unfold isBl at h2
  split at h2
  · cases h2
    exact ⟨β, st, env, _, _, hE, hS, h1, fun v H1 β1 e1 s1 r1 => ⟨_, r1.bl_inv, k H1 β1 e1 s1⟩⟩
  · cases h2
theorem st_cmp {a b : Expr} {op : CmpOp} {pos : Pos} {ma mb : EM} {f : W → W → M W} {r : R2} (ho : OpR X (compareOp op) r) (hf : Ref2 X.K f r) (ha : SE X a ma) (hb : SE X b mb) (hm : behindInMarks op b = false := by first | exact nomark _ | rfl) : ST X (.Compare a [op] [b] pos) (tBl (eOp f ma mb)) :=
  ⟨PTimp (pt_cmpR ho ha.pe hb.pe hm) fun _ _ _ h => tM_op hf (tM_bl h)⟩
/-- low <= x <= high -/
@[simp] def eChain (f g : W → W → M W) (a b c : EM) : EM := fun env => bnd (a env) fun x => bnd (b env) fun y => bnd (bnd (f x y) isBl) fun k => if k = true then bnd (c env) fun z => g y z else ret (.bl false)
theorem tM_chain {f g : W → W → M W} {r r' : R2} (hf : Ref2 X.K f r) (hg : Ref2 X.K g r') {a b c : EM} {σ : L2.St} {H : Hp} {Q : VK} (h : tM X.K (eChain f g a b c) σ H Q) : tChain r r' (tM X.K a) (tM X.K b) (tM X.K c) σ H Q := by
  obtain ⟨β, st, env, w, st', hE, hS, hm, k⟩ := h
  obtain ⟨x, st1, h1, h2⟩ := bnd_some hm
  obtain ⟨y, st2, h3, h4⟩ := bnd_some h2
  obtain ⟨b', st3, h5, h6⟩ := bnd_some h4
  obtain ⟨z, st4, h7, h8⟩ := bnd_some h5
  unfold isBl at h8
  split at h8
  · cases h8
    refine ⟨β, st, env, x, st1, hE, hS, h1, fun v H1 β1 e1 s1 r1 => ⟨β1, st1, env, y, st2, hE.ext e1, s1, h3, fun u H2 β2 e2 s2 r2 => ?_⟩⟩
    refine hf β2 H2 st2 _ x y _ v u _ s2 (r1.ext' e2) r2 h7 fun z H3 β3 e3 s3 r3 => ⟨_, r3.bl_inv, ?_⟩
    cases b' with
    | true =>
      obtain ⟨t, st5, h9, h10⟩ := bnd_some h6
      refine ⟨β3, _, env, t, st5, hE.ext ((e1.trans e2).trans e3), s3, h9, fun q H4 β4 e4 s4 r4 => ?_⟩
      exact hg β4 H4 st5 st' y t w u q Q s4 (r2.ext' (e3.trans e4)) r4 h10 fun q2 H5 β5 e5 s5 r5 => k q2 H5 β5 ((((e1.trans e2).trans e3).trans e4).trans e5) s5 r5
    | false =>
      cases h6
      exact k _ H3 β3 ((e1.trans e2).trans e3) s3 (.bl false)
  · cases h8
theorem se_chain {a b c : Expr} {op op' : CmpOp} {pos : Pos} {ma mb mc : EM} {f g : W → W → M W} {r r' : R2} (ho : OpR X (compareOp op) r) (ho' : OpR X (compareOp op') r') (hf : Ref2 X.K f r) (hg : Ref2 X.K g r') (ha : SE X a ma) (hb : SE X b mb) (hc : SE X c mc) (hm : lastMarks [op, op'] [b, c] = false := by with_unfolding_all rfl) :
    SE X (.Compare a [op, op'] [b, c] pos) (eChain f g ma mb mc) := ⟨PEimp (pe_chain ho ho' ha.pe hb.pe hc.pe hm) fun _ _ _ h => tM_chain hf hg h⟩
theorem st_chain {a b c : Expr} {op op' : CmpOp} {pos : Pos} {ma mb mc : EM} {f g : W → W → M W} {r r' : R2} (ho : OpR X (compareOp op) r) (ho' : OpR X (compareOp op') r') (hf : Ref2 X.K f r) (hg : Ref2 X.K g r') (ha : SE X a ma) (hb : SE X b mb) (hc : SE X c mc) (hm : lastMarks [op, op'] [b, c] = false := by with_unfolding_all rfl) :
    ST X (.Compare a [op, op'] [b, c] pos) (tBl (eChain f g ma mb mc)) := ⟨PTimp (pt_chain ho ho' ha.pe hb.pe hc.pe hm) fun _ _ _ h => tM_chain hf hg (tM_bl h)⟩
theorem se_un {a : Expr} {op : UnaryOp} {pos : Pos} {ma : EM} {f : W → M W} {r : V → Hp → VK → Prop} (ho : UnR X (unaryOp op) r) (hf : Ref1 X.K f r) (ha : SE X a ma) : SE X (.UnaryOp op a pos) (eUn f ma) := by
  refine ⟨PEimp (pe_un ho ha.pe) ?_⟩
  rintro σ H Q ⟨β, st, env, w, st', hE, hS, hm, k⟩
  obtain ⟨x, st1, h1, h2⟩ := bnd_some hm
  exact ⟨β, st, env, x, st1, hE, hS, h1, fun v H1 β1 e1 s1 r1 => hf β1 H1 st1 st' x w v Q s1 r1 h2 fun z H3 β3 e3 s3 r3 => k z H3 β3 (e1.trans e3) s3 r3⟩

/-! ### calls of what is built in -/
theorem tM_CB {f : List W → M W} {r : List V → Hp → VK → Prop} (hf : RefN X.K f r) {a : AM} {σ : L2.St} {H : Hp} {Q : VK} (h : tM X.K (eCall f a) σ H Q) : tCB r (tMA X.K a) σ H Q := by
  obtain ⟨β, st, env, w, st', hE, hS, hm, k⟩ := h
  obtain ⟨xs, st1, h1, h2⟩ := bnd_some hm
  exact ⟨β, st, env, xs, st1, hE, hS, h1, fun vs H1 β1 e1 s1 r1 => hf β1 H1 st1 st' xs w vs Q s1 r1 h2 fun z H3 β3 e3 s3 r3 => k z H3 β3 (e1.trans e3) s3 r3⟩
theorem se_callB {id : String} {x : Str} {p pos : Pos} {e : Expr} {es : List Expr} {f : List W → M W} {r : List V → Hp → VK → Prop} {a : AM} (hc : CallR X (.builtin id) r) (hf : RefN X.K f r) (hg : Gl X x) (hm : X.mg x = none) (ha : SA X (e :: es) a)
    (hv : bootBuiltins x = some (.builtin id) := by decide +kernel) (hn : x ≠ "__name__" := by decide) (hdb : (x == ("__debug__" : Str)) = false := by decide)
    (he : starEach (e :: es) X.env = (false, eval e X.env) :: starEach es X.env := by rfl) (hpl : (backTo pos (starEach es X.env)).any (·.1) = false := by rfl) : SE X (.Call (.Name x p) (e :: es) [] pos) (eCall f a) :=
  ⟨PEimp (pe_callB hc hg hm hv ha.pa hn hdb he hpl) fun _ _ _ h => tM_CB hf h⟩
theorem se_callTy {T : String} {x : Str} {p pos : Pos} {e : Expr} {es : List Expr} {f : List W → M W} {r : List V → Hp → VK → Prop} {a : AM} (hc : CallR X (.type T) r) (hf : RefN X.K f r) (hg : Gl X x) (hm : X.mg x = none) (ha : SA X (e :: es) a)
    (hv : bootBuiltins x = some (.type T) := by decide +kernel) (hn : x ≠ "__name__" := by decide) (hdb : (x == ("__debug__" : Str)) = false := by decide)
    (he : starEach (e :: es) X.env = (false, eval e X.env) :: starEach es X.env := by rfl) (hpl : (backTo pos (starEach es X.env)).any (·.1) = false := by rfl) : SE X (.Call (.Name x p) (e :: es) [] pos) (eCall f a) :=
  ⟨PEimp (pe_callTy hc hg hm hv ha.pa hn hdb he hpl) fun _ _ _ h => tM_CB hf h⟩

/-! ### tests -/
theorem truth_ok {β : List Addr} {H : Hp} {st st' : Sto} {w : W} {v : V} {b : Bool} (s : RS X.K β H st) (r : RW X.K β H w v) (h : truth w st = some (b, st')) : st' = st ∧ TruV X.K v H b := by
  unfold truth at h
  cases r with
  | non => cases h; exact ⟨rfl, rfl⟩
  | bl c => cases h; exact ⟨rfl, rfl⟩
  | int i => cases h; exact ⟨rfl, rfl⟩
  | str x => cases h
  | ext v => cases h
  | fnc _ => cases h
  | tup hq r =>
    cases h
    refine ⟨rfl, .inr (.inl ⟨_, hq.sq, ?_⟩)⟩
    have := r.length
    cases r <;> rfl
  | fl hq r =>
    cases h
    refine ⟨rfl, .inl ⟨_, hq.sq, ?_⟩⟩
    cases r <;> rfl
  | @ref i a hb =>
    dsimp only at h
    split at h
    · rename_i xs e
      cases h
      obtain ⟨a', ha, vs, e1, r⟩ := s.ob i _ e
      rw [hb] at ha; cases ha
      exact ⟨rfl, .inl ⟨_, SqL.of e1, by cases r <;> rfl⟩⟩
    · rename_i xs e
      cases h
      obtain ⟨a', ha, vs, e1, r⟩ := s.ob i _ e
      rw [hb] at ha; cases ha
      exact ⟨rfl, .inr (.inr ⟨_, e1, by cases r <;> rfl⟩)⟩
    · cases h
theorem st_val {e : Expr} {m : EM} (h : SE X e m) (he : ∀ whole, isTrue e X.env whole = (do let v ← whole; standAt e.pos; holding [v] (truthy v)) := by intro _; rfl) : ST X e (tVal m) := by
  refine ⟨PTimp (pt_truth h.pe he) ?_⟩
  rintro σ H Q ⟨β, st, env, c, st', hE, hS, hm, k⟩
  obtain ⟨x, st1, h1, h2⟩ := bnd_some hm
  refine ⟨β, st, env, x, st1, hE, hS, h1, fun v H1 β1 e1 s1 r1 => ?_⟩
  obtain ⟨rfl, t⟩ := truth_ok s1 r1 h2
  exact ⟨c, t, k H1 β1 e1 s1⟩
structure SWt (X : Cx) (e : Expr) (m : TM) : Prop where
  pw : PW X e (tMT X.K m)
theorem PWimp {e : Expr} {t t' : TT} (h : PW X e t) (i : ∀ σ H Q, t' σ H Q → t σ H Q) : PW X e t' := ⟨fun wh pins s σ H Q I hq => h.run wh pins s σ H Q I (i σ H Q hq)⟩
theorem sw_and1 {a : Expr} {pos : Pos} {m : TM} (ha : ST X a m) : SWt X (.BoolOp .And [a] pos) m := ⟨pw_and1 ha.pt⟩
theorem sw_or1 {a : Expr} {pos : Pos} {m : TM} (ha : ST X a m) : SWt X (.BoolOp .Or [a] pos) m := ⟨pw_or1 ha.pt⟩
theorem sw_and {a b : Expr} {rest : List Expr} {pos : Pos} {m n : TM} (ha : ST X a m) (hb : SWt X (.BoolOp .And (b :: rest) pos) n) : SWt X (.BoolOp .And (a :: b :: rest) pos) (tAndM m n) := by
  refine ⟨PWimp (pw_and ha.pt hb.pw) ?_⟩
  rintro σ H Q ⟨β, st, env, c, st', hE, hS, hm, k⟩
  obtain ⟨x, st1, h1, h2⟩ := bnd_some hm
  refine ⟨β, st, env, x, st1, hE, hS, h1, fun H1 β1 e1 s1 => ?_⟩
  cases x with
  | true => exact ⟨β1, st1, env, c, st', hE.ext e1, s1, h2, fun H2 β2 e2 s2 => k H2 β2 (e1.trans e2) s2⟩
  | false => cases h2; exact k H1 β1 e1 s1
theorem sw_or {a b : Expr} {rest : List Expr} {pos : Pos} {m n : TM} (ha : ST X a m) (hb : SWt X (.BoolOp .Or (b :: rest) pos) n) : SWt X (.BoolOp .Or (a :: b :: rest) pos) (tOrM m n) := by
  refine ⟨PWimp (pw_or ha.pt hb.pw) ?_⟩
  rintro σ H Q ⟨β, st, env, c, st', hE, hS, hm, k⟩
  obtain ⟨x, st1, h1, h2⟩ := bnd_some hm
  refine ⟨β, st, env, x, st1, hE, hS, h1, fun H1 β1 e1 s1 => ?_⟩
  cases x with
  | false => exact ⟨β1, st1, env, c, st', hE.ext e1, s1, h2, fun H2 β2 e2 s2 => k H2 β2 (e1.trans e2) s2⟩
  | true => cases h2; exact k H1 β1 e1 s1
theorem st_w {e : Expr} {m : TM} (h : SWt X e m) : ST X e m := ⟨h.pw.pt⟩
theorem st_not {a : Expr} {pos : Pos} {m : TM} (ha : ST X a m) : ST X (.UnaryOp .Not a pos) (tNotM m) := by
  refine ⟨PTimp (pt_not ha.pt) ?_⟩
  rintro σ H Q ⟨β, st, env, c, st', hE, hS, hm, k⟩
  obtain ⟨x, st1, h1, h2⟩ := bnd_some hm
  cases h2
  exact ⟨β, st, env, x, _, hE, hS, h1, fun H1 β1 e1 s1 => k H1 β1 e1 s1⟩
/-! .. as worths -/
theorem isBl_bnd {m : M W} {st : Sto} {r : Bool × Sto} (h : bnd m isBl st = some r) : m st = some (.bl r.1, r.2) := by
  obtain ⟨x, st1, h1, h2⟩ := bnd_some h
  unfold isBl at h2
  split at h2
  · cases h2; exact h1
  · cases h2
theorem se_one {a : Expr} {op} {pos : Pos} {m : EM} (ha : SE X a m) : SE X (.BoolOp op [a] pos) m := ⟨pe_one ha.pe⟩
theorem se_and {a b : Expr} {rest : List Expr} {pos : Pos} {m n : EM} (ha : SE X a m) (hb : SE X (.BoolOp .And (b :: rest) pos) n) : SE X (.BoolOp .And (a :: b :: rest) pos) (eAnd m n) := by
  refine ⟨PEimp (pe_and ha.pe hb.pe) ?_⟩
  rintro σ H Q ⟨β, st, env, w, st', hE, hS, hm, k⟩
  obtain ⟨c, st1, h1, h2⟩ := bnd_some hm
  have h1 := isBl_bnd h1
  refine ⟨β, st, env, _, st1, hE, hS, h1, fun v H1 β1 e1 s1 r1 => ⟨c, r1.bl_inv, ?_⟩⟩
  cases c with
  | true => exact ⟨β1, st1, env, w, st', hE.ext e1, s1, h2, fun v H2 β2 e2 s2 r2 => k v H2 β2 (e1.trans e2) s2 r2⟩
  | false => cases h2; exact k _ H1 β1 e1 s1 (.bl false)
theorem se_or {a b : Expr} {rest : List Expr} {pos : Pos} {m n : EM} (ha : SE X a m) (hb : SE X (.BoolOp .Or (b :: rest) pos) n) : SE X (.BoolOp .Or (a :: b :: rest) pos) (eOr m n) := by
  refine ⟨PEimp (pe_or ha.pe hb.pe) ?_⟩
  rintro σ H Q ⟨β, st, env, w, st', hE, hS, hm, k⟩
  obtain ⟨c, st1, h1, h2⟩ := bnd_some hm
  have h1 := isBl_bnd h1
  refine ⟨β, st, env, _, st1, hE, hS, h1, fun v H1 β1 e1 s1 r1 => ⟨c, r1.bl_inv, ?_⟩⟩
  cases c with
  | false => exact ⟨β1, st1, env, w, st', hE.ext e1, s1, h2, fun v H2 β2 e2 s2 r2 => k v H2 β2 (e1.trans e2) s2 r2⟩
  | true => cases h2; exact k _ H1 β1 e1 s1 (.bl true)
theorem se_not {a : Expr} {pos : Pos} {m : EM} (ha : SE X a m) : SE X (.UnaryOp .Not a pos) (eNot m) := by
  refine ⟨PEimp (pe_not ha.pe) ?_⟩
  rintro σ H Q ⟨β, st, env, w, st', hE, hS, hm, k⟩
  obtain ⟨c, st1, h1, h2⟩ := bnd_some hm
  have h1 := isBl_bnd h1
  cases h2
  exact ⟨β, st, env, _, _, hE, hS, h1, fun v H1 β1 e1 s1 r1 => ⟨c, r1.bl_inv, k _ H1 β1 e1 s1 (.bl (!c))⟩⟩
theorem se_if {c a b : Expr} {pos : Pos} {t : TM} {m n : EM} (hc : ST X c t) (ha : SE X a m) (hb : SE X b n) : SE X (.IfExp c a b pos) (eIf t m n) := by
  refine ⟨PEimp (pe_ifExp hc.pt ha.pe hb.pe) ?_⟩
  rintro σ H Q ⟨β, st, env, w, st', hE, hS, hm, k⟩
  obtain ⟨c, st1, h1, h2⟩ := bnd_some hm
  refine ⟨β, st, env, c, st1, hE, hS, h1, fun H1 β1 e1 s1 => ?_⟩
  cases c with
  | true => exact ⟨β1, st1, env, w, st', hE.ext e1, s1, h2, fun v H2 β2 e2 s2 r2 => k v H2 β2 (e1.trans e2) s2 r2⟩
  | false => exact ⟨β1, st1, env, w, st', hE.ext e1, s1, h2, fun v H2 β2 e2 s2 r2 => k v H2 β2 (e1.trans e2) s2 r2⟩
end
end B

set_option Elab.async false
set_option linter.all false
set_option maxRecDepth 100000
namespace B
open PySem PySem.Spec L2
set_option autoImplicit false

/-! ### targets -/
inductive Pat where
  | nm (i : Nat)
  | tp (ps : List Pat)
mutual
@[simp] def Pat.asg : Pat → W → En → M En
  | .nm i, w, env => ret (env.set i (some w))
  | .tp ps, w, env => match w with
    | .tup xs => Pat.asgs ps xs env
    | .fl xs => Pat.asgs ps xs env
    | .ref i => fun st => match st[i]? with
      | some (.lst xs) => Pat.asgs ps xs env st
      | _ => none
    | _ => fail
@[simp] def Pat.asgs : List Pat → List W → En → M En
  | [], [], env => ret env
  | p :: ps, x :: xs, env => bnd (Pat.asg p x env) fun env1 => Pat.asgs ps xs env1
  | _, _, _ => fail
end
mutual
def Pat.slots : Pat → List Nat
  | .nm i => [i]
  | .tp ps => Pat.slotss ps
def Pat.slotss : List Pat → List Nat
  | [] => []
  | p :: ps => p.slots ++ Pat.slotss ps
end
theorem wipe_set_mem {σ : L2.St} {i : Nat} {v : Option V} : ∀ {vs : List Nat}, i ∈ vs → wipe (σ.set i v) vs = wipe σ vs
  | [], h => by simp at h
  | a :: vs, h => by
    show (wipe (σ.set i v) vs).set a none = (wipe σ vs).set a none
    by_cases e : i ∈ vs
    · rw [wipe_set_mem e]
    · have ea : i = a := by simpa [e] using h
      subst ea
      have key : ∀ (vs : List Nat), i ∉ vs → wipe (σ.set i v) vs = (wipe σ vs).set i v := by
        intro vs
        induction vs with
        | nil => intro _; rfl
        | cons b bs ih =>
          intro hb
          simp only [List.mem_cons, not_or] at hb
          show (wipe (σ.set i v) bs).set b none = ((wipe σ bs).set b none).set i v
          rw [ih hb.2, List.set_comm _ _ hb.1]
      rw [key vs e, List.set_set]
def tMG (K : PySem.W.Frag) (p : Pat) : TG := fun v σ H Q => ∃ β st env w env' st', RE K β H env σ ∧ RS K β H st ∧ RW K β H w v ∧ p.asg w env st = some (env', st') ∧
  ∀ σ' H' β', Ext β H β' H' → RS K β' H' st' → RE K β' H' env' σ' → (∀ vs : List Nat, (∀ i ∈ p.slots, i ∈ vs) → wipe σ' vs = wipe σ vs) → Q σ' H'
def tMGs (K : PySem.W.Frag) (ps : List Pat) : TGs := fun vs σ H Q => ∃ β st env ws env' st', RE K β H env σ ∧ RS K β H st ∧ RWs K β H ws vs ∧ Pat.asgs ps ws env st = some (env', st') ∧
  ∀ σ' H' β', Ext β H β' H' → RS K β' H' st' → RE K β' H' env' σ' → (∀ us : List Nat, (∀ i ∈ Pat.slotss ps, i ∈ us) → wipe σ' us = wipe σ us) → Q σ' H'
structure SG (X : Cx) (e : Expr) (p : Pat) : Prop where
  pg : PG X e (tMG X.K p)
structure SGs (X : Cx) (es : List Expr) (ps : List Pat) : Prop where
  pgs : PGs X es (tMGs X.K ps)
  len : es.length = ps.length
section
variable {X : Cx}
theorem PGimp {e : Expr} {t t' : TG} (h : PG X e t) (i : ∀ v σ H Q, t' v σ H Q → t v σ H Q) : PG X e t' := ⟨fun pins s σ H v u Q I r hq => h.run pins s σ H v u Q I r (i v σ H Q hq)⟩
theorem PGsimp {e : List Expr} {t t' : TGs} (h : PGs X e t) (i : ∀ v σ H Q, t' v σ H Q → t v σ H Q) : PGs X e t' := ⟨fun pins s σ H v u Q I r hq => h.run pins s σ H v u Q I r (i v σ H Q hq)⟩
theorem sg_nm (i : Nat) {x : Str} {pos : Pos} (hN : X.N.Nodup) (hi : X.N[i]? = some x := by rfl) (hx : Loc X.env.scope x := by first | exact Or.inl rfl | exact Or.inr rfl)
    (hf : X.fn x = true ∨ X.env.scope.names.lookup x = some .local := by first | exact .inl rfl | exact .inr rfl) : SG X (.Name x pos) (.nm i) := by
  refine ⟨PGimp (pg_name (i := i) hN hi hx hf) ?_⟩
  rintro v σ H Q ⟨β, st, env, w, env', st', hE, hS, rw', hm, k⟩
  simp only [Pat.asg] at hm
  cases hm
  exact k _ H β .refl hS (hE.set rw' i) fun vs hv => wipe_set_mem (hv i (by simp [Pat.slots]))
theorem sgs_nil : SGs X [] [] := by
  refine ⟨PGsimp pgs_nil ?_, rfl⟩
  rintro v σ H Q ⟨β, st, env, ws, env', st', hE, hS, rw', hm, k⟩
  cases rw' with
  | nil =>
    simp only [Pat.asgs] at hm
    cases hm
    exact ⟨rfl, k σ H β .refl hS hE fun _ _ => rfl⟩
  | cons r t => simp only [Pat.asgs] at hm; cases hm
theorem sgs_cons {e : Expr} {es : List Expr} {p : Pat} {ps : List Pat} (h1 : SG X e p) (h2 : SGs X es ps) (hs : (assignEach (e :: es) X.env).map (·.2) = assign e X.env :: (assignEach es X.env).map (·.2) := by rfl) : SGs X (e :: es) (p :: ps) := by
  refine ⟨PGsimp (pgs_cons h1.pg h2.pgs hs) ?_, by simp [h2.len]⟩
  rintro v σ H Q ⟨β, st, env, ws, env', st', hE, hS, rw', hm, k⟩
  cases rw' with
  | nil => simp only [Pat.asgs] at hm; cases hm
  | cons r t =>
    simp only [Pat.asgs] at hm
    obtain ⟨env1, st1, h3, h4⟩ := bnd_some hm
    refine ⟨_, _, rfl, β, st, env, _, env1, st1, hE, hS, r, h3, fun σ1 H1 β1 e1 s1 E1 w1 => ?_⟩
    refine ⟨β1, st1, env1, _, env', st', E1, s1, t.ext e1, h4, fun σ2 H2 β2 e2 s2 E2 w2 => k σ2 H2 β2 (e1.trans e2) s2 E2 fun us hu => ?_⟩
    rw [w2 us fun i hi => hu i (by simp [Pat.slotss, hi]), w1 us fun i hi => hu i (by simp [Pat.slotss, hi])]
theorem asgs_len : ∀ (ps : List Pat) (xs : List W) (env : En) (st : Sto) (r : En × Sto), Pat.asgs ps xs env st = some r → xs.length = ps.length := by
  intro ps
  induction ps with
  | nil => intro xs env st r h; cases xs with | nil => rfl | cons _ _ => simp only [Pat.asgs] at h; cases h
  | cons p ps ih =>
    intro xs env st r h
    cases xs with
    | nil => simp only [Pat.asgs] at h; cases h
    | cons x xs =>
      simp only [Pat.asgs] at h
      obtain ⟨env1, st1, h1, h2⟩ := bnd_some h
      simp [ih xs env1 st1 r h2]
theorem PGor {e : Expr} {t t' : TG} (h : PG X e t) (h' : PG X e t') : PG X e (fun v σ H Q => t v σ H Q ∨ t' v σ H Q) := ⟨fun pins s σ H v u Q I r hq => hq.elim (h.run pins s σ H v u Q I r) (h'.run pins s σ H v u Q I r)⟩
theorem sg_tp {es : List Expr} {k : Nat} {pos : Pos} {ps : List Pat} (hc : X.calm = true) (h : SGs X es ps) (hn : (assignEach es X.env).length = ps.length := by rfl) (hst : (assignEach es X.env).findIdx? (·.1) = none := by rfl) : SG X (.Tuple es k pos) (.tp ps) := by
  refine ⟨PGimp (PGor (pg_tup hc h.pgs hn hst) (pg_unl hc h.pgs hn hst)) ?_⟩
  rintro v σ H Q ⟨β, st, env, w, env', st', hE, hS, rw', hm, k⟩
  simp only [Pat.asg] at hm
  cases rw' with
  | @tup a xs vs hq r =>
    exact .inl ⟨a, vs, rfl, hq.sq, by rw [← r.length]; exact asgs_len _ _ _ _ _ hm, β, st, env, xs, env', st', hE, hS, r, hm, fun σ1 H1 β1 e1 s1 E1 w1 => k σ1 H1 β1 e1 s1 E1 fun us hu => w1 us fun i hi => hu i (by simpa [Pat.slots] using hi)⟩
  | @fl a xs vs hq r =>
    exact .inr ⟨a, vs, rfl, hq.sq, by rw [← r.length]; exact asgs_len _ _ _ _ _ hm, β, st, env, xs, env', st', hE, hS, r, hm, fun σ1 H1 β1 e1 s1 E1 w1 => k σ1 H1 β1 e1 s1 E1 fun us hu => w1 us fun i hi => hu i (by simpa [Pat.slots] using hi)⟩
  | @ref i a ha =>
    dsimp only at hm
    split at hm
    · rename_i xs hi
      obtain ⟨b, hb, vs, e, r⟩ := hS.ob i _ hi
      rw [ha] at hb; cases hb
      exact .inr ⟨a, vs, rfl, SqL.of e, by rw [← r.length]; exact asgs_len _ _ _ _ _ hm, β, st, env, xs, env', st', hE, hS, r, hm, fun σ1 H1 β1 e1 s1 E1 w1 => k σ1 H1 β1 e1 s1 E1 fun us hu => w1 us fun i hi => hu i (by simpa [Pat.slots] using hi)⟩
    · cases hm
  | _ => cases hm

/-! ### statements -/
end
@[simp] def sSet (p : Pat) (e : EM) : SM := fun env => bnd (e env) fun w => bnd (p.asg w env) fun env' => ret (.nx, env')
@[simp] def sExpr (e : EM) : SM := fun env => bnd (e env) fun _ => ret (.nx, env)
@[simp] def sRet (e : EM) : SM := fun env => bnd (e env) fun w => ret (.rt w, env)
@[simp] def sRetN : SM := fun env => ret (.rt .non, env)
@[simp] def sPass : SM := fun env => ret (.nx, env)
@[simp] def sBreak : SM := fun env => ret (.bk, env)
@[simp] def sCont : SM := fun env => ret (.ct, env)
@[simp] def sNever : SM := fun _ => fail
@[simp] def sIf (t : TM) (a b : SM) : SM := fun env => bnd (t env) fun c => if c = true then a env else b env
@[simp] def bNil : SM := fun env => ret (.nx, env)
@[simp] def bCons (s b : SM) : SM := fun env => bnd (s env) fun r => match r.1 with
  | .nx => b r.2
  | f => ret (f, r.2)
def sAug (i : Nat) (f : W → W → M W) (e : EM) : SM := fun env st => match env[i]? with
  | some (some x) => (bnd (e env) fun y => bnd (f x y) fun z => ret (.nx, env.set i (some z))) st
  | _ => none
def sWhile (t : TM) (b : SM) : Nat → SM
  | 0 => fun _ => fail
  | n + 1 => fun env => bnd (t env) fun c => if c = true then bnd (b env) fun r => match r.1 with
      | .nx => sWhile t b n r.2
      | .ct => sWhile t b n r.2
      | .bk => ret (.nx, r.2)
      | .rt w => ret (.rt w, r.2)
    else ret (.nx, env)
/-- what a loop walks: at turn j, by the store: none: stuck; some none: it stops -/
abbrev Src := Nat → Sto → Option (Option W)
abbrev IM := En → M Src
def forGo (src : Src) (p : Pat) (b : SM) : Nat → Nat → SM
  | 0, _ => fun _ => fail
  | n + 1, j => fun env => fun st => match src j st with
    | none => none
    | some none => some ((.nx, env), st)
    | some (some w) => (bnd (p.asg w env) fun env1 => bnd (b env1) fun r => match r.1 with
      | .nx => forGo src p b n (j + 1) r.2
      | .ct => forGo src p b n (j + 1) r.2
      | .bk => ret (.nx, r.2)
      | .rt w => ret (.rt w, r.2)) st
def sFor (i : IM) (p : Pat) (b : SM) (n : Nat) : SM := fun env => bnd (i env) fun src => forGo src p b n 0 env

section
variable {X : Cx}
theorem ss_set {tg e : Expr} {p : Pat} {m : EM} {pos : Pos} (he : SE X e m) (hg : SG X tg p) (hs : swapsWithSole [tg] e pos.line X.env = pure false := by rfl) (hw : swappedStores [tg] e X.env = pure none := by rfl)
    (h1 : (assignEach [tg] X.env).map (·.2) = [assign tg X.env] := by rfl) : SS X (.Assign [tg] e pos) (sSet p m) := by
  refine ⟨PSimp (ps_asg he.pe hg.pg hs hw h1) ?_⟩
  rintro D σ H ⟨β, st, env, fl, env', st', hE, hS, hm, k⟩
  obtain ⟨w, st1, h1, h2⟩ := bnd_some hm
  obtain ⟨env1, st2, h3, h4⟩ := bnd_some h2
  cases h4
  exact ⟨β, st, env, w, st1, hE, hS, h1, fun v H1 β1 e1 s1 r1 => ⟨β1, st1, env, w, env', st', hE.ext e1, s1, r1, h3, fun σ2 H2 β2 e2 s2 E2 _ => k σ2 H2 β2 (e1.trans e2) s2 E2⟩⟩
theorem ss_expr {e : Expr} {m : EM} {pos : Pos} (he : SE X e m) (hs : swapsWith e none pos.line X.env = pure false := by rfl) : SS X (.Expr e pos) (sExpr m) := by
  refine ⟨PSimp (ps_expr he.pe hs) ?_⟩
  rintro D σ H ⟨β, st, env, fl, env', st', hE, hS, hm, k⟩
  obtain ⟨w, st1, h1, h2⟩ := bnd_some hm
  cases h2
  exact ⟨β, st, env, w, _, hE, hS, h1, fun v H1 β1 e1 s1 r1 => k σ H1 β1 e1 s1 (hE.ext e1)⟩
theorem ss_ret {e : Expr} {m : EM} {pos : Pos} (he : SE X e m) : SS X (.Return (some e) pos) (sRet m) := by
  refine ⟨PSimp (ps_ret he.pe) ?_⟩
  rintro D σ H ⟨β, st, env, fl, env', st', hE, hS, hm, k⟩
  obtain ⟨w, st1, h1, h2⟩ := bnd_some hm
  cases h2
  exact ⟨β, st, env, w, _, hE, hS, h1, fun v H1 β1 e1 s1 r1 => k σ H1 β1 e1 s1 (hE.ext e1) v r1⟩
theorem ss_retN {pos : Pos} : SS X (.Return none pos) sRetN := by
  refine ⟨PSimp ps_retN ?_⟩
  rintro D σ H ⟨β, st, env, fl, env', st', hE, hS, hm, k⟩
  cases hm
  exact k σ H β .refl hS hE .non .non
theorem ss_pass {pos : Pos} : SS X (.Pass pos) sPass := by
  refine ⟨PSimp ps_pass ?_⟩
  rintro D σ H ⟨β, st, env, fl, env', st', hE, hS, hm, k⟩
  cases hm
  exact k σ H β .refl hS hE
theorem ss_break {pos : Pos} : SS X (.Break pos) sBreak := by
  refine ⟨PSimp ps_break ?_⟩
  rintro D σ H ⟨β, st, env, fl, env', st', hE, hS, hm, k⟩
  cases hm
  exact k σ H β .refl hS hE
theorem ss_cont {pos : Pos} : SS X (.Continue pos) sCont := by
  refine ⟨PSimp ps_continue ?_⟩
  rintro D σ H ⟨β, st, env, fl, env', st', hE, hS, hm, k⟩
  cases hm
  exact k σ H β .refl hS hE
theorem ss_never {st : Stmt} : SS X st sNever := by
  refine ⟨PSimp ps_never ?_⟩
  rintro D σ H ⟨β, st, env, fl, env', st', hE, hS, hm, k⟩
  cases hm
theorem ss_doc {x j pos pos'} : SS X (.Expr (.Constant (.str x) j pos) pos') sPass := by
  refine ⟨PSimp ps_doc ?_⟩
  rintro D σ H ⟨β, st, env, fl, env', st', hE, hS, hm, k⟩
  cases hm
  exact k σ H β .refl hS hE
theorem ss_if {c : Expr} {a b : List Stmt} {t : TM} {m n : SM} {pos : Pos} (hc : ST X c t) (ha : SB X a m) (hb : SB X b n) : SS X (.If c a b pos) (sIf t m n) := by
  refine ⟨PSimp (ps_if hc.pt ha.pss hb.pss) ?_⟩
  rintro D σ H ⟨β, st, env, fl, env', st', hE, hS, hm, k⟩
  obtain ⟨c, st1, h1, h2⟩ := bnd_some hm
  refine ⟨β, st, env, c, st1, hE, hS, h1, fun H1 β1 e1 s1 => ?_⟩
  cases c with
  | true => exact ⟨β1, st1, env, fl, env', st', hE.ext e1, s1, h2, fun σ2 H2 β2 e2 s2 E2 => k σ2 H2 β2 (e1.trans e2) s2 E2⟩
  | false => exact ⟨β1, st1, env, fl, env', st', hE.ext e1, s1, h2, fun σ2 H2 β2 e2 s2 E2 => k σ2 H2 β2 (e1.trans e2) s2 E2⟩
theorem sb_nil : SB X [] bNil := by
  refine ⟨PSsimp pss_nil ?_⟩
  rintro D σ H ⟨β, st, env, fl, env', st', hE, hS, hm, k⟩
  cases hm
  exact k σ H β .refl hS hE
theorem sb_cons {s : Stmt} {rest : List Stmt} {m n : SM} (h1 : SS X s m) (h2 : SB X rest n) : SB X (s :: rest) (bCons m n) := by
  refine ⟨PSsimp (pss_cons h1.ps h2.pss) ?_⟩
  rintro D σ H ⟨β, st, env, fl, env', st', hE, hS, hm, k⟩
  obtain ⟨⟨f, env1⟩, st1, h3, h4⟩ := bnd_some hm
  refine ⟨β, st, env, f, env1, st1, hE, hS, h3, fun σ1 H1 β1 e1 s1 E1 => ?_⟩
  cases f with
  | nx => exact ⟨β1, st1, env1, fl, env', st', E1, s1, h4, fun σ2 H2 β2 e2 s2 E2 => k σ2 H2 β2 (e1.trans e2) s2 E2⟩
  | bk => cases h4; exact k σ1 H1 β1 e1 s1 E1
  | ct => cases h4; exact k σ1 H1 β1 e1 s1 E1
  | rt w => cases h4; exact k σ1 H1 β1 e1 s1 E1
/-- x op= e -/
theorem ss_aug {i : Nat} {x : Str} {e : Expr} {op : Operator} {m : EM} {f : W → W → M W} {r : R2} {pos pos' : Pos} (hN : X.N.Nodup) (ho : OpR X (inplaceOp op) r) (hf : Ref2 X.K f r) (he : SE X e m) (hi : X.N[i]? = some x := by rfl) (hx : Loc X.env.scope x := by first | exact Or.inl rfl | exact Or.inr rfl)
    (hfn : X.fn x = true ∨ X.env.scope.names.lookup x = some .local := by first | exact .inl rfl | exact .inr rfl) : SS X (.AugAssign (.Name x pos') op e pos) (sAug i f m) := by
  refine ⟨PSimp (ps_aug hN hi hx he.pe (ti := r) (fun pins s σ H x y v u Q I r1 r2 h => ho pins s σ H x y v u Q I r1 r2 h) hfn) ?_⟩
  rintro D σ H ⟨β, st, env, fl, env', st', hE, hS, hm, k⟩
  unfold sAug at hm
  split at hm
  · rename_i w ew
    obtain ⟨y, st1, h1, h2⟩ := bnd_some hm
    obtain ⟨z, st2, h3, h4⟩ := bnd_some h2
    cases h4
    obtain ⟨v, ev, rv⟩ := hE.at' i w ew
    refine ⟨v, ev, β, st, env, y, st1, hE, hS, h1, fun u H1 β1 e1 s1 r1 => ?_⟩
    exact hf β1 H1 st1 _ w y z v u _ s1 (rv.ext' e1) r1 h3 fun q H2 β2 e2 s2 r2 => k _ H2 β2 (e1.trans e2) s2 (((hE.ext e1).ext e2).set r2 i)
  · cases hm

/-! ### loops -/
theorem ss_while {c : Expr} {body : List Stmt} {t : TM} {b : SM} {pos : Pos} (n : Nat) (hp : PassesOwn (model X.prog X.w) X.A X.env X.xe) (hc : ST X c t) (hb : SB X body b) : SS X (.While c body [] pos) (sWhile t b n) := by
  refine ⟨PSimp (ps_while hp hc.pt hb.pss) ?_⟩
  rintro D σ H ⟨β, st, env, fl, env', st', hE, hS, hm, k⟩
  refine ⟨fun m σ H => ∃ β1 st1 env1, RE X.K β1 H env1 σ ∧ RS X.K β1 H st1 ∧ sWhile t b m env1 st1 = some ((fl, env'), st') ∧ ∀ σ' H' β', Ext β1 H β' H' → RS X.K β' H' st' → RE X.K β' H' env' σ' → fin X.K D fl env' σ' β' H', ⟨n, β, st, env, hE, hS, hm, k⟩, ?_⟩
  rintro m σ H ⟨β1, st1, env1, E1, S1, m1, k1⟩
  cases m with
  | zero => cases m1
  | succ m =>
    obtain ⟨c, st2, h1, h2⟩ := bnd_some m1
    refine ⟨β1, st1, env1, c, st2, E1, S1, h1, fun H2 β2 e2 s2 => ?_⟩
    cases c with
    | false =>
      cases h2
      exact k1 σ H2 β2 e2 s2 (E1.ext e2)
    | true =>
      rw [if_pos rfl] at h2 ⊢
      obtain ⟨⟨f, env3⟩, st3, h3, h4⟩ := bnd_some h2
      refine ⟨fun σ' H' => ∃ β3, RE X.K β3 H' env3 σ' ∧ RS X.K β3 H' st3 ∧ (f = .nx ∨ f = .ct) ∧ Ext β2 H2 β3 H', fun σ3 H3 ⟨β3, E3, S3, ef, e3⟩ => ⟨m, Nat.lt_succ_self m, β3, st3, env3, E3, S3, ?_, fun σ' H' β' e4 s4 E4 => k1 σ' H' β' ((e2.trans e3).trans e4) s4 E4⟩, ?_⟩
      · rcases ef with rfl | rfl <;> exact h4
      · refine ⟨β2, st2, env1, f, env3, st3, E1.ext e2, s2, h3, fun σ3 H3 β3 e3 s3 E3 => ?_⟩
        cases f with
        | nx => exact ⟨β3, E3, s3, .inl rfl, e3⟩
        | ct => exact ⟨β3, E3, s3, .inr rfl, e3⟩
        | bk => cases h4; exact k1 σ3 H3 β3 (e2.trans e3) s3 E3
        | rt w => cases h4; exact k1 σ3 H3 β3 (e2.trans e3) s3 E3
/-- an iterator goes as the source tells -/
def RSrc (K : PySem.W.Frag) (β : List Addr) (H : Hp) (J : It) (src : Src) : Prop := ∀ (β' : List Addr) (H' : Hp) (st' : Sto) (j : Nat), Ext β H β' H' → RS K β' H' st' →
  (src j st' = some none → J.stop j H') ∧ (∀ w, src j st' = some (some w) → J.go j H' ∧ ∀ x H2, J.yld j H' x H2 → Ext β' H' β' H2 ∧ RS K β' H2 st' ∧ RW K β' H2 w x)
def tMI (K : PySem.W.Frag) (m : IM) : TI := fun σ H R => ∃ β st env src st', RE K β H env σ ∧ RS K β H st ∧ m env st = some (src, st') ∧
  ∀ J H' β', Ext β H β' H' → RS K β' H' st' → RSrc K β' H' J src → R J H'
structure SI (X : Cx) (tg iter : Expr) (m : IM) : Prop where
  pi : PI X tg iter (tMI X.K m)
theorem PIimp {tg e : Expr} {t t' : TI} (h : PI X tg e t) (i : ∀ σ H R, t' σ H R → t σ H R) : PI X tg e t' := ⟨fun pins s σ H R I hq => h.run pins s σ H R I (i σ H R hq)⟩
theorem ss_for {tg iter : Expr} {body : List Stmt} {i : IM} {p : Pat} {b : SM} {pos : Pos} (n : Nat) (hp : PassesOwn (model X.prog X.w) X.A X.env X.xe) (hc : X.calm = true) (hi : SI X tg iter i) (hg : SG X tg p) (hb : SB X body b)
    (hs : ∀ x, foldedSetIterable iter X.env x = pure x := by intro _; rfl) : SS X (.For tg iter body [] pos) (sFor i p b n) := by
  refine ⟨PSimp (ps_for hp hc hi.pi hg.pg hb.pss hs) ?_⟩
  rintro D σ H ⟨β, st, env, fl, env', st', hE, hS, hm, k⟩
  obtain ⟨src, st1, h1, h2⟩ := bnd_some hm
  refine ⟨β, st, env, src, st1, hE, hS, h1, fun J H1 β1 e1 s1 rj => ?_⟩
  refine ⟨fun j m σ H => ∃ β2 st2 env2, Ext β1 H1 β2 H ∧ RE X.K β2 H env2 σ ∧ RS X.K β2 H st2 ∧ forGo src p b m j env2 st2 = some ((fl, env'), st') ∧ ∀ σ' H' β', Ext β2 H β' H' → RS X.K β' H' st' → RE X.K β' H' env' σ' → fin X.K D fl env' σ' β' H',
    ⟨n, β1, st1, env, .refl, hE.ext e1, s1, h2, fun σ' H' β' e s E => k σ' H' β' (e1.trans e) s E⟩, ?_⟩
  rintro j m σ H ⟨β2, st2, env2, e2, E2, S2, m2, k2⟩
  cases m with
  | zero => cases m2
  | succ m =>
    obtain ⟨rs, rg⟩ := rj β2 H st2 j e2 S2
    unfold forGo at m2
    split at m2
    · cases m2
    · rename_i e
      cases m2
      exact .inl ⟨rs e, k2 σ H β2 .refl S2 E2⟩
    · rename_i w e
      obtain ⟨go, yl⟩ := rg w e
      refine .inr ⟨go, ?_⟩
      obtain ⟨env3, st3, h3, h4⟩ := bnd_some m2
      obtain ⟨⟨f, env4⟩, st4, h5, h6⟩ := bnd_some h4
      refine ⟨fun σ' H' => ∃ β4, RE X.K β4 H' env4 σ' ∧ RS X.K β4 H' st4 ∧ (f = .nx ∨ f = .ct) ∧ Ext β2 H β4 H', fun σ5 H5 ⟨β5, E5, S5, ef, e5⟩ => ⟨m, Nat.lt_succ_self m, β5, st4, env4, e2.trans e5, E5, S5, ?_, fun σ' H' β' e6 s6 E6 => k2 σ' H' β' (e5.trans e6) s6 E6⟩, ?_⟩
      · rcases ef with rfl | rfl <;> exact h6
      · intro x H3 y
        obtain ⟨e3, s3, r3⟩ := yl x H3 y
        refine ⟨β2, st2, env2, w, env3, st3, E2.ext e3, s3, r3, h3, fun σ4 H4 β4 e4 s4 E4 _ => ?_⟩
        refine ⟨β4, st3, env3, f, env4, st4, E4, s4, h5, fun σ5 H5 β5 e5 s5 E5 => ?_⟩
        cases f with
        | nx => exact ⟨β5, E5, s5, .inl rfl, (e3.trans e4).trans e5⟩
        | ct => exact ⟨β5, E5, s5, .inr rfl, (e3.trans e4).trans e5⟩
        | bk => cases h6; exact k2 σ5 H5 β5 ((e3.trans e4).trans e5) s5 E5
        | rt w => cases h6; exact k2 σ5 H5 β5 ((e3.trans e4).trans e5) s5 E5
end
end B

set_option Elab.async false
set_option linter.all false
set_option maxRecDepth 100000
namespace B
open PySem PySem.Spec L2 RZ
set_option autoImplicit false

/-! ### sources -/
def srcTup (xs : List W) : Src := fun j _ => some xs[j]?
def srcRef (i : Nat) : Src := fun j st => match st[i]? with
  | some (.lst xs) => some xs[j]?
  | _ => none
def srcRng (lo : Int) (n : Nat) : Src := fun j _ => if j < n then some (some (.int (lo + j))) else some none
def srcRev (i n : Nat) : Src := fun j st => if j < n then (match st[i]? with
  | some (.lst xs) => match xs[n - 1 - j]? with
    | some x => some (some x)
    | none => none
  | _ => none) else some none
def srcZipT (xs ys : List W) : Src := fun j _ => match xs[j]?, ys[j]? with
  | some x, some y => some (some (.tup [x, y]))
  | _, _ => some none
def iSeq (e : EM) : IM := fun env => bnd (e env) fun w st => match w with
  | .tup xs => some (srcTup xs, st)
  | .fl xs => some (srcTup xs, st)
  | .ref i => match st[i]? with
    | some (.lst _) => some (srcRef i, st)
    | _ => none
  | _ => none
def iRng1M (a : AM) : IM := fun env => bnd (a env) fun ws st => match ws with
  | [.int n] => if decide (-(2 ^ 62) ≤ n ∧ n < 2 ^ 62) = true then some (srcRng 0 n.toNat, st) else none
  | _ => none
def iRng2M (a : AM) : IM := fun env => bnd (a env) fun ws st => match ws with
  | [.int lo, .int hi] => if decide (-(2 ^ 62) ≤ lo ∧ lo < 2 ^ 62 ∧ -(2 ^ 62) ≤ hi ∧ hi < 2 ^ 62) = true then some (srcRng lo (hi - lo).toNat, st) else none
  | _ => none
def iRevM (a : AM) : IM := fun env => bnd (a env) fun ws st => match ws with
  | [.ref i] => match st[i]? with
    | some (.lst xs) => some (srcRev i xs.length, st)
    | _ => none
  | _ => none
def iZipM (a : AM) : IM := fun env => bnd (a env) fun ws st => match ws with
  | [.tup xs, .tup ys] => some (srcZipT xs ys, st)
  | _ => none
theorem rs_lst {K : PySem.W.Frag} {β : List Addr} {H : Hp} {st : Sto} (s : RS K β H st) {i : Nat} {a : Addr} {xs : List W} (ha : β[i]? = some a) (hi : st[i]? = some (.lst xs)) : ∃ vs, H a = some (.lst vs) ∧ RWs K β H xs vs := by
  obtain ⟨b, hb, vs, e, r⟩ := s.ob i _ hi
  rw [ha] at hb; cases hb
  exact ⟨vs, e, r⟩
theorem rs_dct {K : PySem.W.Frag} {β : List Addr} {H : Hp} {st : Sto} (s : RS K β H st) {i : Nat} {a : Addr} {xs : List (Key × W)} (ha : β[i]? = some a) (hi : st[i]? = some (.dct xs)) : ∃ vs, H a = some (.dK vs) ∧ RKs K β H xs vs := by
  obtain ⟨b, hb, vs, e, r⟩ := s.ob i _ hi
  rw [ha] at hb; cases hb
  exact ⟨vs, e, r⟩
theorem rs_dtt {K : PySem.W.Frag} {β : List Addr} {H : Hp} {st : Sto} (s : RS K β H st) {i : Nat} {a : Addr} {xs : List (List Key × W)} (ha : β[i]? = some a) (hi : st[i]? = some (.dtt xs)) : ∃ vs, H a = some (.dT vs) ∧ RKs K β H xs vs := by
  obtain ⟨b, hb, vs, e, r⟩ := s.ob i _ hi
  rw [ha] at hb; cases hb
  exact ⟨vs, e, r⟩
section
variable {X : Cx}
theorem rsrc_tup {β : List Addr} {H : Hp} {a : Addr} {xs : List W} {vs : List V} (hq : SqT X.K H a vs) (r : RWs X.K β H xs vs) : RSrc X.K β H (Itt X.K a) (srcTup xs) := by
  intro β' H' st' j e s
  refine ⟨fun h => ⟨vs, e.sqT hq, ?_⟩, fun w h => ?_⟩
  · unfold srcTup at h
    have h := Option.some.inj h
    rw [List.getElem?_eq_none_iff] at h
    rw [← r.length]; exact h
  · unfold srcTup at h
    have h := Option.some.inj h
    obtain ⟨v, hv, rv⟩ := r.get h
    refine ⟨⟨vs, v, e.sqT hq, hv⟩, fun x H2 y => ?_⟩
    obtain ⟨rfl, y⟩ := y
    have := y vs (e.sqT hq)
    rw [hv] at this; cases this
    exact ⟨.refl, s, rv.ext' e⟩
theorem rsrc_fl {β : List Addr} {H : Hp} {a : Addr} {xs : List W} {vs : List V} (hq : Fix X.K H a vs) (r : RWs X.K β H xs vs) : RSrc X.K β H (Itl X.K a) (srcTup xs) := by
  intro β' H' st' j e s
  refine ⟨fun h => ⟨vs, (e.fix hq).sq, ?_⟩, fun w h => ?_⟩
  · unfold srcTup at h
    have h := Option.some.inj h
    rw [List.getElem?_eq_none_iff] at h
    rw [← r.length]; exact h
  · unfold srcTup at h
    have h := Option.some.inj h
    obtain ⟨v, hv, rv⟩ := r.get h
    refine ⟨⟨vs, v, (e.fix hq).sq, hv⟩, fun x H2 y => ?_⟩
    obtain ⟨rfl, y⟩ := y
    have := y vs (e.fix hq).sq
    rw [hv] at this; cases this
    exact ⟨.refl, s, rv.ext' e⟩
theorem rsrc_ref {β : List Addr} {H : Hp} {a : Addr} {i : Nat} (ha : β[i]? = some a) : RSrc X.K β H (Itl X.K a) (srcRef i) := by
  intro β' H' st' j e s
  refine ⟨fun h => ?_, fun w h => ?_⟩
  · unfold srcRef at h
    split at h
    · rename_i xs hi
      obtain ⟨vs, e1, r⟩ := rs_lst s (e.ix ha) hi
      have h := Option.some.inj h
      rw [List.getElem?_eq_none_iff] at h
      exact ⟨vs, SqL.of e1, by rw [← r.length]; exact h⟩
    · cases h
  · unfold srcRef at h
    split at h
    · rename_i xs hi
      obtain ⟨vs, e1, r⟩ := rs_lst s (e.ix ha) hi
      have h := Option.some.inj h
      obtain ⟨v, hv, rv⟩ := r.get h
      refine ⟨⟨vs, v, SqL.of e1, hv⟩, fun x H2 y => ?_⟩
      obtain ⟨rfl, y⟩ := y
      have := y vs (SqL.of e1)
      rw [hv] at this; cases this
      exact ⟨.refl, s, rv⟩
    · cases h
theorem rsrc_rng {β : List Addr} {H : Hp} {lo : Int} {n : Nat} : RSrc X.K β H (Itr lo n) (srcRng lo n) := by
  intro β' H' st' j e s
  unfold srcRng
  by_cases hj : j < n
  · refine ⟨fun h => (by rw [if_pos hj] at h; cases h), fun w h => ?_⟩
    rw [if_pos hj] at h
    cases h
    exact ⟨hj, fun x H2 y => by obtain ⟨rfl, rfl⟩ := y; exact ⟨.refl, s, .int _⟩⟩
  · refine ⟨fun _ => Nat.le_of_not_lt hj, fun w h => ?_⟩
    rw [if_neg hj] at h
    cases h
theorem rsrc_rev {β : List Addr} {H : Hp} {a : Addr} {i n : Nat} (ha : β[i]? = some a) : RSrc X.K β H (Itv X.K a n) (srcRev i n) := by
  intro β' H' st' j e s
  unfold srcRev
  by_cases hj : j < n
  · refine ⟨fun h => ?_, fun w h => ?_⟩
    · rw [if_pos hj] at h
      split at h
      · split at h <;> cases h
      · cases h
    · rw [if_pos hj] at h
      split at h
      · rename_i xs hi
        split at h
        · rename_i y hy
          cases h
          obtain ⟨vs, e1, r⟩ := rs_lst s (e.ix ha) hi
          obtain ⟨v, hv, rv⟩ := r.get hy
          refine ⟨⟨hj, vs, v, SqL.of e1, hv⟩, fun x H2 y => ?_⟩
          obtain ⟨rfl, y⟩ := y
          have := y vs (SqL.of e1)
          rw [hv] at this; cases this
          exact ⟨.refl, s, rv⟩
        · cases h
      · cases h
  · refine ⟨fun _ => Nat.le_of_not_lt hj, fun w h => ?_⟩
    rw [if_neg hj] at h
    cases h
theorem rsrc_zip {β : List Addr} {H : Hp} {a b : Addr} {xs ys : List W} {vs us : List V} (hq : SqT X.K H a vs) (hp : SqT X.K H b us) (r : RWs X.K β H xs vs) (r2 : RWs X.K β H ys us) : RSrc X.K β H (ItzT X.K a b) (srcZipT xs ys) := by
  intro β' H' st' j e s
  unfold srcZipT
  have hl := r.length
  have hl2 := r2.length
  split
  · rename_i x y hx hy
    refine ⟨fun h => (by cases h), fun w h => ?_⟩
    cases h
    obtain ⟨v, hv, rv⟩ := r.get hx
    obtain ⟨u, hu, ru⟩ := r2.get hy
    refine ⟨⟨vs, us, v, u, e.sqT hq, e.sqT hp, hv, hu⟩, fun z H2 yy => ?_⟩
    obtain ⟨T, x', y', rfl, hT, rfl, hx', hy'⟩ := yy
    have h1 := hx' vs (e.sqT hq)
    have h2 := hy' us (e.sqT hp)
    rw [hv] at h1; cases h1
    rw [hu] at h2; cases h2
    have en : Ext β' H' β' (upd H' T (.tup [v, u])) := Ext.new hT
    exact ⟨en, s.new hT, .tup (.inl upd_same) (.cons ((rv.ext' e).ext' en) (.cons ((ru.ext' e).ext' en) .nil))⟩
  · rename_i h
    refine ⟨fun _ => ⟨vs, us, e.sqT hq, e.sqT hp, ?_⟩, fun w h => (by cases h)⟩
    cases hx : xs[j]? with
    | none => exact .inl (by rw [← hl]; exact List.getElem?_eq_none_iff.mp hx)
    | some x =>
      cases hy : ys[j]? with
      | none => exact .inr (by rw [← hl2]; exact List.getElem?_eq_none_iff.mp hy)
      | some y => exact absurd hy (h x y hx)

/-- a list or a tuple that is walked -/
theorem pi_any {tg l : Expr} {tl : TE} (hl : PE X l tl) : PI X tg l (fun σ H R => tl σ H fun x H1 => ∃ a, x = .ref a ∧ (((∃ xs, SqL X.K H1 a xs) ∧ R (Itl X.K a) H1) ∨ ((∃ xs, SqT X.K H1 a xs) ∧ R (Itt X.K a) H1))) := by
  refine ⟨fun pins s σ H R I h => ?_⟩
  refine thn (hl.run pins s σ H _ I h) fun v s1 ⟨x, H1, I1, r1, q1⟩ => ?_
  obtain ⟨a, e, q1⟩ := q1
  subst e
  cases r1
  rcases q1 with ⟨⟨xs, hq⟩, q⟩ | ⟨⟨xs, hq⟩, q⟩
  · obtain ⟨its, rv, p, hz⟩ := I1.list hq
    refine wpAny_pyIter_list p.isList ?_
    refine ⟨s1.heap.objs.size, [s1.heap.objs.size], _, _, H1, rfl, I1.kept (t' := s1.toks) fun b o e => Heap.get?_push_of_some _ e, turn_list a _, ⟨_, Heap.get?_push_size _ rfl, rfl, rfl⟩, fun b hb => ?_, q⟩
    have e : b = s1.heap.objs.size := by simpa using hb
    subst e
    exact I1.fpOk (Nat.le_refl _) (I1.hok.fresh (Nat.le_refl _))
  · obtain ⟨its, rv, p, hz⟩ := I1.tuple hq
    refine PySem.wpAny_pyIter_tuple (show s1.heap.IsTuple a its.toArray from p) ?_
    refine ⟨s1.heap.objs.size, [s1.heap.objs.size], _, _, H1, rfl, I1.kept (t' := s1.toks) fun b o e => Heap.get?_push_of_some _ e, turn_tuple a _, ⟨_, Heap.get?_push_size _ rfl, rfl, rfl⟩, fun b hb => ?_, q⟩
    have e : b = s1.heap.objs.size := by simpa using hb
    subst e
    exact I1.fpOk (Nat.le_refl _) (I1.hok.fresh (Nat.le_refl _))
theorem si_seq {tg e : Expr} {m : EM} (h : SE X e m) : SI X tg e (iSeq m) := by
  refine ⟨PIimp (pi_any h.pe) ?_⟩
  rintro σ H R ⟨β, st, env, src, st', hE, hS, hm, k⟩
  obtain ⟨w, st1, h1, h2⟩ := bnd_some hm
  refine ⟨β, st, env, w, st1, hE, hS, h1, fun v H1 β1 e1 s1 r1 => ?_⟩
  cases r1 with
  | @tup a xs vs hq r =>
    cases h2
    exact ⟨a, rfl, .inr ⟨⟨vs, hq.sq⟩, k _ H1 β1 e1 s1 (rsrc_tup hq.sq r)⟩⟩
  | @fl a xs vs hq r =>
    cases h2
    exact ⟨a, rfl, .inl ⟨⟨vs, hq.sq⟩, k _ H1 β1 e1 s1 (rsrc_fl hq r)⟩⟩
  | @ref i a hb =>
    dsimp only at h2
    split at h2
    · rename_i xs hi
      cases h2
      obtain ⟨vs, e2, r⟩ := rs_lst s1 hb hi
      exact ⟨a, rfl, .inl ⟨⟨vs, SqL.of e2⟩, k _ H1 β1 e1 s1 (rsrc_ref hb)⟩⟩
    · cases h2
  | _ => cases h2
theorem si_rng1 {tg a : Expr} {m : AM} {p pos : Pos} (hg : Gl X "range") (hm : X.mg "range" = none) (ha : SA X [a] m) (hs : starEach [a] X.env = [(false, eval a X.env)] := by rfl) : SI X tg (.Call (.Name "range" p) [a] [] pos) (iRng1M m) := by
  refine ⟨PIimp (pi_range1 hg hm ha.pa hs) ?_⟩
  rintro σ H R ⟨β, st, env, src, st', hE, hS, hm, k⟩
  obtain ⟨ws, st1, h1, h2⟩ := bnd_some hm
  refine ⟨β, st, env, ws, st1, hE, hS, h1, fun vs H1 β1 e1 s1 r1 => ?_⟩
  split at h2
  · rename_i n
    split at h2
    · rename_i hc
      cases h2
      have hc := of_decide_eq_true hc
      cases r1 with
      | cons r t =>
        cases t
        cases r
        exact ⟨n, rfl, hc.1, hc.2, k _ H1 β1 e1 s1 rsrc_rng⟩
    · cases h2
  · cases h2
theorem si_rng2 {tg a b : Expr} {m : AM} {p pos : Pos} (hg : Gl X "range") (hm : X.mg "range" = none) (ha : SA X [a, b] m) (hs : starEach [a, b] X.env = [(false, eval a X.env), (false, eval b X.env)] := by rfl) (hs2 : starEach [b] X.env = [(false, eval b X.env)] := by rfl) : SI X tg (.Call (.Name "range" p) [a, b] [] pos) (iRng2M m) := by
  refine ⟨PIimp (pi_range2 hg hm ha.pa hs hs2) ?_⟩
  rintro σ H R ⟨β, st, env, src, st', hE, hS, hm, k⟩
  obtain ⟨ws, st1, h1, h2⟩ := bnd_some hm
  refine ⟨β, st, env, ws, st1, hE, hS, h1, fun vs H1 β1 e1 s1 r1 => ?_⟩
  split at h2
  · rename_i lo hi
    split at h2
    · rename_i hc
      cases h2
      have hc := of_decide_eq_true hc
      cases r1 with
      | cons r t =>
        cases t with
        | cons r2 t =>
          cases t
          cases r
          cases r2
          exact ⟨lo, hi, rfl, hc, k _ H1 β1 e1 s1 rsrc_rng⟩
    · cases h2
  · cases h2
theorem si_rev {tg e : Expr} {m : AM} {p pos : Pos} (hg : Gl X "reversed") (hm : X.mg "reversed" = none) (ha : SA X [e] m) (hs : starEach [e] X.env = [(false, eval e X.env)] := by rfl) : SI X tg (.Call (.Name "reversed" p) [e] [] pos) (iRevM m) := by
  refine ⟨PIimp (pi_reversed hg hm ha.pa hs) ?_⟩
  rintro σ H R ⟨β, st, env, src, st', hE, hS, hm, k⟩
  obtain ⟨ws, st1, h1, h2⟩ := bnd_some hm
  refine ⟨β, st, env, ws, st1, hE, hS, h1, fun vs H1 β1 e1 s1 r1 => ?_⟩
  split at h2
  · rename_i i
    split at h2
    · rename_i xs hi
      cases h2
      cases r1 with
      | cons r t =>
        cases t
        cases r with
        | @ref i a hb =>
          obtain ⟨vs, e2, r⟩ := rs_lst s1 hb hi
          refine ⟨a, vs, rfl, SqL.of e2, ?_⟩
          rw [← r.length]
          exact k _ H1 β1 e1 s1 (rsrc_rev hb)
    · cases h2
  · cases h2
theorem si_zip {elts : List Expr} {kk : Nat} {tpos : Pos} {e e2 : Expr} {m : AM} {p pos : Pos} (hg : Gl X "zip") (hm : X.mg "zip" = none) (ha : SA X [e, e2] m)
    (hs : starEach [e, e2] X.env = (false, eval e X.env) :: starEach [e2] X.env := by rfl) (hpl : (backTo pos (starEach [e2] X.env)).any (·.1) = false := by rfl) : SI X (.Tuple elts kk tpos) (.Call (.Name "zip" p) [e, e2] [] pos) (iZipM m) := by
  refine ⟨PIimp (pi_zipA hg hm ha.pa hs hpl) ?_⟩
  rintro σ H R ⟨β, st, env, src, st', hE, hS, hm, k⟩
  obtain ⟨ws, st1, h1, h2⟩ := bnd_some hm
  refine ⟨β, st, env, ws, st1, hE, hS, h1, fun vs H1 β1 e1 s1 r1 => ?_⟩
  split at h2
  · rename_i xs ys
    cases h2
    cases r1 with
    | cons r t =>
      cases t with
      | cons r2 t =>
        cases t
        cases r with
        | @tup a _ vs hq r =>
          cases r2 with
          | @tup b _ us hp r2 => exact ⟨a, b, vs, us, rfl, .inr ⟨hq.sq, hp.sq, k _ H1 β1 e1 s1 (rsrc_zip hq.sq hp.sq r r2)⟩⟩
  · cases h2
end

/-! ### comprehensions -/
def wipeE (env : En) : List Nat → En
  | [] => env
  | v :: vs => (wipeE env vs).set v none
theorem RE.wipe {K : PySem.W.Frag} {β : List Addr} {H : Hp} {env : En} {σ : L2.St} (h : RE K β H env σ) : ∀ vs, RE K β H (wipeE env vs) (L2.wipe σ vs)
  | [] => h
  | v :: vs => by
    have ih := RE.wipe h vs
    refine ⟨by show ((wipeE env vs).set v none).length = ((L2.wipe σ vs).set v none).length; simp [ih.len], fun i w hi => ?_⟩
    have hi : ((wipeE env vs).set v none)[i]? = some (some w) := hi
    by_cases e : v = i
    · subst e
      by_cases hl : v < (wipeE env vs).length
      · rw [List.getElem?_set_self hl] at hi; cases hi
      · rw [List.getElem?_eq_none (by simpa using hl)] at hi; cases hi
    · rw [List.getElem?_set_ne e] at hi
      obtain ⟨x, a, b⟩ := ih.at' i w hi
      exact ⟨x, by show ((L2.wipe σ vs).set v none)[i]? = _; rw [List.getElem?_set_ne e]; exact a, b⟩
theorem wipe_wipe (σ : L2.St) (vs : List Nat) : wipe (wipe σ vs) vs = wipe σ vs := by
  have key : ∀ us : List Nat, (∀ i ∈ us, i ∈ vs) → wipe (wipe σ vs) us = wipe σ vs := by
    intro us
    induction us with
    | nil => intro _; rfl
    | cons a us ih =>
      intro h
      show (wipe (wipe σ vs) us).set a none = wipe σ vs
      rw [ih fun i hi => h i (List.mem_cons_of_mem _ hi)]
      have ha : a ∈ vs := h a List.mem_cons_self
      have hn : ∀ vs : List Nat, a ∈ vs → ∀ x, (wipe σ vs)[a]? = some x → x = none := by
        intro vs
        induction vs with
        | nil => intro h; simp at h
        | cons b bs ih2 =>
          intro hm x hx
          have hx : ((wipe σ bs).set b none)[a]? = some x := hx
          by_cases e : b = a
          · subst e
            by_cases hl : b < (wipe σ bs).length
            · rw [List.getElem?_set_self hl] at hx; cases hx; rfl
            · rw [List.getElem?_eq_none (by simpa using hl)] at hx; cases hx
          · rw [List.getElem?_set_ne e] at hx
            exact ih2 (by simpa [Ne.symm e] using hm) x hx
      apply List.ext_getElem?
      intro i
      by_cases e : a = i
      · subst e
        by_cases hl : a < (wipe σ vs).length
        · rw [List.getElem?_set_self hl]
          have := hn vs ha _ (List.getElem?_eq_getElem hl)
          rw [List.getElem?_eq_getElem hl, this]
        · rw [List.getElem?_eq_none (by simpa using hl), List.getElem?_eq_none (by simpa using hl)]
      · rw [List.getElem?_set_ne e]
  exact key vs fun _ h => h
def push (k : Nat) (y : W) : M Unit := fun st => match st[k]? with
  | some (.lst xs) => if sml (xs.length + 1) = true then some ((), st.set k (.lst (xs ++ [y]))) else none
  | _ => none
def compGo (src : Src) (p : Pat) (t : TM) (e : EM) (k : Nat) : Nat → Nat → En → M Unit
  | 0, _, _ => fail
  | n + 1, j, env => fun st => match src j st with
    | none => none
    | some none => some ((), st)
    | some (some w) => (bnd (p.asg w env) fun env1 => bnd (t env1) fun c =>
        if c = true then bnd (e env1) fun y => bnd (push k y) fun _ => compGo src p t e k n (j + 1) env else compGo src p t e k n (j + 1) env) st
def tYesM : TM := fun _ => ret true
def eComp (i : IM) (p : Pat) (vs : List Nat) (t : TM) (e : EM) (n : Nat) : EM := fun env => bnd (i env) fun src st =>
  bnd (compGo src p t e st.length n 0 (wipeE env vs)) (fun _ => ret (.ref st.length)) (st ++ [.lst []])
structure STs (X : Cx) (ifs : List Expr) (m : TM) : Prop where
  pts : PTs X ifs (tMT X.K m)
section
variable {X : Cx}
theorem sts_nil : STs X [] tYesM := by
  refine ⟨⟨fun pins s σ H Q I h => ?_⟩⟩
  obtain ⟨β, st, env, b, st', hE, hS, hm, k⟩ := h
  cases hm
  exact (pts_nil (X := X)).run pins s σ H Q I (k H β .refl hS)
theorem sts_one {c : Expr} {m : TM} (h : ST X c m) : STs X [c] m := ⟨pts_one h.pt⟩
theorem tLc_of {i : IM} {p : Pat} {vs : List Nat} {t : TM} {e : EM} {n : Nat} (hp : ∀ i ∈ p.slots, i ∈ vs) {σ : L2.St} {H : Hp} {Q : VK} (h : tM X.K (eComp i p vs t e n) σ H Q) : tLc (tMI X.K i) (tMG X.K p) (tMT X.K t) (tM X.K e) vs σ H Q := by
  obtain ⟨β, st, env, w, st', hE, hS, hm, k⟩ := h
  obtain ⟨src, st1, h1, h2⟩ := bnd_some hm
  refine ⟨β, st, env, src, st1, hE, hS, h1, fun J H1 β1 e1 s1 rj D hD => ?_⟩
  obtain ⟨u, st2, h3, h4⟩ := bnd_some (m := compGo src p t e st1.length n 0 (wipeE env vs)) h2
  cases h4
  have ea : Ext β1 H1 (β1 ++ [D]) (upd H1 D (.lst [])) := Ext.alloc hD
  have sa : RS X.K (β1 ++ [D]) (upd H1 D (.lst [])) (st1 ++ [.lst []]) := s1.alloc hD ⟨[], upd_same, .nil⟩
  have hk0 : (β1 ++ [D])[st1.length]? = some D := alloc_ix s1
  refine ⟨fun j m H => ∃ β2 st2, Ext (β1 ++ [D]) (upd H1 D (.lst [])) β2 H ∧ RS X.K β2 H st2 ∧ compGo src p t e st1.length m j (wipeE env vs) st2 = some (u, st'), ⟨n, _, _, .refl, sa, h3⟩, ?_⟩
  rintro j m H2 ⟨β2, st2, e2, s2, m2⟩
  have hk : β2[st1.length]? = some D := e2.ix hk0
  cases m with
  | zero => cases m2
  | succ m =>
    obtain ⟨rs, rg⟩ := rj β2 H2 st2 j (ea.trans e2) s2
    unfold compGo at m2
    split at m2
    · cases m2
    · rename_i es
      cases m2
      exact .inl ⟨rs es, k _ H2 β2 ((e1.trans ea).trans e2) s2 (.ref hk)⟩
    · rename_i w es
      obtain ⟨go, yl⟩ := rg w es
      obtain ⟨env3, st3, h5, h6⟩ := bnd_some m2
      obtain ⟨c, st4, h7, h8⟩ := bnd_some h6
      refine .inr ⟨go, fun H' => ∃ β5 st5, Ext β2 H2 β5 H' ∧ RS X.K β5 H' st5 ∧ compGo src p t e st1.length m (j + 1) (wipeE env vs) st5 = some (u, st'), fun H' ⟨β5, st5, e5, s5, m5⟩ => ⟨m, Nat.lt_succ_self m, β5, st5, e2.trans e5, s5, m5⟩, fun x H3 y => ?_⟩
      obtain ⟨e3, s3, r3⟩ := yl x H3 y
      refine ⟨β2, st2, wipeE env vs, w, env3, st3, ((((hE.ext e1).ext ea).ext e2).ext e3).wipe vs, s3, r3, h5, fun σ4 H4 β4 e4 s4 E4 w4 => ⟨by rw [w4 vs hp, wipe_wipe], ?_⟩⟩
      refine ⟨β4, st3, env3, c, st4, E4, s4, h7, fun H5 β5 e5 s5 => ?_⟩
      cases c with
      | false => exact ⟨β5, st4, (e3.trans e4).trans e5, s5, h8⟩
      | true =>
        rw [if_pos rfl] at h8 ⊢
        obtain ⟨z, st6, h9, h10⟩ := bnd_some h8
        obtain ⟨_, st7, h11, h12⟩ := bnd_some h10
        refine ⟨β5, st4, env3, z, st6, E4.ext e5, s5, h9, fun v H6 β6 e6 s6 r6 => ?_⟩
        unfold push at h11
        split at h11
        · rename_i xs hx
          split at h11
          · rename_i hz
            cases h11
            have hkD : β6[st1.length]? = some D := e6.ix (e5.ix (e4.ix hk))
            obtain ⟨acc, ha, ra⟩ := rs_lst s6 hkD hx
            have hl := ra.length
            have hz' := sml_line hz
            have ec : Ext β6 H6 β6 (upd H6 D (.lst (acc ++ [v]))) := Ext.chg ha (fun _ z => (nomatch z)) (fun _ _ z => (nomatch z))
            obtain ⟨_, sc⟩ := s6.chg hx hkD (u := .lst (acc ++ [v])) (o' := .lst (xs ++ [z])) ⟨_, upd_same, (ra.ext ec).snoc (r6.ext' ec)⟩
            exact ⟨acc, ha, by omega, β6, _, (((e3.trans e4).trans e5).trans e6).trans ec, sc, h12⟩
          · cases h11
        · cases h11
theorem se_comp {elt tg iter : Expr} {ifs : List Expr} {scope : Scope} {pos : Pos} {i : IM} {p : Pat} {t : TM} {e : EM} (own : List (Str × Nat)) (n : Nat) (hc : X.calm = true) (hN : X.N.Nodup) (ok : BlkOk X.N X.env.scope scope own) (hp : ∀ i ∈ p.slots, i ∈ own.map (·.2)) (hi : SI X tg iter i)
    (hg : ∀ (s : Shared) (H : Hp) (C : Addr) (cl : List (Str × Addr)) (fp : List Addr), SG (X.blk s H scope (compEnvC scope cl C X.env) fp) tg p) (ht : ∀ (s : Shared) (H : Hp) (C : Addr) (cl : List (Str × Addr)) (fp : List Addr), STs (X.blk s H scope (compEnvC scope cl C X.env) fp) ifs t)
    (he : ∀ (s : Shared) (H : Hp) (C : Addr) (cl : List (Str × Addr)) (fp : List Addr), SE (X.blk s H scope (compEnvC scope cl C X.env) fp) elt e) (hs : ∀ x, foldedSetIterable iter X.env x = pure x := by intro _; rfl) :
    SE X (.ListComp elt [⟨tg, iter, ifs, 0⟩] scope pos) (eComp i p (own.map (·.2)) t e n) :=
  ⟨PEimp (pe_lc (g := tMG X.K p) (tt := tMT X.K t) (te := tM X.K e) hc hN hi.pi ok (fun s H C cl fp => (hg s H C cl fp).pg) (fun s H C cl fp => (ht s H C cl fp).pts) (fun s H C cl fp => (he s H C cl fp).pe) hs) fun _ _ _ h => tLc_of hp h⟩
theorem ss_setComp {j : Nat} {y : Str} {py : Pos} {elt tg iter : Expr} {ifs : List Expr} {scope : Scope} {pos spos : Pos} {i : IM} {p : Pat} {t : TM} {e : EM} (own : List (Str × Nat)) (n : Nat) (hc : X.calm = true) (hN : X.N.Nodup) (ok : BlkOk X.N X.env.scope scope own) (hp : ∀ i ∈ p.slots, i ∈ own.map (·.2))
    (hsw : swapsWith (.ListComp elt [⟨tg, iter, ifs, 0⟩] scope pos) (some (.Name y py)) spos.line X.env = pure true) (hi : SI X tg iter i)
    (hg : ∀ (s : Shared) (H : Hp) (C : Addr) (cl : List (Str × Addr)) (fp : List Addr), SG (X.blk s H scope (compEnvC scope cl C X.env) fp) tg p) (ht : ∀ (s : Shared) (H : Hp) (C : Addr) (cl : List (Str × Addr)) (fp : List Addr), STs (X.blk s H scope (compEnvC scope cl C X.env) fp) ifs t)
    (he : ∀ (s : Shared) (H : Hp) (C : Addr) (cl : List (Str × Addr)) (fp : List Addr), SE (X.blk s H scope (compEnvC scope cl C X.env) fp) elt e) (hy : X.N[j]? = some y := by rfl) (hyl : X.env.scope.names.lookup y = some .local := by rfl) (hs : ∀ x, foldedSetIterable iter X.env x = pure x := by intro _; rfl) :
    SS X (.Assign [.Name y py] (.ListComp elt [⟨tg, iter, ifs, 0⟩] scope pos) spos) (sSet (.nm j) (eComp i p (own.map (·.2)) t e n)) := by
  refine ⟨PSimp (ps_setLc (i := j) (g := tMG X.K p) (tt := tMT X.K t) (te := tM X.K e) hc hN hy hyl hsw hi.pi ok (fun s H C cl fp => (hg s H C cl fp).pg) (fun s H C cl fp => (ht s H C cl fp).pts) (fun s H C cl fp => (he s H C cl fp).pe) hs) ?_⟩
  rintro D σ H ⟨β, st, env, fl, env', st', hE, hS, hm, k⟩
  obtain ⟨w, st1, h1, h2⟩ := bnd_some hm
  obtain ⟨env1, st2, h3, h4⟩ := bnd_some h2
  simp only [Pat.asg] at h3
  cases h3
  cases h4
  refine tLc_of hp (Q := fun x H1 => gName j x σ H1 D.nx) ⟨β, st, env, w, _, hE, hS, h1, fun v H1 β1 e1 s1 r1 => ?_⟩
  exact k _ H1 β1 e1 s1 ((hE.ext e1).set r1 j)
end
end B

set_option Elab.async false
set_option linter.all false
set_option maxRecDepth 100000
namespace B
open PySem PySem.Spec L2
set_option autoImplicit false

/-! ### defs -/
@[simp] def fnM (n N : Nat) (body : SM) : List W → M W := fun ws st => if ws.length = n then
    match body (ws.map some ++ List.replicate (N - ws.length) none) st with
    | some ((.rt w, _), st') => some (w, st')
    | some ((.nx, _), st') => some (.non, st')
    | _ => none
  else none
def spM (K : PySem.W.Frag) (n : Nat) (F : List W → M W) : Sp := fun vs H Q _ => vs.length = n ∧ ∃ β st ws w st', RWs K β H ws vs ∧ RS K β H st ∧ F ws st = some (w, st') ∧
  ∀ v H' β', Ext β H β' H' → RS K β' H' st' → RW K β' H' w v → Q v H'
structure CallOk (P : Program) (w : World) (K : PySem.W.Frag) (mg : Str → Option Value) (base : Heap) (x : Str) (k n : Nat) (F : List W → M W) : Prop where
  ok : ∃ f fd ps, mg x = some (.ref f) ∧ PySem.W.keepIn K (.ref f) = true ∧ Binds K fd ps [] ∧ ps.length = n ∧ FnOk P w K mg base CX0 k f fd ps (spM K n F)
theorem CallOk.mono {P : Program} {w : World} {K : PySem.W.Frag} {mg : Str → Option Value} {base : Heap} {x : Str} {k j n : Nat} {F : List W → M W} (c : CallOk P w K mg base x k n F) (h : k ≤ j) : CallOk P w K mg base x j n F := by
  obtain ⟨f, fd, ps, a, b, d, e, g⟩ := c.ok
  exact ⟨f, fd, ps, a, b, d, e, g.mono h⟩
section
variable {X : Cx}
theorem se_call {x : Str} {p pos : Pos} {e : Expr} {es : List Expr} {m : AM} {k n : Nat} {F : List W → M W} (c : CallOk X.prog X.w X.K X.mg X.base x k n F) (hr : Room k X.A) (hg : Gl X x) (ha : SA X (e :: es) m) (hn : (e :: es).length = n := by rfl)
    (hdb : (x == ("__debug__" : Str)) = false := by decide) (he : starEach (e :: es) X.env = (false, eval e X.env) :: starEach es X.env := by rfl) (hpl : (backTo pos (starEach es X.env)).any (·.1) = false := by rfl) :
    SE X (.Call (.Name x p) (e :: es) [] pos) (eCall F m) := by
  obtain ⟨f, fd, ps, hm, hk, hb, hl, G⟩ := c.ok
  refine ⟨PEimp (pe_call G hr hg hm hk hb .nil (pass0 (X := X)) ha.pa hdb he hpl) ?_⟩
  rintro σ H Q ⟨β, st, env, w, st', hE, hS, hm, k⟩
  obtain ⟨ws, st1, h1, h2⟩ := bnd_some hm
  refine ⟨β, st, env, ws, st1, hE, hS, h1, fun vs H1 β1 e1 s1 r1 => ?_⟩
  show spM X.K n F (vs ++ []) H1 Q E0
  rw [List.append_nil]
  refine ⟨?_, β1, st1, ws, w, st', r1, s1, h2, fun v H2 β2 e2 s2 r2 => k v H2 β2 (e1.trans e2) s2 r2⟩
  rw [← r1.length, ← hn]
  exact ha.len _ _ _ h1
theorem se_call0 {x : Str} {p pos : Pos} {k : Nat} {F : List W → M W} (c : CallOk X.prog X.w X.K X.mg X.base x k 0 F) (hr : Room k X.A) (hg : Gl X x)
    (hdb : (x == ("__debug__" : Str)) = false := by decide) : SE X (.Call (.Name x p) [] [] pos) (eCall F aNil) := by
  obtain ⟨f, fd, ps, hm, hk, hb, hl, G⟩ := c.ok
  refine ⟨PEimp (pe_call0 G hr hg hm hk hb .nil (pass0 (X := X)) hdb) ?_⟩
  rintro σ H Q ⟨β, st, env, w, st', hE, hS, hm, k⟩
  obtain ⟨ws, st1, h1, h2⟩ := bnd_some hm
  cases h1
  exact ⟨rfl, β, _, [], w, st', .nil, hS, h2, fun v H2 β2 e2 s2 r2 => k v H2 β2 e2 s2 r2⟩
end
theorem re_start {K : PySem.W.Frag} {β : List Addr} {H : Hp} {N : List Str} {ws : List W} {vs : List V} (r : RWs K β H ws vs) : RE K β H (ws.map some ++ List.replicate (N.length - ws.length) none) (L2.start N vs) := by
  refine ⟨by unfold L2.start; simp [r.length], fun i w hi => ?_⟩
  unfold L2.start
  by_cases hl : i < ws.length
  · rw [List.getElem?_append_left (by simpa using hl), List.getElem?_map] at hi
    cases e : ws[i]? with
    | none => rw [e] at hi; cases hi
    | some w' =>
      rw [e] at hi
      cases hi
      obtain ⟨v, hv, rv⟩ := r.get e
      refine ⟨v, ?_, rv⟩
      rw [List.getElem?_append_left (by rw [List.length_map, ← r.length]; exact hl), List.getElem?_map, hv]
      rfl
  · rw [List.getElem?_append_right (by simpa using hl), List.getElem?_replicate] at hi
    split at hi <;> cases hi
theorem def_ok {P : Program} {w : World} {K : PySem.W.Frag} {mg : Str → Option Value} {base : Heap} {x qual : Str} {st : Stmt} {f : Addr} {fd : FuncData} {N ps : List Str} {k : Nat} {body : SM} (F : Fun K x qual st f fd) (S : FnScope N ps (defScope st))
    (hb : ∀ (cdv : Value) (A : Around) (outer : List Env) (s : Shared) (H : Hp) (E : XK), Room k (A.deeper (PyProof.Rows.envOfC qual (defScope st) s.heap.objs.size f cdv)) → SB (cxOf CX0 P w K mg base N qual (defScope st) f cdv A outer s H E).nox (defBody st) body) :
    FnOk P w K mg base CX0 (k + 1) f fd ps (spM K ps.length (fnM ps.length N.length body)) := by
  refine F.ok S (fun vs H Q E h => h.1) fun cdv A outer s H vs Q E hr h => ⟨_, (hb cdv A outer s H E hr).pss, ?_⟩
  obtain ⟨hl, β, sto, ws, w, st', r, hS, hm, kk⟩ := h
  unfold fnM at hm
  rw [if_pos (by rw [r.length, hl])] at hm
  split at hm
  · rename_i w' env' st2 e
    cases hm
    exact ⟨β, sto, _, _, _, _, re_start r, hS, e, fun σ' H' β' e' s' E' v rv => kk v H' β' e' s' rv⟩
  · rename_i env' st2 e
    cases hm
    exact ⟨β, sto, _, _, _, _, re_start r, hS, e, fun σ' H' β' e' s' E' => kk _ H' β' e' s' .non⟩
  · cases hm
theorem call_ok {P : Program} {w : World} {K : PySem.W.Frag} {mg : Str → Option Value} {base : Heap} {x qual : Str} {st : Stmt} {f : Addr} {fd : FuncData} {N ps : List Str} {k : Nat} {body : SM} (F : Fun K x qual st f fd) (hm : mg x = some (.ref f)) (S : FnScope N ps (defScope st))
    (b : Binds K fd ps [])
    (hb : ∀ (cdv : Value) (A : Around) (outer : List Env) (s : Shared) (H : Hp) (E : XK), Room k (A.deeper (PyProof.Rows.envOfC qual (defScope st) s.heap.objs.size f cdv)) → SB (cxOf CX0 P w K mg base N qual (defScope st) f cdv A outer s H E).nox (defBody st) body) :
    CallOk P w K mg base x (k + 1) ps.length (fnM ps.length N.length body) := ⟨f, fd, ps, hm, F.kp, b, rfl, def_ok F S hb⟩

/-! ### ints -/
@[simp] def fI0 (g : Int → Int → W) : W → W → M W := fun x y st => match x, y with
  | .int i, .int j => some (g i j, st)
  | _, _ => none
@[simp] def fI (c : Int → Int → Bool) (g : Int → Int → W) : W → W → M W := fun x y st => match x, y with
  | .int i, .int j => if c i j = true then some (g i j, st) else none
  | _, _ => none
section
variable {K : PySem.W.Frag}
theorem ref_I0 {g : Int → Int → W} {gv : Int → Int → V} (h : ∀ i j β H, RW K β H (g i j) (gv i j)) : Ref2 K (fI0 g) (rI0 gv) := by
  intro β H st st' x y w vx vy Q hS rx ry hm k
  unfold fI0 at hm
  split at hm
  · rename_i i j
    cases hm
    exact ⟨i, j, rx.int_inv, ry.int_inv, k _ H β .refl hS (h i j β H)⟩
  · cases hm
theorem ref_I {c : Int → Int → Bool} {C : Int → Int → Prop} {g : Int → Int → W} {gv : Int → Int → V} (hc : ∀ i j, c i j = true → C i j) (h : ∀ i j β H, RW K β H (g i j) (gv i j)) : Ref2 K (fI c g) (rI C gv) := by
  intro β H st st' x y w vx vy Q hS rx ry hm k
  unfold fI at hm
  split at hm
  · rename_i i j
    split at hm
    · rename_i hb
      cases hm
      exact ⟨i, j, rx.int_inv, ry.int_inv, hc i j hb, k _ H β .refl hS (h i j β H)⟩
    · cases hm
  · cases hm
@[simp] def fLt := fI0 fun i j => .bl (decide (i < j))
@[simp] def fLe := fI0 fun i j => .bl (decide (i ≤ j))
@[simp] def fGt := fI0 fun i j => .bl (decide (j < i))
@[simp] def fGe := fI0 fun i j => .bl (decide (j ≤ i))
theorem ref_lt : Ref2 K fLt (rI0 fun i j => .bl (decide (i < j))) := ref_I0 fun _ _ _ _ => .bl _
theorem ref_le : Ref2 K fLe (rI0 fun i j => .bl (decide (i ≤ j))) := ref_I0 fun _ _ _ _ => .bl _
theorem ref_gt : Ref2 K fGt (rI0 fun i j => .bl (decide (j < i))) := ref_I0 fun _ _ _ _ => .bl _
theorem ref_ge : Ref2 K fGe (rI0 fun i j => .bl (decide (j ≤ i))) := ref_I0 fun _ _ _ _ => .bl _
@[simp] def fSub := fI0 fun i j => .int (i - j)
theorem ref_sub : Ref2 K fSub (rI0 fun i j => .int (i - j)) := ref_I0 fun _ _ _ _ => .int _
@[simp] def fFdiv := fI (fun _ j => decide (0 < j ∧ j < 1073741824)) fun i j => .int (i / j)
theorem ref_fdiv : Ref2 K fFdiv (rI CDiv fun i j => .int (i / j)) := ref_I (fun i j h => (by first | (have := of_decide_eq_true h; exact this) | (have h := of_decide_eq_true h; unfold CDiv; exact h) | (have h := of_decide_eq_true h; unfold CPow; exact h) | (have h := of_decide_eq_true h; unfold CMul; exact h))) fun _ _ _ _ => .int _
@[simp] def fMod := fI (fun _ j => decide (0 < j)) fun i j => .int (i % j)
theorem ref_mod : Ref2 K fMod (rI (fun _ j => 0 < j) fun i j => .int (i % j)) := ref_I (fun i j h => (by first | (have := of_decide_eq_true h; exact this) | (have h := of_decide_eq_true h; unfold CDiv; exact h) | (have h := of_decide_eq_true h; unfold CPow; exact h) | (have h := of_decide_eq_true h; unfold CMul; exact h))) fun _ _ _ _ => .int _
@[simp] def fPow := fI (fun i j => decide (0 ≤ j ∧ j ≤ 1000000 ∧ i.natAbs < 2 ^ 64)) fun i j => .int (i ^ j.toNat)
theorem ref_pow : Ref2 K fPow (rI CPow fun i j => .int (i ^ j.toNat)) := ref_I (fun i j h => (by first | (have := of_decide_eq_true h; exact this) | (have h := of_decide_eq_true h; unfold CDiv; exact h) | (have h := of_decide_eq_true h; unfold CPow; exact h) | (have h := of_decide_eq_true h; unfold CMul; exact h))) fun _ _ _ _ => .int _
@[simp] def fMulI := fI (fun i j => decide ((-(2 ^ 64) < i ∧ i < 2 ^ 64) ∨ (-(2 ^ 64) < j ∧ j < 2 ^ 64))) fun i j => .int (i * j)
theorem ref_mulI : Ref2 K fMulI (rI CMul fun i j => .int (i * j)) := ref_I (fun i j h => (by first | (have := of_decide_eq_true h; exact this) | (have h := of_decide_eq_true h; unfold CDiv; exact h) | (have h := of_decide_eq_true h; unfold CPow; exact h) | (have h := of_decide_eq_true h; unfold CMul; exact h))) fun _ _ _ _ => .int _
@[simp] def fAddI := fI0 fun i j => .int (i + j)
theorem ref_addI : Ref2 K fAddI (rI0 fun i j => .int (i + j)) := ref_I0 fun _ _ _ _ => .int _
@[simp] def fNeg : W → M W := fun x st => match x with
  | .int i => some (.int (-i), st)
  | _ => none
theorem ref_neg : Ref1 K fNeg (rU fun i => .int (-i)) := by
  intro β H st st' x w vx Q hS rx hm k
  unfold fNeg at hm
  split at hm
  · rename_i i
    cases hm
    exact ⟨i, rx.int_inv, k _ H β .refl hS (.int _)⟩
  · cases hm

/-! ### sums of all sorts -/
@[simp] def fAdd : W → W → M W := fun x y st => match x, y with
  | .int i, .int j => some (.int (i + j), st)
  | .tup xs, .tup ys => if sml (xs.length + ys.length) = true then some (.tup (xs ++ ys), st) else none
  | .ref i, .ref j => match st[i]?, st[j]? with
    | some (.lst xs), some (.lst ys) => if sml (xs.length + ys.length) = true then some (.ref st.length, st ++ [.lst (xs ++ ys)]) else none
    | _, _ => none
  | _, _ => none
def rAddA (K : PySem.W.Frag) : R2 := fun x y H Q => (rI0 fun i j => .int (i + j)) x y H Q ∨ (rCatA K x y H Q ∨ rCat x y H Q)
theorem or_add {X : Cx} : OpR X (binaryOp .Add) (rAddA X.K) := op_add.or (op_catA.or op_cat)
theorem ref_add : Ref2 K fAdd (rAddA K) := by
  intro β H st st' x y w vx vy Q hS rx ry hm k
  unfold fAdd at hm
  split at hm
  · rename_i i j
    cases hm
    exact .inl ⟨i, j, rx.int_inv, ry.int_inv, k _ H β .refl hS (.int _)⟩
  · rename_i xs ys
    split at hm
    · rename_i hz
      cases hm
      cases rx with
      | @tup a _ vs hq r =>
        cases ry with
        | @tup b _ us hp r2 =>
          have h1 := r.length
          have h2 := r2.length
          have hz := sml_line hz
          refine .inr (.inl ⟨a, b, vs, us, rfl, rfl, hq.sq, hp.sq, by omega, fun e => ?_, fun e e' => ?_, fun _ _ p hf => ?_⟩)
          · subst e
            cases r
            exact k _ H β .refl hS (.tup hp r2)
          · subst e'
            cases r2
            rw [List.append_nil] at k
            exact k _ H β .refl hS (.tup hq r)
          · have e : Ext β H β (upd H p (.tup (vs ++ us))) := Ext.new hf
            exact k _ _ β e (hS.new hf) (.tup (.inl upd_same) ((r.append r2).ext e))
    · cases hm
  · rename_i i j
    split at hm
    · rename_i xs ys hi hj
      split at hm
      · rename_i hz
        cases hm
        cases rx with
        | @ref i a ha =>
          cases ry with
          | @ref j b hb =>
            obtain ⟨vs, e1, r⟩ := rs_lst hS ha hi
            obtain ⟨us, e2, r2⟩ := rs_lst hS hb hj
            have h1 := r.length
            have h2 := r2.length
            have hz := sml_line hz
            refine .inr (.inr ⟨a, b, vs, us, rfl, rfl, e1, e2, by omega, fun p hf => ?_⟩)
            have e : Ext β H (β ++ [p]) (upd H p (.lst (vs ++ us))) := Ext.alloc hf
            exact k _ _ _ e (hS.alloc hf ⟨_, upd_same, (r.append r2).ext e⟩) (.ref (alloc_ix hS))
      · cases hm
    · cases hm
  · cases hm
end
end B

set_option Elab.async false
set_option linter.all false
set_option maxRecDepth 100000
namespace B
open PySem PySem.Spec L2
set_option autoImplicit false

/-! ### data -/
mutual
def toD : W → Option PyData
  | .non => some .none
  | .bl b => some (.bool b)
  | .int i => some (.int i)
  | .str x => some (.str x)
  | .tup xs => match toDs xs with
    | some ds => some (.tuple ds)
    | none => none
  | .fl xs => match toDs xs with
    | some ds => some (.list ds)
    | none => none
  | .ref _ => none
  | .ext _ => none
  | .fnc _ => none
def toDs : List W → Option (List PyData)
  | [] => some []
  | x :: xs => match toD x, toDs xs with
    | some d, some ds => some (d :: ds)
    | _, _ => none
end
section
variable {K : PySem.W.Frag} {β : List Addr} {H : Hp}
mutual
theorem dp_of : ∀ (w : W) (v : V) (d : PyData), RW K β H w v → toD w = some d → Dp K H v d
  | .non, _, _, r, h => by cases r; simp only [toD] at h; cases h; exact .non
  | .bl b, _, _, r, h => by cases r; simp only [toD] at h; cases h; exact .bl b
  | .int i, _, _, r, h => by cases r; simp only [toD] at h; cases h; exact .int i
  | .str x, _, _, r, h => by cases r; simp only [toD] at h; cases h; exact .str x
  | .tup xs, _, _, r, h => by
    cases r with
    | tup hq r =>
      simp only [toD] at h
      split at h
      · rename_i ds e; cases h; exact .tup hq.sq (dps_of xs _ ds r e)
      · cases h
  | .fl xs, _, _, r, h => by
    cases r with
    | fl hq r =>
      simp only [toD] at h
      split at h
      · rename_i ds e; cases h; exact .lst hq.sq (dps_of xs _ ds r e)
      · cases h
  | .ref _, _, _, _, h => by simp only [toD] at h; cases h
  | .ext _, _, _, _, h => by simp only [toD] at h; cases h
  | .fnc _, _, _, _, h => by simp only [toD] at h; cases h
theorem dps_of : ∀ (ws : List W) (vs : List V) (ds : List PyData), RWs K β H ws vs → toDs ws = some ds → DpAll K H vs ds
  | [], _, _, r, h => by cases r; simp only [toDs] at h; cases h; exact .nil
  | w :: ws, _, _, r, h => by
    cases r with
    | cons r t =>
      simp only [toDs] at h
      split at h
      · rename_i d ds e1 e2; cases h; exact .cons (dp_of w _ d r e1) (dps_of ws _ ds t e2)
      · cases h
end
/-- .. also a list of the store -/
def toDS (w : W) (st : Sto) : Option PyData := match w with
  | .ref i => match st[i]? with
    | some (.lst xs) => match toDs xs with
      | some ds => some (.list ds)
      | none => none
    | _ => none
  | w => toD w
theorem dps_ofS {st : Sto} {w : W} {v : V} {d : PyData} (hS : RS K β H st) (r : RW K β H w v) (h : toDS w st = some d) : Dp K H v d := by
  unfold toDS at h
  split at h
  · rename_i i
    split at h
    · rename_i xs hi
      split at h
      · rename_i ds e
        cases h
        cases r with
        | ref hb =>
          obtain ⟨vs, e1, r⟩ := rs_lst hS hb hi
          exact .lst (SqL.of e1) (dps_of _ _ _ r e)
      · cases h
    · cases h
  · exact dp_of _ _ _ r h
def fEq : W → W → M W := fun x y st => match toDS x st, toDS y st with
  | some d, some e => if (SeqAt.shaped d && SeqAt.shaped e) = true then some (.bl (PyData.eqv d e), st) else none
  | _, _ => none
def fNe : W → W → M W := fun x y st => match toDS x st, toDS y st with
  | some d, some e => if (SeqAt.shaped d && SeqAt.shaped e) = true then some (.bl (!PyData.eqv d e), st) else none
  | _, _ => none
theorem ref_eq : Ref2 K fEq (rEqD K) := by
  intro β H st st' x y w vx vy Q hS rx ry hm k
  unfold fEq at hm
  split at hm
  · rename_i d e hd he
    split at hm
    · rename_i hc
      cases hm
      rw [Bool.and_eq_true] at hc
      exact ⟨d, e, dps_ofS hS rx hd, dps_ofS hS ry he, hc.1, hc.2, k _ H β .refl hS (.bl _)⟩
    · cases hm
  · cases hm
theorem ref_ne : Ref2 K fNe (rNeD K) := by
  intro β H st st' x y w vx vy Q hS rx ry hm k
  unfold fNe at hm
  split at hm
  · rename_i d e hd he
    split at hm
    · rename_i hc
      cases hm
      rw [Bool.and_eq_true] at hc
      exact ⟨d, e, dps_ofS hS rx hd, dps_ofS hS ry he, hc.1, hc.2, k _ H β .refl hS (.bl _)⟩
    · cases hm
  · cases hm
@[simp] def fIsN : W → W → M W := fun x y st => match y with
  | .non => match x with
    | .ext _ => none
    | .non => some (.bl true, st)
    | _ => some (.bl false, st)
  | _ => none
@[simp] def fNotN : W → W → M W := fun x y st => match y with
  | .non => match x with
    | .ext _ => none
    | .non => some (.bl false, st)
    | _ => some (.bl true, st)
  | _ => none
theorem ref_isN : Ref2 K fIsN (fun x y H Q => y = .non ∧ Q (.bl (decide (x = .non))) H) := by
  intro β H st st' x y w vx vy Q hS rx ry hm k
  unfold fIsN at hm
  split at hm
  · refine ⟨ry.non_inv, ?_⟩
    cases rx <;> first | (cases hm; done) | (cases hm; exact k _ H β .refl hS (.bl _))
  · cases hm
theorem ref_notN : Ref2 K fNotN (fun x y H Q => y = .non ∧ Q (.bl (!decide (x = .non))) H) := by
  intro β H st st' x y w vx vy Q hS rx ry hm k
  unfold fNotN at hm
  split at hm
  · refine ⟨ry.non_inv, ?_⟩
    cases rx <;> first | (cases hm; done) | (cases hm; exact k _ H β .refl hS (.bl _))
  · cases hm

/-! ### in -/
@[simp] def flatW : W → Bool
  | .non => true
  | .bl _ => true
  | .int _ => true
  | .str _ => true
  | _ => false
@[simp] def eqW : W → W → Bool
  | .non, .non => true
  | .bl a, .bl b => a == b
  | .bl a, .int b => (if a then 1 else 0) == b
  | .int a, .bl b => a == (if b then 1 else 0)
  | .int a, .int b => a == b
  | .str a, .str b => a == b
  | _, _ => false
theorem flatW_V {w : W} {v : V} (r : RW K β H w v) (h : flatW w = true) : flatV v = true := by cases r <;> first | rfl | cases h
theorem eqW_V {w u : W} {v z : V} (r : RW K β H w v) (r2 : RW K β H u z) (h : flatW w = true) (h2 : flatW u = true) : eqV v z = eqW w u := by
  cases r <;> first | (cases h; done) | (cases r2 <;> first | (cases h2; done) | rfl)
theorem anyW_V {x : W} {vx : V} (rx : RW K β H x vx) (hx : flatW x = true) : ∀ {ws : List W} {vs : List V}, RWs K β H ws vs → ws.all flatW = true → vs.all flatV = true ∧ inV vx vs = ws.any fun y => eqW y x
  | _, _, .nil, _ => ⟨rfl, rfl⟩
  | _, _, .cons r t, h => by
    rw [List.all_cons, Bool.and_eq_true] at h
    obtain ⟨h1, h2⟩ := anyW_V rx hx t h.2
    refine ⟨by rw [List.all_cons, flatW_V r h.1, h1]; rfl, ?_⟩
    unfold inV at h2 ⊢
    rw [List.any_cons, List.any_cons, h2, eqW_V r rx h.1 hx]
@[simp] def itemsOf (w : W) (st : Sto) : Option (List W) := match w with
  | .tup xs => some xs
  | .fl xs => some xs
  | .ref i => match st[i]? with
    | some (.lst xs) => some xs
    | _ => none
  | _ => none
theorem items_ok2 {st : Sto} {w : W} {v : V} {xs : List W} (hS : RS K β H st) (r : RW K β H w v) (h : itemsOf w st = some xs) : ∃ p vs, v = .ref p ∧ (SqL K H p vs ∨ TqT K H p vs) ∧ RWs K β H xs vs := by
  unfold itemsOf at h
  cases r with
  | tup hq r => cases h; exact ⟨_, _, rfl, .inr hq, r⟩
  | fl hq r => cases h; exact ⟨_, _, rfl, .inl hq.sq, r⟩
  | ref hb =>
    dsimp only at h
    split at h
    · rename_i xs hi
      cases h
      obtain ⟨vs, e, r⟩ := rs_lst hS hb hi
      exact ⟨_, _, rfl, .inl (SqL.of e), r⟩
    · cases h
  | _ => cases h
theorem items_ok {st : Sto} {w : W} {v : V} {xs : List W} (hS : RS K β H st) (r : RW K β H w v) (h : itemsOf w st = some xs) : ∃ p vs, v = .ref p ∧ (SqL K H p vs ∨ SqT K H p vs) ∧ RWs K β H xs vs := by
  unfold itemsOf at h
  cases r with
  | tup hq r => cases h; exact ⟨_, _, rfl, .inr hq.sq, r⟩
  | fl hq r => cases h; exact ⟨_, _, rfl, .inl hq.sq, r⟩
  | ref hb =>
    dsimp only at h
    split at h
    · rename_i xs hi
      cases h
      obtain ⟨vs, e, r⟩ := rs_lst hS hb hi
      exact ⟨_, _, rfl, .inl (SqL.of e), r⟩
    · cases h
  | _ => cases h
@[simp] def fInB (neg : Bool) : W → W → M W := fun x y st => match itemsOf y st with
  | some xs => if (flatW x && xs.all flatW) = true then some (.bl (if neg = true then !(xs.any fun y => eqW y x) else xs.any fun y => eqW y x), st) else none
  | none => none
theorem ref_in {neg : Bool} : Ref2 K (fInB neg) (rIn K neg) := by
  intro β H st st' x y w vx vy Q hS rx ry hm k
  unfold fInB at hm
  split at hm
  · rename_i xs hi
    split at hm
    · rename_i hc
      cases hm
      rw [Bool.and_eq_true] at hc
      obtain ⟨p, vs, rfl, hq, r⟩ := items_ok hS ry hi
      obtain ⟨h1, h2⟩ := anyW_V rx hc.1 r hc.2
      refine ⟨p, vs, rfl, hq, flatW_V rx hc.1, h1, ?_⟩
      rw [h2]
      exact k _ H β .refl hS (.bl _)
    · cases hm
  · cases hm

/-! ### built-in functions -/
@[simp] def bLen : List W → M W := fun xs st => match xs with
  | [w] => match itemsOf w st with
    | some ys => some (.int ys.length, st)
    | none => none
  | _ => none
theorem rws1 {x : W} {vs : List V} (r : RWs K β H [x] vs) : ∃ v, vs = [v] ∧ RW K β H x v := by
  cases r with
  | cons r t => cases t; exact ⟨_, rfl, r⟩
theorem rws2 {x y : W} {vs : List V} (r : RWs K β H [x, y] vs) : ∃ v u, vs = [v, u] ∧ RW K β H x v ∧ RW K β H y u := by
  cases r with
  | cons r t =>
    cases t with
    | cons r2 t => cases t; exact ⟨_, _, rfl, r, r2⟩
theorem ref_len : RefN K bLen (fun xs H Q => ∃ p ys, xs = [.ref p] ∧ (SqL K H p ys ∨ SqT K H p ys) ∧ Q (.int ys.length) H) := by
  intro β H st st' xs w vs Q hS r hm k
  unfold bLen at hm
  split at hm
  · rename_i x
    split at hm
    · rename_i ys hi
      cases hm
      obtain ⟨v, rfl, rx⟩ := rws1 r
      obtain ⟨p, us, rfl, hq, ru⟩ := items_ok hS rx hi
      refine ⟨p, us, rfl, hq, ?_⟩
      rw [← ru.length]
      exact k _ H β .refl hS (.int _)
    · cases hm
  · cases hm
@[simp] def bInt : List W → M W := fun xs st => match xs with
  | [.int i] => some (.int i, st)
  | [.bl b] => some (.int (if b then 1 else 0), st)
  | _ => none
theorem ref_int : RefN K bInt (fun xs H Q => (∃ i, xs = [.int i] ∧ Q (.int i) H) ∨ ∃ k, xs = [.bl k] ∧ Q (.int (if k then 1 else 0)) H) := by
  intro β H st st' xs w vs Q hS r hm k
  unfold bInt at hm
  split at hm
  · rename_i i
    cases hm
    obtain ⟨v, rfl, rx⟩ := rws1 r
    exact .inl ⟨i, by rw [rx.int_inv], k _ H β .refl hS (.int _)⟩
  · rename_i b
    cases hm
    obtain ⟨v, rfl, rx⟩ := rws1 r
    exact .inr ⟨b, by rw [rx.bl_inv], k _ H β .refl hS (.int _)⟩
  · cases hm
@[simp] def bAbs : List W → M W := fun xs st => match xs with
  | [.int i] => some (.int (if i < 0 then -i else i), st)
  | _ => none
theorem ref_abs : RefN K bAbs (fun xs H Q => ∃ i, xs = [.int i] ∧ Q (.int (if i < 0 then -i else i)) H) := by
  intro β H st st' xs w vs Q hS r hm k
  unfold bAbs at hm
  split at hm
  · rename_i i
    cases hm
    obtain ⟨v, rfl, rx⟩ := rws1 r
    exact ⟨i, by rw [rx.int_inv], k _ H β .refl hS (.int _)⟩
  · cases hm
def intsW : List W → Option (List Int)
  | [] => some []
  | .int i :: r => match intsW r with
    | some is => some (i :: is)
    | none => none
  | _ => none
theorem ints_ok : ∀ {ws : List W} {vs : List V} {is : List Int}, RWs K β H ws vs → intsW ws = some is → vs = is.map V.int
  | [], _, _, .nil, h => by cases h; rfl
  | .int i :: ws, _, _, .cons r t, h => by
    simp only [intsW] at h
    split at h
    · rename_i is e
      cases h
      rw [ints_ok t e, r.int_inv]; rfl
    · cases h
  | .non :: _, _, _, _, h => by simp only [intsW] at h; cases h
  | .bl _ :: _, _, _, _, h => by simp only [intsW] at h; cases h
  | .str _ :: _, _, _, _, h => by simp only [intsW] at h; cases h
  | .tup _ :: _, _, _, _, h => by simp only [intsW] at h; cases h
  | .fl _ :: _, _, _, _, h => by simp only [intsW] at h; cases h
  | .ref _ :: _, _, _, _, h => by simp only [intsW] at h; cases h
  | .ext _ :: _, _, _, _, h => by simp only [intsW] at h; cases h
def boolsW : List W → Option (List Bool)
  | [] => some []
  | .bl i :: r => match boolsW r with
    | some is => some (i :: is)
    | none => none
  | _ => none
theorem bools_ok : ∀ {ws : List W} {vs : List V} {is : List Bool}, RWs K β H ws vs → boolsW ws = some is → vs = is.map V.bl
  | [], _, _, .nil, h => by cases h; rfl
  | .bl i :: ws, _, _, .cons r t, h => by
    simp only [boolsW] at h
    split at h
    · rename_i is e
      cases h
      rw [bools_ok t e, r.bl_inv]; rfl
    · cases h
  | .non :: _, _, _, _, h => by simp only [boolsW] at h; cases h
  | .int _ :: _, _, _, _, h => by simp only [boolsW] at h; cases h
  | .str _ :: _, _, _, _, h => by simp only [boolsW] at h; cases h
  | .tup _ :: _, _, _, _, h => by simp only [boolsW] at h; cases h
  | .fl _ :: _, _, _, _, h => by simp only [boolsW] at h; cases h
  | .ref _ :: _, _, _, _, h => by simp only [boolsW] at h; cases h
  | .ext _ :: _, _, _, _, h => by simp only [boolsW] at h; cases h
/-- the items of a list -/
@[simp] def listOf (w : W) (st : Sto) : Option (List W) := match w with
  | .fl xs => some xs
  | .ref i => match st[i]? with
    | some (.lst xs) => some xs
    | _ => none
  | _ => none
theorem list_ok {st : Sto} {w : W} {v : V} {xs : List W} (hS : RS K β H st) (r : RW K β H w v) (h : listOf w st = some xs) : ∃ p vs, v = .ref p ∧ SqL K H p vs ∧ RWs K β H xs vs := by
  unfold listOf at h
  cases r with
  | fl hq r => cases h; exact ⟨_, _, rfl, hq.sq, r⟩
  | ref hb =>
    dsimp only at h
    split at h
    · rename_i xs hi
      cases h
      obtain ⟨vs, e, r⟩ := rs_lst hS hb hi
      exact ⟨_, _, rfl, SqL.of e, r⟩
    · cases h
  | _ => cases h
@[simp] def bSum : List W → M W := fun xs st => match xs with
  | [w] => match listOf w st with
    | some ys => match intsW ys with
      | some is => some (.int is.sum, st)
      | none => none
    | none => none
  | _ => none
theorem ref_sum : RefN K bSum (rSum K) := by
  intro β H st st' xs w vs Q hS r hm k
  unfold bSum at hm
  split at hm
  · split at hm
    · rename_i ys hi
      split at hm
      · rename_i is hj
        cases hm
        obtain ⟨v, rfl, rx⟩ := rws1 r
        obtain ⟨p, us, rfl, hq, ru⟩ := list_ok hS rx hi
        rw [ints_ok ru hj] at hq
        exact ⟨p, is, rfl, hq, k _ H β .refl hS (.int _)⟩
      · cases hm
    · cases hm
  · cases hm
@[simp] def bAll : List W → M W := fun xs st => match xs with
  | [w] => match listOf w st with
    | some ys => match boolsW ys with
      | some is => some (.bl (is.all id), st)
      | none => none
    | none => none
  | _ => none
@[simp] def bAny : List W → M W := fun xs st => match xs with
  | [w] => match listOf w st with
    | some ys => match boolsW ys with
      | some is => some (.bl (is.any id), st)
      | none => none
    | none => none
  | _ => none
theorem ref_all : RefN K bAll (rAll K) := by
  intro β H st st' xs w vs Q hS r hm k
  unfold bAll at hm
  split at hm
  · split at hm
    · rename_i ys hi
      split at hm
      · rename_i is hj
        cases hm
        obtain ⟨v, rfl, rx⟩ := rws1 r
        obtain ⟨p, us, rfl, hq, ru⟩ := list_ok hS rx hi
        rw [bools_ok ru hj] at hq
        exact ⟨p, is, rfl, hq, k _ H β .refl hS (.bl _)⟩
      · cases hm
    · cases hm
  · cases hm
theorem ref_any : RefN K bAny (rAny K) := by
  intro β H st st' xs w vs Q hS r hm k
  unfold bAny at hm
  split at hm
  · split at hm
    · rename_i ys hi
      split at hm
      · rename_i is hj
        cases hm
        obtain ⟨v, rfl, rx⟩ := rws1 r
        obtain ⟨p, us, rfl, hq, ru⟩ := list_ok hS rx hi
        rw [bools_ok ru hj] at hq
        exact ⟨p, is, rfl, hq, k _ H β .refl hS (.bl _)⟩
      · cases hm
    · cases hm
  · cases hm
@[simp] def bList : List W → M W := fun xs st => match xs with
  | [w] => match itemsOf w st with
    | some ys => some (.ref st.length, st ++ [.lst ys])
    | none => none
  | _ => none
theorem ref_list : RefN K bList (fun xs H Q => ∃ p ys, xs = [.ref p] ∧ (SqL K H p ys ∨ SqT K H p ys) ∧ ∀ l, H l = none → Q (.ref l) (upd H l (.lst ys))) := by
  intro β H st st' xs w vs Q hS r hm k
  unfold bList at hm
  split at hm
  · split at hm
    · rename_i ys hi
      cases hm
      obtain ⟨v, rfl, rx⟩ := rws1 r
      obtain ⟨p, us, rfl, hq, ru⟩ := items_ok hS rx hi
      refine ⟨p, us, rfl, hq, fun l hl => ?_⟩
      have e : Ext β H (β ++ [l]) (upd H l (.lst us)) := Ext.alloc hl
      exact k _ _ _ e (hS.alloc hl ⟨_, upd_same, ru.ext e⟩) (.ref (alloc_ix hS))
    · cases hm
  · cases hm
@[simp] def bTuple : List W → M W := fun xs st => match xs with
  | [w] => match itemsOf w st with
    | some ys => some (.tup ys, st)
    | none => none
  | _ => none
theorem ref_tuple : RefN K bTuple (fun xs H Q => ∃ p ys, xs = [.ref p] ∧ ((SqL K H p ys ∧ ∀ l, H l = none → Q (.ref l) (upd H l (.tup ys))) ∨ (SqT K H p ys ∧ Q (.ref p) H))) := by
  intro β H st st' xs w vs Q hS r hm k
  unfold bTuple at hm
  split at hm
  · split at hm
    · rename_i ys hi
      cases hm
      obtain ⟨v, rfl, rx⟩ := rws1 r
      obtain ⟨p, us, rfl, hq, ru⟩ := items_ok2 hS rx hi
      refine ⟨p, us, rfl, ?_⟩
      rcases hq with hq | hq
      · refine .inl ⟨hq, fun l hl => ?_⟩
        have e : Ext β H β (upd H l (.tup us)) := Ext.new hl
        exact k _ _ _ e (hS.new hl) (.tup (.inl upd_same) (ru.ext e))
      · exact .inr ⟨hq.sq, k _ H β .refl hS (.tup hq ru)⟩
    · cases hm
  · cases hm

/-! ### isinstance -/
def tyW (w : W) (st : Sto) : Option String := match w with
  | .non => some "NoneType"
  | .bl _ => some "bool"
  | .int _ => some "int"
  | .str _ => some "str"
  | .tup _ => some "tuple"
  | .fl _ => some "list"
  | .ref i => match st[i]? with
    | some (.lst _) => some "list"
    | some (.dct _) => some "dict"
    | some (.dtt _) => some "dict"
    | _ => none
  | .ext _ => none
  | .fnc _ => none
theorem tyW_ok {st : Sto} {w : W} {v : V} {t : String} (hS : RS K β H st) (r : RW K β H w v) (h : tyW w st = some t) : TyX K H v (.type t) := by
  unfold tyW at h
  cases r with
  | non => cases h; exact .base .non
  | bl b => cases h; exact .base (.bl b)
  | int b => cases h; exact .base (.int b)
  | str b => cases h; exact .base (.str b)
  | tup hq r =>
    cases h
    rcases hq with hq | ⟨⟨o, its, n, hk, hc, _⟩, _⟩
    · exact .base (.tup hq)
    · exact .kTuple hk hc
  | fl hq r =>
    cases h
    rcases hq with ⟨o, hq⟩ | ⟨o, its, n, hk, hc, _⟩
    · exact .base (.frz hq)
    · exact .kList hk hc
  | ref hb =>
    dsimp only at h
    split at h
    · rename_i xs hi
      cases h
      obtain ⟨vs, e, _⟩ := rs_lst hS hb hi
      exact .base (.lst e)
    · rename_i xs hi
      cases h
      obtain ⟨vs, e, _⟩ := rs_dct hS hb hi
      exact .base (.dK e)
    · rename_i xs hi
      cases h
      obtain ⟨vs, e, _⟩ := rs_dtt hS hb hi
      exact .base (.dT e)
    · cases h
  | ext _ => cases h
  | fnc _ => cases h
def bIsi : List W → M W := fun xs st => match xs with
  | [w, .ext (.ty T)] => match tyW w st with
    | some t => match kitB t T with
      | some b => some (.bl b, st)
      | none => none
    | none => none
  | _ => none
theorem ref_isi : RefN K bIsi (rIsi K) := by
  intro β H st st' xs w vs Q hS r hm k
  unfold bIsi at hm
  split at hm
  · rename_i x T
    split at hm
    · rename_i t ht
      split at hm
      · rename_i b hb
        cases hm
        obtain ⟨v, u, rfl, rx, ru⟩ := rws2 r
        cases ru
        exact ⟨v, .ty T, .type t, .type T, b, rfl, .ty T, tyW_ok hS rx ht, kit_ty hb, k _ H β .refl hS (.bl b)⟩
      · cases hm
    · cases hm
  · cases hm
end

/-! ### items, slices -/
section
variable {K : PySem.W.Frag}
@[simp] def fIx : W → W → M W := fun x y st => match y with
  | .int i => match itemsOf x st with
    | some xs => match atI xs i with
      | some w => some (w, st)
      | none => none
    | none => none
  | _ => none
theorem atI_rws {β : List Addr} {H : Hp} {ws : List W} {vs : List V} {i : Int} {w : W} (r : RWs K β H ws vs) (h : atI ws i = some w) : ∃ v, atI vs i = some v ∧ RW K β H w v := by
  unfold atI at h ⊢
  rw [← r.length]
  cases e : ixN ws.length i with
  | none => rw [e] at h; cases h
  | some j =>
    rw [e] at h
    exact r.get h
theorem ref_ix : Ref2 K fIx (rIx K) := by
  intro β H st st' x y w vx vy Q hS rx ry hm k
  unfold fIx at hm
  split at hm
  · rename_i i
    split at hm
    · rename_i xs hi
      split at hm
      · rename_i z hz
        cases hm
        obtain ⟨p, us, rfl, hq, ru⟩ := items_ok hS rx hi
        obtain ⟨v, hv, rv⟩ := atI_rws ru hz
        rcases hq with hq | hq
        · exact .inl ⟨p, us, i, v, rfl, ry.int_inv, hq, hv, k _ H β .refl hS rv⟩
        · exact .inr (.inl ⟨p, us, i, v, rfl, ry.int_inv, hq, hv, k _ H β .refl hS rv⟩)
      · cases hm
    · cases hm
  · cases hm
abbrev OM := En → M (Option Int)
@[simp] def oNone : OM := fun _ => ret none
@[simp] def oSome (e : EM) : OM := fun env => bnd (e env) fun w st => match w with
  | .int i => some (some i, st)
  | _ => none
def tMO (K : PySem.W.Frag) (m : OM) : TO := fun σ H Q => ∃ β st env o st', RE K β H env σ ∧ RS K β H st ∧ m env st = some (o, st') ∧
  ∀ H' β', Ext β H β' H' → RS K β' H' st' → Q o H'
structure SO' (X : Cx) (e : Option Expr) (m : OM) : Prop where
  po : PO X e (tMO X.K m)
def cutW (xs : List W) (lo hi : Option Int) : List W := (xs.drop (HT.sIx xs.length 0 lo)).take (HT.sIx xs.length xs.length hi - HT.sIx xs.length 0 lo)
theorem cut_rws {β : List Addr} {H : Hp} {ws : List W} {vs : List V} (r : RWs K β H ws vs) (lo hi : Option Int) : RWs K β H (cutW ws lo hi) (cutV vs lo hi) := by
  unfold cutW cutV
  rw [← r.length]
  exact (r.drop _).take _
@[simp] def fSl (x : W) (lo hi : Option Int) : M W := fun st => match x with
  | .tup xs => some (.tup (cutW xs lo hi), st)
  | .fl xs => some (.ref st.length, st ++ [.lst (cutW xs lo hi)])
  | .ref i => match st[i]? with
    | some (.lst xs) => some (.ref st.length, st ++ [.lst (cutW xs lo hi)])
    | _ => none
  | _ => none
@[simp] def eSl (e : EM) (lo hi : OM) : EM := fun env => bnd (e env) fun x => bnd (lo env) fun l => bnd (hi env) fun h => fSl x l h
section
variable {X : Cx}
theorem POimp {e : Option Expr} {t t' : TO} (h : PO X e t) (i : ∀ σ H Q, t' σ H Q → t σ H Q) : PO X e t' := ⟨fun pins s σ H Q I hq => h.run pins s σ H Q I (i σ H Q hq)⟩
theorem so_none : SO' X none oNone := ⟨POimp po_none fun σ H Q ⟨β, st, env, o, st', hE, hS, hm, k⟩ => by cases hm; exact k H β .refl hS⟩
theorem so_some {e : Expr} {m : EM} (h : SE X e m) : SO' X (some e) (oSome m) := by
  refine ⟨POimp (po_some h.pe) ?_⟩
  rintro σ H Q ⟨β, st, env, o, st', hE, hS, hm, k⟩
  obtain ⟨w, st1, h1, h2⟩ := bnd_some hm
  refine ⟨β, st, env, w, st1, hE, hS, h1, fun v H1 β1 e1 s1 r1 => ?_⟩
  split at h2
  · rename_i i
    cases h2
    exact ⟨i, r1.int_inv, k H1 β1 e1 s1⟩
  · cases h2
theorem se_ix {a b : Expr} {ma mb : EM} {pos : Pos} (ha : SE X a ma) (hb : SE X b mb) (hs : PlainIx b := by exact fun _ _ => rfl) : SE X (.Subscript a b pos) (eOp fIx ma mb) :=
  ⟨PEimp (pe_ix ix_seq ha.pe hb.pe hs) fun _ _ _ h => tM_op ref_ix h⟩
theorem se_slice {e : Expr} {lo hi : Option Expr} {p2 pos : Pos} {m : EM} {l h : OM} (he : SE X e m) (hl : SO' X lo l) (hh : SO' X hi h) : SE X (.Subscript e (.Slice lo hi none p2) pos) (eSl m l h) := by
  refine ⟨PEimp (pe_slice (sl_list.or sl_tupA) he.pe hl.po hh.po) ?_⟩
  rintro σ H Q ⟨β, st, env, w, st', hE, hS, hm, k⟩
  obtain ⟨x, st1, h1, h2⟩ := bnd_some hm
  obtain ⟨o1, st2, h3, h4⟩ := bnd_some h2
  obtain ⟨o2, st3, h5, h6⟩ := bnd_some h4
  refine ⟨β, st, env, x, st1, hE, hS, h1, fun v H1 β1 e1 s1 r1 => ⟨β1, st1, env, o1, st2, hE.ext e1, s1, h3, fun H2 β2 e2 s2 => ⟨β2, st2, env, o2, st3, (hE.ext e1).ext e2, s2, h5, fun H3 β3 e3 s3 => ?_⟩⟩⟩
  have rx := (r1.ext' e2).ext' e3
  have k' := fun v H' β' e s r => k v H' β' (((e1.trans e2).trans e3).trans e) s r
  unfold fSl at h6
  cases rx with
  | @tup a xs vs hq r =>
    cases h6
    refine .inr ⟨a, vs, rfl, hq.sq, fun hw => ?_, fun _ p hf => ?_⟩
    · have : cutW xs o1 o2 = xs := by
        unfold cutW
        rw [← r.length] at hw
        rw [hw.1, hw.2]
        simp
      rw [this] at k'
      exact k' _ H3 β3 .refl s3 (.tup hq r)
    · have e : Ext β3 H3 β3 (upd H3 p (.tup (cutV vs o1 o2))) := Ext.new hf
      exact k' _ _ β3 e (s3.new hf) (.tup (.inl upd_same) ((cut_rws r _ _).ext e))
  | @fl a xs vs hq r =>
    cases h6
    refine .inl ⟨a, vs, rfl, hq.sq, fun p hf => ?_⟩
    have e : Ext β3 H3 (β3 ++ [p]) (upd H3 p (.lst (cutV vs o1 o2))) := Ext.alloc hf
    exact k' _ _ _ e (s3.alloc hf ⟨_, upd_same, (cut_rws r _ _).ext e⟩) (.ref (alloc_ix s3))
  | @ref i a hb =>
    dsimp only at h6
    split at h6
    · rename_i xs hi
      cases h6
      obtain ⟨vs, e2', r⟩ := rs_lst s3 hb hi
      refine .inl ⟨a, vs, rfl, SqL.of e2', fun p hf => ?_⟩
      have e : Ext β3 H3 (β3 ++ [p]) (upd H3 p (.lst (cutV vs o1 o2))) := Ext.alloc hf
      exact k' _ _ _ e (s3.alloc hf ⟨_, upd_same, (cut_rws r _ _).ext e⟩) (.ref (alloc_ix s3))
    · cases h6
  | _ => cases h6
end
end
end B

set_option Elab.async false
set_option linter.all false
set_option maxRecDepth 100000
namespace B
open PySem PySem.Spec L2
set_option autoImplicit false

/-! ### a list is extended by a tuple -/
theorem list_extend_tup (l : Addr) (items : Array Value) (n : Nat) (b : Addr) (dd : Option Addr) (items2 : Array Value) (n2 : Nat) (sl : Array (Option Value)) (hs0 : ¬(!items.isEmpty && Builtin.List.listTooLong (items.size + items2.size)) = true) (hs1 : items.size ≤ sizeLine) (hs2 : items.size + items2.size ≤ sizeLine + 1) :
    Meets (Builtin.«list.extend» ⟨[.ref l, .ref b], []⟩) (fun _ R s => s.heap.get? l = some { cls := .type "list", dict := none, data := .seq items n, slots := #[] } ∧ s.heap.get? b = some { cls := .type "tuple", dict := dd, data := .seq items2 n2, slots := sl } ∧ R (.ok (.ret Value.none)) { s with heap := s.heap.update l (Obj.mapSeq fun x => x ++ items2), toks := s.toks }) :=
  .of_wp fun prog w A R s h => by
    obtain ⟨hp, g, d, tk, os⟩ := s; obtain ⟨hl, hb, h⟩ := h; have f1 := AutoSeq1.idx_int; have f2 := AutoSeq1.sub_tuple_tuple; have f3 := AutoSeq1.sub_list_list; have f4 := AutoSeq1.sub_tuple_list; have f5 := AutoSeq1.sub_list_tuple;
    have hz' : (items ++ items2).size ≤ sizeLine + 1 := by rw [Array.size_append]; exact hs2
    wp_walk using (wpAny_updateSeq hl rfl (hz := hs1) (_hz' := hz')), wpAny_loadPart' hl, wpAny_loadPart' hb; exact ⟨_, rfl, h⟩
def rExtT (K : PySem.W.Frag) : V → List V → Hp → VK → Prop := fun x vs H Q => ∃ l b xs zs, x = .ref l ∧ vs = [.ref b] ∧ H l = some (.lst xs) ∧ SqT K H b zs ∧ xs.length + zs.length ≤ sizeLine ∧ Q .non (upd H l (.lst (xs ++ zs)))
section
variable {X : Cx}
theorem mt_extT : MtR X "list.extend" (rExtT X.K) := by
  intro pins s σ H x vs v us Q I rx rv h
  obtain ⟨l, b, xs, zs, rfl, rfl, hH, hB, hz, q⟩ := h
  cases rx
  obtain ⟨u, rfl, ru⟩ := rv.one
  cases ru
  obtain ⟨z, its, n, r, hl, e⟩ := I.lstM hH
  obtain ⟨its2, r2, ⟨⟨c2, d2, data2, sl2⟩, e2, hc2, n2, hd2⟩, _⟩ := I.tuple hB
  dsimp only at hc2 hd2
  subst hc2 hd2
  have hl2 := r2.length
  have hsz : its.toArray.size + its2.toArray.size ≤ sizeLine := by rw [List.size_toArray, List.size_toArray]; omega
  have hlong : ¬ (!its.toArray.isEmpty && Builtin.List.listTooLong (its.toArray.size + its2.toArray.size)) = true := by
    rw [notLongL hsz, Bool.and_false]
    exact Bool.false_ne_true
  refine call_meets F.slot_list_extend ⟨_, e, rfl⟩ F.entry_list_extend (F.args_list_extend_2 _ _)
    (list_extend_tup l its.toArray n b d2 its2.toArray n2 sl2 hlong (by rw [List.size_toArray]; omega) (by omega)) ⟨e, e2, ?_⟩
  refine ⟨.non, _, I.lset (its' := its ++ its2) hH e (by simp) (r.append r2) ?_, rfl, q⟩
  rw [List.length_append]
  omega
end

/-! ### methods of lists -/
@[simp] def chkL (x : W) : M Unit := fun st => match listOf x st with
  | some _ => some ((), st)
  | none => none
@[simp] def eMeth (f : W → List W → M W) (o : EM) (a : AM) : EM := fun env => bnd (o env) fun x => bnd (chkL x) fun _ => bnd (a env) fun xs => f x xs
@[simp] def mApp : W → List W → M W := fun x xs st => match x, xs with
  | .ref i, [y] => match st[i]? with
    | some (.lst ys) => if sml (ys.length + 1) = true then some (.non, st.set i (.lst (ys ++ [y]))) else none
    | _ => none
  | _, _ => none
@[simp] def mPop : W → List W → M W := fun x xs st => match x, xs with
  | .ref i, [] => match st[i]? with
    | some (.lst ys) => match ys[ys.length - 1]? with
      | some y => some (y, st.set i (.lst ys.dropLast))
      | none => none
    | _ => none
  | _, _ => none
@[simp] def mPopAt : W → List W → M W := fun x xs st => match x, xs with
  | .ref i, [.int k] => match st[i]? with
    | some (.lst ys) => match seqIndex? k ys.length with
      | some j => match ys[j]? with
        | some y => if decide (-(2 ^ 63) ≤ k ∧ k < 2 ^ 63) = true then some (y, st.set i (.lst (ys.eraseIdx j))) else none
        | none => none
      | none => none
    | _ => none
  | _, _ => none
@[simp] def mExt : W → List W → M W := fun x xs st => match x, xs with
  | .ref i, [.ref j] => match st[i]?, st[j]? with
    | some (.lst ys), some (.lst zs) => if sml (ys.length + zs.length) = true then some (.non, st.set i (.lst (ys ++ zs))) else none
    | _, _ => none
  | .ref i, [.tup zs] => match st[i]? with
    | some (.lst ys) => if sml (ys.length + zs.length) = true then some (.non, st.set i (.lst (ys ++ zs))) else none
    | _ => none
  | _, _ => none
def RefM (K : PySem.W.Frag) (f : W → List W → M W) (r : V → List V → Hp → VK → Prop) : Prop := ∀ (β : List Addr) (H : Hp) (st st' : Sto) (x : W) (xs : List W) (w : W) (vx : V) (vs : List V) (Q : VK), RS K β H st → RW K β H x vx → RWs K β H xs vs → f x xs st = some (w, st') →
  (∀ v H' β', Ext β H β' H' → RS K β' H' st' → RW K β' H' w v → Q v H') → r vx vs H Q
section
variable {K : PySem.W.Frag}
theorem chg_lst {β : List Addr} {H : Hp} {st : Sto} (hS : RS K β H st) {i : Nat} {a : Addr} {ys zs : List W} {vs us : List V} (ha : β[i]? = some a) (hi : st[i]? = some (.lst ys)) (e : H a = some (.lst vs)) (r : RWs K β H zs us) :
    Ext β H β (upd H a (.lst us)) ∧ RS K β (upd H a (.lst us)) (st.set i (.lst zs)) := by
  have ec : Ext β H β (upd H a (.lst us)) := Ext.chg e (fun _ z => (nomatch z)) (fun _ _ z => (nomatch z))
  exact hS.chg hi ha (u := .lst us) (o' := .lst zs) ⟨_, upd_same, r.ext ec⟩
theorem ref_mApp : RefM K mApp rAppend := by
  intro β H st st' x xs w vx vs Q hS rx r hm k
  unfold mApp at hm
  split at hm
  · rename_i i y
    split at hm
    · rename_i ys hi
      split at hm
      · rename_i hz
        cases hm
        cases rx with
        | @ref i a hb =>
          obtain ⟨v, rfl, ry⟩ := rws1 r
          obtain ⟨us, e, ru⟩ := rs_lst hS hb hi
          have hl := ru.length
          have hz := sml_line hz
          obtain ⟨ec, sc⟩ := chg_lst hS hb hi e (ru.snoc ry)
          exact ⟨a, us, v, rfl, rfl, e, by omega, k _ _ β ec sc .non⟩
      · cases hm
    · cases hm
  · cases hm
theorem ref_mPop : RefM K mPop rPop := by
  intro β H st st' x xs w vx vs Q hS rx r hm k
  unfold mPop at hm
  split at hm
  · rename_i i
    split at hm
    · rename_i ys hi
      split at hm
      · rename_i y hy
        cases hm
        cases rx with
        | @ref i a hb =>
          cases r
          obtain ⟨us, e, ru⟩ := rs_lst hS hb hi
          have hl := ru.length
          obtain ⟨v, hv, rv⟩ := ru.get hy
          obtain ⟨ec, sc⟩ := chg_lst hS hb hi e ru.dropLast
          exact ⟨a, us, v, rfl, rfl, e, by rw [← hl]; exact hv, k _ _ β ec sc (rv.ext' ec)⟩
      · cases hm
    · cases hm
  · cases hm
theorem ref_mPopAt : RefM K mPopAt rPopAt := by
  intro β H st st' x xs w vx vs Q hS rx r hm k
  unfold mPopAt at hm
  split at hm
  · rename_i i kk
    split at hm
    · rename_i ys hi
      split at hm
      · rename_i j hj
        split at hm
        · rename_i y hy
          split at hm
          · rename_i hc
            cases hm
            have hc := of_decide_eq_true hc
            cases rx with
            | @ref i a hb =>
              obtain ⟨z, rfl, rz⟩ := rws1 r
              obtain ⟨us, e, ru⟩ := rs_lst hS hb hi
              have hl := ru.length
              obtain ⟨v, hv, rv⟩ := ru.get hy
              obtain ⟨ec, sc⟩ := chg_lst hS hb hi e (ru.eraseIdx j)
              exact ⟨a, us, kk, j, v, rfl, by rw [rz.int_inv], e, hc.1, hc.2, by rw [← hl]; exact hj, hv, k _ _ β ec sc (rv.ext' ec)⟩
          · cases hm
        · cases hm
      · cases hm
    · cases hm
  · cases hm
theorem ref_mExt : RefM K mExt (fun x vs H Q => rExtend x vs H Q ∨ rExtT K x vs H Q) := by
  intro β H st st' x xs w vx vs Q hS rx r hm k
  unfold mExt at hm
  split at hm
  · rename_i i j
    split at hm
    · rename_i ys zs hi hj
      split at hm
      · rename_i hz
        cases hm
        cases rx with
        | @ref i a hb =>
          obtain ⟨v, rfl, ry⟩ := rws1 r
          cases ry with
          | @ref j b hb2 =>
            obtain ⟨us, e, ru⟩ := rs_lst hS hb hi
            obtain ⟨ts, e2, rt⟩ := rs_lst hS hb2 hj
            have hl := ru.length
            have hl2 := rt.length
            have hz := sml_line hz
            obtain ⟨ec, sc⟩ := chg_lst hS hb hi e (ru.append rt)
            exact .inl ⟨a, b, us, ts, rfl, rfl, e, e2, by omega, k _ _ β ec sc .non⟩
      · cases hm
    · cases hm
  · rename_i i zs
    split at hm
    · rename_i ys hi
      split at hm
      · rename_i hz
        cases hm
        cases rx with
        | @ref i a hb =>
          obtain ⟨v, rfl, ry⟩ := rws1 r
          cases ry with
          | @tup b _ ts hq rt =>
            obtain ⟨us, e, ru⟩ := rs_lst hS hb hi
            have hl := ru.length
            have hl2 := rt.length
            have hz := sml_line hz
            obtain ⟨ec, sc⟩ := chg_lst hS hb hi e (ru.append rt)
            exact .inr ⟨a, b, us, ts, rfl, rfl, e, hq.sq, by omega, k _ _ β ec sc .non⟩
      · cases hm
    · cases hm
  · cases hm
end
section
variable {X : Cx}
theorem chkL_ok {β : List Addr} {H : Hp} {st st' : Sto} {x : W} {v : V} {u : Unit} (hS : RS X.K β H st) (r : RW X.K β H x v) (h : chkL x st = some (u, st')) : st' = st ∧ tyV X.K "list" v H := by
  unfold chkL at h
  split at h
  · rename_i xs e
    cases h
    obtain ⟨p, vs, rfl, hq, _⟩ := list_ok hS r e
    exact ⟨rfl, .inl ⟨rfl, _, hq⟩⟩
  · cases h
theorem se_meth {o e : Expr} {es : List Expr} {name : Str} {apos cpos : Pos} {id : String} {f : W → List W → M W} {r : V → List V → Hp → VK → Prop} {mo : EM} {ma : AM} (slot : Slot "list" name id) (hty : typeOf (.builtin id) = pure (.type "method_descriptor")) (hm : MtR X id r) (hf : RefM X.K f r) (ho : SE X o mo) (ha : SA X (e :: es) ma)
    (hbase : attributeBase o name X.env (eval o X.env) = eval o X.env := by rfl)
    (hfew : ((backTo cpos (starEach (e :: es) X.env)).all (fun x => !x.1) && (backToKw cpos (keywordEach [] X.env)).all (fun x => x.1.isSome)
      && decide ((e :: es).length + ([] : List Keyword).length + (if ([] : List Keyword).isEmpty then 0 else 1) < 30)) = true := by rfl)
    (hline : (apos.endLine == cpos.line) = true := by rfl) (hs : starEach (e :: es) X.env = (false, eval e X.env) :: starEach es X.env := by rfl) (hplain : (backTo cpos (starEach es X.env)).any (·.1) = false := by rfl) :
    SE X (.Call (.Attribute o name apos) (e :: es) [] cpos) (eMeth f mo ma) := by
  refine ⟨PEimp (pe_bm PySem.F.plainAttrs_list slot hty hm ho.pe ha.pa hbase hfew hline hs hplain) ?_⟩
  rintro σ H Q ⟨β, st, env, w, st', hE, hS, hm, k⟩
  obtain ⟨x, st1, h1, h2⟩ := bnd_some hm
  obtain ⟨_, st2, h3, h4⟩ := bnd_some h2
  obtain ⟨xs, st3, h5, h6⟩ := bnd_some h4
  refine ⟨β, st, env, x, st1, hE, hS, h1, fun v H1 β1 e1 s1 r1 => ?_⟩
  obtain ⟨rfl, ty⟩ := chkL_ok s1 r1 h3
  refine ⟨ty, β1, _, env, xs, st3, hE.ext e1, s1, h5, fun vs H2 β2 e2 s2 r2 => ?_⟩
  exact hf β2 H2 st3 st' x xs w v vs Q s2 (r1.ext' e2) r2 h6 fun z H3 β3 e3 s3 r3 => k z H3 β3 ((e1.trans e2).trans e3) s3 r3
theorem se_meth0 {o : Expr} {name : Str} {apos cpos : Pos} {id : String} {f : W → List W → M W} {r : V → List V → Hp → VK → Prop} {mo : EM} (slot : Slot "list" name id) (hty : typeOf (.builtin id) = pure (.type "method_descriptor")) (hm : MtR X id r) (hf : RefM X.K f r) (ho : SE X o mo)
    (hbase : attributeBase o name X.env (eval o X.env) = eval o X.env := by rfl) (hline : (apos.endLine == cpos.line) = true := by rfl) : SE X (.Call (.Attribute o name apos) [] [] cpos) (eMeth f mo aNil) := by
  refine ⟨PEimp (pe_bm0 PySem.F.plainAttrs_list slot hty hm ho.pe hbase hline) ?_⟩
  rintro σ H Q ⟨β, st, env, w, st', hE, hS, hm, k⟩
  obtain ⟨x, st1, h1, h2⟩ := bnd_some hm
  obtain ⟨_, st2, h3, h4⟩ := bnd_some h2
  obtain ⟨xs, st3, h5, h6⟩ := bnd_some h4
  cases h5
  refine ⟨β, st, env, x, st1, hE, hS, h1, fun v H1 β1 e1 s1 r1 => ?_⟩
  obtain ⟨rfl, ty⟩ := chkL_ok s1 r1 h3
  exact ⟨ty, hf β1 H1 _ st' x [] w v [] Q s1 r1 .nil h6 fun z H3 β3 e3 s3 r3 => k z H3 β3 (e1.trans e3) s3 r3⟩
theorem se_append {o e : Expr} {apos cpos : Pos} {mo me : EM} (ho : SE X o mo) (he : SE X e me)
    (hbase : attributeBase o "append" X.env (eval o X.env) = eval o X.env := by rfl)
    (hfew : ((backTo cpos (starEach [e] X.env)).all (fun x => !x.1) && (backToKw cpos (keywordEach [] X.env)).all (fun x => x.1.isSome)
      && decide ([e].length + ([] : List Keyword).length + (if ([] : List Keyword).isEmpty then 0 else 1) < 30)) = true := by rfl)
    (hline : (apos.endLine == cpos.line) = true := by rfl) (hs : starEach [e] X.env = (false, eval e X.env) :: starEach [] X.env := by rfl) :
    SE X (.Call (.Attribute o "append" apos) [e] [] cpos) (eMeth mApp mo (aCons me aNil)) :=
  se_meth PySem.F.slot_list_append PySem.F.type_list_append mt_append ref_mApp ho (sa_cons he sa_nil hs) hbase hfew hline hs rfl
theorem se_extend {o e : Expr} {apos cpos : Pos} {mo me : EM} (ho : SE X o mo) (he : SE X e me)
    (hbase : attributeBase o "extend" X.env (eval o X.env) = eval o X.env := by rfl)
    (hfew : ((backTo cpos (starEach [e] X.env)).all (fun x => !x.1) && (backToKw cpos (keywordEach [] X.env)).all (fun x => x.1.isSome)
      && decide ([e].length + ([] : List Keyword).length + (if ([] : List Keyword).isEmpty then 0 else 1) < 30)) = true := by rfl)
    (hline : (apos.endLine == cpos.line) = true := by rfl) (hs : starEach [e] X.env = (false, eval e X.env) :: starEach [] X.env := by rfl) :
    SE X (.Call (.Attribute o "extend" apos) [e] [] cpos) (eMeth mExt mo (aCons me aNil)) :=
  se_meth PySem.F.slot_list_extend PySem.F.type_list_extend (MtR.or mt_extend mt_extT) ref_mExt ho (sa_cons he sa_nil hs) hbase hfew hline hs rfl
theorem se_pop {o : Expr} {apos cpos : Pos} {mo : EM} (ho : SE X o mo)
    (hbase : attributeBase o "pop" X.env (eval o X.env) = eval o X.env := by rfl) (hline : (apos.endLine == cpos.line) = true := by rfl) :
    SE X (.Call (.Attribute o "pop" apos) [] [] cpos) (eMeth mPop mo aNil) :=
  se_meth0 PySem.F.slot_list_pop PySem.F.type_list_pop mt_pop ref_mPop ho hbase hline
theorem se_popAt {o e : Expr} {apos cpos : Pos} {mo me : EM} (ho : SE X o mo) (he : SE X e me)
    (hbase : attributeBase o "pop" X.env (eval o X.env) = eval o X.env := by rfl)
    (hfew : ((backTo cpos (starEach [e] X.env)).all (fun x => !x.1) && (backToKw cpos (keywordEach [] X.env)).all (fun x => x.1.isSome)
      && decide ([e].length + ([] : List Keyword).length + (if ([] : List Keyword).isEmpty then 0 else 1) < 30)) = true := by rfl)
    (hline : (apos.endLine == cpos.line) = true := by rfl) (hs : starEach [e] X.env = (false, eval e X.env) :: starEach [] X.env := by rfl) :
    SE X (.Call (.Attribute o "pop" apos) [e] [] cpos) (eMeth mPopAt mo (aCons me aNil)) :=
  se_meth PySem.F.slot_list_pop PySem.F.type_list_pop mt_popAt ref_mPopAt ho (sa_cons he sa_nil hs) hbase hfew hline hs rfl
end

/-! ### xs[i] = e -/
@[simp] def sSetIx (o i e : EM) : SM := fun env => bnd (e env) fun y => bnd (o env) fun x => bnd (i env) fun j => fun st => match x, j with
  | .ref k, .int n => match st[k]? with
    | some (.lst ys) => match ixN ys.length n with
      | some q => some ((.nx, env), st.set k (.lst (ys.set q y)))
      | none => none
    | _ => none
  | _, _ => none
theorem ss_setIx {X : Cx} {o i e : Expr} {pos pos' : Pos} {mo mi me : EM} (ho : SE X o mo) (hi : SE X i mi) (he : SE X e me)
    (ha : ∀ v, assign (.Subscript o i pos') X.env v = (do
      let ov ← holding [v] (eval o X.env)
      let iv ← holding [v, ov] (eval i X.env)
      standAt pos'
      holding [v, ov, iv] (setItem ov iv v)
      release [v, ov, iv] []) := by intro _; rfl) (hs : swapsWithSole [.Subscript o i pos'] e pos.line X.env = pure false := by rfl) (hw : swappedStores [.Subscript o i pos'] e X.env = pure none := by rfl)
    (h1 : (assignEach [.Subscript o i pos'] X.env).map (·.2) = [assign (.Subscript o i pos') X.env] := by rfl) : SS X (.Assign [.Subscript o i pos'] e pos) (sSetIx mo mi me) := by
  refine ⟨PSimp (ps_asg he.pe (pg_sub ho.pe hi.pe set_list ha) hs hw h1) ?_⟩
  rintro D σ H ⟨β, st, env, fl, env', st', hE, hS, hm, k⟩
  obtain ⟨y, st1, h1, h2⟩ := bnd_some hm
  obtain ⟨x, st2, h3, h4⟩ := bnd_some h2
  obtain ⟨j, st3, h5, h6⟩ := bnd_some h4
  refine ⟨β, st, env, y, st1, hE, hS, h1, fun vy H1 β1 e1 s1 r1 => ⟨β1, st1, env, x, st2, hE.ext e1, s1, h3, fun vx H2 β2 e2 s2 r2 => ⟨β2, st2, env, j, st3, (hE.ext e1).ext e2, s2, h5, fun vj H3 β3 e3 s3 r3 => ?_⟩⟩⟩
  split at h6
  · rename_i kk n
    split at h6
    · rename_i ys hk
      split at h6
      · rename_i q hq
        cases h6
        have rx := r2.ext' e3
        cases rx with
        | @ref kk a hb =>
          obtain ⟨us, e, ru⟩ := rs_lst s3 hb hk
          have hl := ru.length
          obtain ⟨ec, sc⟩ := chg_lst s3 hb hk e (ru.set ((r1.ext' e2).ext' e3) q)
          exact ⟨a, us, n, q, rfl, r3.int_inv, e, by rw [← hl]; exact hq, k _ _ β3 (((e1.trans e2).trans e3).trans ec) sc ((((hE.ext e1).ext e2).ext e3).ext ec)⟩
      · cases h6
    · cases h6
  · cases h6

/-! ### (*xs, y) -/
def tStar (K : PySem.W.Frag) (te : TE) (t : TA) : TA := fun σ H Q => te σ H fun x H1 => ∃ a xs, x = .ref a ∧ (SqL K H1 a xs ∨ SqT K H1 a xs) ∧ t σ H1 fun ys H2 => Q (xs ++ ys) H2
theorem star_any {X : Cx} {pins : List (Addr × Obj)} {s : Shared} {σ : L2.St} {H : Hp} {a : Addr} {xs : List V} {Q : List Value → Shared → Prop} {E : Value → Shared → Prop} (I : Inv X pins σ H s) (hq : SqL X.K H a xs ∨ SqT X.K H a xs)
    (h : ∀ h' us, Vals xs us → Inv X pins σ H { s with heap := h' } → Q us { s with heap := h' }) : PySem.W.StarOf (model X.prog X.w) X.A E (.ref a) Q s := by
  rcases hq with hq | hq
  · obtain ⟨its, r, ⟨o, n, ho, hc, hd', hs⟩, hz⟩ := I.list hq
    have hl := r.length
    have hT : s.TypeIs (.ref a) "list" := ⟨o, ho, hc⟩
    have z : wpAny (model X.prog X.w) X.A (collect (.ref a)) Q E s := by
      refine wpAny_collect_seq a (.inl rfl) ho hc hs (fun h' hk => ?_) (by rw [List.size_toArray]; omega)
      exact h h' _ (by simpa using r) (I.kept (t' := s.toks) hk)
    unfold PySem.W.StarOf notIterableAtAll
    exact wpAny_bind (wpAny_specialOf hT PySem.F.slot_list_iter.lookup (wpAny_pure ⟨rfl, z⟩))
  · obtain ⟨its, r, ⟨o, ho, hc, n, hs⟩, hz⟩ := I.tuple hq
    have hl := r.length
    have hT : s.TypeIs (.ref a) "tuple" := ⟨o, ho, hc⟩
    have z : wpAny (model X.prog X.w) X.A (collect (.ref a)) Q E s := by
      refine wpAny_collect_seq a (.inr rfl) ho hc hs (fun h' hk => ?_) (by rw [List.size_toArray]; omega)
      exact h h' _ (by simpa using r) (I.kept (t' := s.toks) hk)
    unfold PySem.W.StarOf notIterableAtAll
    exact wpAny_bind (wpAny_specialOf hT PySem.F.slot_tuple_iter.lookup (wpAny_pure ⟨rfl, z⟩))
theorem pa_star {X : Cx} {e : Expr} {es : List Expr} {p : Pos} {te : TE} {t : TA} (he : PE X e te) (hr : PA X es t) (hs : starEach (.Starred e p :: es) X.env = (true, eval e X.env) :: starEach es X.env := by rfl) : PA X (.Starred e p :: es) (tStar X.K te t) := by
  refine ⟨fun pos pins s σ H Q I h => ?_⟩
  refine PySem.W.items_star (thn (he.run pins s σ H _ I h) fun v s1 ⟨x, H1, I1, r1, q1⟩ => ?_) hs
  obtain ⟨a, xs, ex, hq, q⟩ := q1
  subst ex
  cases r1
  refine star_any I1 hq fun h' us ru I2 => ?_
  exact thn (hr.run pos pins _ σ H1 _ I2 q) fun vs s2 ⟨ys, H2, I3, r2, q2⟩ => ⟨xs ++ ys, H2, I3, ru.append r2, q2⟩
@[simp] def aStar (a : EM) (r : AM) : AM := fun env => bnd (a env) fun x => bnd (fun st => match itemsOf x st with
  | some xs => some (xs, st)
  | none => none) fun xs => bnd (r env) fun ys => ret (xs ++ ys)
structure SA' (X : Cx) (es : List Expr) (m : AM) : Prop where
  pa : PA X es (tMA X.K m)
theorem sa_star {X : Cx} {e : Expr} {es : List Expr} {p : Pos} {m : EM} {r : AM} (ha : SE X e m) (hr : PA X es (tMA X.K r)) (hs : starEach (.Starred e p :: es) X.env = (true, eval e X.env) :: starEach es X.env := by rfl) : SA' X (.Starred e p :: es) (aStar m r) := by
  refine ⟨PAimp (pa_star ha.pe hr hs) ?_⟩
  rintro σ H Q ⟨β, st, env, ws, st', hE, hS, hm, k⟩
  obtain ⟨x, st1, h1, h2⟩ := bnd_some hm
  obtain ⟨xs, st2, h3, h4⟩ := bnd_some h2
  obtain ⟨ys, st3, h5, h6⟩ := bnd_some h4
  cases h6
  refine ⟨β, st, env, x, st1, hE, hS, h1, fun v H1 β1 e1 s1 r1 => ?_⟩
  split at h3
  · rename_i zs hz
    cases h3
    obtain ⟨p, vs, rfl, hq, rv⟩ := items_ok s1 r1 hz
    exact ⟨p, vs, rfl, hq, β1, _, env, ys, st', hE.ext e1, s1, h5, fun us H2 β2 e2 s2 r2 => k _ H2 β2 (e1.trans e2) s2 ((rv.ext e2).append r2)⟩
  · cases h3
theorem se_tup' {X : Cx} {es : List Expr} {x1 pos} {m : AM} (h : PA X es (tMA X.K m)) : SE X (.Tuple es x1 pos) (eTup m) := by
  refine ⟨PEimp (pe_tup h) ?_⟩
  rintro σ H Q ⟨β, st, env, w, st', hE, hS, hm, k⟩
  obtain ⟨xs, st1, h1, h2⟩ := bnd_some hm
  unfold mkTup at h2
  split at h2
  · rename_i hz
    cases h2
    refine ⟨β, st, env, xs, st', hE, hS, h1, fun vs H1 β1 e1 s1 r1 => ?_⟩
    have hl := r1.length
    refine ⟨by rw [← hl]; exact Nat.le_of_lt (sml_line hz), fun p hp => ?_⟩
    exact k _ _ β1 (e1.trans (Ext.new hp)) (s1.new hp) (.tup (.inl upd_same) (r1.ext (Ext.new hp)))
  · cases h2
theorem se_lst' {X : Cx} {es : List Expr} {pos} {m : AM} (h : PA X es (tMA X.K m)) : SE X (.List es pos) (eLst m) := by
  refine ⟨PEimp (pe_lst h) ?_⟩
  rintro σ H Q ⟨β, st, env, w, st', hE, hS, hm, k⟩
  obtain ⟨xs, st1, h1, h2⟩ := bnd_some hm
  exact ⟨β, st, env, xs, st1, hE, hS, h1, fun vs H1 β1 e1 s1 r1 => ref_mkLst (σ := σ) h2 s1 r1 fun v H2 β2 e2 s2 r2 => k v H2 β2 (e1.trans e2) s2 r2⟩
end B

set_option Elab.async false
set_option linter.all false
set_option maxRecDepth 100000
set_option maxHeartbeats 1000000
namespace B
open PySem PySem.Spec L2
set_option autoImplicit false

/-! ### head, *rest = a tuple -/
section
variable {prog : Program} {w : World} {A : Around} {E : Value → Shared → Prop} {s : Shared}
theorem star_unpack {l : Addr} {items : Array Value} {n i : Nat} {first mids lasts : List Value} {Q : List Value → Shared → Prop} (hl : PyProof.Rows.IsTup s.heap l items) (hh : A.handled = none) (hi : i < n) (hn : n ≤ items.size + 1) (hz : items.size ≤ 16384)
    (h1 : items.toList.take i = first) (h2 : (items.toList.drop i).take (items.size + 1 - n) = mids) (h3 : (items.toList.drop i).drop (items.size + 1 - n) = lasts)
    (h : ∀ (h' : Heap) (tk : Nat), (∀ b o, s.heap.get? b = some o → h'.get? b = some o) → Q (first ++ [.ref h'.objs.size] ++ lasts) { s with heap := h'.push { cls := .type "list", data := .seq mids.toArray }, toks := tk }) :
    wpAny (model prog w) A (unpackItems (.ref l) n (some i)) Q E s := by
  subst h1 h2 h3
  have hlt : l ≠ s.heap.objs.size := by obtain ⟨o, ho, _⟩ := hl; exact Nat.ne_of_lt (Heap.lt_size ho)
  unfold unpackItems
  refine wpAny_bind ?_
  unfold notIterableAtAll
  refine wpAny_bind (wpAny_specialOf hl.typeIs F.slot_tuple_iter.lookup ?_)
  refine wpAny_pure ?_
  simp only [Bool.false_eq_true, if_false]
  refine wpAny_bind (wpAny_holding (PyProof.Rows.iter_tuple hl ?_))
  refine wpAny_bind (wpAny_holding (PyProof.Rows.draw_tuple hlt i 0 _ _ ⟨_, Heap.get?_push_size _ rfl, rfl, rfl⟩ (hl.push _) (by omega) fun h₁ hit₁ hs₁ => ?_))
  have hl₁ : PyProof.Rows.IsTup h₁ l items := (hl.push _).extBut hs₁.extBut hlt
  rw [Nat.zero_add] at hit₁
  have hit₁' := hit₁
  obtain ⟨oi, hoi, _⟩ := hit₁'
  have hl₁' := hl₁
  obtain ⟨ol, hol, _⟩ := hl₁'
  rw [List.drop_zero]
  have hfl : (items.toList.take i).length = i := by rw [List.length_take, Array.length_toList]; omega
  rw [if_neg (show ¬ ((items.toList.take i).length < i) by rw [hfl]; omega)]
  refine wpAny_bind (wpAny_holding (PySem.W.kun_collect (s := { s with heap := h₁ }) (T := "tuple_iterator") (.inr (.inr (.inr rfl))) (Walks.tuple (A := A.in1) hh s.heap.objs.size l hlt items) (fun j u st => st.1.typeIs) (k := i) (by omega) ⟨hit₁, hl₁⟩ (Heap.lt_size hoi) (Heap.lt_size hol) (fun h₂ tk hk => ?_) (by rw [sizeLine_eq]; omega)))
  have hrl : (items.toList.drop i).length = items.size - i := by rw [List.length_drop, Array.length_toList]
  have hmid : (items.toList.drop i).length - (n - 1 - i) = items.size + 1 - n := by rw [hrl]; omega
  show wpAny _ _ (if (items.toList.drop i).length < n - 1 - i then _ else _) _ _ _
  rw [if_neg (by rw [hrl]; omega)]
  show wpAny _ _ (newList ((items.toList.drop i).take ((items.toList.drop i).length - (n - 1 - i))) >>= fun d => pure (items.toList.take i ++ [d] ++ (items.toList.drop i).drop ((items.toList.drop i).length - (n - 1 - i)))) _ _ _
  rw [hmid]
  have he : ∀ b o, s.heap.get? b = some o → h₂.get? b = some o := fun b o e => by
    have hb : b ≠ s.heap.objs.size := Nat.ne_of_lt (Heap.lt_size e)
    exact hk b o hb (hs₁.extBut b o hb (Heap.get?_push_of_some _ e))
  exact wpAny_bind (wpAny_newList (s := { s with heap := h₂, toks := tk }) (wpAny_pure (h h₂ tk he)))
end
/-- head, *rest: the first item, a new list of the others -/
def gStar1 (K : PySem.W.Frag) (i j : Nat) : TG := fun v σ H Q => ∃ a x xs, v = .ref a ∧ SqT K H a (x :: xs) ∧ xs.length ≤ 16000 ∧ ∀ D, H D = none → Q ((σ.set i (some x)).set j (some (.ref D))) (upd H D (.lst xs))
section
variable {X : Cx}
theorem pg_star1 {i j k : Nat} {x y : Str} {p1 p2 p3 pos : Pos} (hc : X.calm = true) (h1 : PG X (.Name x p1) (gName i)) (h2 : PG X (.Name y p2) (gName j))
    (hn : (assignEach [.Name x p1, .Starred (.Name y p2) p3] X.env).length = 2 := by rfl) (hst : (assignEach [.Name x p1, .Starred (.Name y p2) p3] X.env).findIdx? (·.1) = some 1 := by rfl)
    (hm : (assignEach [.Name x p1, .Starred (.Name y p2) p3] X.env).map (·.2) = [assign (.Name x p1) X.env, assign (.Name y p2) X.env] := by rfl) : PG X (.Tuple [.Name x p1, .Starred (.Name y p2) p3] k pos) (gStar1 X.K i j) := by
  refine ⟨fun pins s σ H v u Q I r hw => ?_⟩
  obtain ⟨a, v0, vs, e1, hq, hz16, hw⟩ := hw
  subst e1
  cases r
  obtain ⟨its, rv, ht, hz⟩ := I.tuple hq
  cases rv with
  | @cons _ u0 _ us r0 rt =>
    rw [PyProof.Rows.assign_Tuple]
    refine wpAny_bind (wpAny_standAt ?_)
    unfold unpack
    rw [hn, hst, hm]
    have hl := rt.length
    refine wpAny_bind (wpAny_holding (star_unpack (i := 1) (n := 2) ht (I.ok.hd hc) (by omega) (by simp) (by simp; omega) (first := [u0]) (mids := us) (lasts := []) (by simp) (by simp) (by simp) fun h' tk hk => ?_))
    have I1 : Inv X pins σ H { s with heap := h', toks := tk } := I.kept hk
    have I2 := I1.lnew (t' := tk) rt (by rw [List.length_cons] at hz; omega)
    refine PyProof.Rows.assignInOrder_cons (thn (h1.run pins _ σ _ v0 u0 (fun σ' H' => σ' = σ.set i (some v0) ∧ H' = upd H h'.objs.size (.lst vs)) I2 r0 ⟨rfl, rfl⟩) fun _ s2 ⟨σ2, H2, I3, e1, e2⟩ => ?_)
    subst e1 e2
    refine PyProof.Rows.assignInOrder_cons (thn (h2.run pins s2 _ _ (.ref h'.objs.size) (.ref h'.objs.size) Q I3 rfl (hw _ I1.fresh)) fun _ s3 q => PyProof.Rows.assignInOrder_nil q)
end

@[simp] def sStar (i j : Nat) (e : EM) : SM := fun env => bnd (e env) fun w st => match w with
  | .tup (x :: xs) => if Nat.ble xs.length 16000 = true then some ((.nx, (env.set i (some x)).set j (some (.ref st.length))), st ++ [.lst xs]) else none
  | _ => none
theorem ss_star {X : Cx} {i j k : Nat} {x y : Str} {e : Expr} {m : EM} {p1 p2 p3 pos' pos : Pos} (hN : X.N.Nodup) (hc : X.calm = true) (he : SE X e m) (hi : X.N[i]? = some x := by rfl) (hx : Loc X.env.scope x := by first | exact Or.inl rfl | exact Or.inr rfl)
    (hf : X.fn x = true ∨ X.env.scope.names.lookup x = some .local := by first | exact .inl rfl | exact .inr rfl) (hj : X.N[j]? = some y := by rfl) (hy : Loc X.env.scope y := by first | exact Or.inl rfl | exact Or.inr rfl)
    (hg : X.fn y = true ∨ X.env.scope.names.lookup y = some .local := by first | exact .inl rfl | exact .inr rfl)
    (hn : (assignEach [.Name x p1, .Starred (.Name y p2) p3] X.env).length = 2 := by rfl) (hst : (assignEach [.Name x p1, .Starred (.Name y p2) p3] X.env).findIdx? (·.1) = some 1 := by rfl)
    (hm : (assignEach [.Name x p1, .Starred (.Name y p2) p3] X.env).map (·.2) = [assign (.Name x p1) X.env, assign (.Name y p2) X.env] := by rfl)
    (hs : swapsWithSole [.Tuple [.Name x p1, .Starred (.Name y p2) p3] k pos'] e pos.line X.env = pure false := by rfl) (hw : swappedStores [.Tuple [.Name x p1, .Starred (.Name y p2) p3] k pos'] e X.env = pure none := by rfl)
    (h1 : (assignEach [.Tuple [.Name x p1, .Starred (.Name y p2) p3] k pos'] X.env).map (·.2) = [assign (.Tuple [.Name x p1, .Starred (.Name y p2) p3] k pos') X.env] := by rfl) : SS X (.Assign [.Tuple [.Name x p1, .Starred (.Name y p2) p3] k pos'] e pos) (sStar i j m) := by
  refine ⟨PSimp (ps_asg he.pe (pg_star1 hc (pg_name hN hi hx hf) (pg_name hN hj hy hg) hn hst hm) hs hw h1) ?_⟩
  rintro D σ H ⟨β, st, env, fl, env', st', hE, hS, hm, k⟩
  obtain ⟨w, st1, h1, h2⟩ := bnd_some hm
  refine ⟨β, st, env, w, st1, hE, hS, h1, fun v H1 β1 e1 s1 r1 => ?_⟩
  split at h2
  · rename_i x xs
    split at h2
    · rename_i hz
      cases h2
      cases r1 with
      | @tup a _ vs hq r =>
        cases r with
        | @cons _ v0 _ us r0 rt =>
          refine ⟨a, v0, us, rfl, hq.sq, by rw [← rt.length]; exact Nat.le_of_ble_eq_true hz, fun D hD => ?_⟩
          have ea : Ext β1 H1 (β1 ++ [D]) (upd H1 D (.lst us)) := Ext.alloc hD
          exact k _ _ _ (e1.trans ea) (s1.alloc hD ⟨us, upd_same, rt.ext ea⟩) ((((hE.ext e1).ext ea).set (r0.ext' ea) i).set (.ref (alloc_ix s1)) j)
    · cases h2
  · cases h2

/-! ### del xs[a:] -/
theorem filt_take {α : Type} (sel : Nat → Bool) (a n : Nat) (hs : ∀ k, sel k = (decide (a ≤ k) && decide (k < n))) : ∀ (xs : List α) (i : Nat), i + xs.length = n →
    (xs.zipIdx i).filterMap (fun p => if sel p.2 = true then none else some p.1) = xs.take (a - i)
  | [], i, _ => by simp
  | x :: xs, i, h => by
    have h' : i + 1 + xs.length = n := by rw [List.length_cons] at h; omega
    rw [List.zipIdx_cons, List.filterMap_cons]
    have ih := filt_take sel a n hs xs (i + 1) h'
    dsimp only
    rw [hs i, ih]
    by_cases c : a ≤ i
    · rw [decide_eq_true c, decide_eq_true (show i < n by omega)]
      have e1 : a - i = 0 := by omega
      have e2 : a - (i + 1) = 0 := by omega
      simp [e1, e2]
    · rw [decide_eq_false c]
      have e1 : a - i = (a - (i + 1)) + 1 := by omega
      rw [e1, List.take_succ_cons]
      simp
section
variable {prog : Program} {w : World} {A : Around} {E : Value → Shared → Prop} {s : Shared}
theorem delItem_cut {l sl : Addr} {items : Array Value} {n : Nat} {vl : Value} {a : Nat} {Q : Unit → Shared → Prop}
    (e : s.heap.get? l = some { cls := .type "list", data := .seq items n })
    (hs : s.heap.IsSliceOf sl vl .none .none) (pl : IsPart vl (some (a : Int))) (ha : a ≤ items.size) (hsz : items.size ≤ sizeLine)
    (h : ∀ f : Array Value → Array Value, f items = (items.toList.take a).toArray → Q () { s with heap := s.heap.update l (Obj.mapSeq f) }) :
    wpAny (model prog w) A (delItem (.ref l) (.ref sl)) Q E s := by
  have hl : s.heap.IsList l items := PySem.IsL.isList e
  obtain ⟨os, hos, hcs, hds⟩ := id hs
  have hTs : s.TypeIs (.ref sl) "slice" := ⟨os, hos, hcs⟩
  have hstep : ¬ ((rawPart none == rawInt 0) = true) := Bool.false_ne_true
  refine wpAny_delItem_slot hl.typeIs (by decide) F.slot_list_delitem (wpAny_call_entry F.slot_list_delitem hl.typeIs F.entry_list_delitem ?_ (F.args_list_delitem_2 _ _))
  show wpAny _ _ (Builtin.List.listSubscript? (.ref sl) >>= _) _ _ s
  refine wpAny_bind ?_
  unfold Builtin.List.listSubscript?
  refine wpAny_bind (wpAny_specialOf hTs slice_no_index ?_)
  simp only [Option.isNone_none, if_true]
  refine wpAny_pure ?_
  show wpAny _ _ (typeOf (.ref sl) >>= _) _ _ s
  refine wpAny_bind (wpAny_typeOf hTs ?_)
  first
    | rw [if_neg (by decide)]
    | refine PySem.W.KFB.if_not (by decide) ?_
  rw [listSliceParts_eq]
  refine wpAny_bind (wpAny_bind (wpAny_field hos hds (x := .none) rfl (wpAny_bind (wpAny_listPart .none ?_))))
  rw [if_neg hstep]
  refine wpAny_bind (wpAny_field hos hds (x := vl) rfl (wpAny_bind (wpAny_listPart pl ?_)))
  refine wpAny_bind (wpAny_field hos hds (x := .none) rfl (wpAny_bind (wpAny_listPart .none (wpAny_pure ?_))))
  refine wpAny_bind (m := Builtin.List.listItems (.ref l)) ?_
  unfold Builtin.List.listItems
  refine wpAny_bind (wpAny_seqItems e rfl (wpAny_pure ?_))
  have hb : sliceBounds (some (a : Int)) none none items.size = ((a : Int), (items.size : Int), 1) := by
    simp only [sliceBounds, Option.getD_none]
    have h1 : ¬ ((a : Int) < 0) := by omega
    simp only [h1, if_false, show (1 : Int) > 0 by decide, if_true]
    congr 1
    omega
  refine wpAny_bind (wpAny_of_eq ((sliceIndices_raw (some (a : Int)) none none items.size (by simp)).trans (congrArg (pure : Int × Int × Int → Sem (Int × Int × Int)) hb)) ?_)
  refine wpAny_bind (wpAny_rule ?_)
  have key : ∀ xs : Array Value, xs.size = items.size → (List.filterMap (fun (p : Value × Nat) => if (if (1 : Int) > 0 then decide ((a : Int) ≤ (p.2 : Int)) && decide ((p.2 : Int) < (items.size : Int)) && (((p.2 : Int) - (a : Int)) % 1 == 0) else false) = true then none else some p.1) xs.toList.zipIdx).toArray = (xs.toList.take a).toArray := by
    intro xs hx
    congr 1
    have := filt_take (α := Value) (fun k => if (1 : Int) > 0 then decide ((a : Int) ≤ (k : Int)) && decide ((k : Int) < (items.size : Int)) && (((k : Int) - (a : Int)) % 1 == 0) else false) a items.size (fun k => by
      rw [if_pos (by decide)]
      have h0 : ((k : Int) - (a : Int)) % 1 = 0 := Int.emod_one _
      rw [h0]
      by_cases c1 : a ≤ k
      · by_cases c2 : k < items.size
        · simp [c1, c2]
        · simp [c1, c2]
      · simp [c1]) xs.toList 0 (by rw [Array.length_toList, hx]; omega)
    simpa using this
  refine wpAny_bind (m := Builtin.List.listUpdate (.ref l) _) ?_
  show wpAny _ _ (updateSeq l _) _ _ s
  refine wpAny_updateSeq (hz := hsz) (_hz' := ?_) e rfl ?_
  · refine wpAny_bind (wpAny_letGo ?_)
    exact wpAny_pure ⟨.none, rfl, h _ (key items rfl)⟩
  · refine Nat.le_trans (m := items.size) ?_ (by omega)
    rw [List.size_toArray]
    refine Nat.le_trans (List.length_filterMap_le _ _) ?_
    simp
end
def tDelCut (to : TE) (th : TO) : TS := fun D σ H => to σ H fun x H1 => th σ H1 fun y H2 => ∃ (l : Addr) (xs : List V) (i : Int), x = .ref l ∧ y = some i ∧ H2 l = some (.lst xs) ∧ 0 ≤ i ∧ i.toNat ≤ xs.length ∧ D.nx σ (upd H2 l (.lst (xs.take i.toNat)))
theorem ps_delCut {X : Cx} {o : Expr} {i : Option Expr} {to : TE} {th : TO} {p2 tpos pos : Pos} (ho : PE X o to) (hi : PO X i th) : PS X (.Delete [.Subscript o (.Slice i none none p2) tpos] pos) (tDelCut to th) := by
  refine ⟨fun pins s σ H D I h => ?_⟩
  refine wpAny_Delete (wpAny_deleteEach_cons (wpAny_delete_Subscript (thn (ho.run pins s σ H _ I h) fun u s1 ⟨x, H1, I1, rx, q1⟩ => ?_)))
  refine wpAny_Slice (thn (hi.run pins s1 σ H1 _ I1 q1) fun vl s2 ⟨o1, H2, I2, pl, l, xs, j, ex, ej, hH, h0, hle, q2⟩ => ?_)
  subst ex ej
  cases (show u = Value.ref l from rx)
  rw [evalPart_none]
  refine wpAny_pure (wpAny_pure ?_)
  have I3 : Inv X pins σ H2 { s2 with heap := s2.heap.push { cls := .type "slice", data := .fields #[vl, .none, .none] } } := I2.kept (t' := s2.toks) fun b ob q => Heap.get?_push_of_some _ q
  obtain ⟨z, its, n, r, hl, e⟩ := I3.lstM hH
  obtain ⟨j', rfl⟩ := Int.eq_ofNat_of_zero_le h0
  rw [Int.toNat_natCast] at hle q2
  refine delItem_cut (a := j') e (Heap.IsSliceOf.new ..) pl (by rw [List.size_toArray]; omega) (by rw [List.size_toArray]; omega) fun f hf => wpAny_deleteEach_nil ⟨σ, _, ?_, q2⟩
  refine I3.lset (its' := its.take j') (t' := s2.toks) hH e (by rw [hf]) (r.take _) ?_
  rw [List.length_take]
  omega
@[simp] def sDelFrom (o : EM) (lo : OM) : SM := fun env => bnd (o env) fun x => bnd (lo env) fun a st => match x, a with
  | .ref i, some a => match st[i]? with
    | some (.lst ys) => if decide (0 ≤ a ∧ a.toNat ≤ ys.length) = true then some ((.nx, env), st.set i (.lst (ys.take a.toNat))) else none
    | _ => none
  | _, _ => none
theorem ss_delFrom {X : Cx} {o : Expr} {i : Option Expr} {mo : EM} {mi : OM} {p2 tpos pos : Pos} (ho : SE X o mo) (hi : SO' X i mi) : SS X (.Delete [.Subscript o (.Slice i none none p2) tpos] pos) (sDelFrom mo mi) := by
  refine ⟨PSimp (ps_delCut ho.pe hi.po) ?_⟩
  rintro D σ H ⟨β, st, env, fl, env', st', hE, hS, hm, k⟩
  obtain ⟨x, st1, h1, h2⟩ := bnd_some hm
  obtain ⟨a, st2, h3, h4⟩ := bnd_some h2
  refine ⟨β, st, env, x, st1, hE, hS, h1, fun v H1 β1 e1 s1 r1 => ⟨β1, st1, env, a, st2, hE.ext e1, s1, h3, fun H2 β2 e2 s2 => ?_⟩⟩
  split at h4
  · rename_i i a
    split at h4
    · rename_i ys hi
      split at h4
      · rename_i hc
        cases h4
        have hc := of_decide_eq_true hc
        have rx := r1.ext' e2
        cases rx with
        | @ref i p hb =>
          obtain ⟨us, e, ru⟩ := rs_lst s2 hb hi
          obtain ⟨ec, sc⟩ := chg_lst s2 hb hi e (ru.take a.toNat)
          exact ⟨p, us, a, rfl, rfl, e, hc.1, by rw [← ru.length]; exact hc.2, k _ _ _ ((e1.trans e2).trans ec) sc (((hE.ext e1).ext e2).ext ec)⟩
      · cases h4
    · cases h4
  · cases h4

/-! ### t[::-1] of a tuple -/
theorem adj_rev (n : Nat) : Builtin.Slice.sliceAdjust none none (-1) (n : Int) = ((n : Int) - 1, -1) := by
  unfold Builtin.Slice.sliceAdjust
  simp
theorem places_rev (n : Nat) : Builtin.Slice.slicePlaces ((n : Int) - 1) (-1) (-1) = n := by
  unfold Builtin.Slice.slicePlaces
  simp
  split <;> omega
section
variable {prog : Program} {w : World} {A : Around} {E : Value → Shared → Prop} {s : Shared}
theorem sliceApplied_rev {sl : Addr} {vs : Value} {n : Nat} {Q : Int × Int × Nat → Shared → Prop} (hs : s.heap.IsSliceOf sl .none .none vs) (ps : IsPart vs (some (-1)))
    (h : Q ((n : Int) - 1, -1, n) s) : wpAny (model prog w) A (Builtin.Slice.sliceApplied (.ref sl) (pure (n : Int))) Q E s := by
  obtain ⟨os, hos, hcs, hds⟩ := id hs
  unfold Builtin.Slice.sliceApplied Builtin.Slice.sliceFields
  refine wpAny_bind (wpAny_bind (wpAny_field hos hds (x := .none) rfl (wpAny_bind (wpAny_field hos hds (x := .none) rfl (wpAny_bind (wpAny_field hos hds (x := vs) rfl (wpAny_pure ?_)))))))
  refine wpAny_bind (HT.slicePart_ ps ?_)
  show wpAny _ _ (if ((-1 : Int) == 0) = true then _ else _) _ _ s
  rw [if_neg (by decide)]
  refine wpAny_bind (HT.slicePart_ .none (wpAny_bind (HT.slicePart_ .none (wpAny_bind (wpAny_pure ?_)))))
  show wpAny _ _ (match Builtin.Slice.sliceAdjust none none (-1) (n : Int) with | (lo, hi) => pure (lo, (-1 : Int), Builtin.Slice.slicePlaces lo hi (-1))) _ _ s
  rw [adj_rev]
  show wpAny _ _ (pure ((n : Int) - 1, (-1 : Int), Builtin.Slice.slicePlaces ((n : Int) - 1) (-1) (-1))) _ _ s
  rw [places_rev]
  exact wpAny_pure h
theorem pick_rev (xs : Array Value) : ((List.range xs.size).filterMap fun (m : Nat) => xs[((xs.size : Int) - 1 + (m : Int) * (-1)).toNat]?).toArray = xs.toList.reverse.toArray := by
  congr 1
  have key : ∀ k, k ≤ xs.size → (List.range k).filterMap (fun (m : Nat) => xs[((xs.size : Int) - 1 + (m : Int) * (-1)).toNat]?) = xs.toList.reverse.take k := by
    intro k
    induction k with
    | zero => intro _; simp
    | succ k ih =>
      intro hk
      rw [List.range_succ, List.filterMap_append, ih (by omega)]
      have e1 : ((xs.size : Int) - 1 + (k : Int) * (-1)).toNat = xs.size - 1 - k := by omega
      have hlt : xs.size - 1 - k < xs.size := by omega
      have e3 : k < xs.toList.reverse.length := by simp; omega
      rw [List.take_succ, List.getElem?_eq_getElem e3]
      simp only [List.filterMap_cons, List.filterMap_nil, e1, Array.getElem?_eq_getElem hlt]
      simp [List.getElem_reverse]
  rw [key xs.size (Nat.le_refl _), List.take_of_length_le (by simp)]
theorem getItem_tuple_rev {t sl : Addr} {items : Array Value} {vs : Value} {Q : Value → Shared → Prop} (ht : PyProof.Rows.IsTup s.heap t items) (hs : s.heap.IsSliceOf sl .none .none vs) (ps : IsPart vs (some (-1)))
    (h : Q (.ref s.heap.objs.size) { s with heap := s.heap.push { cls := .type "tuple", data := .seq items.toList.reverse.toArray } })
    (hsz : items.size ≤ sizeLine) : wpAny (model prog w) A (getItem (.ref t) (.ref sl)) Q E s := by
  have htake : sizeOk (.seq items.toList.reverse.toArray) := by
    show items.toList.reverse.toArray.size ≤ sizeLine
    rw [List.size_toArray, List.length_reverse, Array.length_toList]
    omega
  obtain ⟨os, hos, hcs, hds⟩ := id hs
  have hTs : s.TypeIs (.ref sl) "slice" := ⟨os, hos, hcs⟩
  unfold getItem
  try with_reducible refine wpAny_holding ?_
  first | refine wpAny_bind (wpAny_pure ?_) | skip
  refine wpAny_bind (wpAny_sequenceKey ht.typeIs (by decide) ?_)
  refine wpAny_bind (wpAny_callSpecial?_slot (name := Str.ofString "__getitem__") ht.typeIs PyProof.Rows.slot_tuple_getitem
    (wpAny_call_entry PyProof.Rows.slot_tuple_getitem ht.typeIs PyProof.Rows.entry_tuple_getitem ?_ (PyProof.Rows.args_tuple_getitem _ _)))
  show wpAny _ _ (Builtin.Tuple.tupleItemsOf (.ref t) >>= _) _ _ s
  refine wpAny_bind (PyProof.Rows.tupleItemsOf_ ht ?_)
  refine wpAny_bind (wpAny_typeOf hTs ?_)
  rw [if_pos (by decide)]
  refine wpAny_bind (sliceApplied_rev hs ps ?_)
  have hno : ¬ ((((items.size : Int) - 1) == 0 && (-1 : Int) == 1 && items.size == items.size) = true) := by
    intro q
    rw [Bool.and_eq_true, Bool.and_eq_true] at q
    exact absurd (eq_of_beq q.1.2) (by decide)
  show wpAny _ _ (if (((items.size : Int) - 1) == 0 && (-1 : Int) == 1 && items.size == items.size) = true then _ else _) _ _ s
  rw [if_neg hno, pick_rev]
  first
    | exact wpAny_bind (m := Builtin.Tuple.tupleExact _) (wpAny_newObj_type (wpAny_pure ⟨_, rfl, wpAny_pure h⟩) htake)
    | exact wpAny_bind (m := Builtin.Tuple.tupleExact _) (wpAny_newObj_type (wpAny_bind (wpAny_pure (wpAny_pure ⟨_, rfl, wpAny_pure h⟩))) htake)
    | exact wpAny_bind (wpAny_bind (m := Builtin.Tuple.tupleExact _) (wpAny_newObj_type (wpAny_pure (wpAny_pure ⟨_, rfl, wpAny_pure h⟩)) htake))
    | exact wpAny_bind (wpAny_bind (m := Builtin.Tuple.tupleExact _) (wpAny_newObj_type (wpAny_pure ⟨_, rfl, wpAny_pure h⟩) htake))
end
/-- of a list or a tuple -/
def tRevA (K : PySem.W.Frag) (te : TE) : TE := fun σ H Q => te σ H fun x H1 => ∃ a xs, x = .ref a ∧ ((SqL K H1 a xs ∧ ∀ p, H1 p = none → Q (.ref p) (upd H1 p (.lst xs.reverse))) ∨ (SqT K H1 a xs ∧ ∀ p, H1 p = none → Q (.ref p) (upd H1 p (.tup xs.reverse))))
theorem pe_revA {X : Cx} {e : Expr} {te : TE} {k : Nat} {p1 p2 p3 pos : Pos} (he : PE X e te) : PE X (.Subscript e (.Slice none none (some (.UnaryOp .USub (.Constant (.int 1) k p1) p2)) p3) pos) (tRevA X.K te) := by
  refine ⟨fun pins s σ H Q I h => ?_⟩
  refine PyProof.Rows.Subscript_ (thn (he.run pins s σ H _ I h) fun v s1 ⟨x, H1, I1, r1, q1⟩ => ?_)
  obtain ⟨a, xs, ex, q⟩ := q1
  subst ex
  cases r1
  have hst : PO X (some (.UnaryOp .USub (.Constant (.int 1) k p1) p2)) (tPart (tUn (rU fun i => .int (-i)) (tC (.int 1)))) := po_some (pe_un un_neg pe_int)
  refine wpAny_Slice (thn (po_none.run pins s1 σ H1 (fun o H2 => o = none ∧ H2 = H1) I1 ⟨rfl, rfl⟩) fun vl s2 ⟨l, H2, I2, pl, el, e2⟩ => ?_)
  subst el e2
  refine thn (po_none.run pins s2 σ H2 (fun o H3 => o = none ∧ H3 = H2) I2 ⟨rfl, rfl⟩) fun vu s3 ⟨u, H3, I3, pu, eu, e3⟩ => ?_
  subst eu e3
  refine thn (hst.run pins s3 σ H3 (fun o H4 => o = some (-1) ∧ H4 = H3) I3 ⟨1, rfl, -1, rfl, rfl, rfl⟩) fun vs s4 ⟨o, H4, I4, ps, eo, e4⟩ => ?_
  subst eo e4
  have I5 : Inv X pins σ H4 { s4 with heap := s4.heap.push { cls := .type "slice", data := .fields #[vl, vu, vs] } } := I4.kept (t' := s4.toks) fun b ob q => Heap.get?_push_of_some _ q
  rcases q with ⟨hx, q⟩ | ⟨hx, q⟩
  · obtain ⟨its, r, ht, hz⟩ := I5.list hx
    have hlen := r.length
    show wpAny (model X.prog X.w) X.A (PyProof.Rows.subscriptTail e (.Slice none none (some (.UnaryOp .USub (.Constant (.int 1) k p1) p2)) p3) (.ref a) (.ref s4.heap.objs.size)) (EP X pins σ Q) X.xe { s4 with heap := s4.heap.push { cls := .type "slice", data := .fields #[vl, vu, vs] } }
    refine PyProof.Rows.tail_any (ops := [.ref a, .ref s4.heap.objs.size]) ht.isList.typeIs (PySem.slot_list_getitem.lookup) ?_ (by with_unfolding_all rfl)
    refine wpAny_getItem_list_slice ht.isList (Heap.IsSliceOf.new _ vl vu vs) pl pu ps (by decide) ?_ (by rw [List.size_toArray]; omega)
    rw [PySem.W.krv_pick]
    refine ⟨.ref _, _, I5.laid (t' := s4.toks) (o := .lst xs.reverse) (fun b ob q => Heap.get?_push_of_some _ q) (Nat.le_refl _) ?_, rfl, q _ (I5.hok.fresh (Nat.le_refl _))⟩
    exact ⟨by rw [List.length_reverse]; exact hz, _, 0, r.reverse, Heap.get?_push_size _ rfl⟩
  · obtain ⟨its, r, ht, hz⟩ := I5.tuple hx
    have hlen := r.length
    cases pl
    cases pu
    show wpAny (model X.prog X.w) X.A (PyProof.Rows.subscriptTail e (.Slice none none (some (.UnaryOp .USub (.Constant (.int 1) k p1) p2)) p3) (.ref a) (.ref s4.heap.objs.size)) (EP X pins σ Q) X.xe { s4 with heap := s4.heap.push { cls := .type "slice", data := .fields #[.none, .none, vs] } }
    refine PyProof.Rows.tail_any (ops := [.ref a, .ref s4.heap.objs.size]) ht.typeIs (PyProof.Rows.slot_tuple_getitem.lookup) ?_ (by with_unfolding_all rfl)
    refine getItem_tuple_rev ht (Heap.IsSliceOf.new _ .none .none vs) ps ?_ (by rw [List.size_toArray]; omega)
    refine ⟨.ref _, _, I5.laid (t' := s4.toks) (o := .tup xs.reverse) (fun b ob q => Heap.get?_push_of_some _ q) (Nat.le_refl _) ?_, rfl, q _ (I5.hok.fresh (Nat.le_refl _))⟩
    refine ⟨by rw [List.length_reverse]; exact hz, its.reverse, r.reverse, ⟨_, Heap.get?_push_size _ rfl, rfl, 0, ?_⟩⟩
    simp
@[simp] def fRev (x : W) : M W := fun st => match x with
  | .tup xs => some (.tup xs.reverse, st)
  | .fl xs => some (.ref st.length, st ++ [.lst xs.reverse])
  | .ref i => match st[i]? with
    | some (.lst xs) => some (.ref st.length, st ++ [.lst xs.reverse])
    | _ => none
  | _ => none
theorem se_rev {X : Cx} {e : Expr} {m : EM} {k : Nat} {p1 p2 p3 pos : Pos} (he : SE X e m) : SE X (.Subscript e (.Slice none none (some (.UnaryOp .USub (.Constant (.int 1) k p1) p2)) p3) pos) (eUn fRev m) := by
  refine ⟨PEimp (pe_revA he.pe) ?_⟩
  rintro σ H Q ⟨β, st, env, w, st', hE, hS, hm, k⟩
  obtain ⟨x, st1, h1, h2⟩ := bnd_some hm
  refine ⟨β, st, env, x, st1, hE, hS, h1, fun v H1 β1 e1 s1 r1 => ?_⟩
  unfold fRev at h2
  cases r1 with
  | @tup a xs vs hq r =>
    cases h2
    refine ⟨a, vs, rfl, .inr ⟨hq.sq, fun p hf => ?_⟩⟩
    have e : Ext β1 H1 β1 (upd H1 p (.tup vs.reverse)) := Ext.new hf
    exact k _ _ β1 (e1.trans e) (s1.new hf) (.tup (.inl upd_same) (r.reverse.ext e))
  | @fl a xs vs hq r =>
    cases h2
    refine ⟨a, vs, rfl, .inl ⟨hq.sq, fun p hf => ?_⟩⟩
    have e : Ext β1 H1 (β1 ++ [p]) (upd H1 p (.lst vs.reverse)) := Ext.alloc hf
    exact k _ _ _ (e1.trans e) (s1.alloc hf ⟨_, upd_same, r.reverse.ext e⟩) (.ref (alloc_ix s1))
  | @ref i a hb =>
    dsimp only at h2
    split at h2
    · rename_i xs hi
      cases h2
      obtain ⟨vs, e2', r⟩ := rs_lst s1 hb hi
      refine ⟨a, vs, rfl, .inl ⟨SqL.of e2', fun p hf => ?_⟩⟩
      have e : Ext β1 H1 (β1 ++ [p]) (upd H1 p (.lst vs.reverse)) := Ext.alloc hf
      exact k _ _ _ (e1.trans e) (s1.alloc hf ⟨_, upd_same, r.reverse.ext e⟩) (.ref (alloc_ix s1))
    · cases h2
  | _ => cases h2
end B

set_option Elab.async false
set_option linter.all false
set_option maxRecDepth 100000
set_option maxHeartbeats 1000000
namespace B
open PySem PySem.Spec L2 RZ
set_option autoImplicit false

/-! ### list(zip(t1, t2)) -/
def IsZipF (h : Heap) (z TI TO a : Addr) (f : Bool) : Prop :=
  h.get? z = some { cls := .type "zip", dict := none, data := .fields #[rawInt a, .bool f, .bool false, .ref TI, .ref TO], slots := #[] }
section
variable {prog : Program} {w : World} {A : Around} {E : Value → Shared → Prop} {s : Shared}
theorem owned_not {z TI TO a : Addr} {f : Bool} {oa : Obj} {Q : Bool → Shared → Prop} (hz : IsZipF s.heap z TI TO a f) (ha : s.heap.get? a = some oa)
    (hQ : ∀ h₁, IsZipF h₁ z TI TO a true → Heap.SameBut z s.heap h₁ → Q false { s with heap := h₁ }) : wpAny (model prog w) A (Builtin.SmallTypes.ownedTupleIsFree (.ref z)) Q E s := by
  unfold Builtin.SmallTypes.ownedTupleIsFree
  refine wpAny_bind (wpAny_field hz rfl (x := rawInt a) rfl ?_)
  show wpAny _ _ (loadIfAlive ((a : Int).toNat) >>= _) _ _ _
  rw [Int.toNat_natCast]
  refine wpAny_bind (PySem.W.kdx_alive ha ?_)
  simp only [Option.isNone_some, Bool.false_eq_true, if_false]
  refine wpAny_bind (wpAny_field hz rfl (x := .bool f) rfl ?_)
  cases f with
  | true =>
    rw [if_neg (show ¬ ((Value.bool true != Value.bool true) = true) from Bool.false_ne_true)]
    exact wpAny_pure (hQ _ hz (Heap.SameBut.refl _ _))
  | false =>
    rw [if_pos (show (Value.bool false != Value.bool true) = true from rfl)]
    refine wpAny_bind (wpAny_setField_rec hz (by simp) fun h₃ he₃ hs₃ => ?_)
    exact wpAny_pure (hQ _ he₃ hs₃)
theorem zipT_next_out {z TI TO i1 i2 l1 l2 a : Addr} {f : Bool} {oa : Obj} {k1 k2 : Nat} {xs ys : Array Value} {x y : Value} {Q : Value → Shared → Prop} (D : ZipApart z TI TO i1 i2 l1 l2)
    (hz : IsZipF s.heap z TI TO a f) (ha : s.heap.get? a = some oa) (hTI : IsPair s.heap TI (.ref i1) (.ref i2))
    (h1 : s.heap.IsTupleIter i1 l1 k1) (h2 : s.heap.IsTupleIter i2 l2 k2) (hl1 : s.heap.IsTuple l1 xs) (hl2 : s.heap.IsTuple l2 ys) (hx : xs[k1]? = some x) (hy : ys[k2]? = some y)
    (hQ : ∀ h', IsZipF h' z TI TO a true → h'.IsTupleIter i1 l1 (k1 + 1) → h'.IsTupleIter i2 l2 (k2 + 1) → IsPair h' s.heap.objs.size x y → h'.objs.size = s.heap.objs.size + 1 →
      (∀ c o, c ≠ z → c ≠ i1 → c ≠ i2 → s.heap.get? c = some o → h'.get? c = some o) → Q (.ref s.heap.objs.size) { s with heap := h' }) :
    wpAny (model prog w) A (Builtin.«zip.__next__» ⟨[.ref z], []⟩) (fun fin s' => ∃ v, fin = .done (.ret v) ∧ Q v s') E s := by
  show wpAny _ _ (field (.ref z) 2 >>= _) _ _ _
  refine wpAny_bind (wpAny_field hz rfl (x := .bool false) rfl ?_)
  show wpAny _ _ (field (.ref z) 3 >>= _) _ _ _
  refine wpAny_bind (wpAny_field hz rfl (x := .ref TI) rfl ?_)
  refine wpAny_bind (wpAny_seqItems hTI rfl ?_)
  show wpAny _ _ (Builtin.SmallTypes.ownedTupleIsFree (.ref z) >>= _) _ _ _
  refine wpAny_bind (owned_not hz ha fun h₁ hz₁ hs₁ => ?_)
  simp only [Bool.false_eq_true, if_false]
  refine wpAny_bind ?_
  simp only [List.forIn_toArray, List.forIn_cons, List.forIn_nil]
  refine wpAny_bind (wpAny_bind (wpAny_holding ?_))
  show wpAny _ _ (Builtin.SmallTypes.nextOf (.ref i1) >>= _) _ _ _
  refine wpAny_bind (nextOf_tuple_item (h1.extBut hs₁.extBut D.i1z) (hl1.extBut hs₁.extBut D.l1z) hx fun h₂ h1₂ hs₂ => wpAny_pure ?_)
  refine wpAny_pure ?_
  refine wpAny_bind (wpAny_bind (wpAny_holding ?_))
  show wpAny _ _ (Builtin.SmallTypes.nextOf (.ref i2) >>= _) _ _ _
  refine wpAny_bind (nextOf_tuple_item ((h2.extBut hs₁.extBut D.i2z).extBut hs₂.extBut D.i12.symm)
    ((hl2.extBut hs₁.extBut D.l2z).extBut hs₂.extBut D.l2i1) hy fun h₃ h2₃ hs₃ => wpAny_pure ?_)
  refine wpAny_pure (wpAny_pure ?_)
  refine wpAny_bind (wpAny_newTuple (hsz := by show (2 : Nat) ≤ sizeLine; rw [sizeLine_eq]; decide) (wpAny_pure ⟨_, rfl, ?_⟩))
  have hsz : h₃.objs.size = s.heap.objs.size := by rw [hs₃.1, hs₂.1, hs₁.1]
  show Q (.ref h₃.objs.size) _
  have hz₃ : IsZipF h₃ z TI TO a true := hs₃.extBut _ _ D.i2z.symm (hs₂.extBut _ _ D.i1z.symm hz₁)
  have h1₃ : h₃.IsTupleIter i1 l1 (k1 + 1) := h1₂.extBut hs₃.extBut D.i12
  rw [hsz]
  refine hQ _ (Heap.get?_push_of_some _ hz₃) (h1₃.at fun o e => Heap.get?_push_of_some _ e) (h2₃.at fun o e => Heap.get?_push_of_some _ e) ?_ (by rw [Heap.size_push, hsz]) fun c o c1 c2 c3 e => Heap.get?_push_of_some _ (hs₃.extBut _ _ c3 (hs₂.extBut _ _ c2 (hs₁.extBut _ _ c1 e)))
  rw [← hsz]
  exact Heap.get?_push_size _ rfl
theorem zipT_end_out {z TI TO i1 i2 l1 l2 a : Addr} {f : Bool} {oa : Obj} {k1 k2 : Nat} {xs ys : Array Value} {Q : Fin → Shared → Prop} (hh : A.handled = none) (D : ZipApart z TI TO i1 i2 l1 l2)
    (hz : IsZipF s.heap z TI TO a f) (ha : s.heap.get? a = some oa) (hTI : IsPair s.heap TI (.ref i1) (.ref i2))
    (h1 : s.heap.IsTupleIter i1 l1 k1) (h2 : s.heap.IsTupleIter i2 l2 k2) (hl1 : s.heap.IsTuple l1 xs) (hl2 : s.heap.IsTuple l2 ys) (hend : xs[k1]? = none ∨ ys[k2]? = none)
    (hE : ∀ h' e, (∀ c o, c ≠ z → c ≠ i1 → c ≠ i2 → s.heap.get? c = some o → h'.get? c = some o) → (∃ o, h'.get? e = some o ∧ o.cls = .type "StopIteration") → E (.ref e) { s with heap := h' }) :
    wpAny (model prog w) A (Builtin.«zip.__next__» ⟨[.ref z], []⟩) Q E s := by
  show wpAny _ _ (field (.ref z) 2 >>= _) _ _ _
  refine wpAny_bind (wpAny_field hz rfl (x := .bool false) rfl ?_)
  show wpAny _ _ (field (.ref z) 3 >>= _) _ _ _
  refine wpAny_bind (wpAny_field hz rfl (x := .ref TI) rfl ?_)
  refine wpAny_bind (wpAny_seqItems hTI rfl ?_)
  show wpAny _ _ (Builtin.SmallTypes.ownedTupleIsFree (.ref z) >>= _) _ _ _
  refine wpAny_bind (owned_not hz ha fun h₁ hz₁ hs₁ => ?_)
  simp only [Bool.false_eq_true, if_false]
  refine wpAny_bind ?_
  simp only [List.forIn_toArray, List.forIn_cons, List.forIn_nil]
  refine wpAny_bind (wpAny_bind (wpAny_holding ?_))
  show wpAny _ _ (Builtin.SmallTypes.nextOf (.ref i1) >>= _) _ _ _
  cases hx : xs[k1]? with
  | none =>
    refine wpAny_bind (nextOf_tuple_end hh (h1.extBut hs₁.extBut D.i1z) (hl1.extBut hs₁.extBut D.l1z) hx fun h₂ e hs₂ he => ?_)
    exact hE h₂ e (fun c o c1 c2 _ x => hs₂ _ _ c2 (hs₁.extBut _ _ c1 x)) he
  | some x =>
    have hy : ys[k2]? = none := by rcases hend with h | h; rw [hx] at h; cases h; exact h
    refine wpAny_bind (nextOf_tuple_item (h1.extBut hs₁.extBut D.i1z) (hl1.extBut hs₁.extBut D.l1z) hx fun h₂ h1₂ hs₂ => wpAny_pure ?_)
    refine wpAny_pure ?_
    refine wpAny_bind (wpAny_bind (wpAny_holding ?_))
    show wpAny _ _ (Builtin.SmallTypes.nextOf (.ref i2) >>= _) _ _ _
    refine wpAny_bind (nextOf_tuple_end hh ((h2.extBut hs₁.extBut D.i2z).extBut hs₂.extBut D.i12.symm)
      ((hl2.extBut hs₁.extBut D.l2z).extBut hs₂.extBut D.l2i1) hy fun h₄ e hs₄ he => ?_)
    exact hE h₄ e (fun c o c1 c2 c3 x => hs₄ _ _ c3 (hs₂.extBut _ _ c2 (hs₁.extBut _ _ c1 x))) he
theorem pyNext_zipT_out {z TI TO i1 i2 l1 l2 a : Addr} {f : Bool} {oa : Obj} {k1 k2 : Nat} {xs ys : Array Value} {x y : Value} {Q : Option Value → Shared → Prop} (D : ZipApart z TI TO i1 i2 l1 l2)
    (hz : IsZipF s.heap z TI TO a f) (ha : s.heap.get? a = some oa) (hTI : IsPair s.heap TI (.ref i1) (.ref i2))
    (h1 : s.heap.IsTupleIter i1 l1 k1) (h2 : s.heap.IsTupleIter i2 l2 k2) (hl1 : s.heap.IsTuple l1 xs) (hl2 : s.heap.IsTuple l2 ys) (hx : xs[k1]? = some x) (hy : ys[k2]? = some y)
    (hQ : ∀ h', IsZipF h' z TI TO a true → h'.IsTupleIter i1 l1 (k1 + 1) → h'.IsTupleIter i2 l2 (k2 + 1) → IsPair h' s.heap.objs.size x y → h'.objs.size = s.heap.objs.size + 1 →
      (∀ c o, c ≠ z → c ≠ i1 → c ≠ i2 → s.heap.get? c = some o → h'.get? c = some o) → Q (some (.ref s.heap.objs.size)) { s with heap := h' }) :
    wpAny (model prog w) A (pyNext (.ref z)) Q E s := by
  have hT : s.TypeIs (.ref z) "zip" := ⟨_, hz, rfl⟩
  unfold pyNext
  exact wpAny_bind (wpAny_attempt (wpAny_callSpecial?_slot (name := Str.ofString "__next__") hT F.slot_zip_next
    (wpAny_call_entry F.slot_zip_next hT F.entry_zip_next
      (zipT_next_out D hz ha hTI h1 h2 hl1 hl2 hx hy fun h' a1 a2 a3 a4 a5 a6 => wpAny_pure (hQ h' a1 a2 a3 a4 a5 a6)) (F.args_zip_next_1 _))))
theorem pyNext_zipT_endO {z TI TO i1 i2 l1 l2 a : Addr} {f : Bool} {oa : Obj} {k1 k2 : Nat} {xs ys : Array Value} {Q : Option Value → Shared → Prop} (hh : A.handled = none) (D : ZipApart z TI TO i1 i2 l1 l2)
    (hz : IsZipF s.heap z TI TO a f) (ha : s.heap.get? a = some oa) (hTI : IsPair s.heap TI (.ref i1) (.ref i2))
    (h1 : s.heap.IsTupleIter i1 l1 k1) (h2 : s.heap.IsTupleIter i2 l2 k2) (hl1 : s.heap.IsTuple l1 xs) (hl2 : s.heap.IsTuple l2 ys) (hend : xs[k1]? = none ∨ ys[k2]? = none)
    (hQ : ∀ h', (∀ c o, c ≠ z → c ≠ i1 → c ≠ i2 → s.heap.get? c = some o → h'.get? c = some o) → Q none { s with heap := h' }) : wpAny (model prog w) A (pyNext (.ref z)) Q E s := by
  have hT : s.TypeIs (.ref z) "zip" := ⟨_, hz, rfl⟩
  unfold pyNext
  refine wpAny_bind (wpAny_attempt (wpAny_callSpecial?_slot (name := Str.ofString "__next__") hT F.slot_zip_next
    (wpAny_call_entry F.slot_zip_next hT F.entry_zip_next (zipT_end_out hh D hz ha hTI h1 h2 hl1 hl2 hend fun h' e hk he => ?_) (F.args_zip_next_1 _))))
  obtain ⟨o, ho, hc⟩ := he
  refine wpAny_bind (wpAny_isInstance (T := "StopIteration") (b := true) ⟨o, ho, hc⟩ isSubtype_stop ?_)
  exact wpAny_pure (hQ _ hk)
end
/-- the iterator ahead of turn i -/
def ZSt (h : Heap) (z TI TO i1 i2 l1 l2 : Addr) (i : Nat) : Prop :=
  IsPair h TI (.ref i1) (.ref i2) ∧ h.IsTupleIter i1 l1 i ∧ h.IsTupleIter i2 l2 i ∧
    ((IsZip h z TI TO .none ∧ ∃ x y, IsPair h TO x y) ∨ ∃ a f x y, IsZipF h z TI TO a f ∧ IsPair h a x y ∧ a ≠ z ∧ a ≠ i1 ∧ a ≠ i2)
section
variable {prog : Program} {w : World} {A : Around} {E : Value → Shared → Prop} {s : Shared}
theorem zst_item {z TI TO i1 i2 l1 l2 : Addr} {i : Nat} {xs ys : Array Value} {x y : Value} {Q : Option Value → Shared → Prop} (D : ZipApart z TI TO i1 i2 l1 l2) (st : ZSt s.heap z TI TO i1 i2 l1 l2 i)
    (hl1 : s.heap.IsTuple l1 xs) (hl2 : s.heap.IsTuple l2 ys) (hx : xs[i]? = some x) (hy : ys[i]? = some y)
    (hQ : ∀ h', ZSt h' z TI TO i1 i2 l1 l2 (i + 1) → IsPair h' s.heap.objs.size x y → h'.objs.size = s.heap.objs.size + 1 →
      (∀ c o, c ≠ z → c ≠ TO → c ≠ i1 → c ≠ i2 → s.heap.get? c = some o → h'.get? c = some o) → Q (some (.ref s.heap.objs.size)) { s with heap := h' }) :
    wpAny (model prog w) A (pyNext (.ref z)) Q E s := by
  obtain ⟨hTI, h1, h2, hz⟩ := st
  have hi1 : i1 < s.heap.objs.size := by obtain ⟨_, e, _⟩ := h1; exact Heap.lt_size e
  have hi2 : i2 < s.heap.objs.size := by obtain ⟨_, e, _⟩ := h2; exact Heap.lt_size e
  rcases hz with ⟨hz, x0, y0, hTO⟩ | ⟨a, f, x0, y0, hz, ha, n1, n2, n3⟩
  · have hzl : z < s.heap.objs.size := Heap.lt_size hz
    refine pyNext_zipT_item D hz hTI hTO h1 h2 hl1 hl2 hx hy fun h' z' TO' h1' h2' hT hsz hk => hQ h' ⟨hk _ _ D.TIz D.TITO D.TIi1 D.TIi2 hTI, h1', h2', .inr ⟨_, false, x, y, z', hT, Nat.ne_of_gt hzl, Nat.ne_of_gt hi1, Nat.ne_of_gt hi2⟩⟩ hT hsz hk
  · refine pyNext_zipT_out D hz ha hTI h1 h2 hl1 hl2 hx hy fun h' z' h1' h2' hT hsz hk => hQ h' ⟨hk _ _ D.TIz D.TIi1 D.TIi2 hTI, h1', h2', .inr ⟨a, true, x0, y0, z', hk _ _ n1 n2 n3 ha, n1, n2, n3⟩⟩ hT hsz fun c o c1 _ c3 c4 e => hk c o c1 c3 c4 e
theorem zst_end {z TI TO i1 i2 l1 l2 : Addr} {i : Nat} {xs ys : Array Value} {Q : Option Value → Shared → Prop} (hh : A.handled = none) (D : ZipApart z TI TO i1 i2 l1 l2) (st : ZSt s.heap z TI TO i1 i2 l1 l2 i)
    (hl1 : s.heap.IsTuple l1 xs) (hl2 : s.heap.IsTuple l2 ys) (hend : xs[i]? = none ∨ ys[i]? = none)
    (hQ : ∀ h', (∀ c o, c ≠ z → c ≠ TO → c ≠ i1 → c ≠ i2 → s.heap.get? c = some o → h'.get? c = some o) → Q none { s with heap := h' }) : wpAny (model prog w) A (pyNext (.ref z)) Q E s := by
  obtain ⟨hTI, h1, h2, hz⟩ := st
  rcases hz with ⟨hz, x0, y0, hTO⟩ | ⟨a, f, x0, y0, hz, ha, n1, n2, n3⟩
  · exact pyNext_zipT_end hh D hz hTI hTO h1 h2 hl1 hl2 hend hQ
  · exact pyNext_zipT_endO hh D hz ha hTI h1 h2 hl1 hl2 hend fun h' hk => hQ h' fun c o c1 _ c3 c4 e => hk c o c1 c3 c4 e
end
theorem ZSt.keep {h h' : Heap} {z TI TO i1 i2 l1 l2 : Addr} {i : Nat} (st : ZSt h z TI TO i1 i2 l1 l2 i) (k : ∀ c o, h.get? c = some o → (∃ p, o.data = .fields p) ∨ o.cls = .type "tuple" → h'.get? c = some o) : ZSt h' z TI TO i1 i2 l1 l2 i := by
  obtain ⟨hTI, ⟨o1, e1, c1, d1⟩, ⟨o2, e2, c2, d2⟩, hz⟩ := st
  refine ⟨k _ _ hTI (.inr rfl), ⟨o1, k _ _ e1 (.inl ⟨_, d1⟩), c1, d1⟩, ⟨o2, k _ _ e2 (.inl ⟨_, d2⟩), c2, d2⟩, ?_⟩
  rcases hz with ⟨hz, x0, y0, hTO⟩ | ⟨a, f, x0, y0, hz, ha, n⟩
  · exact .inl ⟨k _ _ hz (.inl ⟨_, rfl⟩), x0, y0, k _ _ hTO (.inr rfl)⟩
  · exact .inr ⟨a, f, x0, y0, k _ _ hz (.inl ⟨_, rfl⟩), k _ _ ha (.inr rfl), n⟩
/-- what the pairs of a new list are -/
def PairsAt (H : Hp) (rs : List V) (xs ys : List V) : Prop := ∀ (j : Nat) (r : V), rs[j]? = some r → ∃ (T : Addr) (x y : V), r = V.ref T ∧ xs[j]? = some x ∧ ys[j]? = some y ∧ H T = some (HO.tup [x, y])
theorem PairsAt.mono {H H' : Hp} {rs xs ys : List V} (p : PairsAt H rs xs ys) (h : ∀ T a b, H T = some (.tup [a, b]) → H' T = some (.tup [a, b])) : PairsAt H' rs xs ys := by
  intro j r hj
  obtain ⟨T, x, y, e1, e2, e3, e4⟩ := p j r hj
  exact ⟨T, x, y, e1, e2, e3, h _ _ _ e4⟩
section
variable {X : Cx} {pins : List (Addr × Obj)} {σ : L2.St}
theorem zl_loop {S z TI TO i1 i2 l1 l2 : Addr} {res : Value} {R : Result → Shared → Prop} {A : Around} {xs ys : List V} {H0 : Hp} (D : ZipApart z TI TO i1 i2 l1 l2) (hh : A.handled = none) (hz : xs.length ≤ 1000000) (hq1 : SqT X.K H0 l1 xs) (hq2 : SqT X.K H0 l2 ys)
    (hS0 : S ∉ [z, TI, TO, i1, i2])
    (hR : ∀ s' H' rs, Inv X pins σ H' s' → H' S = some (.lst rs) → rs.length = min xs.length ys.length → PairsAt H' rs xs ys → (∀ c u, c ≠ S → H0 c = some u → H' c = some u) → R (.ok (.ret res)) s') :
    ∀ (k i : Nat) (H : Hp) (s : Shared) (rs : List V), min xs.length ys.length - i = k → i ≤ min xs.length ys.length → Inv X pins σ H s → H S = some (.lst rs) → rs.length = i → PairsAt H rs xs ys → (∀ c u, c ≠ S → H0 c = some u → H c = some u) →
      (∀ a ps, H0 a = some (.tup ps) → a ≠ S) → (∀ a ob ps, H0 a = some (.frz ob ps) → a ≠ S) → ZSt s.heap z TI TO i1 i2 l1 l2 i → (∀ c ∈ [z, TI, TO, i1, i2], FpOk X pins H c ∧ c < s.heap.objs.size) →
      codeAny (model X.prog X.w) A (.builtin "list.extend.loop" ⟨[.ref S, .ref z, res], []⟩) R s := by
  intro k
  induction k with
  | zero =>
    intro i H s rs hk hi I hS hl hP hx h1 h2 st hf
    have q1 : SqT X.K H l1 xs := by
      rcases hq1 with (q | ⟨o, q⟩) | q
      · exact .inl (.inl (hx _ _ (h1 _ _ q) q))
      · exact .inl (.inr ⟨o, hx _ _ (h2 _ _ _ q) q⟩)
      · exact .inr q
    have q2 : SqT X.K H l2 ys := by
      rcases hq2 with (q | ⟨o, q⟩) | q
      · exact .inl (.inl (hx _ _ (h1 _ _ q) q))
      · exact .inl (.inr ⟨o, hx _ _ (h2 _ _ _ q) q⟩)
      · exact .inr q
    obtain ⟨its, rv, p, _⟩ := I.tuple q1
    obtain ⟨its2, rv2, p2, _⟩ := I.tuple q2
    have hl1 := rv.length
    have hl2 := rv2.length
    refine codeAny_builtin PySem.F.entry_extend_loop ?_
    rw [Around.under_plainId PySem.F.plain_extend_loop _]
    show wpAny _ A.in1 (pyNext (.ref z) >>= _) _ _ _
    refine wpAny_bind (zst_end (A := A.in1) hh D st p p2 ?_ fun h' hk' => ?_)
    · have : its.length ≤ i ∨ its2.length ≤ i := by omega
      rcases this with h | h
      · left; simpa using h
      · right; simpa using h
    · refine wpAny_pure (hR _ H rs (I.turnedL (t' := s.toks) (ch := [z, TI, TO, i1, i2]) (fun b o hb q => hk' b o (fun e => hb (by simp [e])) (fun e => hb (by simp [e])) (fun e => hb (by simp [e])) (fun e => hb (by simp [e])) q) (fun b hb => (hf b hb).1)) hS (by omega) hP hx)
  | succ k ih =>
    intro i H s rs hk hi I hS hl hP hx h1 h2 st hf
    have q1 : SqT X.K H l1 xs := by
      rcases hq1 with (q | ⟨o, q⟩) | q
      · exact .inl (.inl (hx _ _ (h1 _ _ q) q))
      · exact .inl (.inr ⟨o, hx _ _ (h2 _ _ _ q) q⟩)
      · exact .inr q
    have q2 : SqT X.K H l2 ys := by
      rcases hq2 with (q | ⟨o, q⟩) | q
      · exact .inl (.inl (hx _ _ (h1 _ _ q) q))
      · exact .inl (.inr ⟨o, hx _ _ (h2 _ _ _ q) q⟩)
      · exact .inr q
    obtain ⟨its, rv, p, _⟩ := I.tuple q1
    obtain ⟨its2, rv2, p2, _⟩ := I.tuple q2
    have hl1 := rv.length
    have hl2 := rv2.length
    have hix : i < xs.length := by omega
    have hiy : i < ys.length := by omega
    obtain ⟨u, hu, ru⟩ := rv.get (List.getElem?_eq_getElem hix)
    obtain ⟨u2, hu2, ru2⟩ := rv2.get (List.getElem?_eq_getElem hiy)
    refine codeAny_builtin PySem.F.entry_extend_loop ?_
    rw [Around.under_plainId PySem.F.plain_extend_loop _]
    show wpAny _ A.in1 (pyNext (.ref z) >>= _) _ _ _
    refine wpAny_bind (zst_item (A := A.in1) D st p p2 (x := u) (y := u2) (by simpa using hu) (by simpa using hu2) fun h' st' hT hsz hkp => ?_)
    have new : ObjOk X.prog X.w (upd H s.heap.objs.size (.tup [xs[i], ys[i]])) h' s.heap.objs.size (.tup [xs[i], ys[i]]) :=
      ⟨by show 2 ≤ sizeLine; rw [sizeLine_eq]; decide, [u, u2], .cons ru (.cons ru2 .nil), ⟨_, hT, rfl, _, rfl⟩⟩
    have hn : H s.heap.objs.size = none := I.fresh
    have I1 : Inv X pins σ (upd H s.heap.objs.size (.tup [xs[i], ys[i]])) { s with heap := h' } :=
      I.turnedNew (t' := s.toks) (ch := [z, TI, TO, i1, i2]) (fun b o hb q => hkp b o (fun e => hb (by simp [e])) (fun e => hb (by simp [e])) (fun e => hb (by simp [e])) (fun e => hb (by simp [e])) q) (fun b hb => (hf b hb).1) (Nat.le_refl _) new
    have hSs : S ≠ s.heap.objs.size := ne_of_none hS hn
    have hS1 : (upd H s.heap.objs.size (.tup [xs[i], ys[i]])) S = some (.lst rs) := by rw [upd_ne hSs]; exact hS
    obtain ⟨zz, its3, n3, r3, hl3, e3⟩ := I1.lstM hS1
    show wpAny _ A.in1 (updateSeq S (·.push (Value.ref s.heap.objs.size)) >>= _) _ _ _
    have hsm : rs.length ≤ 1000000 := by omega
    have hline : (1000000 : Nat) + 1 ≤ sizeLine := by rw [sizeLine_eq]; decide
    refine wpAny_bind (wpAny_updateSeq (hz := by rw [List.size_toArray]; omega) (_hz' := by rw [Array.size_push, List.size_toArray]; omega) e3 rfl ?_)
    have I2 := I1.lset (ys := rs ++ [.ref s.heap.objs.size]) (its' := its3 ++ [.ref s.heap.objs.size]) (f := (·.push (Value.ref s.heap.objs.size))) (t' := s.toks) hS1 e3 (by simp) (Paired.snoc r3 (show RelV (.ref s.heap.objs.size) (.ref s.heap.objs.size) from rfl)) (by rw [List.length_append]; simp; omega)
    refine wpAny_pure ⟨plainId_quiet PySem.F.plain_extend_loop _, ih (i + 1) _ _ (rs ++ [.ref s.heap.objs.size]) (by omega) (by omega) I2 upd_same (by rw [List.length_append, hl]; rfl) ?_ ?_ h1 h2 ?_ ?_⟩
    · intro j r hj
      rcases Nat.lt_or_ge j rs.length with h | h
      · rw [List.getElem?_append_left h] at hj
        obtain ⟨T, x, y, e1, e2, e4, e5⟩ := hP j r hj
        refine ⟨T, x, y, e1, e2, e4, ?_⟩
        rw [upd_ne (fun e => by subst e; rw [hS] at e5; cases e5), upd_ne (ne_of_none e5 hn)]
        exact e5
      · rw [List.getElem?_append_right h] at hj
        have h0 : j - rs.length = 0 := by
          have := (List.getElem?_eq_some_iff.mp hj).1
          simp at this; omega
        rw [h0] at hj
        have ej : j = i := by omega
        subst ej
        simp at hj
        refine ⟨_, xs[j], ys[j], hj.symm, List.getElem?_eq_getElem hix, List.getElem?_eq_getElem hiy, ?_⟩
        rw [upd_ne (Ne.symm hSs)]
        exact upd_same
    · intro c w hc hw
      have hw' := hx c w hc hw
      rw [upd_ne hc, upd_ne (ne_of_none hw' hn)]
      exact hw'
    · refine ZSt.keep st' fun c o hc ho => ?_
      have hcS : c ≠ S := by
        intro e
        subst e
        rw [e3] at hc
        cases hc
        rcases ho with ⟨p, hp⟩ | hp
        · cases hp
        · simp at hp
      exact (Heap.get?_update_other _ _ (Ne.symm hcS)).trans hc
    · intro c hc
      obtain ⟨⟨f1, f2⟩, hlt⟩ := hf c hc
      have hcS : c ≠ S := fun e => hS0 (e ▸ hc)
      refine ⟨⟨?_, f2⟩, by show c < (h'.update _ _).objs.size; rw [Heap.size_update, hsz]; exact Nat.lt_succ_of_lt hlt⟩
      rw [upd_ne hcS, upd_ne (Nat.ne_of_lt hlt)]
      exact f1
end
theorem zip_no_len : typeLookup (.type "zip") "__len__" = pure none := by rw [typeLookup_type, builtinLookup_eq_fast]; kernel_rfl
theorem zip_no_hint : typeLookup (.type "zip") "__length_hint__" = pure none := by rw [typeLookup_type, builtinLookup_eq_fast]; kernel_rfl
section
variable {X : Cx} {pins : List (Addr × Obj)} {σ : L2.St}
theorem call_listzip {z TI TO i1 i2 l1 l2 : Addr} {H : Hp} {s : Shared} {xs ys : List V} {Q : Value → Shared → Prop} (I : Inv X pins σ H s) (D : ZipApart z TI TO i1 i2 l1 l2) (hh : X.A.handled = none) (hz : xs.length ≤ 1000000) (hq1 : SqT X.K H l1 xs) (hq2 : SqT X.K H l2 ys)
    (hz0 : IsZip s.heap z TI TO .none) (st : ZSt s.heap z TI TO i1 i2 l1 l2 0) (hf : ∀ c ∈ [z, TI, TO, i1, i2], FpOk X pins H c ∧ c < s.heap.objs.size)
    (hQ : ∀ s' H' rs S, Inv X pins σ H' s' → H S = none → H' S = some (.lst rs) → rs.length = min xs.length ys.length → PairsAt H' rs xs ys → (∀ c u, H c = some u → H' c = some u) → Q (.ref S) s') :
    wpAny (model X.prog X.w) X.A (call (.type "list") [.ref z]) Q X.xe s := by
  refine callType_codes (Q₁ := fun obj s₁ => obj = .ref s.heap.objs.size ∧ s₁ = { s with heap := s.heap.push { cls := .type "list", data := .seq #[] } }) PySem.F.called_list (PySem.F.typeCall_list_1 _) PySem.F.entry_list_init
    (code_list_new _ ⟨rfl, rfl⟩) fun obj s₁ h₁ => ?_
  obtain ⟨rfl, rfl⟩ := h₁
  have hn : H s.heap.objs.size = none := I.fresh
  have hS : (s.heap.push { cls := .type "list", data := .seq #[] }).get? s.heap.objs.size = some { cls := .type "list", data := .seq #[] } := Heap.get?_push_size _ rfl
  have I1 : Inv X pins σ (upd H s.heap.objs.size (.lst [])) { s with heap := s.heap.push { cls := .type "list", data := .seq #[] } } := I.lnew (its := []) (t' := s.toks) .nil (Nat.zero_le _)
  refine ⟨⟨_, hS, rfl⟩, PySem.F.args_list_init_2 _ _, ?_⟩
  show wpAny _ _ (do let old ← Builtin.List.listItems (.ref s.heap.objs.size); Builtin.List.listUpdate (.ref s.heap.objs.size) (fun _ => #[]); letGo old.toList.reverse; Builtin.List.listExtendWith (.ref s.heap.objs.size) (.ref z) .none) _ _ _
  refine wpAny_bind ?_
  unfold Builtin.List.listItems
  refine wpAny_bind (wpAny_seqItems hS rfl (wpAny_pure ?_))
  show wpAny _ _ (updateSeq s.heap.objs.size (fun _ => #[]) >>= fun _ => letGo (#[] : Array Value).toList.reverse >>= fun _ => Builtin.List.listExtendWith (.ref s.heap.objs.size) (.ref z) .none) _ _ _
  refine wpAny_bind (wpAny_updateSeq hS rfl ?_)
  have I2 := I1.lset (its := []) (n := 0) (ys := []) (its' := []) (f := fun _ => (#[] : Array Value)) (t' := s.toks) upd_same hS rfl .nil (Nat.zero_le _)
  obtain ⟨_, its2, n2, r2, hl2, e2⟩ := I2.lstM (l := s.heap.objs.size) (xs := []) upd_same
  cases r2
  refine wpAny_bind (wpAny_letGo ?_)
  have hzS : z ≠ s.heap.objs.size := Nat.ne_of_lt (Heap.lt_size hz0)
  have keep1 : ∀ c o, s.heap.get? c = some o → ((s.heap.push { cls := .type "list", data := .seq #[] }).update s.heap.objs.size (Obj.mapSeq fun _ => (#[] : Array Value))).get? c = some o := fun c o e =>
    (Heap.get?_update_other _ _ (Nat.ne_of_gt (Heap.lt_size e))).trans (Heap.get?_push_of_some _ e)
  have hT : ∀ s2 : Shared, (∀ c o, s.heap.get? c = some o → s2.heap.get? c = some o) → s2.TypeIs (.ref z) "zip" := fun s2 k => ⟨_, k _ _ hz0, rfl⟩
  unfold Builtin.List.listExtendWith
  refine wpAny_bind (wpAny_typeOf (T := "zip") (hT _ keep1) ?_)
  have h1 : Builtin.List.listSameRef (.ref s.heap.objs.size) (.ref z) = false := by simp [Builtin.List.listSameRef, Ne.symm hzS]
  have h2 : (Value.type "zip" == Value.type "list") = false := by decide
  have h3 : (Value.type "zip" == Value.type "tuple") = false := by decide
  simp only [h1, h2, h3, Bool.or_false, Bool.false_eq_true, if_false]
  refine wpAny_bind (wpAny_pyIter_zip (keep1 _ _ hz0) ?_)
  refine wpAny_bind (wpAny_holding ?_)
  unfold Builtin.List.listLengthHint
  refine wpAny_bind (wpAny_specialOf (hT _ keep1) zip_no_len ?_)
  show wpAny _ _ (specialOf (Value.ref z) (Str.ofString "__length_hint__") >>= _) _ _ _
  refine wpAny_bind (wpAny_specialOf (hT _ keep1) zip_no_hint ?_)
  refine wpAny_pure ?_
  show wpAny _ _ (rule "list.extend.makes-room" >>= fun _ => Builtin.List.listTouch (.ref s.heap.objs.size) >>= fun _ =>
    again (.builtin "list.extend.loop" ⟨[.ref s.heap.objs.size, .ref z, .none], []⟩)) _ _ _
  refine wpAny_bind (wpAny_rule ?_)
  refine wpAny_bind ?_
  show wpAny _ _ (updateSeq s.heap.objs.size (·.push .none) >>= fun _ => updateSeq s.heap.objs.size (·.pop)) _ _ _
  refine wpAny_bind (wpAny_updateSeq e2 rfl ?_)
  have I3 := I2.lset (ys := [.non]) (its' := [.none]) (f := (·.push Value.none)) (t' := s.toks) upd_same e2 (by simp) (.cons rfl .nil) (by rw [sizeLine_eq]; decide)
  obtain ⟨_, its3, n3, r3, hl3, e3⟩ := I3.lstM (l := s.heap.objs.size) (xs := [.non]) upd_same
  refine wpAny_updateSeq (hz := by rw [List.size_toArray, ← hl3, sizeLine_eq]; decide) (_hz' := by rw [Array.size_pop, List.size_toArray, ← hl3, sizeLine_eq]; decide) e3 rfl ?_
  have I4 := I3.lset (ys := []) (its' := []) (f := (·.pop)) (t' := s.toks) upd_same e3 (by
    cases r3 with
    | cons a b => cases b; rfl) .nil (Nat.zero_le _)
  have hup : ∀ c, c ≠ s.heap.objs.size → upd (upd (upd (upd H s.heap.objs.size (.lst [])) s.heap.objs.size (.lst [])) s.heap.objs.size (.lst [.non])) s.heap.objs.size (.lst []) c = H c := fun c hc => by
    rw [upd_ne hc, upd_ne hc, upd_ne hc, upd_ne hc]
  have keep4 : ∀ c o, s.heap.get? c = some o → ((((s.heap.push { cls := .type "list", data := .seq #[] }).update s.heap.objs.size (Obj.mapSeq fun _ => (#[] : Array Value))).update s.heap.objs.size (Obj.mapSeq (·.push Value.none))).update s.heap.objs.size (Obj.mapSeq (·.pop))).get? c = some o := fun c o e => by
    have hc := Nat.ne_of_gt (Heap.lt_size e)
    exact (Heap.get?_update_other _ _ hc).trans ((Heap.get?_update_other _ _ hc).trans (keep1 c o e))
  refine wpAny_pure ⟨plainId_quiet PySem.F.plain_extend_loop _, ?_⟩
  refine zl_loop (A := X.A.in1) (H0 := H) D hh hz hq1 hq2 (fun hm => absurd (hf _ hm).2 (Nat.lt_irrefl _)) (fun s' H' rs J hS' hl hP hx => ?_) _ 0 _ _ [] rfl (Nat.zero_le _) I4 upd_same rfl (fun j r hj => by simp at hj) (fun c u hc hu => by rw [hup c hc]; exact hu) (fun a ps ha => ne_of_none ha hn) (fun a ob ps ha => ne_of_none ha hn) (st.keep fun c o hc _ => keep4 c o hc) fun c hc => ?_
  · exact ⟨rfl, hQ s' H' rs _ J hn hS' hl hP fun c u hu => hx c u (ne_of_none hu hn) hu⟩
  · obtain ⟨⟨f1, f2⟩, hlt⟩ := hf c hc
    refine ⟨⟨(hup c (Nat.ne_of_lt hlt)).trans f1, f2⟩, ?_⟩
    show c < (Heap.update _ _ _).objs.size
    rw [Heap.size_update, Heap.size_update, Heap.size_update, Heap.size_push]
    exact Nat.lt_succ_of_lt hlt
end
/-- list(zip(t1, t2)) of two tuples -/
def tLZip (K : PySem.W.Frag) (ta : TA) : TE := fun σ H Q => ta σ H fun vs H1 => ∃ a b xs ys, vs = [.ref a, .ref b] ∧ SqT K H1 a xs ∧ SqT K H1 b ys ∧ xs.length ≤ 1000000 ∧
  ∀ S H2 rs, H1 S = none → H2 S = some (.lst rs) → rs.length = min xs.length ys.length → PairsAt H2 rs xs ys → (∀ c u, H1 c = some u → H2 c = some u) → Q (.ref S) H2
theorem pe_lzip {X : Cx} {e e2 : Expr} {ta : TA} {p p' p2 pos : Pos} (hc : X.calm = true) (hgl : Gl X "list") (hml : X.mg "list" = none) (hg : Gl X "zip") (hm : X.mg "zip" = none) (ha : PA X [e, e2] ta)
    (hs : starEach [e, e2] X.env = (false, eval e X.env) :: starEach [e2] X.env := by rfl) (hpl : (backTo p2 (starEach [e2] X.env)).any (·.1) = false := by rfl)
    (hs1 : starEach [.Call (.Name "zip" p') [e, e2] [] p2] X.env = (false, eval (.Call (.Name "zip" p') [e, e2] [] p2) X.env) :: starEach [] X.env := by rfl) :
    PE X (.Call (.Name "list" p) [.Call (.Name "zip" p') [e, e2] [] p2] [] pos) (tLZip X.K ta) := by
  refine ⟨fun pins s σ H Q I h => ?_⟩
  refine wpAny_Call_Name_kw (ld_blt I hgl hml (show bootBuiltins "list" = some (.type "list") by decide +kernel) ?_ (by decide) (by decide))
  refine PyProof.Rows.callWith_type1 ?_ hs1 rfl
  refine PyProof.Rows.args_cons ?_ hs1
  refine PyProof.Rows.Call_ (ld_blt I hg hm PyProof.Rows.boot_zip (PyProof.Rows.callWith_type1 (thn (ha.run p2 pins s σ H _ I h) fun us s1 ⟨vs, H1, I1, r1, q1⟩ => ?_) hs hpl))
  obtain ⟨a, b, xs, ys, ex, hqx, hqy, hz, q⟩ := q1
  subst ex
  cases r1 with
  | cons r rr =>
    cases rr with
    | cons r' rr =>
      cases rr
      cases r
      cases r'
      obtain ⟨its, rv, p1, _⟩ := I1.tuple hqx
      obtain ⟨its2, rv2, p2, _⟩ := I1.tuple hqy
      obtain ⟨o1, ho1, _⟩ := id p1
      obtain ⟨o2, ho2, _⟩ := id p2
      refine call_zipT (show s1.heap.IsTuple a its.toArray from p1) (show s1.heap.IsTuple b its2.toArray from p2) fun h' hz' hTI hTO h1 h2 hsz hk => PyProof.Rows.args_nil ?_
      have I2 : Inv X pins σ H1 { s1 with heap := h' } := I1.kept (t' := s1.toks) hk
      refine call_listzip I2 (PySem.W.ktu_apart s1.heap.objs.size a b (Heap.lt_size ho1) (Heap.lt_size ho2)) (I2.ok.hd hc) hz hqx hqy hz' ⟨hTI, h1, h2, .inl ⟨hz', _, _, hTO⟩⟩ (fun c hcm => ?_) fun s' H' rs S J hn hS' hl hP hx => ⟨.ref S, H', J, rfl, q S H' rs hn hS' hl hP hx⟩
      have e' : c = s1.heap.objs.size + 4 ∨ c = s1.heap.objs.size + 2 ∨ c = s1.heap.objs.size + 3 ∨ c = s1.heap.objs.size ∨ c = s1.heap.objs.size + 1 := by simpa using hcm
      have hle : s1.heap.objs.size ≤ c ∧ c < s1.heap.objs.size + 5 := by
        rcases e' with z | z | z | z | z <;> subst z
        · exact ⟨Nat.le_add_right _ _, Nat.add_lt_add_left (by decide) _⟩
        · exact ⟨Nat.le_add_right _ _, Nat.add_lt_add_left (by decide) _⟩
        · exact ⟨Nat.le_add_right _ _, Nat.add_lt_add_left (by decide) _⟩
        · exact ⟨Nat.le_refl _, Nat.lt_add_of_pos_right (by decide)⟩
        · exact ⟨Nat.le_add_right _ _, Nat.add_lt_add_left (by decide) _⟩
      exact ⟨I1.fpOk hle.1 (I1.hok.fresh hle.1), by show c < h'.objs.size; rw [hsz]; exact hle.2⟩
@[simp] def bLZip : List W → M W := fun ws st => match ws with
  | [.tup xs, .tup ys] => if sml xs.length = true then some (.ref st.length, st ++ [.lst ((xs.zip ys).map fun p => .tup [p.1, p.2])]) else none
  | _ => none
theorem pairs_rws {K : PySem.W.Frag} {β : List Addr} {H : Hp} : ∀ {xs ys : List W} {vs us rs : List V}, RWs K β H xs vs → RWs K β H ys us → rs.length = min vs.length us.length → PairsAt H rs vs us → RWs K β H ((xs.zip ys).map fun p => W.tup [p.1, p.2]) rs
  | [], _, _, _, rs, .nil, _, hl, _ => by
    have : rs = [] := List.eq_nil_of_length_eq_zero (by simpa using hl)
    subst this; exact .nil
  | _ :: _, [], _, _, rs, .cons _ _, .nil, hl, _ => by
    have : rs = [] := List.eq_nil_of_length_eq_zero (by simpa using hl)
    subst this; exact .nil
  | x :: xs, y :: ys, _, _, [], .cons r t, .cons r2 t2, hl, _ => by simp at hl
  | x :: xs, y :: ys, _, _, q :: rs, .cons r t, .cons r2 t2, hl, hP => by
    obtain ⟨T, a, b, e1, e2, e3, e4⟩ := hP 0 q rfl
    simp at e2 e3
    subst e1 e2 e3
    refine .cons (.tup (.inl e4) (.cons r (.cons r2 .nil))) (pairs_rws t t2 (by simpa using hl) fun j w hj => ?_)
    obtain ⟨T', a, b, e1, e2, e3, e4⟩ := hP (j + 1) w (by simpa using hj)
    exact ⟨T', a, b, e1, by simpa using e2, by simpa using e3, e4⟩
theorem se_lzip {X : Cx} {e e2 : Expr} {ta : AM} {p p' p2 pos : Pos} (hc : X.calm = true) (hgl : Gl X "list") (hml : X.mg "list" = none) (hg : Gl X "zip") (hm : X.mg "zip" = none) (ha : SA X [e, e2] ta)
    (hs : starEach [e, e2] X.env = (false, eval e X.env) :: starEach [e2] X.env := by rfl) (hpl : (backTo p2 (starEach [e2] X.env)).any (·.1) = false := by rfl)
    (hs1 : starEach [.Call (.Name "zip" p') [e, e2] [] p2] X.env = (false, eval (.Call (.Name "zip" p') [e, e2] [] p2) X.env) :: starEach [] X.env := by rfl) :
    SE X (.Call (.Name "list" p) [.Call (.Name "zip" p') [e, e2] [] p2] [] pos) (eCall bLZip ta) := by
  refine ⟨PEimp (pe_lzip hc hgl hml hg hm ha.pa hs hpl hs1) ?_⟩
  rintro σ H Q ⟨β, st, env, w, st', hE, hS, hm, k⟩
  obtain ⟨ws, st1, h1, h2⟩ := bnd_some hm
  refine ⟨β, st, env, ws, st1, hE, hS, h1, fun vs H1 β1 e1 s1 r1 => ?_⟩
  unfold bLZip at h2
  split at h2
  · rename_i xs ys
    split at h2
    · rename_i hz
      cases h2
      obtain ⟨v, u, rfl, ra, rb⟩ := rws2 r1
      cases ra with
      | @tup a _ vs hq r =>
        cases rb with
        | @tup b _ us hp r2 =>
          refine ⟨a, b, vs, us, rfl, hq.sq, hp.sq, by rw [← r.length]; exact sml_le hz, fun S H2 rs hn hS' hl hP hx => ?_⟩
          have ex : Ext β1 H1 (β1 ++ [S]) H2 := ⟨⟨[S], rfl⟩, fun a xs h => hx _ _ h, fun a o v h => hx _ _ h⟩
          have s2 : RS X.K (β1 ++ [S]) H2 (st1 ++ [.lst ((xs.zip ys).map fun p => .tup [p.1, p.2])]) := by
            have hb : S ∉ β1 := fun hm => by
              obtain ⟨i, hi, e⟩ := List.mem_iff_getElem.mp hm
              have hs : i < st1.length := by rw [← s1.len]; exact hi
              obtain ⟨a, ha, r⟩ := s1.ob i st1[i] (by simp [hs])
              rw [List.getElem?_eq_getElem hi, e] at ha
              cases ha
              obtain ⟨z, hz⟩ := r.there
              rw [hn] at hz; cases hz
            refine ⟨by simp [s1.len], ?_, fun i q hi => ?_⟩
            · rw [List.nodup_append]
              exact ⟨s1.nd, by simp, fun a ha b hb' => by simp at hb'; subst hb'; exact fun z => hb (z ▸ ha)⟩
            · by_cases hl' : i < st1.length
              · rw [List.getElem?_append_left hl'] at hi
                obtain ⟨a, ha, r⟩ := s1.ob i q hi
                refine ⟨a, ex.ix ha, ?_⟩
                cases q with
                | lst zs => obtain ⟨ws, e1, r⟩ := r; exact ⟨ws, hx _ _ e1, r.ext ex⟩
                | dct zs => obtain ⟨ws, e1, r⟩ := r; exact ⟨ws, hx _ _ e1, r.ext ex⟩
                | dtt zs => obtain ⟨ws, e1, r⟩ := r; exact ⟨ws, hx _ _ e1, r.ext ex⟩
              · rw [List.getElem?_append_right (by omega)] at hi
                have h0 : i - st1.length = 0 := by
                  have := (List.getElem?_eq_some_iff.mp hi).1
                  simp at this; omega
                rw [h0] at hi
                simp at hi
                subst hi
                refine ⟨S, by rw [List.getElem?_append_right (by rw [s1.len]; omega)]; simp [s1.len, h0], rs, hS', pairs_rws (r.ext ex) (r2.ext ex) hl hP⟩
          exact k _ _ _ (e1.trans ex) s2 (.ref (alloc_ix s1))
    · cases h2
  · cases h2
end B

set_option Elab.async false
set_option linter.all false
set_option maxRecDepth 100000
set_option maxHeartbeats 1000000
namespace B
open PySem PySem.Spec L2
set_option autoImplicit false

/-! ### dicts by ints and texts -/
@[simp] def keyW : W → Option Key
  | .int i => some (.inl i)
  | .str x => some (.inr x)
  | _ => none
def valW {T : Type} [DecidableEq T] (kvs : List (T × W)) (k : T) : Option W := (kvs.find? fun kv => decide (kv.1 = k)).map (·.2)
def putW {T : Type} [DecidableEq T] (kvs : List (T × W)) (k : T) (v : W) : List (T × W) :=
  if (kvs.any fun kv => decide (kv.1 = k)) = true then kvs.map (fun kv => if kv.1 = k then (kv.1, v) else kv) else kvs ++ [(k, v)]
section
variable {K : PySem.W.Frag} {β : List Addr} {H : Hp}
theorem keyW_ok {w : W} {v : V} {k : Key} (r : RW K β H w v) (h : keyW w = some k) : v = kV k := by
  unfold keyW at h
  cases r <;> first | (cases h; done) | (cases h; rfl)
theorem RKs.length {T : Type} [DecidableEq T] {ks : List (T × W)} {vs : List (T × V)} (r : RKs K β H ks vs) : ks.length = vs.length := by
  induction ks generalizing vs with
  | nil => cases r; rfl
  | cons p ps ih => cases r with | cons r t => simp [ih t]
theorem RKs.val {T : Type} [DecidableEq T] (k : T) : ∀ {ks : List (T × W)} {vs : List (T × V)}, RKs K β H ks vs → (valW ks k = none ∧ valV vs k = none) ∨ ∃ w v, valW ks k = some w ∧ valV vs k = some v ∧ RW K β H w v
  | [], _, .nil => .inl ⟨rfl, rfl⟩
  | (j, x) :: ks, _, .cons r t => by
    by_cases e : j = k
    · refine .inr ⟨x, _, ?_, ?_, r⟩
      · simp [valW, e]
      · exact valV_pos e
    · rcases RKs.val k t with ⟨a, b⟩ | ⟨w, v, a, b, c⟩
      · refine .inl ⟨?_, ?_⟩
        · simpa [valW, e] using a
        · rw [valV_neg e]; exact b
      · refine .inr ⟨w, v, ?_, ?_, c⟩
        · simpa [valW, e] using a
        · rw [valV_neg e]; exact b
theorem RKs.any {T : Type} [DecidableEq T] (k : T) {ks : List (T × W)} {vs : List (T × V)} (r : RKs K β H ks vs) : (ks.any fun kv => decide (kv.1 = k)) = vs.any fun kv => decide (kv.1 = k) := by
  induction ks generalizing vs with
  | nil => cases r; rfl
  | cons p ps ih => cases r with | cons r t => simp [ih t]
theorem RKs.repl {T : Type} [DecidableEq T] (k : T) {y : W} {u : V} (ry : RW K β H y u) {ks : List (T × W)} {vs : List (T × V)} (r : RKs K β H ks vs) :
    RKs K β H (ks.map fun kv => if kv.1 = k then (kv.1, y) else kv) (vs.map fun kv => if kv.1 = k then (kv.1, u) else kv) := by
  induction ks generalizing vs with
  | nil => cases r; exact .nil
  | cons p ps ih =>
    cases r with
    | @cons j x v _ vs r t =>
      rw [List.map_cons, List.map_cons]
      by_cases e : j = k
      · simp only [e, if_true]
        exact .cons ry (by simpa using ih t)
      · simp only [e, if_false]
        exact .cons r (ih t)
theorem RKs.snoc {T : Type} [DecidableEq T] {k : T} {y : W} {u : V} (ry : RW K β H y u) {ks : List (T × W)} {vs : List (T × V)} (r : RKs K β H ks vs) : RKs K β H (ks ++ [(k, y)]) (vs ++ [(k, u)]) := by
  induction ks generalizing vs with
  | nil => cases r; exact .cons ry .nil
  | cons p ps ih => cases r with | cons r t => exact .cons r (ih t)
theorem RKs.put {T : Type} [DecidableEq T] {k : T} {y : W} {u : V} (ry : RW K β H y u) {ks : List (T × W)} {vs : List (T × V)} (r : RKs K β H ks vs) : RKs K β H (putW ks k y) (putK vs k u) := by
  unfold putW putK
  rw [r.any k]
  split
  · exact r.repl k ry
  · exact r.snoc ry
theorem chg_dct {st : Sto} (hS : RS K β H st) {i : Nat} {a : Addr} {ys zs : List (Key × W)} {vs us : List (Key × V)} (ha : β[i]? = some a) (hi : st[i]? = some (.dct ys)) (e : H a = some (.dK vs)) (r : RKs K β H zs us) :
    Ext β H β (upd H a (.dK us)) ∧ RS K β (upd H a (.dK us)) (st.set i (.dct zs)) := by
  have ec : Ext β H β (upd H a (.dK us)) := Ext.chg e (fun _ z => (nomatch z)) (fun _ _ z => (nomatch z))
  exact hS.chg hi ha (u := .dK us) (o' := .dct zs) ⟨_, upd_same, r.ext ec⟩
end
@[simp] def dctOf (w : W) (st : Sto) : Option (Nat × List (Key × W)) := match w with
  | .ref i => match st[i]? with
    | some (.dct xs) => some (i, xs)
    | _ => none
  | _ => none
theorem dct_ok {K : PySem.W.Frag} {β : List Addr} {H : Hp} {st : Sto} {w : W} {v : V} {i : Nat} {xs : List (Key × W)} (hS : RS K β H st) (r : RW K β H w v) (h : dctOf w st = some (i, xs)) :
    ∃ a vs, v = .ref a ∧ β[i]? = some a ∧ st[i]? = some (.dct xs) ∧ H a = some (.dK vs) ∧ RKs K β H xs vs := by
  unfold dctOf at h
  cases r with
  | ref hb =>
    dsimp only at h
    split at h
    · rename_i xs hi
      cases h
      obtain ⟨vs, e, r⟩ := rs_dct hS hb hi
      exact ⟨_, vs, rfl, hb, hi, e, r⟩
    · cases h
  | _ => cases h
@[simp] def eDict0 : EM := fun _ st => some (.ref st.length, st ++ [.dct []])
@[simp] def fDGet : W → W → M W := fun x y st => match dctOf x st, keyW y with
  | some (_, kvs), some k => match valW kvs k with
    | some w => some (w, st)
    | none => none
  | _, _ => none
/-- y in d -/
@[simp] def fDIn : W → W → M W := fun y x st => match dctOf x st, keyW y with
  | some (_, kvs), some k => some (.bl (valW kvs k).isSome, st)
  | _, _ => none
@[simp] def sDSet (o i e : EM) : SM := fun env => bnd (e env) fun y => bnd (o env) fun x => bnd (i env) fun j => fun st => match dctOf x st, keyW j with
  | some (q, kvs), some k => if sml kvs.length = true then some ((.nx, env), st.set q (.dct (putW kvs k y))) else none
  | _, _ => none
@[simp] def eSetD (o a b : EM) : EM := fun env => bnd (o env) fun x => bnd (fun st => match dctOf x st with
  | some _ => some ((), st)
  | none => none) fun _ => bnd (a env) fun j => bnd (b env) fun y => fun st => match dctOf x st, keyW j with
  | some (q, kvs), some k => if sml kvs.length = true then (match valW kvs k with
      | some w => some (w, st)
      | none => some (y, st.set q (.dct (putW kvs k y)))) else none
  | _, _ => none
section
variable {X : Cx}
theorem se_dict0 {pos : Pos} : SE X (.Dict [] [] pos) eDict0 := by
  refine ⟨PEimp pe_dnewK ?_⟩
  rintro σ H Q ⟨β, st, env, w, st', hE, hS, hm, k⟩
  cases hm
  intro p hf
  have e : Ext β H (β ++ [p]) (upd H p (.dK [])) := Ext.alloc hf
  exact k _ _ _ e (hS.alloc hf ⟨_, upd_same, .nil⟩) (.ref (alloc_ix hS))
theorem se_dget {o i : Expr} {mo mi : EM} {pos : Pos} (hu : X.A.units + 1 < cLine) (ho : SE X o mo) (hi : SE X i mi) (hs : NoSl i := by exact fun _ _ => rfl) : SE X (.Subscript o i pos) (eOp fDGet mo mi) := by
  refine ⟨PEimp (pe_dget hu ho.pe hi.pe hs) ?_⟩
  rintro σ H Q ⟨β, st, env, w, st', hE, hS, hm, k⟩
  obtain ⟨x, st1, h1, h2⟩ := bnd_some hm
  obtain ⟨y, st2, h3, h4⟩ := bnd_some h2
  refine ⟨β, st, env, x, st1, hE, hS, h1, fun v H1 β1 e1 s1 r1 => ⟨β1, st1, env, y, st2, hE.ext e1, s1, h3, fun u H2 β2 e2 s2 r2 => ?_⟩⟩
  unfold fDGet at h4
  split at h4
  · rename_i q kvs kk hd hk
    split at h4
    · rename_i w' hw
      cases h4
      obtain ⟨a, vs, rfl, hb, hi, e, r⟩ := dct_ok s2 (r1.ext' e2) hd
      rw [keyW_ok r2 hk]
      rcases r.val kk with ⟨z, _⟩ | ⟨w2, v2, z1, z2, z3⟩
      · rw [z] at hw; cases hw
      · rw [z1] at hw; cases hw
        refine ⟨a, v2, rfl, ?_, k _ H2 β2 (e1.trans e2) s2 z3⟩
        rw [← z2]
        exact DGet.k e
    · cases h4
  · cases h4
theorem din_of {y x : EM} {σ : L2.St} {H : Hp} {Q : VK} (h : tM X.K (eOp fDIn y x) σ H Q) : tDIn (tM X.K y) (tM X.K x) σ H Q := by
  obtain ⟨β, st, env, w, st', hE, hS, hm, k⟩ := h
  obtain ⟨y, st1, h1, h2⟩ := bnd_some hm
  obtain ⟨x, st2, h3, h4⟩ := bnd_some h2
  refine ⟨β, st, env, y, st1, hE, hS, h1, fun v H1 β1 e1 s1 r1 => ⟨β1, st1, env, x, st2, hE.ext e1, s1, h3, fun u H2 β2 e2 s2 r2 => ?_⟩⟩
  unfold fDIn at h4
  split at h4
  · rename_i q kvs kk hd hk
    cases h4
    obtain ⟨a, vs, rfl, hb, hi, e, r⟩ := dct_ok s2 r2 hd
    rw [keyW_ok (r1.ext' e2) hk]
    refine ⟨a, valV vs kk, rfl, DGet.k e, ?_⟩
    rcases r.val kk with ⟨z1, z2⟩ | ⟨w2, v2, z1, z2, z3⟩
    · rw [z2]; rw [z1] at k; exact k _ H2 β2 (e1.trans e2) s2 (.bl _)
    · rw [z2]; rw [z1] at k; exact k _ H2 β2 (e1.trans e2) s2 (.bl _)
  · cases h4
theorem se_din {o i : Expr} {mo mi : EM} {pos : Pos} (hu : X.A.units + 1 < cLine) (hi : SE X i mi) (ho : SE X o mo) (h1 : behindInMarks .In o = false := by rfl) : SE X (.Compare i [.In] [o] pos) (eOp fDIn mi mo) :=
  ⟨PEimp (pe_cmp (pc_din hu hi.pe ho.pe) h1) fun _ _ _ h => din_of h⟩
theorem st_din {o i : Expr} {mo mi : EM} {pos : Pos} (hu : X.A.units + 1 < cLine) (hi : SE X i mi) (ho : SE X o mo) (h1 : behindInMarks .In o = false := by rfl) : ST X (.Compare i [.In] [o] pos) (tBl (eOp fDIn mi mo)) := by
  refine ⟨PTimp (pt_cmp (pc_din hu hi.pe ho.pe) h1) fun σ H Q h => ?_⟩
  exact din_of (tM_bl h)
theorem ss_dput {o i e : Expr} {mo mi me : EM} {pos pos' : Pos} (hu : X.A.units + 1 < cLine) (ho : SE X o mo) (hi : SE X i mi) (he : SE X e me) (hs : swapsWith e (some (.Subscript o i pos')) pos.line X.env = pure false := by rfl) :
    SS X (.Assign [.Subscript o i pos'] e pos) (sDSet mo mi me) := by
  refine ⟨PSimp (ps_dput hu ho.pe hi.pe he.pe hs) ?_⟩
  rintro D σ H ⟨β, st, env, fl, env', st', hE, hS, hm, k⟩
  obtain ⟨y, st1, h1, h2⟩ := bnd_some hm
  obtain ⟨x, st2, h3, h4⟩ := bnd_some h2
  obtain ⟨j, st3, h5, h6⟩ := bnd_some h4
  refine ⟨β, st, env, y, st1, hE, hS, h1, fun vy H1 β1 e1 s1 r1 => ⟨β1, st1, env, x, st2, hE.ext e1, s1, h3, fun vx H2 β2 e2 s2 r2 => ⟨β2, st2, env, j, st3, (hE.ext e1).ext e2, s2, h5, fun vj H3 β3 e3 s3 r3 => ?_⟩⟩⟩
  split at h6
  · rename_i q kvs kk hd hk
    split at h6
    · rename_i hz
      cases h6
      obtain ⟨a, vs, rfl, hb, hi, e, r⟩ := dct_ok s3 (r2.ext' e3) hd
      rw [keyW_ok r3 hk]
      obtain ⟨ec, sc⟩ := chg_dct s3 hb hi e (r.put (k := kk) ((r1.ext' e2).ext' e3))
      refine ⟨a, _, rfl, DPut.k e (by rw [← r.length]; exact sml_line hz), k _ _ _ (((e1.trans e2).trans e3).trans ec) sc ((((hE.ext e1).ext e2).ext e3).ext ec)⟩
    · cases h6
  · cases h6
theorem se_setd {o a b : Expr} {mo ma mb : EM} {apos cpos : Pos} (ho : SE X o mo) (ha : SE X a ma) (hb : SE X b mb) (m : M2 X o "setdefault" apos a b cpos) : SE X (.Call (.Attribute o "setdefault" apos) [a, b] [] cpos) (eSetD mo ma mb) := by
  refine ⟨PEimp (pe_dsetd ho.pe ha.pe hb.pe m) ?_⟩
  rintro σ H Q ⟨β, st, env, w, st', hE, hS, hm, k⟩
  obtain ⟨x, st1, h1, h2⟩ := bnd_some hm
  obtain ⟨_, st2, h3, h4⟩ := bnd_some h2
  obtain ⟨j, st3, h5, h6⟩ := bnd_some h4
  obtain ⟨y, st4, h7, h8⟩ := bnd_some h6
  refine ⟨β, st, env, x, st1, hE, hS, h1, fun v H1 β1 e1 s1 r1 => ?_⟩
  split at h3
  · rename_i qk hd
    cases h3
    obtain ⟨q0, kvs0⟩ := qk
    obtain ⟨a0, vs0, rfl, hb0, hi0, e0, r0⟩ := dct_ok s1 r1 hd
    refine ⟨a0, rfl, .inl ⟨vs0, .inl e0⟩, β1, _, env, j, st3, hE.ext e1, s1, h5, fun vj H2 β2 e2 s2 r2 => ⟨β2, st3, env, y, st4, (hE.ext e1).ext e2, s2, h7, fun vy H3 β3 e3 s3 r3 => ?_⟩⟩
    split at h8
    · rename_i q kvs kk hd hk
      split at h8
      · rename_i hz
        obtain ⟨a, vs, ea, hb, hi, e, r⟩ := dct_ok s3 ((r1.ext' e2).ext' e3) hd
        cases ea
        refine ⟨vs, kk, e, keyW_ok (r2.ext' e3) hk, by rw [← r.length]; exact sml_line hz, fun v0 hv => ?_, fun hv => ?_⟩
        · rcases r.val kk with ⟨_, z⟩ | ⟨w2, v2, z1, z2, z3⟩
          · rw [z] at hv; cases hv
          · rw [z2] at hv; cases hv
            rw [z1] at h8
            cases h8
            exact k _ H3 β3 ((e1.trans e2).trans e3) s3 z3
        · rcases r.val kk with ⟨z, _⟩ | ⟨w2, v2, z1, z2, z3⟩
          · rw [z] at h8
            cases h8
            obtain ⟨ec, sc⟩ := chg_dct s3 hb hi e (r.put (k := kk) r3)
            exact k _ _ _ (((e1.trans e2).trans e3).trans ec) sc (r3.ext' ec)
          · rw [z2] at hv; cases hv
      · cases h8
    · cases h8
  · cases h3
end

/-! ### dict != dict, None != None -/
def hitsW (ls : List (Key × W)) : List (Key × W) → Option Bool
  | [] => some true
  | (k, v) :: r => match valW ls k with
    | none => some false
    | some u => match toD v, toD u with
      | some d, some e => if (SeqAt.shaped d && SeqAt.shaped e) = true then (match hitsW ls r with
          | some b => some (PyData.eqv d e && b)
          | none => none) else none
      | _, _ => none
def eqDW (ks ls : List (Key × W)) : Option Bool := match hitsW ls ks with
  | some b => some (ks.length == ls.length && b)
  | none => none
def fNeDict : W → W → M W := fun x y st => match x, y with
  | .non, .non => some (.bl false, st)
  | _, _ => match dctOf x st, dctOf y st with
    | some (_, ks), some (_, ls) => match eqDW ks ls with
      | some b => some (.bl (!b), st)
      | none => none
    | _, _ => none
def rNeDict (K : PySem.W.Frag) : R2 := fun x y H Q => (x = .non ∧ y = .non ∧ Q (.bl false) H) ∨
  ∃ a b vs us β ks ls r, x = .ref a ∧ y = .ref b ∧ H a = some (.dK vs) ∧ H b = some (.dK us) ∧ RKs K β H ks vs ∧ RKs K β H ls us ∧ eqDW ks ls = some r ∧ Q (.bl (!r)) H
section
variable {X : Cx} {pins : List (Addr × Obj)} {σ : L2.St} {H : Hp} {s : Shared}
theorem hits_of (I : Inv X pins σ H s) {A : Around} (hu : A.in1.units + 64 < cLine) {β : List Addr} {ls : List (Key × W)} {us : List (Key × V)} {vb : List (Key × Value)} (rl : RKs X.K β H ls us) (rb : KV us vb) : ∀ {ks : List (Key × W)} {vs : List (Key × V)} {va : List (Key × Value)} {r : Bool},
    RKs X.K β H ks vs → KV vs va → hitsW ls ks = some r → PySem.W.KeqHits A.in1 s vb va r
  | [], _, _, _, .nil, ra, h => by
    cases ra
    simp only [hitsW] at h
    cases h
    exact .nil
  | (k, w) :: ks, _, _, r, .cons rw' rt, ra, h => by
    cases ra with
    | @cons p q ps qs hpq t =>
      obtain ⟨kq, vq⟩ := q
      obtain ⟨h1, h2⟩ := hpq
      have h1 : k = kq := h1
      subst h1
      simp only [hitsW] at h
      rcases rl.val k with ⟨z1, z2⟩ | ⟨w2, v2, z1, z2, z3⟩
      · rw [z1] at h
        cases h
        refine .miss ?_
        have := rb.val k
        rw [z2] at this
        exact RelO.none_of this
      · rw [z1] at h
        dsimp only at h
        split at h
        · rename_i d e hd he
          split at h
          · rename_i hc
            rw [Bool.and_eq_true] at hc
            split at h
            · rename_i b hb
              cases h
              have := rb.val k
              rw [z2] at this
              obtain ⟨y, hy, ry⟩ := RelO.some_of this
              obtain ⟨as, r1⟩ := Dp.reads I d _ _ (dp_of _ _ _ rw' hd) h2
              obtain ⟨bs, r2⟩ := Dp.reads I e _ _ (dp_of _ _ _ z3 he) ry
              exact .hit hy (PySem.W.keq_at r1 r2 hc.1 hc.2 hu) (hits_of I hu rl rb rt t hb)
            · cases h
          · cases h
        · cases h
end
section
variable {X : Cx}
theorem op_neDict (hu : X.A.units + 100 < cLine) : OpR X (compareOp .NotEq) (rNeDict X.K) := by
  intro pins s σ H x y v u Q I rx ry h
  rcases h with ⟨rfl, rfl, q⟩ | ⟨a, b, vs, us, β, ks, ls, r, rfl, rfl, ha, hb, ra, rb, hr, q⟩
  · cases rx
    cases ry
    exact PySem.EqNone.ne_none_none ⟨.bl false, H, I, rfl, q⟩
  · cases rx
    cases ry
    obtain ⟨_, ya, va, ka, da⟩ := dk_of I.hok ha
    obtain ⟨_, yb, vb, kb, db⟩ := dk_of I.hok hb
    unfold eqDW at hr
    split at hr
    · rename_i b0 hb0
      cases hr
      refine PySem.W.keq_ne (knd := mixKind X.prog X.w) (r := b0) ya yb da db (by omega) (fun _ => hits_of I (A := X.A) (by show X.A.units + 1 + 64 < cLine; omega) rb kb ra ka hb0) ⟨.bl (!(va.length == vb.length && b0)), H, I, rfl, ?_⟩
      rw [← ka.length, ← kb.length, ← ra.length, ← rb.length]
      exact q
    · cases hr
theorem ref_neDict {K : PySem.W.Frag} : Ref2 K fNeDict (rNeDict K) := by
  intro β H st st' x y w vx vy Q hS rx ry hm k
  unfold fNeDict at hm
  split at hm
  · cases hm
    exact .inl ⟨rx.non_inv, ry.non_inv, k _ H β .refl hS (.bl _)⟩
  · split at hm
    · rename_i q1 ks q2 ls h1 h2
      split at hm
      · rename_i b hb
        cases hm
        obtain ⟨a, vs, rfl, _, _, e, r⟩ := dct_ok hS rx h1
        obtain ⟨a2, vs2, rfl, _, _, e2, r2⟩ := dct_ok hS ry h2
        exact .inr ⟨a, a2, vs, vs2, β, ks, ls, b, rfl, rfl, e, e2, r, r2, hb, k _ H β .refl hS (.bl _)⟩
      · cases hm
    · cases hm
end
end B

set_option Elab.async false
set_option linter.all false
set_option maxRecDepth 100000
set_option maxHeartbeats 4000000
namespace B
open PySem PySem.Spec PyProof.Rows L2 PpSet
set_option autoImplicit false

/-! ### sets of ints (the ways of the library's lemmas for tuples and truth values, gone for lists and ints) -/
section
variable {P : Program} {w : World} {A : Around} {E : Value → Shared → Prop} {s : Shared}
theorem call_set_lstI {l : Addr} {items : Array Value} (ns : List Int) {Q : Value → Shared → Prop} (hh : A.handled = none) (hl : s.heap.IsList l items) (hit : IntsAre items.toList ns) (hb : ns.length + 1 < scanBound)
    (h : ∀ (h' : Heap) (tk c : Nat), SetR w h' s.heap.objs.size (fun j => decide (j ∈ ns)) c → c ≤ ns.length → (∀ b o, s.heap.get? b = some o → h'.get? b = some o) → Q (.ref s.heap.objs.size) { s with heap := h', toks := tk }) :
    wpAny (model P w) A (call (.type "set") [.ref l]) Q E s := by
  have hisz : items.size = ns.length := by
    have q := IntsAre.length hit
    rw [Array.length_toList] at q
    exact q
  obtain ⟨c, tl, hmro⟩ := F.called_set.mro
  have hmade := F.called_set.made
  have hsub := F.called_set.sub
  refine wpAny_call (codeAny_of_tree ?_)
  show wpAny _ _ (callAny (.type "set") _) _ _ _
  refine wpAny_pure ⟨Code.quiet_builtin _ (by decide +kernel), codeAny_builtin F.entry_type_call ?_⟩
  rw [Around.under_plain (weight_type_call_type "set" [.ref l] []) rfl]
  have h1 := F.called_set.notType
  have h2 := F.called_set.canCreate
  have hct := F.typeCall_set_1 (.ref l)
  repeat (any_goals (first | assumption | wp_step))

  refine codeAny_mono (code_set_led1 (.ref l) (E := E) (Q₁ := fun obj s₁ => obj = .ref s.heap.objs.size ∧ s₁ = { s with heap := s.heap.push { cls := .type "set", dict := none, data := .set #[] 0 (.fresh 0 0 (!w.params.followText "set-order")) } }) ⟨rfl, rfl⟩) fun r s₁ hr => ?_
  cases r with
  | error e => exact hr
  | ok fl =>
    cases fl with
    | ret obj =>
      obtain ⟨rfl, rfl⟩ := hr
      have hS : (s.heap.push { cls := .type "set", dict := none, data := .set #[] 0 (.fresh 0 0 (!w.params.followText "set-order")) }).get? s.heap.objs.size = some { cls := .type "set", dict := none, data := .set #[] 0 (.fresh 0 0 (!w.params.followText "set-order")) } := Heap.get?_push_size _ rfl
      have hT : Shared.TypeIs { s with heap := s.heap.push { cls := .type "set", dict := none, data := .set #[] 0 (.fresh 0 0 (!w.params.followText "set-order")) } } (.ref s.heap.objs.size) "set" := ⟨_, hS, rfl⟩
      have hli := F.called_set.init.lookup
      have hbi := F.called_set.init.bind (.ref s.heap.objs.size)
      repeat (any_goals (first | assumption | wp_step))

      refine codeAny_mono (codeAny_call_builtin (R := wants (fun r s₂ => r = .none ∧ ∃ h' tk c, s₂ = { s with heap := h', toks := tk } ∧ SetR w h' s.heap.objs.size (fun j => decide (j ∈ ns)) c ∧ c ≤ ns.length ∧
          (∀ b o, s.heap.get? b = some o → h'.get? b = some o)) E) F.called_set.init.plain F.entry_set_init (check_set_init_1 hT ?_)) fun r₂ s₂ hr₂ => ?_
      · obtain ⟨ol, hol, hcl, nl, hdl⟩ := hl
        obtain ⟨ocls, odict, odata, oslots⟩ := ol
        simp only at hcl hdl
        subst hcl; subst hdl
        have hol' : (s.heap.push { cls := .type "set", dict := none, data := .set #[] 0 (.fresh 0 0 (!w.params.followText "set-order")) }).get? l = some { cls := .type "list", dict := odict, data := .seq items nl, slots := oslots } := Heap.get?_push_of_some _ hol
        have hsls := F.sub_list_set
        have hslf := F.sub_list_frozenset
        have hne : (Value.type "list" == Value.type "dict") = false := by decide
        have hl1 : (s.heap.push { cls := .type "set", dict := none, data := .set #[] 0 (.fresh 0 0 (!w.params.followText "set-order")) }).IsList l items := ⟨_, hol', rfl, nl, rfl⟩
        unfold Builtin.«set.__init__» noKeywords Builtin.Frozenset.updateFrom
        generalize hPI : pyIter = PI
        wp_walk
        subst hPI

        refine wpAny_pyIter_list hl1 ?_
        refine wpAny_bind (wpAny_runValue ?_)
        have hlS : l < s.heap.objs.size := Heap.lt_size hol
        have hh3 : A.in1.in1.in1.handled = none := by simp [hh]
        have hz1 : (s.heap.push { cls := .type "set", dict := none, data := .set #[] 0 (.fresh 0 0 (!w.params.followText "set-order")) }).objs.size = s.heap.objs.size + 1 := Heap.size_push ..
        have hneI : l ≠ (s.heap.push { cls := .type "set", dict := none, data := .set #[] 0 (.fresh 0 0 (!w.params.followText "set-order")) }).objs.size := by
          rw [Heap.size_push]; exact Nat.ne_of_lt (Nat.lt_succ_of_lt hlS)
        have hSf : s.heap.objs.size ∉ [(s.heap.push { cls := .type "set", dict := none, data := .set #[] 0 (.fresh 0 0 (!w.params.followText "set-order")) }).objs.size, l] := by
          rw [Heap.size_push]; simp only [List.mem_cons, List.mem_singleton, List.not_mem_nil, or_false, not_or]
          exact ⟨Nat.ne_of_lt (Nat.lt_succ_self _), Nat.ne_of_gt hlS⟩
        have hval : ∀ (i : Nat) (v : Value), items[i]? = some v → ∃ k t, ns[i]? = some k ∧ v = .int k t := fun i v hv => by
          have hi : i < ns.length := by rw [← hisz]; exact (Array.getElem?_eq_some_iff.mp hv).1
          obtain ⟨t, e⟩ := PyProof.Rows.IntsAre.int_at hit i v (by rw [Array.getElem?_toList]; exact hv)
          refine ⟨ns[i], t, List.getElem?_eq_getElem hi, ?_⟩
          rw [e, List.getD_eq_getElem?_getD, List.getElem?_eq_getElem hi] <;> rfl
        refine set_update_ints ((Walks.list hh3 _ l hneI items).toS) s.heap.objs.size
          hSf ns hisz hb hval (items.size - 0) 0 _ (by omega) (Nat.zero_le _)
          ⟨⟨_, Heap.get?_push_size _ rfl, rfl, rfl⟩, (hl1.push _)⟩ ?hS0 ?hR
        case hS0 =>
          have hget : ((s.heap.push { cls := .type "set", dict := none, data := .set #[] 0 (.fresh 0 0 (!w.params.followText "set-order")) }).push { cls := .type "list_iterator", data := .fields #[.ref l, .int 0 0] }).get? s.heap.objs.size
              = some { cls := .type "set", dict := none, data := .set #[] 0 (.fresh 0 0 (!w.params.followText "set-order")) } := Heap.get?_push_of_some _ hS
          exact ⟨0, Nat.le_refl 0, setR_new_at hget⟩
        case hR =>
          intro s' c' hm hc' hS'
          obtain ⟨h', g2, d', tk', os'⟩ := s'
          have eg : g2 = s.gens := hm.gens
          have ed : d' = s.drawn := hm.drawn
          have eo : os' = s.os := hm.os
          subst eg; subst ed; subst eo
          show wpAny _ _ _ _ _ _
          refine wpAny_pure ?_
          show wpAny _ _ (PySem.ret Value.none) _ _ _
          rw [hisz] at hc'
          refine wpAny_pure ⟨rfl, h', tk', c', rfl, hS', hc', fun b o e => ?_⟩
          have hb0 : b < s.heap.objs.size := Heap.lt_size e
          have hb1 : b ≠ s.heap.objs.size := Nat.ne_of_lt hb0
          have hb2 : b ≠ (s.heap.push { cls := .type "set", dict := none, data := .set #[] 0 (.fresh 0 0 (!w.params.followText "set-order")) }).objs.size := by
            rw [Heap.size_push]; exact Nat.ne_of_lt (Nat.lt_succ_of_lt hb0)
          exact hm.heap b o (by simp only [List.mem_cons, List.mem_singleton, List.not_mem_nil, or_false, not_or]; exact ⟨hb1, hb2⟩) (Heap.get?_push_of_some _ (Heap.get?_push_of_some _ e))

      · cases r₂ with
        | error e => exact hr₂
        | ok fl₂ =>
          cases fl₂ with
          | ret r =>
            obtain ⟨rfl, h', tk, c', rfl, hS', hc', hk'⟩ := hr₂
            repeat (any_goals (first | assumption | wp_step))
            exact h _ _ _ hS' hc' hk'
          | _ => exact hr₂.elim
    | _ => exact hr.elim
end
section
variable {X : Cx}
theorem addI_ok {pins : List (Addr × Obj)} {σ : L2.St} {H : Hp} {s : Shared} {E : Value → Shared → Prop} {D : Addr} {S : Int → Bool} {n : Nat} {y : Int} {t : Tok} {Q : Value → Shared → Prop} (I : Inv X pins σ H s) (hD : H D = some (SetO X.w D S n)) (room : n + 1 < scanBound)
    (h : ∀ s', Inv X pins σ (upd H D (SetO X.w D (fun j => S j || decide (j = y)) (if S y = true then n else n + 1))) s' → Q .none s') : wpAny (model X.prog X.w) X.A (call (.builtin "set.add") [.ref D, .int y t]) Q E s := by
  refine setR_add (setO_get I hD) room fun h' sb new => ?_
  have he : ∃ u, h'.get? D = some u := by
    have ⟨o, _, _, _, ho, _⟩ := new
    exact ⟨o, ho⟩
  exact h _ (I.write (e := D) (t' := s.toks + 1) (by rw [hD]; trivial) (.inl rfl) (fun b u hb hu => (sb.2 b hb).trans hu) he (setO_new new))
end
section
variable {X : Cx}
/-- {elt for target in iter if ..}, elt an int: D the new set -/
def tSci (w : World) (wi : TI) (g : TG) (tt : TT) (te : TE) (vs : List Nat) : TE := fun σ H Q => wi σ H fun J H1 => ∀ D, H1 D = none → ∃ W : Nat → Nat → Hp → Prop, (∃ m, W 0 m (upd H1 D (SetO w D (fun _ => false) 0))) ∧ ∀ i m H, W i m H →
  (J.stop i H ∧ Q (.ref D) H) ∨ (J.go i H ∧ ∃ Nx : Hp → Prop, (∀ H', Nx H' → ∃ m', m' < m ∧ W (i + 1) m' H') ∧ ∀ x H', J.yld i H x H' → g x (wipe σ vs) H' fun σ2 H2 => wipe σ2 vs = wipe σ vs ∧ tt σ2 H2 fun b H3 =>
    if b = true then te σ2 H3 fun y H4 => ∃ (c : Int) (S : Int → Bool) (n : Nat), y = .int c ∧ H4 D = some (SetO w D S n) ∧ n + 1 < scanBound ∧ Nx (upd H4 D (SetO w D (fun j => S j || decide (j = c)) (if S c = true then n else n + 1))) else Nx H3)
theorem sci_core {pins : List (Addr × Obj)} {s : Shared} {σ : L2.St} {H : Hp} {Q : VK} {elt tg iter : Expr} {ifs : List Expr} {scope : Scope} {own : List (PySem.Str × Nat)} {pos pos' : Pos} {wi : TI} {g : TG} {tt : TT} {te : TE} {use : Option (Value → Sem Unit)} {Qf : Value → Shared → Prop}
    (hc : X.calm = true) (hN : X.N.Nodup) (I : Inv X pins σ H s) (hi : PI X tg iter wi) (ok : BlkOk X.N X.env.scope scope own)
    (hg : ∀ (s : Shared) (H : Hp) (C : Addr) (cl : List (PySem.Str × Addr)) (fp : List Addr), PG (X.blk s H scope (compEnvC scope cl C X.env) fp) tg g) (ht : ∀ (s : Shared) (H : Hp) (C : Addr) (cl : List (PySem.Str × Addr)) (fp : List Addr), PTs (X.blk s H scope (compEnvC scope cl C X.env) fp) ifs tt)
    (he : ∀ (s : Shared) (H : Hp) (C : Addr) (cl : List (PySem.Str × Addr)) (fp : List Addr), PE (X.blk s H scope (compEnvC scope cl C X.env) fp) elt te) (hs : ∀ x, foldedSetIterable iter X.env x = pure x)
    (h : tSci X.w wi g tt te (own.map (·.2)) σ H Q)
    (hRR : ∀ D C s' m H', Inv X pins σ H' s' → Q (.ref D) H' → s'.heap.Ns C m → FpOk X pins H' C → compPost (model X.prog X.w) X.A X.xe use Qf (.ref D) C (.ok .next) s') :
    wpAny (model X.prog X.w) X.A (comprehension (.SetComp elt [⟨tg, iter, ifs, 0⟩] scope pos) scope X.env pos' (newSet (.type "set")) false (eval iter X.env) use) Qf X.xe s := by
  have hfree : ∀ y ∈ scope.names, y.2 = .free → ∃ c, X.env.cells.lookup y.1 = some c := fun y hy e => by
    rcases ok.free y hy e with k | k
    · exact I.ok.has _ (.inl k)
    · exact I.ok.has _ (.inr k)
  refine wpAny_comprehension_free (use := use) rfl hs (closure_ok hfree) ok.kind (fun y hy e => by rw [ok.uniq y hy, e])
    (thn (hi.run pins s σ H _ I h) fun xv s1 hx => thn hx fun itv s2 h2 => ?_)
  obtain ⟨it, fp, tn, J, H2, e, I2, T, st2, f2, q⟩ := h2
  subst e
  refine newSet_ok (newEnv_comp ?_)
  generalize hD : s2.heap.objs.size = D
  have hDn : H2 D = none := I2.hok.fresh (Nat.le_of_eq hD)
  obtain ⟨W, ⟨m0, w0⟩, turn⟩ := q D hDn
  -- the new list
  generalize hs3 : ({ s2 with heap := s2.heap.push { cls := .type "set", dict := none, data := .set #[] 0 (.fresh 0 0 (!X.w.params.followText "set-order")) } } : Shared) = s3
  have I3 : Inv X pins σ (upd H2 D (SetO X.w D (fun _ => false) 0)) s3 := by
    rw [← hs3]
    refine I2.laid (t' := s2.toks) (fun b o e => Heap.get?_push_of_some _ e) (Nat.le_of_eq hD) ?_
    rw [← hD]
    exact setO_new (setR_fresh X.w)
  have h3 : s3.heap = s2.heap.push { cls := .type "set", dict := none, data := .set #[] 0 (.fresh 0 0 (!X.w.params.followText "set-order")) } := by rw [← hs3]
  have sz : ∀ b ∈ fp, b < s2.heap.objs.size := fun b hb => by
    obtain ⟨o, e, _⟩ := T.obj _ _ st2 b hb
    exact Heap.lt_size e
  have f3 : ∀ b ∈ fp, FpOk X pins (upd H2 D (SetO X.w D (fun _ => false) 0)) b ∧ b < s3.heap.objs.size := fun b hb => by
    have hlt := sz b hb
    refine ⟨⟨?_, (f2 b hb).2⟩, by rw [h3, Heap.size_push]; exact Nat.lt_succ_of_lt hlt⟩
    rw [upd_ne (by rw [← hD]; exact Nat.ne_of_lt hlt)]
    exact (f2 b hb).1
  have st3 : tn 0 s3.heap := T.keep _ _ _ st2 fun b _ o e => by rw [h3]; exact Heap.get?_push_of_some _ e
  have I4 := block_start I3 ok hN f3
  have pg := hg s3 (upd H2 D (SetO X.w D (fun _ => false) 0)) s3.heap.objs.size (cellsFrom (s3.heap.objs.size + 1) scope.names (cloFrom X.env.cells scope.names [])) fp
  have pt := ht s3 (upd H2 D (SetO X.w D (fun _ => false) 0)) s3.heap.objs.size (cellsFrom (s3.heap.objs.size + 1) scope.names (cloFrom X.env.cells scope.names [])) fp
  have pe := he s3 (upd H2 D (SetO X.w D (fun _ => false) 0)) s3.heap.objs.size (cellsFrom (s3.heap.objs.size + 1) scope.names (cloFrom X.env.cells scope.names [])) fp
  show codeAny _ _ (.compStart (.SetComp elt [⟨tg, iter, ifs, 0⟩] scope pos) 0 (.ref it) (.ref D) (compEnvC scope (cellsFrom (s3.heap.objs.size + 1) scope.names (cloFrom X.env.cells scope.names [])) s3.heap.objs.size X.env)) (compPost (model X.prog X.w) X.A X.xe use Qf (.ref D) s3.heap.objs.size) { s3 with heap := pushCells (s3.heap.push { cls := .type "dict", data := .dict #[] }) scope.names }
  have nfp : ∀ b ∈ fp, (upd H2 D (SetO X.w D (fun _ => false) 0)) b = none := fun b hb => (f3 b hb).1.1
  generalize hce : compEnvC scope (cellsFrom (s3.heap.objs.size + 1) scope.names (cloFrom X.env.cells scope.names [])) s3.heap.objs.size X.env = ce at I4 pg pt pe ⊢
  have cL : ce.locals = s3.heap.objs.size := by subst hce; rfl
  generalize hH3 : upd H2 D (SetO X.w D (fun _ => false) 0) = H3 at I3 I4 pg pt pe w0 nfp f3
  generalize hs4 : ({ s3 with heap := pushCells (s3.heap.push { cls := .type "dict", data := .dict #[] }) scope.names } : Shared) = s4 at I4 ⊢
  have st4 : tn 0 s4.heap := T.keep _ _ _ st3 fun b _ o e => by rw [← hs4]; exact pushCells_keeps _ _ _ _ (Heap.get?_push_of_some _ e)
  have stat : ∀ {σ' : L2.St} {H' : Hp} {s' : Shared}, Inv (X.blk s3 H3 scope ce fp) [] σ' H' s' → (∀ b ∈ fp, H' b = none) → ∀ b ∈ fp, FpOk (X.blk s3 H3 scope ce fp) [] H' b := fun {σ' H' s'} I' hn b hb =>
    ⟨hn b hb, (I'.ok.exf b hb).1, I'.ok.exfs b hb, .inl hb, fun x c e => (I'.ok.exf b hb).2 x c e, fun p hp => absurd (show p ∈ ([] : List (Addr × Obj)) ++ [] from hp) (by simp)⟩
  have loop : codeAny (model X.prog X.w) X.A (.compLoop (.SetComp elt [⟨tg, iter, ifs, 0⟩] scope pos) 0 (.ref it) (.ref D) ce) (compPost (model X.prog X.w) X.A X.xe use Qf (.ref D) s3.heap.objs.size) s4 := by
    refine compLoopS_any (fun n s' => ∃ i H', Inv (X.blk s3 H3 scope ce fp) [] (wipe σ (own.map (·.2))) H' s' ∧ tn i s'.heap ∧ (∀ b ∈ fp, H' b = none) ∧ W i n H') ?_ m0 ⟨0, H3, I4, st4, nfp, w0⟩
    rintro n s5 ⟨i, H5, I5, st5, n5, w5⟩
    rcases turn i n H5 w5 with ⟨stop, qq⟩ | ⟨go, Nx, hNx, step⟩
    · have td := T.done (X.blk s3 H3 scope ce fp) rfl rfl rfl hc i [] s5 _ H5 (fun _ _ => False) I5 (stat I5 n5) st5 stop
      refine thnF td fun r s6 ⟨hr, I6⟩ => ?_
      subst hr
      -- back in the def's context
      have I7 : Inv X pins σ H5 s6 := I3.call' (ch := fp) I6.os I6.base I6.hok I6.bare fun b hb => ⟨(f3 b hb).1.2.2.2.1, (f3 b hb).1.2.1, (f3 b hb).1.2.2.2.2.1, (f3 b hb).1.2.2.2.2.2⟩
      have nC : H5 s3.heap.objs.size = none := by
        have z : H5 ce.locals = none := I6.free
        rw [cL] at z
        exact z
      obtain ⟨m, hn, _⟩ := I6.loc
      have hn : s6.heap.Ns ce.locals m := hn
      rw [cL] at hn
      exact hRR D s3.heap.objs.size s6 m H5 I7 qq hn (I3.fpOk (Nat.le_refl _) nC)
    · have ti := T.item (X.blk s3 H3 scope ce fp) rfl rfl rfl hc i [] s5 _ H5 (fun _ _ => False) I5 (stat I5 n5) st5 go
      refine thnF ti fun r s6 ⟨u, hr, h6⟩ => ?_
      subst hr
      refine thnF h6 fun _ s7 ⟨x, H7, I7, r7, y7, st7, n7⟩ => ?_
      have I7' := I7.pinned (stat I7 n7) (T.obj _ _ st7)
      refine thnF (pg.run _ s7 _ H7 x u _ I7' r7 (step x H7 y7)) fun _ s8 ⟨σ8, H8, I8, hw8, q8⟩ => ?_
      refine thnF (pt.run _ s8 σ8 H8 _ I8 q8) fun b s9 ⟨H9, I9, q9⟩ => ?_
      -- the turn's end
      have fin : ∀ {s' : Shared} {H' : Hp}, Inv (X.blk s3 H3 scope ce fp) ([] ++ pinsAt fp s7.heap) σ8 H' s' → Nx H' → ∃ m, m < n ∧ ∃ i H', Inv (X.blk s3 H3 scope ce fp) [] (wipe σ (own.map (·.2))) H' s' ∧ tn i s'.heap ∧ (∀ b ∈ fp, H' b = none) ∧ W i m H' := fun {s' H'} I' nx => by
        obtain ⟨m', hm, w'⟩ := hNx H' nx
        have pin' : ∀ b ∈ fp, ∀ o, s7.heap.get? b = some o → s'.heap.get? b = some o ∧ H' b = none := fun b hb o e =>
          let z := I'.pin (b, o) (List.mem_append_right _ (List.mem_append_right _ (mem_pinsAt hb e)))
          ⟨z.1, z.2.1⟩
        have hl : (wipe σ (own.map (·.2))).length = σ8.length := by rw [← hw8, wipe_length]
        refine ⟨m', hm, i + 1, H', (I'.unpinned (pins := [])).weak hl (fun j v e => ?_), T.keep _ _ _ st7 fun b hb o e => (pin' b hb o e).1, fun b hb => ?_, w'⟩
        · rw [← hw8] at e
          exact (wipe_some e).1
        · obtain ⟨o, e, _⟩ := T.obj _ _ st7 b hb
          exact (pin' b hb o e).2
      cases b with
      | false =>
        simp only [Bool.false_eq_true, if_false] at q9 ⊢
        exact fin I9 q9
      | true =>
        simp only [if_true] at q9 ⊢
        refine thnF (pe.run _ s9 σ8 H9 _ I9 q9) fun z s10 ⟨yv, H10, I10, r10, cb, S0, n0, ey, hD10, hz10, nx⟩ => ?_
        subst ey
        obtain ⟨tz, rfl⟩ := (show ∃ t, z = Value.int cb t from r10)
        exact addI_ok (X := X.blk s3 H3 scope ce fp) I10 hD10 hz10 fun s11 I11 => fin I11 nx
  exact codeAny_compStart_set loop (T.self X.A 0 _ _ _ st4 loop)
/-- as a value -/
theorem pe_sci {elt tg iter : Expr} {ifs : List Expr} {scope : Scope} {own : List (PySem.Str × Nat)} {pos : Pos} {wi : TI} {g : TG} {tt : TT} {te : TE} (hc : X.calm = true) (hN : X.N.Nodup) (hi : PI X tg iter wi) (ok : BlkOk X.N X.env.scope scope own)
    (hg : ∀ (s : Shared) (H : Hp) (C : Addr) (cl : List (PySem.Str × Addr)) (fp : List Addr), PG (X.blk s H scope (compEnvC scope cl C X.env) fp) tg g) (ht : ∀ (s : Shared) (H : Hp) (C : Addr) (cl : List (PySem.Str × Addr)) (fp : List Addr), PTs (X.blk s H scope (compEnvC scope cl C X.env) fp) ifs tt)
    (he : ∀ (s : Shared) (H : Hp) (C : Addr) (cl : List (PySem.Str × Addr)) (fp : List Addr), PE (X.blk s H scope (compEnvC scope cl C X.env) fp) elt te) (hs : ∀ x, foldedSetIterable iter X.env x = pure x := by intro _; rfl) :
    PE X (.SetComp elt [⟨tg, iter, ifs, 0⟩] scope pos) (tSci X.w wi g tt te (own.map (·.2))) := by
  refine ⟨fun pins s σ H Q I h => ?_⟩
  rw [eval_SetComp]
  refine sci_core hc hN I hi ok hg ht he hs h fun D C s' m H' I' q hn f => ⟨m, hn, fun h'' sb => ?_⟩
  obtain ⟨f0, f1, f2, f3, f4, f5⟩ := f
  exact ⟨.ref D, H', I'.turned (t' := s'.toks) (fun b o hb e => (sb.2 b hb).trans e) f0 f1 f3 f4 f5, rfl, q⟩
end
end B

set_option Elab.async false
set_option linter.all false
set_option maxRecDepth 100000
set_option maxHeartbeats 1000000
namespace B
open PySem PySem.Spec L2
set_option autoImplicit false

/-! ### ascending lists without doubles -/
def insU (y : Int) : List Int → List Int
  | [] => [y]
  | x :: xs => if y < x then y :: x :: xs else if y = x then x :: xs else x :: insU y xs
theorem mem_insU (y k : Int) : ∀ xs : List Int, k ∈ insU y xs ↔ k ∈ xs ∨ k = y
  | [] => by simp [insU]
  | x :: xs => by
    unfold insU
    split
    · rw [List.mem_cons]; exact Or.comm
    · split
      · rename_i h; subst h
        simp only [List.mem_cons]
        constructor
        · exact .inl
        · rintro (h | h)
          · exact h
          · exact .inl h
      · simp only [List.mem_cons, mem_insU y k xs]
        constructor
        · rintro (h | h | h)
          · exact .inl (.inl h)
          · exact .inl (.inr h)
          · exact .inr h
        · rintro ((h | h) | h)
          · exact .inl h
          · exact .inr (.inl h)
          · exact .inr (.inr h)
theorem pw_insU (y : Int) : ∀ xs : List Int, xs.Pairwise (· < ·) → (insU y xs).Pairwise (· < ·)
  | [], _ => by simp [insU]
  | x :: xs, h => by
    obtain ⟨h1, h2⟩ := List.pairwise_cons.mp h
    unfold insU
    split
    · rename_i c
      refine List.pairwise_cons.mpr ⟨fun z hz => ?_, h⟩
      rcases List.mem_cons.mp hz with e | e
      · subst e; exact c
      · exact Int.lt_trans c (h1 z e)
    · split
      · exact h
      · rename_i c1 c2
        refine List.pairwise_cons.mpr ⟨fun z hz => ?_, pw_insU y xs h2⟩
        rcases (mem_insU y z xs).mp hz with e | e
        · exact h1 z e
        · omega
theorem len_insU (y : Int) : ∀ xs : List Int, xs.Pairwise (· < ·) → (insU y xs).length = if y ∈ xs then xs.length else xs.length + 1
  | [], _ => by simp [insU]
  | x :: xs, h => by
    obtain ⟨h1, h2⟩ := List.pairwise_cons.mp h
    unfold insU
    split
    · rename_i c
      have hn : y ∉ x :: xs := fun hm => by
        rcases List.mem_cons.mp hm with e | e
        · omega
        · have := h1 y e; omega
      rw [if_neg hn]; simp
    · split
      · rename_i c
        rw [if_pos (by rw [c]; exact List.mem_cons_self)]
      · rename_i c1 c2
        rw [List.length_cons, len_insU y xs h2]
        by_cases hm : y ∈ xs
        · rw [if_pos hm, if_pos (List.mem_cons_of_mem _ hm)]; simp
        · rw [if_neg hm, if_neg (fun q => by rcases List.mem_cons.mp q with e | e; exact c2 e; exact hm e)]; simp
theorem pw_uniq : ∀ {xs ys : List Int}, xs.Pairwise (· < ·) → ys.Pairwise (· < ·) → (∀ k, k ∈ xs ↔ k ∈ ys) → xs = ys
  | [], [], _, _, _ => rfl
  | [], y :: ys, _, _, h => absurd ((h y).mpr List.mem_cons_self) (by simp)
  | x :: xs, [], _, _, h => absurd ((h x).mp List.mem_cons_self) (by simp)
  | x :: xs, y :: ys, hx, hy, h => by
    obtain ⟨a1, a2⟩ := List.pairwise_cons.mp hx
    obtain ⟨b1, b2⟩ := List.pairwise_cons.mp hy
    have e : x = y := by
      have m1 := (h x).mp List.mem_cons_self
      have m2 := (h y).mpr List.mem_cons_self
      rcases List.mem_cons.mp m1 with e | e
      · exact e
      · rcases List.mem_cons.mp m2 with e' | e'
        · exact e'.symm
        · have := b1 x e; have := a1 y e'; omega
    subst e
    rw [pw_uniq a2 b2 fun k => ?_]
    constructor
    · intro hk
      rcases List.mem_cons.mp ((h k).mp (List.mem_cons_of_mem _ hk)) with e | e
      · subst e; exact absurd (a1 k hk) (Int.lt_irrefl k)
      · exact e
    · intro hk
      rcases List.mem_cons.mp ((h k).mpr (List.mem_cons_of_mem _ hk)) with e | e
      · subst e; exact absurd (b1 k hk) (Int.lt_irrefl k)
      · exact e

/-! ### sorted(set(a list of ints)) -/
def insAll (l : List Int) : List Int := l.foldr insU []
theorem pw_insAll (l : List Int) : (insAll l).Pairwise (· < ·) := by
  induction l with
  | nil => exact .nil
  | cons x xs ih => exact pw_insU x _ ih
theorem mem_insAll (k : Int) (l : List Int) : k ∈ insAll l ↔ k ∈ l := by
  induction l with
  | nil => simp [insAll]
  | cons x xs ih =>
    show k ∈ insU x (insAll xs) ↔ _
    rw [mem_insU, ih, List.mem_cons]
    exact Or.comm
theorem setR_count {w : World} {h : Heap} {a : Addr} {ns : List Int} {c : Nat} (R : SetR w h a (fun j => decide (j ∈ ns)) c) : c = (insAll ns).length := by
  obtain ⟨o, es, ep, t, ho, hex, hd, g, nd, hm, hb, hf, hn, hr, hl⟩ := R
  have hp : (es.toList.map keyOf).Perm (insAll ns) := (List.perm_ext_iff_of_nodup nd ((pw_insAll ns).imp fun h => Int.ne_of_lt h)).mpr fun k => by
    rw [← hm k, mem_insAll, decide_eq_true_eq]
  rw [← hn, ← hp.length_eq, List.length_map, Array.length_toList]
def rSetOfL (K : PySem.W.Frag) (w : World) : List V → Hp → VK → Prop := fun vs H Q => ∃ (a : Addr) (ns : List Int), vs = [.ref a] ∧ SqL K H a (ns.map V.int) ∧ ns.length < 4000 ∧ ∀ p c, H p = none → c = (insAll ns).length → Q (.ref p) (upd H p (SetO w p (fun j => decide (j ∈ ns)) c))
theorem cr_setOfL {X : Cx} (hc : X.calm = true) : CallR X (.type "set") (rSetOfL X.K X.w) := by
  intro pins s σ H vs us Q I r h
  obtain ⟨a, ns, rfl, hq, hz, q⟩ := h
  rw [Vals.ref1 r]
  obtain ⟨its, rv, p, _⟩ := I.list hq
  have hi : PyProof.Rows.IntsAre its.toArray.toList ns := by simpa using Vals.ints rv
  refine call_set_lstI ns (I.ok.hd hc) p.isList hi (by unfold scanBound; omega) fun h' tk c R hcn hk => ?_
  have I1 : Inv X pins σ (upd H s.heap.objs.size (SetO X.w s.heap.objs.size (fun j => decide (j ∈ ns)) c)) { s with heap := h', toks := tk } :=
    I.laid hk (Nat.le_refl _) (setO_new R)
  exact ⟨.ref _, _, I1, rfl, q _ c I.fresh (setR_count R)⟩
@[simp] def fSortSet (x : W) : M W := fun st => match listOf x st with
  | some ys => match intsW ys with
    | some ns => if (Nat.blt ns.length 4000 && Nat.blt (insAll ns).length 64) = true then some (.ref st.length, st ++ [.lst ((insAll ns).map .int)]) else none
    | none => none
  | none => none
theorem rws_ints {K : PySem.W.Frag} {β : List Addr} {H : Hp} : ∀ ns : List Int, RWs K β H (ns.map W.int) (ns.map V.int)
  | [] => .nil
  | n :: ns => .cons (.int n) (rws_ints ns)
theorem se_sortSet {X : Cx} {e : Expr} {m : EM} {p p' p2 pos : Pos} (hc : X.calm = true) (hg : Gl X "sorted") (hm : X.mg "sorted" = none) (hgs : Gl X "set") (hms : X.mg "set" = none) (he : SE X e m)
    (hs : starEach [e] X.env = (false, eval e X.env) :: starEach [] X.env := by rfl)
    (hs1 : starEach [.Call (.Name "set" p') [e] [] p2] X.env = (false, eval (.Call (.Name "set" p') [e] [] p2) X.env) :: starEach [] X.env := by rfl) :
    SE X (.Call (.Name "sorted" p) [.Call (.Name "set" p') [e] [] p2] [] pos) (eUn fSortSet m) := by
  have h1 := pe_callTy (p := p') (pos := p2) (cr_setOfL hc) hgs hms (by decide +kernel) (pa_cons he.pe pa_nil hs) (by decide) (by decide) hs rfl
  refine ⟨PEimp (pe_callB (cr_sortedSet hc) hg hm (by decide +kernel) (pa_cons h1 pa_nil hs1) (by decide) (by decide) hs1 rfl) ?_⟩
  rintro σ H Q ⟨β, st, env, w, st', hE, hS, hm, k⟩
  obtain ⟨x, st1, h1, h2⟩ := bnd_some hm
  refine ⟨β, st, env, x, st1, hE, hS, h1, fun v H1 β1 e1 s1 r1 => ?_⟩
  unfold fSortSet at h2
  split at h2
  · rename_i ys hl
    split at h2
    · rename_i ns hn
      split at h2
      · rename_i hz
        cases h2
        rw [Bool.and_eq_true] at hz
        have hz2 : (insAll ns).length < 64 := Nat.blt_eq.mp hz.2
        have hz : ns.length < 4000 := Nat.blt_eq.mp hz.1
        obtain ⟨a, us, rfl, hq, ru⟩ := list_ok s1 r1 hl
        rw [ints_ok ru hn] at hq
        refine ⟨a, ns, rfl, hq, hz, fun D c hD hcn => ⟨D, _, c, rfl, upd_same, by omega, fun os p hp hm hl hfp => ?_⟩⟩
        have e : os = insAll ns := pw_uniq hp (pw_insAll ns) fun k => by
          rw [hm k, mem_insAll]
          exact decide_eq_true_iff
        subst e
        have ex : Ext β1 H1 β1 (upd H1 D (SetO X.w D (fun j => decide (j ∈ ns)) c)) := Ext.new hD
        have sx : RS X.K β1 (upd H1 D (SetO X.w D (fun j => decide (j ∈ ns)) c)) st1 := s1.new hD
        have ea : Ext β1 (upd H1 D (SetO X.w D (fun j => decide (j ∈ ns)) c)) (β1 ++ [p]) (upd (upd H1 D (SetO X.w D (fun j => decide (j ∈ ns)) c)) p (.lst ((insAll ns).map V.int))) := Ext.alloc hfp
        exact k _ _ _ ((e1.trans ex).trans ea) (sx.alloc hfp ⟨_, upd_same, rws_ints _⟩) (.ref (alloc_ix sx))
      · cases h2
    · cases h2
  · cases h2

/-! ### sorted({x[i] for x in a list if x[j] == 'c'}) -/
def pickGo (i j : Int) (c : Str) : List W → List Int → Option (List Int)
  | [], acc => some acc
  | .tup t :: xs, acc => match atI t j with
    | some (.str y) => if (SeqAt.shaped (.str y) && SeqAt.shaped (.str c)) = true then if (y == c) = true then (match atI t i with
        | some (.int n) => if Nat.blt (acc.length + 1) 64 = true then pickGo i j c xs (insU n acc) else none
        | _ => none) else pickGo i j c xs acc else none
    | _ => none
  | _ :: _, _ => none
@[simp] def fSortPick (i j : Int) (c : Str) (x : W) : M W := fun st => match x with
  | .ref q => match st[q]? with
    | some (.lst xs) => match pickGo i j c xs [] with
      | some ns => some (.ref st.length, st ++ [.lst (ns.map .int)])
      | none => none
    | _ => none
  | _ => none
@[simp] def eSortPick (vi : Nat) (i j : Int) (c : Str) (m : EM) : EM := fun env => if Nat.blt vi env.length = true then eUn (fSortPick i j c) m env else fail
theorem pick_tup {K : PySem.W.Frag} {w : World} {D : Addr} {β : List Addr} {Hs : Hp} {a : Addr} {vi : Nat} {i j : Int} {c : Str} {xs : List W} {vsl : List V} {vs : List Nat} {σ : L2.St} {out : List Int} {Qd : Hp → Prop}
    (hvi : vi ∈ vs) (hlen : vi < σ.length) (hD : Hs D = none) (e : Hs a = some (.lst vsl)) (r : RWs K β Hs xs vsl) (hp : pickGo i j c xs [] = some out)
    (hd : (out.Pairwise (· < ·)) → out.length < 64 → Qd (upd Hs D (SetO w D (fun k => decide (k ∈ out)) out.length))) :
    ∃ Wm : Nat → Nat → Hp → Prop, (∃ m, Wm 0 m (upd Hs D (SetO w D (fun _ => false) 0))) ∧ ∀ n m H, Wm n m H →
      ((Itl K a).stop n H ∧ Qd H) ∨ ((Itl K a).go n H ∧ ∃ Nx : Hp → Prop, (∀ H', Nx H' → ∃ m', m' < m ∧ Wm (n + 1) m' H') ∧ ∀ x H', (Itl K a).yld n H x H' → gName vi x (wipe σ vs) H' fun σ2 H2 => wipe σ2 vs = wipe σ vs ∧ tTest (tOp (rEqD K) (tOp (rIx K) (tVar vi) (tC (.int j))) (tC (.str c))) σ2 H2 fun b H3 =>
        if b = true then tOp (rIx K) (tVar vi) (tC (.int i)) σ2 H3 fun y H4 => ∃ (cb : Int) (S : Int → Bool) (n : Nat), y = .int cb ∧ H4 D = some (SetO w D S n) ∧ n + 1 < scanBound ∧ Nx (upd H4 D (SetO w D (fun j => S j || decide (j = cb)) (if S cb = true then n else n + 1))) else Nx H3) := by
  have hDa : a ≠ D := ne_of_none e hD
  have hst : ∀ (S : Int → Bool) (n : Nat), SqL K (upd Hs D (SetO w D S n)) a vsl := fun S n => SqL.of (by rw [upd_ne hDa]; exact e)
  refine ⟨fun n m H => m = xs.length - n ∧ n ≤ xs.length ∧ ∃ acc : List Int, acc.Pairwise (· < ·) ∧ acc.length < 64 ∧ H = upd Hs D (SetO w D (fun k => decide (k ∈ acc)) acc.length) ∧ pickGo i j c (xs.drop n) acc = some out, ⟨xs.length, rfl, Nat.zero_le _, [], .nil, by decide, by simp, by simpa using hp⟩, ?_⟩
  rintro n m H ⟨rfl, hn, acc, hpw, h64, rfl, hp⟩
  by_cases hlt : n < xs.length
  · have hx : xs[n]? = some xs[n] := List.getElem?_eq_getElem hlt
    obtain ⟨v, hv, rv⟩ := r.get hx
    have hdrop : xs.drop n = xs[n] :: xs.drop (n + 1) := List.drop_eq_getElem_cons hlt
    rw [hdrop] at hp
    refine .inr ⟨⟨vsl, v, hst _ _, hv⟩, fun H' => n + 1 ≤ xs.length ∧ ∃ acc' : List Int, acc'.Pairwise (· < ·) ∧ acc'.length < 64 ∧ H' = upd Hs D (SetO w D (fun k => decide (k ∈ acc')) acc'.length) ∧ pickGo i j c (xs.drop (n + 1)) acc' = some out, fun H' h' => ⟨xs.length - (n + 1), by omega, rfl, h'⟩, fun x H2 y => ?_⟩
    obtain ⟨rfl, y⟩ := y
    have hxv := y vsl (hst _ _)
    rw [hv] at hxv
    cases hxv
    generalize hw : xs[n] = wn at rv hp
    cases wn with
    | tup t =>
      simp only [pickGo] at hp
      cases rv with
      | @tup ta _ tv hq rt =>
        have hq2 : SqT K (upd Hs D (SetO w D (fun k => decide (k ∈ acc)) acc.length)) ta tv := (Ext.new (β := β) hD).sqT hq.sq
        cases hj : atI t j with
        | none => rw [hj] at hp; cases hp
        | some wj =>
          rw [hj] at hp
          obtain ⟨vj, hvj, rj⟩ := atI_rws rt hj
          cases wj with
          | str yv =>
            dsimp only at hp
            cases rj
            cases hsh : (SeqAt.shaped (.str yv) && SeqAt.shaped (.str c)) with
            | false => rw [hsh, if_neg (by decide)] at hp; cases hp
            | true =>
            rw [hsh, if_pos rfl] at hp
            rw [Bool.and_eq_true] at hsh
            refine ⟨wipe_set_mem hvi |>.trans (wipe_wipe σ vs), ⟨V.ref ta, ?_, ?_⟩⟩
            · rw [List.getElem?_set_self (by rw [wipe_length]; exact hlen)]
            · refine .inr (.inl ⟨ta, tv, j, .str yv, rfl, rfl, hq2, hvj, .str yv, .str c, .str yv, .str c, hsh.1, hsh.2, yv == c, rfl, ?_⟩)
              cases hyc : (yv == c) with
              | true =>
                rw [hyc] at hp
                rw [if_pos rfl] at hp ⊢
                cases hi : atI t i with
                | none => rw [hi] at hp; cases hp
                | some wi =>
                  rw [hi] at hp
                  obtain ⟨vi', hvi', ri⟩ := atI_rws rt hi
                  cases wi with
                  | int nn =>
                    dsimp only at hp
                    cases ri
                    split at hp
                    · rename_i hz
                      have hz : acc.length + 1 < 64 := Nat.blt_eq.mp hz
                      refine ⟨V.ref ta, ?_, .inr (.inl ⟨ta, tv, i, .int nn, rfl, rfl, hq2, hvi', nn, _, _, rfl, upd_same, by unfold scanBound; omega, by omega, insU nn acc, pw_insU nn acc hpw, ?_, ?_, hp⟩)⟩
                      · rw [List.getElem?_set_self (by rw [wipe_length]; exact hlen)]
                      · rw [len_insU nn acc hpw]; split <;> omega
                      · have eS : (fun jj => decide (jj ∈ acc) || decide (jj = nn)) = fun k => decide (k ∈ insU nn acc) := by
                          funext k
                          rw [Bool.eq_iff_iff]
                          simp [mem_insU]
                        have en : (if decide (nn ∈ acc) = true then acc.length else acc.length + 1) = (insU nn acc).length := by
                          rw [len_insU nn acc hpw]
                          by_cases hm : nn ∈ acc
                          · simp [hm]
                          · simp [hm]
                        rw [eS, en]
                        funext b
                        by_cases hb : b = D
                        · subst hb; rw [upd_same, upd_same]
                        · rw [upd_ne hb, upd_ne hb, upd_ne hb]
                    · cases hp
                  | _ => cases hp
              | false =>
                rw [hyc] at hp
                rw [if_neg (by decide)] at hp ⊢
                exact ⟨by omega, acc, hpw, h64, rfl, hp⟩
          | _ => cases hp
    | _ => simp only [pickGo] at hp; cases hp
  · have en : n = xs.length := by omega
    subst en
    rw [List.drop_length] at hp
    simp only [pickGo] at hp
    cases hp
    exact .inl ⟨⟨vsl, hst _ _, by rw [← r.length]; exact Nat.le_refl _⟩, hd hpw h64⟩
theorem se_sortPick {X : Cx} {it : Expr} {m : EM} {x : Str} {i j : Int} {c : Str} {ki kj kc : Nat} {scope : Scope} {p p1 p2 p3 p4 p5 p6 p7 p8 p9 ps pos : Pos} (own : List (Str × Nat)) (vi : Nat) (hc : X.calm = true) (hN : X.N.Nodup) (hu : X.A.units + 64 < cLine) (hg : Gl X "sorted") (hmg : X.mg "sorted" = none) (ok : BlkOk X.N X.env.scope scope own)
    (hvi : vi ∈ own.map (·.2)) (he : SE X it m) (hNi : X.N[vi]? = some x := by rfl) (hl : scope.names.lookup x = some .local := by rfl) (hd : (x == ("__debug__" : Str)) = false := by decide) (hcd : (x == ("__classdict__" : Str)) = false := by decide)
    (hs : ∀ y, foldedSetIterable it X.env y = pure y := by intro _; rfl)
    (hs1 : starEach [.SetComp (.Subscript (.Name x p1) (.Constant (.int i) ki p2) p3) [⟨.Name x p4, it, [.Compare (.Subscript (.Name x p5) (.Constant (.int j) kj p6) p7) [.Eq] [.Constant (.str c) kc p8] p9], 0⟩] scope ps] X.env = (false, eval (.SetComp (.Subscript (.Name x p1) (.Constant (.int i) ki p2) p3) [⟨.Name x p4, it, [.Compare (.Subscript (.Name x p5) (.Constant (.int j) kj p6) p7) [.Eq] [.Constant (.str c) kc p8] p9], 0⟩] scope ps) X.env) :: starEach [] X.env := by rfl) :
    SE X (.Call (.Name "sorted" p) [.SetComp (.Subscript (.Name x p1) (.Constant (.int i) ki p2) p3) [⟨.Name x p4, it, [.Compare (.Subscript (.Name x p5) (.Constant (.int j) kj p6) p7) [.Eq] [.Constant (.str c) kc p8] p9], 0⟩] scope ps] [] pos) (eSortPick vi i j c m) := by
  have hl' : ∀ (cl : List (Str × Addr)) (C : Addr), (compEnvC scope cl C X.env).scope.names.lookup x = some .local := fun cl C => by
    show (relabel scope X.env).names.lookup x = some .local
    exact lookup_relabel_local hl
  have hset := pe_sci (tg := .Name x p4) (pos := ps) (g := gName vi) (elt := .Subscript (.Name x p1) (.Constant (.int i) ki p2) p3) (ifs := [.Compare (.Subscript (.Name x p5) (.Constant (.int j) kj p6) p7) [.Eq] [.Constant (.str c) kc p8] p9])
    (tt := tTest (tOp (rEqD X.K) (tOp (rIx X.K) (tVar vi) (tC (.int j))) (tC (.str c)))) (te := tOp (rIx X.K) (tVar vi) (tC (.int i))) hc hN (pi_any he.pe) ok
    (fun s H C cl fp => pg_name (X := X.blk s H scope (compEnvC scope cl C X.env) fp) hN hNi (Or.inl (hl' cl C)) (.inr (hl' cl C)))
    (fun s H C cl fp => pts_one (pt_cmpR (X := X.blk s H scope (compEnvC scope cl C X.env) fp) (op_eqD hu) (pe_ix ix_seq (pe_var hNi (Or.inl (hl' cl C)) hd hcd) pe_int (fun _ _ => rfl)) pe_str (nomark _)))
    (fun s H C cl fp => pe_ix (X := X.blk s H scope (compEnvC scope cl C X.env) fp) ix_seq (pe_var hNi (Or.inl (hl' cl C)) hd hcd) pe_int (fun _ _ => rfl)) hs
  refine ⟨PEimp (pe_callB (cr_sortedSet hc) hg hmg (by decide +kernel) (pa_cons hset pa_nil hs1) (by decide) (by decide) hs1 rfl) ?_⟩
  rintro σ H Q ⟨β, st, env, w, st', hE, hS, hm, k⟩
  unfold eSortPick at hm
  split at hm
  rotate_left
  · cases hm
  rename_i hvl
  have hvl := Nat.blt_eq.mp hvl
  rw [hE.len] at hvl
  obtain ⟨x, st1, h1, h2⟩ := bnd_some hm
  refine ⟨β, st, env, x, st1, hE, hS, h1, fun v H1 β1 e1 s1 r1 => ?_⟩
  unfold fSortPick at h2
  cases r1 with
  | @ref q a hb =>
    dsimp only at h2
    split at h2
    · rename_i xs hq
      split at h2
      · rename_i ns hp
        cases h2
        obtain ⟨vsl, e, r⟩ := rs_lst s1 hb hq
        refine ⟨a, rfl, .inl ⟨⟨vsl, SqL.of e⟩, fun D hD => pick_tup (β := β1) hvi hvl hD e r hp fun hpw h64 => ?_⟩⟩
        · refine ⟨D, _, ns.length, rfl, upd_same, h64, fun os p hpo hmo hlo hfp => ?_⟩
          have eo : os = ns := pw_uniq hpo hpw fun k => by
            rw [hmo k]
            exact decide_eq_true_iff
          subst eo
          have ex : Ext β1 H1 β1 (upd H1 D (SetO X.w D (fun j => decide (j ∈ os)) os.length)) := Ext.new hD
          have sx : RS X.K β1 (upd H1 D (SetO X.w D (fun j => decide (j ∈ os)) os.length)) st1 := s1.new hD
          have ea : Ext β1 (upd H1 D (SetO X.w D (fun j => decide (j ∈ os)) os.length)) (β1 ++ [p]) (upd (upd H1 D (SetO X.w D (fun j => decide (j ∈ os)) os.length)) p (.lst (os.map V.int))) := Ext.alloc hfp
          exact k _ _ _ ((e1.trans ex).trans ea) (sx.alloc hfp ⟨_, upd_same, rws_ints _⟩) (.ref (alloc_ix sx))
      · cases h2
    · cases h2
  | _ => cases h2
end B

set_option Elab.async false
set_option linter.all false
set_option maxRecDepth 100000
set_option maxHeartbeats 1000000
namespace B
open PySem PySem.Spec L2
set_option autoImplicit false

/-! ### isinstance(x, (A, B)) -/
def fIsi2 (A C : String) : W → M W := fun x st => match tyW x st with
  | some t => match kitB t A with
    | some true => some (.bl true, st)
    | some false => match kitB t C with
      | some b => some (.bl b, st)
      | none => none
    | none => none
  | none => none
theorem kit2 {K : PySem.W.Frag} {t a c : String} {b : Bool} (h1 : kitB t a = some false) (h2 : kitB t c = some b) : PySem.W.kitAny K (.type t) [.type a, .type c] = some b := by
  refine kitAny_cons (kit_ty h1) (fun _ => ?_) (fun z => nomatch z)
  cases b with
  | true => exact kitAny_cons (kit_ty h2) (fun z => nomatch z) (fun _ => rfl)
  | false => exact kitAny_cons (kit_ty h2) (fun _ => rfl) (fun z => nomatch z)
theorem kit1 {K : PySem.W.Frag} {t a c : String} (h1 : kitB t a = some true) : PySem.W.kitAny K (.type t) [.type a, .type c] = some true :=
  kitAny_cons (kit_ty h1) (fun z => nomatch z) (fun _ => rfl)
theorem se_isi2 {X : Cx} {e : Expr} {m : EM} {n1 n2 : Str} {A C : String} {k : Nat} {p p1 p2 tpos pos : Pos} (he : SE X e m) (hg : Gl X "isinstance") (hm : X.mg "isinstance" = none) (g1 : Gl X n1) (m1 : X.mg n1 = none) (g2 : Gl X n2) (m2 : X.mg n2 = none)
    (v1 : bootBuiltins n1 = some (.type A) := by decide +kernel) (v2 : bootBuiltins n2 = some (.type C) := by decide +kernel) (d1 : n1 ≠ "__name__" := by decide) (d2 : n2 ≠ "__name__" := by decide)
    (b1 : (n1 == ("__debug__" : Str)) = false := by decide) (b2 : (n2 == ("__debug__" : Str)) = false := by decide)
    (hs1 : starEach [e, .Tuple [.Name n1 p1, .Name n2 p2] k tpos] X.env = (false, eval e X.env) :: starEach [.Tuple [.Name n1 p1, .Name n2 p2] k tpos] X.env := by rfl)
    (hs2 : starEach [.Tuple [.Name n1 p1, .Name n2 p2] k tpos] X.env = (false, eval (.Tuple [.Name n1 p1, .Name n2 p2] k tpos) X.env) :: starEach [] X.env := by rfl)
    (hs3 : starEach [.Name n1 p1, .Name n2 p2] X.env = (false, eval (.Name n1 p1) X.env) :: starEach [.Name n2 p2] X.env := by rfl)
    (hs4 : starEach [.Name n2 p2] X.env = (false, eval (.Name n2 p2) X.env) :: starEach [] X.env := by rfl)
    (hpl : (backTo pos (starEach [.Tuple [.Name n1 p1, .Name n2 p2] k tpos] X.env)).any (·.1) = false := by rfl) :
    SE X (.Call (.Name "isinstance" p) [e, .Tuple [.Name n1 p1, .Name n2 p2] k tpos] [] pos) (eUn (fIsi2 A C) m) := by
  have t1 := pe_bltn (X := X) (x := n1) (pos := p1) (v := .ty A) g1 m1 v1 rfl d1 b1
  have t2 := pe_bltn (X := X) (x := n2) (pos := p2) (v := .ty C) g2 m2 v2 rfl d2 b2
  refine ⟨PEimp (pe_callB call_isiT hg hm PyProof.Rows.boot_isinstance (pa_cons he.pe (pa_cons (pe_tup (pa_cons t1 (pa_cons t2 pa_nil hs4) hs3)) pa_nil hs2) hs1) (by decide) (by decide) hs1 hpl) ?_⟩
  rintro σ H Q ⟨β, st, env, w, st', hE, hS, hm, kk⟩
  obtain ⟨x, st1, h1, h2⟩ := bnd_some hm
  refine ⟨β, st, env, x, st1, hE, hS, h1, fun v H1 β1 e1 s1 r1 => ⟨by show 2 ≤ sizeLine; rw [sizeLine_eq]; decide, fun T hT => ?_⟩⟩
  have ex : Ext β1 H1 β1 (upd H1 T (.tup [.ty A, .ty C])) := Ext.new hT
  have sx : RS X.K β1 (upd H1 T (.tup [.ty A, .ty C])) st1 := s1.new hT
  unfold fIsi2 at h2
  split at h2
  · rename_i t ht
    have ty := tyW_ok sx (r1.ext' ex) ht
    split at h2
    · rename_i hk
      cases h2
      exact ⟨v, T, _, _, _, true, rfl, upd_same, .cons (.ty A) (.cons (.ty C) .nil), ty, kit1 hk, kk _ _ β1 (e1.trans ex) sx (.bl true)⟩
    · rename_i hk
      split at h2
      · rename_i b hb
        cases h2
        exact ⟨v, T, _, _, _, b, rfl, upd_same, .cons (.ty A) (.cons (.ty C) .nil), ty, kit2 hk hb, kk _ _ β1 (e1.trans ex) sx (.bl b)⟩
      · cases h2
    · cases h2
  · cases h2

/-! ### is, of flags; tuple * int -/
@[simp] def fIsB : W → W → M W := fun x y st => match x, y with
  | .bl a, .bl b => some (.bl (decide (a = b)), st)
  | _, _ => none
theorem ref_isB {K : PySem.W.Frag} : Ref2 K fIsB rIsB := by
  intro β H st st' x y w vx vy Q hS rx ry hm k
  unfold fIsB at hm
  split at hm
  · cases hm
    exact ⟨_, _, rx.bl_inv, ry.bl_inv, k _ H β .refl hS (.bl _)⟩
  · cases hm
@[simp] def fRepT : W → W → M W := fun x y st => match x, y with
  | .tup xs, .int k => if decide (2 ≤ k ∧ k ≤ 1000 ∧ 1 ≤ xs.length ∧ xs.length ≤ 1000) = true then some (.tup (List.replicate k.toNat xs).flatten, st) else none
  | _, _ => none
theorem rws_rep {K : PySem.W.Frag} {β : List Addr} {H : Hp} {xs : List W} {vs : List V} (r : RWs K β H xs vs) : ∀ n : Nat, RWs K β H (List.replicate n xs).flatten (List.replicate n vs).flatten
  | 0 => .nil
  | n + 1 => by
    rw [List.replicate_succ, List.replicate_succ, List.flatten_cons, List.flatten_cons]
    exact r.append (rws_rep r n)
theorem ref_repT {K : PySem.W.Frag} : Ref2 K fRepT (rRepT K) := by
  intro β H st st' x y w vx vy Q hS rx ry hm k
  unfold fRepT at hm
  split at hm
  · rename_i xs n
    split at hm
    · rename_i hc
      cases hm
      have hc := of_decide_eq_true hc
      cases rx with
      | @tup a _ vs hq r =>
        have hl := r.length
        refine ⟨a, n, vs, rfl, ry.int_inv, hq.sq, ?_, hc.1, hc.2.1, by omega, fun p hf => ?_⟩
        · intro e
          subst e
          have := hc.2.2.1
          rw [hl] at this
          simp at this
        · have e : Ext β H β (upd H p (.tup (List.replicate n.toNat vs).flatten)) := Ext.new hf
          exact k _ _ β e (hS.new hf) (.tup (.inl upd_same) ((rws_rep r _).ext e))
    · cases hm
  · cases hm
end B

set_option Elab.async false
set_option linter.all false
set_option maxRecDepth 100000
namespace B
open PySem PySem.Spec L2
set_option autoImplicit false
theorem sb_never {X : Cx} {ss : List Stmt} : SB X ss sNever := ⟨⟨fun pins s σ H D I hq => by
  obtain ⟨β, st, env, fl, env', st', hE, hS, hm, k⟩ := hq
  cases hm⟩⟩
theorem hu100 {k : Nat} {A : Around} (hr : Room k A) : A.units + 100 < cLine := by have := hr.un; unfold cLine at *; omega
@[simp] def sPar (i j : Nat) (a : AM) : SM := fun env => bnd (a env) fun ws => match ws with
  | [v, w] => ret (.nx, (env.set i (some v)).set j (some w))
  | _ => fail
theorem ss_par {X : Cx} {i j : Nat} {x y : Str} {a b : Expr} {m : AM} {px py pt pos : Pos} {kt k2 : Nat} {pt2 : Pos} (hN : X.N.Nodup) (hc : X.calm = true) (hij : i ≠ j) (ha : SA X [a, b] m)
    (hi : X.N[i]? = some x := by rfl) (hj : X.N[j]? = some y := by rfl)
    (hx : X.env.scope.names.lookup x = some .local := by rfl) (hy : X.env.scope.names.lookup y = some .local := by rfl)
    (hw : swappedStores [.Tuple [.Name x px, .Name y py] kt pt] (.Tuple [a, b] k2 pt2) X.env = pure (some [x, y]) := by rfl)
    (hs : swapsWithSole [.Tuple [.Name x px, .Name y py] kt pt] (.Tuple [a, b] k2 pt2) pos.line X.env = pure false := by rfl) :
    SS X (.Assign [.Tuple [.Name x px, .Name y py] kt pt] (.Tuple [a, b] k2 pt2) pos) (sPar i j m) := by
  refine ⟨PSimp (ps_par hc hN hi hj hij hx hy ha.pa hw hs) ?_⟩
  rintro D σ H ⟨β, st, env, fl, env', st', hE, hS, hm, k⟩
  obtain ⟨ws, st1, h1, h2⟩ := bnd_some hm
  refine ⟨β, st, env, ws, st1, hE, hS, h1, fun vs H1 β1 e1 s1 r1 => ?_⟩
  split at h2
  · cases h2
    obtain ⟨v, u, rfl, ra, rb⟩ := rws2 r1
    exact ⟨v, u, rfl, k _ H1 β1 e1 s1 (((hE.ext e1).set ra i).set rb j)⟩
  · cases h2
end B

set_option Elab.async false
set_option linter.all false
set_option maxRecDepth 100000
set_option maxHeartbeats 1000000
namespace B
open PySem PySem.Spec L2
set_option autoImplicit false

/-! ### what the module holds -/
/-- words as they lie -/
inductive WSs : List Str → List Value → Prop
  | nil : WSs [] []
  | cons {x : Str} {t : Tok} {xs : List Str} {us : List Value} : WSs xs us → WSs (x :: xs) (.str x t :: us)
theorem WSs.vals : ∀ {xs : List Str} {us : List Value}, WSs xs us → Vals (xs.map V.str) us
  | _, _, .nil => .nil
  | _, _, .cons h => .cons ⟨_, rfl⟩ h.vals
/-- the written part holds w at u -/
inductive WK (K : PySem.W.Frag) : W → Value → Prop
  | non : WK K .non .none
  | bl (b : Bool) : WK K (.bl b) (.bool b)
  | int (i : Int) (t : Tok) : WK K (.int i) (.int i t)
  | str (x : Str) (t : Tok) : WK K (.str x) (.str x t)
  | tup {a : Addr} {o : Obj} {its : Array Value} {n : Nat} {xs : List Str} : K.lookup a = some o → o.cls = .type "tuple" → o.data = .seq its n → its.size ≤ sizeLine → WSs xs its.toList → WK K (.tup (xs.map .str)) (.ref a)
  | fnc {x : Str} {f : Addr} : PySem.W.nsIn K mainGlobals x = some (some (.ref f)) → WK K (.fnc x) (.ref f)
theorem rws_strs {K : PySem.W.Frag} {β : List Addr} {H : Hp} : ∀ xs : List Str, RWs K β H (xs.map W.str) (xs.map V.str)
  | [] => .nil
  | x :: xs => .cons (.str x) (rws_strs xs)
theorem WK.rel {K : PySem.W.Frag} {w : W} {u : Value} (h : WK K w u) : ∃ v, RelV v u ∧ ∀ (β : List Addr) (H : Hp), RW K β H w v := by
  cases h with
  | non => exact ⟨.non, rfl, fun _ _ => .non⟩
  | bl b => exact ⟨.bl b, rfl, fun _ _ => .bl b⟩
  | int i t => exact ⟨.int i, ⟨t, rfl⟩, fun _ _ => .int i⟩
  | str x t => exact ⟨.str x, ⟨t, rfl⟩, fun _ _ => .str x⟩
  | tup h1 h2 h3 h4 h5 =>
    exact ⟨.ref _, rfl, fun β H => .tup (.inr ⟨⟨_, _, _, h1, h2, h3, h4, h5.vals⟩, fun v hv => by obtain ⟨x, _, rfl⟩ := List.mem_map.mp hv; exact ⟨x, rfl⟩⟩) (rws_strs _)⟩
  | fnc h => exact ⟨.ref _, rfl, fun _ _ => .fnc h⟩
section
variable {X : Cx}
theorem se_gl {x : Str} {w : W} {u : Value} {pos : Pos} (hg : Gl X x) (hm : X.mg x = some u) (h : WK X.K w u) (hd : (x == ("__debug__" : Str)) = false := by decide) : SE X (.Name x pos) (eC w) := by
  obtain ⟨v, r, q⟩ := h.rel
  refine ⟨PEimp (pe_glob hg hm r hd) ?_⟩
  rintro σ H Q ⟨β, st, env, w', st', hE, hS, hm', k⟩
  cases hm'
  exact k v H β .refl hS (q β H)
end
/-! ### tables -/
inductive TabEs (K : PySem.W.Frag) : List DictEntry → List (Str × W) → Prop
  | nil : TabEs K [] []
  | cons {x : Str} {t : Tok} {hs : Int} {u : Value} {w : W} {es : List DictEntry} {tab : List (Str × W)} : WK K w u → TabEs K es tab → TabEs K (⟨hs, .str x t, u⟩ :: es) ((x, w) :: tab)
structure TabK (K : PySem.W.Frag) (w : World) (a : Addr) (tab : List (Str × W)) : Prop where
  low : (a == sysModules) = false
  at' : ∃ es n, K.lookup a = some ⟨.type "dict", none, .dict es n, #[]⟩ ∧ PySem.W.KeysLit w.params es.toList ∧ TabEs K es.toList tab
theorem TabEs.find {K : PySem.W.Frag} (x : Str) : ∀ {es : List DictEntry} {tab : List (Str × W)}, TabEs K es tab →
    (es.find? (fun d => Value.isStrOf x d.key) = none ∧ tab.lookup x = none) ∨ ∃ d w, es.find? (fun d => Value.isStrOf x d.key) = some d ∧ tab.lookup x = some w ∧ WK K w d.val
  | _, _, .nil => .inl ⟨rfl, rfl⟩
  | _, _, @TabEs.cons _ y t hs u w es tab h tl => by
    by_cases e : x = y
    · subst e
      right
      refine ⟨_, w, List.find?_cons_of_pos (by simp [Value.isStrOf]), by simp, h⟩
    · have e1 : (x == y) = false := beq_eq_false_iff_ne.mpr e
      have e2 : Value.isStrOf x (.str y t) = false := by simp [Value.isStrOf]; exact fun z => e z.symm
      have e3 : List.find? (fun d => Value.isStrOf x d.key) (⟨hs, .str y t, u⟩ :: es) = List.find? (fun d => Value.isStrOf x d.key) es := List.find?_cons_of_neg (by simp [e2])
      have e4 : List.lookup x ((y, w) :: tab) = List.lookup x tab := by rw [List.lookup_cons, e1]
      rw [e3, e4]
      exact TabEs.find x tl
theorem TabK.map {K : PySem.W.Frag} {w : World} {a : Addr} {tab : List (Str × W)} {P : Program} {h : Heap} (T : TabK K w a tab) (X : K.In h) :
    ∃ m : Str → Option Value, h.MapOf (strKind P w) a m ∧ ∀ x, (m x = none ∧ tab.lookup x = none) ∨ ∃ u w', m x = some u ∧ tab.lookup x = some w' ∧ WK K w' u := by
  obtain ⟨es, n, hl, hk, he⟩ := T.at'
  refine ⟨_, PySem.W.mapOf_K (prog := P) (w := w) X hl hk, fun x => ?_⟩
  obtain ⟨l⟩ := es
  unfold findBy
  rw [List.find?_toArray]
  rcases he.find x with ⟨a, b⟩ | ⟨d, w', a, b, c⟩
  · left; rw [a]; exact ⟨rfl, b⟩
  · right; rw [a]; exact ⟨_, w', rfl, b, c⟩
/-- TABLE.get(e) -/
@[simp] def fTabGet (tab : List (Str × W)) : W → M W := fun x st => match x with
  | .str z => some ((tab.lookup z).getD .non, st)
  | _ => none
/-- TABLE[e] -/
@[simp] def fTabIx (tab : List (Str × W)) : W → M W := fun x st => match x with
  | .str z => match tab.lookup z with
    | some w => some (w, st)
    | none => none
  | _ => none
section
variable {X : Cx} {x : Str} {a : Addr} {tab : List (Str × W)} {e : Expr} {m : EM} {np apos cpos pos : Pos}
theorem se_tabget (hg : Gl X x) (hm : X.mg x = some (.ref a)) (T : TabK X.K X.w a tab) (he : SE X e m) (mm : M1 X (.Name x np) "get" apos e cpos)
    (hdb : (x == ("__debug__" : Str)) = false := by decide) : SE X (.Call (.Attribute (.Name x np) "get" apos) [e] [] cpos) (eUn (fTabGet tab) m) := by
  refine ⟨⟨fun pins s σ H Q I h => ?_⟩⟩
  obtain ⟨β, st, env, w, st', hE, hS, hmm, k⟩ := h
  obtain ⟨y, st1, h1, h2⟩ := bnd_some hmm
  refine wpAny_Call_method mm.base mm.few mm.line PySem.F.plainAttrs_dict PySem.F.slot_dict_get PySem.F.type_dict_get (ld_glob I hg hm ?_ hdb)
  obtain ⟨mp, hM, _⟩ := T.map (P := X.prog) I.kIn
  refine ⟨hM.typeIs, fun b q => ?_, ?_⟩
  · cases q
    obtain ⟨ob, _, _, g1, g2, _⟩ := hM
    exact ⟨ob, g1, g2.2.1⟩
  rw [mm.trees]
  refine Calls.callWith_builtin rfl (Calls.evalArgs_plain (Calls.spliced_cons (thn (he.pe.run pins s σ H _ I ⟨β, st, env, y, st1, hE, hS, h1, fun v H1 β1 e1 s1 r1 => (?_ : (∃ z, v = V.str z ∧ ∃ w', (tab.lookup z).getD .non = w' ∧ ∀ u, (∀ β' H', RW X.K β' H' w' u) → Q u H1))⟩) fun iv s2 ⟨v, H2, I2, ry, z, ez, w', ew, q⟩ => Calls.spliced_nil ?_)))
  · unfold fTabGet at h2
    split at h2
    · rename_i z
      cases h2
      cases r1
      exact ⟨z, rfl, _, rfl, fun u hu => k u H1 β1 e1 s1 (hu β1 H1)⟩
    · cases h2
  · subst ez
    obtain ⟨t, rfl⟩ := ry
    obtain ⟨mp, hM, hF⟩ := T.map (P := X.prog) I2.kIn
    refine call_meetsIn PySem.F.slot_dict_get hM.typeIs PySem.F.entry_dict_get (PySem.F.args_dict_get_2 _ _) (meets_dict_get (strKind X.prog X.w) a (strKind_is X.prog X.w z t) T.low) ⟨_, hM, ?_⟩
    rcases hF z with ⟨e1, e2⟩ | ⟨u, w2, e1, e2, hw⟩
    · rw [e1]
      rw [e2] at ew
      cases ew
      exact ⟨.non, H2, I2.tok _, rfl, q .non fun _ _ => .non⟩
    · rw [e1]
      rw [e2] at ew
      cases ew
      obtain ⟨v, rv, hv⟩ := hw.rel
      exact ⟨v, H2, I2.tok _, rv, q v hv⟩
theorem se_tabix (hg : Gl X x) (hm : X.mg x = some (.ref a)) (T : TabK X.K X.w a tab) (he : SE X e m) (hs : PlainIx e)
    (hdb : (x == ("__debug__" : Str)) = false := by decide) : SE X (.Subscript (.Name x np) e pos) (eUn (fTabIx tab) m) := by
  have hn : PE X (.Name x np) (tC (.ref a)) := pe_glob hg hm rfl hdb
  have hr : IxR X (fun v y H Q => ∃ z w', v = .ref a ∧ y = .str z ∧ tab.lookup z = some w' ∧ ∀ u, (∀ β' H', RW X.K β' H' w' u) → Q u H) := by
    intro value slice pins s σ H v y vv u Q I rx ry h hs'
    obtain ⟨z, w', rfl, rfl, hl, q⟩ := h
    obtain rfl : vv = Value.ref a := rx
    obtain ⟨t, rfl⟩ := ry
    obtain ⟨mp, hM, hF⟩ := T.map (P := X.prog) I.kIn
    rcases hF z with ⟨e1, e2⟩ | ⟨u, w2, e1, e2, hw⟩
    · rw [hl] at e2; cases e2
    · rw [hl] at e2; cases e2
      obtain ⟨v, rv, hv⟩ := hw.rel
      exact PyProof.Rows.tail_any hM.typeIs slot_dict_getitem.lookup (wpAny_getItem_of (strKind_is X.prog X.w z t) hM e1 ⟨v, H, I.tok _, rv, q v hv⟩) hs'
  refine ⟨PEimp (pe_ix hr hn he.pe hs) ?_⟩
  rintro σ H Q ⟨β, st, env, w, st', hE, hS, hmm, k⟩
  obtain ⟨y, st1, h1, h2⟩ := bnd_some hmm
  refine ⟨β, st, env, y, st1, hE, hS, h1, fun v H1 β1 e1 s1 r1 => ?_⟩
  cases y with
  | str z =>
    cases hl : tab.lookup z with
    | none => simp [hl] at h2
    | some w' =>
      simp [hl] at h2
      obtain ⟨rfl, rfl⟩ := h2
      cases r1
      exact ⟨z, w', rfl, rfl, hl, fun u hu => k u H1 β1 e1 s1 (hu β1 H1)⟩
  | _ => simp at h2
end
end B

set_option Elab.async false
set_option linter.all false
set_option maxRecDepth 100000
set_option maxHeartbeats 1000000
namespace B
open PySem PySem.Spec L2
set_option autoImplicit false

/-! ### a local name that holds a def -/
structure CallF (P : Program) (w : World) (K : PySem.W.Frag) (mg : Str → Option Value) (base : Heap) (x : Str) (k n : Nat) (F : List W → M W) : Prop where
  ok : ∀ f, PySem.W.nsIn K mainGlobals x = some (some (.ref f)) → ∃ fd ps, PySem.W.keepIn K (.ref f) = true ∧ Binds K fd ps [] ∧ ps.length = n ∧ FnOk P w K mg base CX0 k f fd ps (spM K n F)
theorem CallOk.callF {P : Program} {w : World} {K : PySem.W.Frag} {mg : Str → Option Value} {base : Heap} {x : Str} {k n : Nat} {F : List W → M W} (c : CallOk P w K mg base x k n F) {g : Addr} (hg : PySem.W.nsIn K mainGlobals x = some (some (.ref g))) (hm : mg x = some (.ref g)) : CallF P w K mg base x k n F := by
  obtain ⟨f, fd, ps, e, hk, hb, hl, G⟩ := c.ok
  rw [hm] at e
  cases e
  exact ⟨fun f' h' => by rw [hg] at h'; cases h'; exact ⟨fd, ps, hk, hb, hl, G⟩⟩
def eCallL (i : Nat) (disp : List (Str × (List W → M W))) (a : AM) : EM := fun env st => match env[i]? with
  | some (some (.fnc x)) => match disp.lookup x with
    | some F => bnd (a env) F st
    | none => none
  | _ => none
section
variable {X : Cx}
theorem se_callL {i k n : Nat} {x : Str} {p pos : Pos} {e : Expr} {es : List Expr} {m : AM} {disp : List (Str × (List W → M W))} (A : ∀ y F, disp.lookup y = some F → CallF X.prog X.w X.K X.mg X.base y k n F) (hr : Room k X.A) (hN : X.N[i]? = some x) (hv : Vis X.env.scope x) (ha : SA X (e :: es) m) (hn : (e :: es).length = n := by rfl)
    (hdb : (x == ("__debug__" : Str)) = false := by decide) (hcd : (x == ("__classdict__" : Str)) = false := by decide)
    (he : starEach (e :: es) X.env = (false, eval e X.env) :: starEach es X.env := by rfl) (hpl : (backTo pos (starEach es X.env)).any (·.1) = false := by rfl) :
    SE X (.Call (.Name x p) (e :: es) [] pos) (eCallL i disp m) := by
  refine ⟨⟨fun pins s σ H Q I h => ?_⟩⟩
  obtain ⟨β, st, env, w, st', hE, hS, hm, kk⟩ := h
  unfold eCallL at hm
  split at hm
  · rename_i y hy
    split at hm
    · rename_i F hF
      obtain ⟨v, hv1, rv⟩ := hE.at' i _ hy
      cases rv with
      | fnc hf =>
        obtain ⟨fd, ps, hk, hb, hl, G⟩ := (A y F hF).ok _ hf
        refine (pe_callL (i := i) (dvs := []) (E := E0) G hr hN hv hk hb .nil (pass0 (X := X)) ha.pa hdb hcd he hpl).run pins s σ H Q I ⟨hv1, ?_⟩
        obtain ⟨ws, st1, h1, h2⟩ := bnd_some hm
        refine ⟨β, st, env, ws, st1, hE, hS, h1, fun vs H1 β1 e1 s1 r1 => ?_⟩
        show spM X.K n F (vs ++ []) H1 Q E0
        rw [List.append_nil]
        refine ⟨?_, β1, st1, ws, w, st', r1, s1, h2, fun v H2 β2 e2 s2 r2 => kk v H2 β2 (e1.trans e2) s2 r2⟩
        rw [← r1.length, ← hn]
        exact ha.len _ _ _ h1
    · cases hm
  · cases hm

end
end B

set_option Elab.async false
set_option linter.all false
set_option maxRecDepth 100000
set_option maxHeartbeats 1000000
namespace B
open PySem PySem.Spec L2
set_option autoImplicit false

/-! ### comprehensions of two clauses -/
def compO (src : Src) (p : Pat) (t : TM) (i1 : IM) (p1 : Pat) (vs1 : List Nat) (t1 : TM) (e : EM) (k n1 : Nat) : Nat → Nat → En → M Unit
  | 0, _, _ => fail
  | n + 1, j, env => fun st => match src j st with
    | none => none
    | some none => some ((), st)
    | some (some w) => (bnd (p.asg w env) fun env1 => bnd (t env1) fun c =>
        if c = true then bnd (i1 env1) fun src1 => bnd (compGo src1 p1 t1 e k n1 0 (wipeE env1 vs1)) fun _ => compO src p t i1 p1 vs1 t1 e k n1 n (j + 1) env else compO src p t i1 p1 vs1 t1 e k n1 n (j + 1) env) st
def eComp2 (i : IM) (p : Pat) (vs : List Nat) (t : TM) (i1 : IM) (p1 : Pat) (vs1 : List Nat) (t1 : TM) (e : EM) (n n1 : Nat) : EM := fun env => bnd (i env) fun src st =>
  bnd (compO src p t i1 p1 vs1 t1 e st.length n1 n 0 (wipeE env vs)) (fun _ => ret (.ref st.length)) (st ++ [.lst []])
section
variable {X : Cx}
theorem tLc2_of {i i1 : IM} {p p1 : Pat} {vs vs1 : List Nat} {t t1 : TM} {e : EM} {n n1 : Nat} (hp : ∀ i ∈ p.slots, i ∈ vs) (hp1 : ∀ i ∈ p1.slots, i ∈ vs1) {σ : L2.St} {H : Hp} {Q : VK} (h : tM X.K (eComp2 i p vs t i1 p1 vs1 t1 e n n1) σ H Q) :
    tLc2 (tMI X.K i) (tMG X.K p) (tMT X.K t) (tMI X.K i1) (tMG X.K p1) (tMT X.K t1) (tM X.K e) vs vs1 σ H Q := by
  obtain ⟨β, st, env, w, st', hE, hS, hm, k⟩ := h
  obtain ⟨src, st1, h1, h2⟩ := bnd_some hm
  refine ⟨β, st, env, src, st1, hE, hS, h1, fun J H1 β1 e1 s1 rj D hD => ?_⟩
  obtain ⟨u, st2, h3, h4⟩ := bnd_some (m := compO src p t i1 p1 vs1 t1 e st1.length n1 n 0 (wipeE env vs)) h2
  cases h4
  have ea : Ext β1 H1 (β1 ++ [D]) (upd H1 D (.lst [])) := Ext.alloc hD
  have sa : RS X.K (β1 ++ [D]) (upd H1 D (.lst [])) (st1 ++ [.lst []]) := s1.alloc hD ⟨[], upd_same, .nil⟩
  have hk0 : (β1 ++ [D])[st1.length]? = some D := alloc_ix s1
  refine ⟨fun j m H => ∃ β2 st2, Ext (β1 ++ [D]) (upd H1 D (.lst [])) β2 H ∧ RS X.K β2 H st2 ∧ compO src p t i1 p1 vs1 t1 e st1.length n1 m j (wipeE env vs) st2 = some (u, st'), ⟨n, _, _, .refl, sa, h3⟩, ?_⟩
  rintro j m H2 ⟨β2, st2, e2, s2, m2⟩
  have hk : β2[st1.length]? = some D := e2.ix hk0
  cases m with
  | zero => cases m2
  | succ m =>
    obtain ⟨rs, rg⟩ := rj β2 H2 st2 j (ea.trans e2) s2
    unfold compO at m2
    split at m2
    · cases m2
    · rename_i es
      cases m2
      exact .inl ⟨rs es, k _ H2 β2 ((e1.trans ea).trans e2) s2 (.ref hk)⟩
    · rename_i w es
      obtain ⟨go, yl⟩ := rg w es
      obtain ⟨env3, st3, h5, h6⟩ := bnd_some m2
      obtain ⟨c, st4, h7, h8⟩ := bnd_some h6
      refine .inr ⟨go, fun H' => ∃ β5 st5, Ext β2 H2 β5 H' ∧ RS X.K β5 H' st5 ∧ compO src p t i1 p1 vs1 t1 e st1.length n1 m (j + 1) (wipeE env vs) st5 = some (u, st'), fun H' ⟨β5, st5, e5, s5, m5⟩ => ⟨m, Nat.lt_succ_self m, β5, st5, e2.trans e5, s5, m5⟩, fun x H3 y => ?_⟩
      obtain ⟨e3, s3, r3⟩ := yl x H3 y
      refine ⟨β2, st2, wipeE env vs, w, env3, st3, ((((hE.ext e1).ext ea).ext e2).ext e3).wipe vs, s3, r3, h5, fun σ4 H4 β4 e4 s4 E4 w4 => ⟨by rw [w4 vs hp, wipe_wipe], ?_⟩⟩
      refine ⟨β4, st3, env3, c, st4, E4, s4, h7, fun H5 β5 e5 s5 => ?_⟩
      cases c with
      | false => exact ⟨β5, st4, (e3.trans e4).trans e5, s5, h8⟩
      | true =>
        rw [if_pos rfl] at h8 ⊢
        obtain ⟨src1, st6, h9, h10⟩ := bnd_some h8
        obtain ⟨u1, stx, h11, h12⟩ := bnd_some h10
        refine ⟨β5, st4, env3, src1, st6, E4.ext e5, s5, h9, fun J1 H6 β6 e6 s6 rj1 => ?_⟩
        have hk6 : β6[st1.length]? = some D := e6.ix (e5.ix (e4.ix hk))
        refine ⟨fun j1 m1 H => ∃ β7 st7, Ext β6 H6 β7 H ∧ RS X.K β7 H st7 ∧ compGo src1 p1 t1 e st1.length m1 j1 (wipeE env3 vs1) st7 = some (u1, stx), ⟨n1, _, _, .refl, s6, h11⟩, ?_⟩
        rintro j1 m1 H7 ⟨β7, st7, e7, s7, m7⟩
        have hk7 : β7[st1.length]? = some D := e7.ix hk6
        cases m1 with
        | zero => cases m7
        | succ m1 =>
          obtain ⟨rs1, rg1⟩ := rj1 β7 H7 st7 j1 e7 s7
          unfold compGo at m7
          split at m7
          · cases m7
          · rename_i es1
            cases m7
            exact .inl ⟨rs1 es1, β7, stx, (((e3.trans e4).trans e5).trans e6).trans e7, s7, h12⟩
          · rename_i w1 es1
            obtain ⟨go1, yl1⟩ := rg1 w1 es1
            obtain ⟨env8, st8, g5, g6⟩ := bnd_some m7
            obtain ⟨c1, st9, g7, g8⟩ := bnd_some g6
            refine .inr ⟨go1, fun H' => ∃ β5 st5, Ext β7 H7 β5 H' ∧ RS X.K β5 H' st5 ∧ compGo src1 p1 t1 e st1.length m1 (j1 + 1) (wipeE env3 vs1) st5 = some (u1, stx), fun H' ⟨β5, st5, e5, s5, m5⟩ => ⟨m1, Nat.lt_succ_self m1, β5, st5, e7.trans e5, s5, m5⟩, fun x1 H8 y1 => ?_⟩
            obtain ⟨e8, s8, r8⟩ := yl1 x1 H8 y1
            refine ⟨β7, st7, wipeE env3 vs1, w1, env8, st8, ((((E4.ext e5).ext e6).ext e7).ext e8).wipe vs1, s8, r8, g5, fun σ9 H9 β9 e9 s9 E9 w9 => ⟨by rw [w9 vs1 hp1, wipe_wipe], ?_⟩⟩
            refine ⟨β9, st8, env8, c1, st9, E9, s9, g7, fun Ha βa ea' sa' => ?_⟩
            cases c1 with
            | false => exact ⟨βa, st9, (e8.trans e9).trans ea', sa', g8⟩
            | true =>
              rw [if_pos rfl] at g8 ⊢
              obtain ⟨z, stb, g9, g10⟩ := bnd_some g8
              obtain ⟨_, stc, g11, g12⟩ := bnd_some g10
              refine ⟨βa, st9, env8, z, stb, E9.ext ea', sa', g9, fun v Hb βb eb sb rb => ?_⟩
              unfold push at g11
              split at g11
              · rename_i xs hx
                split at g11
                · rename_i hz
                  cases g11
                  have hkD : βb[st1.length]? = some D := eb.ix (ea'.ix (e9.ix hk7))
                  obtain ⟨acc, ha, ra⟩ := rs_lst sb hkD hx
                  have hl := ra.length
                  have hz' := sml_line hz
                  have ec : Ext βb Hb βb (upd Hb D (.lst (acc ++ [v]))) := Ext.chg ha (fun _ z => (nomatch z)) (fun _ _ z => (nomatch z))
                  obtain ⟨_, sc⟩ := sb.chg hx hkD (u := .lst (acc ++ [v])) (o' := .lst (xs ++ [z])) ⟨_, upd_same, (ra.ext ec).snoc (rb.ext' ec)⟩
                  exact ⟨acc, ha, by omega, βb, _, (((e8.trans e9).trans ea').trans eb).trans ec, sc, g12⟩
                · cases g11
              · cases g11
theorem se_comp2 {elt tg iter tg1 iter1 : Expr} {ifs ifs1 : List Expr} {scope : Scope} {pos : Pos} {i i1 : IM} {p p1 : Pat} {t t1 : TM} {e : EM} (own : List (Str × Nat)) (vs1 : List Nat) (n n1 : Nat) (hc : X.calm = true) (hN : X.N.Nodup) (ok : BlkOk X.N X.env.scope scope own) (hv : ∀ i ∈ vs1, i ∈ own.map (·.2)) (hp : ∀ i ∈ p.slots, i ∈ own.map (·.2)) (hp1 : ∀ i ∈ p1.slots, i ∈ vs1) (hi : SI X tg iter i)
    (hg : ∀ (s : Shared) (H : Hp) (C : Addr) (cl : List (Str × Addr)) (fp : List Addr), SG (X.blk s H scope (compEnvC scope cl C X.env) fp) tg p) (ht : ∀ (s : Shared) (H : Hp) (C : Addr) (cl : List (Str × Addr)) (fp : List Addr), STs (X.blk s H scope (compEnvC scope cl C X.env) fp) ifs t)
    (hi1 : ∀ (s : Shared) (H : Hp) (C : Addr) (cl : List (Str × Addr)) (fp : List Addr), SI (X.blk s H scope (compEnvC scope cl C X.env) fp) tg1 iter1 i1)
    (hg1 : ∀ (s : Shared) (H : Hp) (C : Addr) (cl : List (Str × Addr)) (fp : List Addr), SG (X.blk s H scope (compEnvC scope cl C X.env) fp) tg1 p1) (ht1 : ∀ (s : Shared) (H : Hp) (C : Addr) (cl : List (Str × Addr)) (fp : List Addr), STs (X.blk s H scope (compEnvC scope cl C X.env) fp) ifs1 t1)
    (he : ∀ (s : Shared) (H : Hp) (C : Addr) (cl : List (Str × Addr)) (fp : List Addr), SE (X.blk s H scope (compEnvC scope cl C X.env) fp) elt e) (hs : ∀ x, foldedSetIterable iter X.env x = pure x := by intro _; rfl) (hs1 : ∀ env x, foldedSetIterable iter1 env x = pure x := by intro _ _; rfl) :
    SE X (.ListComp elt [⟨tg, iter, ifs, 0⟩, ⟨tg1, iter1, ifs1, 0⟩] scope pos) (eComp2 i p (own.map (·.2)) t i1 p1 vs1 t1 e n n1) :=
  ⟨PEimp (pe_lc2 (g := tMG X.K p) (g1 := tMG X.K p1) (tt := tMT X.K t) (tt1 := tMT X.K t1) (te := tM X.K e) hc hN hi.pi ok hv (fun s H C cl fp => (hg s H C cl fp).pg) (fun s H C cl fp => (ht s H C cl fp).pts) (fun s H C cl fp => (hi1 s H C cl fp).pi) (fun s H C cl fp => (hg1 s H C cl fp).pg) (fun s H C cl fp => (ht1 s H C cl fp).pts) (fun s H C cl fp => (he s H C cl fp).pe) hs hs1) fun _ _ _ h => tLc2_of hp hp1 h⟩
end
end B

set_option Elab.async false
set_option linter.all false
set_option maxRecDepth 100000
set_option maxHeartbeats 2000000
namespace B
open PySem PySem.Spec L2
set_option autoImplicit false

/-! ### enumerate of a tuple -/
def enO (it : Addr) : Obj := { cls := .type "enumerate", data := .fields #[.none, .bool false, .ref it, rawInt 0, .none, .none] }
theorem enNew {v : Value} {o : Obj} {P : Heap → Prop} (C : Begins v o P) :
    Meets (Builtin.«enumerate.__new__» ⟨[.type "enumerate", v], []⟩) (fun _ R s => P s.heap ∧ R (.ok (.ret (.ref (s.heap.push o).objs.size))) { s with heap := (s.heap.push o).push (enO s.heap.objs.size) }) :=
  .of_wp fun prog w A R s hh => by
    obtain ⟨hp, gg, dd, tk, os⟩ := s
    obtain ⟨h1, h⟩ := hh
    have subE := sub_enumerate
    have step : ∀ {B' : Around} {F : Value → Shared → Prop} {Q : Value → Shared → Prop}, Q (.ref hp.objs.size) ⟨hp.push o, gg, dd, tk, os⟩ → wpAny (model prog w) B' (pyIter v) Q F ⟨hp, gg, dd, tk, os⟩ :=
      fun q => C.iter prog w _ _ ⟨hp, gg, dd, tk, os⟩ _ h1 q
    wp_walk using step
    refine wpAny_stack_any fun stk => wpAny_pure ?_
    split
    · rename_i cc _ _ _ _ _
      cases (cc == Value.type "enumerate") <;> (wp_walk using step; exact ⟨_, rfl, h⟩)
    · wp_walk using step
      exact ⟨_, rfl, h⟩
section
variable {prog : Program} {w : World} {A : Around} {E : Value → Shared → Prop} {s : Shared}
theorem enCall {v : Value} {o : Obj} {P : Heap → Prop} {Q : Value → Shared → Prop} (C : Begins v o P) (h1 : P s.heap)
    (h : ∀ h', IsEnum h' (s.heap.objs.size + 1) s.heap.objs.size 0 .none → h'.get? s.heap.objs.size = some o → h'.objs.size = s.heap.objs.size + 2 → (∀ b u, s.heap.get? b = some u → h'.get? b = some u) → Q (.ref (s.heap.objs.size + 1)) { s with heap := h' }) :
    wpAny (model prog w) A (call (.type "enumerate") [v]) Q E s := by
  refine callType_new F.called_enumerate (by decide) (F.typeCall_enumerate_1 _) (F.newCall_enumerate_1 _) (fun x => F.args_object_init_2 x _) F.entry_enumerate_new (enNew C) ⟨h1, ?_⟩
  have sz : (s.heap.push o).objs.size = s.heap.objs.size + 1 := Heap.size_push ..
  show _ ∧ _
  rw [sz]
  have hn : IsEnum ((s.heap.push o).push (enO s.heap.objs.size)) (s.heap.objs.size + 1) s.heap.objs.size 0 .none := by
    have q := Heap.get?_push_size (s.heap.push o) (o := enO s.heap.objs.size) rfl
    rwa [sz] at q
  exact ⟨⟨_, hn, rfl⟩, h _ hn (Heap.get?_push_of_some _ (Heap.get?_push_size _ C.free)) (by rw [Heap.size_push, sz]) fun b u x => Heap.get?_push_of_some _ (Heap.get?_push_of_some _ x)⟩
end
/-- the items of the tuple at a, each in a new pair with its place -/
def ItE (K : PySem.W.Frag) (a : Addr) : It :=
  ⟨fun i H => ∃ (xs : List V) (x : V), SqT K H a xs ∧ xs[i]? = some x, fun i H v H' => ∃ T x, v = .ref T ∧ H T = none ∧ H' = upd H T (.tup [.int (i : Nat), x]) ∧ ∀ xs, SqT K H a xs → xs[i]? = some x, fun i H => ∃ xs : List V, SqT K H a xs ∧ xs.length = i⟩
theorem turnE {P : Program} {w : World} {K : PySem.W.Frag} {elts : List Expr} {kk : Nat} {tpos : Pos} (a e it : Addr) (hae : a ≠ it) :
    Turn P w K (.Tuple elts kk tpos) (ItE K a) [e, it] e (fun i h => (∃ old, IsEnum h e it ((i : Nat) : Int) old) ∧ h.IsTupleIter it a i ∧ e ≠ it ∧ a ≠ e) where
  mem := by simp
  obj := fun i h q b hb => by
    obtain ⟨⟨old, he⟩, ⟨o, ho, hc, hd⟩, _⟩ := q
    rcases (by simpa using hb : b = e ∨ b = it) with rfl | rfl
    · exact ⟨_, he, fun v z => nomatch z⟩
    · exact ⟨o, ho, fun v z => by rw [hd] at z; cases z⟩
  keep := fun i h h' ⟨⟨old, he⟩, hi, hne⟩ k => ⟨⟨old, k e (by simp) _ he⟩, hi.at fun o z => k it (by simp) o z, hne⟩
  item := by
    intro X hP hw hK hc i pins s σ H E I hf q hg
    subst hP hw hK
    obtain ⟨⟨old, he⟩, hit, hne, hae'⟩ := q
    obtain ⟨xs, x, hq, hx⟩ := hg
    obtain ⟨its, rv, p, hz⟩ := I.tuple hq
    obtain ⟨u, hu, ru⟩ := rv.get hx
    have hel : e < s.heap.objs.size := Heap.lt_size he
    have hil : it < s.heap.objs.size := by obtain ⟨_, z, _⟩ := hit; exact Heap.lt_size z
    have hlt : i < its.toArray.size := by
      have := (List.getElem?_eq_some_iff.mp hu).1
      simpa using this
    refine wpAny_pyNext_enum_itemD (Draws.tuple (prog := X.prog) (w := X.w) (A := X.A.in1) (I.ok.hd hc) it a hae its.toArray) he ⟨hit, p⟩ hlt hne (by simp; exact ⟨hne, fun z => hae' z.symm⟩) fun y h' tk hy ho st' hT hsz hk => ?_
    have hyu : y = u := by
      have e1 : its.toArray[i]? = some u := by simpa using hu
      rw [e1] at hy
      exact (Option.some.inj hy).symm
    subst hyu
    refine ⟨_, rfl, wpAny_letOwnedTupleGo_enum (s := { s with heap := h', toks := tk + 1 }) ho fun h'' he' sb => ?_⟩
    have sT : e ≠ s.heap.objs.size := Nat.ne_of_lt hel
    have hT2 : h''.get? s.heap.objs.size = some { cls := .type "tuple", data := .seq #[.int i tk, y] } := (sb.2 _ (Ne.symm sT)).trans hT
    have new : ObjOk X.prog X.w (upd H s.heap.objs.size (.tup [.int (i : Nat), x])) h'' s.heap.objs.size (.tup [.int (i : Nat), x]) :=
      ⟨by show 2 ≤ sizeLine; rw [sizeLine_eq]; decide, [.int i tk, y], .cons ⟨_, rfl⟩ (.cons ru .nil), ⟨_, hT2, rfl, _, rfl⟩⟩
    have I1 : Inv X pins σ (upd H s.heap.objs.size (.tup [.int (i : Nat), x])) { s with heap := h'', toks := tk + 1 } :=
      I.turnedNew (ch := [e, it]) (fun b ob hb q => by
        have h1 : b ≠ e := fun z => hb (by simp [z])
        have h2 : b ≠ it := fun z => hb (by simp [z])
        exact (sb.2 b h1).trans (hk b ob h1 h2 q)) hf (Nat.le_refl _) new
    have he2 : IsEnum h'' e it (((i + 1 : Nat)) : Int) y := by
      have z : ((i + 1 : Nat) : Int) = (i : Int) + 1 := by omega
      rw [z]; exact he'
    refine ⟨.ref s.heap.objs.size, _, I1, rfl, ⟨_, x, rfl, I.hok.fresh (Nat.le_refl _), rfl, fun ys hy => by rw [I.tuple_inj hy hq]; exact hx⟩, ⟨⟨y, he2⟩, st'.1.at fun o q => (sb.2 it (Ne.symm hne)).trans q, hne, hae'⟩, fun b hb => ?_⟩
    have hb' : b < s.heap.objs.size := by
      rcases (by simpa using hb : b = e ∨ b = it) with z | z
      · rw [z]; exact hel
      · rw [z]; exact hil
    rw [upd_ne (Nat.ne_of_lt hb')]
    exact (hf b hb).1
  done := by
    intro X hP hw hK hc i pins s σ H E I hf q hg
    subst hP hw hK
    obtain ⟨⟨old, he⟩, hit, hne, hae'⟩ := q
    obtain ⟨xs, hq, hx⟩ := hg
    obtain ⟨its, rv, p, hz⟩ := I.tuple hq
    obtain ⟨f0, f1, f2, f3, f4, f5⟩ := hf it (by simp)
    have hl := rv.length
    refine wpAny_pyNext_enum_endD (n := its.toArray.size) (Draws.tuple (prog := X.prog) (w := X.w) (A := X.A.in1) (I.ok.hd hc) it a hae its.toArray) he ?_ fun h' eb => ⟨rfl, I.turned (t' := s.toks) (fun b o hb q => eb b o hb q) f0 f1 f3 f4 f5⟩
    have hi : i = its.toArray.size := by simp; omega
    rw [← hi]
    exact ⟨hit, p⟩
  self := fun A i s Q E ⟨⟨_, he⟩, _⟩ h => wpAny_pyIter_enum he h
def tEnA (K : PySem.W.Frag) (ta : TA) : TI := fun σ H R => ta σ H fun vs H1 => ∃ a xs, vs = [.ref a] ∧ ((SqT K H1 a xs ∧ R (ItE K a) H1) ∨ (SqL K H1 a xs ∧ R (Ite K a) H1))
theorem pi_enA {X : Cx} {e : Expr} {ta : TA} {p pos tpos : Pos} {elts : List Expr} {kk : Nat} (hg : Gl X "enumerate") (hm : X.mg "enumerate" = none) (ha : PA X [e] ta) (hs : starEach [e] X.env = [(false, eval e X.env)] := by rfl) :
    PI X (.Tuple elts kk tpos) (.Call (.Name "enumerate" p) [e] [] pos) (tEnA X.K ta) := by
  refine ⟨fun pins s σ H R I h => ?_⟩
  refine PyProof.Rows.Call_ (ld_blt I hg hm PyProof.Rows.boot_enumerate (PyProof.Rows.callWith_type1 (thn (ha.run pos pins s σ H _ I h) fun us s1 ⟨vs, H1, I1, r1, a, xs, ev, qq⟩ => ?_) hs rfl))
  subst ev
  have fp : ∀ (h' : Heap) (b : Addr), b ∈ [s1.heap.objs.size + 1, s1.heap.objs.size] → FpOk X pins H1 b := fun h' b hb => by
    have hle : s1.heap.objs.size ≤ b := by
      rcases (by simpa using hb : b = s1.heap.objs.size + 1 ∨ b = s1.heap.objs.size) with z | z
      · rw [z]; exact Nat.le_add_right _ _
      · rw [z]; exact Nat.le_refl _
    exact I1.fpOk hle (I1.hok.fresh hle)
  cases r1 with
  | cons r rr =>
    cases rr
    cases r
    rcases qq with ⟨hq, q⟩ | ⟨hq, q⟩
    · obtain ⟨its, rv, p', hz⟩ := I1.tuple hq
      have ha' : a < s1.heap.objs.size := by obtain ⟨o, ho, _⟩ := p'; exact Heap.lt_size ho
      refine enCall (begins_tuple a its.toArray) p' fun h' he ho hsz hk => wpAny_pyIter_enum he ?_
      exact ⟨s1.heap.objs.size + 1, [s1.heap.objs.size + 1, s1.heap.objs.size], _, _, H1, rfl, I1.kept (t' := s1.toks) hk, turnE a (s1.heap.objs.size + 1) s1.heap.objs.size (Nat.ne_of_lt ha'), ⟨⟨.none, he⟩, ⟨_, ho, rfl, rfl⟩, Nat.succ_ne_self _, Nat.ne_of_lt (Nat.lt_succ_of_lt ha')⟩, fp h', q⟩
    · obtain ⟨its, rv, p', hz⟩ := I1.list hq
      refine enCall (begins_list a its.toArray) p'.isList fun h' he ho hsz hk => wpAny_pyIter_enum he ?_
      exact ⟨s1.heap.objs.size + 1, [s1.heap.objs.size + 1, s1.heap.objs.size], _, _, H1, rfl, I1.kept (t' := s1.toks) hk, turn_enum a (s1.heap.objs.size + 1) s1.heap.objs.size, ⟨⟨.none, he⟩, ⟨_, ho, rfl, rfl⟩, Nat.succ_ne_self _⟩, fp h', q⟩
def srcEnT (xs : List W) : Src := fun j _ => match xs[j]? with
  | some x => some (some (.tup [.int j, x]))
  | none => if j = xs.length then some none else none
def srcEnR (i : Nat) : Src := fun j st => match st[i]? with
  | some (.lst xs) => match xs[j]? with
    | some x => some (some (.tup [.int j, x]))
    | none => some none
  | _ => none
def iEnumM (a : AM) : IM := fun env => bnd (a env) fun ws st => match ws with
  | [.tup xs] => some (srcEnT xs, st)
  | [.fl xs] => some (srcEnT xs, st)
  | [.ref i] => match st[i]? with
    | some (.lst _) => some (srcEnR i, st)
    | _ => none
  | _ => none
section
variable {K : PySem.W.Frag}
theorem rsrc_enT {β : List Addr} {H : Hp} {a : Addr} {xs : List W} {vs : List V} (hq : SqT K H a vs) (r : RWs K β H xs vs) : RSrc K β H (ItE K a) (srcEnT xs) := by
  intro β' H' st' j e s'
  have hq' := e.sqT hq
  have r' := r.ext e
  refine ⟨fun h => ?_, fun w h => ?_⟩
  · unfold srcEnT at h
    split at h
    · cases h
    · split at h
      · rename_i hj
        exact ⟨vs, hq', by rw [← r'.length, hj]⟩
      · cases h
  · unfold srcEnT at h
    split at h
    · rename_i x hx
      cases h
      obtain ⟨v, hv, rv⟩ := r'.get hx
      refine ⟨⟨vs, v, hq', hv⟩, fun y H2 hy => ?_⟩
      obtain ⟨T, u, rfl, hT, rfl, hu⟩ := hy
      have := hu vs hq'
      rw [hv] at this
      cases this
      have ex : Ext β' H' β' (upd H' T (.tup [.int (j : Nat), v])) := Ext.new hT
      exact ⟨ex, s'.new hT, .tup (.inl upd_same) (.cons (.int _) (.cons (rv.ext' ex) .nil))⟩
    · split at h <;> cases h
theorem rsrc_enF {β : List Addr} {H : Hp} {a : Addr} {xs : List W} {vs : List V} (hq : Fix K H a vs) (r : RWs K β H xs vs) : RSrc K β H (Ite K a) (srcEnT xs) := by
  intro β' H' st' j e s'
  have hq' := (e.fix hq).sq
  have r' := r.ext e
  refine ⟨fun h => ?_, fun w h => ?_⟩
  · unfold srcEnT at h
    split at h
    · cases h
    · split at h
      · rename_i hj
        exact ⟨vs, hq', by rw [← r'.length, hj]; exact Nat.le_refl _⟩
      · cases h
  · unfold srcEnT at h
    split at h
    · rename_i x hx
      cases h
      obtain ⟨v, hv, rv⟩ := r'.get hx
      refine ⟨⟨vs, v, hq', hv⟩, fun y H2 hy => ?_⟩
      obtain ⟨T, u, rfl, hT, rfl, hu⟩ := hy
      have := hu vs hq'
      rw [hv] at this
      cases this
      have ex : Ext β' H' β' (upd H' T (.tup [.int (j : Nat), v])) := Ext.new hT
      exact ⟨ex, s'.new hT, .tup (.inl upd_same) (.cons (.int _) (.cons (rv.ext' ex) .nil))⟩
    · split at h <;> cases h
theorem rsrc_enR {β : List Addr} {H : Hp} {a : Addr} {i : Nat} (ha : β[i]? = some a) : RSrc K β H (Ite K a) (srcEnR i) := by
  intro β' H' st' j e s'
  have ha' := e.ix ha
  refine ⟨fun h => ?_, fun w h => ?_⟩
  · unfold srcEnR at h
    split at h
    · rename_i xs hi
      obtain ⟨vs, ev, r⟩ := rs_lst s' ha' hi
      split at h
      · cases h
      · rename_i hx
        exact ⟨vs, SqL.of ev, by rw [← r.length]; exact List.getElem?_eq_none_iff.mp hx⟩
    · cases h
  · unfold srcEnR at h
    split at h
    · rename_i xs hi
      obtain ⟨vs, ev, r⟩ := rs_lst s' ha' hi
      split at h
      · rename_i x hx
        cases h
        obtain ⟨v, hv, rv⟩ := r.get hx
        refine ⟨⟨vs, v, SqL.of ev, hv⟩, fun y H2 hy => ?_⟩
        obtain ⟨T, u, rfl, hT, rfl, hu⟩ := hy
        have := hu vs (SqL.of ev)
        rw [hv] at this
        cases this
        have ex : Ext β' H' β' (upd H' T (.tup [.int (j : Nat), v])) := Ext.new hT
        exact ⟨ex, s'.new hT, .tup (.inl upd_same) (.cons (.int _) (.cons (rv.ext' ex) .nil))⟩
      · cases h
    · cases h
end
theorem si_enum {X : Cx} {elts : List Expr} {kk : Nat} {tpos : Pos} {e : Expr} {m : AM} {p pos : Pos} (hg : Gl X "enumerate") (hm : X.mg "enumerate" = none) (ha : SA X [e] m) (hs : starEach [e] X.env = [(false, eval e X.env)] := by rfl) :
    SI X (.Tuple elts kk tpos) (.Call (.Name "enumerate" p) [e] [] pos) (iEnumM m) := by
  refine ⟨PIimp (pi_enA hg hm ha.pa hs) ?_⟩
  rintro σ H R ⟨β, st, env, src, st', hE, hS, hm, k⟩
  obtain ⟨ws, st1, h1, h2⟩ := bnd_some hm
  refine ⟨β, st, env, ws, st1, hE, hS, h1, fun vs H1 β1 e1 s1 r1 => ?_⟩
  split at h2
  · cases h2
    cases r1 with
    | cons r t =>
      cases t
      cases r with
      | @tup a _ us hq r => exact ⟨a, us, rfl, .inl ⟨hq.sq, k _ H1 β1 e1 s1 (rsrc_enT hq.sq r)⟩⟩
  · cases h2
    cases r1 with
    | cons r t =>
      cases t
      cases r with
      | @fl a _ us hq r => exact ⟨a, us, rfl, .inr ⟨hq.sq, k _ H1 β1 e1 s1 (rsrc_enF hq r)⟩⟩
  · rename_i i
    split at h2
    · rename_i xs hi
      cases h2
      cases r1 with
      | cons r t =>
        cases t
        cases r with
        | @ref _ a ha' =>
          obtain ⟨us, ev, ru⟩ := rs_lst s1 ha' hi
          exact ⟨a, us, rfl, .inr ⟨SqL.of ev, k _ H1 β1 e1 s1 (rsrc_enR ha')⟩⟩
    · cases h2
  · cases h2
end B

set_option Elab.async false
set_option linter.all false
set_option maxRecDepth 100000
set_option maxHeartbeats 2000000
namespace B
open PySem PySem.Spec L2
set_option autoImplicit false
/-! ### max and min of ints -/
@[simp] def bMax : List W → M W := fun xs st => match xs with
  | [w] => match itemsOf w st with
    | some ys => match intsW ys with
      | some (n :: ns) => some (.int (ns.foldl max n), st)
      | _ => none
    | none => none
  | _ => none
@[simp] def bMin2 : List W → M W := fun xs st => match xs with
  | [.int i, .int j] => some (.int (if j < i then j else i), st)
  | _ => none
def rMaxA (K : PySem.W.Frag) : List V → Hp → VK → Prop := fun vs H Q => ∃ (a : Addr) (n : Int) (ns : List Int), vs = [V.ref a] ∧ (SqL K H a ((n :: ns).map V.int) ∨ SqT K H a ((n :: ns).map V.int)) ∧ Q (.int (ns.foldl max n)) H
theorem dps_ints {K : PySem.W.Frag} {H : Hp} : ∀ ns : List Int, DpAll K H (ns.map V.int) (ns.map PyData.int)
  | [] => .nil
  | n :: ns => .cons (.int n) (dps_ints ns)
theorem depth_ints : ∀ ns : List Int, PyData.depthAll (ns.map PyData.int) = 0
  | [] => rfl
  | n :: ns => by simp [PyData.depthAll, PyData.depth, depth_ints ns]
theorem cr_maxA {X : Cx} (hc : X.calm = true) (hu : X.A.units + 100 < cLine) : CallR X (.builtin "max") (rMaxA X.K) := by
  intro pins s σ H vs us Q I r h
  obtain ⟨a, n, ns, rfl, hs, q⟩ := h
  rw [Vals.ref1 r]
  have hal : PySem.W.AlikeAll (PyData.int n :: ns.map PyData.int) := by
    refine ⟨fun x hx y hy => ?_, fun x hx z => ?_⟩
    · rw [← List.map_cons (f := PyData.int)] at hx hy
      obtain ⟨i, _, rfl⟩ := List.mem_map.mp hx
      obtain ⟨j, _, rfl⟩ := List.mem_map.mp hy
      rfl
    · rw [← List.map_cons (f := PyData.int)] at hx
      obtain ⟨i, _, rfl⟩ := List.mem_map.mp hx
      cases z
  have hdp : PyData.depthAll (PyData.int n :: ns.map PyData.int) = 0 := depth_ints (n :: ns)
  have hroom : X.A.units + 1 + PyData.depthAll (PyData.int n :: ns.map PyData.int) < cLine := by rw [hdp]; omega
  have fin : ∀ (v : Value) (h' : Heap) (tk : Nat) (bs : List Addr), Reads h' v (PySem.W.maxD (.int n) (ns.map .int)) bs → (∀ b o, s.heap.get? b = some o → h'.get? b = some o) → EP X pins σ Q v { s with heap := h', toks := tk } := fun v h' tk bs rd hk => by
    rw [PySem.W.maxD_ints] at rd
    cases rd
    exact ⟨.int _, H, I.kept hk, ⟨_, rfl⟩, q⟩
  rcases hs with hs | hs
  · obtain ⟨its, rv, hl, _⟩ := I.list hs
    obtain ⟨as, hr⟩ := Dp.readsAll I ((n :: ns).map PyData.int) _ its (dps_ints (n :: ns)) rv
    exact PySem.W.max_list_data (I.ok.hd hc) hl.isList (by simpa using hr) hal hroom fun i v h' tk bs _ rd hk => fin v h' tk bs rd hk
  · obtain ⟨its, rv, hl, _⟩ := I.tuple hs
    obtain ⟨as, hr⟩ := Dp.readsAll I ((n :: ns).map PyData.int) _ its (dps_ints (n :: ns)) rv
    exact PySem.W.max_tuple_data (I.ok.hd hc) hl (by simpa using hr) hal hroom fun i v h' tk bs _ rd hk => fin v h' tk bs rd hk
theorem ref_max {K : PySem.W.Frag} : RefN K bMax (rMaxA K) := by
  intro β H st st' xs w vs Q hS r hm k
  unfold bMax at hm
  split at hm
  · rename_i x
    split at hm
    · rename_i ys hy
      split at hm
      · rename_i n ns hn
        cases hm
        obtain ⟨v, rfl, rx⟩ := rws1 r
        obtain ⟨p, us, rfl, hq, ru⟩ := items_ok hS rx hy
        have hus := ints_ok ru hn
        subst hus
        exact ⟨p, n, ns, rfl, hq, k _ H β .refl hS (.int _)⟩
      · cases hm
    · cases hm
  · cases hm
theorem ref_min2 {K : PySem.W.Frag} : RefN K bMin2 (fun xs H Q => ∃ i j, xs = [.int i, .int j] ∧ Q (.int (if j < i then j else i)) H) := by
  intro β H st st' xs w vs Q hS r hm k
  unfold bMin2 at hm
  split at hm
  · rename_i i j
    cases hm
    obtain ⟨v, u, rfl, rx, ry⟩ := rws2 r
    exact ⟨i, j, by rw [rx.int_inv, ry.int_inv], k _ H β .refl hS (.int _)⟩
  · cases hm
end B

set_option Elab.async false
set_option linter.all false
set_option maxRecDepth 100000
set_option maxHeartbeats 2000000
namespace B
open PySem PySem.Spec L2
set_option autoImplicit false
/-! ### dicts whose keys are tuples of ints and words, an int among them -/
def keysW : List W → Option (List Key)
  | [] => some []
  | x :: xs => match keyW x, keysW xs with
    | some k, some ks => some (k :: ks)
    | _, _ => none
def hasInt : List W → Bool
  | [] => false
  | .int _ :: _ => true
  | _ :: xs => hasInt xs
def tkeyW : W → Option (List Key)
  | .tup xs => if hasInt xs = true then keysW xs else none
  | _ => none
section
variable {K : PySem.W.Frag} {β : List Addr} {H : Hp}
theorem keysW_ok : ∀ {xs : List W} {vs : List V} {ks : List Key}, RWs K β H xs vs → keysW xs = some ks → vs = ks.map kV
  | _, _, ks, .nil, h => by simp [keysW] at h; subst h; rfl
  | _, _, ks, .cons (x := x) (xs := xs) r t, h => by
    unfold keysW at h
    split at h
    · rename_i k ks' hk hks
      cases h
      rw [keyW_ok r hk, keysW_ok t hks]; rfl
    · cases h
theorem hasInt_ok : ∀ {xs : List W} {vs : List V}, RWs K β H xs vs → hasInt xs = true → ∃ i : Int, V.int i ∈ vs
  | _, _, .nil, h => by simp [hasInt] at h
  | _, _, .cons (x := x) r t, h => by
    cases x with
    | int i => exact ⟨i, by rw [r.int_inv]; exact List.mem_cons_self⟩
    | _ =>
      have h' : hasInt _ = true := h
      obtain ⟨i, hi⟩ := hasInt_ok t (by simpa [hasInt] using h')
      exact ⟨i, List.mem_cons_of_mem _ hi⟩
theorem tkey_ok {w : W} {v : V} {ks : List Key} (r : RW K β H w v) (h : tkeyW w = some ks) : ∃ b, v = .ref b ∧ H b = some (.tup (ks.map kV)) := by
  cases r with
  | @tup a xs vs hq r =>
    unfold tkeyW at h
    simp only at h
    split at h
    · rename_i hi
      have e := keysW_ok r h
      obtain ⟨i, hm⟩ := hasInt_ok r hi
      rcases hq with hq | ⟨_, hs⟩
      · exact ⟨a, rfl, by rw [← e]; exact hq⟩
      · obtain ⟨x, hx⟩ := hs _ hm
        cases hx
    · cases h
  | _ => simp [tkeyW] at h
end
def dttOf (w : W) (st : Sto) : Option (Nat × List (List Key × W)) := match w with
  | .ref i => match st[i]? with
    | some (.dtt xs) => some (i, xs)
    | _ => none
  | _ => none
/-- .. that may be walked just now -/
def dtrOf (w : W) (st : Sto) : Option (Nat × List (List Key × W)) := match w with
  | .ref i => match st[i]? with
    | some (.dtt xs) => some (i, xs)
    | _ => none
  | _ => none
theorem DGet.tr {H : Hp} {a b : Addr} {kvs : List (List Key × V)} {k : List Key} (e : Rd H a (.dT kvs)) (eb : H b = some (.tup (k.map kV))) : DGet H a (.ref b) (valV kvs k) := .inr ⟨kvs, k, b, e, rfl, eb, rfl⟩
theorem dtr_ok {K : PySem.W.Frag} {β : List Addr} {H : Hp} {st : Sto} {w : W} {v : V} {i : Nat} {xs : List (List Key × W)} (hS : RS K β H st) (r : RW K β H w v) (h : dtrOf w st = some (i, xs)) :
    ∃ a vs, v = .ref a ∧ Rd H a (.dT vs) ∧ RKs K β H xs vs := by
  unfold dtrOf at h
  cases r with
  | ref hb =>
    dsimp only at h
    split at h
    · rename_i xs hi
      cases h
      obtain ⟨vs, e, r⟩ := rs_dtt hS hb hi
      exact ⟨_, vs, rfl, .inl e, r⟩
    · cases h
  | _ => cases h
theorem dtt_ok {K : PySem.W.Frag} {β : List Addr} {H : Hp} {st : Sto} {w : W} {v : V} {i : Nat} {xs : List (List Key × W)} (hS : RS K β H st) (r : RW K β H w v) (h : dttOf w st = some (i, xs)) :
    ∃ a vs, v = .ref a ∧ β[i]? = some a ∧ st[i]? = some (.dtt xs) ∧ H a = some (.dT vs) ∧ RKs K β H xs vs := by
  unfold dttOf at h
  cases r with
  | ref hb =>
    dsimp only at h
    split at h
    · rename_i xs hi
      cases h
      obtain ⟨vs, e, r⟩ := rs_dtt hS hb hi
      exact ⟨_, vs, rfl, hb, hi, e, r⟩
    · cases h
  | _ => cases h
def eDictT0 : EM := fun _ st => some (.ref st.length, st ++ [.dtt []])
def fTGet : W → W → M W := fun x y st => match dtrOf x st, tkeyW y with
  | some (_, kvs), some k => match valW kvs k with
    | some w => some (w, st)
    | none => none
  | _, _ => none
def fTIn (neg : Bool) : W → W → M W := fun y x st => match dtrOf x st, tkeyW y with
  | some (_, kvs), some k => some (.bl (if neg = true then !(valW kvs k).isSome else (valW kvs k).isSome), st)
  | _, _ => none
def sTSet (o i e : EM) : SM := fun env => bnd (e env) fun y => bnd (o env) fun x => bnd (i env) fun j => fun st => match dttOf x st, tkeyW j with
  | some (q, kvs), some k => if sml kvs.length = true then some ((.nx, env), st.set q (.dtt (putW kvs k y))) else none
  | _, _ => none
section
variable {X : Cx}
theorem se_dictT0 {pos : Pos} : SE X (.Dict [] [] pos) eDictT0 := by
  refine ⟨PEimp pe_dnewT ?_⟩
  rintro σ H Q ⟨β, st, env, w, st', hE, hS, hm, k⟩
  cases hm
  intro p hf
  have e : Ext β H (β ++ [p]) (upd H p (.dT [])) := Ext.alloc hf
  exact k _ _ _ e (hS.alloc hf ⟨_, upd_same, .nil⟩) (.ref (alloc_ix hS))
theorem se_tget {o i : Expr} {mo mi : EM} {pos : Pos} (hu : X.A.units + 1 < cLine) (ho : SE X o mo) (hi : SE X i mi) (hs : NoSl i := by exact fun _ _ => rfl) : SE X (.Subscript o i pos) (eOp fTGet mo mi) := by
  refine ⟨PEimp (pe_dget hu ho.pe hi.pe hs) ?_⟩
  rintro σ H Q ⟨β, st, env, w, st', hE, hS, hm, k⟩
  obtain ⟨x, st1, h1, h2⟩ := bnd_some hm
  obtain ⟨y, st2, h3, h4⟩ := bnd_some h2
  refine ⟨β, st, env, x, st1, hE, hS, h1, fun v H1 β1 e1 s1 r1 => ⟨β1, st1, env, y, st2, hE.ext e1, s1, h3, fun u H2 β2 e2 s2 r2 => ?_⟩⟩
  unfold fTGet at h4
  split at h4
  · rename_i q kvs kk hd hk
    split at h4
    · rename_i w' hw
      cases h4
      obtain ⟨a, vs, rfl, e, r⟩ := dtr_ok s2 (r1.ext' e2) hd
      obtain ⟨b, rfl, hb2⟩ := tkey_ok r2 hk
      rcases r.val kk with ⟨a1, _⟩ | ⟨w2, v2, a1, a2, rv⟩
      · rw [hw] at a1; cases a1
      · rw [hw] at a1; cases a1
        exact ⟨a, v2, rfl, by rw [← a2]; exact DGet.tr e hb2, k v2 H2 β2 (e1.trans e2) s2 rv⟩
    · cases h4
  · cases h4
theorem tin_of {σ : L2.St} {H : Hp} {Q : VK} {mi mo : EM} (h : tM X.K (eOp (fTIn false) mi mo) σ H Q) : tDIn (tM X.K mi) (tM X.K mo) σ H Q := by
  obtain ⟨β, st, env, w, st', hE, hS, hm, k⟩ := h
  obtain ⟨y, st1, h1, h2⟩ := bnd_some hm
  obtain ⟨x, st2, h3, h4⟩ := bnd_some h2
  refine ⟨β, st, env, y, st1, hE, hS, h1, fun u H1 β1 e1 s1 r1 => ⟨β1, st1, env, x, st2, hE.ext e1, s1, h3, fun v H2 β2 e2 s2 r2 => ?_⟩⟩
  unfold fTIn at h4
  split at h4
  · rename_i q kvs kk hd hk
    cases h4
    obtain ⟨a, vs, rfl, e, r⟩ := dtr_ok s2 r2 hd
    obtain ⟨b, rfl, hb2⟩ := tkey_ok (r1.ext' e2) hk
    refine ⟨a, valV vs kk, rfl, DGet.tr e hb2, ?_⟩
    have hv : (valW kvs kk).isSome = (valV vs kk).isSome := by
      rcases r.val kk with ⟨a1, a2⟩ | ⟨w2, v2, a1, a2, _⟩ <;> rw [a1, a2] <;> rfl
    rw [← hv]
    exact k _ H2 β2 (e1.trans e2) s2 (.bl _)
  · cases h4
theorem tnotin_of {σ : L2.St} {H : Hp} {Q : VK} {mi mo : EM} (h : tM X.K (eOp (fTIn true) mi mo) σ H Q) : tDNotIn (tM X.K mi) (tM X.K mo) σ H Q := by
  obtain ⟨β, st, env, w, st', hE, hS, hm, k⟩ := h
  obtain ⟨y, st1, h1, h2⟩ := bnd_some hm
  obtain ⟨x, st2, h3, h4⟩ := bnd_some h2
  refine ⟨β, st, env, y, st1, hE, hS, h1, fun u H1 β1 e1 s1 r1 => ⟨β1, st1, env, x, st2, hE.ext e1, s1, h3, fun v H2 β2 e2 s2 r2 => ?_⟩⟩
  unfold fTIn at h4
  split at h4
  · rename_i q kvs kk hd hk
    cases h4
    obtain ⟨a, vs, rfl, e, r⟩ := dtr_ok s2 r2 hd
    obtain ⟨b, rfl, hb2⟩ := tkey_ok (r1.ext' e2) hk
    refine ⟨a, valV vs kk, rfl, DGet.tr e hb2, ?_⟩
    have hv : (valW kvs kk).isSome = (valV vs kk).isSome := by
      rcases r.val kk with ⟨a1, a2⟩ | ⟨w2, v2, a1, a2, _⟩ <;> rw [a1, a2] <;> rfl
    rw [← hv]
    exact k _ H2 β2 (e1.trans e2) s2 (.bl _)
  · cases h4
theorem st_tin {o i : Expr} {mo mi : EM} {pos : Pos} (hu : X.A.units + 1 < cLine) (hi : SE X i mi) (ho : SE X o mo) (h1 : behindInMarks .In o = false := by rfl) : ST X (.Compare i [.In] [o] pos) (tBl (eOp (fTIn false) mi mo)) :=
  ⟨PTimp (pt_cmp (pc_din hu hi.pe ho.pe) h1) fun _ _ _ h => tin_of (tM_bl h)⟩
theorem st_tnotin {o i : Expr} {mo mi : EM} {pos : Pos} (hu : X.A.units + 1 < cLine) (hi : SE X i mi) (ho : SE X o mo) (h1 : behindInMarks .NotIn o = false := by rfl) : ST X (.Compare i [.NotIn] [o] pos) (tBl (eOp (fTIn true) mi mo)) :=
  ⟨PTimp (pt_cmp (pc_dnotin hu hi.pe ho.pe) h1) fun _ _ _ h => tnotin_of (tM_bl h)⟩
theorem ss_tput {o i e : Expr} {mo mi me : EM} {pos pos' : Pos} (hu : X.A.units + 1 < cLine) (ho : SE X o mo) (hi : SE X i mi) (he : SE X e me) (hs : swapsWith e (some (.Subscript o i pos')) pos.line X.env = pure false := by rfl) :
    SS X (.Assign [.Subscript o i pos'] e pos) (sTSet mo mi me) := by
  refine ⟨PSimp (ps_dput hu ho.pe hi.pe he.pe hs) ?_⟩
  rintro D σ H ⟨β, st, env, fl, env', st', hE, hS, hm, k⟩
  obtain ⟨y, st1, h1, h2⟩ := bnd_some hm
  obtain ⟨x, st2, h3, h4⟩ := bnd_some h2
  obtain ⟨j, st3, h5, h6⟩ := bnd_some h4
  refine ⟨β, st, env, y, st1, hE, hS, h1, fun vy H1 β1 e1 s1 r1 => ⟨β1, st1, env, x, st2, hE.ext e1, s1, h3, fun vx H2 β2 e2 s2 r2 => ⟨β2, st2, env, j, st3, (hE.ext e1).ext e2, s2, h5, fun vj H3 β3 e3 s3 r3 => ?_⟩⟩⟩
  split at h6
  · rename_i q kvs kk hd hk
    split at h6
    · rename_i hz
      cases h6
      obtain ⟨a, vs, rfl, hb, hi, e, r⟩ := dtt_ok s3 (r2.ext' e3) hd
      obtain ⟨b, rfl, hb2⟩ := tkey_ok r3 hk
      have ec : Ext β3 H3 β3 (upd H3 a (.dT (putK vs kk vy))) := Ext.chg e (fun _ z => nomatch z) (fun _ _ z => nomatch z)
      obtain ⟨_, sc⟩ := s3.chg (u := .dT (putK vs kk vy)) (o' := .dtt (putW kvs kk y)) hi hb ⟨_, upd_same, (r.put (k := kk) ((r1.ext' e2).ext' e3)).ext ec⟩
      refine ⟨a, _, rfl, DPut.t e hb2 (by rw [← r.length]; exact sml_line hz), k _ _ _ (((e1.trans e2).trans e3).trans ec) sc ((((hE.ext e1).ext e2).ext e3).ext ec)⟩
    · cases h6
  · cases h6
theorem ss_setComp2 {j : Nat} {y : Str} {py : Pos} {elt tg iter tg1 iter1 : Expr} {ifs ifs1 : List Expr} {scope : Scope} {pos spos : Pos} {i i1 : IM} {p p1 : Pat} {t t1 : TM} {e : EM} (own : List (Str × Nat)) (vs1 : List Nat) (n n1 : Nat) (hc : X.calm = true) (hN : X.N.Nodup) (ok : BlkOk X.N X.env.scope scope own) (hv : ∀ i ∈ vs1, i ∈ own.map (·.2)) (hp : ∀ i ∈ p.slots, i ∈ own.map (·.2)) (hp1 : ∀ i ∈ p1.slots, i ∈ vs1)
    (hsw : swapsWith (.ListComp elt [⟨tg, iter, ifs, 0⟩, ⟨tg1, iter1, ifs1, 0⟩] scope pos) (some (.Name y py)) spos.line X.env = pure true) (hi : SI X tg iter i)
    (hg : ∀ (s : Shared) (H : Hp) (C : Addr) (cl : List (Str × Addr)) (fp : List Addr), SG (X.blk s H scope (compEnvC scope cl C X.env) fp) tg p) (ht : ∀ (s : Shared) (H : Hp) (C : Addr) (cl : List (Str × Addr)) (fp : List Addr), STs (X.blk s H scope (compEnvC scope cl C X.env) fp) ifs t)
    (hi1 : ∀ (s : Shared) (H : Hp) (C : Addr) (cl : List (Str × Addr)) (fp : List Addr), SI (X.blk s H scope (compEnvC scope cl C X.env) fp) tg1 iter1 i1)
    (hg1 : ∀ (s : Shared) (H : Hp) (C : Addr) (cl : List (Str × Addr)) (fp : List Addr), SG (X.blk s H scope (compEnvC scope cl C X.env) fp) tg1 p1) (ht1 : ∀ (s : Shared) (H : Hp) (C : Addr) (cl : List (Str × Addr)) (fp : List Addr), STs (X.blk s H scope (compEnvC scope cl C X.env) fp) ifs1 t1)
    (he : ∀ (s : Shared) (H : Hp) (C : Addr) (cl : List (Str × Addr)) (fp : List Addr), SE (X.blk s H scope (compEnvC scope cl C X.env) fp) elt e) (hy : X.N[j]? = some y := by rfl) (hyl : X.env.scope.names.lookup y = some .local := by rfl) (hs : ∀ x, foldedSetIterable iter X.env x = pure x := by intro _; rfl) (hs1 : ∀ env x, foldedSetIterable iter1 env x = pure x := by intro _ _; rfl) :
    SS X (.Assign [.Name y py] (.ListComp elt [⟨tg, iter, ifs, 0⟩, ⟨tg1, iter1, ifs1, 0⟩] scope pos) spos) (sSet (.nm j) (eComp2 i p (own.map (·.2)) t i1 p1 vs1 t1 e n n1)) := by
  refine ⟨PSimp (ps_setLc2 (i := j) (wi1 := tMI X.K i1) (g := tMG X.K p) (g1 := tMG X.K p1) (tt := tMT X.K t) (tt1 := tMT X.K t1) (te := tM X.K e) hc hN hy hyl hsw hi.pi ok hv (fun s H C cl fp => (hg s H C cl fp).pg) (fun s H C cl fp => (ht s H C cl fp).pts) (fun s H C cl fp => (hi1 s H C cl fp).pi) (fun s H C cl fp => (hg1 s H C cl fp).pg) (fun s H C cl fp => (ht1 s H C cl fp).pts) (fun s H C cl fp => (he s H C cl fp).pe) hs hs1) ?_⟩
  rintro D σ H ⟨β, st, env, fl, env', st', hE, hS, hm, k⟩
  obtain ⟨w, st1, h1, h2⟩ := bnd_some hm
  obtain ⟨env1, st2, h3, h4⟩ := bnd_some h2
  simp only [Pat.asg] at h3
  cases h3
  cases h4
  refine tLc2_of hp hp1 (Q := fun x H1 => gName j x σ H1 D.nx) ⟨β, st, env, w, _, hE, hS, h1, fun v H1 β1 e1 s1 r1 => ?_⟩
  exact k _ H1 β1 e1 s1 ((hE.ext e1).set r1 j)
end
end B

set_option Elab.async false
set_option linter.all false
set_option maxRecDepth 100000
set_option maxHeartbeats 2000000
namespace B
open PySem PySem.Spec L2
set_option autoImplicit false
/-! ### sorted of data, any number -/
def kd (w : W) : PyData := (toD w).getD .none
def isTupD : PyData → Bool
  | .tuple (_ :: _) => true
  | _ => false
def plainD : PyData → Bool
  | .none => false
  | .tuple _ => false
  | _ => true
def sortOk (ds : List PyData) : Bool := ds.all (fun a => ds.all fun b => PySem.W.alike a b) && ((ds.all isTupD || ds.all plainD) && ds.all fun d => Nat.ble d.depth 64)
def fSorted (x : W) : M W := fun st => match listOf x st with
  | some ws => match toDs ws with
    | some ds => if (sortOk ds && sml ws.length) = true then some (.ref st.length, st ++ [.lst (ws.mergeSort (PySem.W.dataLe false kd))]) else none
    | none => none
  | none => none
theorem toDs_map : ∀ {ws : List W} {ds : List PyData}, toDs ws = some ds → ds = ws.map kd
  | [], ds, h => by simp [toDs] at h; subst h; rfl
  | w :: ws, ds, h => by
    unfold toDs at h
    split at h
    · rename_i d ds' hd hds
      cases h
      rw [toDs_map hds]
      simp [kd, hd]
    · cases h
def rSortedD (K : PySem.W.Frag) : List V → Hp → VK → Prop := fun vs H Q => ∃ (a : Addr) (ws : List W) (us : List V) (ds : List PyData), vs = [V.ref a] ∧ SqL K H a us ∧ DpAll K H us ds ∧ ws.length = us.length ∧ ds = ws.map kd ∧ sortOk ds = true ∧ us.length ≤ sizeLine ∧
  ∀ (ps : List (W × V)) (p : Addr), ps = (ws.zip us).mergeSort (PySem.W.dataLe false fun q => kd q.1) → H p = none → Q (.ref p) (upd H p (.lst (ps.map (·.2))))
theorem each_zip : ∀ {ws : List W} {us : List V} {its : List Value}, ws.length = us.length → Vals us its → PySem.W.EachIs (fun u (q : W × V) => RelV q.2 u) its (ws.zip us)
  | [], [], _, _, .nil => .nil
  | [], _ :: _, _, h, _ => by simp at h
  | _ :: _, [], _, h, _ => by simp at h
  | w :: ws, u :: us, _, h, .cons r t => .cons r (each_zip (by simpa using h) t)
theorem each_reads {X : Cx} {pins : List (Addr × Obj)} {σ : L2.St} {H : Hp} {s : Shared} (I : Inv X pins σ H s) : ∀ {ws : List W} {us : List V} {its : List Value}, ws.length = us.length → Vals us its → DpAll X.K H us (ws.map kd) →
    PySem.W.EachIs (fun u (q : W × V) => ∃ as, Reads s.heap u (kd q.1) as) its (ws.zip us)
  | [], [], _, _, .nil, _ => .nil
  | [], _ :: _, _, h, _, _ => by simp at h
  | _ :: _, [], _, h, _, _ => by simp at h
  | w :: ws, u :: us, _, h, .cons r t, d => by
    cases d with
    | cons d1 d2 =>
      obtain ⟨as, q⟩ := Dp.reads I _ u _ d1 r
      exact .cons ⟨as, q⟩ (each_reads I (by simpa using h) t d2)
theorem vals_each : ∀ {out : List Value} {ps : List (W × V)}, PySem.W.EachIs (fun u (q : W × V) => RelV q.2 u) out ps → Vals (ps.map (·.2)) out
  | _, _, .nil => .nil
  | _, _, .cons r t => .cons r (vals_each t)
theorem map_fst_zip {ws : List W} {us : List V} (h : ws.length = us.length) : (ws.zip us).map (·.1) = ws := by
  rw [List.map_fst_zip]; omega
theorem sortOk_is {ds : List PyData} (h : sortOk ds = true) : PySem.W.AllAlike ds ∧ PySem.W.Sortable ds ∧ ∀ d ∈ ds, d.depth ≤ 64 := by
  unfold sortOk at h
  simp only [Bool.and_eq_true, Bool.or_eq_true, List.all_eq_true] at h
  refine ⟨fun d hd e he => h.1 d hd e he, ?_, fun d hd => Nat.le_of_ble_eq_true (h.2.2 d hd)⟩
  rcases h.2.1 with g | g
  · left
    intro d hd
    have := g d hd
    cases d with
    | tuple xs => cases xs with
      | nil => simp [isTupD] at this
      | cons x r => exact ⟨x, r, rfl⟩
    | _ => simp [isTupD] at this
  · right
    intro d hd
    have := g d hd
    refine ⟨fun z => by subst z; simp [plainD] at this, fun xs z => by subst z; simp [plainD] at this⟩
theorem cr_sortedD {X : Cx} (hu : X.A.units + 100 < cLine) : CallR X (.builtin "sorted") (rSortedD X.K) := by
  intro pins s σ H vs us' Q I r h
  obtain ⟨a, ws, us, ds, rfl, hs, hd, hl, rfl, ho, hz, q⟩ := h
  obtain ⟨its, rv, hp, _⟩ := I.list hs
  rw [Vals.ref1 r]
  obtain ⟨h1, h2, h3⟩ := sortOk_is ho
  have hm : (ws.zip us).map (fun q : W × V => kd q.1) = ws.map kd := by
    conv => rhs; rw [← map_fst_zip hl]
    rw [List.map_map]; rfl
  refine PySem.W.sorted_data (enc := fun q : W × V => kd q.1) hp.isList (each_zip hl rv) (each_reads I hl rv hd) (by rw [hm]; exact h1) (by rw [hm]; exact h2) (by rw [List.length_zip]; omega) (fun b hb => ?_) fun out ho2 he => ?_
  · have : kd b.1 ∈ ws.map kd := by rw [← hm]; exact List.mem_map.mpr ⟨b, hb, rfl⟩
    have := h3 _ this
    omega
  · obtain ⟨ep, he'⟩ := PyProof.Rows.sortedAll_at s.heap its out.toArray
    have hlen : (((ws.zip us).mergeSort (PySem.W.dataLe false fun q : W × V => kd q.1)).map (·.2)).length ≤ sizeLine := by
      rw [List.length_map, List.length_mergeSort, List.length_zip]; omega
    exact ⟨.ref _, _, I.laid (a := s.heap.objs.size + 1) (o := .lst (((ws.zip us).mergeSort (PySem.W.dataLe false fun q : W × V => kd q.1)).map (·.2))) (t' := s.toks) (fun _ _ => PyProof.Rows.sortedAll_old) (Nat.le_succ _) ⟨hlen, out, ep, vals_each he, he'⟩, rfl, q _ _ rfl (I.hok.fresh (Nat.le_succ _))⟩
theorem rws_pairs {K : PySem.W.Frag} {β : List Addr} {H : Hp} : ∀ {ps : List (W × V)}, (∀ p ∈ ps, RW K β H p.1 p.2) → RWs K β H (ps.map (·.1)) (ps.map (·.2))
  | [], _ => .nil
  | p :: ps, h => .cons (h p List.mem_cons_self) (rws_pairs fun q hq => h q (List.mem_cons_of_mem _ hq))
theorem rws_zip {K : PySem.W.Frag} {β : List Addr} {H : Hp} : ∀ {ws : List W} {us : List V}, RWs K β H ws us → ∀ p ∈ ws.zip us, RW K β H p.1 p.2
  | _, _, .nil, p, hp => by simp at hp
  | _, _, .cons r t, p, hp => by
    rcases List.mem_cons.mp hp with rfl | hp
    · exact r
    · exact rws_zip t p hp
theorem se_sorted {X : Cx} {e : Expr} {m : EM} {p pos : Pos} (hu : X.A.units + 100 < cLine) (hg : Gl X "sorted") (hm : X.mg "sorted" = none) (he : SE X e m)
    (hs : starEach [e] X.env = (false, eval e X.env) :: starEach [] X.env := by rfl) (hpl : (backTo pos (starEach [] X.env)).any (·.1) = false := by rfl) :
    SE X (.Call (.Name "sorted" p) [e] [] pos) (eUn fSorted m) := by
  refine ⟨PEimp (pe_callB (cr_sortedD hu) hg hm PyProof.Rows.boot_sorted (pa_cons he.pe pa_nil hs) (by decide) (by decide) hs hpl) ?_⟩
  rintro σ H Q ⟨β, st, env, w, st', hE, hS, hmm, k⟩
  obtain ⟨x, st1, h1, h2⟩ := bnd_some hmm
  refine ⟨β, st, env, x, st1, hE, hS, h1, fun v H1 β1 e1 s1 r1 => ?_⟩
  unfold fSorted at h2
  split at h2
  · rename_i ws hw
    split at h2
    · rename_i ds hds
      split at h2
      · rename_i hc
        cases h2
        rw [Bool.and_eq_true] at hc
        obtain ⟨a, us, rfl, hq, ru⟩ := list_ok s1 r1 hw
        have hl := ru.length
        refine ⟨a, ws, us, ds, rfl, hq, dps_of ws us ds ru hds, hl, toDs_map hds, hc.1, by rw [← hl]; exact Nat.le_of_lt (sml_line hc.2), fun ps p' hps hp => ?_⟩
        have e : Ext β1 H1 (β1 ++ [p']) (upd H1 p' (.lst (ps.map (·.2)))) := Ext.alloc hp
        have hfst : ps.map (·.1) = ws.mergeSort (PySem.W.dataLe false kd) := by
          have hz : ((ws.zip us).mergeSort (PySem.W.dataLe false fun q : W × V => kd q.1)).map (fun q : W × V => q.1) = ((ws.zip us).map (fun q : W × V => q.1)).mergeSort (PySem.W.dataLe false kd) := List.map_mergeSort (fun a _ b _ => rfl)
          rw [hps, hz, map_fst_zip hl]
        have hrw : RWs X.K β1 H1 (ws.mergeSort (PySem.W.dataLe false kd)) (ps.map (·.2)) := by
          rw [← hfst]
          exact rws_pairs fun q hq => rws_zip ru q (by rw [hps] at hq; exact (List.mergeSort_perm _ _).mem_iff.mp hq)
        exact k _ _ _ (e1.trans e) (s1.alloc hp ⟨_, upd_same, hrw.ext e⟩) (.ref (alloc_ix s1))
      · cases h2
    · cases h2
  · cases h2
end B

set_option Elab.async false
set_option linter.all false
set_option maxRecDepth 100000
set_option maxHeartbeats 2000000
namespace B
open PySem PySem.Spec L2 PyProof.Rows
set_option autoImplicit false
/-! ### list * int -/
@[simp] def fRepL : W → W → M W := fun x y st => match x, y with
  | .ref i, .int k => match st[i]? with
    | some (.lst xs) => if decide (-1000000 ≤ k ∧ k ≤ 1000000 ∧ xs.length * k.toNat ≤ 1000000) = true then some (.ref st.length, st ++ [.lst (List.replicate k.toNat xs).flatten]) else none
    | _ => none
  | _, _ => none
theorem ref_repL {K : PySem.W.Frag} : Ref2 K fRepL rRep := by
  intro β H st st' x y w vx vy Q hS rx ry hm k
  unfold fRepL at hm
  split at hm
  · rename_i i n
    split at hm
    · rename_i xs hi
      split at hm
      · rename_i hc
        cases hm
        have hc := of_decide_eq_true hc
        cases rx with
        | @ref i a ha =>
          obtain ⟨vs, e1, r⟩ := rs_lst hS ha hi
          have hl := r.length
          refine ⟨a, n, vs, rfl, ry.int_inv, e1, by omega, by omega, by rw [← hl, sizeLine_eq]; omega, fun p hf => ?_⟩
          have e : Ext β H (β ++ [p]) (upd H p (.lst (List.replicate n.toNat vs).flatten)) := Ext.alloc hf
          exact k _ _ _ e (hS.alloc hf ⟨_, upd_same, (rws_rep r _).ext e⟩) (.ref (alloc_ix hS))
      · cases hm
    · cases hm
  · cases hm
/-! ### tuple * 1 -/
theorem tuple_mul1 (l : Addr) (items : Array Value) (n : Nat) (dd : Option Addr) (sl : Array (Option Value)) (u : Tok) (c0 : (decide ((1:Int) < -(2 ^ 63)) || decide ((1:Int) ≥ 2 ^ 63)) = false) :
    Meets (Builtin.«tuple.__mul__» ⟨[.ref l, .int 1 u], []⟩) (fun _ R s => s.heap.get? l = some { cls := .type "tuple", dict := dd, data := .seq items n, slots := sl } ∧ R (.ok (.ret (Value.ref l))) s) :=
  .of_wp fun prog w A R s h => by
    obtain ⟨hp, g, d, tk, os⟩ := s
    obtain ⟨hl, h⟩ := h
    have f1 := AutoSeq1.idx_int
    wp_walk using wpAny_loadPart' hl
    exact ⟨_, rfl, h⟩
def rRep1 (K : PySem.W.Frag) : R2 := fun x y H Q => ∃ l xs, x = .ref l ∧ y = .int 1 ∧ SqT K H l xs ∧ Q (.ref l) H
theorem op_rep1 {X : Cx} : OpR X (binaryOp .Mult) (rRep1 X.K) := by
  intro pins s σ H x y v u Q I rx ry h
  obtain ⟨l, xs, rfl, rfl, hT, q⟩ := h
  cases rx
  obtain ⟨t, rfl⟩ := ry
  obtain ⟨its, r, ⟨⟨cls, dd, data, sl⟩, ho, hc, n, hd⟩, hs⟩ := I.tuple hT
  simp only at hc hd
  subst hc hd
  refine wpAny_binaryOp_repeat_ref (T := "tuple") (U := "int") (by decide) ⟨_, ho, rfl⟩ (fun s' => typeIs_int s' 1 t) noFill_tuple_mul F.fills_int_mul F.slot_int_rmul repeat_tuple F.slot_int_index.lookup
    (call_meets F.slot_int_rmul (typeIs_int s 1 t) F.entry_int_rmul (F.args_int_rmul_2 _ _) (int_rmul_tuple 1 t l its.toArray n dd sl)
      ⟨ho, rfl, ⟨_, ho, rfl⟩, call_meets F.slot_tuple_mul ⟨_, ho, rfl⟩ F.entry_tuple_mul (F.args_tuple_mul_2 _ _) (tuple_mul1 l its.toArray n dd sl t (by decide)) ⟨ho, ?_⟩⟩)
  exact ⟨.ref l, H, I, rfl, q⟩
@[simp] def fMulA : W → W → M W := fun x y st => match x, y with
  | .int i, .int j => if decide ((-(2 ^ 64) < i ∧ i < 2 ^ 64) ∨ (-(2 ^ 64) < j ∧ j < 2 ^ 64)) = true then some (.int (i * j), st) else none
  | .tup xs, .int k => if decide (1 ≤ k ∧ k ≤ 1000 ∧ 1 ≤ xs.length ∧ xs.length ≤ 1000) = true then some (.tup (List.replicate k.toNat xs).flatten, st) else none
  | .ref i, .int k => match st[i]? with
    | some (.lst xs) => if decide (-1000000 ≤ k ∧ k ≤ 1000000 ∧ xs.length * k.toNat ≤ 1000000) = true then some (.ref st.length, st ++ [.lst (List.replicate k.toNat xs).flatten]) else none
    | _ => none
  | _, _ => none
def rMulA (K : PySem.W.Frag) : R2 := fun x y H Q => rI CMul (fun i j => .int (i * j)) x y H Q ∨ (rRep1 K x y H Q ∨ (rRepT K x y H Q ∨ rRep x y H Q))
theorem or_mul {X : Cx} : OpR X (binaryOp .Mult) (rMulA X.K) := op_mul.or (op_rep1.or (op_repT.or op_rep))
theorem ref_mul {K : PySem.W.Frag} : Ref2 K fMulA (rMulA K) := by
  intro β H st st' x y w vx vy Q hS rx ry hm k
  unfold fMulA at hm
  split at hm
  · rename_i i j
    exact .inl (ref_mulI β H st st' _ _ w vx vy Q hS rx ry (by simpa using hm) k)
  · rename_i xs n
    split at hm
    · rename_i hc
      have hc' := of_decide_eq_true hc
      by_cases h1 : n = 1
      · subst h1
        cases hm
        refine .inr (.inl ?_)
        cases rx with
        | @tup a _ vs hq r =>
          refine ⟨a, vs, rfl, ry.int_inv, hq.sq, ?_⟩
          have : (List.replicate (1 : Int).toNat xs).flatten = xs := by simp
          rw [this] at k
          exact k _ H β .refl hS (.tup hq r)
      · refine .inr (.inr (.inl (ref_repT β H st st' _ _ w vx vy Q hS rx ry ?_ k)))
        unfold fRepT
        dsimp only
        rw [if_pos (decide_eq_true (by omega))]
        exact hm
    · cases hm
  · rename_i i n
    exact .inr (.inr (.inr (ref_repL β H st st' _ _ w vx vy Q hS rx ry hm k)))
  · cases hm
/-! ### dict([(k, v), ..]) -/
def pairW : W → Option (Key × W)
  | .tup [a, b] => match keyW a with
    | some k => some (k, b)
    | none => none
  | _ => none
def pairsW : List W → Option (List (Key × W))
  | [] => some []
  | x :: xs => match pairW x, pairsW xs with
    | some p, some ps => some (p :: ps)
    | _, _ => none
def mergeW (kvs more : List (Key × W)) : List (Key × W) := more.foldl (fun acc kv => putW acc kv.1 kv.2) kvs
@[simp] def bDictP : List W → M W := fun xs st => match xs with
  | [x] => match listOf x st with
    | some ws => match pairsW ws with
      | some kvs => if sml ws.length = true then some (.ref st.length, st ++ [.dct (mergeW [] kvs)]) else none
      | none => none
    | none => none
  | _ => none
theorem rks_merge {K : PySem.W.Frag} {β : List Addr} {H : Hp} : ∀ {more : List (Key × W)} {us : List (Key × V)} {kvs : List (Key × W)} {vs : List (Key × V)}, RKs K β H more us → RKs K β H kvs vs → RKs K β H (mergeW kvs more) (mergeK vs us)
  | _, _, _, _, .nil, h => h
  | _, _, kvs, vs, .cons (k := k) r t, h => by
    have := rks_merge t (h.put (k := k) r)
    exact this
theorem pairs_ok {K : PySem.W.Frag} {β : List Addr} {H : Hp} : ∀ {ws : List W} {vs : List V} {kvs : List (Key × W)}, RWs K β H ws vs → pairsW ws = some kvs →
    ∃ (ps : List Addr) (us : List (Key × V)), vs = ps.map V.ref ∧ Paired (fun p kv => SqT K H p [kV kv.1, kv.2]) ps us ∧ RKs K β H kvs us
  | [], _, _, .nil, h => by cases h; exact ⟨[], [], rfl, .nil, .nil⟩
  | x :: xs, _, _, .cons r t, h => by
    unfold pairsW at h
    split at h
    · rename_i p qs hp hq
      cases h
      obtain ⟨ps, us, e, P, R⟩ := pairs_ok t hq
      unfold pairW at hp
      split at hp
      · rename_i a b
        split at hp
        · rename_i kk hk
          cases hp
          cases r with
          | @tup ad _ ys hq' r' =>
            cases r' with
            | cons r1 r2 =>
              cases r2 with
              | cons r2 r3 =>
                cases r3
                rename_i v1 v2
                have hv := keyW_ok r1 hk
                subst hv
                exact ⟨ad :: ps, (kk, v2) :: us, by rw [e]; rfl, .cons hq'.sq P, .cons r2 R⟩
        · cases hp
      · cases hp
    · cases h
theorem ref_dictP {K : PySem.W.Frag} : RefN K bDictP (fun xs H Q => ∃ (a : Addr) (ps : List Addr) (kvs : List (Key × V)), xs = [.ref a] ∧ SqL K H a (ps.map V.ref) ∧ Paired (fun p kv => SqT K H p [kV kv.1, kv.2]) ps kvs ∧
    ∀ p, H p = none → Q (.ref p) (upd H p (.dK (mergeK [] kvs)))) := by
  intro β H st st' xs w vs Q hS r hm k
  unfold bDictP at hm
  split at hm
  · rename_i x
    split at hm
    · rename_i ws hw
      split at hm
      · rename_i kvs hk
        split at hm
        · rename_i hz
          cases hm
          obtain ⟨v, rfl, rv⟩ := rws1 r
          obtain ⟨a, us, rfl, hq, ru⟩ := list_ok hS rv hw
          obtain ⟨ps, uk, e, P, R⟩ := pairs_ok ru hk
          subst e
          refine ⟨a, ps, uk, rfl, hq, P, fun p hf => ?_⟩
          have e : Ext β H (β ++ [p]) (upd H p (.dK (mergeK [] uk))) := Ext.alloc hf
          exact k _ _ _ e (hS.alloc hf ⟨_, upd_same, (rks_merge R .nil).ext e⟩) (.ref (alloc_ix hS))
        · cases hm
      · cases hm
    · cases hm
  · cases hm
end B

set_option Elab.async false
set_option linter.all false
set_option maxRecDepth 100000
set_option maxHeartbeats 2000000
namespace B
open PySem PySem.Spec L2
set_option autoImplicit false
def keyToW : Key → W
  | .inl i => .int i
  | .inr x => .str x
theorem keyToW_rw {K : PySem.W.Frag} {β : List Addr} {H : Hp} : ∀ k : Key, RW K β H (keyToW k) (kV k)
  | .inl i => .int i
  | .inr x => .str x
theorem keysToW_rws {K : PySem.W.Frag} {β : List Addr} {H : Hp} : ∀ ks : List Key, RWs K β H (ks.map keyToW) (ks.map kV)
  | [] => .nil
  | k :: ks => .cons (keyToW_rw k) (keysToW_rws ks)
def tkW (k : List Key) : W := .tup (k.map keyToW)
theorem RKs.keys {K : PySem.W.Frag} {β : List Addr} {H : Hp} {T : Type} : ∀ {ks : List (T × W)} {vs : List (T × V)}, RKs K β H ks vs → ks.map (·.1) = vs.map (·.1)
  | _, _, .nil => rfl
  | _, _, .cons r t => by simp [RKs.keys t]
end B

set_option Elab.async false
set_option linter.all false
set_option maxRecDepth 100000
set_option maxHeartbeats 2000000
namespace B
open PySem PySem.Spec L2 RZ PyProof.Rows
set_option autoImplicit false
/-! ### one of two rules, by the worths -/
theorem PEor {X : Cx} {e : Expr} {t t' : TE} (h : PE X e t) (h' : PE X e t') : PE X e (fun σ H Q => t σ H Q ∨ t' σ H Q) := ⟨fun pins s σ H Q I q => q.elim (h.run pins s σ H Q I) (h'.run pins s σ H Q I)⟩
theorem PTor {X : Cx} {e : Expr} {t t' : TT} (h : PT X e t) (h' : PT X e t') : PT X e (fun σ H Q => t σ H Q ∨ t' σ H Q) := ⟨fun pins s σ H Q I q => q.elim (h.run pins s σ H Q I) (h'.run pins s σ H Q I)⟩
theorem PSor {X : Cx} {e : Stmt} {t t' : TS} (h : PS X e t) (h' : PS X e t') : PS X e (fun σ H Q => t σ H Q ∨ t' σ H Q) := ⟨fun pins s σ H Q I q => q.elim (h.run pins s σ H Q I) (h'.run pins s σ H Q I)⟩
@[simp] def fOr (f g : W → W → M W) : W → W → M W := fun x y st => match f x y st with
  | some r => some r
  | none => g x y st
@[simp] def fOr1 (f g : W → M W) : W → M W := fun x st => match f x st with
  | some r => some r
  | none => g x st
@[simp] def fOrN (f g : List W → M W) : List W → M W := fun x st => match f x st with
  | some r => some r
  | none => g x st
def sAlt (m n : SM) : SM := fun env st => match m env st with
  | some r => some r
  | none => n env st
section
variable {X : Cx}
theorem op_or_run {f g : W → W → M W} {a b : EM} {env : En} {st : Sto} {r : W × Sto} (h : eOp (fOr f g) a b env st = some r) : eOp f a b env st = some r ∨ eOp g a b env st = some r := by
  obtain ⟨x, st1, h1, h2⟩ := bnd_some h
  obtain ⟨y, st2, h3, h4⟩ := bnd_some h2
  unfold fOr at h4
  split at h4
  · rename_i r' e
    cases h4
    left
    unfold eOp
    rw [bnd_of h1, bnd_of h3]; exact e
  · right
    unfold eOp
    rw [bnd_of h1, bnd_of h3]; exact h4
theorem se_or2 {e : Expr} {f g : W → W → M W} {a b : EM} (h : SE X e (eOp f a b)) (h' : SE X e (eOp g a b)) : SE X e (eOp (fOr f g) a b) :=
  ⟨PEimp (PEor h.pe h'.pe) fun σ H Q ⟨β, st, env, w, st', hE, hS, hm, k⟩ => (op_or_run hm).imp (fun hm => ⟨β, st, env, w, st', hE, hS, hm, k⟩) fun hm => ⟨β, st, env, w, st', hE, hS, hm, k⟩⟩
theorem st_or2 {e : Expr} {f g : W → W → M W} {a b : EM} (h : ST X e (tBl (eOp f a b))) (h' : ST X e (tBl (eOp g a b))) : ST X e (tBl (eOp (fOr f g) a b)) := by
  refine ⟨PTimp (PTor h.pt h'.pt) fun σ H Q ⟨β, st, env, w, st', hE, hS, hm, k⟩ => ?_⟩
  obtain ⟨x, st1, h1, h2⟩ := bnd_some hm
  refine (op_or_run h1).imp (fun h1 => ⟨β, st, env, w, st', hE, hS, ?_, k⟩) fun h1 => ⟨β, st, env, w, st', hE, hS, ?_, k⟩
  · unfold tBl; rw [bnd_of h1]; exact h2
  · unfold tBl; rw [bnd_of h1]; exact h2
theorem se_or1 {e : Expr} {f g : W → M W} {a : EM} (h : SE X e (eUn f a)) (h' : SE X e (eUn g a)) : SE X e (eUn (fOr1 f g) a) := by
  refine ⟨PEimp (PEor h.pe h'.pe) fun σ H Q ⟨β, st, env, w, st', hE, hS, hm, k⟩ => ?_⟩
  obtain ⟨x, st1, h1, h2⟩ := bnd_some hm
  unfold fOr1 at h2
  split at h2
  · rename_i r e
    cases h2
    exact .inl ⟨β, st, env, w, st', hE, hS, by unfold eUn; rw [bnd_of h1]; exact e, k⟩
  · exact .inr ⟨β, st, env, w, st', hE, hS, by unfold eUn; rw [bnd_of h1]; exact h2, k⟩
theorem se_orN {e : Expr} {f g : List W → M W} {a : AM} (h : SE X e (eCall f a)) (h' : SE X e (eCall g a)) : SE X e (eCall (fOrN f g) a) := by
  refine ⟨PEimp (PEor h.pe h'.pe) fun σ H Q ⟨β, st, env, w, st', hE, hS, hm, k⟩ => ?_⟩
  obtain ⟨x, st1, h1, h2⟩ := bnd_some hm
  unfold fOrN at h2
  split at h2
  · rename_i r e
    cases h2
    exact .inl ⟨β, st, env, w, st', hE, hS, by unfold eCall; rw [bnd_of h1]; exact e, k⟩
  · exact .inr ⟨β, st, env, w, st', hE, hS, by unfold eCall; rw [bnd_of h1]; exact h2, k⟩
theorem ss_alt {s : Stmt} {m n : SM} (h : SS X s m) (h' : SS X s n) : SS X s (sAlt m n) := by
  refine ⟨PSimp (PSor h.ps h'.ps) fun σ H Q ⟨β, st, env, w, env', st', hE, hS, hm, k⟩ => ?_⟩
  unfold sAlt at hm
  split at hm
  · rename_i r e
    cases hm
    exact .inl ⟨β, st, env, w, env', st', hE, hS, e, k⟩
  · exact .inr ⟨β, st, env, w, env', st', hE, hS, hm, k⟩
/-! ### o[i], i in o, o[i] = e by what o is -/
theorem se_ixA {o i : Expr} {mo mi : EM} {pos : Pos} (hu : X.A.units + 1 < cLine) (ho : SE X o mo) (hi : SE X i mi) (hs : PlainIx i := by exact fun _ _ => rfl) (hs' : NoSl i := by exact fun _ _ => rfl) :
    SE X (.Subscript o i pos) (eOp (fOr fIx (fOr fDGet fTGet)) mo mi) := se_or2 (se_ix ho hi hs) (se_or2 (se_dget hu ho hi hs') (se_tget hu ho hi hs'))
/-! ### list(d), sorted(d) -/
@[simp] def bListD : List W → M W := fun xs st => match xs with
  | [x] => match dctOf x st with
    | some (_, kvs) => some (.ref st.length, st ++ [.lst (kvs.map fun kv => keyToW kv.1)])
    | none => match dtrOf x st with
      | some (_, kvs) => some (.ref st.length, st ++ [.lst (kvs.map fun kv => tkW kv.1)])
      | none => none
  | _ => none
def rListDA : List V → Hp → VK → Prop := fun xs H Q => (∃ (a : Addr) (kvs : List (Key × V)), xs = [.ref a] ∧ Rd H a (.dK kvs) ∧ ∀ p, H p = none → Q (.ref p) (upd H p (.lst (kvs.map fun kv => kV kv.1)))) ∨
  (∃ d kvs, xs = [V.ref d] ∧ Rd H d (.dT kvs) ∧ ∀ p bs, H p = none → IsKeys H kvs bs → Q (.ref p) (upd H p (.lst (bs.map V.ref))))
theorem cr_listDA (hc : X.calm = true) : CallR X (.type "list") rListDA := by
  intro pins s σ H xs us Q I r h
  rcases h with h | h
  · exact call_listD hc pins s σ H xs us Q I r h
  · exact call_list_dT hc pins s σ H xs us Q I r h
theorem keysV_rws {K : PySem.W.Frag} {β : List Addr} {H : Hp} : ∀ {ks : List (Key × W)} {vs : List (Key × V)}, RKs K β H ks vs → RWs K β H (ks.map fun kv => keyToW kv.1) (vs.map fun kv => kV kv.1)
  | _, _, .nil => .nil
  | _, _, .cons r t => .cons (keyToW_rw _) (keysV_rws t)
theorem keysT_rws {K : PySem.W.Frag} {β : List Addr} {H : Hp} : ∀ {ks : List (List Key × W)} {vs : List (List Key × V)} {bs : List Addr}, RKs K β H ks vs → IsKeys H vs bs → RWs K β H (ks.map fun kv => tkW kv.1) (bs.map V.ref)
  | _, _, _, .nil, .nil => .nil
  | _, _, _, .cons r t, .cons h p => .cons (.tup (.inl h) (keysToW_rws _)) (keysT_rws t p)
theorem ref_listD {K : PySem.W.Frag} : RefN K bListD rListDA := by
  intro β H st st' xs w vs Q hS r hm k
  unfold bListD at hm
  split at hm
  · rename_i x
    obtain ⟨v, rfl, rv⟩ := rws1 r
    split at hm
    · rename_i i kvs hd
      cases hm
      obtain ⟨a, us, rfl, hb, hi, e, R⟩ := dct_ok hS rv hd
      refine .inl ⟨a, us, rfl, .inl e, fun p hf => ?_⟩
      have ex : Ext β H (β ++ [p]) (upd H p (.lst (us.map fun kv => kV kv.1))) := Ext.alloc hf
      exact k _ _ _ ex (hS.alloc hf ⟨_, upd_same, (keysV_rws R).ext ex⟩) (.ref (alloc_ix hS))
    · split at hm
      · rename_i i kvs hd
        cases hm
        obtain ⟨a, us, rfl, e, R⟩ := dtr_ok hS rv hd
        refine .inr ⟨a, us, rfl, e, fun p bs hf hk => ?_⟩
        have ex : Ext β H (β ++ [p]) (upd H p (.lst (bs.map V.ref))) := Ext.alloc hf
        exact k _ _ _ ex (hS.alloc hf ⟨_, upd_same, (keysT_rws R hk).ext ex⟩) (.ref (alloc_ix hS))
      · cases hm
  · cases hm
def intKeys : List (Key × W) → Option (List Int)
  | [] => some []
  | (.inl i, _) :: r => (intKeys r).map (i :: ·)
  | _ => none
theorem intKeys_ok {K : PySem.W.Frag} {β : List Addr} {H : Hp} : ∀ {ks : List (Key × W)} {vs : List (Key × V)} {is : List Int}, RKs K β H ks vs → intKeys ks = some is → vs.map (·.1) = is.map Sum.inl
  | _, _, _, .nil, h => by cases h; rfl
  | _, _, _, .cons (k := k) r t, h => by
    cases k with
    | inl i =>
      obtain ⟨js, h1, h2⟩ := Option.map_eq_some_iff.mp (show (intKeys _).map (i :: ·) = some _ from h)
      subst h2
      simp [intKeys_ok t h1]
    | inr x => cases h
@[simp] def bSortD : List W → M W := fun xs st => match xs with
  | [x] => match dctOf x st with
    | some (_, kvs) => match intKeys kvs with
      | some is => if Nat.blt is.length 64 = true then some (.ref st.length, st ++ [.lst ((is.mergeSort fun a b => decide (a ≤ b)).map W.int)]) else none
      | none => none
    | none => none
  | _ => none
def rSortD : List V → Hp → VK → Prop := fun xs H Q => ∃ (a : Addr) (kvs : List (Key × V)) (ks : List Int), xs = [.ref a] ∧ Rd H a (.dK kvs) ∧ kvs.map (·.1) = ks.map Sum.inl ∧ ks.length < 64 ∧
    ∀ (ys : List Int) (p : Addr), ys.Perm ks → ys.Pairwise (· ≤ ·) → H p = none → Q (.ref p) (upd H p (.lst (ys.map V.int)))
theorem sorted_is {ys is : List Int} (hp : ys.Perm is) (hs : ys.Pairwise (· ≤ ·)) : ys = is.mergeSort fun a b => decide (a ≤ b) := by
  refine List.Perm.eq_of_pairwise (le := (· ≤ ·)) (fun a b _ _ h1 h2 => Int.le_antisymm h1 h2) hs ?_ (hp.trans (List.mergeSort_perm _ _).symm)
  have := List.pairwise_mergeSort (le := fun a b : Int => decide (a ≤ b)) (fun a b c h1 h2 => by simp at *; omega) (fun a b => by simp; omega) is
  exact this.imp fun h => by simpa using h
theorem ref_sortD {K : PySem.W.Frag} : RefN K bSortD rSortD := by
  intro β H st st' xs w vs Q hS r hm k
  unfold bSortD at hm
  split at hm
  · rename_i x
    obtain ⟨v, rfl, rv⟩ := rws1 r
    split at hm
    · rename_i i kvs hd
      split at hm
      · rename_i is hk
        split at hm
        · rename_i hz
          cases hm
          obtain ⟨a, us, rfl, hb, hi, e, R⟩ := dct_ok hS rv hd
          have hz : is.length < 64 := Nat.lt_of_lt_of_le (Nat.lt_of_succ_le (Nat.le_of_ble_eq_true hz)) (Nat.le_refl _)
          refine ⟨a, us, is, rfl, .inl e, intKeys_ok R hk, hz, fun ys p hp hs hf => ?_⟩
          rw [sorted_is hp hs]
          have ex : Ext β H (β ++ [p]) (upd H p (.lst ((is.mergeSort fun a b => decide (a ≤ b)).map V.int))) := Ext.alloc hf
          exact k _ _ _ ex (hS.alloc hf ⟨_, upd_same, (rws_ints _).ext ex⟩) (.ref (alloc_ix hS))
        · cases hm
      · cases hm
    · cases hm
  · cases hm
/-! ### zip of two lists, of two tuples -/
def srcZipL (a b : W) : Src := fun j st => match listOf a st, listOf b st with
  | some xs, some ys => (match xs[j]?, ys[j]? with
    | some x, some y => some (some (.tup [x, y]))
    | _, _ => some none)
  | _, _ => none
def iZipB (a : AM) : IM := fun env => bnd (a env) fun ws st => match ws with
  | [.tup xs, .tup ys] => some (srcZipT xs ys, st)
  | [x, y] => match listOf x st, listOf y st with
    | some _, some _ => some (srcZipL x y, st)
    | _, _ => none
  | _ => none
theorem rsrc_zipL {β : List Addr} {H : Hp} {a b : Addr} {x y : W} (r : RW X.K β H x (.ref a)) (r2 : RW X.K β H y (.ref b)) : RSrc X.K β H (Itz X.K a b) (srcZipL x y) := by
  intro β' H' st' j e s
  unfold srcZipL
  split
  · rename_i xs ys hx hy
    obtain ⟨a', vs, ea, hq, r⟩ := list_ok s (r.ext' e) hx
    cases ea
    obtain ⟨b', us, eb, hp, r2⟩ := list_ok s (r2.ext' e) hy
    cases eb
    have hl := r.length
    have hl2 := r2.length
    split
    · rename_i x y hx hy
      refine ⟨fun h => (by cases h), fun w h => ?_⟩
      cases h
      obtain ⟨v, hv, rv⟩ := r.get hx
      obtain ⟨u, hu, ru⟩ := r2.get hy
      refine ⟨⟨vs, us, v, u, hq, hp, hv, hu⟩, fun z H2 yy => ?_⟩
      obtain ⟨T, x', y', rfl, hT, rfl, hx', hy'⟩ := yy
      have h1 := hx' vs hq
      have h2 := hy' us hp
      rw [hv] at h1; cases h1
      rw [hu] at h2; cases h2
      have en : Ext β' H' β' (upd H' T (.tup [v, u])) := Ext.new hT
      exact ⟨en, s.new hT, .tup (.inl upd_same) (.cons (rv.ext' en) (.cons (ru.ext' en) .nil))⟩
    · rename_i h
      refine ⟨fun _ => ⟨vs, us, hq, hp, ?_⟩, fun w h => (by cases h)⟩
      cases hx : xs[j]? with
      | none => exact .inl (by rw [← hl]; exact List.getElem?_eq_none_iff.mp hx)
      | some x =>
        cases hy : ys[j]? with
        | none => exact .inr (by rw [← hl2]; exact List.getElem?_eq_none_iff.mp hy)
        | some y => exact absurd hy (h x y hx)
  · refine ⟨fun h => (by cases h), fun w h => (by cases h)⟩
theorem si_zipB {elts : List Expr} {kk : Nat} {tpos : Pos} {e e2 : Expr} {m : AM} {p pos : Pos} (hg : Gl X "zip") (hm : X.mg "zip" = none) (ha : SA X [e, e2] m)
    (hs : starEach [e, e2] X.env = (false, eval e X.env) :: starEach [e2] X.env := by rfl) (hpl : (backTo pos (starEach [e2] X.env)).any (·.1) = false := by rfl) : SI X (.Tuple elts kk tpos) (.Call (.Name "zip" p) [e, e2] [] pos) (iZipB m) := by
  refine ⟨PIimp (pi_zipA hg hm ha.pa hs hpl) ?_⟩
  rintro σ H R ⟨β, st, env, src, st', hE, hS, hm, k⟩
  obtain ⟨ws, st1, h1, h2⟩ := bnd_some hm
  refine ⟨β, st, env, ws, st1, hE, hS, h1, fun vs H1 β1 e1 s1 r1 => ?_⟩
  split at h2
  · rename_i xs ys
    cases h2
    obtain ⟨v, u, rfl, r, r2⟩ := rws2 r1
    cases r with
    | @tup a _ vs hq r =>
      cases r2 with
      | @tup b _ us hp r2 => exact ⟨a, b, vs, us, rfl, .inr ⟨hq.sq, hp.sq, k _ H1 β1 e1 s1 (rsrc_zip hq.sq hp.sq r r2)⟩⟩
  · rename_i x y _
    split at h2
    · rename_i xs ys hx hy
      cases h2
      obtain ⟨v, u, rfl, r, r2⟩ := rws2 r1
      obtain ⟨a, vs, rfl, hq, rx⟩ := list_ok s1 r hx
      obtain ⟨b, us, rfl, hp, ry⟩ := list_ok s1 r2 hy
      exact ⟨a, b, vs, us, rfl, .inl ⟨hq, hp, k _ H1 β1 e1 s1 (rsrc_zipL r r2)⟩⟩
    · cases h2
  · cases h2
end
end B

set_option Elab.async false
set_option linter.all false
set_option maxRecDepth 100000
namespace B
open PySem PySem.Spec L2
set_option autoImplicit false
@[simp] def sPar3 (i j l : Nat) (a : AM) : SM := fun env => bnd (a env) fun ws => match ws with
  | [u, v, w] => ret (.nx, ((env.set i (some u)).set j (some v)).set l (some w))
  | _ => fail
theorem rws3 {K : PySem.W.Frag} {β : List Addr} {H : Hp} {x y z : W} {vs : List V} (r : RWs K β H [x, y, z] vs) : ∃ u v w, vs = [u, v, w] ∧ RW K β H x u ∧ RW K β H y v ∧ RW K β H z w := by
  cases r with | cons a t => cases t with | cons b t => cases t with | cons c t => cases t; exact ⟨_, _, _, rfl, a, b, c⟩
theorem ss_par3 {X : Cx} {i j l : Nat} {x y z : Str} {a b c : Expr} {m : AM} {px py pz pt pos : Pos} {kt k2 : Nat} {pt2 : Pos} (hN : X.N.Nodup) (hc : X.calm = true) (hij : i ≠ j) (hil : i ≠ l) (hjl : j ≠ l) (ha : SA X [a, b, c] m)
    (hi : X.N[i]? = some x := by rfl) (hj : X.N[j]? = some y := by rfl) (hl : X.N[l]? = some z := by rfl)
    (hx : X.env.scope.names.lookup x = some .local := by rfl) (hy : X.env.scope.names.lookup y = some .local := by rfl) (hz : X.env.scope.names.lookup z = some .local := by rfl)
    (hw : swappedStores [.Tuple [.Name x px, .Name y py, .Name z pz] kt pt] (.Tuple [a, b, c] k2 pt2) X.env = pure (some [x, y, z]) := by rfl)
    (hs : swapsWithSole [.Tuple [.Name x px, .Name y py, .Name z pz] kt pt] (.Tuple [a, b, c] k2 pt2) pos.line X.env = pure false := by rfl) :
    SS X (.Assign [.Tuple [.Name x px, .Name y py, .Name z pz] kt pt] (.Tuple [a, b, c] k2 pt2) pos) (sPar3 i j l m) := by
  refine ⟨PSimp (ps_par3 hc hN hi hj hl hij hil hjl hx hy hz ha.pa hw hs) ?_⟩
  rintro D σ H ⟨β, st, env, fl, env', st', hE, hS, hm, k⟩
  obtain ⟨ws, st1, h1, h2⟩ := bnd_some hm
  refine ⟨β, st, env, ws, st1, hE, hS, h1, fun vs H1 β1 e1 s1 r1 => ?_⟩
  split at h2
  · cases h2
    obtain ⟨u, v, w, rfl, ra, rb, rc⟩ := rws3 r1
    exact ⟨u, v, w, rfl, k _ H1 β1 e1 s1 ((((hE.ext e1).set ra i).set rb j).set rc l)⟩
  · cases h2
/-- the def with number j of a class -/
def inCls (s : Stmt) (j : Nat) : Stmt := match s with
  | .ClassDef _ _ _ b _ _ _ _ _ _ _ => b.getD j (.Pass ⟨0, 0, 0, 0⟩)
  | _ => .Pass ⟨0, 0, 0, 0⟩
end B
namespace B
open PySem PySem.Spec L2
theorem disp_nil {C : Str → (List W → M W) → Prop} : ∀ y F, List.lookup y ([] : List (Str × (List W → M W))) = some F → C y F := by intro y F h; cases h
theorem disp_cons {C : Str → (List W → M W) → Prop} {x : Str} {F0 : List W → M W} {r : List (Str × (List W → M W))} (h : C x F0) (t : ∀ y F, r.lookup y = some F → C y F) : ∀ y F, List.lookup y ((x, F0) :: r) = some F → C y F := by
  intro y F hl
  rw [List.lookup_cons] at hl
  cases e : (y == x) with
  | true => rw [e] at hl; cases hl; rw [beq_iff_eq.mp e]; exact h
  | false => rw [e] at hl; exact t y F hl
end B
namespace B
open PySem PySem.Spec L2
theorem pa_starS {X : Cx} {e : Expr} {es : List Expr} {p : Pos} {m : EM} {r : AM} (ha : SE X e m) (hr : SA X es r) (hs : starEach (.Starred e p :: es) X.env = (true, eval e X.env) :: starEach es X.env := by rfl) : PA X (.Starred e p :: es) (tMA X.K (aStar m r)) := (sa_star ha hr.pa hs).pa
end B
namespace B
open PySem PySem.Spec L2
end B
namespace B
open PySem PySem.Spec L2
theorem TabK.of {K : PySem.W.Frag} {w : World} {a : Addr} {tab : List (Str × W)} {es : Array DictEntry} {n : Nat} (low : (a == sysModules) = false) (l : K.lookup a = some ⟨.type "dict", none, .dict es n, #[]⟩) (k : PySem.W.KeysLit w.params es.toList) (t : TabEs K es.toList tab) : TabK K w a tab := ⟨low, es, n, l, k, t⟩
end B

set_option Elab.async false
set_option linter.all false
set_option maxRecDepth 100000
set_option maxHeartbeats 1000000
namespace K01
open PySem PySem.Spec L2 B
set_option autoImplicit false
def top (i : Nat) : Stmt := PySem.Challenge.pw_barewords_k01_whole_kinds.main.body.getD i (.Pass ⟨0, 0, 0, 0⟩)
structure Txt (K : PySem.W.Frag) (w : World) (mg : Str → Option Value) : Prop where
  abs_ : mg "abs" = none
  all_ : mg "all" = none
  bool_ : mg "bool" = none
  dict_ : mg "dict" = none
  int_ : mg "int" = none
  isinstance_ : mg "isinstance" = none
  len_ : mg "len" = none
  list_ : mg "list" = none
  range_ : mg "range" = none
  reversed_ : mg "reversed" = none
  set_ : mg "set" = none
  sorted_ : mg "sorted" = none
  str_ : mg "str" = none
  sum_ : mg "sum" = none
  tuple_ : mg "tuple" = none
  zip_ : mg "zip" = none
  n_with_kinds : ∃ g, PySem.W.nsIn K mainGlobals "with_kinds" = some (some (.ref g)) ∧ mg "with_kinds" = some (.ref g)
section
variable {P : Program} {w : World} {K : PySem.W.Frag} {mg : Str → Option Value} {base : Heap}
/-! ### is_integer -/
abbrev s_is_integer : Stmt := top 5
abbrev n_is_integer : List Str := ["thing"]
theorem sc_is_integer : FnScope n_is_integer ["thing"] (defScope s_is_integer) := ⟨rfl, rfl, rfl, by decide +kernel, rfl, by decide +kernel, by decide +kernel⟩
def F_is_integer : List W → M W := fnM 1 1 (bCons (sRet (eAnd (eCall bIsi (aCons (eVar 0) (aCons (eC (.ext (.ty "int"))) aNil))) (eNot (eCall bIsi (aCons (eVar 0) (aCons (eC (.ext (.ty "bool"))) aNil))))))
    bNil)
theorem ok_is_integer {f : Addr} {fd : FuncData} (T : Txt K w mg) (F : Fun K "is_integer" "is_integer" s_is_integer f fd) (hm : mg "is_integer" = some (.ref f)) (b : Binds K fd ["thing"] [])  : CallOk P w K mg base "is_integer" 1 1 F_is_integer := by
  
  refine call_ok (k := 0) F hm sc_is_integer b fun cdv A outer s H E hr => ?_
  have nd := sc_is_integer.nd
  exact (sb_cons (ss_ret (se_and (se_callB call_isi ref_isi rfl T.isinstance_ (sa_cons (se_var 0) (sa_cons (se_ty rfl T.int_) sa_nil))) (se_one (se_not (se_callB call_isi ref_isi rfl T.isinstance_ (sa_cons (se_var 0) (sa_cons (se_ty rfl T.bool_) sa_nil)))))))
    sb_nil)
/-! ### is_natural -/
abbrev s_is_natural : Stmt := top 6
abbrev n_is_natural : List Str := ["thing"]
theorem sc_is_natural : FnScope n_is_natural ["thing"] (defScope s_is_natural) := ⟨rfl, rfl, rfl, by decide +kernel, rfl, by decide +kernel, by decide +kernel⟩
def F_is_natural : List W → M W := fnM 1 1 (bCons (sRet (eAnd (eCall F_is_integer (aCons (eVar 0) aNil)) (eOp fGe (eVar 0) (eC (.int 0)))))
    bNil)
theorem ok_is_natural {f : Addr} {fd : FuncData} (T : Txt K w mg) (F : Fun K "is_natural" "is_natural" s_is_natural f fd) (hm : mg "is_natural" = some (.ref f)) (b : Binds K fd ["thing"] []) (c_is_integer : CallOk P w K mg base "is_integer" 1 1 F_is_integer) : CallOk P w K mg base "is_natural" 2 1 F_is_natural := by
  have c_is_integer := c_is_integer.mono (k := 1) (j := 1) (by omega); 
  refine call_ok (k := 1) F hm sc_is_natural b fun cdv A outer s H E hr => ?_
  have nd := sc_is_natural.nd
  exact (sb_cons (ss_ret (se_and (se_call c_is_integer hr rfl (sa_cons (se_var 0) sa_nil)) (se_one (se_cmp op_ge ref_ge (se_var 0) se_int))))
    sb_nil)
/-! ### is_tuple -/
abbrev s_is_tuple : Stmt := top 7
abbrev n_is_tuple : List Str := ["thing", "low", "high"]
theorem sc_is_tuple : FnScope n_is_tuple ["thing", "low", "high"] (defScope s_is_tuple) := ⟨rfl, rfl, rfl, by decide +kernel, rfl, by decide +kernel, by decide +kernel⟩
def F_is_tuple : List W → M W := fnM 3 3 (bCons (sRet (eAnd (eCall bIsi (aCons (eVar 0) (aCons (eC (.ext (.ty "tuple"))) aNil))) (eChain fLe fLe (eVar 1) (eCall bLen (aCons (eVar 0) aNil)) (eVar 2))))
    bNil)
theorem ok_is_tuple {f : Addr} {fd : FuncData} (T : Txt K w mg) (F : Fun K "is_tuple" "is_tuple" s_is_tuple f fd) (hm : mg "is_tuple" = some (.ref f)) (b : Binds K fd ["thing", "low", "high"] [])  : CallOk P w K mg base "is_tuple" 1 3 F_is_tuple := by
  
  refine call_ok (k := 0) F hm sc_is_tuple b fun cdv A outer s H E hr => ?_
  have nd := sc_is_tuple.nd
  exact (sb_cons (ss_ret (se_and (se_callB call_isi ref_isi rfl T.isinstance_ (sa_cons (se_var 0) (sa_cons (se_ty rfl T.tuple_) sa_nil))) (se_one (se_chain op_le op_le ref_le ref_le (se_var 1) (se_callB call_len_seq ref_len rfl T.len_ (sa_cons (se_var 0) sa_nil)) (se_var 2)))))
    sb_nil)
/-! ### has_outer_form -/
abbrev s_has_outer_form : Stmt := top 9
abbrev n_has_outer_form : List Str := ["thing", "head", "rest"]
theorem sc_has_outer_form : FnScope n_has_outer_form ["thing"] (defScope s_has_outer_form) := ⟨rfl, rfl, rfl, by decide +kernel, rfl, by decide +kernel, by decide +kernel⟩
def F_has_outer_form : List W → M W := fnM 1 3 (bCons (sIf (tOrM (tNotM (tVal (eCall F_is_tuple (aCons (eVar 0) (aCons (eC (.int 1)) (aCons (eC (.int 3)) aNil)))))) (tNotM (tVal (eCall bIsi (aCons (eOp fIx (eVar 0) (eC (.int 0))) (aCons (eC (.ext (.ty "str"))) aNil)))))) (bCons (sRet (eC (.bl false)))
    bNil) bNil)
    (bCons (sStar 1 2 (eVar 0))
    (bCons (sIf (tBl (eOp (fInB false) (eVar 1) (eTup (aCons (eC (.str "num")) (aCons (eC (.str "nil")) aNil))))) (bCons (sRet (eOp fEq (eCall bLen (aCons (eVar 2) aNil)) (eC (.int 0))))
    bNil) bNil)
    (bCons (sIf (tBl (eOp (fInB false) (eVar 1) (eTup (aCons (eC (.str "data")) (aCons (eC (.str "fun")) aNil))))) (bCons (sIf (tBl (eOp fNe (eCall bLen (aCons (eVar 2) aNil)) (eC (.int 2)))) (bCons (sRet (eC (.bl false)))
    bNil) bNil)
    (bCons (sIf (tBl (eOp fEq (eVar 1) (eC (.str "data")))) (bCons (sRet (eAnd (eCall F_is_natural (aCons (eOp fIx (eVar 2) (eC (.int 0))) aNil)) (eCall bIsi (aCons (eOp fIx (eVar 2) (eC (.int 1))) (aCons (eC (.ext (.ty "tuple"))) aNil)))))
    bNil) bNil)
    (bCons (sRet (eCall F_is_tuple (aCons (eOp fIx (eVar 2) (eC (.int 0))) (aCons (eC (.int 1)) (aCons (eC (.int 3)) aNil)))))
    bNil))) bNil)
    (bCons (sIf (tBl (eOp fNe (eCall bLen (aCons (eVar 2) aNil)) (eC (.int 1)))) (bCons (sRet (eC (.bl false)))
    bNil) bNil)
    (bCons (sIf (tBl (eOp fEq (eVar 1) (eC (.str "row")))) (bCons (sRet (eCall F_is_tuple (aCons (eOp fIx (eVar 2) (eC (.int 0))) (aCons (eC (.int 1)) (aCons (eC (.int 4)) aNil)))))
    bNil) bNil)
    (bCons (sRet (eOr (eOp fEq (eVar 1) (eC (.str "box"))) (eAnd (eOp fEq (eVar 1) (eC (.str "letter"))) (eCall F_is_natural (aCons (eOp fIx (eVar 2) (eC (.int 0))) aNil)))))
    bNil)))))))
theorem ok_has_outer_form {f : Addr} {fd : FuncData} (T : Txt K w mg) (F : Fun K "has_outer_form" "has_outer_form" s_has_outer_form f fd) (hm : mg "has_outer_form" = some (.ref f)) (b : Binds K fd ["thing"] []) (c_is_natural : CallOk P w K mg base "is_natural" 2 1 F_is_natural) (c_is_tuple : CallOk P w K mg base "is_tuple" 1 3 F_is_tuple) : CallOk P w K mg base "has_outer_form" 3 1 F_has_outer_form := by
  have c_is_natural := c_is_natural.mono (k := 2) (j := 2) (by omega); have c_is_tuple := c_is_tuple.mono (k := 1) (j := 2) (by omega); 
  refine call_ok (k := 2) F hm sc_has_outer_form b fun cdv A outer s H E hr => ?_
  have nd := sc_has_outer_form.nd
  exact (sb_cons (ss_if (st_w (sw_or (st_not (st_val (se_call c_is_tuple hr rfl (sa_cons (se_var 0) (sa_cons se_int (sa_cons se_int sa_nil)))))) (sw_or1 (st_not (st_val (se_callB call_isi ref_isi rfl T.isinstance_ (sa_cons (se_ix (se_var 0) se_int) (sa_cons (se_ty rfl T.str_) sa_nil)))))))) (sb_cons (ss_ret se_bl)
    sb_nil) sb_nil)
    (sb_cons (ss_star nd rfl (se_var 0))
    (sb_cons (ss_if (st_cmp op_in_seq ref_in (se_var 1) (se_tup (sa_cons se_str (sa_cons se_str sa_nil)))) (sb_cons (ss_ret (se_cmp (op_eqD hr.units) ref_eq (se_callB call_len_seq ref_len rfl T.len_ (sa_cons (se_var 2) sa_nil)) se_int))
    sb_nil) sb_nil)
    (sb_cons (ss_if (st_cmp op_in_seq ref_in (se_var 1) (se_tup (sa_cons se_str (sa_cons se_str sa_nil)))) (sb_cons (ss_if (st_cmp (op_neD hr.units) ref_ne (se_callB call_len_seq ref_len rfl T.len_ (sa_cons (se_var 2) sa_nil)) se_int) (sb_cons (ss_ret se_bl)
    sb_nil) sb_nil)
    (sb_cons (ss_if (st_cmp (op_eqD hr.units) ref_eq (se_var 1) se_str) (sb_cons (ss_ret (se_and (se_call c_is_natural hr rfl (sa_cons (se_ix (se_var 2) se_int) sa_nil)) (se_one (se_callB call_isi ref_isi rfl T.isinstance_ (sa_cons (se_ix (se_var 2) se_int) (sa_cons (se_ty rfl T.tuple_) sa_nil))))))
    sb_nil) sb_nil)
    (sb_cons (ss_ret (se_call c_is_tuple hr rfl (sa_cons (se_ix (se_var 2) se_int) (sa_cons se_int (sa_cons se_int sa_nil)))))
    sb_nil))) sb_nil)
    (sb_cons (ss_if (st_cmp (op_neD hr.units) ref_ne (se_callB call_len_seq ref_len rfl T.len_ (sa_cons (se_var 2) sa_nil)) se_int) (sb_cons (ss_ret se_bl)
    sb_nil) sb_nil)
    (sb_cons (ss_if (st_cmp (op_eqD hr.units) ref_eq (se_var 1) se_str) (sb_cons (ss_ret (se_call c_is_tuple hr rfl (sa_cons (se_ix (se_var 2) se_int) (sa_cons se_int (sa_cons se_int sa_nil)))))
    sb_nil) sb_nil)
    (sb_cons (ss_ret (se_or (se_cmp (op_eqD hr.units) ref_eq (se_var 1) se_str) (se_one (se_and (se_cmp (op_eqD hr.units) ref_eq (se_var 1) se_str) (se_one (se_call c_is_natural hr rfl (sa_cons (se_ix (se_var 2) se_int) sa_nil)))))))
    sb_nil)))))))
/-! ### kinds_within -/
abbrev s_kinds_within : Stmt := top 10
abbrev n_kinds_within : List Str := ["kind", "head"]
theorem sc_kinds_within : FnScope n_kinds_within ["kind"] (defScope s_kinds_within) := ⟨rfl, rfl, rfl, by decide +kernel, rfl, by decide +kernel, by decide +kernel⟩
def F_kinds_within : List W → M W := fnM 1 2 (bCons (sSet (.nm 1) (eOp fIx (eVar 0) (eC (.int 0))))
    (bCons (sIf (tBl (eOp fEq (eVar 1) (eC (.str "row")))) (bCons (sRet (eOp fIx (eVar 0) (eC (.int 1))))
    bNil) bNil)
    (bCons (sIf (tBl (eOp fEq (eVar 1) (eC (.str "data")))) (bCons (sRet (eOp fIx (eVar 0) (eC (.int 2))))
    bNil) bNil)
    (bCons (sIf (tBl (eOp fEq (eVar 1) (eC (.str "fun")))) (bCons (sRet (eTup (aStar (eOp fIx (eVar 0) (eC (.int 1))) (aCons (eOp fIx (eVar 0) (eC (.int 2))) aNil))))
    bNil) bNil)
    (bCons (sIf (tBl (eOp fEq (eVar 1) (eC (.str "box")))) (bCons (sRet (eTup (aCons (eOp fIx (eVar 0) (eC (.int 1))) aNil)))
    bNil) bNil)
    (bCons (sRet (eTup aNil))
    bNil))))))
theorem ok_kinds_within {f : Addr} {fd : FuncData} (T : Txt K w mg) (F : Fun K "kinds_within" "kinds_within" s_kinds_within f fd) (hm : mg "kinds_within" = some (.ref f)) (b : Binds K fd ["kind"] [])  : CallOk P w K mg base "kinds_within" 1 1 F_kinds_within := by
  
  refine call_ok (k := 0) F hm sc_kinds_within b fun cdv A outer s H E hr => ?_
  have nd := sc_kinds_within.nd
  exact (sb_cons (ss_set (se_ix (se_var 0) se_int) (sg_nm 1 nd))
    (sb_cons (ss_if (st_cmp (op_eqD hr.units) ref_eq (se_var 1) se_str) (sb_cons (ss_ret (se_ix (se_var 0) se_int))
    sb_nil) sb_nil)
    (sb_cons (ss_if (st_cmp (op_eqD hr.units) ref_eq (se_var 1) se_str) (sb_cons (ss_ret (se_ix (se_var 0) se_int))
    sb_nil) sb_nil)
    (sb_cons (ss_if (st_cmp (op_eqD hr.units) ref_eq (se_var 1) se_str) (sb_cons (ss_ret (se_tup' (pa_starS (se_ix (se_var 0) se_int) (sa_cons (se_ix (se_var 0) se_int) sa_nil))))
    sb_nil) sb_nil)
    (sb_cons (ss_if (st_cmp (op_eqD hr.units) ref_eq (se_var 1) se_str) (sb_cons (ss_ret (se_tup (sa_cons (se_ix (se_var 0) se_int) sa_nil)))
    sb_nil) sb_nil)
    (sb_cons (ss_ret (se_tup sa_nil))
    sb_nil))))))
/-! ### is_kind -/
abbrev s_is_kind : Stmt := top 17
abbrev n_is_kind : List Str := ["thing", "waiting", "one"]
theorem sc_is_kind : FnScope n_is_kind ["thing"] (defScope s_is_kind) := ⟨rfl, rfl, rfl, by decide +kernel, rfl, by decide +kernel, by decide +kernel⟩
def wt1_is_kind : TM := (tVal (eVar 1))
def wb1_is_kind : SM := (bCons (sSet (.nm 2) (eMeth mPop (eVar 1) aNil))
    (bCons (sIf (tNotM (tVal (eCall F_has_outer_form (aCons (eVar 2) aNil)))) (bCons (sRet (eC (.bl false)))
    bNil) bNil)
    (bCons (sExpr (eMeth mExt (eVar 1) (aCons (eCall F_kinds_within (aCons (eVar 2) aNil)) aNil)))
    bNil)))
def F_is_kind : List W → M W := fnM 1 3 (bCons (sSet (.nm 1) (eLst (aCons (eVar 0) aNil)))
    (bCons (sWhile wt1_is_kind wb1_is_kind 1000000)
    (bCons (sRet (eC (.bl true)))
    bNil)))
theorem ok_is_kind {f : Addr} {fd : FuncData} (T : Txt K w mg) (F : Fun K "is_kind" "is_kind" s_is_kind f fd) (hm : mg "is_kind" = some (.ref f)) (b : Binds K fd ["thing"] []) (c_has_outer_form : CallOk P w K mg base "has_outer_form" 3 1 F_has_outer_form) (c_kinds_within : CallOk P w K mg base "kinds_within" 1 1 F_kinds_within) : CallOk P w K mg base "is_kind" 4 1 F_is_kind := by
  have c_has_outer_form := c_has_outer_form.mono (k := 3) (j := 3) (by omega); have c_kinds_within := c_kinds_within.mono (k := 1) (j := 3) (by omega); 
  refine call_ok (k := 3) F hm sc_is_kind b fun cdv A outer s H E hr => ?_
  have nd := sc_is_kind.nd
  exact (sb_cons (ss_set (se_lst (sa_cons (se_var 0) sa_nil)) (sg_nm 1 nd))
    (sb_cons (ss_while 1000000 PassesOwn.never (st_val (se_var 1)) (sb_cons (ss_set (se_pop (se_var 1)) (sg_nm 2 nd))
    (sb_cons (ss_if (st_not (st_val (se_call c_has_outer_form hr rfl (sa_cons (se_var 2) sa_nil)))) (sb_cons (ss_ret se_bl)
    sb_nil) sb_nil)
    (sb_cons (ss_expr (se_extend (se_var 1) (se_call c_kinds_within hr rfl (sa_cons (se_var 2) sa_nil))))
    sb_nil))))
    (sb_cons (ss_ret se_bl)
    sb_nil)))
/-! ### all_kinds -/
abbrev s_all_kinds : Stmt := top 13
abbrev n_all_kinds : List Str := ["kind", "found", "waiting", "one"]
theorem sc_all_kinds : FnScope n_all_kinds ["kind"] (defScope s_all_kinds) := ⟨rfl, rfl, rfl, by decide +kernel, rfl, by decide +kernel, by decide +kernel⟩
def wt1_all_kinds : TM := (tVal (eVar 2))
def wb1_all_kinds : SM := (bCons (sSet (.nm 3) (eMeth mPop (eVar 2) aNil))
    (bCons (sExpr (eMeth mApp (eVar 1) (aCons (eVar 3) aNil)))
    (bCons (sExpr (eMeth mExt (eVar 2) (aCons (eUn fRev (eCall F_kinds_within (aCons (eVar 3) aNil))) aNil)))
    bNil)))
def F_all_kinds : List W → M W := fnM 1 4 (bCons (sSet (.nm 1) (eLst aNil))
    (bCons (sSet (.nm 2) (eLst (aCons (eVar 0) aNil)))
    (bCons (sWhile wt1_all_kinds wb1_all_kinds 1000000)
    (bCons (sRet (eVar 1))
    bNil))))
theorem ok_all_kinds {f : Addr} {fd : FuncData} (T : Txt K w mg) (F : Fun K "all_kinds" "all_kinds" s_all_kinds f fd) (hm : mg "all_kinds" = some (.ref f)) (b : Binds K fd ["kind"] []) (c_kinds_within : CallOk P w K mg base "kinds_within" 1 1 F_kinds_within) : CallOk P w K mg base "all_kinds" 2 1 F_all_kinds := by
  have c_kinds_within := c_kinds_within.mono (k := 1) (j := 1) (by omega); 
  refine call_ok (k := 1) F hm sc_all_kinds b fun cdv A outer s H E hr => ?_
  have nd := sc_all_kinds.nd
  exact (sb_cons (ss_set (se_lst sa_nil) (sg_nm 1 nd))
    (sb_cons (ss_set (se_lst (sa_cons (se_var 0) sa_nil)) (sg_nm 2 nd))
    (sb_cons (ss_while 1000000 PassesOwn.never (st_val (se_var 2)) (sb_cons (ss_set (se_pop (se_var 2)) (sg_nm 3 nd))
    (sb_cons (ss_expr (se_append (se_var 1) (se_var 3)))
    (sb_cons (ss_expr (se_extend (se_var 2) (se_rev (se_call c_kinds_within hr rfl (sa_cons (se_var 3) sa_nil)))))
    sb_nil))))
    (sb_cons (ss_ret (se_var 1))
    sb_nil))))
/-! ### letters_in -/
abbrev s_letters_in : Stmt := top 19
abbrev n_letters_in : List Str := ["kind", "one"]
theorem sc_letters_in : FnScope n_letters_in ["kind"] (defScope s_letters_in) := ⟨rfl, rfl, rfl, by decide +kernel, rfl, by decide +kernel, by decide +kernel⟩
def F_letters_in : List W → M W := fnM 1 2 (bCons (sIf (tNotM (tVal (eCall F_is_kind (aCons (eVar 0) aNil)))) (bCons sNever
    bNil) bNil)
    (bCons (sRet (eCall bTuple (aCons (eSortPick 1 1 0 "letter" (eCall F_all_kinds (aCons (eVar 0) aNil))) aNil)))
    bNil))
theorem ok_letters_in {f : Addr} {fd : FuncData} (T : Txt K w mg) (F : Fun K "letters_in" "letters_in" s_letters_in f fd) (hm : mg "letters_in" = some (.ref f)) (b : Binds K fd ["kind"] []) (c_is_kind : CallOk P w K mg base "is_kind" 4 1 F_is_kind) (c_all_kinds : CallOk P w K mg base "all_kinds" 2 1 F_all_kinds) : CallOk P w K mg base "letters_in" 5 1 F_letters_in := by
  have c_is_kind := c_is_kind.mono (k := 4) (j := 4) (by omega); have c_all_kinds := c_all_kinds.mono (k := 2) (j := 4) (by omega); 
  refine call_ok (k := 4) F hm sc_letters_in b fun cdv A outer s H E hr => ?_
  have nd := sc_letters_in.nd
  exact (sb_cons (ss_if (st_not (st_val (se_call c_is_kind hr rfl (sa_cons (se_var 0) sa_nil)))) (sb_cons ss_never
    sb_nil) sb_nil)
    (sb_cons (ss_ret (se_callTy call_tuple_of ref_tuple rfl T.tuple_ (sa_cons (se_sortPick [("one", 1)] 1 rfl nd hr.units rfl T.sorted_ (blkOk_by (by with_unfolding_all rfl)) (by decide) (se_call c_all_kinds hr rfl (sa_cons (se_var 0) sa_nil))) sa_nil)))
    sb_nil))
/-! ### with_kinds -/
abbrev s_with_kinds : Stmt := top 11
abbrev n_with_kinds : List Str := ["kind", "within", "head"]
theorem sc_with_kinds : FnScope n_with_kinds ["kind", "within"] (defScope s_with_kinds) := ⟨rfl, rfl, rfl, by decide +kernel, rfl, by decide +kernel, by decide +kernel⟩
def F_with_kinds : List W → M W := fnM 2 3 (bCons (sSet (.nm 2) (eOp fIx (eVar 0) (eC (.int 0))))
    (bCons (sIf (tBl (eOp fEq (eVar 2) (eC (.str "row")))) (bCons (sRet (eTup (aCons (eVar 2) (aCons (eVar 1) aNil))))
    bNil) bNil)
    (bCons (sIf (tBl (eOp fEq (eVar 2) (eC (.str "data")))) (bCons (sRet (eTup (aCons (eVar 2) (aCons (eOp fIx (eVar 0) (eC (.int 1))) (aCons (eVar 1) aNil)))))
    bNil) bNil)
    (bCons (sIf (tBl (eOp fEq (eVar 2) (eC (.str "fun")))) (bCons (sRet (eTup (aCons (eVar 2) (aCons (eSl (eVar 1) oNone (oSome (eUn fNeg (eC (.int 1))))) (aCons (eOp fIx (eVar 1) (eUn fNeg (eC (.int 1)))) aNil)))))
    bNil) bNil)
    (bCons (sIf (tBl (eOp fEq (eVar 2) (eC (.str "box")))) (bCons (sRet (eTup (aCons (eVar 2) (aCons (eOp fIx (eVar 1) (eC (.int 0))) aNil))))
    bNil) bNil)
    (bCons (sRet (eVar 0))
    bNil))))))
theorem ok_with_kinds {f : Addr} {fd : FuncData} (T : Txt K w mg) (F : Fun K "with_kinds" "with_kinds" s_with_kinds f fd) (hm : mg "with_kinds" = some (.ref f)) (b : Binds K fd ["kind", "within"] [])  : CallOk P w K mg base "with_kinds" 1 2 F_with_kinds := by
  
  refine call_ok (k := 0) F hm sc_with_kinds b fun cdv A outer s H E hr => ?_
  have nd := sc_with_kinds.nd
  exact (sb_cons (ss_set (se_ix (se_var 0) se_int) (sg_nm 2 nd))
    (sb_cons (ss_if (st_cmp (op_eqD hr.units) ref_eq (se_var 2) se_str) (sb_cons (ss_ret (se_tup (sa_cons (se_var 2) (sa_cons (se_var 1) sa_nil))))
    sb_nil) sb_nil)
    (sb_cons (ss_if (st_cmp (op_eqD hr.units) ref_eq (se_var 2) se_str) (sb_cons (ss_ret (se_tup (sa_cons (se_var 2) (sa_cons (se_ix (se_var 0) se_int) (sa_cons (se_var 1) sa_nil)))))
    sb_nil) sb_nil)
    (sb_cons (ss_if (st_cmp (op_eqD hr.units) ref_eq (se_var 2) se_str) (sb_cons (ss_ret (se_tup (sa_cons (se_var 2) (sa_cons (se_slice (se_var 1) so_none (so_some (se_un un_neg ref_neg se_int))) (sa_cons (se_ix (se_var 1) (se_un un_neg ref_neg se_int)) sa_nil)))))
    sb_nil) sb_nil)
    (sb_cons (ss_if (st_cmp (op_eqD hr.units) ref_eq (se_var 2) se_str) (sb_cons (ss_ret (se_tup (sa_cons (se_var 2) (sa_cons (se_ix (se_var 1) se_int) sa_nil))))
    sb_nil) sb_nil)
    (sb_cons (ss_ret (se_var 0))
    sb_nil))))))
/-! ### folded -/
abbrev s_folded : Stmt := top 15
abbrev n_folded : List Str := ["kind", "letters", "make", "done", "one", "at", "within"]
theorem sc_folded : FnScope n_folded ["kind", "letters", "make"] (defScope s_folded) := ⟨rfl, rfl, rfl, by decide +kernel, rfl, by decide +kernel, by decide +kernel⟩
def disp_folded_make : List (Str × (List W → M W)) := [("with_kinds", F_with_kinds)]
def fb1_folded : SM := (bCons (sIf (tBl (eOp fEq (eOp fIx (eVar 4) (eC (.int 0))) (eC (.str "letter")))) (bCons (sExpr (eMeth mApp (eVar 3) (aCons (eOp fIx (eVar 1) (eOp fIx (eVar 4) (eC (.int 1)))) aNil)))
    bNil) (bCons (sSet (.nm 5) (eOp fSub (eCall bLen (aCons (eVar 3) aNil)) (eCall bLen (aCons (eCall F_kinds_within (aCons (eVar 4) aNil)) aNil))))
    (bCons (sSet (.nm 6) (eCall bTuple (aCons (eUn fRev (eSl (eVar 3) (oSome (eVar 5)) oNone)) aNil)))
    (bCons (sDelFrom (eVar 3) (oSome (eVar 5)))
    (bCons (sExpr (eMeth mApp (eVar 3) (aCons (eCallL 2 disp_folded_make (aCons (eVar 4) (aCons (eVar 6) aNil))) aNil)))
    bNil)))))
    bNil)
def F_folded : List W → M W := fnM 3 7 (bCons (sSet (.nm 3) (eLst aNil))
    (bCons (sFor (iRevM (aCons (eCall F_all_kinds (aCons (eVar 0) aNil)) aNil)) (.nm 4) fb1_folded 1000000)
    (bCons (sRet (eOp fIx (eVar 3) (eC (.int 0))))
    bNil)))
theorem ok_folded {f : Addr} {fd : FuncData} (T : Txt K w mg) (F : Fun K "folded" "folded" s_folded f fd) (hm : mg "folded" = some (.ref f)) (b : Binds K fd ["kind", "letters", "make"] []) (c_kinds_within : CallOk P w K mg base "kinds_within" 1 1 F_kinds_within) (c_all_kinds : CallOk P w K mg base "all_kinds" 2 1 F_all_kinds) (c_with_kinds : CallOk P w K mg base "with_kinds" 1 2 F_with_kinds) : CallOk P w K mg base "folded" 3 3 F_folded := by
  have c_kinds_within := c_kinds_within.mono (k := 1) (j := 2) (by omega); have c_all_kinds := c_all_kinds.mono (k := 2) (j := 2) (by omega); have c_with_kinds := c_with_kinds.mono (k := 1) (j := 2) (by omega); 
  have d_folded_make : ∀ y F, disp_folded_make.lookup y = some F → CallF P w K mg base y 2 2 F := (disp_cons (T.n_with_kinds.elim fun g h => c_with_kinds.callF h.1 h.2) disp_nil)
  refine call_ok (k := 2) F hm sc_folded b fun cdv A outer s H E hr => ?_
  have nd := sc_folded.nd
  exact (sb_cons (ss_set (se_lst sa_nil) (sg_nm 3 nd))
    (sb_cons (ss_for 1000000 PassesOwn.never rfl (si_rev rfl T.reversed_ (sa_cons (se_call c_all_kinds hr rfl (sa_cons (se_var 0) sa_nil)) sa_nil)) (sg_nm 4 nd) (sb_cons (ss_if (st_cmp (op_eqD hr.units) ref_eq (se_ix (se_var 4) se_int) se_str) (sb_cons (ss_expr (se_append (se_var 3) (se_ix (se_var 1) (se_ix (se_var 4) se_int))))
    sb_nil) (sb_cons (ss_set (se_op op_sub ref_sub (se_callB call_len_seq ref_len rfl T.len_ (sa_cons (se_var 3) sa_nil)) (se_callB call_len_seq ref_len rfl T.len_ (sa_cons (se_call c_kinds_within hr rfl (sa_cons (se_var 4) sa_nil)) sa_nil))) (sg_nm 5 nd))
    (sb_cons (ss_set (se_callTy call_tuple_of ref_tuple rfl T.tuple_ (sa_cons (se_rev (se_slice (se_var 3) (so_some (se_var 5)) so_none)) sa_nil)) (sg_nm 6 nd))
    (sb_cons (ss_delFrom (se_var 3) (so_some (se_var 5)))
    (sb_cons (ss_expr (se_append (se_var 3) (se_callL d_folded_make hr rfl (by first | exact Or.inl rfl | exact Or.inr (Or.inl rfl) | exact Or.inr (Or.inr rfl)) (sa_cons (se_var 4) (sa_cons (se_var 6) sa_nil)))))
    sb_nil)))))
    sb_nil))
    (sb_cons (ss_ret (se_ix (se_var 3) se_int))
    sb_nil)))
/-! ### put_in -/
abbrev s_put_in : Stmt := top 16
abbrev n_put_in : List Str := ["kind", "kinds"]
theorem sc_put_in : FnScope n_put_in ["kind", "kinds"] (defScope s_put_in) := ⟨rfl, rfl, rfl, by decide +kernel, rfl, by decide +kernel, by decide +kernel⟩
def F_put_in : List W → M W := fnM 2 2 (bCons (sRet (eCall F_folded (aCons (eVar 0) (aCons (eVar 1) (aCons (eC (.fnc "with_kinds")) aNil)))))
    bNil)
theorem ok_put_in {f : Addr} {fd : FuncData} (T : Txt K w mg) (F : Fun K "put_in" "put_in" s_put_in f fd) (hm : mg "put_in" = some (.ref f)) (b : Binds K fd ["kind", "kinds"] []) (c_folded : CallOk P w K mg base "folded" 3 3 F_folded) : CallOk P w K mg base "put_in" 4 2 F_put_in := by
  have c_folded := c_folded.mono (k := 3) (j := 3) (by omega); 
  obtain ⟨g_with_kinds, ns_with_kinds, mg_with_kinds⟩ := T.n_with_kinds
  refine call_ok (k := 3) F hm sc_put_in b fun cdv A outer s H E hr => ?_
  have nd := sc_put_in.nd
  exact (sb_cons (ss_ret (se_call c_folded hr rfl (sa_cons (se_var 0) (sa_cons (se_var 1) (sa_cons (se_gl rfl mg_with_kinds (.fnc ns_with_kinds)) sa_nil)))))
    sb_nil)
/-! ### are_kinds -/
abbrev s_are_kinds : Stmt := top 18
abbrev n_are_kinds : List Str := ["thing", "item"]
theorem sc_are_kinds : FnScope n_are_kinds ["thing"] (defScope s_are_kinds) := ⟨rfl, rfl, rfl, by decide +kernel, rfl, by decide +kernel, by decide +kernel⟩
def ct1_are_kinds : TM := tYesM
def ce1_are_kinds : EM := (eCall F_is_kind (aCons (eVar 1) aNil))
def F_are_kinds : List W → M W := fnM 1 2 (bCons (sRet (eAnd (eCall bIsi (aCons (eVar 0) (aCons (eC (.ext (.ty "tuple"))) aNil))) (eCall bAll (aCons (eComp (iSeq (eVar 0)) (.nm 1) [1] ct1_are_kinds ce1_are_kinds 1000000) aNil))))
    bNil)
theorem ok_are_kinds {f : Addr} {fd : FuncData} (T : Txt K w mg) (F : Fun K "are_kinds" "are_kinds" s_are_kinds f fd) (hm : mg "are_kinds" = some (.ref f)) (b : Binds K fd ["thing"] []) (c_is_kind : CallOk P w K mg base "is_kind" 4 1 F_is_kind) : CallOk P w K mg base "are_kinds" 5 1 F_are_kinds := by
  have c_is_kind := c_is_kind.mono (k := 4) (j := 4) (by omega); 
  refine call_ok (k := 4) F hm sc_are_kinds b fun cdv A outer s H E hr => ?_
  have nd := sc_are_kinds.nd
  exact (sb_cons (ss_ret (se_and (se_callB call_isi ref_isi rfl T.isinstance_ (sa_cons (se_var 0) (sa_cons (se_ty rfl T.tuple_) sa_nil))) (se_one (se_callB (cr_all rfl) ref_all rfl T.all_ (sa_cons (se_comp [("item", 1)] 1000000 rfl nd (blkOk_by (by with_unfolding_all rfl)) (by decide) (si_seq (se_var 0)) (fun _ _ _ _ _ => (sg_nm 1 nd)) (fun _ _ _ _ _ => sts_nil) (fun _ _ _ _ _ => (se_call c_is_kind hr rfl (sa_cons (se_var 1) sa_nil)))) sa_nil)))))
    sb_nil)
/-! ### filled -/
abbrev s_filled : Stmt := top 20
abbrev n_filled : List Str := ["kind", "kinds", "letters"]
theorem sc_filled : FnScope n_filled ["kind", "kinds"] (defScope s_filled) := ⟨rfl, rfl, rfl, by decide +kernel, rfl, by decide +kernel, by decide +kernel⟩
def F_filled : List W → M W := fnM 2 3 (bCons (sSet (.nm 2) (eCall F_letters_in (aCons (eVar 0) aNil)))
    (bCons (sIf (tOrM (tNotM (tVal (eCall F_are_kinds (aCons (eVar 1) aNil)))) (tAndM (tVal (eVar 2)) (tBl (eOp fGe (eOp fIx (eVar 2) (eUn fNeg (eC (.int 1)))) (eCall bLen (aCons (eVar 1) aNil)))))) (bCons sNever
    bNil) bNil)
    (bCons (sRet (eCall F_put_in (aCons (eVar 0) (aCons (eVar 1) aNil))))
    bNil)))
theorem ok_filled {f : Addr} {fd : FuncData} (T : Txt K w mg) (F : Fun K "filled" "filled" s_filled f fd) (hm : mg "filled" = some (.ref f)) (b : Binds K fd ["kind", "kinds"] []) (c_letters_in : CallOk P w K mg base "letters_in" 5 1 F_letters_in) (c_put_in : CallOk P w K mg base "put_in" 4 2 F_put_in) (c_are_kinds : CallOk P w K mg base "are_kinds" 5 1 F_are_kinds) : CallOk P w K mg base "filled" 6 2 F_filled := by
  have c_letters_in := c_letters_in.mono (k := 5) (j := 5) (by omega); have c_put_in := c_put_in.mono (k := 4) (j := 5) (by omega); have c_are_kinds := c_are_kinds.mono (k := 5) (j := 5) (by omega); 
  refine call_ok (k := 5) F hm sc_filled b fun cdv A outer s H E hr => ?_
  have nd := sc_filled.nd
  exact (sb_cons (ss_set (se_call c_letters_in hr rfl (sa_cons (se_var 0) sa_nil)) (sg_nm 2 nd))
    (sb_cons (ss_if (st_w (sw_or (st_not (st_val (se_call c_are_kinds hr rfl (sa_cons (se_var 1) sa_nil)))) (sw_or1 (st_w (sw_and (st_val (se_var 2)) (sw_and1 (st_cmp op_ge ref_ge (se_ix (se_var 2) (se_un un_neg ref_neg se_int)) (se_callB call_len_seq ref_len rfl T.len_ (sa_cons (se_var 1) sa_nil))))))))) (sb_cons ss_never
    sb_nil) sb_nil)
    (sb_cons (ss_ret (se_call c_put_in hr rfl (sa_cons (se_var 0) (sa_cons (se_var 1) sa_nil))))
    sb_nil)))
/-! ### are_made_alike -/
abbrev s_are_made_alike : Stmt := top 12
abbrev n_are_made_alike : List Str := ["kind", "other"]
theorem sc_are_made_alike : FnScope n_are_made_alike ["kind", "other"] (defScope s_are_made_alike) := ⟨rfl, rfl, rfl, by decide +kernel, rfl, by decide +kernel, by decide +kernel⟩
def F_are_made_alike : List W → M W := fnM 2 2 (bCons (sIf (tBl (eOp fNe (eOp fIx (eVar 0) (eC (.int 0))) (eOp fIx (eVar 1) (eC (.int 0))))) (bCons (sRet (eC (.bl false)))
    bNil) bNil)
    (bCons (sIf (tAndM (tBl (eOp (fInB false) (eOp fIx (eVar 0) (eC (.int 0))) (eTup (aCons (eC (.str "data")) (aCons (eC (.str "letter")) aNil))))) (tBl (eOp fNe (eOp fIx (eVar 0) (eC (.int 1))) (eOp fIx (eVar 1) (eC (.int 1)))))) (bCons (sRet (eC (.bl false)))
    bNil) bNil)
    (bCons (sRet (eOp fEq (eCall bLen (aCons (eCall F_kinds_within (aCons (eVar 0) aNil)) aNil)) (eCall bLen (aCons (eCall F_kinds_within (aCons (eVar 1) aNil)) aNil))))
    bNil)))
theorem ok_are_made_alike {f : Addr} {fd : FuncData} (T : Txt K w mg) (F : Fun K "are_made_alike" "are_made_alike" s_are_made_alike f fd) (hm : mg "are_made_alike" = some (.ref f)) (b : Binds K fd ["kind", "other"] []) (c_kinds_within : CallOk P w K mg base "kinds_within" 1 1 F_kinds_within) : CallOk P w K mg base "are_made_alike" 2 2 F_are_made_alike := by
  have c_kinds_within := c_kinds_within.mono (k := 1) (j := 1) (by omega); 
  refine call_ok (k := 1) F hm sc_are_made_alike b fun cdv A outer s H E hr => ?_
  have nd := sc_are_made_alike.nd
  exact (sb_cons (ss_if (st_cmp (op_neD hr.units) ref_ne (se_ix (se_var 0) se_int) (se_ix (se_var 1) se_int)) (sb_cons (ss_ret se_bl)
    sb_nil) sb_nil)
    (sb_cons (ss_if (st_w (sw_and (st_cmp op_in_seq ref_in (se_ix (se_var 0) se_int) (se_tup (sa_cons se_str (sa_cons se_str sa_nil)))) (sw_and1 (st_cmp (op_neD hr.units) ref_ne (se_ix (se_var 0) se_int) (se_ix (se_var 1) se_int))))) (sb_cons (ss_ret se_bl)
    sb_nil) sb_nil)
    (sb_cons (ss_ret (se_cmp (op_eqD hr.units) ref_eq (se_callB call_len_seq ref_len rfl T.len_ (sa_cons (se_call c_kinds_within hr rfl (sa_cons (se_var 0) sa_nil)) sa_nil)) (se_callB call_len_seq ref_len rfl T.len_ (sa_cons (se_call c_kinds_within hr rfl (sa_cons (se_var 1) sa_nil)) sa_nil))))
    sb_nil)))
/-! ### are_same -/
abbrev s_are_same : Stmt := top 14
abbrev n_are_same : List Str := ["kind", "other", "waiting", "one", "two"]
theorem sc_are_same : FnScope n_are_same ["kind", "other"] (defScope s_are_same) := ⟨rfl, rfl, rfl, by decide +kernel, rfl, by decide +kernel, by decide +kernel⟩
def wt1_are_same : TM := (tVal (eVar 2))
def wb1_are_same : SM := (bCons (sSet (.tp [(.nm 3), (.nm 4)]) (eMeth mPop (eVar 2) aNil))
    (bCons (sIf (tNotM (tVal (eCall F_are_made_alike (aCons (eVar 3) (aCons (eVar 4) aNil))))) (bCons (sRet (eC (.bl false)))
    bNil) bNil)
    (bCons (sExpr (eMeth mExt (eVar 2) (aCons (eCall bLZip (aCons (eCall F_kinds_within (aCons (eVar 3) aNil)) (aCons (eCall F_kinds_within (aCons (eVar 4) aNil)) aNil))) aNil)))
    bNil)))
def F_are_same : List W → M W := fnM 2 5 (bCons (sSet (.nm 2) (eLst (aCons (eTup (aCons (eVar 0) (aCons (eVar 1) aNil))) aNil)))
    (bCons (sWhile wt1_are_same wb1_are_same 1000000)
    (bCons (sRet (eC (.bl true)))
    bNil)))
theorem ok_are_same {f : Addr} {fd : FuncData} (T : Txt K w mg) (F : Fun K "are_same" "are_same" s_are_same f fd) (hm : mg "are_same" = some (.ref f)) (b : Binds K fd ["kind", "other"] []) (c_kinds_within : CallOk P w K mg base "kinds_within" 1 1 F_kinds_within) (c_are_made_alike : CallOk P w K mg base "are_made_alike" 2 2 F_are_made_alike) : CallOk P w K mg base "are_same" 3 2 F_are_same := by
  have c_kinds_within := c_kinds_within.mono (k := 1) (j := 2) (by omega); have c_are_made_alike := c_are_made_alike.mono (k := 2) (j := 2) (by omega); 
  refine call_ok (k := 2) F hm sc_are_same b fun cdv A outer s H E hr => ?_
  have nd := sc_are_same.nd
  exact (sb_cons (ss_set (se_lst (sa_cons (se_tup (sa_cons (se_var 0) (sa_cons (se_var 1) sa_nil))) sa_nil)) (sg_nm 2 nd))
    (sb_cons (ss_while 1000000 PassesOwn.never (st_val (se_var 2)) (sb_cons (ss_set (se_pop (se_var 2)) (sg_tp rfl (sgs_cons (sg_nm 3 nd) (sgs_cons (sg_nm 4 nd) sgs_nil))))
    (sb_cons (ss_if (st_not (st_val (se_call c_are_made_alike hr rfl (sa_cons (se_var 3) (sa_cons (se_var 4) sa_nil))))) (sb_cons (ss_ret se_bl)
    sb_nil) sb_nil)
    (sb_cons (ss_expr (se_extend (se_var 2) (se_lzip rfl rfl T.list_ rfl T.zip_ (sa_cons (se_call c_kinds_within hr rfl (sa_cons (se_var 3) sa_nil)) (sa_cons (se_call c_kinds_within hr rfl (sa_cons (se_var 4) sa_nil)) sa_nil)))))
    sb_nil))))
    (sb_cons (ss_ret se_bl)
    sb_nil)))
/-! ### matched -/
abbrev s_matched : Stmt := top 21
abbrev n_matched : List Str := ["kind", "closed", "found", "waiting", "one", "two"]
theorem sc_matched : FnScope n_matched ["kind", "closed"] (defScope s_matched) := ⟨rfl, rfl, rfl, by decide +kernel, rfl, by decide +kernel, by decide +kernel⟩
def wt1_matched : TM := (tVal (eVar 3))
def wb1_matched : SM := (bCons (sSet (.tp [(.nm 4), (.nm 5)]) (eMeth mPop (eVar 3) aNil))
    (bCons (sIf (tBl (eOp fEq (eOp fIx (eVar 4) (eC (.int 0))) (eC (.str "letter")))) (bCons (sIf (tNotM (tVal (eCall F_are_same (aCons (eSetD (eVar 2) (eOp fIx (eVar 4) (eC (.int 1))) (eVar 5)) (aCons (eVar 5) aNil))))) (bCons (sRet (eC .non))
    bNil) bNil)
    bNil) (bCons (sIf (tVal (eCall F_are_made_alike (aCons (eVar 4) (aCons (eVar 5) aNil)))) (bCons (sExpr (eMeth mExt (eVar 3) (aCons (eCall bLZip (aCons (eCall F_kinds_within (aCons (eVar 4) aNil)) (aCons (eCall F_kinds_within (aCons (eVar 5) aNil)) aNil))) aNil)))
    bNil) (bCons (sRet (eC .non))
    bNil))
    bNil))
    bNil))
def F_matched : List W → M W := fnM 2 6 (bCons (sIf (tOrM (tNotM (tVal (eCall F_is_kind (aCons (eVar 0) aNil)))) (tVal (eCall F_letters_in (aCons (eVar 1) aNil)))) (bCons sNever
    bNil) bNil)
    (bCons (sSet (.nm 2) eDict0)
    (bCons (sSet (.nm 3) (eLst (aCons (eTup (aCons (eVar 0) (aCons (eVar 1) aNil))) aNil)))
    (bCons (sWhile wt1_matched wb1_matched 1000000)
    (bCons (sRet (eVar 2))
    bNil)))))
theorem ok_matched {f : Addr} {fd : FuncData} (T : Txt K w mg) (F : Fun K "matched" "matched" s_matched f fd) (hm : mg "matched" = some (.ref f)) (b : Binds K fd ["kind", "closed"] []) (c_kinds_within : CallOk P w K mg base "kinds_within" 1 1 F_kinds_within) (c_is_kind : CallOk P w K mg base "is_kind" 4 1 F_is_kind) (c_letters_in : CallOk P w K mg base "letters_in" 5 1 F_letters_in) (c_are_made_alike : CallOk P w K mg base "are_made_alike" 2 2 F_are_made_alike) (c_are_same : CallOk P w K mg base "are_same" 3 2 F_are_same) : CallOk P w K mg base "matched" 6 2 F_matched := by
  have c_kinds_within := c_kinds_within.mono (k := 1) (j := 5) (by omega); have c_is_kind := c_is_kind.mono (k := 4) (j := 5) (by omega); have c_letters_in := c_letters_in.mono (k := 5) (j := 5) (by omega); have c_are_made_alike := c_are_made_alike.mono (k := 2) (j := 5) (by omega); have c_are_same := c_are_same.mono (k := 3) (j := 5) (by omega); 
  refine call_ok (k := 5) F hm sc_matched b fun cdv A outer s H E hr => ?_
  have nd := sc_matched.nd
  exact (sb_cons (ss_if (st_w (sw_or (st_not (st_val (se_call c_is_kind hr rfl (sa_cons (se_var 0) sa_nil)))) (sw_or1 (st_val (se_call c_letters_in hr rfl (sa_cons (se_var 1) sa_nil)))))) (sb_cons ss_never
    sb_nil) sb_nil)
    (sb_cons (ss_set se_dict0 (sg_nm 2 nd))
    (sb_cons (ss_set (se_lst (sa_cons (se_tup (sa_cons (se_var 0) (sa_cons (se_var 1) sa_nil))) sa_nil)) (sg_nm 3 nd))
    (sb_cons (ss_while 1000000 PassesOwn.never (st_val (se_var 3)) (sb_cons (ss_set (se_pop (se_var 3)) (sg_tp rfl (sgs_cons (sg_nm 4 nd) (sgs_cons (sg_nm 5 nd) sgs_nil))))
    (sb_cons (ss_if (st_cmp (op_eqD hr.units) ref_eq (se_ix (se_var 4) se_int) se_str) (sb_cons (ss_if (st_not (st_val (se_call c_are_same hr rfl (sa_cons (se_setd (se_var 2) (se_ix (se_var 4) se_int) (se_var 5) ⟨rfl, rfl, rfl, rfl⟩) (sa_cons (se_var 5) sa_nil))))) (sb_cons (ss_ret se_non)
    sb_nil) sb_nil)
    sb_nil) (sb_cons (ss_if (st_val (se_call c_are_made_alike hr rfl (sa_cons (se_var 4) (sa_cons (se_var 5) sa_nil)))) (sb_cons (ss_expr (se_extend (se_var 3) (se_lzip rfl rfl T.list_ rfl T.zip_ (sa_cons (se_call c_kinds_within hr rfl (sa_cons (se_var 4) sa_nil)) (sa_cons (se_call c_kinds_within hr rfl (sa_cons (se_var 5) sa_nil)) sa_nil)))))
    sb_nil) (sb_cons (ss_ret se_non)
    sb_nil))
    sb_nil))
    sb_nil)))
    (sb_cons (ss_ret (se_var 2))
    sb_nil)))))
/-! ### _law_bag -/
abbrev s__law_bag : Stmt := top 23
abbrev n__law_bag : List Str := ["_law_script", "_law_seed", "_law_cell", "_law_great", "_law_always"]
theorem sc__law_bag : FnScope n__law_bag ["_law_script"] (defScope s__law_bag) := ⟨rfl, rfl, rfl, by decide +kernel, rfl, by decide +kernel, by decide +kernel⟩
def fb1__law_bag : SM := (bCons (sSet (.nm 1) (eOp fMod (eCall bInt (aCons (eOp fAdd (eOp fAdd (eOp fMulA (eVar 1) (eC (.int 69621))) (eOp fMod (eCall bInt (aCons (eVar 2) aNil)) (eC (.int 1000003)))) (eC (.int 7))) aNil)) (eC (.int 2147483647))))
    bNil)
def ct2__law_bag : TM := (tBl (eOp fGe (eCall bAbs (aCons (eCall bInt (aCons (eVar 2) aNil)) aNil)) (eOp fPow (eC (.int 10)) (eC (.int 18)))))
def ce2__law_bag : EM := (eCall bAbs (aCons (eCall bInt (aCons (eVar 2) aNil)) aNil))
def ct3__law_bag : TM := tYesM
def ce3__law_bag : EM := (eCall bInt (aCons (eVar 2) aNil))
def F__law_bag : List W → M W := fnM 1 5 (bCons (sSet (.nm 1) (eOp fAdd (eC (.int 29)) (eCall bLen (aCons (eVar 0) aNil))))
    (bCons (sFor (iSeq (eSl (eVar 0) oNone (oSome (eC (.int 63))))) (.nm 2) fb1__law_bag 1000000)
    (bCons (sSet (.nm 3) (eComp (iSeq (eSl (eVar 0) oNone (oSome (eC (.int 63))))) (.nm 2) [2] ct2__law_bag ce2__law_bag 1000000))
    (bCons (sSet (.nm 4) (eC .non))
    (bCons (sIf (tAndM (tBl (eOp fLt (eCall bLen (aCons (eVar 0) aNil)) (eC (.int 2)))) (tBl (eOp fEq (eCall bLen (aCons (eVar 3) aNil)) (eC (.int 0))))) (bCons (sSet (.nm 4) (eCall bAbs (aCons (eCall bSum (aCons (eComp (iSeq (eVar 0)) (.nm 2) [2] ct3__law_bag ce3__law_bag 1000000) aNil)) aNil)))
    bNil) bNil)
    (bCons (sRet (eLst (aCons (eVar 1) (aCons (eC (.int 1)) (aCons (eVar 3) (aCons (eVar 4) aNil))))))
    bNil))))))
theorem ok__law_bag {f : Addr} {fd : FuncData} (T : Txt K w mg) (F : Fun K "_law_bag" "_law_bag" s__law_bag f fd) (hm : mg "_law_bag" = some (.ref f)) (b : Binds K fd ["_law_script"] [])  : CallOk P w K mg base "_law_bag" 1 1 F__law_bag := by
  
  refine call_ok (k := 0) F hm sc__law_bag b fun cdv A outer s H E hr => ?_
  have nd := sc__law_bag.nd
  exact (sb_cons (ss_set (se_op or_add ref_add se_int (se_callB call_len_seq ref_len rfl T.len_ (sa_cons (se_var 0) sa_nil))) (sg_nm 1 nd))
    (sb_cons (ss_for 1000000 PassesOwn.never rfl (si_seq (se_slice (se_var 0) so_none (so_some se_int))) (sg_nm 2 nd) (sb_cons (ss_set (se_op op_mod ref_mod (se_callTy call_int1 ref_int rfl T.int_ (sa_cons (se_op or_add ref_add (se_op or_add ref_add (se_op or_mul ref_mul (se_var 1) se_int) (se_op op_mod ref_mod (se_callTy call_int1 ref_int rfl T.int_ (sa_cons (se_var 2) sa_nil)) se_int)) se_int) sa_nil)) se_int) (sg_nm 1 nd))
    sb_nil))
    (sb_cons (ss_setComp [("_law_cell", 2)] 1000000 rfl nd (blkOk_by (by with_unfolding_all rfl)) (by decide) rfl (si_seq (se_slice (se_var 0) so_none (so_some se_int))) (fun _ _ _ _ _ => (sg_nm 2 nd)) (fun _ _ _ _ _ => (sts_one (st_cmp op_ge ref_ge (se_callB call_abs ref_abs rfl T.abs_ (sa_cons (se_callTy call_int1 ref_int rfl T.int_ (sa_cons (se_var 2) sa_nil)) sa_nil)) (se_op op_pow ref_pow se_int se_int)))) (fun _ _ _ _ _ => (se_callB call_abs ref_abs rfl T.abs_ (sa_cons (se_callTy call_int1 ref_int rfl T.int_ (sa_cons (se_var 2) sa_nil)) sa_nil))))
    (sb_cons (ss_set se_non (sg_nm 4 nd))
    (sb_cons (ss_if (st_w (sw_and (st_cmp op_lt ref_lt (se_callB call_len_seq ref_len rfl T.len_ (sa_cons (se_var 0) sa_nil)) se_int) (sw_and1 (st_cmp (op_eqD hr.units) ref_eq (se_callB call_len_seq ref_len rfl T.len_ (sa_cons (se_var 3) sa_nil)) se_int)))) (sb_cons (ss_set (se_callB call_abs ref_abs rfl T.abs_ (sa_cons (se_callB (cr_sum rfl) ref_sum rfl T.sum_ (sa_cons (se_comp [("_law_cell", 2)] 1000000 rfl nd (blkOk_by (by with_unfolding_all rfl)) (by decide) (si_seq (se_var 0)) (fun _ _ _ _ _ => (sg_nm 2 nd)) (fun _ _ _ _ _ => sts_nil) (fun _ _ _ _ _ => (se_callTy call_int1 ref_int rfl T.int_ (sa_cons (se_var 2) sa_nil)))) sa_nil)) sa_nil)) (sg_nm 4 nd))
    sb_nil) sb_nil)
    (sb_cons (ss_ret (se_lst (sa_cons (se_var 1) (sa_cons se_int (sa_cons (se_var 3) (sa_cons (se_var 4) sa_nil))))))
    sb_nil))))))
/-! ### _law_pick -/
abbrev s__law_pick : Stmt := top 24
abbrev n__law_pick : List Str := ["_law_bag_here", "_law_many", "_law_great", "_law_digit", "_law_number"]
theorem sc__law_pick : FnScope n__law_pick ["_law_bag_here", "_law_many"] (defScope s__law_pick) := ⟨rfl, rfl, rfl, by decide +kernel, rfl, by decide +kernel, by decide +kernel⟩
def F__law_pick : List W → M W := fnM 2 5 (bCons (sIf (tBl (eOp fNotN (eOp fIx (eVar 0) (eC (.int 3))) (eC .non))) (bCons (sRet (eOp fMod (eCall bInt (aCons (eOp fIx (eVar 0) (eC (.int 3))) aNil)) (eVar 1)))
    bNil) bNil)
    (bCons (sSetIx (eVar 0) (eC (.int 1)) (eOp fAdd (eOp fIx (eVar 0) (eC (.int 1))) (eC (.int 1))))
    (bCons (sSet (.nm 2) (eOp fIx (eVar 0) (eC (.int 2))))
    (bCons (sIf (tBl (eOp fGt (eCall bLen (aCons (eVar 2) aNil)) (eC (.int 0)))) (bCons (sSet (.nm 3) (eOp fMod (eCall bInt (aCons (eOp fIx (eVar 2) (eC (.int 0))) aNil)) (eVar 1)))
    (bCons (sSetIx (eVar 2) (eC (.int 0)) (eOp fFdiv (eCall bInt (aCons (eOp fIx (eVar 2) (eC (.int 0))) aNil)) (eVar 1)))
    (bCons (sIf (tBl (eOp fEq (eOp fIx (eVar 2) (eC (.int 0))) (eC (.int 0)))) (bCons (sExpr (eMeth mPopAt (eVar 2) (aCons (eC (.int 0)) aNil)))
    bNil) bNil)
    (bCons (sRet (eVar 3))
    bNil)))) bNil)
    (bCons (sSet (.nm 4) (eOp fMod (eCall bInt (aCons (eOp fMulA (eOp fAdd (eOp fIx (eVar 0) (eC (.int 0))) (eOp fMulA (eC (.int 7919)) (eOp fIx (eVar 0) (eC (.int 1))))) (eC (.int 48271))) aNil)) (eC (.int 2147483647))))
    (bCons (sSet (.nm 4) (eOp fMod (eCall bInt (aCons (eOp fMulA (eVar 4) (eOp fAdd (eOp fFdiv (eVar 4) (eC (.int 1009))) (eC (.int 69621)))) aNil)) (eC (.int 2147483647))))
    (bCons (sSet (.nm 4) (eOp fMod (eCall bInt (aCons (eOp fMulA (eVar 4) (eOp fAdd (eOp fFdiv (eVar 4) (eC (.int 2003))) (eC (.int 40692)))) aNil)) (eC (.int 2147483399))))
    (bCons (sRet (eOp fMod (eCall bInt (aCons (eOp fFdiv (eVar 4) (eC (.int 16))) aNil)) (eVar 1)))
    bNil))))))))
theorem ok__law_pick {f : Addr} {fd : FuncData} (T : Txt K w mg) (F : Fun K "_law_pick" "_law_pick" s__law_pick f fd) (hm : mg "_law_pick" = some (.ref f)) (b : Binds K fd ["_law_bag_here", "_law_many"] [])  : CallOk P w K mg base "_law_pick" 1 2 F__law_pick := by
  
  refine call_ok (k := 0) F hm sc__law_pick b fun cdv A outer s H E hr => ?_
  have nd := sc__law_pick.nd
  exact (sb_cons (ss_if (st_cmp op_notN ref_notN (se_ix (se_var 0) se_int) se_non) (sb_cons (ss_ret (se_op op_mod ref_mod (se_callTy call_int1 ref_int rfl T.int_ (sa_cons (se_ix (se_var 0) se_int) sa_nil)) (se_var 1)))
    sb_nil) sb_nil)
    (sb_cons (ss_setIx (se_var 0) se_int (se_op or_add ref_add (se_ix (se_var 0) se_int) se_int))
    (sb_cons (ss_set (se_ix (se_var 0) se_int) (sg_nm 2 nd))
    (sb_cons (ss_if (st_cmp op_gt ref_gt (se_callB call_len_seq ref_len rfl T.len_ (sa_cons (se_var 2) sa_nil)) se_int) (sb_cons (ss_set (se_op op_mod ref_mod (se_callTy call_int1 ref_int rfl T.int_ (sa_cons (se_ix (se_var 2) se_int) sa_nil)) (se_var 1)) (sg_nm 3 nd))
    (sb_cons (ss_setIx (se_var 2) se_int (se_op op_fdiv ref_fdiv (se_callTy call_int1 ref_int rfl T.int_ (sa_cons (se_ix (se_var 2) se_int) sa_nil)) (se_var 1)))
    (sb_cons (ss_if (st_cmp (op_eqD hr.units) ref_eq (se_ix (se_var 2) se_int) se_int) (sb_cons (ss_expr (se_popAt (se_var 2) se_int))
    sb_nil) sb_nil)
    (sb_cons (ss_ret (se_var 3))
    sb_nil)))) sb_nil)
    (sb_cons (ss_set (se_op op_mod ref_mod (se_callTy call_int1 ref_int rfl T.int_ (sa_cons (se_op or_mul ref_mul (se_op or_add ref_add (se_ix (se_var 0) se_int) (se_op or_mul ref_mul se_int (se_ix (se_var 0) se_int))) se_int) sa_nil)) se_int) (sg_nm 4 nd))
    (sb_cons (ss_set (se_op op_mod ref_mod (se_callTy call_int1 ref_int rfl T.int_ (sa_cons (se_op or_mul ref_mul (se_var 4) (se_op or_add ref_add (se_op op_fdiv ref_fdiv (se_var 4) se_int) se_int)) sa_nil)) se_int) (sg_nm 4 nd))
    (sb_cons (ss_set (se_op op_mod ref_mod (se_callTy call_int1 ref_int rfl T.int_ (sa_cons (se_op or_mul ref_mul (se_var 4) (se_op or_add ref_add (se_op op_fdiv ref_fdiv (se_var 4) se_int) se_int)) sa_nil)) se_int) (sg_nm 4 nd))
    (sb_cons (ss_ret (se_op op_mod ref_mod (se_callTy call_int1 ref_int rfl T.int_ (sa_cons (se_op op_fdiv ref_fdiv (se_var 4) se_int) sa_nil)) (se_var 1)))
    sb_nil))))))))
/-! ### _law_inner -/
abbrev s__law_inner : Stmt := top 26
abbrev n__law_inner : List Str := ["_law_kind"]
theorem sc__law_inner : FnScope n__law_inner ["_law_kind"] (defScope s__law_inner) := ⟨rfl, rfl, rfl, by decide +kernel, rfl, by decide +kernel, by decide +kernel⟩
def F__law_inner : List W → M W := fnM 1 1 (bCons (sIf (tBl (eOp fEq (eOp fIx (eVar 0) (eC (.int 0))) (eC (.str "row")))) (bCons (sRet (eOp fIx (eVar 0) (eC (.int 1))))
    bNil) bNil)
    (bCons (sIf (tBl (eOp fEq (eOp fIx (eVar 0) (eC (.int 0))) (eC (.str "data")))) (bCons (sRet (eOp fIx (eVar 0) (eC (.int 2))))
    bNil) bNil)
    (bCons (sIf (tBl (eOp fEq (eOp fIx (eVar 0) (eC (.int 0))) (eC (.str "fun")))) (bCons (sRet (eOp fAdd (eOp fIx (eVar 0) (eC (.int 1))) (eTup (aCons (eOp fIx (eVar 0) (eC (.int 2))) aNil))))
    bNil) bNil)
    (bCons (sRet (eIf (tBl (eOp fEq (eOp fIx (eVar 0) (eC (.int 0))) (eC (.str "box")))) (eTup (aCons (eOp fIx (eVar 0) (eC (.int 1))) aNil)) (eTup aNil)))
    bNil))))
theorem ok__law_inner {f : Addr} {fd : FuncData} (T : Txt K w mg) (F : Fun K "_law_inner" "_law_inner" s__law_inner f fd) (hm : mg "_law_inner" = some (.ref f)) (b : Binds K fd ["_law_kind"] [])  : CallOk P w K mg base "_law_inner" 1 1 F__law_inner := by
  
  refine call_ok (k := 0) F hm sc__law_inner b fun cdv A outer s H E hr => ?_
  have nd := sc__law_inner.nd
  exact (sb_cons (ss_if (st_cmp (op_eqD hr.units) ref_eq (se_ix (se_var 0) se_int) se_str) (sb_cons (ss_ret (se_ix (se_var 0) se_int))
    sb_nil) sb_nil)
    (sb_cons (ss_if (st_cmp (op_eqD hr.units) ref_eq (se_ix (se_var 0) se_int) se_str) (sb_cons (ss_ret (se_ix (se_var 0) se_int))
    sb_nil) sb_nil)
    (sb_cons (ss_if (st_cmp (op_eqD hr.units) ref_eq (se_ix (se_var 0) se_int) se_str) (sb_cons (ss_ret (se_op or_add ref_add (se_ix (se_var 0) se_int) (se_tup (sa_cons (se_ix (se_var 0) se_int) sa_nil))))
    sb_nil) sb_nil)
    (sb_cons (ss_ret (se_if (st_cmp (op_eqD hr.units) ref_eq (se_ix (se_var 0) se_int) se_str) (se_tup (sa_cons (se_ix (se_var 0) se_int) sa_nil)) (se_tup sa_nil)))
    sb_nil))))
/-! ### _law_put -/
abbrev s__law_put : Stmt := top 27
abbrev n__law_put : List Str := ["_law_kind", "_law_kinds", "_law_inner_here", "_law_item"]
theorem sc__law_put : FnScope n__law_put ["_law_kind", "_law_kinds"] (defScope s__law_put) := ⟨rfl, rfl, rfl, by decide +kernel, rfl, by decide +kernel, by decide +kernel⟩
def ct1__law_put (Fd : List W → M W) : TM := tYesM
def ce1__law_put (Fd : List W → M W) : EM := (eCall Fd (aCons (eVar 3) (aCons (eVar 1) aNil)))
def G__law_put (Fd : List W → M W) : List W → M W := fnM 2 4 (bCons (sIf (tBl (eOp fEq (eOp fIx (eVar 0) (eC (.int 0))) (eC (.str "letter")))) (bCons (sRet (eOp fIx (eVar 1) (eOp fIx (eVar 0) (eC (.int 1)))))
    bNil) bNil)
    (bCons (sSet (.nm 2) (eCall bTuple (aCons (eComp (iSeq (eCall F__law_inner (aCons (eVar 0) aNil))) (.nm 3) [3] (ct1__law_put Fd) (ce1__law_put Fd) 1000000) aNil)))
    (bCons (sIf (tBl (eOp fEq (eOp fIx (eVar 0) (eC (.int 0))) (eC (.str "row")))) (bCons (sRet (eTup (aCons (eC (.str "row")) (aCons (eVar 2) aNil))))
    bNil) bNil)
    (bCons (sIf (tBl (eOp fEq (eOp fIx (eVar 0) (eC (.int 0))) (eC (.str "data")))) (bCons (sRet (eTup (aCons (eC (.str "data")) (aCons (eOp fIx (eVar 0) (eC (.int 1))) (aCons (eVar 2) aNil)))))
    bNil) bNil)
    (bCons (sIf (tBl (eOp fEq (eOp fIx (eVar 0) (eC (.int 0))) (eC (.str "fun")))) (bCons (sRet (eTup (aCons (eC (.str "fun")) (aCons (eSl (eVar 2) oNone (oSome (eUn fNeg (eC (.int 1))))) (aCons (eOp fIx (eVar 2) (eUn fNeg (eC (.int 1)))) aNil)))))
    bNil) bNil)
    (bCons (sRet (eIf (tBl (eOp fEq (eOp fIx (eVar 0) (eC (.int 0))) (eC (.str "box")))) (eTup (aCons (eC (.str "box")) (aCons (eOp fIx (eVar 2) (eC (.int 0))) aNil))) (eVar 0)))
    bNil))))))
def F__law_put : Nat → List W → M W
  | 0 => fnM 2 4 sNever
  | d + 1 => G__law_put (F__law_put d)
theorem ok__law_put {f : Addr} {fd : FuncData} (T : Txt K w mg) (F : Fun K "_law_put" "_law_put" s__law_put f fd) (hm : mg "_law_put" = some (.ref f)) (b : Binds K fd ["_law_kind", "_law_kinds"] []) (c__law_inner : CallOk P w K mg base "_law_inner" 1 1 F__law_inner) : ∀ d, CallOk P w K mg base "_law_put" (2 + d) 2 (F__law_put d)
  | 0 => call_ok (k := 1) F hm sc__law_put b fun _ _ _ _ _ _ _ => sb_never
  | d + 1 => by
    have c__law_put := ok__law_put T F hm b c__law_inner d
    have c__law_inner := c__law_inner.mono (k := 1) (j := (2 + d)) (by omega); 
    refine call_ok (k := 2 + d) F hm sc__law_put b fun cdv A outer s H E hr => ?_
    have nd := sc__law_put.nd
    exact (sb_cons (ss_if (st_cmp (op_eqD hr.units) ref_eq (se_ix (se_var 0) se_int) se_str) (sb_cons (ss_ret (se_ix (se_var 1) (se_ix (se_var 0) se_int)))
    sb_nil) sb_nil)
    (sb_cons (ss_set (se_callTy call_tuple_of ref_tuple rfl T.tuple_ (sa_cons (se_comp [("_law_item", 3)] 1000000 rfl nd (blkOk_by (by with_unfolding_all rfl)) (by decide) (si_seq (se_call c__law_inner hr rfl (sa_cons (se_var 0) sa_nil))) (fun _ _ _ _ _ => (sg_nm 3 nd)) (fun _ _ _ _ _ => sts_nil) (fun _ _ _ _ _ => (se_call c__law_put hr rfl (sa_cons (se_var 3) (sa_cons (se_var 1) sa_nil))))) sa_nil)) (sg_nm 2 nd))
    (sb_cons (ss_if (st_cmp (op_eqD hr.units) ref_eq (se_ix (se_var 0) se_int) se_str) (sb_cons (ss_ret (se_tup (sa_cons se_str (sa_cons (se_var 2) sa_nil))))
    sb_nil) sb_nil)
    (sb_cons (ss_if (st_cmp (op_eqD hr.units) ref_eq (se_ix (se_var 0) se_int) se_str) (sb_cons (ss_ret (se_tup (sa_cons se_str (sa_cons (se_ix (se_var 0) se_int) (sa_cons (se_var 2) sa_nil)))))
    sb_nil) sb_nil)
    (sb_cons (ss_if (st_cmp (op_eqD hr.units) ref_eq (se_ix (se_var 0) se_int) se_str) (sb_cons (ss_ret (se_tup (sa_cons se_str (sa_cons (se_slice (se_var 2) so_none (so_some (se_un un_neg ref_neg se_int))) (sa_cons (se_ix (se_var 2) (se_un un_neg ref_neg se_int)) sa_nil)))))
    sb_nil) sb_nil)
    (sb_cons (ss_ret (se_if (st_cmp (op_eqD hr.units) ref_eq (se_ix (se_var 0) se_int) se_str) (se_tup (sa_cons se_str (sa_cons (se_ix (se_var 2) se_int) sa_nil))) (se_var 0)))
    sb_nil))))))
/-! ### _law_is_flag -/
abbrev s__law_is_flag : Stmt := top 29
abbrev n__law_is_flag : List Str := ["_law_thing", "_law_due"]
theorem sc__law_is_flag : FnScope n__law_is_flag ["_law_thing", "_law_due"] (defScope s__law_is_flag) := ⟨rfl, rfl, rfl, by decide +kernel, rfl, by decide +kernel, by decide +kernel⟩
def F__law_is_flag : List W → M W := fnM 2 2 (bCons (sRet (eAnd (eCall bIsi (aCons (eVar 0) (aCons (eC (.ext (.ty "bool"))) aNil))) (eOp fEq (eVar 0) (eVar 1))))
    bNil)
theorem ok__law_is_flag {f : Addr} {fd : FuncData} (T : Txt K w mg) (F : Fun K "_law_is_flag" "_law_is_flag" s__law_is_flag f fd) (hm : mg "_law_is_flag" = some (.ref f)) (b : Binds K fd ["_law_thing", "_law_due"] [])  : CallOk P w K mg base "_law_is_flag" 1 2 F__law_is_flag := by
  
  refine call_ok (k := 0) F hm sc__law_is_flag b fun cdv A outer s H E hr => ?_
  have nd := sc__law_is_flag.nd
  exact (sb_cons (ss_ret (se_and (se_callB call_isi ref_isi rfl T.isinstance_ (sa_cons (se_var 0) (sa_cons (se_ty rfl T.bool_) sa_nil))) (se_one (se_cmp (op_eqD hr.units) ref_eq (se_var 0) (se_var 1)))))
    sb_nil)
/-! ### _law_is -/
abbrev s__law_is : Stmt := top 30
abbrev n__law_is : List Str := ["_law_thing", "_law_due", "_law_one", "_law_other"]
theorem sc__law_is : FnScope n__law_is ["_law_thing", "_law_due"] (defScope s__law_is) := ⟨rfl, rfl, rfl, by decide +kernel, rfl, by decide +kernel, by decide +kernel⟩
def ct1__law_is (Fd : List W → M W) : TM := tYesM
def ce1__law_is (Fd : List W → M W) : EM := (eCall Fd (aCons (eVar 2) (aCons (eVar 3) aNil)))
def G__law_is (Fd : List W → M W) : List W → M W := fnM 2 4 (bCons (sIf (tVal (eUn (fIsi2 "tuple" "list") (eVar 1))) (bCons (sIf (tOrM (tBl (eOp fNe (eCall bIsi (aCons (eVar 0) (aCons (eC (.ext (.ty "tuple"))) aNil))) (eCall bIsi (aCons (eVar 1) (aCons (eC (.ext (.ty "tuple"))) aNil))))) (tBl (eOp fNe (eCall bIsi (aCons (eVar 0) (aCons (eC (.ext (.ty "list"))) aNil))) (eCall bIsi (aCons (eVar 1) (aCons (eC (.ext (.ty "list"))) aNil)))))) (bCons (sRet (eC (.bl false)))
    bNil) bNil)
    (bCons (sRet (eAnd (eOp fEq (eCall bLen (aCons (eVar 0) aNil)) (eCall bLen (aCons (eVar 1) aNil))) (eCall bAll (aCons (eComp (iZipB (aCons (eVar 0) (aCons (eVar 1) aNil))) (.tp [(.nm 2), (.nm 3)]) [2, 3] (ct1__law_is Fd) (ce1__law_is Fd) 1000000) aNil))))
    bNil)) bNil)
    (bCons (sRet (eAnd (eOp fEq (eCall bIsi (aCons (eVar 0) (aCons (eC (.ext (.ty "bool"))) aNil))) (eCall bIsi (aCons (eVar 1) (aCons (eC (.ext (.ty "bool"))) aNil)))) (eOp fEq (eVar 0) (eVar 1))))
    bNil))
def F__law_is : Nat → List W → M W
  | 0 => fnM 2 4 sNever
  | d + 1 => G__law_is (F__law_is d)
theorem ok__law_is {f : Addr} {fd : FuncData} (T : Txt K w mg) (F : Fun K "_law_is" "_law_is" s__law_is f fd) (hm : mg "_law_is" = some (.ref f)) (b : Binds K fd ["_law_thing", "_law_due"] [])  : ∀ d, CallOk P w K mg base "_law_is" (1 + d) 2 (F__law_is d)
  | 0 => call_ok (k := 0) F hm sc__law_is b fun _ _ _ _ _ _ _ => sb_never
  | d + 1 => by
    have c__law_is := ok__law_is T F hm b  d
    
    refine call_ok (k := 1 + d) F hm sc__law_is b fun cdv A outer s H E hr => ?_
    have nd := sc__law_is.nd
    exact (sb_cons (ss_if (st_val (se_isi2 (se_var 1) rfl T.isinstance_ rfl T.tuple_ rfl T.list_)) (sb_cons (ss_if (st_w (sw_or (st_cmp (op_neD hr.units) ref_ne (se_callB call_isi ref_isi rfl T.isinstance_ (sa_cons (se_var 0) (sa_cons (se_ty rfl T.tuple_) sa_nil))) (se_callB call_isi ref_isi rfl T.isinstance_ (sa_cons (se_var 1) (sa_cons (se_ty rfl T.tuple_) sa_nil)))) (sw_or1 (st_cmp (op_neD hr.units) ref_ne (se_callB call_isi ref_isi rfl T.isinstance_ (sa_cons (se_var 0) (sa_cons (se_ty rfl T.list_) sa_nil))) (se_callB call_isi ref_isi rfl T.isinstance_ (sa_cons (se_var 1) (sa_cons (se_ty rfl T.list_) sa_nil))))))) (sb_cons (ss_ret se_bl)
    sb_nil) sb_nil)
    (sb_cons (ss_ret (se_and (se_cmp (op_eqD hr.units) ref_eq (se_callB call_len_seq ref_len rfl T.len_ (sa_cons (se_var 0) sa_nil)) (se_callB call_len_seq ref_len rfl T.len_ (sa_cons (se_var 1) sa_nil))) (se_one (se_callB (cr_all rfl) ref_all rfl T.all_ (sa_cons (se_comp [("_law_one", 2), ("_law_other", 3)] 1000000 rfl nd (blkOk_by (by with_unfolding_all rfl)) (by decide) (si_zipB rfl T.zip_ (sa_cons (se_var 0) (sa_cons (se_var 1) sa_nil))) (fun _ _ _ _ _ => (sg_tp rfl (sgs_cons (sg_nm 2 nd) (sgs_cons (sg_nm 3 nd) sgs_nil)))) (fun _ _ _ _ _ => sts_nil) (fun _ _ _ _ _ => (se_call c__law_is hr rfl (sa_cons (se_var 2) (sa_cons (se_var 3) sa_nil))))) sa_nil)))))
    sb_nil)) sb_nil)
    (sb_cons (ss_ret (se_and (se_cmp (op_eqD hr.units) ref_eq (se_callB call_isi ref_isi rfl T.isinstance_ (sa_cons (se_var 0) (sa_cons (se_ty rfl T.bool_) sa_nil))) (se_callB call_isi ref_isi rfl T.isinstance_ (sa_cons (se_var 1) (sa_cons (se_ty rfl T.bool_) sa_nil)))) (se_one (se_cmp (op_eqD hr.units) ref_eq (se_var 0) (se_var 1)))))
    sb_nil))
/-! ### _law_deep -/
abbrev s__law_deep : Stmt := top 31
abbrev n__law_deep : List Str := ["_law_thing", "_law_turn"]
theorem sc__law_deep : FnScope n__law_deep [] (defScope s__law_deep) := ⟨rfl, rfl, rfl, by decide +kernel, rfl, by decide +kernel, by decide +kernel⟩
def fb1__law_deep : SM := (bCons (sSet (.nm 0) (eTup (aCons (eVar 0) aNil)))
    bNil)
def F__law_deep : List W → M W := fnM 0 2 (bCons (sSet (.nm 0) (eTup aNil))
    (bCons (sFor (iRng1M (aCons (eC (.int 40)) aNil)) (.nm 1) fb1__law_deep 1000000)
    (bCons (sRet (eVar 0))
    bNil)))
theorem ok__law_deep {f : Addr} {fd : FuncData} (T : Txt K w mg) (F : Fun K "_law_deep" "_law_deep" s__law_deep f fd) (hm : mg "_law_deep" = some (.ref f)) (b : Binds K fd [] [])  : CallOk P w K mg base "_law_deep" 1 0 F__law_deep := by
  
  refine call_ok (k := 0) F hm sc__law_deep b fun cdv A outer s H E hr => ?_
  have nd := sc__law_deep.nd
  exact (sb_cons (ss_set (se_tup sa_nil) (sg_nm 0 nd))
    (sb_cons (ss_for 1000000 PassesOwn.never rfl (si_rng1 rfl T.range_ (sa_cons se_int sa_nil)) (sg_nm 1 nd) (sb_cons (ss_set (se_tup (sa_cons (se_var 0) sa_nil)) (sg_nm 0 nd))
    sb_nil))
    (sb_cons (ss_ret (se_var 0))
    sb_nil)))
/-! ### _law_is_int -/
abbrev s__law_is_int : Stmt := top 28
abbrev n__law_is_int : List Str := ["_law_thing"]
theorem sc__law_is_int : FnScope n__law_is_int ["_law_thing"] (defScope s__law_is_int) := ⟨rfl, rfl, rfl, by decide +kernel, rfl, by decide +kernel, by decide +kernel⟩
def F__law_is_int : List W → M W := fnM 1 1 (bCons (sRet (eAnd (eCall bIsi (aCons (eVar 0) (aCons (eC (.ext (.ty "int"))) aNil))) (eNot (eCall bIsi (aCons (eVar 0) (aCons (eC (.ext (.ty "bool"))) aNil))))))
    bNil)
theorem ok__law_is_int {f : Addr} {fd : FuncData} (T : Txt K w mg) (F : Fun K "_law_is_int" "_law_is_int" s__law_is_int f fd) (hm : mg "_law_is_int" = some (.ref f)) (b : Binds K fd ["_law_thing"] [])  : CallOk P w K mg base "_law_is_int" 1 1 F__law_is_int := by
  
  refine call_ok (k := 0) F hm sc__law_is_int b fun cdv A outer s H E hr => ?_
  have nd := sc__law_is_int.nd
  exact (sb_cons (ss_ret (se_and (se_callB call_isi ref_isi rfl T.isinstance_ (sa_cons (se_var 0) (sa_cons (se_ty rfl T.int_) sa_nil))) (se_one (se_not (se_callB call_isi ref_isi rfl T.isinstance_ (sa_cons (se_var 0) (sa_cons (se_ty rfl T.bool_) sa_nil)))))))
    sb_nil)
/-! ### _law_has_form -/
abbrev s__law_has_form : Stmt := top 32
abbrev n__law_has_form : List Str := ["_law_thing"]
theorem sc__law_has_form : FnScope n__law_has_form ["_law_thing"] (defScope s__law_has_form) := ⟨rfl, rfl, rfl, by decide +kernel, rfl, by decide +kernel, by decide +kernel⟩
def F__law_has_form : List W → M W := fnM 1 1 (bCons (sIf (tOrM (tNotM (tVal (eCall bIsi (aCons (eVar 0) (aCons (eC (.ext (.ty "tuple"))) aNil))))) (tOrM (tBl (eOp fEq (eCall bLen (aCons (eVar 0) aNil)) (eC (.int 0)))) (tNotM (tVal (eCall bIsi (aCons (eOp fIx (eVar 0) (eC (.int 0))) (aCons (eC (.ext (.ty "str"))) aNil))))))) (bCons (sRet (eC (.bl false)))
    bNil) bNil)
    (bCons (sIf (tBl (eOp (fInB false) (eOp fIx (eVar 0) (eC (.int 0))) (eLst (aCons (eC (.str "num")) (aCons (eC (.str "nil")) aNil))))) (bCons (sRet (eOp fEq (eCall bLen (aCons (eVar 0) aNil)) (eC (.int 1))))
    bNil) bNil)
    (bCons (sIf (tBl (eOp fEq (eOp fIx (eVar 0) (eC (.int 0))) (eC (.str "row")))) (bCons (sRet (eAnd (eOp fEq (eCall bLen (aCons (eVar 0) aNil)) (eC (.int 2))) (eAnd (eCall bIsi (aCons (eOp fIx (eVar 0) (eC (.int 1))) (aCons (eC (.ext (.ty "tuple"))) aNil))) (eChain fLt fLt (eC (.int 0)) (eCall bLen (aCons (eOp fIx (eVar 0) (eC (.int 1))) aNil)) (eC (.int 5))))))
    bNil) bNil)
    (bCons (sIf (tBl (eOp fEq (eOp fIx (eVar 0) (eC (.int 0))) (eC (.str "data")))) (bCons (sRet (eAnd (eOp fEq (eCall bLen (aCons (eVar 0) aNil)) (eC (.int 3))) (eAnd (eCall F__law_is_int (aCons (eOp fIx (eVar 0) (eC (.int 1))) aNil)) (eAnd (eOp fGe (eOp fIx (eVar 0) (eC (.int 1))) (eC (.int 0))) (eCall bIsi (aCons (eOp fIx (eVar 0) (eC (.int 2))) (aCons (eC (.ext (.ty "tuple"))) aNil)))))))
    bNil) bNil)
    (bCons (sIf (tBl (eOp fEq (eOp fIx (eVar 0) (eC (.int 0))) (eC (.str "fun")))) (bCons (sRet (eAnd (eOp fEq (eCall bLen (aCons (eVar 0) aNil)) (eC (.int 3))) (eAnd (eCall bIsi (aCons (eOp fIx (eVar 0) (eC (.int 1))) (aCons (eC (.ext (.ty "tuple"))) aNil))) (eChain fLt fLt (eC (.int 0)) (eCall bLen (aCons (eOp fIx (eVar 0) (eC (.int 1))) aNil)) (eC (.int 4))))))
    bNil) bNil)
    (bCons (sIf (tBl (eOp fEq (eOp fIx (eVar 0) (eC (.int 0))) (eC (.str "letter")))) (bCons (sRet (eAnd (eOp fEq (eCall bLen (aCons (eVar 0) aNil)) (eC (.int 2))) (eAnd (eCall F__law_is_int (aCons (eOp fIx (eVar 0) (eC (.int 1))) aNil)) (eOp fGe (eOp fIx (eVar 0) (eC (.int 1))) (eC (.int 0))))))
    bNil) bNil)
    (bCons (sRet (eAnd (eOp fEq (eOp fIx (eVar 0) (eC (.int 0))) (eC (.str "box"))) (eOp fEq (eCall bLen (aCons (eVar 0) aNil)) (eC (.int 2)))))
    bNil)))))))
theorem ok__law_has_form {f : Addr} {fd : FuncData} (T : Txt K w mg) (F : Fun K "_law_has_form" "_law_has_form" s__law_has_form f fd) (hm : mg "_law_has_form" = some (.ref f)) (b : Binds K fd ["_law_thing"] []) (c__law_is_int : CallOk P w K mg base "_law_is_int" 1 1 F__law_is_int) : CallOk P w K mg base "_law_has_form" 2 1 F__law_has_form := by
  have c__law_is_int := c__law_is_int.mono (k := 1) (j := 1) (by omega); 
  refine call_ok (k := 1) F hm sc__law_has_form b fun cdv A outer s H E hr => ?_
  have nd := sc__law_has_form.nd
  exact (sb_cons (ss_if (st_w (sw_or (st_not (st_val (se_callB call_isi ref_isi rfl T.isinstance_ (sa_cons (se_var 0) (sa_cons (se_ty rfl T.tuple_) sa_nil))))) (sw_or (st_cmp (op_eqD hr.units) ref_eq (se_callB call_len_seq ref_len rfl T.len_ (sa_cons (se_var 0) sa_nil)) se_int) (sw_or1 (st_not (st_val (se_callB call_isi ref_isi rfl T.isinstance_ (sa_cons (se_ix (se_var 0) se_int) (sa_cons (se_ty rfl T.str_) sa_nil))))))))) (sb_cons (ss_ret se_bl)
    sb_nil) sb_nil)
    (sb_cons (ss_if (st_cmp op_in_seq ref_in (se_ix (se_var 0) se_int) (se_lst (sa_cons se_str (sa_cons se_str sa_nil)))) (sb_cons (ss_ret (se_cmp (op_eqD hr.units) ref_eq (se_callB call_len_seq ref_len rfl T.len_ (sa_cons (se_var 0) sa_nil)) se_int))
    sb_nil) sb_nil)
    (sb_cons (ss_if (st_cmp (op_eqD hr.units) ref_eq (se_ix (se_var 0) se_int) se_str) (sb_cons (ss_ret (se_and (se_cmp (op_eqD hr.units) ref_eq (se_callB call_len_seq ref_len rfl T.len_ (sa_cons (se_var 0) sa_nil)) se_int) (se_and (se_callB call_isi ref_isi rfl T.isinstance_ (sa_cons (se_ix (se_var 0) se_int) (sa_cons (se_ty rfl T.tuple_) sa_nil))) (se_one (se_chain op_lt op_lt ref_lt ref_lt se_int (se_callB call_len_seq ref_len rfl T.len_ (sa_cons (se_ix (se_var 0) se_int) sa_nil)) se_int)))))
    sb_nil) sb_nil)
    (sb_cons (ss_if (st_cmp (op_eqD hr.units) ref_eq (se_ix (se_var 0) se_int) se_str) (sb_cons (ss_ret (se_and (se_cmp (op_eqD hr.units) ref_eq (se_callB call_len_seq ref_len rfl T.len_ (sa_cons (se_var 0) sa_nil)) se_int) (se_and (se_call c__law_is_int hr rfl (sa_cons (se_ix (se_var 0) se_int) sa_nil)) (se_and (se_cmp op_ge ref_ge (se_ix (se_var 0) se_int) se_int) (se_one (se_callB call_isi ref_isi rfl T.isinstance_ (sa_cons (se_ix (se_var 0) se_int) (sa_cons (se_ty rfl T.tuple_) sa_nil))))))))
    sb_nil) sb_nil)
    (sb_cons (ss_if (st_cmp (op_eqD hr.units) ref_eq (se_ix (se_var 0) se_int) se_str) (sb_cons (ss_ret (se_and (se_cmp (op_eqD hr.units) ref_eq (se_callB call_len_seq ref_len rfl T.len_ (sa_cons (se_var 0) sa_nil)) se_int) (se_and (se_callB call_isi ref_isi rfl T.isinstance_ (sa_cons (se_ix (se_var 0) se_int) (sa_cons (se_ty rfl T.tuple_) sa_nil))) (se_one (se_chain op_lt op_lt ref_lt ref_lt se_int (se_callB call_len_seq ref_len rfl T.len_ (sa_cons (se_ix (se_var 0) se_int) sa_nil)) se_int)))))
    sb_nil) sb_nil)
    (sb_cons (ss_if (st_cmp (op_eqD hr.units) ref_eq (se_ix (se_var 0) se_int) se_str) (sb_cons (ss_ret (se_and (se_cmp (op_eqD hr.units) ref_eq (se_callB call_len_seq ref_len rfl T.len_ (sa_cons (se_var 0) sa_nil)) se_int) (se_and (se_call c__law_is_int hr rfl (sa_cons (se_ix (se_var 0) se_int) sa_nil)) (se_one (se_cmp op_ge ref_ge (se_ix (se_var 0) se_int) se_int)))))
    sb_nil) sb_nil)
    (sb_cons (ss_ret (se_and (se_cmp (op_eqD hr.units) ref_eq (se_ix (se_var 0) se_int) se_str) (se_one (se_cmp (op_eqD hr.units) ref_eq (se_callB call_len_seq ref_len rfl T.len_ (sa_cons (se_var 0) sa_nil)) se_int))))
    sb_nil)))))))
/-! ### _law_is_kind -/
abbrev s__law_is_kind : Stmt := top 33
abbrev n__law_is_kind : List Str := ["_law_thing", "_law_waiting", "_law_here"]
theorem sc__law_is_kind : FnScope n__law_is_kind ["_law_thing"] (defScope s__law_is_kind) := ⟨rfl, rfl, rfl, by decide +kernel, rfl, by decide +kernel, by decide +kernel⟩
def wt1__law_is_kind : TM := (tBl (eOp fGt (eCall bLen (aCons (eVar 1) aNil)) (eC (.int 0))))
def wb1__law_is_kind : SM := (bCons (sSet (.nm 2) (eMeth mPop (eVar 1) aNil))
    (bCons (sIf (tNotM (tVal (eCall F__law_has_form (aCons (eVar 2) aNil)))) (bCons (sRet (eC (.bl false)))
    bNil) bNil)
    (bCons (sExpr (eMeth mExt (eVar 1) (aCons (eCall bList (aCons (eCall F__law_inner (aCons (eVar 2) aNil)) aNil)) aNil)))
    bNil)))
def F__law_is_kind : List W → M W := fnM 1 3 (bCons (sSet (.nm 1) (eLst (aCons (eVar 0) aNil)))
    (bCons (sWhile wt1__law_is_kind wb1__law_is_kind 1000000)
    (bCons (sRet (eC (.bl true)))
    bNil)))
theorem ok__law_is_kind {f : Addr} {fd : FuncData} (T : Txt K w mg) (F : Fun K "_law_is_kind" "_law_is_kind" s__law_is_kind f fd) (hm : mg "_law_is_kind" = some (.ref f)) (b : Binds K fd ["_law_thing"] []) (c__law_inner : CallOk P w K mg base "_law_inner" 1 1 F__law_inner) (c__law_has_form : CallOk P w K mg base "_law_has_form" 2 1 F__law_has_form) : CallOk P w K mg base "_law_is_kind" 3 1 F__law_is_kind := by
  have c__law_inner := c__law_inner.mono (k := 1) (j := 2) (by omega); have c__law_has_form := c__law_has_form.mono (k := 2) (j := 2) (by omega); 
  refine call_ok (k := 2) F hm sc__law_is_kind b fun cdv A outer s H E hr => ?_
  have nd := sc__law_is_kind.nd
  exact (sb_cons (ss_set (se_lst (sa_cons (se_var 0) sa_nil)) (sg_nm 1 nd))
    (sb_cons (ss_while 1000000 PassesOwn.never (st_cmp op_gt ref_gt (se_callB call_len_seq ref_len rfl T.len_ (sa_cons (se_var 1) sa_nil)) se_int) (sb_cons (ss_set (se_pop (se_var 1)) (sg_nm 2 nd))
    (sb_cons (ss_if (st_not (st_val (se_call c__law_has_form hr rfl (sa_cons (se_var 2) sa_nil)))) (sb_cons (ss_ret se_bl)
    sb_nil) sb_nil)
    (sb_cons (ss_expr (se_extend (se_var 1) (se_callTy call_list_of ref_list rfl T.list_ (sa_cons (se_call c__law_inner hr rfl (sa_cons (se_var 2) sa_nil)) sa_nil))))
    sb_nil))))
    (sb_cons (ss_ret se_bl)
    sb_nil)))
/-! ### _law_all_in -/
abbrev s__law_all_in : Stmt := top 34
abbrev n__law_all_in : List Str := ["_law_kind", "_law_found", "_law_at"]
theorem sc__law_all_in : FnScope n__law_all_in ["_law_kind"] (defScope s__law_all_in) := ⟨rfl, rfl, rfl, by decide +kernel, rfl, by decide +kernel, by decide +kernel⟩
def wt1__law_all_in : TM := (tBl (eOp fLt (eVar 2) (eCall bLen (aCons (eVar 1) aNil))))
def wb1__law_all_in : SM := (bCons (sExpr (eMeth mExt (eVar 1) (aCons (eCall bList (aCons (eCall F__law_inner (aCons (eOp fIx (eVar 1) (eVar 2)) aNil)) aNil)) aNil)))
    (bCons (sSet (.nm 2) (eOp fAdd (eVar 2) (eC (.int 1))))
    bNil))
def F__law_all_in : List W → M W := fnM 1 3 (bCons (sSet (.nm 1) (eLst (aCons (eVar 0) aNil)))
    (bCons (sSet (.nm 2) (eC (.int 0)))
    (bCons (sWhile wt1__law_all_in wb1__law_all_in 1000000)
    (bCons (sRet (eVar 1))
    bNil))))
theorem ok__law_all_in {f : Addr} {fd : FuncData} (T : Txt K w mg) (F : Fun K "_law_all_in" "_law_all_in" s__law_all_in f fd) (hm : mg "_law_all_in" = some (.ref f)) (b : Binds K fd ["_law_kind"] []) (c__law_inner : CallOk P w K mg base "_law_inner" 1 1 F__law_inner) : CallOk P w K mg base "_law_all_in" 2 1 F__law_all_in := by
  have c__law_inner := c__law_inner.mono (k := 1) (j := 1) (by omega); 
  refine call_ok (k := 1) F hm sc__law_all_in b fun cdv A outer s H E hr => ?_
  have nd := sc__law_all_in.nd
  exact (sb_cons (ss_set (se_lst (sa_cons (se_var 0) sa_nil)) (sg_nm 1 nd))
    (sb_cons (ss_set se_int (sg_nm 2 nd))
    (sb_cons (ss_while 1000000 PassesOwn.never (st_cmp op_lt ref_lt (se_var 2) (se_callB call_len_seq ref_len rfl T.len_ (sa_cons (se_var 1) sa_nil))) (sb_cons (ss_expr (se_extend (se_var 1) (se_callTy call_list_of ref_list rfl T.list_ (sa_cons (se_call c__law_inner hr rfl (sa_cons (se_ix (se_var 1) (se_var 2)) sa_nil)) sa_nil))))
    (sb_cons (ss_set (se_op or_add ref_add (se_var 2) se_int) (sg_nm 2 nd))
    sb_nil)))
    (sb_cons (ss_ret (se_var 1))
    sb_nil))))
/-! ### _law_letters -/
abbrev s__law_letters : Stmt := top 35
abbrev n__law_letters : List Str := ["_law_kind", "_law_here"]
theorem sc__law_letters : FnScope n__law_letters ["_law_kind"] (defScope s__law_letters) := ⟨rfl, rfl, rfl, by decide +kernel, rfl, by decide +kernel, by decide +kernel⟩
def ct1__law_letters : TM := (tBl (eOp fEq (eOp fIx (eVar 1) (eC (.int 0))) (eC (.str "letter"))))
def ce1__law_letters : EM := (eOp fIx (eVar 1) (eC (.int 1)))
def F__law_letters : List W → M W := fnM 1 2 (bCons (sRet (eCall bTuple (aCons (eUn fSortSet (eComp (iSeq (eCall F__law_all_in (aCons (eVar 0) aNil))) (.nm 1) [1] ct1__law_letters ce1__law_letters 1000000)) aNil)))
    bNil)
theorem ok__law_letters {f : Addr} {fd : FuncData} (T : Txt K w mg) (F : Fun K "_law_letters" "_law_letters" s__law_letters f fd) (hm : mg "_law_letters" = some (.ref f)) (b : Binds K fd ["_law_kind"] []) (c__law_all_in : CallOk P w K mg base "_law_all_in" 2 1 F__law_all_in) : CallOk P w K mg base "_law_letters" 3 1 F__law_letters := by
  have c__law_all_in := c__law_all_in.mono (k := 2) (j := 2) (by omega); 
  refine call_ok (k := 2) F hm sc__law_letters b fun cdv A outer s H E hr => ?_
  have nd := sc__law_letters.nd
  exact (sb_cons (ss_ret (se_callTy call_tuple_of ref_tuple rfl T.tuple_ (sa_cons (se_sortSet rfl rfl T.sorted_ rfl T.set_ (se_comp [("_law_here", 1)] 1000000 rfl nd (blkOk_by (by with_unfolding_all rfl)) (by decide) (si_seq (se_call c__law_all_in hr rfl (sa_cons (se_var 0) sa_nil))) (fun _ _ _ _ _ => (sg_nm 1 nd)) (fun _ _ _ _ _ => (sts_one (st_cmp (op_eqD hr.units) ref_eq (se_ix (se_var 1) se_int) se_str))) (fun _ _ _ _ _ => (se_ix (se_var 1) se_int)))) sa_nil)))
    sb_nil)
/-! ### _law_some -/
abbrev s__law_some : Stmt := top 25
abbrev n__law_some : List Str := ["_law_bag_here", "_law_things"]
theorem sc__law_some : FnScope n__law_some ["_law_bag_here", "_law_things"] (defScope s__law_some) := ⟨rfl, rfl, rfl, by decide +kernel, rfl, by decide +kernel, by decide +kernel⟩
def F__law_some : List W → M W := fnM 2 2 (bCons (sRet (eOp fIx (eVar 1) (eCall F__law_pick (aCons (eVar 0) (aCons (eCall bLen (aCons (eVar 1) aNil)) aNil)))))
    bNil)
theorem ok__law_some {f : Addr} {fd : FuncData} (T : Txt K w mg) (F : Fun K "_law_some" "_law_some" s__law_some f fd) (hm : mg "_law_some" = some (.ref f)) (b : Binds K fd ["_law_bag_here", "_law_things"] []) (c__law_pick : CallOk P w K mg base "_law_pick" 1 2 F__law_pick) : CallOk P w K mg base "_law_some" 2 2 F__law_some := by
  have c__law_pick := c__law_pick.mono (k := 1) (j := 1) (by omega); 
  refine call_ok (k := 1) F hm sc__law_some b fun cdv A outer s H E hr => ?_
  have nd := sc__law_some.nd
  exact (sb_cons (ss_ret (se_ix (se_var 1) (se_call c__law_pick hr rfl (sa_cons (se_var 0) (sa_cons (se_callB call_len_seq ref_len rfl T.len_ (sa_cons (se_var 1) sa_nil)) sa_nil)))))
    sb_nil)
/-! ### _law_any_kind -/
abbrev s__law_any_kind : Stmt := top 36
abbrev n__law_any_kind : List Str := ["_law_bag_here", "_law_deep_here", "_law_letters_here", "_law_word", "_law_inner_here", "_law_turn"]
theorem sc__law_any_kind : FnScope n__law_any_kind ["_law_bag_here", "_law_deep_here", "_law_letters_here"] (defScope s__law_any_kind) := ⟨rfl, rfl, rfl, by decide +kernel, rfl, by decide +kernel, by decide +kernel⟩
def ct1__law_any_kind (Fd : List W → M W) : TM := tYesM
def ce1__law_any_kind (Fd : List W → M W) : EM := (eCall Fd (aCons (eVar 0) (aCons (eOp fSub (eVar 1) (eC (.int 1))) (aCons (eVar 2) aNil))))
def ct2__law_any_kind (Fd : List W → M W) : TM := tYesM
def ce2__law_any_kind (Fd : List W → M W) : EM := (eCall Fd (aCons (eVar 0) (aCons (eOp fSub (eVar 1) (eC (.int 1))) (aCons (eVar 2) aNil))))
def ct3__law_any_kind (Fd : List W → M W) : TM := tYesM
def ce3__law_any_kind (Fd : List W → M W) : EM := (eCall Fd (aCons (eVar 0) (aCons (eOp fSub (eVar 1) (eC (.int 1))) (aCons (eVar 2) aNil))))
def G__law_any_kind (Fd : List W → M W) : List W → M W := fnM 3 6 (bCons (sSet (.nm 3) (eCall F__law_some (aCons (eVar 0) (aCons (eLst (aCons (eC (.str "num")) (aCons (eC (.str "nil")) (aCons (eC (.str "letter")) (aCons (eC (.str "row")) (aCons (eC (.str "data")) (aCons (eC (.str "fun")) (aCons (eC (.str "box")) (aCons (eC (.str "row")) (aCons (eC (.str "box")) aNil)))))))))) aNil))))
    (bCons (sIf (tAndM (tBl (eOp fEq (eVar 3) (eC (.str "letter")))) (tBl (eOp fGt (eVar 2) (eC (.int 0))))) (bCons (sRet (eTup (aCons (eC (.str "letter")) (aCons (eCall F__law_pick (aCons (eVar 0) (aCons (eVar 2) aNil))) aNil))))
    bNil) bNil)
    (bCons (sIf (tOrM (tBl (eOp fLt (eVar 1) (eC (.int 2)))) (tBl (eOp (fInB false) (eVar 3) (eLst (aCons (eC (.str "num")) (aCons (eC (.str "nil")) (aCons (eC (.str "letter")) aNil))))))) (bCons (sRet (eIf (tBl (eOp fEq (eVar 3) (eC (.str "nil")))) (eTup (aCons (eC (.str "nil")) aNil)) (eTup (aCons (eC (.str "num")) aNil))))
    bNil) bNil)
    (bCons (sIf (tBl (eOp fEq (eVar 3) (eC (.str "row")))) (bCons (sRet (eTup (aCons (eC (.str "row")) (aCons (eCall bTuple (aCons (eComp (iRng1M (aCons (eOp fAdd (eC (.int 1)) (eCall F__law_pick (aCons (eVar 0) (aCons (eC (.int 3)) aNil)))) aNil)) (.nm 5) [5] (ct1__law_any_kind Fd) (ce1__law_any_kind Fd) 1000000) aNil)) aNil))))
    bNil) bNil)
    (bCons (sIf (tBl (eOp fEq (eVar 3) (eC (.str "data")))) (bCons (sSet (.nm 4) (eCall bTuple (aCons (eComp (iRng1M (aCons (eCall F__law_pick (aCons (eVar 0) (aCons (eC (.int 3)) aNil))) aNil)) (.nm 5) [5] (ct2__law_any_kind Fd) (ce2__law_any_kind Fd) 1000000) aNil)))
    (bCons (sRet (eTup (aCons (eC (.str "data")) (aCons (eCall F__law_pick (aCons (eVar 0) (aCons (eC (.int 7)) aNil))) (aCons (eVar 4) aNil)))))
    bNil)) bNil)
    (bCons (sIf (tBl (eOp fEq (eVar 3) (eC (.str "fun")))) (bCons (sSet (.nm 4) (eCall bTuple (aCons (eComp (iRng1M (aCons (eOp fAdd (eC (.int 1)) (eCall F__law_pick (aCons (eVar 0) (aCons (eC (.int 2)) aNil)))) aNil)) (.nm 5) [5] (ct3__law_any_kind Fd) (ce3__law_any_kind Fd) 1000000) aNil)))
    (bCons (sRet (eTup (aCons (eC (.str "fun")) (aCons (eVar 4) (aCons (eCall Fd (aCons (eVar 0) (aCons (eOp fSub (eVar 1) (eC (.int 1))) (aCons (eVar 2) aNil)))) aNil)))))
    bNil)) bNil)
    (bCons (sRet (eTup (aCons (eC (.str "box")) (aCons (eCall Fd (aCons (eVar 0) (aCons (eOp fSub (eVar 1) (eC (.int 1))) (aCons (eVar 2) aNil)))) aNil))))
    bNil)))))))
def F__law_any_kind : Nat → List W → M W
  | 0 => fnM 3 6 sNever
  | d + 1 => G__law_any_kind (F__law_any_kind d)
theorem ok__law_any_kind {f : Addr} {fd : FuncData} (T : Txt K w mg) (F : Fun K "_law_any_kind" "_law_any_kind" s__law_any_kind f fd) (hm : mg "_law_any_kind" = some (.ref f)) (b : Binds K fd ["_law_bag_here", "_law_deep_here", "_law_letters_here"] []) (c__law_pick : CallOk P w K mg base "_law_pick" 1 2 F__law_pick) (c__law_some : CallOk P w K mg base "_law_some" 2 2 F__law_some) : ∀ d, CallOk P w K mg base "_law_any_kind" (3 + d) 3 (F__law_any_kind d)
  | 0 => call_ok (k := 2) F hm sc__law_any_kind b fun _ _ _ _ _ _ _ => sb_never
  | d + 1 => by
    have c__law_any_kind := ok__law_any_kind T F hm b c__law_pick c__law_some d
    have c__law_pick := c__law_pick.mono (k := 1) (j := (3 + d)) (by omega); have c__law_some := c__law_some.mono (k := 2) (j := (3 + d)) (by omega); 
    refine call_ok (k := 3 + d) F hm sc__law_any_kind b fun cdv A outer s H E hr => ?_
    have nd := sc__law_any_kind.nd
    exact (sb_cons (ss_set (se_call c__law_some hr rfl (sa_cons (se_var 0) (sa_cons (se_lst (sa_cons se_str (sa_cons se_str (sa_cons se_str (sa_cons se_str (sa_cons se_str (sa_cons se_str (sa_cons se_str (sa_cons se_str (sa_cons se_str sa_nil)))))))))) sa_nil))) (sg_nm 3 nd))
    (sb_cons (ss_if (st_w (sw_and (st_cmp (op_eqD hr.units) ref_eq (se_var 3) se_str) (sw_and1 (st_cmp op_gt ref_gt (se_var 2) se_int)))) (sb_cons (ss_ret (se_tup (sa_cons se_str (sa_cons (se_call c__law_pick hr rfl (sa_cons (se_var 0) (sa_cons (se_var 2) sa_nil))) sa_nil))))
    sb_nil) sb_nil)
    (sb_cons (ss_if (st_w (sw_or (st_cmp op_lt ref_lt (se_var 1) se_int) (sw_or1 (st_cmp op_in_seq ref_in (se_var 3) (se_lst (sa_cons se_str (sa_cons se_str (sa_cons se_str sa_nil)))))))) (sb_cons (ss_ret (se_if (st_cmp (op_eqD hr.units) ref_eq (se_var 3) se_str) (se_tup (sa_cons se_str sa_nil)) (se_tup (sa_cons se_str sa_nil))))
    sb_nil) sb_nil)
    (sb_cons (ss_if (st_cmp (op_eqD hr.units) ref_eq (se_var 3) se_str) (sb_cons (ss_ret (se_tup (sa_cons se_str (sa_cons (se_callTy call_tuple_of ref_tuple rfl T.tuple_ (sa_cons (se_comp [("_law_turn", 5)] 1000000 rfl nd (blkOk_by (by with_unfolding_all rfl)) (by decide) (si_rng1 rfl T.range_ (sa_cons (se_op or_add ref_add se_int (se_call c__law_pick hr rfl (sa_cons (se_var 0) (sa_cons se_int sa_nil)))) sa_nil)) (fun _ _ _ _ _ => (sg_nm 5 nd)) (fun _ _ _ _ _ => sts_nil) (fun _ _ _ _ _ => (se_call c__law_any_kind hr rfl (sa_cons (se_var 0) (sa_cons (se_op op_sub ref_sub (se_var 1) se_int) (sa_cons (se_var 2) sa_nil)))))) sa_nil)) sa_nil))))
    sb_nil) sb_nil)
    (sb_cons (ss_if (st_cmp (op_eqD hr.units) ref_eq (se_var 3) se_str) (sb_cons (ss_set (se_callTy call_tuple_of ref_tuple rfl T.tuple_ (sa_cons (se_comp [("_law_turn", 5)] 1000000 rfl nd (blkOk_by (by with_unfolding_all rfl)) (by decide) (si_rng1 rfl T.range_ (sa_cons (se_call c__law_pick hr rfl (sa_cons (se_var 0) (sa_cons se_int sa_nil))) sa_nil)) (fun _ _ _ _ _ => (sg_nm 5 nd)) (fun _ _ _ _ _ => sts_nil) (fun _ _ _ _ _ => (se_call c__law_any_kind hr rfl (sa_cons (se_var 0) (sa_cons (se_op op_sub ref_sub (se_var 1) se_int) (sa_cons (se_var 2) sa_nil)))))) sa_nil)) (sg_nm 4 nd))
    (sb_cons (ss_ret (se_tup (sa_cons se_str (sa_cons (se_call c__law_pick hr rfl (sa_cons (se_var 0) (sa_cons se_int sa_nil))) (sa_cons (se_var 4) sa_nil)))))
    sb_nil)) sb_nil)
    (sb_cons (ss_if (st_cmp (op_eqD hr.units) ref_eq (se_var 3) se_str) (sb_cons (ss_set (se_callTy call_tuple_of ref_tuple rfl T.tuple_ (sa_cons (se_comp [("_law_turn", 5)] 1000000 rfl nd (blkOk_by (by with_unfolding_all rfl)) (by decide) (si_rng1 rfl T.range_ (sa_cons (se_op or_add ref_add se_int (se_call c__law_pick hr rfl (sa_cons (se_var 0) (sa_cons se_int sa_nil)))) sa_nil)) (fun _ _ _ _ _ => (sg_nm 5 nd)) (fun _ _ _ _ _ => sts_nil) (fun _ _ _ _ _ => (se_call c__law_any_kind hr rfl (sa_cons (se_var 0) (sa_cons (se_op op_sub ref_sub (se_var 1) se_int) (sa_cons (se_var 2) sa_nil)))))) sa_nil)) (sg_nm 4 nd))
    (sb_cons (ss_ret (se_tup (sa_cons se_str (sa_cons (se_var 4) (sa_cons (se_call c__law_any_kind hr rfl (sa_cons (se_var 0) (sa_cons (se_op op_sub ref_sub (se_var 1) se_int) (sa_cons (se_var 2) sa_nil)))) sa_nil)))))
    sb_nil)) sb_nil)
    (sb_cons (ss_ret (se_tup (sa_cons se_str (sa_cons (se_call c__law_any_kind hr rfl (sa_cons (se_var 0) (sa_cons (se_op op_sub ref_sub (se_var 1) se_int) (sa_cons (se_var 2) sa_nil)))) sa_nil))))
    sb_nil)))))))
/-! ### _law_changed -/
abbrev s__law_changed : Stmt := top 37
abbrev n__law_changed : List Str := ["_law_bag_here", "_law_thing", "_law_odd_here", "_law_deep_here", "_law_at", "_law_way"]
theorem sc__law_changed : FnScope n__law_changed ["_law_bag_here", "_law_thing", "_law_odd_here", "_law_deep_here"] (defScope s__law_changed) := ⟨rfl, rfl, rfl, by decide +kernel, rfl, by decide +kernel, by decide +kernel⟩
def G__law_changed (Fd : List W → M W) : List W → M W := fnM 4 6 (bCons (sIf (tOrM (tNotM (tVal (eCall bIsi (aCons (eVar 1) (aCons (eC (.ext (.ty "tuple"))) aNil))))) (tOrM (tBl (eOp fEq (eCall bLen (aCons (eVar 1) aNil)) (eC (.int 0)))) (tOrM (tBl (eOp fEq (eVar 3) (eC (.int 0)))) (tBl (eOp fEq (eCall F__law_pick (aCons (eVar 0) (aCons (eC (.int 5)) aNil))) (eC (.int 0))))))) (bCons (sRet (eVar 2))
    bNil) bNil)
    (bCons (sSet (.nm 4) (eCall F__law_pick (aCons (eVar 0) (aCons (eCall bLen (aCons (eVar 1) aNil)) aNil))))
    (bCons (sSet (.nm 5) (eCall F__law_pick (aCons (eVar 0) (aCons (eC (.int 12)) aNil))))
    (bCons (sIf (tBl (eOp fEq (eVar 5) (eC (.int 0)))) (bCons (sRet (eOp fAdd (eSl (eVar 1) oNone (oSome (eVar 4))) (eSl (eVar 1) (oSome (eOp fAdd (eVar 4) (eC (.int 1)))) oNone)))
    bNil) bNil)
    (bCons (sIf (tBl (eOp fEq (eVar 5) (eC (.int 1)))) (bCons (sRet (eOp fAdd (eOp fAdd (eSl (eVar 1) oNone (oSome (eVar 4))) (eSl (eVar 1) (oSome (eVar 4)) (oSome (eOp fAdd (eVar 4) (eC (.int 1)))))) (eSl (eVar 1) (oSome (eVar 4)) oNone)))
    bNil) bNil)
    (bCons (sRet (eOp fAdd (eOp fAdd (eSl (eVar 1) oNone (oSome (eVar 4))) (eTup (aCons (eCall Fd (aCons (eVar 0) (aCons (eOp fIx (eVar 1) (eVar 4)) (aCons (eVar 2) (aCons (eOp fSub (eVar 3) (eC (.int 1))) aNil))))) aNil))) (eSl (eVar 1) (oSome (eOp fAdd (eVar 4) (eC (.int 1)))) oNone)))
    bNil))))))
def F__law_changed : Nat → List W → M W
  | 0 => fnM 4 6 sNever
  | d + 1 => G__law_changed (F__law_changed d)
theorem ok__law_changed {f : Addr} {fd : FuncData} (T : Txt K w mg) (F : Fun K "_law_changed" "_law_changed" s__law_changed f fd) (hm : mg "_law_changed" = some (.ref f)) (b : Binds K fd ["_law_bag_here", "_law_thing", "_law_odd_here", "_law_deep_here"] []) (c__law_pick : CallOk P w K mg base "_law_pick" 1 2 F__law_pick) : ∀ d, CallOk P w K mg base "_law_changed" (2 + d) 4 (F__law_changed d)
  | 0 => call_ok (k := 1) F hm sc__law_changed b fun _ _ _ _ _ _ _ => sb_never
  | d + 1 => by
    have c__law_changed := ok__law_changed T F hm b c__law_pick d
    have c__law_pick := c__law_pick.mono (k := 1) (j := (2 + d)) (by omega); 
    refine call_ok (k := 2 + d) F hm sc__law_changed b fun cdv A outer s H E hr => ?_
    have nd := sc__law_changed.nd
    exact (sb_cons (ss_if (st_w (sw_or (st_not (st_val (se_callB call_isi ref_isi rfl T.isinstance_ (sa_cons (se_var 1) (sa_cons (se_ty rfl T.tuple_) sa_nil))))) (sw_or (st_cmp (op_eqD hr.units) ref_eq (se_callB call_len_seq ref_len rfl T.len_ (sa_cons (se_var 1) sa_nil)) se_int) (sw_or (st_cmp (op_eqD hr.units) ref_eq (se_var 3) se_int) (sw_or1 (st_cmp (op_eqD hr.units) ref_eq (se_call c__law_pick hr rfl (sa_cons (se_var 0) (sa_cons se_int sa_nil))) se_int)))))) (sb_cons (ss_ret (se_var 2))
    sb_nil) sb_nil)
    (sb_cons (ss_set (se_call c__law_pick hr rfl (sa_cons (se_var 0) (sa_cons (se_callB call_len_seq ref_len rfl T.len_ (sa_cons (se_var 1) sa_nil)) sa_nil))) (sg_nm 4 nd))
    (sb_cons (ss_set (se_call c__law_pick hr rfl (sa_cons (se_var 0) (sa_cons se_int sa_nil))) (sg_nm 5 nd))
    (sb_cons (ss_if (st_cmp (op_eqD hr.units) ref_eq (se_var 5) se_int) (sb_cons (ss_ret (se_op or_add ref_add (se_slice (se_var 1) so_none (so_some (se_var 4))) (se_slice (se_var 1) (so_some (se_op or_add ref_add (se_var 4) se_int)) so_none)))
    sb_nil) sb_nil)
    (sb_cons (ss_if (st_cmp (op_eqD hr.units) ref_eq (se_var 5) se_int) (sb_cons (ss_ret (se_op or_add ref_add (se_op or_add ref_add (se_slice (se_var 1) so_none (so_some (se_var 4))) (se_slice (se_var 1) (so_some (se_var 4)) (so_some (se_op or_add ref_add (se_var 4) se_int)))) (se_slice (se_var 1) (so_some (se_var 4)) so_none)))
    sb_nil) sb_nil)
    (sb_cons (ss_ret (se_op or_add ref_add (se_op or_add ref_add (se_slice (se_var 1) so_none (so_some (se_var 4))) (se_tup (sa_cons (se_call c__law_changed hr rfl (sa_cons (se_var 0) (sa_cons (se_ix (se_var 1) (se_var 4)) (sa_cons (se_var 2) (sa_cons (se_op op_sub ref_sub (se_var 3) se_int) sa_nil))))) sa_nil))) (se_slice (se_var 1) (so_some (se_op or_add ref_add (se_var 4) se_int)) so_none)))
    sb_nil))))))
/-! ### _law_goes_with -/
abbrev s__law_goes_with : Stmt := top 38
abbrev n__law_goes_with : List Str := ["_law_kind", "_law_closed", "_law_found", "_law_one", "_law_other", "_law_item", "_law_there"]
theorem sc__law_goes_with : FnScope n__law_goes_with ["_law_kind", "_law_closed", "_law_found"] (defScope s__law_goes_with) := ⟨rfl, rfl, rfl, by decide +kernel, rfl, by decide +kernel, by decide +kernel⟩
def ct1__law_goes_with (Fd : List W → M W) : TM := tYesM
def ce1__law_goes_with (Fd : List W → M W) : EM := (eCall Fd (aCons (eVar 5) (aCons (eVar 6) (aCons (eVar 2) aNil))))
def G__law_goes_with (Fd : List W → M W) : List W → M W := fnM 3 7 (bCons (sIf (tBl (eOp fEq (eOp fIx (eVar 0) (eC (.int 0))) (eC (.str "letter")))) (bCons (sIf (tBl (eOp fDIn (eOp fIx (eVar 0) (eC (.int 1))) (eVar 2))) (bCons (sRet (eOp fEq (eOp fDGet (eVar 2) (eOp fIx (eVar 0) (eC (.int 1)))) (eVar 1)))
    bNil) bNil)
    (bCons (sDSet (eVar 2) (eOp fIx (eVar 0) (eC (.int 1))) (eVar 1))
    (bCons (sRet (eC (.bl true)))
    bNil))) bNil)
    (bCons (sPar 3 4 (aCons (eCall F__law_inner (aCons (eVar 0) aNil)) (aCons (eCall F__law_inner (aCons (eVar 1) aNil)) aNil)))
    (bCons (sIf (tOrM (tBl (eOp fNe (eOp fIx (eVar 0) (eC (.int 0))) (eOp fIx (eVar 1) (eC (.int 0))))) (tOrM (tBl (eOp fNe (eCall bLen (aCons (eVar 3) aNil)) (eCall bLen (aCons (eVar 4) aNil)))) (tAndM (tBl (eOp fEq (eOp fIx (eVar 0) (eC (.int 0))) (eC (.str "data")))) (tBl (eOp fNe (eOp fIx (eVar 0) (eC (.int 1))) (eOp fIx (eVar 1) (eC (.int 1)))))))) (bCons (sRet (eC (.bl false)))
    bNil) bNil)
    (bCons (sRet (eCall bAll (aCons (eComp (iZipB (aCons (eVar 3) (aCons (eVar 4) aNil))) (.tp [(.nm 5), (.nm 6)]) [5, 6] (ct1__law_goes_with Fd) (ce1__law_goes_with Fd) 1000000) aNil)))
    bNil))))
def F__law_goes_with : Nat → List W → M W
  | 0 => fnM 3 7 sNever
  | d + 1 => G__law_goes_with (F__law_goes_with d)
theorem ok__law_goes_with {f : Addr} {fd : FuncData} (T : Txt K w mg) (F : Fun K "_law_goes_with" "_law_goes_with" s__law_goes_with f fd) (hm : mg "_law_goes_with" = some (.ref f)) (b : Binds K fd ["_law_kind", "_law_closed", "_law_found"] []) (c__law_inner : CallOk P w K mg base "_law_inner" 1 1 F__law_inner) : ∀ d, CallOk P w K mg base "_law_goes_with" (2 + d) 3 (F__law_goes_with d)
  | 0 => call_ok (k := 1) F hm sc__law_goes_with b fun _ _ _ _ _ _ _ => sb_never
  | d + 1 => by
    have c__law_goes_with := ok__law_goes_with T F hm b c__law_inner d
    have c__law_inner := c__law_inner.mono (k := 1) (j := (2 + d)) (by omega); 
    refine call_ok (k := 2 + d) F hm sc__law_goes_with b fun cdv A outer s H E hr => ?_
    have nd := sc__law_goes_with.nd
    exact (sb_cons (ss_if (st_cmp (op_eqD hr.units) ref_eq (se_ix (se_var 0) se_int) se_str) (sb_cons (ss_if (st_din (hu_of hr) (se_ix (se_var 0) se_int) (se_var 2)) (sb_cons (ss_ret (se_cmp (op_eqD hr.units) ref_eq (se_dget (hu_of hr) (se_var 2) (se_ix (se_var 0) se_int)) (se_var 1)))
    sb_nil) sb_nil)
    (sb_cons (ss_dput (hu_of hr) (se_var 2) (se_ix (se_var 0) se_int) (se_var 1))
    (sb_cons (ss_ret se_bl)
    sb_nil))) sb_nil)
    (sb_cons (ss_par nd rfl (by decide) (sa_cons (se_call c__law_inner hr rfl (sa_cons (se_var 0) sa_nil)) (sa_cons (se_call c__law_inner hr rfl (sa_cons (se_var 1) sa_nil)) sa_nil)))
    (sb_cons (ss_if (st_w (sw_or (st_cmp (op_neD hr.units) ref_ne (se_ix (se_var 0) se_int) (se_ix (se_var 1) se_int)) (sw_or (st_cmp (op_neD hr.units) ref_ne (se_callB call_len_seq ref_len rfl T.len_ (sa_cons (se_var 3) sa_nil)) (se_callB call_len_seq ref_len rfl T.len_ (sa_cons (se_var 4) sa_nil))) (sw_or1 (st_w (sw_and (st_cmp (op_eqD hr.units) ref_eq (se_ix (se_var 0) se_int) se_str) (sw_and1 (st_cmp (op_neD hr.units) ref_ne (se_ix (se_var 0) se_int) (se_ix (se_var 1) se_int))))))))) (sb_cons (ss_ret se_bl)
    sb_nil) sb_nil)
    (sb_cons (ss_ret (se_callB (cr_all rfl) ref_all rfl T.all_ (sa_cons (se_comp [("_law_item", 5), ("_law_there", 6)] 1000000 rfl nd (blkOk_by (by with_unfolding_all rfl)) (by decide) (si_zipB rfl T.zip_ (sa_cons (se_var 3) (sa_cons (se_var 4) sa_nil))) (fun _ _ _ _ _ => (sg_tp rfl (sgs_cons (sg_nm 5 nd) (sgs_cons (sg_nm 6 nd) sgs_nil)))) (fun _ _ _ _ _ => sts_nil) (fun _ _ _ _ _ => (se_call c__law_goes_with hr rfl (sa_cons (se_var 5) (sa_cons (se_var 6) (sa_cons (se_var 2) sa_nil)))))) sa_nil)))
    sb_nil))))
/-! ### _law_odd -/
abbrev s__law_odd : Stmt := top 39
abbrev n__law_odd : List Str := ["_law_bag_here", "_law_odd_here"]
theorem sc__law_odd : FnScope n__law_odd ["_law_bag_here"] (defScope s__law_odd) := ⟨rfl, rfl, rfl, by decide +kernel, rfl, by decide +kernel, by decide +kernel⟩
def F__law_odd : List W → M W := fnM 1 2 (bCons (sSet (.nm 1) (eLst (aCons (eC .non) (aCons (eC (.str "num")) (aCons (eTup (aCons (eC (.str "num")) (aCons (eC (.int 0)) aNil))) (aCons (eLst (aCons (eC (.str "num")) aNil)) (aCons (eTup (aCons (eC (.str "row")) (aCons (eTup aNil) aNil))) (aCons (eTup (aCons (eC (.str "row")) (aCons (eOp fMulA (eTup (aCons (eTup (aCons (eC (.str "num")) aNil)) aNil)) (eC (.int 5))) aNil))) (aCons (eTup (aCons (eC (.str "row")) (aCons (eLst (aCons (eTup (aCons (eC (.str "num")) aNil)) aNil)) aNil))) (aCons (eTup (aCons (eC (.str "row")) aNil)) aNil))))))))))
    (bCons (sSet (.nm 1) (eOp fAdd (eVar 1) (eLst (aCons (eTup (aCons (eC (.str "data")) (aCons (eUn fNeg (eC (.int 1))) (aCons (eTup aNil) aNil)))) (aCons (eTup (aCons (eC (.str "data")) (aCons (eC (.bl true)) (aCons (eTup aNil) aNil)))) (aCons (eTup (aCons (eC (.str "data")) (aCons (eC (.int 0)) (aCons (eLst (aCons (eTup (aCons (eC (.str "nil")) aNil)) aNil)) aNil)))) (aCons (eTup (aCons (eC (.str "data")) (aCons (eC (.int 0)) aNil))) (aCons (eTup (aCons (eC (.str "fun")) (aCons (eTup aNil) (aCons (eTup (aCons (eC (.str "num")) aNil)) aNil)))) aNil))))))))
    (bCons (sSet (.nm 1) (eOp fAdd (eVar 1) (eLst (aCons (eTup (aCons (eC (.str "fun")) (aCons (eOp fMulA (eTup (aCons (eTup (aCons (eC (.str "num")) aNil)) aNil)) (eC (.int 4))) (aCons (eTup (aCons (eC (.str "num")) aNil)) aNil)))) (aCons (eTup (aCons (eC (.str "fun")) (aCons (eTup (aCons (eC (.str "num")) aNil)) (aCons (eTup (aCons (eC (.str "num")) aNil)) aNil)))) (aCons (eTup (aCons (eC (.str "box")) aNil)) (aCons (eTup (aCons (eC (.str "box")) (aCons (eTup (aCons (eC (.str "num")) aNil)) (aCons (eTup (aCons (eC (.str "num")) aNil)) aNil)))) aNil)))))))
    (bCons (sSet (.nm 1) (eOp fAdd (eVar 1) (eLst (aCons (eTup (aCons (eC (.str "letter")) (aCons (eUn fNeg (eC (.int 1))) aNil))) (aCons (eTup (aCons (eC (.str "letter")) (aCons (eC (.bl true)) aNil))) (aCons (eTup (aCons (eC (.str "letter")) aNil)) (aCons (eTup (aCons (eC (.str "thing")) aNil)) (aCons (eTup aNil) (aCons (eC (.int 0)) (aCons (eC (.bl true)) (aCons eDict0 (aCons (eCall F__law_deep aNil) (aCons (eTup (aCons (eC (.str "nil")) aNil)) aNil)))))))))))))
    (bCons (sSet (.nm 1) (eOp fAdd (eVar 1) (eLst (aCons (eTup (aCons (eC (.str "letter")) (aCons (eC (.int 2)) aNil))) (aCons (eTup (aCons (eC (.str "row")) (aCons (eTup (aCons (eTup (aCons (eC (.str "nil")) aNil)) aNil)) aNil))) (aCons (eTup (aCons (eC (.str "box")) (aCons (eTup (aCons (eC (.str "letter")) (aCons (eC (.int 0)) aNil))) aNil))) (aCons (eTup (aCons (eC (.str "data")) (aCons (eOp fPow (eC (.int 10)) (eC (.int 30))) (aCons (eTup aNil) aNil)))) aNil)))))))
    (bCons (sRet (eCall F__law_some (aCons (eVar 0) (aCons (eVar 1) aNil))))
    bNil))))))
theorem ok__law_odd {f : Addr} {fd : FuncData} (T : Txt K w mg) (F : Fun K "_law_odd" "_law_odd" s__law_odd f fd) (hm : mg "_law_odd" = some (.ref f)) (b : Binds K fd ["_law_bag_here"] []) (c__law_deep : CallOk P w K mg base "_law_deep" 1 0 F__law_deep) (c__law_some : CallOk P w K mg base "_law_some" 2 2 F__law_some) : CallOk P w K mg base "_law_odd" 3 1 F__law_odd := by
  have c__law_deep := c__law_deep.mono (k := 1) (j := 2) (by omega); have c__law_some := c__law_some.mono (k := 2) (j := 2) (by omega); 
  refine call_ok (k := 2) F hm sc__law_odd b fun cdv A outer s H E hr => ?_
  have nd := sc__law_odd.nd
  exact (sb_cons (ss_set (se_lst (sa_cons se_non (sa_cons se_str (sa_cons (se_tup (sa_cons se_str (sa_cons se_int sa_nil))) (sa_cons (se_lst (sa_cons se_str sa_nil)) (sa_cons (se_tup (sa_cons se_str (sa_cons (se_tup sa_nil) sa_nil))) (sa_cons (se_tup (sa_cons se_str (sa_cons (se_op or_mul ref_mul (se_tup (sa_cons (se_tup (sa_cons se_str sa_nil)) sa_nil)) se_int) sa_nil))) (sa_cons (se_tup (sa_cons se_str (sa_cons (se_lst (sa_cons (se_tup (sa_cons se_str sa_nil)) sa_nil)) sa_nil))) (sa_cons (se_tup (sa_cons se_str sa_nil)) sa_nil))))))))) (sg_nm 1 nd))
    (sb_cons (ss_set (se_op or_add ref_add (se_var 1) (se_lst (sa_cons (se_tup (sa_cons se_str (sa_cons (se_un un_neg ref_neg se_int) (sa_cons (se_tup sa_nil) sa_nil)))) (sa_cons (se_tup (sa_cons se_str (sa_cons se_bl (sa_cons (se_tup sa_nil) sa_nil)))) (sa_cons (se_tup (sa_cons se_str (sa_cons se_int (sa_cons (se_lst (sa_cons (se_tup (sa_cons se_str sa_nil)) sa_nil)) sa_nil)))) (sa_cons (se_tup (sa_cons se_str (sa_cons se_int sa_nil))) (sa_cons (se_tup (sa_cons se_str (sa_cons (se_tup sa_nil) (sa_cons (se_tup (sa_cons se_str sa_nil)) sa_nil)))) sa_nil))))))) (sg_nm 1 nd))
    (sb_cons (ss_set (se_op or_add ref_add (se_var 1) (se_lst (sa_cons (se_tup (sa_cons se_str (sa_cons (se_op or_mul ref_mul (se_tup (sa_cons (se_tup (sa_cons se_str sa_nil)) sa_nil)) se_int) (sa_cons (se_tup (sa_cons se_str sa_nil)) sa_nil)))) (sa_cons (se_tup (sa_cons se_str (sa_cons (se_tup (sa_cons se_str sa_nil)) (sa_cons (se_tup (sa_cons se_str sa_nil)) sa_nil)))) (sa_cons (se_tup (sa_cons se_str sa_nil)) (sa_cons (se_tup (sa_cons se_str (sa_cons (se_tup (sa_cons se_str sa_nil)) (sa_cons (se_tup (sa_cons se_str sa_nil)) sa_nil)))) sa_nil)))))) (sg_nm 1 nd))
    (sb_cons (ss_set (se_op or_add ref_add (se_var 1) (se_lst (sa_cons (se_tup (sa_cons se_str (sa_cons (se_un un_neg ref_neg se_int) sa_nil))) (sa_cons (se_tup (sa_cons se_str (sa_cons se_bl sa_nil))) (sa_cons (se_tup (sa_cons se_str sa_nil)) (sa_cons (se_tup (sa_cons se_str sa_nil)) (sa_cons (se_tup sa_nil) (sa_cons se_int (sa_cons se_bl (sa_cons se_dict0 (sa_cons (se_call0 c__law_deep hr rfl) (sa_cons (se_tup (sa_cons se_str sa_nil)) sa_nil)))))))))))) (sg_nm 1 nd))
    (sb_cons (ss_set (se_op or_add ref_add (se_var 1) (se_lst (sa_cons (se_tup (sa_cons se_str (sa_cons se_int sa_nil))) (sa_cons (se_tup (sa_cons se_str (sa_cons (se_tup (sa_cons (se_tup (sa_cons se_str sa_nil)) sa_nil)) sa_nil))) (sa_cons (se_tup (sa_cons se_str (sa_cons (se_tup (sa_cons se_str (sa_cons se_int sa_nil))) sa_nil))) (sa_cons (se_tup (sa_cons se_str (sa_cons (se_op op_pow ref_pow se_int se_int) (sa_cons (se_tup sa_nil) sa_nil)))) sa_nil)))))) (sg_nm 1 nd))
    (sb_cons (ss_ret (se_call c__law_some hr rfl (sa_cons (se_var 0) (sa_cons (se_var 1) sa_nil))))
    sb_nil))))))
/-! ### law -/
abbrev s_law : Stmt := top 40
abbrev n_law : List Str := ["_law_script", "_law_bag_here", "_law_turn", "_law_kind", "_law_lot", "_law_kinds", "_law_closed", "_law_whole", "_law_due", "_law_letter", "_law_told", "_law_other", "_law_bent", "_law_found", "_law_again", "_law_thing"]
theorem sc_law : FnScope n_law ["_law_script"] (defScope s_law) := ⟨rfl, rfl, rfl, by decide +kernel, rfl, by decide +kernel, by decide +kernel⟩
def ct1_law : TM := tYesM
def ce1_law : EM := (eCall (F__law_any_kind 40) (aCons (eVar 1) (aCons (eC (.int 3)) (aCons (eC (.int 3)) aNil))))
def ct2_law : TM := tYesM
def ce2_law : EM := (eCall (F__law_any_kind 40) (aCons (eVar 1) (aCons (eC (.int 3)) (aCons (eC (.int 0)) aNil))))
def fb3_law : SM := (bCons (sDSet (eVar 8) (eVar 9) (eOp fIx (eVar 6) (eVar 9)))
    bNil)
def fb4_law : SM := (bCons (sSet (.nm 15) (eCall (F__law_changed 40) (aCons (eVar 1) (aCons (eVar 3) (aCons (eCall F__law_odd (aCons (eVar 1) aNil)) (aCons (eC (.int 9)) aNil))))))
    (bCons (sIf (tNotM (tVal (eCall F__law_is_flag (aCons (eCall F_is_kind (aCons (eVar 15) aNil)) (aCons (eCall F__law_is_kind (aCons (eVar 15) aNil)) aNil))))) (bCons (sRet (eC (.bl false)))
    bNil) bNil)
    bNil))
def fb5_law : SM := (bCons (sSet (.nm 3) (eCall (F__law_any_kind 40) (aCons (eVar 1) (aCons (eOp fAdd (eC (.int 1)) (eCall F__law_pick (aCons (eVar 1) (aCons (eC (.int 5)) aNil)))) (aCons (eC (.int 4)) aNil)))))
    (bCons (sSet (.nm 4) (eCall F__law_letters (aCons (eVar 3) aNil)))
    (bCons (sIf (tOrM (tNotM (tVal (eCall F__law_is_flag (aCons (eCall F_is_kind (aCons (eVar 3) aNil)) (aCons (eC (.bl true)) aNil))))) (tNotM (tVal (eCall (F__law_is 40) (aCons (eCall F_letters_in (aCons (eVar 3) aNil)) (aCons (eVar 4) aNil)))))) (bCons (sRet (eC (.bl false)))
    bNil) bNil)
    (bCons (sSet (.nm 5) (eCall bTuple (aCons (eComp (iRng1M (aCons (eOp fAdd (eC (.int 4)) (eCall F__law_pick (aCons (eVar 1) (aCons (eC (.int 2)) aNil)))) aNil)) (.nm 2) [2] ct1_law ce1_law 1000000) aNil)))
    (bCons (sIf (tOrM (tNotM (tVal (eCall (F__law_is 40) (aCons (eCall F_filled (aCons (eVar 3) (aCons (eVar 5) aNil))) (aCons (eCall (F__law_put 40) (aCons (eVar 3) (aCons (eVar 5) aNil))) aNil))))) (tBl (eOp fNe (eCall F_filled (aCons (eVar 3) (aCons (eVar 5) aNil))) (eCall (F__law_put 40) (aCons (eVar 3) (aCons (eVar 5) aNil)))))) (bCons (sRet (eC (.bl false)))
    bNil) bNil)
    (bCons (sSet (.nm 6) (eCall bTuple (aCons (eComp (iRng1M (aCons (eC (.int 4)) aNil)) (.nm 2) [2] ct2_law ce2_law 1000000) aNil)))
    (bCons (sSet (.nm 7) (eCall (F__law_put 40) (aCons (eVar 3) (aCons (eVar 6) aNil))))
    (bCons (sSet (.nm 8) eDict0)
    (bCons (sFor (iSeq (eVar 4)) (.nm 9) fb3_law 1000000)
    (bCons (sSet (.nm 10) (eCall F_matched (aCons (eVar 3) (aCons (eVar 7) aNil))))
    (bCons (sIf (tOrM (tNotM (tVal (eCall bIsi (aCons (eVar 10) (aCons (eC (.ext (.ty "dict"))) aNil))))) (tOrM (tBl (eOp fNeDict (eVar 10) (eVar 8))) (tNotM (tVal (eCall (F__law_is 40) (aCons (eCall F_filled (aCons (eVar 3) (aCons (eVar 6) aNil))) (aCons (eVar 7) aNil))))))) (bCons (sRet (eC (.bl false)))
    bNil) bNil)
    (bCons (sSet (.nm 11) (eCall (F__law_any_kind 40) (aCons (eVar 1) (aCons (eOp fAdd (eC (.int 1)) (eCall F__law_pick (aCons (eVar 1) (aCons (eC (.int 4)) aNil)))) (aCons (eC (.int 0)) aNil)))))
    (bCons (sIf (tBl (eOp fEq (eCall F__law_pick (aCons (eVar 1) (aCons (eC (.int 2)) aNil))) (eC (.int 0)))) (bCons (sSet (.nm 12) (eCall (F__law_changed 40) (aCons (eVar 1) (aCons (eVar 7) (aCons (eTup (aCons (eC (.str "num")) aNil)) (aCons (eC (.int 8)) aNil))))))
    (bCons (sSet (.nm 11) (eIf (tVal (eCall F__law_is_kind (aCons (eVar 12) aNil))) (eVar 12) (eVar 11)))
    bNil)) bNil)
    (bCons (sSet (.nm 13) eDict0)
    (bCons (sSet (.nm 8) (eIf (tVal (eCall (F__law_goes_with 40) (aCons (eVar 3) (aCons (eVar 11) (aCons (eVar 13) aNil))))) (eVar 13) (eC .non)))
    (bCons (sIf (tBl (eOp fNeDict (eCall F_matched (aCons (eVar 3) (aCons (eVar 11) aNil))) (eVar 8))) (bCons (sRet (eC (.bl false)))
    bNil) bNil)
    (bCons (sFor (iRng1M (aCons (eC (.int 4)) aNil)) (.nm 14) fb4_law 1000000)
    bNil)))))))))))))))))
def F_law : List W → M W := fnM 1 16 (bCons (sSet (.nm 1) (eCall F__law_bag (aCons (eVar 0) aNil)))
    (bCons (sFor (iRng1M (aCons (eC (.int 3)) aNil)) (.nm 2) fb5_law 1000000)
    (bCons (sRet (eOp fIsB (eCall F_is_kind (aCons (eCall F__law_deep aNil) aNil)) (eC (.bl false))))
    bNil)))
theorem ok_law {f : Addr} {fd : FuncData} (T : Txt K w mg) (F : Fun K "law" "law" s_law f fd) (hm : mg "law" = some (.ref f)) (b : Binds K fd ["_law_script"] []) (c_is_kind : CallOk P w K mg base "is_kind" 4 1 F_is_kind) (c_letters_in : CallOk P w K mg base "letters_in" 5 1 F_letters_in) (c_filled : CallOk P w K mg base "filled" 6 2 F_filled) (c_matched : CallOk P w K mg base "matched" 6 2 F_matched) (c__law_bag : CallOk P w K mg base "_law_bag" 1 1 F__law_bag) (c__law_pick : CallOk P w K mg base "_law_pick" 1 2 F__law_pick) (c__law_put : CallOk P w K mg base "_law_put" 42 2 (F__law_put 40)) (c__law_is_flag : CallOk P w K mg base "_law_is_flag" 1 2 F__law_is_flag) (c__law_is : CallOk P w K mg base "_law_is" 41 2 (F__law_is 40)) (c__law_deep : CallOk P w K mg base "_law_deep" 1 0 F__law_deep) (c__law_is_kind : CallOk P w K mg base "_law_is_kind" 3 1 F__law_is_kind) (c__law_letters : CallOk P w K mg base "_law_letters" 3 1 F__law_letters) (c__law_any_kind : CallOk P w K mg base "_law_any_kind" 43 3 (F__law_any_kind 40)) (c__law_changed : CallOk P w K mg base "_law_changed" 42 4 (F__law_changed 40)) (c__law_goes_with : CallOk P w K mg base "_law_goes_with" 42 3 (F__law_goes_with 40)) (c__law_odd : CallOk P w K mg base "_law_odd" 3 1 F__law_odd) : FnOk P w K mg base CX0 44 f fd ["_law_script"] (spM K 1 F_law) := by
  have c_is_kind := c_is_kind.mono (k := 4) (j := 43) (by omega); have c_letters_in := c_letters_in.mono (k := 5) (j := 43) (by omega); have c_filled := c_filled.mono (k := 6) (j := 43) (by omega); have c_matched := c_matched.mono (k := 6) (j := 43) (by omega); have c__law_bag := c__law_bag.mono (k := 1) (j := 43) (by omega); have c__law_pick := c__law_pick.mono (k := 1) (j := 43) (by omega); have c__law_put := c__law_put.mono (k := 42) (j := 43) (by omega); have c__law_is_flag := c__law_is_flag.mono (k := 1) (j := 43) (by omega); have c__law_is := c__law_is.mono (k := 41) (j := 43) (by omega); have c__law_deep := c__law_deep.mono (k := 1) (j := 43) (by omega); have c__law_is_kind := c__law_is_kind.mono (k := 3) (j := 43) (by omega); have c__law_letters := c__law_letters.mono (k := 3) (j := 43) (by omega); have c__law_any_kind := c__law_any_kind.mono (k := 43) (j := 43) (by omega); have c__law_changed := c__law_changed.mono (k := 42) (j := 43) (by omega); have c__law_goes_with := c__law_goes_with.mono (k := 42) (j := 43) (by omega); have c__law_odd := c__law_odd.mono (k := 3) (j := 43) (by omega); 
  refine def_ok (k := 43) F sc_law fun cdv A outer s H E hr => ?_
  have nd := sc_law.nd
  exact (sb_cons (ss_set (se_call c__law_bag hr rfl (sa_cons (se_var 0) sa_nil)) (sg_nm 1 nd))
    (sb_cons (ss_for 1000000 PassesOwn.never rfl (si_rng1 rfl T.range_ (sa_cons se_int sa_nil)) (sg_nm 2 nd) (sb_cons (ss_set (se_call c__law_any_kind hr rfl (sa_cons (se_var 1) (sa_cons (se_op or_add ref_add se_int (se_call c__law_pick hr rfl (sa_cons (se_var 1) (sa_cons se_int sa_nil)))) (sa_cons se_int sa_nil)))) (sg_nm 3 nd))
    (sb_cons (ss_set (se_call c__law_letters hr rfl (sa_cons (se_var 3) sa_nil)) (sg_nm 4 nd))
    (sb_cons (ss_if (st_w (sw_or (st_not (st_val (se_call c__law_is_flag hr rfl (sa_cons (se_call c_is_kind hr rfl (sa_cons (se_var 3) sa_nil)) (sa_cons se_bl sa_nil))))) (sw_or1 (st_not (st_val (se_call c__law_is hr rfl (sa_cons (se_call c_letters_in hr rfl (sa_cons (se_var 3) sa_nil)) (sa_cons (se_var 4) sa_nil)))))))) (sb_cons (ss_ret se_bl)
    sb_nil) sb_nil)
    (sb_cons (ss_set (se_callTy call_tuple_of ref_tuple rfl T.tuple_ (sa_cons (se_comp [("_law_turn", 2)] 1000000 rfl nd (blkOk_by (by with_unfolding_all rfl)) (by decide) (si_rng1 rfl T.range_ (sa_cons (se_op or_add ref_add se_int (se_call c__law_pick hr rfl (sa_cons (se_var 1) (sa_cons se_int sa_nil)))) sa_nil)) (fun _ _ _ _ _ => (sg_nm 2 nd)) (fun _ _ _ _ _ => sts_nil) (fun _ _ _ _ _ => (se_call c__law_any_kind hr rfl (sa_cons (se_var 1) (sa_cons se_int (sa_cons se_int sa_nil)))))) sa_nil)) (sg_nm 5 nd))
    (sb_cons (ss_if (st_w (sw_or (st_not (st_val (se_call c__law_is hr rfl (sa_cons (se_call c_filled hr rfl (sa_cons (se_var 3) (sa_cons (se_var 5) sa_nil))) (sa_cons (se_call c__law_put hr rfl (sa_cons (se_var 3) (sa_cons (se_var 5) sa_nil))) sa_nil))))) (sw_or1 (st_cmp (op_neD hr.units) ref_ne (se_call c_filled hr rfl (sa_cons (se_var 3) (sa_cons (se_var 5) sa_nil))) (se_call c__law_put hr rfl (sa_cons (se_var 3) (sa_cons (se_var 5) sa_nil))))))) (sb_cons (ss_ret se_bl)
    sb_nil) sb_nil)
    (sb_cons (ss_set (se_callTy call_tuple_of ref_tuple rfl T.tuple_ (sa_cons (se_comp [("_law_turn", 2)] 1000000 rfl nd (blkOk_by (by with_unfolding_all rfl)) (by decide) (si_rng1 rfl T.range_ (sa_cons se_int sa_nil)) (fun _ _ _ _ _ => (sg_nm 2 nd)) (fun _ _ _ _ _ => sts_nil) (fun _ _ _ _ _ => (se_call c__law_any_kind hr rfl (sa_cons (se_var 1) (sa_cons se_int (sa_cons se_int sa_nil)))))) sa_nil)) (sg_nm 6 nd))
    (sb_cons (ss_set (se_call c__law_put hr rfl (sa_cons (se_var 3) (sa_cons (se_var 6) sa_nil))) (sg_nm 7 nd))
    (sb_cons (ss_set se_dict0 (sg_nm 8 nd))
    (sb_cons (ss_for 1000000 PassesOwn.never rfl (si_seq (se_var 4)) (sg_nm 9 nd) (sb_cons (ss_dput (hu_of hr) (se_var 8) (se_var 9) (se_ix (se_var 6) (se_var 9)))
    sb_nil))
    (sb_cons (ss_set (se_call c_matched hr rfl (sa_cons (se_var 3) (sa_cons (se_var 7) sa_nil))) (sg_nm 10 nd))
    (sb_cons (ss_if (st_w (sw_or (st_not (st_val (se_callB call_isi ref_isi rfl T.isinstance_ (sa_cons (se_var 10) (sa_cons (se_ty rfl T.dict_) sa_nil))))) (sw_or (st_cmp (op_neDict (hu100 hr)) ref_neDict (se_var 10) (se_var 8)) (sw_or1 (st_not (st_val (se_call c__law_is hr rfl (sa_cons (se_call c_filled hr rfl (sa_cons (se_var 3) (sa_cons (se_var 6) sa_nil))) (sa_cons (se_var 7) sa_nil))))))))) (sb_cons (ss_ret se_bl)
    sb_nil) sb_nil)
    (sb_cons (ss_set (se_call c__law_any_kind hr rfl (sa_cons (se_var 1) (sa_cons (se_op or_add ref_add se_int (se_call c__law_pick hr rfl (sa_cons (se_var 1) (sa_cons se_int sa_nil)))) (sa_cons se_int sa_nil)))) (sg_nm 11 nd))
    (sb_cons (ss_if (st_cmp (op_eqD hr.units) ref_eq (se_call c__law_pick hr rfl (sa_cons (se_var 1) (sa_cons se_int sa_nil))) se_int) (sb_cons (ss_set (se_call c__law_changed hr rfl (sa_cons (se_var 1) (sa_cons (se_var 7) (sa_cons (se_tup (sa_cons se_str sa_nil)) (sa_cons se_int sa_nil))))) (sg_nm 12 nd))
    (sb_cons (ss_set (se_if (st_val (se_call c__law_is_kind hr rfl (sa_cons (se_var 12) sa_nil))) (se_var 12) (se_var 11)) (sg_nm 11 nd))
    sb_nil)) sb_nil)
    (sb_cons (ss_set se_dict0 (sg_nm 13 nd))
    (sb_cons (ss_set (se_if (st_val (se_call c__law_goes_with hr rfl (sa_cons (se_var 3) (sa_cons (se_var 11) (sa_cons (se_var 13) sa_nil))))) (se_var 13) se_non) (sg_nm 8 nd))
    (sb_cons (ss_if (st_cmp (op_neDict (hu100 hr)) ref_neDict (se_call c_matched hr rfl (sa_cons (se_var 3) (sa_cons (se_var 11) sa_nil))) (se_var 8)) (sb_cons (ss_ret se_bl)
    sb_nil) sb_nil)
    (sb_cons (ss_for 1000000 PassesOwn.never rfl (si_rng1 rfl T.range_ (sa_cons se_int sa_nil)) (sg_nm 14 nd) (sb_cons (ss_set (se_call c__law_changed hr rfl (sa_cons (se_var 1) (sa_cons (se_var 3) (sa_cons (se_call c__law_odd hr rfl (sa_cons (se_var 1) sa_nil)) (sa_cons se_int sa_nil))))) (sg_nm 15 nd))
    (sb_cons (ss_if (st_not (st_val (se_call c__law_is_flag hr rfl (sa_cons (se_call c_is_kind hr rfl (sa_cons (se_var 15) sa_nil)) (sa_cons (se_call c__law_is_kind hr rfl (sa_cons (se_var 15) sa_nil)) sa_nil))))) (sb_cons (ss_ret se_bl)
    sb_nil) sb_nil)
    sb_nil)))
    sb_nil))))))))))))))))))
    (sb_cons (ss_ret (se_cmp op_isBl ref_isB (se_call c_is_kind hr rfl (sa_cons (se_call0 c__law_deep hr rfl) sa_nil)) se_bl))
    sb_nil)))
end
end K01

set_option Elab.async false
set_option linter.all false
set_option maxRecDepth 100000
set_option maxHeartbeats 1000000
namespace K01
open PySem PySem.Spec L2 B
set_option autoImplicit false
theorem all_mk {l : PySem.W.OpenLaw} {w : World} {K : PySem.W.Frag} {h : Heap} {mg : Str → Option Value} {fa f0 f1 f2 f3 f4 f5 f6 f7 f8 f9 f10 f11 f12 f13 f14 f15 f16 f17 f18 f19 f20 f21 f22 f23 f24 f25 f26 f27 f28 f29 f30 f31 f32 f33 : Addr} (X : K.In h) (G : h.Ns mainGlobals mg) (hfa : mg "law" = some (.ref fa))
    {od0 an0 od1 an1 od2 an2 od3 an3 od4 an4 od5 an5 od6 an6 od7 an7 od8 an8 od9 an9 od10 an10 od11 an11 od12 an12 od13 an13 od14 an14 od15 an15 od16 an16 od17 an17 od18 an18 od19 an19 od20 an20 od21 an21 od22 an22 od23 an23 od24 an24 od25 an25 od26 an26 od27 an27 od28 an28 od29 an29 od30 an30 od31 an31 od32 an32 od33 an33 : Option Addr} {sl0 sl1 sl2 sl3 sl4 sl5 sl6 sl7 sl8 sl9 sl10 sl11 sl12 sl13 sl14 sl15 sl16 sl17 sl18 sl19 sl20 sl21 sl22 sl23 sl24 sl25 sl26 sl27 sl28 sl29 sl30 sl31 sl32 sl33 : Array (Option Value)} {oc0 kV0 dc0 pm0 cd0 ct0 oc1 kV1 dc1 pm1 cd1 ct1 oc2 kV2 dc2 pm2 cd2 ct2 oc3 kV3 dc3 pm3 cd3 ct3 oc4 kV4 dc4 pm4 cd4 ct4 oc5 kV5 dc5 pm5 cd5 ct5 oc6 kV6 dc6 pm6 cd6 ct6 oc7 kV7 dc7 pm7 cd7 ct7 oc8 kV8 dc8 pm8 cd8 ct8 oc9 kV9 dc9 pm9 cd9 ct9 oc10 kV10 dc10 pm10 cd10 ct10 oc11 kV11 dc11 pm11 cd11 ct11 oc12 kV12 dc12 pm12 cd12 ct12 oc13 kV13 dc13 pm13 cd13 ct13 oc14 kV14 dc14 pm14 cd14 ct14 oc15 kV15 dc15 pm15 cd15 ct15 oc16 kV16 dc16 pm16 cd16 ct16 oc17 kV17 dc17 pm17 cd17 ct17 oc18 kV18 dc18 pm18 cd18 ct18 oc19 kV19 dc19 pm19 cd19 ct19 oc20 kV20 dc20 pm20 cd20 ct20 oc21 kV21 dc21 pm21 cd21 ct21 oc22 kV22 dc22 pm22 cd22 ct22 oc23 kV23 dc23 pm23 cd23 ct23 oc24 kV24 dc24 pm24 cd24 ct24 oc25 kV25 dc25 pm25 cd25 ct25 oc26 kV26 dc26 pm26 cd26 ct26 oc27 kV27 dc27 pm27 cd27 ct27 oc28 kV28 dc28 pm28 cd28 ct28 oc29 kV29 dc29 pm29 cd29 ct29 oc30 kV30 dc30 pm30 cd30 ct30 oc31 kV31 dc31 pm31 cd31 ct31 oc32 kV32 dc32 pm32 cd32 ct32 oc33 kV33 dc33 pm33 cd33 ct33 : Value}
    (a0 : PySem.W.nsIn K mainGlobals "is_integer" = some (some (.ref f0)))
    (l0 : K.lookup f0 = some ⟨oc0, od0, .func (PySem.W.fnOf "is_integer" "is_integer" (defArgs s_is_integer) (defBody s_is_integer) (defScope s_is_integer) .none kV0 dc0 pm0 an0 cd0 ct0), sl0⟩)
    (c0 : PySem.W.codeIn K cd0 "is_integer" = true)
    (k0 : PySem.W.keepIn K (.ref f0) = true)
    (a1 : PySem.W.nsIn K mainGlobals "is_natural" = some (some (.ref f1)))
    (l1 : K.lookup f1 = some ⟨oc1, od1, .func (PySem.W.fnOf "is_natural" "is_natural" (defArgs s_is_natural) (defBody s_is_natural) (defScope s_is_natural) .none kV1 dc1 pm1 an1 cd1 ct1), sl1⟩)
    (c1 : PySem.W.codeIn K cd1 "is_natural" = true)
    (k1 : PySem.W.keepIn K (.ref f1) = true)
    (a2 : PySem.W.nsIn K mainGlobals "is_tuple" = some (some (.ref f2)))
    (l2 : K.lookup f2 = some ⟨oc2, od2, .func (PySem.W.fnOf "is_tuple" "is_tuple" (defArgs s_is_tuple) (defBody s_is_tuple) (defScope s_is_tuple) .none kV2 dc2 pm2 an2 cd2 ct2), sl2⟩)
    (c2 : PySem.W.codeIn K cd2 "is_tuple" = true)
    (k2 : PySem.W.keepIn K (.ref f2) = true)
    (a3 : PySem.W.nsIn K mainGlobals "has_outer_form" = some (some (.ref f3)))
    (l3 : K.lookup f3 = some ⟨oc3, od3, .func (PySem.W.fnOf "has_outer_form" "has_outer_form" (defArgs s_has_outer_form) (defBody s_has_outer_form) (defScope s_has_outer_form) .none kV3 dc3 pm3 an3 cd3 ct3), sl3⟩)
    (c3 : PySem.W.codeIn K cd3 "has_outer_form" = true)
    (k3 : PySem.W.keepIn K (.ref f3) = true)
    (a4 : PySem.W.nsIn K mainGlobals "kinds_within" = some (some (.ref f4)))
    (l4 : K.lookup f4 = some ⟨oc4, od4, .func (PySem.W.fnOf "kinds_within" "kinds_within" (defArgs s_kinds_within) (defBody s_kinds_within) (defScope s_kinds_within) .none kV4 dc4 pm4 an4 cd4 ct4), sl4⟩)
    (c4 : PySem.W.codeIn K cd4 "kinds_within" = true)
    (k4 : PySem.W.keepIn K (.ref f4) = true)
    (a5 : PySem.W.nsIn K mainGlobals "is_kind" = some (some (.ref f5)))
    (l5 : K.lookup f5 = some ⟨oc5, od5, .func (PySem.W.fnOf "is_kind" "is_kind" (defArgs s_is_kind) (defBody s_is_kind) (defScope s_is_kind) .none kV5 dc5 pm5 an5 cd5 ct5), sl5⟩)
    (c5 : PySem.W.codeIn K cd5 "is_kind" = true)
    (k5 : PySem.W.keepIn K (.ref f5) = true)
    (a6 : PySem.W.nsIn K mainGlobals "all_kinds" = some (some (.ref f6)))
    (l6 : K.lookup f6 = some ⟨oc6, od6, .func (PySem.W.fnOf "all_kinds" "all_kinds" (defArgs s_all_kinds) (defBody s_all_kinds) (defScope s_all_kinds) .none kV6 dc6 pm6 an6 cd6 ct6), sl6⟩)
    (c6 : PySem.W.codeIn K cd6 "all_kinds" = true)
    (k6 : PySem.W.keepIn K (.ref f6) = true)
    (a7 : PySem.W.nsIn K mainGlobals "letters_in" = some (some (.ref f7)))
    (l7 : K.lookup f7 = some ⟨oc7, od7, .func (PySem.W.fnOf "letters_in" "letters_in" (defArgs s_letters_in) (defBody s_letters_in) (defScope s_letters_in) .none kV7 dc7 pm7 an7 cd7 ct7), sl7⟩)
    (c7 : PySem.W.codeIn K cd7 "letters_in" = true)
    (k7 : PySem.W.keepIn K (.ref f7) = true)
    (a8 : PySem.W.nsIn K mainGlobals "with_kinds" = some (some (.ref f8)))
    (l8 : K.lookup f8 = some ⟨oc8, od8, .func (PySem.W.fnOf "with_kinds" "with_kinds" (defArgs s_with_kinds) (defBody s_with_kinds) (defScope s_with_kinds) .none kV8 dc8 pm8 an8 cd8 ct8), sl8⟩)
    (c8 : PySem.W.codeIn K cd8 "with_kinds" = true)
    (k8 : PySem.W.keepIn K (.ref f8) = true)
    (a9 : PySem.W.nsIn K mainGlobals "folded" = some (some (.ref f9)))
    (l9 : K.lookup f9 = some ⟨oc9, od9, .func (PySem.W.fnOf "folded" "folded" (defArgs s_folded) (defBody s_folded) (defScope s_folded) .none kV9 dc9 pm9 an9 cd9 ct9), sl9⟩)
    (c9 : PySem.W.codeIn K cd9 "folded" = true)
    (k9 : PySem.W.keepIn K (.ref f9) = true)
    (a10 : PySem.W.nsIn K mainGlobals "put_in" = some (some (.ref f10)))
    (l10 : K.lookup f10 = some ⟨oc10, od10, .func (PySem.W.fnOf "put_in" "put_in" (defArgs s_put_in) (defBody s_put_in) (defScope s_put_in) .none kV10 dc10 pm10 an10 cd10 ct10), sl10⟩)
    (c10 : PySem.W.codeIn K cd10 "put_in" = true)
    (k10 : PySem.W.keepIn K (.ref f10) = true)
    (a11 : PySem.W.nsIn K mainGlobals "are_kinds" = some (some (.ref f11)))
    (l11 : K.lookup f11 = some ⟨oc11, od11, .func (PySem.W.fnOf "are_kinds" "are_kinds" (defArgs s_are_kinds) (defBody s_are_kinds) (defScope s_are_kinds) .none kV11 dc11 pm11 an11 cd11 ct11), sl11⟩)
    (c11 : PySem.W.codeIn K cd11 "are_kinds" = true)
    (k11 : PySem.W.keepIn K (.ref f11) = true)
    (a12 : PySem.W.nsIn K mainGlobals "filled" = some (some (.ref f12)))
    (l12 : K.lookup f12 = some ⟨oc12, od12, .func (PySem.W.fnOf "filled" "filled" (defArgs s_filled) (defBody s_filled) (defScope s_filled) .none kV12 dc12 pm12 an12 cd12 ct12), sl12⟩)
    (c12 : PySem.W.codeIn K cd12 "filled" = true)
    (k12 : PySem.W.keepIn K (.ref f12) = true)
    (a13 : PySem.W.nsIn K mainGlobals "are_made_alike" = some (some (.ref f13)))
    (l13 : K.lookup f13 = some ⟨oc13, od13, .func (PySem.W.fnOf "are_made_alike" "are_made_alike" (defArgs s_are_made_alike) (defBody s_are_made_alike) (defScope s_are_made_alike) .none kV13 dc13 pm13 an13 cd13 ct13), sl13⟩)
    (c13 : PySem.W.codeIn K cd13 "are_made_alike" = true)
    (k13 : PySem.W.keepIn K (.ref f13) = true)
    (a14 : PySem.W.nsIn K mainGlobals "are_same" = some (some (.ref f14)))
    (l14 : K.lookup f14 = some ⟨oc14, od14, .func (PySem.W.fnOf "are_same" "are_same" (defArgs s_are_same) (defBody s_are_same) (defScope s_are_same) .none kV14 dc14 pm14 an14 cd14 ct14), sl14⟩)
    (c14 : PySem.W.codeIn K cd14 "are_same" = true)
    (k14 : PySem.W.keepIn K (.ref f14) = true)
    (a15 : PySem.W.nsIn K mainGlobals "matched" = some (some (.ref f15)))
    (l15 : K.lookup f15 = some ⟨oc15, od15, .func (PySem.W.fnOf "matched" "matched" (defArgs s_matched) (defBody s_matched) (defScope s_matched) .none kV15 dc15 pm15 an15 cd15 ct15), sl15⟩)
    (c15 : PySem.W.codeIn K cd15 "matched" = true)
    (k15 : PySem.W.keepIn K (.ref f15) = true)
    (a16 : PySem.W.nsIn K mainGlobals "_law_bag" = some (some (.ref f16)))
    (l16 : K.lookup f16 = some ⟨oc16, od16, .func (PySem.W.fnOf "_law_bag" "_law_bag" (defArgs s__law_bag) (defBody s__law_bag) (defScope s__law_bag) .none kV16 dc16 pm16 an16 cd16 ct16), sl16⟩)
    (c16 : PySem.W.codeIn K cd16 "_law_bag" = true)
    (k16 : PySem.W.keepIn K (.ref f16) = true)
    (a17 : PySem.W.nsIn K mainGlobals "_law_pick" = some (some (.ref f17)))
    (l17 : K.lookup f17 = some ⟨oc17, od17, .func (PySem.W.fnOf "_law_pick" "_law_pick" (defArgs s__law_pick) (defBody s__law_pick) (defScope s__law_pick) .none kV17 dc17 pm17 an17 cd17 ct17), sl17⟩)
    (c17 : PySem.W.codeIn K cd17 "_law_pick" = true)
    (k17 : PySem.W.keepIn K (.ref f17) = true)
    (a18 : PySem.W.nsIn K mainGlobals "_law_inner" = some (some (.ref f18)))
    (l18 : K.lookup f18 = some ⟨oc18, od18, .func (PySem.W.fnOf "_law_inner" "_law_inner" (defArgs s__law_inner) (defBody s__law_inner) (defScope s__law_inner) .none kV18 dc18 pm18 an18 cd18 ct18), sl18⟩)
    (c18 : PySem.W.codeIn K cd18 "_law_inner" = true)
    (k18 : PySem.W.keepIn K (.ref f18) = true)
    (a19 : PySem.W.nsIn K mainGlobals "_law_put" = some (some (.ref f19)))
    (l19 : K.lookup f19 = some ⟨oc19, od19, .func (PySem.W.fnOf "_law_put" "_law_put" (defArgs s__law_put) (defBody s__law_put) (defScope s__law_put) .none kV19 dc19 pm19 an19 cd19 ct19), sl19⟩)
    (c19 : PySem.W.codeIn K cd19 "_law_put" = true)
    (k19 : PySem.W.keepIn K (.ref f19) = true)
    (a20 : PySem.W.nsIn K mainGlobals "_law_is_flag" = some (some (.ref f20)))
    (l20 : K.lookup f20 = some ⟨oc20, od20, .func (PySem.W.fnOf "_law_is_flag" "_law_is_flag" (defArgs s__law_is_flag) (defBody s__law_is_flag) (defScope s__law_is_flag) .none kV20 dc20 pm20 an20 cd20 ct20), sl20⟩)
    (c20 : PySem.W.codeIn K cd20 "_law_is_flag" = true)
    (k20 : PySem.W.keepIn K (.ref f20) = true)
    (a21 : PySem.W.nsIn K mainGlobals "_law_is" = some (some (.ref f21)))
    (l21 : K.lookup f21 = some ⟨oc21, od21, .func (PySem.W.fnOf "_law_is" "_law_is" (defArgs s__law_is) (defBody s__law_is) (defScope s__law_is) .none kV21 dc21 pm21 an21 cd21 ct21), sl21⟩)
    (c21 : PySem.W.codeIn K cd21 "_law_is" = true)
    (k21 : PySem.W.keepIn K (.ref f21) = true)
    (a22 : PySem.W.nsIn K mainGlobals "_law_deep" = some (some (.ref f22)))
    (l22 : K.lookup f22 = some ⟨oc22, od22, .func (PySem.W.fnOf "_law_deep" "_law_deep" (defArgs s__law_deep) (defBody s__law_deep) (defScope s__law_deep) .none kV22 dc22 pm22 an22 cd22 ct22), sl22⟩)
    (c22 : PySem.W.codeIn K cd22 "_law_deep" = true)
    (k22 : PySem.W.keepIn K (.ref f22) = true)
    (a23 : PySem.W.nsIn K mainGlobals "_law_is_int" = some (some (.ref f23)))
    (l23 : K.lookup f23 = some ⟨oc23, od23, .func (PySem.W.fnOf "_law_is_int" "_law_is_int" (defArgs s__law_is_int) (defBody s__law_is_int) (defScope s__law_is_int) .none kV23 dc23 pm23 an23 cd23 ct23), sl23⟩)
    (c23 : PySem.W.codeIn K cd23 "_law_is_int" = true)
    (k23 : PySem.W.keepIn K (.ref f23) = true)
    (a24 : PySem.W.nsIn K mainGlobals "_law_has_form" = some (some (.ref f24)))
    (l24 : K.lookup f24 = some ⟨oc24, od24, .func (PySem.W.fnOf "_law_has_form" "_law_has_form" (defArgs s__law_has_form) (defBody s__law_has_form) (defScope s__law_has_form) .none kV24 dc24 pm24 an24 cd24 ct24), sl24⟩)
    (c24 : PySem.W.codeIn K cd24 "_law_has_form" = true)
    (k24 : PySem.W.keepIn K (.ref f24) = true)
    (a25 : PySem.W.nsIn K mainGlobals "_law_is_kind" = some (some (.ref f25)))
    (l25 : K.lookup f25 = some ⟨oc25, od25, .func (PySem.W.fnOf "_law_is_kind" "_law_is_kind" (defArgs s__law_is_kind) (defBody s__law_is_kind) (defScope s__law_is_kind) .none kV25 dc25 pm25 an25 cd25 ct25), sl25⟩)
    (c25 : PySem.W.codeIn K cd25 "_law_is_kind" = true)
    (k25 : PySem.W.keepIn K (.ref f25) = true)
    (a26 : PySem.W.nsIn K mainGlobals "_law_all_in" = some (some (.ref f26)))
    (l26 : K.lookup f26 = some ⟨oc26, od26, .func (PySem.W.fnOf "_law_all_in" "_law_all_in" (defArgs s__law_all_in) (defBody s__law_all_in) (defScope s__law_all_in) .none kV26 dc26 pm26 an26 cd26 ct26), sl26⟩)
    (c26 : PySem.W.codeIn K cd26 "_law_all_in" = true)
    (k26 : PySem.W.keepIn K (.ref f26) = true)
    (a27 : PySem.W.nsIn K mainGlobals "_law_letters" = some (some (.ref f27)))
    (l27 : K.lookup f27 = some ⟨oc27, od27, .func (PySem.W.fnOf "_law_letters" "_law_letters" (defArgs s__law_letters) (defBody s__law_letters) (defScope s__law_letters) .none kV27 dc27 pm27 an27 cd27 ct27), sl27⟩)
    (c27 : PySem.W.codeIn K cd27 "_law_letters" = true)
    (k27 : PySem.W.keepIn K (.ref f27) = true)
    (a28 : PySem.W.nsIn K mainGlobals "_law_some" = some (some (.ref f28)))
    (l28 : K.lookup f28 = some ⟨oc28, od28, .func (PySem.W.fnOf "_law_some" "_law_some" (defArgs s__law_some) (defBody s__law_some) (defScope s__law_some) .none kV28 dc28 pm28 an28 cd28 ct28), sl28⟩)
    (c28 : PySem.W.codeIn K cd28 "_law_some" = true)
    (k28 : PySem.W.keepIn K (.ref f28) = true)
    (a29 : PySem.W.nsIn K mainGlobals "_law_any_kind" = some (some (.ref f29)))
    (l29 : K.lookup f29 = some ⟨oc29, od29, .func (PySem.W.fnOf "_law_any_kind" "_law_any_kind" (defArgs s__law_any_kind) (defBody s__law_any_kind) (defScope s__law_any_kind) .none kV29 dc29 pm29 an29 cd29 ct29), sl29⟩)
    (c29 : PySem.W.codeIn K cd29 "_law_any_kind" = true)
    (k29 : PySem.W.keepIn K (.ref f29) = true)
    (a30 : PySem.W.nsIn K mainGlobals "_law_changed" = some (some (.ref f30)))
    (l30 : K.lookup f30 = some ⟨oc30, od30, .func (PySem.W.fnOf "_law_changed" "_law_changed" (defArgs s__law_changed) (defBody s__law_changed) (defScope s__law_changed) .none kV30 dc30 pm30 an30 cd30 ct30), sl30⟩)
    (c30 : PySem.W.codeIn K cd30 "_law_changed" = true)
    (k30 : PySem.W.keepIn K (.ref f30) = true)
    (a31 : PySem.W.nsIn K mainGlobals "_law_goes_with" = some (some (.ref f31)))
    (l31 : K.lookup f31 = some ⟨oc31, od31, .func (PySem.W.fnOf "_law_goes_with" "_law_goes_with" (defArgs s__law_goes_with) (defBody s__law_goes_with) (defScope s__law_goes_with) .none kV31 dc31 pm31 an31 cd31 ct31), sl31⟩)
    (c31 : PySem.W.codeIn K cd31 "_law_goes_with" = true)
    (k31 : PySem.W.keepIn K (.ref f31) = true)
    (a32 : PySem.W.nsIn K mainGlobals "_law_odd" = some (some (.ref f32)))
    (l32 : K.lookup f32 = some ⟨oc32, od32, .func (PySem.W.fnOf "_law_odd" "_law_odd" (defArgs s__law_odd) (defBody s__law_odd) (defScope s__law_odd) .none kV32 dc32 pm32 an32 cd32 ct32), sl32⟩)
    (c32 : PySem.W.codeIn K cd32 "_law_odd" = true)
    (k32 : PySem.W.keepIn K (.ref f32) = true)
    (a33 : PySem.W.nsIn K mainGlobals "law" = some (some (.ref f33)))
    (l33 : K.lookup f33 = some ⟨oc33, od33, .func (PySem.W.fnOf "law" "law" (defArgs s_law) (defBody s_law) (defScope s_law) .none kV33 dc33 pm33 an33 cd33 ct33), sl33⟩)
    (c33 : PySem.W.codeIn K cd33 "law" = true)
    (k33 : PySem.W.keepIn K (.ref f33) = true)
    (z_abs : PySem.W.nsIn K mainGlobals "abs" = some none)
    (z_all : PySem.W.nsIn K mainGlobals "all" = some none)
    (z_bool : PySem.W.nsIn K mainGlobals "bool" = some none)
    (z_dict : PySem.W.nsIn K mainGlobals "dict" = some none)
    (z_int : PySem.W.nsIn K mainGlobals "int" = some none)
    (z_isinstance : PySem.W.nsIn K mainGlobals "isinstance" = some none)
    (z_len : PySem.W.nsIn K mainGlobals "len" = some none)
    (z_list : PySem.W.nsIn K mainGlobals "list" = some none)
    (z_range : PySem.W.nsIn K mainGlobals "range" = some none)
    (z_reversed : PySem.W.nsIn K mainGlobals "reversed" = some none)
    (z_set : PySem.W.nsIn K mainGlobals "set" = some none)
    (z_sorted : PySem.W.nsIn K mainGlobals "sorted" = some none)
    (z_str : PySem.W.nsIn K mainGlobals "str" = some none)
    (z_sum : PySem.W.nsIn K mainGlobals "sum" = some none)
    (z_tuple : PySem.W.nsIn K mainGlobals "tuple" = some none)
    (z_zip : PySem.W.nsIn K mainGlobals "zip" = some none)
    : ∃ fd : FuncData, (∀ (s : Shared) (v : Value), BindsTo s fd ⟨[v], []⟩ [("_law_script", v)]) ∧ ∀ base : Heap, K.In base → base.Ns mainGlobals mg → FnOk l.prog w K mg base CX0 44 fa fd ["_law_script"] (spM K 1 F_law) := by
  have e := hfa.symm.trans (PySem.W.mg_of X G a33)
  cases e
  have T : Txt K w mg := ⟨PySem.W.mg_none_of X G z_abs, PySem.W.mg_none_of X G z_all, PySem.W.mg_none_of X G z_bool, PySem.W.mg_none_of X G z_dict, PySem.W.mg_none_of X G z_int, PySem.W.mg_none_of X G z_isinstance, PySem.W.mg_none_of X G z_len, PySem.W.mg_none_of X G z_list, PySem.W.mg_none_of X G z_range, PySem.W.mg_none_of X G z_reversed, PySem.W.mg_none_of X G z_set, PySem.W.mg_none_of X G z_sorted, PySem.W.mg_none_of X G z_str, PySem.W.mg_none_of X G z_sum, PySem.W.mg_none_of X G z_tuple, PySem.W.mg_none_of X G z_zip, ⟨_, a8, PySem.W.mg_of X G a8⟩⟩
  refine ⟨PySem.W.fnOf "law" "law" (defArgs s_law) (defBody s_law) (defScope s_law) .none kV33 dc33 pm33 an33 cd33 ct33, fun s v => .of_eq rfl, fun base _ _ => ?_⟩
  have F0 := fun_mk (st := s_is_integer) l0 c0 k0
  have b0 := F0.binds (ps := ["thing"]) fun _ _ _ _ _ _ us hl => match us, hl with | [_], _ => rfl
  have F1 := fun_mk (st := s_is_natural) l1 c1 k1
  have b1 := F1.binds (ps := ["thing"]) fun _ _ _ _ _ _ us hl => match us, hl with | [_], _ => rfl
  have F2 := fun_mk (st := s_is_tuple) l2 c2 k2
  have b2 := F2.binds (ps := ["thing", "low", "high"]) fun _ _ _ _ _ _ us hl => match us, hl with | [_, _, _], _ => rfl
  have F3 := fun_mk (st := s_has_outer_form) l3 c3 k3
  have b3 := F3.binds (ps := ["thing"]) fun _ _ _ _ _ _ us hl => match us, hl with | [_], _ => rfl
  have F4 := fun_mk (st := s_kinds_within) l4 c4 k4
  have b4 := F4.binds (ps := ["kind"]) fun _ _ _ _ _ _ us hl => match us, hl with | [_], _ => rfl
  have F5 := fun_mk (st := s_is_kind) l5 c5 k5
  have b5 := F5.binds (ps := ["thing"]) fun _ _ _ _ _ _ us hl => match us, hl with | [_], _ => rfl
  have F6 := fun_mk (st := s_all_kinds) l6 c6 k6
  have b6 := F6.binds (ps := ["kind"]) fun _ _ _ _ _ _ us hl => match us, hl with | [_], _ => rfl
  have F7 := fun_mk (st := s_letters_in) l7 c7 k7
  have b7 := F7.binds (ps := ["kind"]) fun _ _ _ _ _ _ us hl => match us, hl with | [_], _ => rfl
  have F8 := fun_mk (st := s_with_kinds) l8 c8 k8
  have b8 := F8.binds (ps := ["kind", "within"]) fun _ _ _ _ _ _ us hl => match us, hl with | [_, _], _ => rfl
  have F9 := fun_mk (st := s_folded) l9 c9 k9
  have b9 := F9.binds (ps := ["kind", "letters", "make"]) fun _ _ _ _ _ _ us hl => match us, hl with | [_, _, _], _ => rfl
  have F10 := fun_mk (st := s_put_in) l10 c10 k10
  have b10 := F10.binds (ps := ["kind", "kinds"]) fun _ _ _ _ _ _ us hl => match us, hl with | [_, _], _ => rfl
  have F11 := fun_mk (st := s_are_kinds) l11 c11 k11
  have b11 := F11.binds (ps := ["thing"]) fun _ _ _ _ _ _ us hl => match us, hl with | [_], _ => rfl
  have F12 := fun_mk (st := s_filled) l12 c12 k12
  have b12 := F12.binds (ps := ["kind", "kinds"]) fun _ _ _ _ _ _ us hl => match us, hl with | [_, _], _ => rfl
  have F13 := fun_mk (st := s_are_made_alike) l13 c13 k13
  have b13 := F13.binds (ps := ["kind", "other"]) fun _ _ _ _ _ _ us hl => match us, hl with | [_, _], _ => rfl
  have F14 := fun_mk (st := s_are_same) l14 c14 k14
  have b14 := F14.binds (ps := ["kind", "other"]) fun _ _ _ _ _ _ us hl => match us, hl with | [_, _], _ => rfl
  have F15 := fun_mk (st := s_matched) l15 c15 k15
  have b15 := F15.binds (ps := ["kind", "closed"]) fun _ _ _ _ _ _ us hl => match us, hl with | [_, _], _ => rfl
  have F16 := fun_mk (st := s__law_bag) l16 c16 k16
  have b16 := F16.binds (ps := ["_law_script"]) fun _ _ _ _ _ _ us hl => match us, hl with | [_], _ => rfl
  have F17 := fun_mk (st := s__law_pick) l17 c17 k17
  have b17 := F17.binds (ps := ["_law_bag_here", "_law_many"]) fun _ _ _ _ _ _ us hl => match us, hl with | [_, _], _ => rfl
  have F18 := fun_mk (st := s__law_inner) l18 c18 k18
  have b18 := F18.binds (ps := ["_law_kind"]) fun _ _ _ _ _ _ us hl => match us, hl with | [_], _ => rfl
  have F19 := fun_mk (st := s__law_put) l19 c19 k19
  have b19 := F19.binds (ps := ["_law_kind", "_law_kinds"]) fun _ _ _ _ _ _ us hl => match us, hl with | [_, _], _ => rfl
  have F20 := fun_mk (st := s__law_is_flag) l20 c20 k20
  have b20 := F20.binds (ps := ["_law_thing", "_law_due"]) fun _ _ _ _ _ _ us hl => match us, hl with | [_, _], _ => rfl
  have F21 := fun_mk (st := s__law_is) l21 c21 k21
  have b21 := F21.binds (ps := ["_law_thing", "_law_due"]) fun _ _ _ _ _ _ us hl => match us, hl with | [_, _], _ => rfl
  have F22 := fun_mk (st := s__law_deep) l22 c22 k22
  have b22 := F22.binds (ps := []) fun _ _ _ _ _ _ us hl => match us, hl with | [], _ => rfl
  have F23 := fun_mk (st := s__law_is_int) l23 c23 k23
  have b23 := F23.binds (ps := ["_law_thing"]) fun _ _ _ _ _ _ us hl => match us, hl with | [_], _ => rfl
  have F24 := fun_mk (st := s__law_has_form) l24 c24 k24
  have b24 := F24.binds (ps := ["_law_thing"]) fun _ _ _ _ _ _ us hl => match us, hl with | [_], _ => rfl
  have F25 := fun_mk (st := s__law_is_kind) l25 c25 k25
  have b25 := F25.binds (ps := ["_law_thing"]) fun _ _ _ _ _ _ us hl => match us, hl with | [_], _ => rfl
  have F26 := fun_mk (st := s__law_all_in) l26 c26 k26
  have b26 := F26.binds (ps := ["_law_kind"]) fun _ _ _ _ _ _ us hl => match us, hl with | [_], _ => rfl
  have F27 := fun_mk (st := s__law_letters) l27 c27 k27
  have b27 := F27.binds (ps := ["_law_kind"]) fun _ _ _ _ _ _ us hl => match us, hl with | [_], _ => rfl
  have F28 := fun_mk (st := s__law_some) l28 c28 k28
  have b28 := F28.binds (ps := ["_law_bag_here", "_law_things"]) fun _ _ _ _ _ _ us hl => match us, hl with | [_, _], _ => rfl
  have F29 := fun_mk (st := s__law_any_kind) l29 c29 k29
  have b29 := F29.binds (ps := ["_law_bag_here", "_law_deep_here", "_law_letters_here"]) fun _ _ _ _ _ _ us hl => match us, hl with | [_, _, _], _ => rfl
  have F30 := fun_mk (st := s__law_changed) l30 c30 k30
  have b30 := F30.binds (ps := ["_law_bag_here", "_law_thing", "_law_odd_here", "_law_deep_here"]) fun _ _ _ _ _ _ us hl => match us, hl with | [_, _, _, _], _ => rfl
  have F31 := fun_mk (st := s__law_goes_with) l31 c31 k31
  have b31 := F31.binds (ps := ["_law_kind", "_law_closed", "_law_found"]) fun _ _ _ _ _ _ us hl => match us, hl with | [_, _, _], _ => rfl
  have F32 := fun_mk (st := s__law_odd) l32 c32 k32
  have b32 := F32.binds (ps := ["_law_bag_here"]) fun _ _ _ _ _ _ us hl => match us, hl with | [_], _ => rfl
  have F33 := fun_mk (st := s_law) l33 c33 k33
  have b33 := F33.binds (ps := ["_law_script"]) fun _ _ _ _ _ _ us hl => match us, hl with | [_], _ => rfl
  have C_is_integer := ok_is_integer (P := l.prog) (w := w) (base := base) T F0 (PySem.W.mg_of X G a0) b0 
  have C_is_natural := ok_is_natural (P := l.prog) (w := w) (base := base) T F1 (PySem.W.mg_of X G a1) b1 C_is_integer
  have C_is_tuple := ok_is_tuple (P := l.prog) (w := w) (base := base) T F2 (PySem.W.mg_of X G a2) b2 
  have C_has_outer_form := ok_has_outer_form (P := l.prog) (w := w) (base := base) T F3 (PySem.W.mg_of X G a3) b3 C_is_natural C_is_tuple
  have C_kinds_within := ok_kinds_within (P := l.prog) (w := w) (base := base) T F4 (PySem.W.mg_of X G a4) b4 
  have C_is_kind := ok_is_kind (P := l.prog) (w := w) (base := base) T F5 (PySem.W.mg_of X G a5) b5 C_has_outer_form C_kinds_within
  have C_all_kinds := ok_all_kinds (P := l.prog) (w := w) (base := base) T F6 (PySem.W.mg_of X G a6) b6 C_kinds_within
  have C_letters_in := ok_letters_in (P := l.prog) (w := w) (base := base) T F7 (PySem.W.mg_of X G a7) b7 C_is_kind C_all_kinds
  have C_with_kinds := ok_with_kinds (P := l.prog) (w := w) (base := base) T F8 (PySem.W.mg_of X G a8) b8 
  have C_folded := ok_folded (P := l.prog) (w := w) (base := base) T F9 (PySem.W.mg_of X G a9) b9 C_kinds_within C_all_kinds C_with_kinds
  have C_put_in := ok_put_in (P := l.prog) (w := w) (base := base) T F10 (PySem.W.mg_of X G a10) b10 C_folded
  have C_are_kinds := ok_are_kinds (P := l.prog) (w := w) (base := base) T F11 (PySem.W.mg_of X G a11) b11 C_is_kind
  have C_filled := ok_filled (P := l.prog) (w := w) (base := base) T F12 (PySem.W.mg_of X G a12) b12 C_letters_in C_put_in C_are_kinds
  have C_are_made_alike := ok_are_made_alike (P := l.prog) (w := w) (base := base) T F13 (PySem.W.mg_of X G a13) b13 C_kinds_within
  have C_are_same := ok_are_same (P := l.prog) (w := w) (base := base) T F14 (PySem.W.mg_of X G a14) b14 C_kinds_within C_are_made_alike
  have C_matched := ok_matched (P := l.prog) (w := w) (base := base) T F15 (PySem.W.mg_of X G a15) b15 C_kinds_within C_is_kind C_letters_in C_are_made_alike C_are_same
  have C__law_bag := ok__law_bag (P := l.prog) (w := w) (base := base) T F16 (PySem.W.mg_of X G a16) b16 
  have C__law_pick := ok__law_pick (P := l.prog) (w := w) (base := base) T F17 (PySem.W.mg_of X G a17) b17 
  have C__law_inner := ok__law_inner (P := l.prog) (w := w) (base := base) T F18 (PySem.W.mg_of X G a18) b18 
  have C__law_put := ok__law_put (P := l.prog) (w := w) (base := base) T F19 (PySem.W.mg_of X G a19) b19 C__law_inner 40
  have C__law_is_flag := ok__law_is_flag (P := l.prog) (w := w) (base := base) T F20 (PySem.W.mg_of X G a20) b20 
  have C__law_is := ok__law_is (P := l.prog) (w := w) (base := base) T F21 (PySem.W.mg_of X G a21) b21  40
  have C__law_deep := ok__law_deep (P := l.prog) (w := w) (base := base) T F22 (PySem.W.mg_of X G a22) b22 
  have C__law_is_int := ok__law_is_int (P := l.prog) (w := w) (base := base) T F23 (PySem.W.mg_of X G a23) b23 
  have C__law_has_form := ok__law_has_form (P := l.prog) (w := w) (base := base) T F24 (PySem.W.mg_of X G a24) b24 C__law_is_int
  have C__law_is_kind := ok__law_is_kind (P := l.prog) (w := w) (base := base) T F25 (PySem.W.mg_of X G a25) b25 C__law_inner C__law_has_form
  have C__law_all_in := ok__law_all_in (P := l.prog) (w := w) (base := base) T F26 (PySem.W.mg_of X G a26) b26 C__law_inner
  have C__law_letters := ok__law_letters (P := l.prog) (w := w) (base := base) T F27 (PySem.W.mg_of X G a27) b27 C__law_all_in
  have C__law_some := ok__law_some (P := l.prog) (w := w) (base := base) T F28 (PySem.W.mg_of X G a28) b28 C__law_pick
  have C__law_any_kind := ok__law_any_kind (P := l.prog) (w := w) (base := base) T F29 (PySem.W.mg_of X G a29) b29 C__law_pick C__law_some 40
  have C__law_changed := ok__law_changed (P := l.prog) (w := w) (base := base) T F30 (PySem.W.mg_of X G a30) b30 C__law_pick 40
  have C__law_goes_with := ok__law_goes_with (P := l.prog) (w := w) (base := base) T F31 (PySem.W.mg_of X G a31) b31 C__law_inner 40
  have C__law_odd := ok__law_odd (P := l.prog) (w := w) (base := base) T F32 (PySem.W.mg_of X G a32) b32 C__law_deep C__law_some
  exact ok_law (P := l.prog) (w := w) (base := base) T F33 (PySem.W.mg_of X G a33) b33 C_is_kind C_letters_in C_filled C_matched C__law_bag C__law_pick C__law_put C__law_is_flag C__law_is C__law_deep C__law_is_kind C__law_letters C__law_any_kind C__law_changed C__law_goes_with C__law_odd
theorem fix_of {K : PySem.W.Frag} {H : Hp} {a : Addr} {xs : List V} (o : Only H) (h : SqL K H a xs) : Fix K H a xs := by
  rcases h with (h | ⟨ob, h⟩) | h
  · rcases o a with e | ⟨ob, ys, e⟩
    · rw [h] at e; cases e
    · rw [h] at e; cases e
  · exact .inl ⟨ob, h⟩
  · exact .inr h
theorem walk {l : PySem.W.OpenLaw} {q : Program} {loose : List Str} {XP : (Str → Option Value) → Heap → Prop} {YP : World → Heap → Prop} {d : DefRec} {K : Params → PySem.W.Frag} (hn : l.most = some 63) (hdf : d.params.defaults = [])
    (hv : ∀ ns : List Int, ns.length ≤ 63 → ∃ st, F_law [.fl (ns.map .int)] [] = some (.bl true, st))
    (hY : ∀ (w : World) (h : Heap), YP w h → (K w.params).In h)
    (F : ∀ (w : World) (mg : Str → Option Value) (fa : Addr) (h : Heap), (K w.params).In h → h.Ns mainGlobals mg → mg d.name = some (.ref fa) →
      ∃ fd : FuncData, (∀ (s : Shared) (u : Value), BindsTo s fd ⟨[u], []⟩ [("_law_script", u)]) ∧ ∀ base : Heap, (K w.params).In base → base.Ns mainGlobals mg → FnOk l.prog w (K w.params) mg base CX0 44 fa fd ["_law_script"] (spM (K w.params) 1 F_law)) :
    PySem.W.WalkO q loose XP YP l.row.toRowW d [] (fun f vs => PySem.call f vs) :=
  L2.walk_of (n := 63) (k := 44) (x := "_law_script") (CX := fun _ => CX0) (sp := fun w => spM (K w.params) 1 F_law) hn (by decide) hdf ⟨rfl, by decide, by decide⟩ hY F
    (fun w H a ns hl ho hS => by
      obtain ⟨st, hst⟩ := hv ns hl
      refine ⟨rfl, [], [], [.fl (ns.map .int)], .bl true, st, .cons (.fl (fix_of ho hS) (rws_ints ns)) .nil, ⟨rfl, .nil, fun i o h => by simp at h⟩, hst, fun v H' β' _ _ r => r.bl_inv⟩) fun _ _ _ _ _ z => z
end K01

set_option Elab.async false
set_option linter.all false
set_option maxRecDepth 100000
set_option maxHeartbeats 1000000
namespace K01
open PySem PySem.Spec L2 B
set_option autoImplicit false
@[simp] theorem atI_0 {α : Type} (x : α) (xs : List α) : atI (x :: xs) 0 = some x := by
  have e : ixN (x :: xs).length 0 = some 0 := by unfold ixN; rw [if_pos (by decide), if_pos (by simp only [List.length_cons]; omega)]; rfl
  unfold atI; rw [e]; rfl
@[simp] theorem atI_1 {α : Type} (x y : α) (xs : List α) : atI (x :: y :: xs) 1 = some y := by
  have e : ixN (x :: y :: xs).length 1 = some 1 := by unfold ixN; rw [if_pos (by decide), if_pos (by simp only [List.length_cons]; omega)]; rfl
  unfold atI; rw [e]; rfl
@[simp] theorem atI_2 {α : Type} (x y z : α) (xs : List α) : atI (x :: y :: z :: xs) 2 = some z := by
  have e : ixN (x :: y :: z :: xs).length 2 = some 2 := by unfold ixN; rw [if_pos (by decide), if_pos (by simp only [List.length_cons]; omega)]; rfl
  unfold atI; rw [e]; rfl
theorem shaped_dec {d : PyData} (h : SeqAt.shaped d = true) : SeqAt.shaped d = true := h
/-- the words -/
def okS (x : Str) : Bool := SeqAt.shaped (.str x)
theorem fEq_str (x y : Str) (st : Sto) (hx : okS x = true) (hy : okS y = true) : fEq (.str x) (.str y) st = some (.bl (x == y), st) := by
  unfold okS at hx hy
  simp [fEq, toDS, toD, hx, hy, PyData.eqv]
theorem fNe_str (x y : Str) (st : Sto) (hx : okS x = true) (hy : okS y = true) : fNe (.str x) (.str y) st = some (.bl (!(x == y)), st) := by
  unfold okS at hx hy
  simp [fNe, toDS, toD, hx, hy, PyData.eqv]
@[simp] theorem ok_num : okS "num" = true := by decide +kernel
@[simp] theorem ok_nil : okS "nil" = true := by decide +kernel
@[simp] theorem ok_row : okS "row" = true := by decide +kernel
@[simp] theorem ok_data : okS "data" = true := by decide +kernel
@[simp] theorem ok_fun : okS "fun" = true := by decide +kernel
@[simp] theorem ok_box : okS "box" = true := by decide +kernel
@[simp] theorem ok_letter : okS "letter" = true := by decide +kernel
@[simp] theorem ok_thing : okS "thing" = true := by decide +kernel
@[simp] theorem sml_0 : sml 0 = true := rfl
@[simp] theorem sml_1 : sml 1 = true := rfl
@[simp] theorem sml_2 : sml 2 = true := rfl
@[simp] theorem sml_3 : sml 3 = true := rfl
@[simp] theorem sml_4 : sml 4 = true := rfl
@[simp] theorem sml_5 : sml 5 = true := rfl
@[simp] theorem sml_6 : sml 6 = true := rfl
@[simp] theorem sml_7 : sml 7 = true := rfl
@[simp] theorem sml_8 : sml 8 = true := rfl
@[simp] theorem sml_9 : sml 9 = true := rfl
@[simp] theorem sml_10 : sml 10 = true := rfl
@[simp] theorem sml_11 : sml 11 = true := rfl
@[simp] theorem sml_12 : sml 12 = true := rfl
@[simp] theorem sml_13 : sml 13 = true := rfl
@[simp] theorem sml_14 : sml 14 = true := rfl
@[simp] theorem sml_15 : sml 15 = true := rfl
@[simp] theorem sml_16 : sml 16 = true := rfl
@[simp] theorem sml_17 : sml 17 = true := rfl
@[simp] theorem sml_18 : sml 18 = true := rfl
@[simp] theorem sml_19 : sml 19 = true := rfl
@[simp] theorem sml_20 : sml 20 = true := rfl
@[simp] theorem sml_21 : sml 21 = true := rfl
@[simp] theorem sml_22 : sml 22 = true := rfl
@[simp] theorem sml_23 : sml 23 = true := rfl
@[simp] theorem sml_24 : sml 24 = true := rfl
@[simp] theorem sml_25 : sml 25 = true := rfl
@[simp] theorem sml_26 : sml 26 = true := rfl
@[simp] theorem sml_27 : sml 27 = true := rfl
@[simp] theorem sml_28 : sml 28 = true := rfl
@[simp] theorem sml_29 : sml 29 = true := rfl
@[simp] theorem sml_30 : sml 30 = true := rfl
@[simp] theorem sml_31 : sml 31 = true := rfl
@[simp] theorem sml_32 : sml 32 = true := rfl
@[simp] theorem sml_33 : sml 33 = true := rfl
@[simp] theorem sml_34 : sml 34 = true := rfl
@[simp] theorem sml_35 : sml 35 = true := rfl
@[simp] theorem sml_36 : sml 36 = true := rfl
@[simp] theorem sml_37 : sml 37 = true := rfl
@[simp] theorem sml_38 : sml 38 = true := rfl
@[simp] theorem sml_39 : sml 39 = true := rfl
@[simp] theorem sml_40 : sml 40 = true := rfl
@[simp] theorem sml_41 : sml 41 = true := rfl
end K01

set_option Elab.async false
set_option linter.all false
set_option maxRecDepth 100000
set_option maxHeartbeats 1000000
namespace K01
open PySem PySem.Spec L2 B
set_option autoImplicit false
@[simp] theorem q_num_num : (("num" : Str) == ("num" : Str)) = true := by decide +kernel
@[simp] theorem q_num_nil : (("num" : Str) == ("nil" : Str)) = false := by decide +kernel
@[simp] theorem q_num_row : (("num" : Str) == ("row" : Str)) = false := by decide +kernel
@[simp] theorem q_num_data : (("num" : Str) == ("data" : Str)) = false := by decide +kernel
@[simp] theorem q_num_fun : (("num" : Str) == ("fun" : Str)) = false := by decide +kernel
@[simp] theorem q_num_box : (("num" : Str) == ("box" : Str)) = false := by decide +kernel
@[simp] theorem q_num_letter : (("num" : Str) == ("letter" : Str)) = false := by decide +kernel
@[simp] theorem q_nil_num : (("nil" : Str) == ("num" : Str)) = false := by decide +kernel
@[simp] theorem q_nil_nil : (("nil" : Str) == ("nil" : Str)) = true := by decide +kernel
@[simp] theorem q_nil_row : (("nil" : Str) == ("row" : Str)) = false := by decide +kernel
@[simp] theorem q_nil_data : (("nil" : Str) == ("data" : Str)) = false := by decide +kernel
@[simp] theorem q_nil_fun : (("nil" : Str) == ("fun" : Str)) = false := by decide +kernel
@[simp] theorem q_nil_box : (("nil" : Str) == ("box" : Str)) = false := by decide +kernel
@[simp] theorem q_nil_letter : (("nil" : Str) == ("letter" : Str)) = false := by decide +kernel
@[simp] theorem q_row_num : (("row" : Str) == ("num" : Str)) = false := by decide +kernel
@[simp] theorem q_row_nil : (("row" : Str) == ("nil" : Str)) = false := by decide +kernel
@[simp] theorem q_row_row : (("row" : Str) == ("row" : Str)) = true := by decide +kernel
@[simp] theorem q_row_data : (("row" : Str) == ("data" : Str)) = false := by decide +kernel
@[simp] theorem q_row_fun : (("row" : Str) == ("fun" : Str)) = false := by decide +kernel
@[simp] theorem q_row_box : (("row" : Str) == ("box" : Str)) = false := by decide +kernel
@[simp] theorem q_row_letter : (("row" : Str) == ("letter" : Str)) = false := by decide +kernel
@[simp] theorem q_data_num : (("data" : Str) == ("num" : Str)) = false := by decide +kernel
@[simp] theorem q_data_nil : (("data" : Str) == ("nil" : Str)) = false := by decide +kernel
@[simp] theorem q_data_row : (("data" : Str) == ("row" : Str)) = false := by decide +kernel
@[simp] theorem q_data_data : (("data" : Str) == ("data" : Str)) = true := by decide +kernel
@[simp] theorem q_data_fun : (("data" : Str) == ("fun" : Str)) = false := by decide +kernel
@[simp] theorem q_data_box : (("data" : Str) == ("box" : Str)) = false := by decide +kernel
@[simp] theorem q_data_letter : (("data" : Str) == ("letter" : Str)) = false := by decide +kernel
@[simp] theorem q_fun_num : (("fun" : Str) == ("num" : Str)) = false := by decide +kernel
@[simp] theorem q_fun_nil : (("fun" : Str) == ("nil" : Str)) = false := by decide +kernel
@[simp] theorem q_fun_row : (("fun" : Str) == ("row" : Str)) = false := by decide +kernel
@[simp] theorem q_fun_data : (("fun" : Str) == ("data" : Str)) = false := by decide +kernel
@[simp] theorem q_fun_fun : (("fun" : Str) == ("fun" : Str)) = true := by decide +kernel
@[simp] theorem q_fun_box : (("fun" : Str) == ("box" : Str)) = false := by decide +kernel
@[simp] theorem q_fun_letter : (("fun" : Str) == ("letter" : Str)) = false := by decide +kernel
@[simp] theorem q_box_num : (("box" : Str) == ("num" : Str)) = false := by decide +kernel
@[simp] theorem q_box_nil : (("box" : Str) == ("nil" : Str)) = false := by decide +kernel
@[simp] theorem q_box_row : (("box" : Str) == ("row" : Str)) = false := by decide +kernel
@[simp] theorem q_box_data : (("box" : Str) == ("data" : Str)) = false := by decide +kernel
@[simp] theorem q_box_fun : (("box" : Str) == ("fun" : Str)) = false := by decide +kernel
@[simp] theorem q_box_box : (("box" : Str) == ("box" : Str)) = true := by decide +kernel
@[simp] theorem q_box_letter : (("box" : Str) == ("letter" : Str)) = false := by decide +kernel
@[simp] theorem q_letter_num : (("letter" : Str) == ("num" : Str)) = false := by decide +kernel
@[simp] theorem q_letter_nil : (("letter" : Str) == ("nil" : Str)) = false := by decide +kernel
@[simp] theorem q_letter_row : (("letter" : Str) == ("row" : Str)) = false := by decide +kernel
@[simp] theorem q_letter_data : (("letter" : Str) == ("data" : Str)) = false := by decide +kernel
@[simp] theorem q_letter_fun : (("letter" : Str) == ("fun" : Str)) = false := by decide +kernel
@[simp] theorem q_letter_box : (("letter" : Str) == ("box" : Str)) = false := by decide +kernel
@[simp] theorem q_letter_letter : (("letter" : Str) == ("letter" : Str)) = true := by decide +kernel
/-! ### kinds as trees -/
inductive Kd where
  | num
  | nil
  | letter (n : Nat)
  | row (ks : List Kd)
  | data (n : Nat) (ks : List Kd)
  | fn (ks : List Kd) (r : Kd)
  | box (k : Kd)
mutual
def enc : Kd → W
  | .num => .tup [.str "num"]
  | .nil => .tup [.str "nil"]
  | .letter n => .tup [.str "letter", .int n]
  | .row ks => .tup [.str "row", .tup (encs ks)]
  | .data n ks => .tup [.str "data", .int n, .tup (encs ks)]
  | .fn ks r => .tup [.str "fun", .tup (encs ks), enc r]
  | .box k => .tup [.str "box", enc k]
def encs : List Kd → List W
  | [] => []
  | k :: ks => enc k :: encs ks
end
theorem encs_map (ks : List Kd) : encs ks = ks.map enc := by
  induction ks with
  | nil => rfl
  | cons k ks ih => simp [encs, ih]
theorem encs_app (a b : List Kd) : encs (a ++ b) = encs a ++ encs b := by simp [encs_map]
theorem encs_len (a : List Kd) : (encs a).length = a.length := by simp [encs_map]
def inn : Kd → List Kd
  | .row ks => ks
  | .data _ ks => ks
  | .fn ks r => ks ++ [r]
  | .box k => [k]
  | _ => []
/-- rows of a function not too long for a tuple -/
def fnS : Kd → Prop
  | .fn ks _ => ks.length + 1 ≤ 1000000
  | _ => True
theorem within_ok (k : Kd) (h : fnS k) (st : Sto) : F_kinds_within [enc k] st = some (.tup (encs (inn k)), st) := by
  cases k with
  | fn ks r =>
    have hz : sml (ks.length + 1) = true := sml_of h
    simp [F_kinds_within, enc, fEq_str, encs_len, hz, inn, encs_app, encs]
  | _ => simp [F_kinds_within, enc, fEq_str, inn, encs]
theorem inner_ok (k : Kd) (h : fnS k) (st : Sto) : F__law_inner [enc k] st = some (.tup (encs (inn k)), st) := by
  cases k with
  | fn ks r =>
    have hz : sml (ks.length + 1) = true := sml_of h
    simp [F__law_inner, enc, fEq_str, encs_len, hz, inn, encs_app, encs]
  | _ => simp [F__law_inner, enc, fEq_str, inn, encs]
end K01

set_option Elab.async false
set_option linter.all false
set_option maxRecDepth 100000
set_option maxHeartbeats 1000000
namespace K01
open PySem PySem.Spec L2 B
set_option autoImplicit false
theorem kit_NoneType_tuple : kitB "NoneType" "tuple" = some false := by decide +kernel
theorem kit_NoneType_int : kitB "NoneType" "int" = some false := by decide +kernel
theorem kit_NoneType_bool : kitB "NoneType" "bool" = some false := by decide +kernel
theorem kit_NoneType_str : kitB "NoneType" "str" = some false := by decide +kernel
theorem kit_NoneType_list : kitB "NoneType" "list" = some false := by decide +kernel
theorem kit_NoneType_dict : kitB "NoneType" "dict" = some false := by decide +kernel
theorem kit_bool_tuple : kitB "bool" "tuple" = some false := by decide +kernel
theorem kit_bool_int : kitB "bool" "int" = some true := by decide +kernel
theorem kit_bool_bool : kitB "bool" "bool" = some true := by decide +kernel
theorem kit_bool_str : kitB "bool" "str" = some false := by decide +kernel
theorem kit_bool_list : kitB "bool" "list" = some false := by decide +kernel
theorem kit_bool_dict : kitB "bool" "dict" = some false := by decide +kernel
theorem kit_int_tuple : kitB "int" "tuple" = some false := by decide +kernel
theorem kit_int_int : kitB "int" "int" = some true := by decide +kernel
theorem kit_int_bool : kitB "int" "bool" = some false := by decide +kernel
theorem kit_int_str : kitB "int" "str" = some false := by decide +kernel
theorem kit_int_list : kitB "int" "list" = some false := by decide +kernel
theorem kit_int_dict : kitB "int" "dict" = some false := by decide +kernel
theorem kit_str_tuple : kitB "str" "tuple" = some false := by decide +kernel
theorem kit_str_int : kitB "str" "int" = some false := by decide +kernel
theorem kit_str_bool : kitB "str" "bool" = some false := by decide +kernel
theorem kit_str_str : kitB "str" "str" = some true := by decide +kernel
theorem kit_str_list : kitB "str" "list" = some false := by decide +kernel
theorem kit_str_dict : kitB "str" "dict" = some false := by decide +kernel
theorem kit_tuple_tuple : kitB "tuple" "tuple" = some true := by decide +kernel
theorem kit_tuple_int : kitB "tuple" "int" = some false := by decide +kernel
theorem kit_tuple_bool : kitB "tuple" "bool" = some false := by decide +kernel
theorem kit_tuple_str : kitB "tuple" "str" = some false := by decide +kernel
theorem kit_tuple_list : kitB "tuple" "list" = some false := by decide +kernel
theorem kit_tuple_dict : kitB "tuple" "dict" = some false := by decide +kernel
theorem kit_list_tuple : kitB "list" "tuple" = some false := by decide +kernel
theorem kit_list_int : kitB "list" "int" = some false := by decide +kernel
theorem kit_list_bool : kitB "list" "bool" = some false := by decide +kernel
theorem kit_list_str : kitB "list" "str" = some false := by decide +kernel
theorem kit_list_list : kitB "list" "list" = some true := by decide +kernel
theorem kit_list_dict : kitB "list" "dict" = some false := by decide +kernel
theorem kit_dict_tuple : kitB "dict" "tuple" = some false := by decide +kernel
theorem kit_dict_int : kitB "dict" "int" = some false := by decide +kernel
theorem kit_dict_bool : kitB "dict" "bool" = some false := by decide +kernel
theorem kit_dict_str : kitB "dict" "str" = some false := by decide +kernel
theorem kit_dict_list : kitB "dict" "list" = some false := by decide +kernel
theorem kit_dict_dict : kitB "dict" "dict" = some true := by decide +kernel
/-! ### things that stand -/
mutual
def vw (n : Nat) : W → Bool
  | .ext _ => false
  | .fnc _ => false
  | .str x => okS x
  | .ref i => decide (i < n)
  | .tup xs => vws n xs
  | .fl xs => vws n xs
  | _ => true
def vws (n : Nat) : List W → Bool
  | [] => true
  | x :: xs => vw n x && vws n xs
end
theorem vws_all (n : Nat) (xs : List W) : vws n xs = xs.all (vw n) := by
  induction xs with
  | nil => rfl
  | cons x xs ih => simp [vws, ih]
mutual
theorem vw_mono {n m : Nat} (h : n ≤ m) : ∀ w, vw n w = true → vw m w = true
  | .non, _ => rfl
  | .bl _, _ => rfl
  | .int _, _ => rfl
  | .str _, e => e
  | .ext _, e => by simp [vw] at e
  | .fnc _, e => by simp [vw] at e
  | .ref i, e => by simp [vw] at e ⊢; omega
  | .tup xs, e => by simp only [vw] at e ⊢; exact vws_mono h xs e
  | .fl xs, e => by simp only [vw] at e ⊢; exact vws_mono h xs e
theorem vws_mono {n m : Nat} (h : n ≤ m) : ∀ xs, vws n xs = true → vws m xs = true
  | [], _ => rfl
  | x :: xs, e => by
    simp only [vws, Bool.and_eq_true] at e ⊢
    exact ⟨vw_mono h x e.1, vws_mono h xs e.2⟩
end
mutual
theorem vw_enc (n : Nat) : ∀ k, vw n (enc k) = true
  | .num => by simp [enc, vw, vws]
  | .nil => by simp [enc, vw, vws]
  | .letter _ => by simp [enc, vw, vws]
  | .row ks => by simp [enc, vw, vws, vws_encs n ks]
  | .data _ ks => by simp [enc, vw, vws, vws_encs n ks]
  | .fn ks r => by simp [enc, vw, vws, vws_encs n ks, vw_enc n r]
  | .box k => by simp [enc, vw, vws, vw_enc n k]
theorem vws_encs (n : Nat) : ∀ ks, vws n (encs ks) = true
  | [] => rfl
  | k :: ks => by simp [encs, vws, vw_enc n k, vws_encs n ks]
end
def isTupB : W → Bool | .tup _ => true | _ => false
def isStrB : W → Bool | .str _ => true | _ => false
def isIntB : W → Bool | .int _ => true | .bl _ => true | _ => false
def isBlB : W → Bool | .bl _ => true | _ => false
theorem tyW_at {w : W} {st : Sto} (h : vw st.length w = true) : (∃ i, w = .ref i ∧ (tyW w st = some "list" ∨ tyW w st = some "dict")) ∨ (∀ i, w ≠ .ref i) := by
  cases w with
  | ref i =>
    left
    refine ⟨i, rfl, ?_⟩
    simp only [vw, decide_eq_true_eq] at h
    have e : st[i]? = some st[i] := List.getElem?_eq_getElem h
    unfold tyW
    simp only [e]
    cases st[i] with
    | lst _ => exact .inl rfl
    | dct _ => exact .inr rfl
    | dtt _ => exact .inr rfl
  | _ => right; intro i e; cases e
theorem isi_tup {w : W} {st : Sto} (h : vw st.length w = true) : bIsi [w, .ext (.ty "tuple")] st = some (.bl (isTupB w), st) := by
  rcases tyW_at h with ⟨i, rfl, e | e⟩ | e
  · simp [bIsi, e, kit_list_tuple, isTupB]
  · simp [bIsi, e, kit_dict_tuple, isTupB]
  · cases w <;> first | (exfalso; exact e _ rfl) | (simp [vw] at h; done) | simp [bIsi, tyW, isTupB, kit_NoneType_tuple, kit_bool_tuple, kit_int_tuple, kit_str_tuple, kit_tuple_tuple, kit_list_tuple]
theorem isi_str {w : W} {st : Sto} (h : vw st.length w = true) : bIsi [w, .ext (.ty "str")] st = some (.bl (isStrB w), st) := by
  rcases tyW_at h with ⟨i, rfl, e | e⟩ | e
  · simp [bIsi, e, kit_list_str, isStrB]
  · simp [bIsi, e, kit_dict_str, isStrB]
  · cases w <;> first | (exfalso; exact e _ rfl) | (simp [vw] at h; done) | simp [bIsi, tyW, isStrB, kit_NoneType_str, kit_bool_str, kit_int_str, kit_str_str, kit_tuple_str, kit_list_str]
theorem isi_int {w : W} {st : Sto} (h : vw st.length w = true) : bIsi [w, .ext (.ty "int")] st = some (.bl (isIntB w), st) := by
  rcases tyW_at h with ⟨i, rfl, e | e⟩ | e
  · simp [bIsi, e, kit_list_int, isIntB]
  · simp [bIsi, e, kit_dict_int, isIntB]
  · cases w <;> first | (exfalso; exact e _ rfl) | (simp [vw] at h; done) | simp [bIsi, tyW, isIntB, kit_NoneType_int, kit_bool_int, kit_int_int, kit_str_int, kit_tuple_int, kit_list_int]
theorem isi_bool {w : W} {st : Sto} (h : vw st.length w = true) : bIsi [w, .ext (.ty "bool")] st = some (.bl (isBlB w), st) := by
  rcases tyW_at h with ⟨i, rfl, e | e⟩ | e
  · simp [bIsi, e, kit_list_bool, isBlB]
  · simp [bIsi, e, kit_dict_bool, isBlB]
  · cases w <;> first | (exfalso; exact e _ rfl) | (simp [vw] at h; done) | simp [bIsi, tyW, isBlB, kit_NoneType_bool, kit_bool_bool, kit_int_bool, kit_str_bool, kit_tuple_bool, kit_list_bool]
/-! ### is_integer, is_natural, is_tuple -/
def isI : W → Bool | .int _ => true | _ => false
def isNat : W → Bool | .int i => decide (0 ≤ i) | _ => false
def isT (lo hi : Int) : W → Bool | .tup xs => decide (lo ≤ (xs.length : Int)) && decide ((xs.length : Int) ≤ hi) | _ => false
theorem integer_ok {w : W} {st : Sto} (h : vw st.length w = true) : F_is_integer [w] st = some (.bl (isI w), st) := by
  cases w <;> simp [F_is_integer, isi_int h, isi_bool h, isIntB, isBlB, isI]
theorem natural_ok {w : W} {st : Sto} (h : vw st.length w = true) : F_is_natural [w] st = some (.bl (isNat w), st) := by
  cases w <;> simp [F_is_natural, integer_ok h, isI, isNat]
theorem law_int_ok {w : W} {st : Sto} (h : vw st.length w = true) : F__law_is_int [w] st = some (.bl (isI w), st) := by
  cases w <;> simp [F__law_is_int, isi_int h, isi_bool h, isIntB, isBlB, isI]
theorem tuple_ok {w : W} {lo hi : Int} {st : Sto} (h : vw st.length w = true) : F_is_tuple [w, .int lo, .int hi] st = some (.bl (isT lo hi w), st) := by
  cases w with
  | tup xs =>
    by_cases c : lo ≤ (xs.length : Int)
    · simp [F_is_tuple, isi_tup h, isTupB, isT, c]
    · simp [F_is_tuple, isi_tup h, isTupB, isT, c]
  | _ => simp [F_is_tuple, isi_tup h, isTupB, isT]
end K01

set_option Elab.async false
set_option linter.all false
set_option maxRecDepth 100000
set_option maxHeartbeats 1000000
namespace K01
open PySem PySem.Spec L2 B
set_option autoImplicit false
/-! ### what may become of the store -/
structure Fr (P : Nat → Prop) (st st' : Sto) : Prop where
  len : st.length ≤ st'.length
  same : ∀ i, i < st.length → ¬ P i → st'[i]? = st[i]?
abbrev Gr (st st' : Sto) : Prop := Fr (fun _ => False) st st'
theorem Fr.refl {P : Nat → Prop} {st : Sto} : Fr P st st := ⟨Nat.le_refl _, fun _ _ _ => rfl⟩
theorem Fr.trans {P : Nat → Prop} {a b c : Sto} (h : Fr P a b) (g : Fr P b c) : Fr P a c :=
  ⟨Nat.le_trans h.len g.len, fun i hi n => (g.same i (Nat.lt_of_lt_of_le hi h.len) n).trans (h.same i hi n)⟩
theorem Fr.mono {P Q : Nat → Prop} {a b : Sto} (h : Fr P a b) (k : ∀ i, P i → Q i) : Fr Q a b :=
  ⟨h.len, fun i hi n => h.same i hi fun p => n (k i p)⟩
theorem Fr.any {P : Nat → Prop} {a b : Sto} (h : Gr a b) : Fr P a b := h.mono fun _ z => z.elim
theorem Fr.app {P : Nat → Prop} {st : Sto} (γ : Sto) : Fr P st (st ++ γ) := ⟨by simp, fun i hi _ => List.getElem?_append_left hi⟩
theorem Fr.set {P : Nat → Prop} {st : Sto} {i : Nat} (o : SO) (h : P i) : Fr P st (st.set i o) :=
  ⟨by simp, fun j hj n => List.getElem?_set_ne (fun e => n (by subst e; exact h))⟩
theorem Fr.get {P : Nat → Prop} {st st' : Sto} (h : Fr P st st') {i : Nat} {o : SO} (e : st[i]? = some o) (n : ¬ P i) : st'[i]? = some o :=
  (h.same i (List.getElem?_eq_some_iff.mp e).1 n).trans e
theorem Fr.own {P Q : Nat → Prop} {st st1 st' : Sto} (h0 : Fr Q st st1) (h : Fr P st1 st') (hP : ∀ i, i < st.length → P i → Q i) : Fr Q st st' :=
  ⟨Nat.le_trans h0.len h.len, fun i hi n => (h.same i (Nat.lt_of_lt_of_le hi h0.len) (fun p => n (hP i hi p))).trans (h0.same i hi n)⟩
theorem Fr.vw {P : Nat → Prop} {a b : Sto} (h : Fr P a b) {w : W} (v : vw a.length w = true) : K01.vw b.length w = true := vw_mono h.len w v
theorem Fr.vws {P : Nat → Prop} {a b : Sto} (h : Fr P a b) {w : List W} (v : vws a.length w = true) : K01.vws b.length w = true := vws_mono h.len w v
theorem lt_of_get {st : Sto} {i : Nat} {o : SO} (e : st[i]? = some o) : i < st.length := (List.getElem?_eq_some_iff.mp e).1

/-! ### the outer form -/
def itemsT : W → List W | .tup xs => xs | _ => []
def hof : W → Bool
  | .tup [.str s] => s == "num" || s == "nil"
  | .tup [.str s, a] => (s == "row" && isT 1 4 a) || (s == "box" || (s == "letter" && isNat a))
  | .tup [.str s, a, b] => (s == "data" && (isNat a && isTupB b)) || (s == "fun" && isT 1 3 a)
  | _ => false
def kids : W → List W
  | .tup [.str s, a] => if s == "row" then itemsT a else if s == "box" then [a] else []
  | .tup [.str s, a, b] => if s == "data" then itemsT b else if s == "fun" then itemsT a ++ [b] else []
  | _ => []
theorem str_cases (s : Str) : s = "num" ∨ s = "nil" ∨ s = "row" ∨ s = "data" ∨ s = "fun" ∨ s = "box" ∨ s = "letter" ∨
    ((s == ("num" : Str)) = false ∧ (s == ("nil" : Str)) = false ∧ (s == ("row" : Str)) = false ∧ (s == ("data" : Str)) = false ∧ (s == ("fun" : Str)) = false ∧ (s == ("box" : Str)) = false ∧ (s == ("letter" : Str)) = false ∧
      ((("num" : Str) == s) = false ∧ (("nil" : Str) == s) = false ∧ (("data" : Str) == s) = false ∧ (("fun" : Str) == s) = false)) := by
  by_cases h1 : s = "num"
  · exact .inl h1
  by_cases h2 : s = "nil"
  · exact .inr (.inl h2)
  by_cases h3 : s = "row"
  · exact .inr (.inr (.inl h3))
  by_cases h4 : s = "data"
  · exact .inr (.inr (.inr (.inl h4)))
  by_cases h5 : s = "fun"
  · exact .inr (.inr (.inr (.inr (.inl h5))))
  by_cases h6 : s = "box"
  · exact .inr (.inr (.inr (.inr (.inr (.inl h6)))))
  by_cases h7 : s = "letter"
  · exact .inr (.inr (.inr (.inr (.inr (.inr (.inl h7))))))
  exact .inr (.inr (.inr (.inr (.inr (.inr (.inr ⟨beq_eq_false_iff_ne.mpr h1, beq_eq_false_iff_ne.mpr h2, beq_eq_false_iff_ne.mpr h3, beq_eq_false_iff_ne.mpr h4, beq_eq_false_iff_ne.mpr h5, beq_eq_false_iff_ne.mpr h6, beq_eq_false_iff_ne.mpr h7, beq_eq_false_iff_ne.mpr (Ne.symm h1), beq_eq_false_iff_ne.mpr (Ne.symm h2), beq_eq_false_iff_ne.mpr (Ne.symm h4), beq_eq_false_iff_ne.mpr (Ne.symm h5)⟩))))))
@[simp] theorem fEq_int (i j : Int) (st : Sto) : fEq (.int i) (.int j) st = some (.bl (i == j), st) := by
  have h : ∀ k : Int, SeqAt.shaped (.int k) = true := fun k => by simp [SeqAt.shaped, PyData.canLay0, PyData.depth]
  simp [fEq, toDS, toD, h, PyData.eqv]
@[simp] theorem fNe_int (i j : Int) (st : Sto) : fNe (.int i) (.int j) st = some (.bl (!(i == j)), st) := by
  have h : ∀ k : Int, SeqAt.shaped (.int k) = true := fun k => by simp [SeqAt.shaped, PyData.canLay0, PyData.depth]
  simp [fNe, toDS, toD, h, PyData.eqv]
@[simp] theorem fEq_bl (i j : Bool) (st : Sto) : fEq (.bl i) (.bl j) st = some (.bl (i == j), st) := by
  have h : ∀ k : Bool, SeqAt.shaped (.bool k) = true := fun k => by simp [SeqAt.shaped, PyData.canLay0, PyData.depth]
  simp [fEq, toDS, toD, h, PyData.eqv]
@[simp] theorem fNe_bl (i j : Bool) (st : Sto) : fNe (.bl i) (.bl j) st = some (.bl (!(i == j)), st) := by
  have h : ∀ k : Bool, SeqAt.shaped (.bool k) = true := fun k => by simp [SeqAt.shaped, PyData.canLay0, PyData.depth]
  simp [fNe, toDS, toD, h, PyData.eqv]
theorem outer_ok {w : W} {st : Sto} (h : vw st.length w = true) : ∃ st', F_has_outer_form [w] st = some (.bl (hof w), st') ∧ Gr st st' := by
  cases w with
  | tup xs =>
    match xs, h with
    | [], h => exact ⟨st, by simp [F_has_outer_form, tuple_ok h, isT, hof], .refl⟩
    | x :: r, h =>
      by_cases hl : (r.length : Int) ≤ 2
      · have hx : vw st.length x = true := by simp [vw, vws] at h; exact h.1
        cases x with
        | str s =>
          have hs : okS s = true := by simpa [vw] using hx
          have hr : vws (st.length + 1) r = true := by simp [vw, vws] at h; exact vws_mono (by omega) r h.2
          have l3 : ((r.length : Int) + 1 ≤ 3) = True := eq_true (by omega)
          have l1 : ((1 : Int) ≤ (r.length : Int) + 1) = True := eq_true (by omega)
          have l4 : r.length ≤ 16000 := by omega
          refine ⟨st ++ [.lst r], ?_, .app _⟩
          match r, hr, hl with
          | [], hr, _ =>
            rcases str_cases s with e | e | e | e | e | e | e | ⟨e1, e2, e3, e4, e5, e6, e7, e8, e9, e10, e11⟩
            all_goals first | subst e | skip
            all_goals simp [F_has_outer_form, tuple_ok h, isT, hof, isi_str hx, isStrB, fEq_str, *]
          | [a], hr, _ =>
            have ha : vw (st.length + 1) a = true := by simpa [vws] using hr
            rcases str_cases s with e | e | e | e | e | e | e | ⟨e1, e2, e3, e4, e5, e6, e7, e8, e9, e10, e11⟩
            all_goals first | subst e | skip
            all_goals simp [F_has_outer_form, tuple_ok h, isT, hof, isi_str hx, isStrB, fEq_str, natural_ok, tuple_ok, *]
          | [a, b], hr, _ =>
            have ha : vw (st.length + 1) a = true := by simp [vws] at hr; exact hr.1
            have hb : vw (st.length + 1) b = true := by simp [vws] at hr; exact hr.2
            rcases str_cases s with e | e | e | e | e | e | e | ⟨e1, e2, e3, e4, e5, e6, e7, e8, e9, e10, e11⟩
            all_goals first | subst e | skip
            all_goals simp [F_has_outer_form, tuple_ok h, isT, hof, isi_str hx, isStrB, fEq_str, natural_ok, tuple_ok, isi_tup, *]
            all_goals cases isNat a <;> simp [isi_tup, *]
          | _ :: _ :: _ :: _, _, hl => simp at hl; omega
        | _ =>
          refine ⟨st, ?_, .refl⟩
          have l3 : ((r.length : Int) + 1 ≤ 3) = True := eq_true (by omega)
          have l1 : ((1 : Int) ≤ (r.length : Int) + 1) = True := eq_true (by omega)
          simp [F_has_outer_form, tuple_ok h, isT, hof, isi_str hx, isStrB, l3, l1]
      · have l3 : ((r.length : Int) + 1 ≤ 3) = False := eq_false (by omega)
        refine ⟨st, ?_, .refl⟩
        have e : hof (.tup (x :: r)) = false := by
          unfold hof
          split <;> first | rfl | (exfalso; simp_all; done) | (exfalso; simp_all; omega)
        simp [F_has_outer_form, tuple_ok h, isT, l3, e]
  | _ => exact ⟨st, by simp [F_has_outer_form, tuple_ok h, isT, hof], .refl⟩
theorem isTupB_tup (xs : List W) : isTupB (.tup xs) = true := rfl
theorem isTupB_of {a : W} (h : isTupB a = true) : ∃ xs, a = .tup xs := by cases a <;> first | (simp [isTupB] at h; done) | exact ⟨_, rfl⟩
theorem law_form_ok {w : W} {st : Sto} (h : vw st.length w = true) : ∃ st', F__law_has_form [w] st = some (.bl (hof w), st') ∧ Gr st st' := by
  cases w with
  | tup xs =>
    match xs, h with
    | [], h => exact ⟨st, by simp [F__law_has_form, isi_tup h, isTupB, hof], .refl⟩
    | x :: r, h =>
      have nz : ((r.length : Int) + 1 = 0) = False := eq_false (by omega)
      have hx : vw st.length x = true := by simp [vw, vws] at h; exact h.1
      cases x with
      | str s =>
        have hs : okS s = true := by simpa [vw] using hx
        have hr : vws (st.length + 1) r = true := by simp [vw, vws] at h; exact vws_mono (by omega) r h.2
        refine ⟨st ++ [.lst [.str "num", .str "nil"]], ?_, .app _⟩
        match r, hr with
        | [], hr =>
          rcases str_cases s with e | e | e | e | e | e | e | ⟨e1, e2, e3, e4, e5, e6, e7, e8, e9, e10, e11⟩
          all_goals first | subst e | skip
          all_goals simp [F__law_has_form, isi_tup h, isTupB_tup, isT, hof, isi_str hx, isStrB, fEq_str, *]
        | [a], hr =>
          have ha : vw (st.length + 1) a = true := by simpa [vws] using hr
          cases ht : isTupB a with
          | true =>
            obtain ⟨ys, rfl⟩ := isTupB_of ht
            rcases str_cases s with e | e | e | e | e | e | e | ⟨e1, e2, e3, e4, e5, e6, e7, e8, e9, e10, e11⟩
            all_goals first | subst e | skip
            all_goals simp [F__law_has_form, isi_tup h, isTupB_tup, hof, isi_str hx, isStrB, fEq_str, law_int_ok, isi_tup, isNat, isI, *]
            · by_cases hy : 0 < ys.length
              · simp only [hy, isT, if_true]
                simp
                try (rw [Bool.eq_iff_iff]; simp; omega)
              · have : ys = [] := List.eq_nil_of_length_eq_zero (by omega)
                subst this
                simp [isT]
          | false =>
            have hT : ∀ p q, isT p q a = false := fun p q => by cases a <;> first | rfl | (simp [isTupB] at ht; done)
            rcases str_cases s with e | e | e | e | e | e | e | ⟨e1, e2, e3, e4, e5, e6, e7, e8, e9, e10, e11⟩
            all_goals first | subst e | skip
            all_goals simp [F__law_has_form, isi_tup h, isTupB_tup, hof, isi_str hx, isStrB, fEq_str, law_int_ok, isi_tup, *]
            · cases a <;> simp [isI, isNat]
        | [a, b], hr =>
          have ha : vw (st.length + 1) a = true := by simp [vws] at hr; exact hr.1
          have hb : vw (st.length + 1) b = true := by simp [vws] at hr; exact hr.2
          cases ht : isTupB a with
          | true =>
            obtain ⟨ys, rfl⟩ := isTupB_of ht
            rcases str_cases s with e | e | e | e | e | e | e | ⟨e1, e2, e3, e4, e5, e6, e7, e8, e9, e10, e11⟩
            all_goals first | subst e | skip
            all_goals simp [F__law_has_form, isi_tup h, isTupB_tup, hof, isi_str hx, isStrB, fEq_str, law_int_ok, isi_tup, isNat, isI, *]
            · by_cases hy : 0 < ys.length
              · simp only [hy, isT, if_true]
                simp
                try (rw [Bool.eq_iff_iff]; simp; omega)
              · have : ys = [] := List.eq_nil_of_length_eq_zero (by omega)
                subst this
                simp [isT]
          | false =>
            have hT : ∀ p q, isT p q a = false := fun p q => by cases a <;> first | rfl | (simp [isTupB] at ht; done)
            rcases str_cases s with e | e | e | e | e | e | e | ⟨e1, e2, e3, e4, e5, e6, e7, e8, e9, e10, e11⟩
            all_goals first | subst e | skip
            all_goals simp [F__law_has_form, isi_tup h, isTupB_tup, hof, isi_str hx, isStrB, fEq_str, law_int_ok, isi_tup, *]
            · cases a <;> simp [isI, isNat]
              rename_i i
              by_cases hy : 0 ≤ i <;> simp [hy, isi_tup, hb]
        | a :: b :: c :: r', hr =>
          have n1 : ((r'.length : Int) + 1 + 1 + 1 + 1 = 2) = False := eq_false (by omega)
          have n2 : ((r'.length : Int) + 1 + 1 + 1 + 1 = 3) = False := eq_false (by omega)
          have n3 : ((r'.length : Int) + 1 + 1 + 1 + 1 = 1) = False := eq_false (by omega)
          have n4 : ((r'.length : Int) + 1 + 1 + 1 + 1 = 0) = False := eq_false (by omega)
          rcases str_cases s with e | e | e | e | e | e | e | ⟨e1, e2, e3, e4, e5, e6, e7, e8, e9, e10, e11⟩
          all_goals first | subst e | skip
          all_goals simp [F__law_has_form, isi_tup h, isTupB_tup, hof, isi_str hx, isStrB, fEq_str, law_int_ok, isi_tup, *]
      | _ => exact ⟨st, by simp [F__law_has_form, isi_tup h, isTupB_tup, hof, isi_str hx, isStrB, nz], .refl⟩
  | _ => exact ⟨st, by simp [F__law_has_form, isi_tup h, isTupB, hof], .refl⟩
end K01

set_option Elab.async false
set_option linter.all false
set_option maxRecDepth 100000
set_option maxHeartbeats 1000000
namespace K01
open PySem PySem.Spec L2 B
set_option autoImplicit false
/-! ### right kinds -/
mutual
def wf : Kd → Bool
  | .row ks => decide (1 ≤ ks.length) && (decide (ks.length ≤ 4) && wfs ks)
  | .data _ ks => wfs ks
  | .fn ks r => decide (1 ≤ ks.length) && (decide (ks.length ≤ 3) && (wfs ks && wf r))
  | .box k => wf k
  | .num => true
  | .nil => true
  | .letter _ => true
def wfs : List Kd → Bool
  | [] => true
  | k :: ks => wf k && wfs ks
end
mutual
def sz : Kd → Nat
  | .row ks => szs ks + 1
  | .data _ ks => szs ks + 1
  | .fn ks r => szs ks + sz r + 1
  | .box k => sz k + 1
  | .num => 1
  | .nil => 1
  | .letter _ => 1
def szs : List Kd → Nat
  | [] => 0
  | k :: ks => sz k + szs ks
end
mutual
def sw : W → Nat
  | .tup xs => sws xs + 1
  | _ => 1
def sws : List W → Nat
  | [] => 0
  | x :: xs => sw x + sws xs
end
mutual
def pre : Kd → List Kd
  | .row ks => .row ks :: pres ks
  | .data n ks => .data n ks :: pres ks
  | .fn ks r => .fn ks r :: (pres ks ++ pre r)
  | .box k => .box k :: pre k
  | .num => [.num]
  | .nil => [.nil]
  | .letter n => [.letter n]
def pres : List Kd → List Kd
  | [] => []
  | k :: ks => pre k ++ pres ks
end
theorem wfs_all (ks : List Kd) : wfs ks = true ↔ ∀ k ∈ ks, wf k = true := by
  induction ks with
  | nil => simp [wfs]
  | cons k ks ih => simp [wfs, ih]
theorem wfs_app (a b : List Kd) : wfs (a ++ b) = (wfs a && wfs b) := by
  induction a with
  | nil => simp [wfs]
  | cons k ks ih => simp [wfs, ih, Bool.and_assoc]
theorem wf_inn {k : Kd} (h : wf k = true) : wfs (inn k) = true := by
  cases k <;> simp [wf, wfs, inn, wfs_app] at h ⊢ <;> simp [h]
theorem wf_fnS {k : Kd} (h : wf k = true) : fnS k := by
  cases k <;> simp [wf, fnS] at h ⊢
  omega
theorem szs_app (a b : List Kd) : szs (a ++ b) = szs a + szs b := by
  induction a with
  | nil => simp [szs]
  | cons k ks ih => simp [szs, ih]; omega
theorem sz_inn (k : Kd) : sz k = szs (inn k) + 1 := by
  cases k <;> simp [sz, szs, inn, szs_app]
theorem sz_pos (k : Kd) : 0 < sz k := by rw [sz_inn]; omega
theorem szs_rev (a : List Kd) : szs a.reverse = szs a := by
  induction a with
  | nil => rfl
  | cons k ks ih => simp [szs, szs_app, ih]; omega
theorem pres_app (a b : List Kd) : pres (a ++ b) = pres a ++ pres b := by
  induction a with
  | nil => simp [pres]
  | cons k ks ih => simp [pres, ih]
theorem pre_inn (k : Kd) : pre k = k :: pres (inn k) := by
  cases k <;> simp [pre, pres, inn, pres_app]
mutual
theorem pre_len : ∀ k : Kd, (pre k).length = sz k
  | .row ks => by simp [pre, sz, pres_len ks]
  | .data _ ks => by simp [pre, sz, pres_len ks]
  | .fn ks r => by simp [pre, sz, pres_len ks, pre_len r]
  | .box k => by simp [pre, sz, pre_len k]
  | .num => rfl
  | .nil => rfl
  | .letter _ => rfl
theorem pres_len : ∀ ks : List Kd, (pres ks).length = szs ks
  | [] => rfl
  | k :: ks => by simp [pres, szs, pre_len k, pres_len ks]
end
theorem sws_app (a b : List W) : sws (a ++ b) = sws a + sws b := by
  induction a with
  | nil => simp [sws]
  | cons k ks ih => simp [sws, ih]; omega
theorem sw_pos (w : W) : 0 < sw w := by cases w <;> simp [sw]
theorem len_sws (xs : List W) : xs.length ≤ sws xs := by
  induction xs with
  | nil => simp
  | cons x xs ih => have := sw_pos x; simp [sws]; omega
theorem itemsT_sw (w : W) : sws (itemsT w) < sw w := by cases w <;> simp [itemsT, sw, sws]
theorem kids_sw (w : W) : sws (kids w) < sw w := by
  unfold kids
  split
  · rename_i s a
    have := itemsT_sw a
    have := sw_pos a
    simp only [sw, sws]
    split
    · omega
    · split <;> simp [sws]; omega
  · rename_i s a b
    have := itemsT_sw a
    have := itemsT_sw b
    have := sw_pos a
    have := sw_pos b
    simp only [sw, sws]
    split
    · omega
    · split <;> simp [sws, sws_app] <;> omega
  · have := sw_pos w; simp [sws]; omega
theorem vws_app (n : Nat) (a b : List W) : vws n (a ++ b) = (vws n a && vws n b) := by
  induction a with
  | nil => simp [vws]
  | cons k ks ih => simp [vws, ih, Bool.and_assoc]
theorem itemsT_vw {n : Nat} {w : W} (h : vw n w = true) : vws n (itemsT w) = true := by
  cases w <;> simp [itemsT, vws, vw] at h ⊢
  exact h
theorem kids_vw {n : Nat} {w : W} (h : vw n w = true) : vws n (kids w) = true := by
  unfold kids
  split
  · rename_i s a
    simp [vw, vws] at h
    split
    · exact itemsT_vw h.2
    · split <;> simp [vws, h]
  · rename_i s a b
    simp [vw, vws] at h
    split
    · exact itemsT_vw h.2.2
    · split <;> simp [vws, vws_app, h, itemsT_vw h.2.1]
  · rfl
def isK (w : W) : Prop := ∃ k, wf k = true ∧ w = enc k
theorem mem_encs {ks : List Kd} {x : W} : x ∈ encs ks ↔ ∃ k ∈ ks, x = enc k := by
  rw [encs_map, List.mem_map]
  constructor
  · rintro ⟨k, h, e⟩; exact ⟨k, h, e.symm⟩
  · rintro ⟨k, h, e⟩; exact ⟨k, h, e.symm⟩
theorem list_isK {xs : List W} (h : ∀ x ∈ xs, isK x) : ∃ ks, xs = encs ks ∧ wfs ks = true := by
  induction xs with
  | nil => exact ⟨[], rfl, rfl⟩
  | cons x xs ih =>
    obtain ⟨ks, e, w⟩ := ih fun y hy => h y (List.mem_cons_of_mem _ hy)
    obtain ⟨k, hk, e2⟩ := h x List.mem_cons_self
    exact ⟨k :: ks, by rw [e, e2]; rfl, by simp [wfs, hk, w]⟩
theorem kids_enc (k : Kd) : kids (enc k) = encs (inn k) := by
  cases k <;> simp [enc, kids, inn, encs, itemsT, encs_app]
theorem hof_enc {k : Kd} (h : wf k = true) : hof (enc k) = true := by
  cases k <;> simp [enc, hof, isT, isNat, isTupB, encs_len, wf] at h ⊢ <;> omega
theorem isK_iff {w : W} : isK w ↔ hof w = true ∧ ∀ x ∈ kids w, isK x := by
  constructor
  · rintro ⟨k, hk, rfl⟩
    refine ⟨hof_enc hk, fun x hx => ?_⟩
    rw [kids_enc, mem_encs] at hx
    obtain ⟨k', m, rfl⟩ := hx
    exact ⟨k', (wfs_all _).mp (wf_inn hk) k' m, rfl⟩
  · rintro ⟨hf, hk⟩
    obtain ⟨ks, e, hw⟩ := list_isK hk
    unfold hof at hf
    split at hf
    · rename_i s
      simp at hf
      rcases hf with rfl | rfl
      · exact ⟨.num, rfl, rfl⟩
      · exact ⟨.nil, rfl, rfl⟩
    · rename_i s a
      simp at hf
      rcases hf with ⟨rfl, ht⟩ | rfl | ⟨rfl, hn⟩
      · cases a with
        | tup xs =>
          simp [kids, itemsT] at e
          subst e
          simp [isT, encs_len] at ht
          exact ⟨.row ks, by simp [wf, hw]; omega, by simp [enc]⟩
        | _ => simp [isT] at ht
      · simp [kids] at e
        match ks, e, hw with
        | [k], e, hw =>
          simp [encs] at e
          exact ⟨.box k, by simpa [wf, wfs] using hw, by simp [enc, e]⟩
        | [], e, _ => simp [encs] at e
        | _ :: _ :: _, e, _ => simp [encs] at e
      · cases a with
        | int i =>
          simp [isNat] at hn
          exact ⟨.letter i.toNat, rfl, by simp [enc]; omega⟩
        | _ => simp [isNat] at hn
    · rename_i s a b
      simp at hf
      rcases hf with ⟨rfl, hn, ht⟩ | ⟨rfl, ht⟩
      · cases a with
        | int i =>
          simp [isNat] at hn
          cases b with
          | tup xs =>
            simp [kids, itemsT] at e
            subst e
            exact ⟨.data i.toNat ks, by simp [wf, hw], by simp [enc]; omega⟩
          | _ => simp [isTupB] at ht
        | _ => simp [isNat] at hn
      · cases a with
        | tup xs =>
          simp [kids, itemsT] at e
          simp [isT] at ht
          have hl : ks.length = xs.length + 1 := by
            have := congrArg List.length e
            simp [encs_len] at this; omega
          have hne : ks ≠ [] := by intro z; subst z; simp at hl
          obtain ⟨ks', k, rfl⟩ : ∃ ks' k, ks = ks' ++ [k] := ⟨ks.dropLast, ks.getLast hne, (List.dropLast_concat_getLast hne).symm⟩
          rw [encs_app] at e
          have h2 := List.append_inj' e (by simp [encs])
          simp [encs] at h2
          obtain ⟨rfl, rfl⟩ := h2
          simp [wfs_app, wfs] at hw
          simp [encs_len] at ht
          exact ⟨.fn ks' k, by simp [wf, hw]; omega, by simp [enc]⟩
        | _ => simp [isT] at ht
    · cases hf
theorem kids_ok {w : W} {st : Sto} (h : hof w = true) (hv : vw st.length w = true) : F_kinds_within [w] st = some (.tup (kids w), st) := by
  unfold hof at h
  split at h
  · rename_i s
    have hs : okS s = true := by simp [vw, vws] at hv; exact hv
    simp at h
    rcases h with rfl | rfl <;> simp [F_kinds_within, fEq_str, kids]
  · rename_i s a
    simp at h
    rcases h with ⟨rfl, ht⟩ | rfl | ⟨rfl, hn⟩
    · cases a <;> simp [isT] at ht
      simp [F_kinds_within, fEq_str, kids, itemsT]
    · simp [F_kinds_within, fEq_str, kids, itemsT]
    · simp [F_kinds_within, fEq_str, kids, itemsT]
  · rename_i s a b
    simp at h
    rcases h with ⟨rfl, hn, ht⟩ | ⟨rfl, ht⟩
    · cases b <;> simp [isTupB] at ht
      simp [F_kinds_within, fEq_str, kids, itemsT]
    · cases a <;> simp [isT] at ht
      rename_i xs
      have hz : sml (xs.length + 1) = true := sml_of (by omega)
      simp [F_kinds_within, fEq_str, kids, itemsT, hz]
  · cases h
theorem law_kids_ok {w : W} {st : Sto} (h : hof w = true) (hv : vw st.length w = true) : F__law_inner [w] st = some (.tup (kids w), st) := by
  unfold hof at h
  split at h
  · rename_i s
    simp at h
    rcases h with rfl | rfl <;> simp [F__law_inner, fEq_str, kids]
  · rename_i s a
    simp at h
    rcases h with ⟨rfl, ht⟩ | rfl | ⟨rfl, hn⟩
    · cases a <;> simp [isT] at ht
      simp [F__law_inner, fEq_str, kids, itemsT]
    · simp [F__law_inner, fEq_str, kids, itemsT]
    · simp [F__law_inner, fEq_str, kids, itemsT]
  · rename_i s a b
    simp at h
    rcases h with ⟨rfl, hn, ht⟩ | ⟨rfl, ht⟩
    · cases b <;> simp [isTupB] at ht
      simp [F__law_inner, fEq_str, kids, itemsT]
    · cases a <;> simp [isT] at ht
      rename_i xs
      have hz : sml (xs.length + 1) = true := sml_of (by omega)
      simp [F__law_inner, fEq_str, kids, itemsT, hz]
  · cases h
theorem sml_le {n : Nat} (h : n ≤ 1000000) : sml n = true := sml_of h
theorem all_snoc {P : W → Prop} {S : List W} {w : W} : (∀ x ∈ S ++ [w], P x) ↔ (∀ x ∈ S, P x) ∧ P w := by
  simp [or_imp, forall_and]
theorem all_app {P : W → Prop} {S T : List W} : (∀ x ∈ S ++ T, P x) ↔ (∀ x ∈ S, P x) ∧ (∀ x ∈ T, P x) := by
  simp [or_imp, forall_and]
/-! ### is_kind -/
theorem isk_loop (t : W) (q : Nat) : ∀ (n : Nat) (S : List W) (o : Option W) (st : Sto), st[q]? = some (.lst S) → vws st.length S = true → sws S < n → sws S ≤ 1000000 →
    ∃ fl env' st', sWhile wt1_is_kind wb1_is_kind n [some t, some (.ref q), o] st = some ((fl, env'), st') ∧ Fr (fun i => i = q) st st' ∧
      ((fl = .nx ∧ ∀ x ∈ S, isK x) ∨ (fl = .rt (.bl false) ∧ ¬ ∀ x ∈ S, isK x)) := by
  intro n
  induction n with
  | zero => intro S o st _ _ h _; omega
  | succ n ih =>
    intro S o st hq hv hn hm
    rcases List.eq_nil_or_concat S with rfl | ⟨S0, w, rfl⟩
    · exact ⟨.nx, [some t, some (.ref q), o], st, by simp [sWhile, wt1_is_kind, hq], .refl, .inl ⟨rfl, by simp⟩⟩
    · rw [List.concat_eq_append] at *
      rw [sws_app] at hn hm
      rw [vws_app, Bool.and_eq_true] at hv
      have hw : vw st.length w = true := by simpa [vws] using hv.2
      have hsw : sws [w] = sw w := by simp [sws]
      have f1 : Fr (fun i => i = q) st (st.set q (.lst S0)) := .set _ rfl
      have q1 : (st.set q (.lst S0))[q]? = some (.lst S0) := List.getElem?_set_self (lt_of_get hq)
      obtain ⟨st2, e2, g2⟩ := outer_ok (st := st.set q (.lst S0)) (w := w) (f1.vw hw)
      have q2 := g2.get q1 (by simp)
      cases hf : hof w with
      | false =>
        rw [hf] at e2
        refine ⟨.rt (.bl false), [some t, some (.ref q), some w], st2, ?_, f1.trans g2.any, .inr ⟨rfl, fun z => ?_⟩⟩
        · simp [sWhile, wt1_is_kind, wb1_is_kind, hq, e2]
        · have := (isK_iff.mp ((all_snoc.mp z).2)).1
          rw [hf] at this; cases this
      | true =>
        rw [hf] at e2
        have hk := kids_sw w
        have hlen := len_sws (S0 ++ kids w)
        rw [sws_app] at hlen
        have hz : sml (S0.length + (kids w).length) = true := sml_le (by simp at hlen; omega)
        have f2 : Fr (fun i => i = q) st st2 := f1.trans g2.any
        have e3 := kids_ok (st := st2) hf (f2.vw hw)
        have q3 : (st2.set q (.lst (S0 ++ kids w)))[q]? = some (.lst (S0 ++ kids w)) := List.getElem?_set_self (lt_of_get q2)
        have f3 : Fr (fun i => i = q) st (st2.set q (.lst (S0 ++ kids w))) := f2.trans (.set _ rfl)
        obtain ⟨fl, env', st', e4, f4, r⟩ := ih (S0 ++ kids w) (some w) _ q3 (by rw [vws_app, Bool.and_eq_true]; exact ⟨f3.vws hv.1, f3.vws (kids_vw hw)⟩) (by rw [sws_app]; omega) (by rw [sws_app]; omega)
        refine ⟨fl, env', st', ?_, f3.trans f4, ?_⟩
        · rw [← e4]
          simp [sWhile, wt1_is_kind, wb1_is_kind, hq, e2, e3, q2, hz]
        · rw [all_snoc, isK_iff, hf]
          rw [all_app] at r
          simpa using r
open Classical in
theorem is_kind_ok {w : W} {st : Sto} (hv : vw st.length w = true) (hs : sw w < 1000000) : ∃ st', F_is_kind [w] st = some (.bl (decide (isK w)), st') ∧ Gr st st' := by
  have f0 : Gr st (st ++ [SO.lst [w]]) := .app _
  have h1 : sws [w] = sw w := by simp [sws]
  obtain ⟨fl, env', st', e, f, r⟩ := isk_loop w st.length 1000000 [w] none (st ++ [.lst [w]]) (by simp) (f0.vws (by simpa [vws] using hv)) (by omega) (by omega)
  have g : Gr st st' := f0.own f (fun i hi e => by omega)
  refine ⟨st', ?_, g⟩
  rcases r with ⟨rfl, r⟩ | ⟨rfl, r⟩
  · have : isK w := r w (by simp)
    simp [F_is_kind, e, this]
  · have : ¬ isK w := fun z => r (by simpa using z)
    simp [F_is_kind, e, this]
theorem law_isk_loop (t : W) (q : Nat) : ∀ (n : Nat) (S : List W) (o : Option W) (st : Sto), st[q]? = some (.lst S) → vws st.length S = true → sws S < n → sws S ≤ 1000000 →
    ∃ fl env' st', sWhile wt1__law_is_kind wb1__law_is_kind n [some t, some (.ref q), o] st = some ((fl, env'), st') ∧ Fr (fun i => i = q) st st' ∧
      ((fl = .nx ∧ ∀ x ∈ S, isK x) ∨ (fl = .rt (.bl false) ∧ ¬ ∀ x ∈ S, isK x)) := by
  intro n
  induction n with
  | zero => intro S o st _ _ h _; omega
  | succ n ih =>
    intro S o st hq hv hn hm
    rcases List.eq_nil_or_concat S with rfl | ⟨S0, w, rfl⟩
    · exact ⟨.nx, [some t, some (.ref q), o], st, by simp [sWhile, wt1__law_is_kind, hq], .refl, .inl ⟨rfl, by simp⟩⟩
    · rw [List.concat_eq_append] at *
      rw [sws_app] at hn hm
      rw [vws_app, Bool.and_eq_true] at hv
      have hw : vw st.length w = true := by simpa [vws] using hv.2
      have hsw : sws [w] = sw w := by simp [sws]
      have f1 : Fr (fun i => i = q) st (st.set q (.lst S0)) := .set _ rfl
      have q1 : (st.set q (.lst S0))[q]? = some (.lst S0) := List.getElem?_set_self (lt_of_get hq)
      obtain ⟨st2, e2, g2⟩ := law_form_ok (st := st.set q (.lst S0)) (w := w) (f1.vw hw)
      have q2 := g2.get q1 (by simp)
      have hgt : ((0 : Int) < (S0.length : Int) + 1) = True := eq_true (by omega)
      cases hf : hof w with
      | false =>
        rw [hf] at e2
        refine ⟨.rt (.bl false), [some t, some (.ref q), some w], st2, ?_, f1.trans g2.any, .inr ⟨rfl, fun z => ?_⟩⟩
        · simp [sWhile, wt1__law_is_kind, wb1__law_is_kind, hq, e2, hgt]
        · have := (isK_iff.mp ((all_snoc.mp z).2)).1
          rw [hf] at this; cases this
      | true =>
        rw [hf] at e2
        have hk := kids_sw w
        have hlen := len_sws (S0 ++ kids w)
        rw [sws_app] at hlen
        have hz : sml (S0.length + (kids w).length) = true := sml_le (by simp at hlen; omega)
        have f2 : Fr (fun i => i = q) st st2 := f1.trans g2.any
        have e3 := law_kids_ok (st := st2) hf (f2.vw hw)
        have fa : Fr (fun i => i = q) st (st2 ++ [SO.lst (kids w)]) := f2.trans (.app _)
        have qa : (st2 ++ [SO.lst (kids w)])[q]? = some (.lst S0) := by
          rw [List.getElem?_append_left (lt_of_get q2)]; exact q2
        have q3 : ((st2 ++ [SO.lst (kids w)]).set q (.lst (S0 ++ kids w)))[q]? = some (.lst (S0 ++ kids w)) := List.getElem?_set_self (lt_of_get qa)
        have f3 : Fr (fun i => i = q) st ((st2 ++ [SO.lst (kids w)]).set q (.lst (S0 ++ kids w))) := fa.trans (.set _ rfl)
        obtain ⟨fl, env', st', e4, f4, r⟩ := ih (S0 ++ kids w) (some w) _ q3 (by rw [vws_app, Bool.and_eq_true]; exact ⟨f3.vws hv.1, f3.vws (kids_vw hw)⟩) (by rw [sws_app]; omega) (by rw [sws_app]; omega)
        refine ⟨fl, env', st', ?_, f3.trans f4, ?_⟩
        · rw [← e4]
          simp [sWhile, wt1__law_is_kind, wb1__law_is_kind, hq, e2, e3, q2, qa, hz, hgt]
        · rw [all_snoc, isK_iff, hf]
          rw [all_app] at r
          simpa using r
open Classical in
theorem law_is_kind_ok {w : W} {st : Sto} (hv : vw st.length w = true) (hs : sw w < 1000000) : ∃ st', F__law_is_kind [w] st = some (.bl (decide (isK w)), st') ∧ Gr st st' := by
  have f0 : Gr st (st ++ [SO.lst [w]]) := .app _
  have h1 : sws [w] = sw w := by simp [sws]
  obtain ⟨fl, env', st', e, f, r⟩ := law_isk_loop w st.length 1000000 [w] none (st ++ [.lst [w]]) (by simp) (f0.vws (by simpa [vws] using hv)) (by omega) (by omega)
  have g : Gr st st' := f0.own f (fun i hi e => by omega)
  refine ⟨st', ?_, g⟩
  rcases r with ⟨rfl, r⟩ | ⟨rfl, r⟩
  · have : isK w := r w (by simp)
    simp [F__law_is_kind, e, this]
  · have : ¬ isK w := fun z => r (by simpa using z)
    simp [F__law_is_kind, e, this]
end K01

set_option Elab.async false
set_option linter.all false
set_option maxRecDepth 100000
set_option maxHeartbeats 1000000
namespace K01
open PySem PySem.Spec L2 B
set_option autoImplicit false
/-! ### walks -/
theorem comp_go {src : Src} {p : Pat} {t : TM} {e : EM} {k : Nat} {env : En} (xs : List W) (Inv : Nat → List W → Sto → Prop)
    (hsrc : ∀ j ys st, Inv j ys st → j ≤ xs.length → src j st = some xs[j]?)
    (step : ∀ j ys st x, Inv j ys st → st[k]? = some (.lst ys) → xs[j]? = some x → ∃ env1 b, p.asg x env st = some (env1, st) ∧ t env1 st = some (b, st) ∧
      (b = false → Inv (j + 1) ys st) ∧ (b = true → ∃ y st1, e env1 st = some (y, st1) ∧ st1[k]? = some (.lst ys) ∧ Inv (j + 1) (ys ++ [y]) (st1.set k (.lst (ys ++ [y])))))
    (hx : xs.length ≤ 1000000) : ∀ (n j : Nat) (ys : List W) (st : Sto), Inv j ys st → st[k]? = some (.lst ys) → j ≤ xs.length → ys.length ≤ j → xs.length - j < n →
      ∃ ys' st', compGo src p t e k n j env st = some ((), st') ∧ Inv xs.length ys' st' ∧ st'[k]? = some (.lst ys') ∧ ys'.length ≤ xs.length := by
  intro n
  induction n with
  | zero => intro j ys st _ _ _ _ h; omega
  | succ n ih =>
    intro j ys st I hk hj hy hn
    have hs := hsrc j ys st I hj
    by_cases c : j < xs.length
    · rw [List.getElem?_eq_getElem c] at hs
      obtain ⟨env1, b, e1, e2, e3, e4⟩ := step j ys st _ I hk (List.getElem?_eq_getElem c)
      cases b with
      | false =>
        obtain ⟨ys', st', r1, r2⟩ := ih (j + 1) ys st (e3 rfl) hk (by omega) (by omega) (by omega)
        exact ⟨ys', st', by simp [compGo, hs, e1, e2, r1], r2⟩
      | true =>
        obtain ⟨y, st1, e5, e6, e7⟩ := e4 rfl
        obtain ⟨ys', st', r1, r2⟩ := ih (j + 1) (ys ++ [y]) _ e7 (List.getElem?_set_self (lt_of_get e6)) (by omega) (by simp; omega) (by omega)
        have hz : sml (ys.length + 1) = true := sml_le (by omega)
        exact ⟨ys', st', by simp [compGo, hs, e1, e2, e5, push, e6, hz, r1], r2⟩
    · have : j = xs.length := by omega
      subst this
      simp at hs
      exact ⟨ys, st, by simp [compGo, hs], I, hk, hy⟩
theorem eComp_of {i : IM} {p : Pat} {vs : List Nat} {t : TM} {e : EM} {n : Nat} {env : En} {st st0 st' : Sto} {src : Src} (hi : i env st = some (src, st0))
    (hc : compGo src p t e st0.length n 0 (wipeE env vs) (st0 ++ [.lst []]) = some ((), st')) : eComp i p vs t e n env st = some (.ref st0.length, st') := by
  simp [eComp, hi, hc]
theorem for_go {src : Src} {p : Pat} {b : SM} (xs : List W) (Inv : Nat → En → Sto → Prop) (Ret : W → Sto → Prop)
    (hsrc : ∀ j env st, Inv j env st → j ≤ xs.length → src j st = some xs[j]?)
    (step : ∀ j env st x, Inv j env st → xs[j]? = some x → ∃ env1 fl env2 st2, p.asg x env st = some (env1, st) ∧ b env1 st = some ((fl, env2), st2) ∧ ((fl = .nx ∧ Inv (j + 1) env2 st2) ∨ ∃ w, fl = .rt w ∧ Ret w st2)) :
    ∀ (n j : Nat) (env : En) (st : Sto), Inv j env st → j ≤ xs.length → xs.length - j < n →
      ∃ fl env' st', forGo src p b n j env st = some ((fl, env'), st') ∧ ((fl = .nx ∧ Inv xs.length env' st') ∨ ∃ w, fl = .rt w ∧ Ret w st') := by
  intro n
  induction n with
  | zero => intro j env st _ _ h; omega
  | succ n ih =>
    intro j env st I hj hn
    have hs := hsrc j env st I hj
    by_cases c : j < xs.length
    · rw [List.getElem?_eq_getElem c] at hs
      obtain ⟨env1, fl, env2, st2, e1, e2, r⟩ := step j env st _ I (List.getElem?_eq_getElem c)
      rcases r with ⟨rfl, r⟩ | ⟨w, rfl, r⟩
      · obtain ⟨fl', env', st', r1, r2⟩ := ih (j + 1) env2 st2 r (by omega) (by omega)
        exact ⟨fl', env', st', by simp [forGo, hs, e1, e2, r1], r2⟩
      · exact ⟨.rt w, env2, st2, by simp [forGo, hs, e1, e2], .inr ⟨w, rfl, r⟩⟩
    · have : j = xs.length := by omega
      subst this
      simp at hs
      exact ⟨.nx, env, st, by simp [forGo, hs], .inl ⟨rfl, I⟩⟩
theorem atI_nat {α : Type} (xs : List α) (n : Nat) (h : n < xs.length) : atI xs (n : Int) = xs[n]? := by
  have e : ixN xs.length (n : Int) = some n := by unfold ixN; rw [if_pos (by omega), if_pos (by omega)]; simp
  unfold atI; rw [e]; rfl
theorem encs_rev (a : List Kd) : (encs a).reverse = encs a.reverse := by simp [encs_map]
/-! ### all kinds -/
theorem ak_loop (t : W) (q1 q2 : Nat) (hne : q1 ≠ q2) : ∀ (n : Nat) (S : List Kd) (A : List W) (o : Option W) (st : Sto), st[q1]? = some (.lst A) → st[q2]? = some (.lst (encs S)) → wfs S = true → szs S < n → A.length + szs S ≤ 1000000 →
    ∃ o' st', sWhile wt1_all_kinds wb1_all_kinds n [some t, some (.ref q1), some (.ref q2), o] st = some ((.nx, [some t, some (.ref q1), some (.ref q2), o']), st') ∧ Fr (fun i => i = q1 ∨ i = q2) st st' ∧ st'[q1]? = some (.lst (A ++ encs (pres S.reverse))) := by
  intro n
  induction n with
  | zero => intro S A o st _ _ _ h _; omega
  | succ n ih =>
    intro S A o st h1 h2 hw hn hm
    rcases List.eq_nil_or_concat S with rfl | ⟨S0, k, rfl⟩
    · exact ⟨o, st, by simp [sWhile, wt1_all_kinds, h2, encs], .refl, by simp [pres, encs, h1]⟩
    · rw [List.concat_eq_append] at *
      rw [szs_app] at hn hm
      rw [wfs_app, Bool.and_eq_true] at hw
      have hk : wf k = true := by simpa [wfs] using hw.2
      have hsk : szs [k] = sz k := by simp [szs]
      have hp := sz_inn k
      have hl := encs_len (inn k)
      have hl2 : ∀ ks : List Kd, ks.length ≤ szs ks := fun ks => by rw [← pres_len]; induction ks with
        | nil => simp
        | cons x xs ih => have := sz_pos x; rw [← pre_len] at this; simp [pres]; omega
      have hz1 : sml (A.length + 1) = true := sml_le (by omega)
      have hz2 : sml (S0.length + (inn k).length) = true := sml_le (by have := hl2 S0; have := hl2 (inn k); omega)
      have e0 : encs (S0 ++ [k]) = encs S0 ++ [enc k] := by simp [encs_app, encs]
      rw [e0] at h2
      let sa := st.set q2 (.lst (encs S0))
      have a1 : sa[q1]? = some (.lst A) := by simp only [sa]; rw [List.getElem?_set_ne (Ne.symm hne)]; exact h1
      have a2 : sa[q2]? = some (.lst (encs S0)) := List.getElem?_set_self (lt_of_get h2)
      let sb := sa.set q1 (.lst (A ++ [enc k]))
      have b1 : sb[q1]? = some (.lst (A ++ [enc k])) := List.getElem?_set_self (lt_of_get a1)
      have b2 : sb[q2]? = some (.lst (encs S0)) := by simp only [sb]; rw [List.getElem?_set_ne hne]; exact a2
      have e3 := within_ok k (wf_fnS hk) sb
      let sc := sb.set q2 (.lst (encs S0 ++ (encs (inn k)).reverse))
      have c1 : sc[q1]? = some (.lst (A ++ [enc k])) := by simp only [sc]; rw [List.getElem?_set_ne (Ne.symm hne)]; exact b1
      have c2 : sc[q2]? = some (.lst (encs (S0 ++ (inn k).reverse))) := by rw [encs_app, ← encs_rev]; exact List.getElem?_set_self (lt_of_get b2)
      have f : Fr (fun i => i = q1 ∨ i = q2) st sc := ((Fr.set _ (Or.inr rfl)).trans (Fr.set _ (Or.inl rfl))).trans (Fr.set _ (Or.inr rfl))
      obtain ⟨o', st', r1, r2, r3⟩ := ih (S0 ++ (inn k).reverse) (A ++ [enc k]) (some (enc k)) sc c1 c2 (by rw [wfs_app, Bool.and_eq_true]; exact ⟨hw.1, (wfs_all _).mpr fun x hx => (wfs_all _).mp (wf_inn hk) x (by simpa using hx)⟩) (by rw [szs_app, szs_rev]; omega) (by rw [szs_app, szs_rev]; simp; omega)
      refine ⟨o', st', ?_, f.trans r2, ?_⟩
      · rw [← r1]
        simp [sWhile, wt1_all_kinds, wb1_all_kinds, h2, sa, a1, a2, sb, b1, b2, e3, hz1, hz2, sc, encs_len]
      · rw [r3]
        simp [pres_app, pres, pre_inn k, encs_app, encs]
theorem all_kinds_ok {k : Kd} {st : Sto} (hw : wf k = true) (hs : sz k < 1000000) : ∃ q st', F_all_kinds [enc k] st = some (.ref q, st') ∧ Gr st st' ∧ st.length ≤ q ∧ st'[q]? = some (.lst (encs (pre k))) := by
  obtain ⟨o', st', r1, r2, r3⟩ := ak_loop (enc k) st.length (st.length + 1) (by omega) 1000000 [k] [] none (st ++ [.lst [], .lst [enc k]]) (by simp) (by simp [encs]) (by simpa [wfs] using hw) (by simpa [szs] using hs) (by simp [szs]; omega)
  refine ⟨st.length, st', by simp [F_all_kinds, r1], (Fr.app _).own r2 (fun i hi e => by omega), Nat.le_refl _, ?_⟩
  rw [r3]; simp [pres]
theorem ai_loop (t : W) (q : Nat) : ∀ (n : Nat) (Bs A : List Kd) (st : Sto), st[q]? = some (.lst (encs (A ++ Bs))) → wfs Bs = true → szs Bs < n → A.length + szs Bs ≤ 1000000 →
    ∃ st' at' L, sWhile wt1__law_all_in wb1__law_all_in n [some t, some (.ref q), some (.int A.length)] st = some ((.nx, [some t, some (.ref q), some at']), st') ∧ Fr (fun i => i = q) st st' ∧ st'[q]? = some (.lst (encs L)) ∧
      L.length = A.length + szs Bs ∧ ∀ x, x ∈ L ↔ x ∈ A ∨ x ∈ pres Bs := by
  intro n
  induction n with
  | zero => intro S A st _ _ h _; omega
  | succ n ih =>
    intro Bs A st h1 hw hn hm
    cases Bs with
    | nil =>
      refine ⟨st, .int A.length, A, ?_, .refl, by simpa using h1, by simp [szs], by simp [pres]⟩
      simp [sWhile, wt1__law_all_in, h1, encs_len]
    | cons k Bs =>
      simp only [szs] at hn hm
      simp only [wfs, Bool.and_eq_true] at hw
      have hp := sz_inn k
      have hl2 : ∀ ks : List Kd, ks.length ≤ szs ks := fun ks => by rw [← pres_len]; induction ks with
        | nil => simp
        | cons x xs ih => have := sz_pos x; rw [← pre_len] at this; simp [pres]; omega
      have hz : sml ((A.length + (Bs.length + 1)) + (inn k).length) = true := sml_le (by have := hl2 Bs; have := hl2 (inn k); omega)
      have hat : atI (encs (A ++ k :: Bs)) (A.length : Int) = some (enc k) := by
        rw [atI_nat _ _ (by rw [encs_len]; simp)]
        simp [encs_app, encs, encs_len]
      have e2 := inner_ok k (wf_fnS hw.1) st
      have a1 : (st ++ [SO.lst (encs (inn k))])[q]? = some (.lst (encs (A ++ k :: Bs))) := by rw [List.getElem?_append_left (lt_of_get h1)]; exact h1
      let sc := (st ++ [SO.lst (encs (inn k))]).set q (.lst (encs (A ++ k :: Bs) ++ encs (inn k)))
      have c1 : sc[q]? = some (.lst (encs ((A ++ [k]) ++ (Bs ++ inn k)))) := by
        have : encs (A ++ k :: Bs) ++ encs (inn k) = encs ((A ++ [k]) ++ (Bs ++ inn k)) := by simp [encs_app, encs]
        rw [← this]; exact List.getElem?_set_self (lt_of_get a1)
      have f : Fr (fun i => i = q) st sc := (Fr.app _).trans (Fr.set _ rfl)
      obtain ⟨st', at', L, r1, r2, r3, r4, r5⟩ := ih (Bs ++ inn k) (A ++ [k]) sc c1 (by rw [wfs_app, hw.2, wf_inn hw.1]; rfl) (by rw [szs_app]; omega) (by rw [szs_app]; simp; omega)
      refine ⟨st', at', L, ?_, f.trans r2, r3, by rw [r4, szs_app]; simp [szs]; omega, fun x => ?_⟩
      · rw [← r1]
        have hlt : ((A.length : Int) < (A.length : Int) + ((Bs.length : Int) + 1)) = True := eq_true (by omega)
        simp [sWhile, wt1__law_all_in, wb1__law_all_in, h1, hat, e2, a1, encs_len, hz, sc, hlt]
      · rw [r5]
        simp only [pres_app, pres, pre_inn k, List.mem_append, List.mem_cons, List.not_mem_nil, or_false]
        grind
theorem all_in_ok {k : Kd} {st : Sto} (hw : wf k = true) (hs : sz k < 1000000) : ∃ q st' L, F__law_all_in [enc k] st = some (.ref q, st') ∧ Gr st st' ∧ st.length ≤ q ∧ st'[q]? = some (.lst (encs L)) ∧ L.length = sz k ∧ ∀ x, x ∈ L ↔ x ∈ pre k := by
  obtain ⟨st', at', L, r1, r2, r3, r4, r5⟩ := ai_loop (enc k) st.length 1000000 [k] [] (st ++ [.lst [enc k]]) (by simp [encs]) (by simpa [wfs] using hw) (by simpa [szs] using hs) (by simp [szs]; omega)
  simp at r1
  refine ⟨st.length, st', L, by simp [F__law_all_in, r1], (Fr.app _).own r2 (fun i hi e => by omega), Nat.le_refl _, r3, by simpa [szs] using r4, fun x => ?_⟩
  rw [r5]; simp [pres]
end K01

set_option Elab.async false
set_option linter.all false
set_option maxRecDepth 100000
set_option maxHeartbeats 1000000
namespace K01
open PySem PySem.Spec L2 B
set_option autoImplicit false
def ltr : Kd → Option Int
  | .letter n => some n
  | _ => none
def lets (L : List Kd) : List Int := L.filterMap ltr
def lot (k : Kd) : List Int := insAll (lets (pre k))
theorem mem_lets {L : List Kd} {x : Int} : x ∈ lets L ↔ ∃ n : Nat, x = n ∧ Kd.letter n ∈ L := by
  unfold lets
  rw [List.mem_filterMap]
  constructor
  · rintro ⟨k, hk, e⟩
    cases k <;> simp [ltr] at e
    exact ⟨_, e.symm, hk⟩
  · rintro ⟨n, rfl, h⟩
    exact ⟨_, h, rfl⟩
theorem inc_len : ∀ (xs : List Int) (a b : Int), a ≤ b → xs.Pairwise (· < ·) → (∀ x ∈ xs, a ≤ x ∧ x < b) → (xs.length : Int) ≤ b - a
  | [], a, b, h, _, _ => by simp; omega
  | x :: xs, a, b, h, hp, hx => by
    rw [List.pairwise_cons] at hp
    have h1 := hx x List.mem_cons_self
    have := inc_len xs (x + 1) b (by omega) hp.2 fun y hy => ⟨by have := hp.1 y hy; omega, (hx y (List.mem_cons_of_mem _ hy)).2⟩
    simp; omega
theorem lot_mem {k : Kd} {x : Int} : x ∈ lot k ↔ ∃ n : Nat, x = n ∧ Kd.letter n ∈ pre k := by
  unfold lot; rw [mem_insAll, mem_lets]
theorem sh_letter : SeqAt.shaped (.str "letter") = true := ok_letter
theorem sh_num : SeqAt.shaped (.str "num") = true := ok_num
theorem sh_nil : SeqAt.shaped (.str "nil") = true := ok_nil
theorem sh_row : SeqAt.shaped (.str "row") = true := ok_row
theorem sh_data : SeqAt.shaped (.str "data") = true := ok_data
theorem sh_fun : SeqAt.shaped (.str "fun") = true := ok_fun
theorem sh_box : SeqAt.shaped (.str "box") = true := ok_box
theorem pick_ok (m : Nat) (hm : m ≤ 60) : ∀ (L : List Kd) (acc : List Int), acc.Pairwise (· < ·) → (∀ x ∈ acc, 0 ≤ x ∧ x < (m : Int)) → (∀ n, Kd.letter n ∈ L → n < m) →
    ∃ out, pickGo 1 0 "letter" (encs L) acc = some out ∧ out.Pairwise (· < ·) ∧ (∀ x, x ∈ out ↔ x ∈ acc ∨ x ∈ lets L)
  | [], acc, hp, ha, hl => ⟨acc, by simp [encs, pickGo], hp, fun x => by simp [lets]⟩
  | k :: L, acc, hp, ha, hl => by
    have hl' : ∀ n, Kd.letter n ∈ L → n < m := fun n h => hl n (List.mem_cons_of_mem _ h)
    have hlen := inc_len acc 0 m (by omega) hp ha
    cases k with
    | letter n =>
      have hn := hl n List.mem_cons_self
      obtain ⟨out, r1, r2, r3⟩ := pick_ok m hm L (insU n acc) (pw_insU _ _ hp) (fun x hx => by
        rw [mem_insU] at hx
        rcases hx with hx | rfl
        · exact ha x hx
        · omega) hl'
      have hz : acc.length + 1 < 64 := by omega
      refine ⟨out, by simp [encs, enc, pickGo, sh_letter, hz, r1], r2, fun x => ?_⟩
      rw [r3, mem_insU]
      simp [lets, ltr]
      grind
    | _ =>
      obtain ⟨out, r1, r2, r3⟩ := pick_ok m hm L acc hp ha hl'
      refine ⟨out, by simp [encs, enc, pickGo, sh_letter, sh_num, sh_nil, sh_row, sh_data, sh_fun, sh_box, r1], r2, fun x => ?_⟩
      rw [r3]
      simp [lets, ltr]
mutual
theorem sw_enc : ∀ k : Kd, sw (enc k) ≤ 4 * sz k
  | .num => by simp [enc, sw, sws, sz]
  | .nil => by simp [enc, sw, sws, sz]
  | .letter _ => by simp [enc, sw, sws, sz]
  | .row ks => by have := sws_enc ks; simp [enc, sw, sws, sz]; omega
  | .data _ ks => by have := sws_enc ks; simp [enc, sw, sws, sz]; omega
  | .fn ks r => by have := sws_enc ks; have := sw_enc r; simp [enc, sw, sws, sz]; omega
  | .box k => by have := sw_enc k; simp [enc, sw, sws, sz]; omega
theorem sws_enc : ∀ ks : List Kd, sws (encs ks) ≤ 4 * szs ks
  | [] => by simp [encs, sws, szs]
  | k :: ks => by have := sws_enc ks; have := sw_enc k; simp [encs, sws, szs]; omega
end
theorem kind_true {k : Kd} {st : Sto} (hw : wf k = true) (hs : sz k < 200000) : ∃ st', F_is_kind [enc k] st = some (.bl true, st') ∧ Gr st st' := by
  have h := sw_enc k
  obtain ⟨st', e, g⟩ := is_kind_ok (vw_enc st.length k) (st := st) (by omega)
  have : isK (enc k) := ⟨k, hw, rfl⟩
  simp only [this, decide_true] at e
  exact ⟨st', e, g⟩
theorem letters_in_ok {k : Kd} {st : Sto} (hw : wf k = true) (hs : sz k < 200000) (m : Nat) (hm : m ≤ 60) (hl : ∀ n, Kd.letter n ∈ pre k → n < m) :
    ∃ st', F_letters_in [enc k] st = some (.tup ((lot k).map .int), st') ∧ Gr st st' := by
  obtain ⟨st1, e1, g1⟩ := kind_true (st := st) hw hs
  obtain ⟨q, st2, e2, g2, _, h2⟩ := all_kinds_ok (st := st1) hw (by omega)
  obtain ⟨out, r1, r2, r3⟩ := pick_ok m hm (pre k) [] List.Pairwise.nil (by simp) hl
  have hout : out = lot k := pw_uniq r2 (pw_insAll _) fun x => by rw [r3]; unfold lot; rw [mem_insAll]; simp
  subst hout
  exact ⟨st2 ++ [.lst ((lot k).map .int)], by simp [F_letters_in, e1, e2, h2, r1], (g1.trans g2).trans (.app _)⟩
theorem lets_take {L : List Kd} {j : Nat} {k : Kd} (h : L[j]? = some k) : lets (L.take (j + 1)) = lets (L.take j) ++ (ltr k).toList := by
  unfold lets
  rw [List.take_succ, h, List.filterMap_append]
  cases e : ltr k <;> simp [e]
theorem encs_get {L : List Kd} {j : Nat} {x : W} (h : (encs L)[j]? = some x) : ∃ k, L[j]? = some k ∧ x = enc k := by
  rw [encs_map, List.getElem?_map] at h
  cases e : L[j]? with
  | none => rw [e] at h; simp at h
  | some k => rw [e] at h; simp at h; exact ⟨k, rfl, h.symm⟩
theorem intsW_map (xs : List Int) : intsW (xs.map .int) = some xs := by
  induction xs with
  | nil => rfl
  | cons x xs ih => simp [intsW, ih]
theorem law_letters_ok {k : Kd} {st : Sto} (hw : wf k = true) (hs : sz k < 4000) (m : Nat) (hm : m ≤ 60) (hl : ∀ n, Kd.letter n ∈ pre k → n < m) :
    ∃ st', F__law_letters [enc k] st = some (.tup ((lot k).map .int), st') ∧ Gr st st' := by
  obtain ⟨q, st1, L, e1, g1, hq, h1, hL, hm1⟩ := all_in_ok (st := st) hw (by omega)
  have hq1 := lt_of_get h1
  let env0 : En := wipeE [some (enc k), none] [1]
  obtain ⟨ys, st2, r1, ⟨r2, r3⟩, r4, r5⟩ := comp_go (src := srcRef q) (p := .nm 1) (t := ct1__law_letters) (e := ce1__law_letters) (k := st1.length) (env := env0) (encs L)
    (fun j ys s => Fr (fun i => i = st1.length) (st1 ++ [.lst []]) s ∧ ys = (lets (L.take j)).map .int)
    (fun j ys s I _ => by
      have := I.1.get (i := q) (o := .lst (encs L)) (by rw [List.getElem?_append_left hq1]; exact h1) (by omega)
      simp [srcRef, this])
    (fun j ys s x I hk hx => by
      obtain ⟨kk, hk2, rfl⟩ := encs_get hx
      refine ⟨[some (enc k), some (enc kk)], (ltr kk).isSome, ?_, ?_, ?_, ?_⟩
      · simp [env0, wipeE]
      · cases kk <;> simp [ct1__law_letters, enc, fEq_str, ltr]
      · intro hb
        refine ⟨I.1, ?_⟩
        rw [lets_take hk2, I.2]
        cases hle : ltr kk with
        | none => simp
        | some _ => rw [hle] at hb; simp at hb
      · intro hb
        cases kk <;> simp [ltr] at hb
        rename_i nn
        refine ⟨.int nn, s, by simp [ce1__law_letters, enc], hk, I.1.trans (.set _ rfl), ?_⟩
        rw [lets_take hk2, I.2]
        simp [ltr])
    (by rw [encs_len]; omega) 1000000 0 [] (st1 ++ [.lst []]) ⟨.refl, by simp [lets]⟩ (by simp) (by omega) (by simp) (by rw [encs_len]; omega)
  rw [encs_len, List.take_length] at r3
  subst r3
  have hins : insAll (lets L) = lot k := pw_uniq (pw_insAll _) (pw_insAll _) fun x => by
    unfold lot
    rw [mem_insAll, mem_insAll, mem_lets, mem_lets]
    constructor
    · rintro ⟨n, rfl, h⟩; exact ⟨n, rfl, (hm1 _).mp h⟩
    · rintro ⟨n, rfl, h⟩; exact ⟨n, rfl, (hm1 _).mpr h⟩
  have hll := inc_len (lot k) 0 m (by omega) (pw_insAll _) fun x hx => by
    obtain ⟨n, rfl, h⟩ := lot_mem.mp hx
    have := hl n h
    omega
  have hz1 : (lets L).length < 4000 := by
    have := List.length_filterMap_le ltr L
    unfold lets; omega
  have hz2 : (lot k).length < 64 := by omega
  have ec := eComp_of (i := iSeq (eCall F__law_all_in (aCons (eVar 0) aNil))) (p := .nm 1) (vs := [1]) (t := ct1__law_letters) (e := ce1__law_letters) (n := 1000000) (env := [some (enc k), none]) (st := st) (st0 := st1) (src := srcRef q)
    (by simp [iSeq, e1, h1]) r1
  refine ⟨st2 ++ [.lst ((lot k).map .int)], ?_, ?_⟩
  · simp [F__law_letters, ec, r4, intsW_map, hz1, hins, hz2]
  · exact ((g1.trans (.app _)).own r2 fun i hi e => by have := g1.len; omega).trans (.app _)
end K01

set_option Elab.async false
set_option linter.all false
set_option maxRecDepth 100000
set_option maxHeartbeats 1000000
namespace K01
open PySem PySem.Spec L2 B
set_option autoImplicit false
/-! ### made alike -/
def alike : Kd → Kd → Bool
  | .num, .num => true
  | .nil, .nil => true
  | .letter n, .letter m => n == m
  | .row ks, .row ls => ks.length == ls.length
  | .data n ks, .data m ls => n == m && ks.length == ls.length
  | .fn ks _, .fn ls _ => ks.length == ls.length
  | .box _, .box _ => true
  | _, _ => false
theorem alike_eq {a b : Kd} : a = b ↔ alike a b = true ∧ inn a = inn b := by
  constructor
  · rintro rfl; cases a <;> simp [alike]
  · rintro ⟨h, e⟩
    cases a <;> cases b <;> simp [alike, inn] at h e ⊢
    all_goals first | exact h | exact e | exact ⟨h.1, e⟩ | (have := List.append_inj e h; simpa using this)
theorem alike_len {a b : Kd} (h : alike a b = true) : (inn a).length = (inn b).length := by
  cases a <;> cases b <;> simp [alike, inn] at h ⊢ <;> omega
theorem beq_natCast (n m : Nat) : ((n : Int) == (m : Int)) = (n == m) := by
  rw [Bool.eq_iff_iff]; simp; omega
theorem dec_len (a b : Nat) : ((a : Int) + 1 == (b : Int) + 1) = (a == b) := by rw [Bool.eq_iff_iff]; simp; omega
theorem alike_ok {a b : Kd} {st : Sto} (ha : fnS a) (hb : fnS b) : F_are_made_alike [enc a, enc b] st = some (.bl (alike a b), st) := by
  have wa := within_ok a ha
  have wb := within_ok b hb
  cases a <;> cases b <;> simp only [enc] at wa wb
  case letter.letter n m =>
    by_cases h : n = m
    · subst h; simp [F_are_made_alike, enc, fNe_str, fEq_str, wa, alike, inn, encs]
    · have h2 : ((n : Int) == (m : Int)) = false := by rw [beq_natCast]; simpa using h
      simp [F_are_made_alike, enc, fNe_str, fEq_str, wa, wb, alike, inn, encs, h2, h]
  case data.data n ks m ls =>
    by_cases h : n = m
    · subst h; simp [F_are_made_alike, enc, fNe_str, fEq_str, wa, wb, alike, inn, encs_len, beq_natCast]
    · have h2 : ((n : Int) == (m : Int)) = false := by rw [beq_natCast]; simpa using h
      simp [F_are_made_alike, enc, fNe_str, fEq_str, wa, wb, alike, inn, encs, h2, h]
  all_goals simp [F_are_made_alike, enc, fNe_str, fEq_str, wa, wb, alike, inn, encs, encs_len, encs_app, beq_natCast, dec_len]
end K01

set_option Elab.async false
set_option linter.all false
set_option maxRecDepth 100000
set_option maxHeartbeats 1000000
namespace K01
open PySem PySem.Spec L2 B
set_option autoImplicit false
/-! ### pairs of kinds -/
def encP (P : List (Kd × Kd)) : List W := P.map fun p => .tup [enc p.1, enc p.2]
def szP (P : List (Kd × Kd)) : Nat := (P.map fun p => sz p.1).sum
theorem encP_app (a b : List (Kd × Kd)) : encP (a ++ b) = encP a ++ encP b := by simp [encP]
theorem szP_app (a b : List (Kd × Kd)) : szP (a ++ b) = szP a + szP b := by simp [szP]
theorem encP_len (a : List (Kd × Kd)) : (encP a).length = a.length := by simp [encP]
theorem encP_zip : ∀ xs ys : List Kd, ((encs xs).zip (encs ys)).map (fun p => W.tup [p.1, p.2]) = encP (xs.zip ys)
  | [], ys => by simp [encs, encP]
  | x :: xs, [] => by simp [encs, encP]
  | x :: xs, y :: ys => by have := encP_zip xs ys; simpa [encs, encP] using this
theorem zip_eq : ∀ {xs ys : List Kd}, xs.length = ys.length → ((∀ p ∈ xs.zip ys, p.1 = p.2) ↔ xs = ys)
  | [], [], _ => by simp
  | [], _ :: _, h => by simp at h
  | _ :: _, [], h => by simp at h
  | x :: xs, y :: ys, h => by
    have := zip_eq (xs := xs) (ys := ys) (by simpa using h)
    simp only [List.zip_cons_cons, List.mem_cons, forall_eq_or_imp, List.cons.injEq, this]
theorem szP_zip : ∀ xs ys : List Kd, szP (xs.zip ys) ≤ szs xs
  | [], ys => by simp [szP, szs]
  | x :: xs, [] => by simp [szP, szs]
  | x :: xs, y :: ys => by have := szP_zip xs ys; simp [szP, szs] at this ⊢; omega
theorem len_szP : ∀ P : List (Kd × Kd), P.length ≤ szP P
  | [] => by simp [szP]
  | p :: P => by have := len_szP P; have := sz_pos p.1; have e : szP (p :: P) = sz p.1 + szP P := (by simp [szP]); simp only [List.length_cons]; omega
theorem len_szs : ∀ ks : List Kd, ks.length ≤ szs ks
  | [] => by simp
  | k :: ks => by have := len_szs ks; have := sz_pos k; simp [szs]; omega
def wfP (P : List (Kd × Kd)) : Prop := ∀ p ∈ P, wf p.1 = true ∧ wf p.2 = true
theorem wfP_app {a b : List (Kd × Kd)} : wfP (a ++ b) ↔ wfP a ∧ wfP b :=
  ⟨fun h => ⟨fun p hp => h p (List.mem_append_left _ hp), fun p hp => h p (List.mem_append_right _ hp)⟩, fun h p hp => (List.mem_append.mp hp).elim (h.1 p) (h.2 p)⟩
theorem wfP_zip {xs ys : List Kd} (hx : wfs xs = true) (hy : wfs ys = true) : wfP (xs.zip ys) := fun p hp => by
  have := List.of_mem_zip (a := p.1) (b := p.2) hp
  exact ⟨(wfs_all _).mp hx _ this.1, (wfs_all _).mp hy _ this.2⟩
theorem wf_len {k : Kd} (h : wf k = true) (hs : sz k < 200000) : sml (inn k).length = true := sml_le (by have := len_szs (inn k); have := sz_inn k; omega)
theorem same_loop (t u : W) (q : Nat) : ∀ (n : Nat) (P : List (Kd × Kd)) (o o' : Option W) (st : Sto), st[q]? = some (.lst (encP P)) → wfP P → szP P < n → szP P < 200000 →
    ∃ fl env' st', sWhile wt1_are_same wb1_are_same n [some t, some u, some (.ref q), o, o'] st = some ((fl, env'), st') ∧ Fr (fun i => i = q) st st' ∧
      ((fl = .nx ∧ ∀ p ∈ P, p.1 = p.2) ∨ (fl = .rt (.bl false) ∧ ¬ ∀ p ∈ P, p.1 = p.2)) := by
  intro n
  induction n with
  | zero => intro P o o' st _ _ h _; omega
  | succ n ih =>
    intro P o o' st h1 hw hn hm
    rcases List.eq_nil_or_concat P with rfl | ⟨P0, ⟨a, b⟩, rfl⟩
    · exact ⟨.nx, [some t, some u, some (.ref q), o, o'], st, by simp [sWhile, wt1_are_same, h1, encP], .refl, .inl ⟨rfl, by simp⟩⟩
    · rw [List.concat_eq_append] at *
      rw [szP_app] at hn hm
      obtain ⟨hw0, hw1⟩ := wfP_app.mp hw
      have wab := hw1 (a, b) (by simp)
      simp only at wab
      have hsz : szP [(a, b)] = sz a := by simp [szP]
      have e0 : encP (P0 ++ [(a, b)]) = encP P0 ++ [.tup [enc a, enc b]] := by simp [encP]
      rw [e0] at h1
      obtain ⟨sa, hsa⟩ : ∃ s, st.set q (SO.lst (encP P0)) = s := ⟨_, rfl⟩
      have a1 : sa[q]? = some (.lst (encP P0)) := by rw [← hsa]; exact List.getElem?_set_self (lt_of_get h1)
      have e2 := alike_ok (st := sa) (wf_fnS wab.1) (wf_fnS wab.2)
      have fa : Fr (fun i => i = q) st sa := by rw [← hsa]; exact .set _ rfl
      cases hal : alike a b with
      | false =>
        rw [hal] at e2
        refine ⟨.rt (.bl false), [some t, some u, some (.ref q), some (enc a), some (enc b)], sa, ?_, fa, .inr ⟨rfl, fun z => ?_⟩⟩
        · simp [sWhile, wt1_are_same, wb1_are_same, h1, hsa, e2]
        · have := (alike_eq.mp (z (a, b) (by simp))).1
          simp only [hal] at this; cases this
      | true =>
        rw [hal] at e2
        have e3 := within_ok a (wf_fnS wab.1) sa
        have e4 := within_ok b (wf_fnS wab.2) sa
        have hlen := alike_len hal
        have hp := sz_inn a
        have hzz := szP_zip (inn a) (inn b)
        have hz1 : sml (inn a).length = true := wf_len wab.1 (by omega)
        have hz2 : sml (P0.length + min (inn a).length (inn b).length) = true := sml_le (by have := len_szP P0; have := len_szs (inn a); omega)
        obtain ⟨sb, hsb⟩ : ∃ s, sa ++ [SO.lst (encP ((inn a).zip (inn b)))] = s := ⟨_, rfl⟩
        have b1 : sb[q]? = some (.lst (encP P0)) := by rw [← hsb]; rw [List.getElem?_append_left (lt_of_get a1)]; exact a1
        obtain ⟨sc, hsc⟩ : ∃ s, sb.set q (SO.lst (encP P0 ++ encP ((inn a).zip (inn b)))) = s := ⟨_, rfl⟩
        have c1 : sc[q]? = some (.lst (encP (P0 ++ (inn a).zip (inn b)))) := by rw [encP_app, ← hsc]; exact List.getElem?_set_self (lt_of_get b1)
        have fc : Fr (fun i => i = q) st sc := by rw [← hsc, ← hsb]; exact (fa.trans (.app _)).trans (.set _ rfl)
        obtain ⟨fl, env', st', r1, r2, r3⟩ := ih (P0 ++ (inn a).zip (inn b)) (some (enc a)) (some (enc b)) sc c1 (wfP_app.mpr ⟨hw0, wfP_zip (wf_inn wab.1) (wf_inn wab.2)⟩) (by rw [szP_app]; omega) (by rw [szP_app]; omega)
        refine ⟨fl, env', st', ?_, fc.trans r2, ?_⟩
        · rw [← r1]
          have ez := encP_zip (inn a) (inn b)
          have b2 : sb[sa.length]? = some (SO.lst (encP ((inn a).zip (inn b)))) := by rw [← hsb]; simp
          simp [sWhile, wt1_are_same, wb1_are_same, h1, hsa, a1, e2, e3, e4, hz1, encs_len, ez, hsb, b1, b2, encP_len, hz2, hsc]
        · have hz := zip_eq hlen
          have hq : (∀ p ∈ P0 ++ [(a, b)], p.1 = p.2) ↔ ∀ p ∈ P0 ++ (inn a).zip (inn b), p.1 = p.2 := by
            constructor
            · intro z p hp
              rcases List.mem_append.mp hp with hp | hp
              · exact z p (List.mem_append_left _ hp)
              · exact hz.mpr (alike_eq.mp (z (a, b) (by simp))).2 p hp
            · intro z p hp
              rcases List.mem_append.mp hp with hp | hp
              · exact z p (List.mem_append_left _ hp)
              · have : p = (a, b) := by simpa using hp
                subst this
                exact alike_eq.mpr ⟨hal, hz.mp fun p hp => z p (List.mem_append_right _ hp)⟩
          rw [hq]; exact r3
theorem same_ok {a b : Kd} {st : Sto} (ha : wf a = true) (hb : wf b = true) (hs : sz a < 200000) : ∃ st' r, F_are_same [enc a, enc b] st = some (.bl r, st') ∧ Gr st st' ∧ (r = true ↔ a = b) := by
  have h1 : szP [(a, b)] = sz a := by simp [szP]
  have hP : wfP [(a, b)] := fun p hp => by
    have : p = (a, b) := by simpa using hp
    subst this; exact ⟨ha, hb⟩
  obtain ⟨fl, env', st', e, f, r⟩ := same_loop (enc a) (enc b) st.length 1000000 [(a, b)] none none (st ++ [SO.lst [.tup [enc a, enc b]]]) (by simp [encP]) hP (by omega) (by omega)
  have g : Gr st st' := Fr.own (.app _) f (fun i hi e => by omega)
  rcases r with ⟨rfl, r⟩ | ⟨rfl, r⟩
  · have : a = b := r (a, b) (by simp)
    exact ⟨st', true, by simp [F_are_same, e], g, by simp [this]⟩
  · have : ¬ a = b := fun z => r (by simpa using z)
    exact ⟨st', false, by simp [F_are_same, e], g, by simp [this]⟩
end K01

set_option Elab.async false
set_option linter.all false
set_option maxRecDepth 100000
set_option maxHeartbeats 1000000
namespace K01
open PySem PySem.Spec L2 B
set_option autoImplicit false
/-! ### kinds put in -/
mutual
def sub (cs : List Kd) : Kd → Kd
  | .letter n => cs.getD n .num
  | .row ks => .row (subs cs ks)
  | .data n ks => .data n (subs cs ks)
  | .fn ks r => .fn (subs cs ks) (sub cs r)
  | .box k => .box (sub cs k)
  | .num => .num
  | .nil => .nil
def subs (cs : List Kd) : List Kd → List Kd
  | [] => []
  | k :: ks => sub cs k :: subs cs ks
end
theorem subs_map (cs ks : List Kd) : subs cs ks = ks.map (sub cs) := by
  induction ks with
  | nil => rfl
  | cons k ks ih => simp [subs, ih]
theorem subs_app (cs a b : List Kd) : subs cs (a ++ b) = subs cs a ++ subs cs b := by simp [subs_map]
theorem subs_len (cs a : List Kd) : (subs cs a).length = a.length := by simp [subs_map]
theorem rev_last {α : Type} (xs : List α) (x : α) : atI (xs ++ [x]) (-1) = some x := by
  have e : ixN (xs ++ [x]).length (-1) = some xs.length := by
    unfold ixN
    rw [if_neg (by decide), if_pos (by simp; omega)]
    simp; omega
  unfold atI; rw [e]; simp
theorem cut_last (xs : List W) (x : W) : cutW (xs ++ [x]) none (some (-1)) = xs := by
  have e1 : HT.sIx (xs ++ [x]).length 0 none = 0 := by unfold HT.sIx; rfl
  have e2 : HT.sIx (xs ++ [x]).length (xs ++ [x]).length (some (-1)) = xs.length := by unfold HT.sIx; simp; try omega
  unfold cutW; rw [e1, e2]; simp
theorem cut_from (xs ys : List W) : cutW (xs ++ ys) (some (xs.length : Int)) none = ys := by
  have e1 : HT.sIx (xs ++ ys).length 0 (some (xs.length : Int)) = xs.length := by unfold HT.sIx; simp; try omega
  have e2 : HT.sIx (xs ++ ys).length (xs ++ ys).length none = (xs ++ ys).length := by unfold HT.sIx; rfl
  unfold cutW; rw [e1, e2]; simp
theorem with_ok {cs : List Kd} {k : Kd} {st : Sto} (h : ∀ n, k ≠ .letter n) : F_with_kinds [enc k, .tup (encs (subs cs (inn k)))] st = some (enc (sub cs k), st) := by
  cases k <;> simp [F_with_kinds, enc, fEq_str, inn, sub, subs, encs]
  · exact (h _ rfl).elim
  · simp [subs_app, encs_app, subs, encs, rev_last, cut_last]
theorem head_ok (k : Kd) : ∃ s r, enc k = .tup (.str s :: r) ∧ okS s = true ∧ ((s == ("letter" : Str)) = true ↔ ∃ n, k = .letter n) := by
  cases k
  case letter n => exact ⟨"letter", [.int n], rfl, by simp, by simp⟩
  all_goals refine ⟨_, _, by rw [enc], by simp, by simp⟩
def pE (kw : W) (cs : List Kd) (qd : Nat) (a b c : Option W) : En := [some kw, some (.tup (encs cs)), some (.fnc "with_kinds"), some (.ref qd), a, b, c]
theorem disp_look : disp_folded_make.lookup ("with_kinds" : Str) = some F_with_kinds := by simp [disp_folded_make, List.lookup]
theorem node_step (F X Z cs : List Kd) (k : Kd) (kw : W) (qf qd : Nat) (hne : qf ≠ qd) (hF : F = X ++ k :: Z) (hw : wf k = true) (hl : ∀ n, k = .letter n → n < cs.length)
    (D : List W) (hD : D.length + sz k ≤ 1000000) (n : Nat) (a b c : Option W) (st : Sto) (h1 : st[qf]? = some (.lst (encs F))) (h2 : st[qd]? = some (.lst (D ++ (encs (subs cs (inn k))).reverse))) :
    ∃ a' b' c' st', forGo (srcRev qf F.length) (.nm 4) fb1_folded (n + 1) Z.length (pE kw cs qd a b c) st = forGo (srcRev qf F.length) (.nm 4) fb1_folded n (Z.length + 1) (pE kw cs qd a' b' c') st' ∧
      Fr (fun i => i = qd) st st' ∧ st'[qd]? = some (.lst (D ++ [enc (sub cs k)])) := by
  have hsrc : srcRev qf F.length Z.length st = some (some (enc k)) := by
    subst hF
    unfold srcRev
    rw [if_pos (by simp; omega), h1]
    have e : (X ++ k :: Z).length - 1 - Z.length = X.length := by simp [List.length_append]
    rw [e]
    simp [encs_app, encs, encs_len]
  obtain ⟨s, r, e1, e2, e3⟩ := head_ok k
  have hzk : sml (D.length + 1) = true := sml_le (by have := sz_pos k; omega)
  by_cases hlet : ∃ m, k = .letter m
  · obtain ⟨m, rfl⟩ := hlet
    have hm := hl m rfl
    have hat : atI (encs cs) (m : Int) = some (enc (cs.getD m .num)) := by
      rw [atI_nat _ _ (by rw [encs_len]; exact hm), encs_map]
      simp [hm]
    simp only [inn, subs, encs, List.reverse_nil, List.append_nil] at h2
    refine ⟨some (enc (.letter m)), b, c, st.set qd (.lst (D ++ [enc (sub cs (.letter m))])), ?_, .set _ rfl, List.getElem?_set_self (lt_of_get h2)⟩
    simp only [enc] at hsrc
    simp [forGo, hsrc, pE, fb1_folded, fEq_str, h2, enc, hat, hzk, sub]
  · have e3' : (s == ("letter" : Str)) = false := by
      cases hh : (s == ("letter" : Str)) with
      | false => rfl
      | true => exact (hlet (e3.mp hh)).elim
    have hL := subs_len cs (inn k)
    have e4 := within_ok k (wf_fnS hw) st
    have e5 := cut_from D (encs (subs cs (inn k))).reverse
    obtain ⟨R, hR⟩ : ∃ R, (encs (subs cs (inn k))).reverse = R := ⟨_, rfl⟩
    have hRl : R.length = (inn k).length := by rw [← hR]; simp [encs_len, hL]
    have hRr : R.reverse = encs (subs cs (inn k)) := by rw [← hR]; simp
    rw [hR] at h2 e5
    obtain ⟨sa, hsa⟩ : ∃ x, st ++ [SO.lst R] ++ [SO.lst R.reverse] = x := ⟨_, rfl⟩
    have hsa' : st ++ [SO.lst R, SO.lst (encs (subs cs (inn k)))] = sa := by rw [← hsa, hRr]; simp
    have fa : Fr (fun i => i = qd) st sa := by rw [← hsa']; exact .app _
    have a3 : sa[st.length + 1]? = some (.lst (encs (subs cs (inn k)))) := by rw [← hsa']; simp
    have hql := lt_of_get h2
    have a2 : sa[qd]? = some (.lst (D ++ R)) := by rw [← hsa', List.getElem?_append_left hql]; exact h2
    obtain ⟨sb, hsb⟩ : ∃ x, sa.set qd (SO.lst D) = x := ⟨_, rfl⟩
    have fb : Fr (fun i => i = qd) st sb := by rw [← hsb]; exact fa.trans (.set _ rfl)
    have b2 : sb[qd]? = some (.lst D) := by rw [← hsb]; exact List.getElem?_set_self (lt_of_get a2)
    have e6 := with_ok (cs := cs) (k := k) (st := sb) (fun m hm => hlet ⟨m, hm⟩)
    refine ⟨some (enc k), some (.int D.length), some (.tup (encs (subs cs (inn k)))), sb.set qd (.lst (D ++ [enc (sub cs k)])), ?_, fb.trans (.set _ rfl), List.getElem?_set_self (lt_of_get b2)⟩
    have t1 : ((D.length : Int) + (R.length : Int) - ((inn k).length : Int)) = D.length := by rw [hRl]; omega
    rw [e1] at hsrc e4 e6
    rw [e1]
    simp [forGo, hsrc, pE, fb1_folded, fEq_str, e2, e3', h2, e4, encs_len, t1, e5, hsa', a2, a3, hsb, b2, hRr, e6, hzk, eCallL, disp_look]
theorem seg (F cs : List Kd) (kw : W) (qf qd : Nat) (hne : qf ≠ qd) : ∀ (m : Nat) (ks X Y : List Kd) (D : List W), szs ks ≤ m → F = X ++ pres ks ++ Y → wfs ks = true → (∀ n, Kd.letter n ∈ pres ks → n < cs.length) → D.length + szs ks ≤ 1000000 →
    ∀ (n j : Nat) (a b c : Option W) (st : Sto), j = Y.length → st[qf]? = some (.lst (encs F)) → st[qd]? = some (.lst D) →
    ∃ a' b' c' st', forGo (srcRev qf F.length) (.nm 4) fb1_folded (szs ks + n) j (pE kw cs qd a b c) st = forGo (srcRev qf F.length) (.nm 4) fb1_folded n (j + szs ks) (pE kw cs qd a' b' c') st' ∧
      Fr (fun i => i = qd) st st' ∧ st'[qd]? = some (.lst (D ++ (encs (subs cs ks)).reverse)) := by
  intro m
  induction m with
  | zero =>
    intro ks X Y D hm hF hw hl hD n j a b c st hj h1 h2
    cases ks with
    | nil => exact ⟨a, b, c, st, by simp [szs], .refl, by simpa [subs, encs] using h2⟩
    | cons k ks => have := sz_pos k; simp [szs] at hm; omega
  | succ m ih =>
    intro ks X Y D hm hF hw hl hD n j a b c st hj h1 h2
    cases ks with
    | nil => exact ⟨a, b, c, st, by simp [szs], .refl, by simpa [subs, encs] using h2⟩
    | cons k ks =>
      have hp := sz_pos k
      have hi := sz_inn k
      simp only [szs] at hm hD
      simp only [wfs, Bool.and_eq_true] at hw
      simp only [pres, pre_inn k] at hF hl
      have hsl : ∀ xs : List Kd, (encs (subs cs xs)).length = xs.length := fun xs => by rw [encs_len, subs_len]
      have hq1 := len_szs ks
      have hq2 := len_szs (inn k)
      obtain ⟨a1, b1, c1, s1, r1, f1, g1⟩ := ih ks (X ++ (k :: pres (inn k))) Y D (by omega) (by rw [hF]; simp) hw.2 (fun n h => hl n (List.mem_append_right _ h)) (by omega) (sz k + n) j a b c st hj h1 h2
      obtain ⟨a2, b2, c2, s2, r2, f2, g2⟩ := ih (inn k) (X ++ [k]) (pres ks ++ Y) (D ++ (encs (subs cs ks)).reverse) (by omega) (by rw [hF]; simp) (wf_inn hw.1) (fun n h => hl n (List.mem_append_left _ (List.mem_cons_of_mem _ h))) (by simp [hsl]; omega) (n + 1) (j + szs ks) a1 b1 c1 s1 (by simp [pres_len, hj]; omega) (f1.get h1 hne) g1
      obtain ⟨a3, b3, c3, s3, r3, f3, g3⟩ := node_step F X (pres (inn k) ++ pres ks ++ Y) cs k kw qf qd hne (by rw [hF]; simp) hw.1 (fun n h => hl n (by rw [h]; simp)) (D ++ (encs (subs cs ks)).reverse) (by simp [hsl]; omega) n a2 b2 c2 s2 (f2.get (f1.get h1 hne) hne) g2
      have hz : (pres (inn k) ++ pres ks ++ Y).length = j + szs ks + szs (inn k) := by simp [pres_len, hj]; omega
      rw [hz] at r3
      have e1 : szs (k :: ks) + n = szs ks + (sz k + n) := by simp [szs]; omega
      have e2 : sz k + n = szs (inn k) + (n + 1) := by omega
      have e3 : j + szs ks + szs (inn k) + 1 = j + szs (k :: ks) := by simp [szs]; omega
      refine ⟨a3, b3, c3, s3, ?_, f1.trans (f2.trans f3), ?_⟩
      · rw [e1, r1, e2, r2, r3, e3]
      · rw [g3]; simp [subs, encs]
theorem put_in_ok {k : Kd} {cs : List Kd} {st : Sto} (hw : wf k = true) (hs : sz k < 200000) (hl : ∀ n, Kd.letter n ∈ pre k → n < cs.length) :
    ∃ st', F_put_in [enc k, .tup (encs cs)] st = some (enc (sub cs k), st') ∧ Gr st st' := by
  obtain ⟨q, st1, e1, g1, hq, h1⟩ := all_kinds_ok (k := k) (st := st ++ [SO.lst []]) hw (by omega)
  have hqd : st1[st.length]? = some (.lst []) := g1.get (by simp) (by simp)
  simp at hq
  obtain ⟨a, b, c, st2, r1, r2, r3⟩ := seg (pre k) cs (enc k) q st.length (by omega) (szs [k]) [k] [] [] [] (Nat.le_refl _) (by simp [pres]) (by simpa [wfs] using hw) (by simpa [pres] using hl) (by simp [szs]; omega) (1000000 - szs [k]) 0 none none none st1 rfl h1 hqd
  have hsz : szs [k] = sz k := by simp [szs]
  have hpl := pre_len k
  obtain ⟨m, hm⟩ : ∃ m, 1000000 - szs [k] = m + 1 := ⟨1000000 - szs [k] - 1, by omega⟩
  have e0 : szs [k] + (1000000 - szs [k]) = 1000000 := by omega
  rw [e0, hm] at r1
  have e2 : forGo (srcRev q (pre k).length) (.nm 4) fb1_folded (m + 1) (0 + szs [k]) (pE (enc k) cs st.length a b c) st2 = some ((.nx, pE (enc k) cs st.length a b c), st2) := by
    have : srcRev q (pre k).length (0 + szs [k]) st2 = some none := by unfold srcRev; rw [if_neg (by omega)]
    simp only [forGo, this]
  rw [e2] at r1
  simp [subs, encs] at r3
  have ga : Gr st st1 := (Fr.app _).trans g1
  refine ⟨st2, ?_, ga.own r2 (fun i hi e => by omega)⟩
  unfold pE at r1
  simp [F_put_in, F_folded, sFor, iRevM, e1, h1, encs_len, r1, r3]
end K01

set_option Elab.async false
set_option linter.all false
set_option maxRecDepth 100000
set_option maxHeartbeats 1000000
namespace K01
open PySem PySem.Spec L2 B
set_option autoImplicit false
/-! ### things of words and numbers -/
mutual
def sim : W → Bool
  | .tup xs => sims xs
  | .int _ => true
  | .str x => okS x
  | _ => false
def sims : List W → Bool
  | [] => true
  | x :: xs => sim x && sims xs
end
mutual
def dW : W → Nat
  | .tup xs => dWs xs + 1
  | _ => 0
def dWs : List W → Nat
  | [] => 0
  | x :: xs => max (dW x) (dWs xs)
end
mutual
theorem sim_toD : ∀ x, sim x = true → ∃ d, toD x = some d ∧ d.canLay0 = true ∧ d.depth = dW x
  | .tup xs, h => by
    obtain ⟨ds, e, c, p⟩ := sims_toDs xs (by simpa [sim] using h)
    exact ⟨.tuple ds, by simp [toD, e], by simpa [PyData.canLay0] using c, by simp [PyData.depth, dW, p]⟩
  | .int i, _ => ⟨.int i, rfl, by simp [PyData.canLay0], by simp [PyData.depth, dW]⟩
  | .str x, h => ⟨.str x, rfl, by simp [sim, okS, SeqAt.shaped] at h; simpa using h.1, by simp [PyData.depth, dW]⟩
  | .non, h => by simp [sim] at h
  | .bl _, h => by simp [sim] at h
  | .fl _, h => by simp [sim] at h
  | .ref _, h => by simp [sim] at h
  | .ext _, h => by simp [sim] at h
theorem sims_toDs : ∀ xs, sims xs = true → ∃ ds, toDs xs = some ds ∧ PyData.canLayAll0 ds = true ∧ PyData.depthAll ds = dWs xs
  | [], _ => ⟨[], rfl, by simp [PyData.canLayAll0], by simp [PyData.depthAll, dWs]⟩
  | x :: xs, h => by
    simp only [sims, Bool.and_eq_true] at h
    obtain ⟨d, e1, c1, p1⟩ := sim_toD x h.1
    obtain ⟨ds, e2, c2, p2⟩ := sims_toDs xs h.2
    exact ⟨d :: ds, by simp [toDs, e1, e2], by simp [PyData.canLayAll0, c1, c2], by simp [PyData.depthAll, dWs, p1, p2]⟩
end
mutual
theorem sim_eqv : ∀ x y d e, sim x = true → sim y = true → toD x = some d → toD y = some e → (PyData.eqv d e = true ↔ x = y)
  | .tup xs, y, d, e, hx, hy, h1, h2 => by
    obtain ⟨ds, e1, _⟩ := sims_toDs xs (by simpa [sim] using hx)
    simp [toD, e1] at h1
    subst h1
    cases y with
    | tup ys =>
      obtain ⟨es, e2, _⟩ := sims_toDs ys (by simpa [sim] using hy)
      simp [toD, e2] at h2
      subst h2
      have := sims_eqv xs ys ds es (by simpa [sim] using hx) (by simpa [sim] using hy) e1 e2
      simpa [PyData.eqv] using this
    | int i => simp [toD] at h2; subst h2; simp [PyData.eqv]
    | str i => simp [toD] at h2; subst h2; simp [PyData.eqv]
    | _ => simp [sim] at hy
  | .int i, y, d, e, hx, hy, h1, h2 => by
    simp [toD] at h1; subst h1
    cases y with
    | tup ys =>
      obtain ⟨es, e2, _⟩ := sims_toDs ys (by simpa [sim] using hy)
      simp [toD, e2] at h2
      subst h2
      simp [PyData.eqv]
    | int i => simp [toD] at h2; subst h2; simp [PyData.eqv]
    | str i => simp [toD] at h2; subst h2; simp [PyData.eqv]
    | _ => simp [sim] at hy
  | .str x, y, d, e, hx, hy, h1, h2 => by
    simp [toD] at h1; subst h1
    cases y with
    | tup ys =>
      obtain ⟨es, e2, _⟩ := sims_toDs ys (by simpa [sim] using hy)
      simp [toD, e2] at h2
      subst h2
      simp [PyData.eqv]
    | int i => simp [toD] at h2; subst h2; simp [PyData.eqv]
    | str i => simp [toD] at h2; subst h2; simp [PyData.eqv]
    | _ => simp [sim] at hy
  | .non, _, _, _, h, _, _, _ => by simp [sim] at h
  | .bl _, _, _, _, h, _, _, _ => by simp [sim] at h
  | .fl _, _, _, _, h, _, _, _ => by simp [sim] at h
  | .ref _, _, _, _, h, _, _, _ => by simp [sim] at h
  | .ext _, _, _, _, h, _, _, _ => by simp [sim] at h
theorem sims_eqv : ∀ xs ys ds es, sims xs = true → sims ys = true → toDs xs = some ds → toDs ys = some es → (PyData.eqvAll ds es = true ↔ xs = ys)
  | [], ys, ds, es, _, hy, h1, h2 => by
    simp [toDs] at h1; subst h1
    cases ys with
    | nil => simp [toDs] at h2; subst h2; simp [PyData.eqvAll]
    | cons y ys =>
      simp only [sims, Bool.and_eq_true] at hy
      obtain ⟨e, e1, _⟩ := sim_toD y hy.1
      obtain ⟨fs, e2, _⟩ := sims_toDs ys hy.2
      simp [toDs, e1, e2] at h2
      subst h2
      simp [PyData.eqvAll]
  | x :: xs, ys, ds, es, hx, hy, h1, h2 => by
    simp only [sims, Bool.and_eq_true] at hx
    obtain ⟨d, d1, _⟩ := sim_toD x hx.1
    obtain ⟨ds', d2, _⟩ := sims_toDs xs hx.2
    simp [toDs, d1, d2] at h1
    subst h1
    cases ys with
    | nil => simp [toDs] at h2; subst h2; simp [PyData.eqvAll]
    | cons y ys =>
      simp only [sims, Bool.and_eq_true] at hy
      obtain ⟨e, e1, _⟩ := sim_toD y hy.1
      obtain ⟨fs, e2, _⟩ := sims_toDs ys hy.2
      simp [toDs, e1, e2] at h2
      subst h2
      have i1 := sim_eqv x y d e hx.1 hy.1 d1 e1
      have i2 := sims_eqv xs ys ds' fs hx.2 hy.2 d2 e2
      simp [PyData.eqvAll, i1, i2]
end
theorem toDS_sim {x : W} (h : sim x = true) (st : Sto) : toDS x st = toD x := by
  cases x <;> simp [sim] at h <;> rfl
theorem sim_fEq {x y : W} {st : Sto} (hx : sim x = true) (hy : sim y = true) (dx : dW x ≤ 64) (dy : dW y ≤ 64) : ∃ r, fEq x y st = some (.bl r, st) ∧ (r = true ↔ x = y) := by
  obtain ⟨d, d1, d2, d3⟩ := sim_toD x hx
  obtain ⟨e, e1, e2, e3⟩ := sim_toD y hy
  have s1 : SeqAt.shaped d = true := by simp [SeqAt.shaped, d2, d3, dx]
  have s2 : SeqAt.shaped e = true := by simp [SeqAt.shaped, e2, e3, dy]
  exact ⟨PyData.eqv d e, by simp [fEq, toDS_sim hx, toDS_sim hy, d1, e1, s1, s2], sim_eqv x y d e hx hy d1 e1⟩
theorem sim_fNe {x y : W} {st : Sto} (hx : sim x = true) (hy : sim y = true) (dx : dW x ≤ 64) (dy : dW y ≤ 64) : ∃ r, fNe x y st = some (.bl (!r), st) ∧ (r = true ↔ x = y) := by
  obtain ⟨d, d1, d2, d3⟩ := sim_toD x hx
  obtain ⟨e, e1, e2, e3⟩ := sim_toD y hy
  have s1 : SeqAt.shaped d = true := by simp [SeqAt.shaped, d2, d3, dx]
  have s2 : SeqAt.shaped e = true := by simp [SeqAt.shaped, e2, e3, dy]
  exact ⟨PyData.eqv d e, by simp [fNe, toDS_sim hx, toDS_sim hy, d1, e1, s1, s2], sim_eqv x y d e hx hy d1 e1⟩
/-! ### how deep -/
mutual
def ht : Kd → Nat
  | .row ks => hts ks + 1
  | .data _ ks => hts ks + 1
  | .fn ks r => max (hts ks) (ht r) + 1
  | .box k => ht k + 1
  | .num => 1
  | .nil => 1
  | .letter _ => 1
def hts : List Kd → Nat
  | [] => 0
  | k :: ks => max (ht k) (hts ks)
end
theorem hts_app (a b : List Kd) : hts (a ++ b) = max (hts a) (hts b) := by
  induction a with
  | nil => simp [hts]
  | cons k ks ih => simp [hts, ih] <;> omega
theorem hts_le {ks : List Kd} {n : Nat} : hts ks ≤ n ↔ ∀ k ∈ ks, ht k ≤ n := by
  induction ks with
  | nil => simp [hts]
  | cons k ks ih => simp [hts, ← ih]; omega
theorem ht_inn (k : Kd) : hts (inn k) + 1 ≤ ht k := by
  cases k <;> simp [ht, hts, inn, hts_app] <;> omega
mutual
theorem sim_enc : ∀ k : Kd, sim (enc k) = true
  | .num => by simp [enc, sim, sims]
  | .nil => by simp [enc, sim, sims]
  | .letter _ => by simp [enc, sim, sims]
  | .row ks => by simp [enc, sim, sims, sims_encs ks]
  | .data _ ks => by simp [enc, sim, sims, sims_encs ks]
  | .fn ks r => by simp [enc, sim, sims, sims_encs ks, sim_enc r]
  | .box k => by simp [enc, sim, sims, sim_enc k]
theorem sims_encs : ∀ ks : List Kd, sims (encs ks) = true
  | [] => rfl
  | k :: ks => by simp [encs, sims, sim_enc k, sims_encs ks]
end
mutual
theorem dW_enc : ∀ k : Kd, dW (enc k) ≤ 2 * ht k
  | .num => by simp [enc, dW, dWs, ht]
  | .nil => by simp [enc, dW, dWs, ht]
  | .letter _ => by simp [enc, dW, dWs, ht]
  | .row ks => by have := dWs_encs ks; simp [enc, dW, dWs, ht]; omega
  | .data _ ks => by have := dWs_encs ks; simp [enc, dW, dWs, ht]; omega
  | .fn ks r => by have := dWs_encs ks; have := dW_enc r; simp [enc, dW, dWs, ht]; omega
  | .box k => by have := dW_enc k; simp [enc, dW, dWs, ht]; omega
theorem dWs_encs : ∀ ks : List Kd, dWs (encs ks) ≤ 2 * hts ks
  | [] => by simp [encs, dWs]
  | k :: ks => by have := dW_enc k; have := dWs_encs ks; simp [encs, dWs, hts]; omega
end
@[simp] theorem ns_num_nil : (("num" : Str) = ("nil" : Str)) = False := eq_false (beq_eq_false_iff_ne.mp q_num_nil)
@[simp] theorem ns_num_row : (("num" : Str) = ("row" : Str)) = False := eq_false (beq_eq_false_iff_ne.mp q_num_row)
@[simp] theorem ns_num_data : (("num" : Str) = ("data" : Str)) = False := eq_false (beq_eq_false_iff_ne.mp q_num_data)
@[simp] theorem ns_num_fun : (("num" : Str) = ("fun" : Str)) = False := eq_false (beq_eq_false_iff_ne.mp q_num_fun)
@[simp] theorem ns_num_box : (("num" : Str) = ("box" : Str)) = False := eq_false (beq_eq_false_iff_ne.mp q_num_box)
@[simp] theorem ns_num_letter : (("num" : Str) = ("letter" : Str)) = False := eq_false (beq_eq_false_iff_ne.mp q_num_letter)
@[simp] theorem ns_nil_num : (("nil" : Str) = ("num" : Str)) = False := eq_false (beq_eq_false_iff_ne.mp q_nil_num)
@[simp] theorem ns_nil_row : (("nil" : Str) = ("row" : Str)) = False := eq_false (beq_eq_false_iff_ne.mp q_nil_row)
@[simp] theorem ns_nil_data : (("nil" : Str) = ("data" : Str)) = False := eq_false (beq_eq_false_iff_ne.mp q_nil_data)
@[simp] theorem ns_nil_fun : (("nil" : Str) = ("fun" : Str)) = False := eq_false (beq_eq_false_iff_ne.mp q_nil_fun)
@[simp] theorem ns_nil_box : (("nil" : Str) = ("box" : Str)) = False := eq_false (beq_eq_false_iff_ne.mp q_nil_box)
@[simp] theorem ns_nil_letter : (("nil" : Str) = ("letter" : Str)) = False := eq_false (beq_eq_false_iff_ne.mp q_nil_letter)
@[simp] theorem ns_row_num : (("row" : Str) = ("num" : Str)) = False := eq_false (beq_eq_false_iff_ne.mp q_row_num)
@[simp] theorem ns_row_nil : (("row" : Str) = ("nil" : Str)) = False := eq_false (beq_eq_false_iff_ne.mp q_row_nil)
@[simp] theorem ns_row_data : (("row" : Str) = ("data" : Str)) = False := eq_false (beq_eq_false_iff_ne.mp q_row_data)
@[simp] theorem ns_row_fun : (("row" : Str) = ("fun" : Str)) = False := eq_false (beq_eq_false_iff_ne.mp q_row_fun)
@[simp] theorem ns_row_box : (("row" : Str) = ("box" : Str)) = False := eq_false (beq_eq_false_iff_ne.mp q_row_box)
@[simp] theorem ns_row_letter : (("row" : Str) = ("letter" : Str)) = False := eq_false (beq_eq_false_iff_ne.mp q_row_letter)
@[simp] theorem ns_data_num : (("data" : Str) = ("num" : Str)) = False := eq_false (beq_eq_false_iff_ne.mp q_data_num)
@[simp] theorem ns_data_nil : (("data" : Str) = ("nil" : Str)) = False := eq_false (beq_eq_false_iff_ne.mp q_data_nil)
@[simp] theorem ns_data_row : (("data" : Str) = ("row" : Str)) = False := eq_false (beq_eq_false_iff_ne.mp q_data_row)
@[simp] theorem ns_data_fun : (("data" : Str) = ("fun" : Str)) = False := eq_false (beq_eq_false_iff_ne.mp q_data_fun)
@[simp] theorem ns_data_box : (("data" : Str) = ("box" : Str)) = False := eq_false (beq_eq_false_iff_ne.mp q_data_box)
@[simp] theorem ns_data_letter : (("data" : Str) = ("letter" : Str)) = False := eq_false (beq_eq_false_iff_ne.mp q_data_letter)
@[simp] theorem ns_fun_num : (("fun" : Str) = ("num" : Str)) = False := eq_false (beq_eq_false_iff_ne.mp q_fun_num)
@[simp] theorem ns_fun_nil : (("fun" : Str) = ("nil" : Str)) = False := eq_false (beq_eq_false_iff_ne.mp q_fun_nil)
@[simp] theorem ns_fun_row : (("fun" : Str) = ("row" : Str)) = False := eq_false (beq_eq_false_iff_ne.mp q_fun_row)
@[simp] theorem ns_fun_data : (("fun" : Str) = ("data" : Str)) = False := eq_false (beq_eq_false_iff_ne.mp q_fun_data)
@[simp] theorem ns_fun_box : (("fun" : Str) = ("box" : Str)) = False := eq_false (beq_eq_false_iff_ne.mp q_fun_box)
@[simp] theorem ns_fun_letter : (("fun" : Str) = ("letter" : Str)) = False := eq_false (beq_eq_false_iff_ne.mp q_fun_letter)
@[simp] theorem ns_box_num : (("box" : Str) = ("num" : Str)) = False := eq_false (beq_eq_false_iff_ne.mp q_box_num)
@[simp] theorem ns_box_nil : (("box" : Str) = ("nil" : Str)) = False := eq_false (beq_eq_false_iff_ne.mp q_box_nil)
@[simp] theorem ns_box_row : (("box" : Str) = ("row" : Str)) = False := eq_false (beq_eq_false_iff_ne.mp q_box_row)
@[simp] theorem ns_box_data : (("box" : Str) = ("data" : Str)) = False := eq_false (beq_eq_false_iff_ne.mp q_box_data)
@[simp] theorem ns_box_fun : (("box" : Str) = ("fun" : Str)) = False := eq_false (beq_eq_false_iff_ne.mp q_box_fun)
@[simp] theorem ns_box_letter : (("box" : Str) = ("letter" : Str)) = False := eq_false (beq_eq_false_iff_ne.mp q_box_letter)
@[simp] theorem ns_letter_num : (("letter" : Str) = ("num" : Str)) = False := eq_false (beq_eq_false_iff_ne.mp q_letter_num)
@[simp] theorem ns_letter_nil : (("letter" : Str) = ("nil" : Str)) = False := eq_false (beq_eq_false_iff_ne.mp q_letter_nil)
@[simp] theorem ns_letter_row : (("letter" : Str) = ("row" : Str)) = False := eq_false (beq_eq_false_iff_ne.mp q_letter_row)
@[simp] theorem ns_letter_data : (("letter" : Str) = ("data" : Str)) = False := eq_false (beq_eq_false_iff_ne.mp q_letter_data)
@[simp] theorem ns_letter_fun : (("letter" : Str) = ("fun" : Str)) = False := eq_false (beq_eq_false_iff_ne.mp q_letter_fun)
@[simp] theorem ns_letter_box : (("letter" : Str) = ("box" : Str)) = False := eq_false (beq_eq_false_iff_ne.mp q_letter_box)
mutual
theorem enc_inj : ∀ a b : Kd, enc a = enc b → a = b
  | .num, b, h => by cases b <;> simp [enc] at h ⊢
  | .nil, b, h => by cases b <;> simp [enc] at h ⊢
  | .letter n, b, h => by cases b <;> simp [enc] at h ⊢; omega
  | .row ks, b, h => by
    cases b <;> simp [enc] at h ⊢
    exact encs_inj _ _ h
  | .data _ ks, b, h => by
    cases b <;> simp [enc] at h ⊢
    exact ⟨by omega, encs_inj _ _ h.2⟩
  | .fn ks r, b, h => by
    cases b <;> simp [enc] at h ⊢
    exact ⟨encs_inj _ _ h.1, enc_inj _ _ h.2⟩
  | .box k, b, h => by
    cases b <;> simp [enc] at h ⊢
    exact enc_inj _ _ h
theorem encs_inj : ∀ a b : List Kd, encs a = encs b → a = b
  | [], b, h => by cases b <;> simp [encs] at h ⊢
  | k :: ks, b, h => by
    cases b <;> simp [encs] at h ⊢
    exact ⟨enc_inj _ _ h.1, encs_inj _ _ h.2⟩
end
theorem enc_fEq {a b : Kd} {st : Sto} (ha : ht a ≤ 32) (hb : ht b ≤ 32) : ∃ r, fEq (enc a) (enc b) st = some (.bl r, st) ∧ (r = true ↔ a = b) := by
  have h1 := dW_enc a
  have h2 := dW_enc b
  obtain ⟨r, e, i⟩ := sim_fEq (st := st) (sim_enc a) (sim_enc b) (by omega) (by omega)
  exact ⟨r, e, i.trans ⟨enc_inj a b, fun h => by rw [h]⟩⟩
/-! ### _law_is -/
theorem isi2 (x : W) (st : Sto) (h : sim x = true) : fIsi2 "tuple" "list" x st = some (.bl (isTupB x), st) := by
  cases x <;> simp [sim] at h <;> simp [fIsi2, tyW, isTupB, kit_int_tuple, kit_int_list, kit_str_tuple, kit_str_list, kit_tuple_tuple]
mutual
theorem vw_sim (n : Nat) : ∀ x, sim x = true → vw n x = true
  | .tup xs, h => by simp only [vw]; exact vws_sims n xs (by simpa [sim] using h)
  | .int _, _ => rfl
  | .str x, h => by simpa [vw, sim] using h
  | .non, h => by simp [sim] at h
  | .bl _, h => by simp [sim] at h
  | .fl _, h => by simp [sim] at h
  | .ref _, h => by simp [sim] at h
  | .ext _, h => by simp [sim] at h
theorem vws_sims (n : Nat) : ∀ xs, sims xs = true → vws n xs = true
  | [], _ => rfl
  | x :: xs, h => by
    simp only [sims, Bool.and_eq_true] at h
    simp [vws, vw_sim n x h.1, vws_sims n xs h.2]
end
theorem isi_list_sim {x : W} {st : Sto} (h : sim x = true) : bIsi [x, .ext (.ty "list")] st = some (.bl false, st) := by
  cases x <;> simp [sim] at h <;> simp [bIsi, tyW, kit_int_list, kit_str_list, kit_tuple_list]
theorem sims_mem {xs : List W} (h : sims xs = true) {x : W} (hx : x ∈ xs) : sim x = true := by
  induction xs with
  | nil => cases hx
  | cons y ys ih =>
    simp only [sims, Bool.and_eq_true] at h
    rcases List.mem_cons.mp hx with rfl | hx
    · exact h.1
    · exact ih h.2 hx
theorem dWs_mem {xs : List W} {x : W} (hx : x ∈ xs) : dW x ≤ dWs xs := by
  induction xs with
  | nil => cases hx
  | cons y ys ih =>
    rcases List.mem_cons.mp hx with rfl | hx
    · simp [dWs]; omega
    · have := ih hx; simp [dWs]; omega
theorem sws_mem {xs : List W} {x : W} (hx : x ∈ xs) : sw x ≤ sws xs := by
  induction xs with
  | nil => cases hx
  | cons y ys ih =>
    rcases List.mem_cons.mp hx with rfl | hx
    · simp [sws]
    · have := ih hx; simp [sws]; omega
theorem boolsW_rep (n : Nat) : boolsW (List.replicate n (.bl true)) = some (List.replicate n true) := by
  induction n with
  | zero => rfl
  | succ n ih => simp [List.replicate_succ, boolsW, ih]
theorem law_is_ok : ∀ (d : Nat) (x : W) (st : Sto), dW x < d → d ≤ 64 → sim x = true → sw x ≤ 1000000 → ∃ st', F__law_is d [x, x] st = some (.bl true, st') ∧ Gr st st' := by
  intro d
  induction d with
  | zero => intro x st h; omega
  | succ d ih =>
    intro x st hd hd2 hs hw
    have e1 := isi2 x st hs
    have hv := vw_sim st.length x hs
    cases x with
    | tup xs =>
      have hxs : sims xs = true := by simpa [sim] using hs
      have hlen := len_sws xs
      simp only [sw] at hw
      obtain ⟨ys, st2, r1, ⟨r2, r3⟩, r4, r5⟩ := comp_go (src := srcZipT xs xs) (p := .tp [.nm 2, .nm 3]) (t := ct1__law_is (F__law_is d)) (e := ce1__law_is (F__law_is d)) (k := st.length) (env := wipeE [some (.tup xs), some (.tup xs), none, none] [2, 3]) (xs.map fun x => .tup [x, x])
        (fun j ys s => Fr (fun i => i = st.length) (st ++ [.lst []]) s ∧ ys = List.replicate j (.bl true))
        (fun j ys s I _ => by
          unfold srcZipT
          rw [List.getElem?_map]
          cases xs[j]? <;> rfl)
        (fun j ys s x I hk hx => by
          rw [List.getElem?_map] at hx
          cases hx2 : xs[j]? with
          | none => rw [hx2] at hx; simp at hx
          | some y =>
            rw [hx2] at hx; simp at hx; subst hx
            have hm : y ∈ xs := List.mem_of_getElem? hx2
            have hd3 := dWs_mem hm
            simp only [dW] at hd
            have hsw := sws_mem hm
            obtain ⟨s1, q1, q2⟩ := ih y s (by omega) (by omega) (sims_mem hxs hm) (by omega)
            refine ⟨[some (.tup xs), some (.tup xs), some y, some y], true, by simp [wipeE], by simp [ct1__law_is, tYesM], by simp, fun _ => ⟨.bl true, s1, by simp [ce1__law_is, q1], q2.get hk (by simp), (I.1.trans q2.any).trans (.set _ rfl), ?_⟩⟩
            rw [I.2, List.replicate_succ'])
        (by simp; omega) 1000000 0 [] (st ++ [.lst []]) ⟨.refl, by simp⟩ (by simp) (by omega) (by simp) (by simp; omega)
      subst r3
      simp at r4
      have ec := eComp_of (i := iZipB (aCons (eVar 0) (aCons (eVar 1) aNil))) (p := .tp [.nm 2, .nm 3]) (vs := [2, 3]) (t := ct1__law_is (F__law_is d)) (e := ce1__law_is (F__law_is d)) (n := 1000000) (env := [some (.tup xs), some (.tup xs), none, none]) (st := st) (st0 := st) (src := srcZipT xs xs)
        (by simp [iZipB]) r1
      refine ⟨st2, ?_, (Fr.app _).own r2 fun i hi e => by omega⟩
      simp [F__law_is, G__law_is, e1, isTupB, isi_tup hv, isi_list_sim hs, ec, r4, boolsW_rep]
    | int i => exact ⟨st, by simp [F__law_is, G__law_is, e1, isTupB, isi_bool hv, isBlB], .refl⟩
    | str x =>
      have hx : okS x = true := by simpa [sim] using hs
      exact ⟨st, by simp [F__law_is, G__law_is, e1, isTupB, isi_bool hv, isBlB, fEq_str, hx], .refl⟩
    | _ => simp [sim] at hs
end K01

set_option Elab.async false
set_option linter.all false
set_option maxRecDepth 100000
set_option maxHeartbeats 1000000
namespace K01
open PySem PySem.Spec L2 B
set_option autoImplicit false
theorem pres_mem {ks : List Kd} {k x : Kd} (h : k ∈ ks) (hx : x ∈ pre k) : x ∈ pres ks := by
  induction ks with
  | nil => cases h
  | cons z zs ih =>
    rcases List.mem_cons.mp h with rfl | hm
    · exact List.mem_append_left _ hx
    · exact List.mem_append_right _ (ih hm)
theorem szs_mem {ks : List Kd} {k : Kd} (h : k ∈ ks) : sz k ≤ szs ks := by
  induction ks with
  | nil => cases h
  | cons z zs ih =>
    rcases List.mem_cons.mp h with rfl | hm
    · simp [szs]
    · have := ih hm; simp [szs]; omega
/-! ### _law_put -/
theorem law_put_ok (cs : List Kd) : ∀ (d : Nat) (k : Kd) (st : Sto), ht k ≤ d → wf k = true → sz k < 200000 → (∀ n, Kd.letter n ∈ pre k → n < cs.length) →
    ∃ st', F__law_put d [enc k, .tup (encs cs)] st = some (enc (sub cs k), st') ∧ Gr st st' := by
  intro d
  induction d with
  | zero => intro k st h; have := ht_inn k; omega
  | succ d ih =>
    intro k st hd hw hs hl
    obtain ⟨s, r, e1, e2, e3⟩ := head_ok k
    by_cases hlet : ∃ m, k = .letter m
    · obtain ⟨m, rfl⟩ := hlet
      have hm := hl m (by simp [pre])
      have hat : atI (encs cs) (m : Int) = some (enc (cs.getD m .num)) := by
        rw [atI_nat _ _ (by rw [encs_len]; exact hm), encs_map]
        simp [hm]
      exact ⟨st, by simp [F__law_put, G__law_put, enc, fEq_str, hat, sub], .refl⟩
    · have hi := ht_inn k
      have hsi := sz_inn k
      have hls := len_szs (inn k)
      obtain ⟨ys, st2, r1, ⟨r2, r3⟩, r4, r5⟩ := comp_go (src := srcTup (encs (inn k))) (p := .nm 3) (t := ct1__law_put (F__law_put d)) (e := ce1__law_put (F__law_put d)) (k := st.length) (env := wipeE [some (enc k), some (.tup (encs cs)), none, none] [3]) (encs (inn k))
        (fun j ys s => Fr (fun i => i = st.length) (st ++ [.lst []]) s ∧ ys = encs (subs cs ((inn k).take j)))
        (fun j ys s I _ => rfl)
        (fun j ys s x I hk hx => by
          obtain ⟨kk, hk2, rfl⟩ := encs_get hx
          have hmem : kk ∈ inn k := List.mem_of_getElem? hk2
          have h1 : ht kk ≤ d := by have := hts_le.mp (Nat.le_refl (hts (inn k))) kk hmem; omega
          have h2 : wf kk = true := (wfs_all _).mp (wf_inn hw) kk hmem
          have hpre : ∀ x, x ∈ pre kk → x ∈ pre k := fun x hx => by
            rw [pre_inn k]
            exact List.mem_cons_of_mem _ (pres_mem hmem hx)
          have h3 := szs_mem hmem
          obtain ⟨s1, q1, q2⟩ := ih kk s h1 h2 (by omega) (fun n hn => hl n (hpre _ hn))
          refine ⟨[some (enc k), some (.tup (encs cs)), none, some (enc kk)], true, by simp [wipeE], by simp [ct1__law_put, tYesM], by simp, fun _ => ⟨enc (sub cs kk), s1, by simp [ce1__law_put, q1], q2.get hk (by simp), (I.1.trans q2.any).trans (.set _ rfl), ?_⟩⟩
          rw [I.2, List.take_succ, hk2]
          simp [subs_app, encs_app, subs, encs])
        (by rw [encs_len]; omega) 1000000 0 [] (st ++ [.lst []]) ⟨.refl, by simp [subs, encs]⟩ (by simp) (by omega) (by simp) (by rw [encs_len]; omega)
      rw [encs_len, List.take_length] at r3
      subst r3
      have e4 := inner_ok k (wf_fnS hw) st
      have ec := eComp_of (i := iSeq (eCall F__law_inner (aCons (eVar 0) aNil))) (p := .nm 3) (vs := [3]) (t := ct1__law_put (F__law_put d)) (e := ce1__law_put (F__law_put d)) (n := 1000000) (env := [some (enc k), some (.tup (encs cs)), none, none]) (st := st) (st0 := st) (src := srcTup (encs (inn k)))
        (by simp [iSeq, e4]) r1
      refine ⟨st2, ?_, (Fr.app _).own r2 fun i hi e => by omega⟩
      cases k
      case letter n => exact (hlet ⟨n, rfl⟩).elim
      all_goals simp only [inn, enc] at ec r4
      all_goals simp [F__law_put, G__law_put, enc, fEq_str, ec, r4, sub, subs, encs]
      simp [subs_app, encs_app, subs, encs, rev_last, cut_last]
/-! ### are_kinds, filled -/
theorem are_kinds_ok {cs : List Kd} {st : Sto} (hw : wfs cs = true) (hs : ∀ c ∈ cs, sz c < 200000) (hn : cs.length ≤ 1000) : ∃ st', F_are_kinds [.tup (encs cs)] st = some (.bl true, st') ∧ Gr st st' := by
  have hv : vw st.length (.tup (encs cs)) = true := by simp only [vw]; exact vws_encs _ _
  obtain ⟨ys, st2, r1, ⟨r2, r3⟩, r4, r5⟩ := comp_go (src := srcTup (encs cs)) (p := .nm 1) (t := ct1_are_kinds) (e := ce1_are_kinds) (k := st.length) (env := wipeE [some (.tup (encs cs)), none] [1]) (encs cs)
    (fun j ys s => Fr (fun i => i = st.length) (st ++ [.lst []]) s ∧ ys = List.replicate j (.bl true))
    (fun j ys s I _ => rfl)
    (fun j ys s x I hk hx => by
      obtain ⟨kk, hk2, rfl⟩ := encs_get hx
      have hmem : kk ∈ cs := List.mem_of_getElem? hk2
      obtain ⟨s1, q1, q2⟩ := kind_true (st := s) ((wfs_all _).mp hw kk hmem) (hs kk hmem)
      refine ⟨[some (.tup (encs cs)), some (enc kk)], true, by simp [wipeE], by simp [ct1_are_kinds, tYesM], by simp, fun _ => ⟨.bl true, s1, by simp [ce1_are_kinds, q1], q2.get hk (by simp), (I.1.trans q2.any).trans (.set _ rfl), ?_⟩⟩
      rw [I.2, List.replicate_succ'])
    (by rw [encs_len]; omega) 1000000 0 [] (st ++ [.lst []]) ⟨.refl, by simp⟩ (by simp) (by omega) (by simp) (by rw [encs_len]; omega)
  subst r3
  have ec := eComp_of (i := iSeq (eVar 0)) (p := .nm 1) (vs := [1]) (t := ct1_are_kinds) (e := ce1_are_kinds) (n := 1000000) (env := [some (.tup (encs cs)), none]) (st := st) (st0 := st) (src := srcTup (encs cs))
    (by simp [iSeq]) r1
  refine ⟨st2, ?_, (Fr.app _).own r2 fun i hi e => by omega⟩
  simp [F_are_kinds, isi_tup hv, isTupB, ec, r4, boolsW_rep]
theorem filled_ok {k : Kd} {cs : List Kd} {st : Sto} (hw : wf k = true) (hs : sz k < 200000) (hl : ∀ n, Kd.letter n ∈ pre k → n < cs.length) (hn : cs.length ≤ 60) (hwc : wfs cs = true) (hsc : ∀ c ∈ cs, sz c < 200000) :
    ∃ st', F_filled [enc k, .tup (encs cs)] st = some (enc (sub cs k), st') ∧ Gr st st' := by
  obtain ⟨st1, e1, g1⟩ := letters_in_ok (st := st) hw hs cs.length hn hl
  obtain ⟨st2, e2, g2⟩ := are_kinds_ok (st := st1) hwc hsc (by omega)
  obtain ⟨st3, e3, g3⟩ := put_in_ok (st := st2) hw hs hl
  refine ⟨st3, ?_, (g1.trans g2).trans g3⟩
  rcases List.eq_nil_or_concat (lot k) with h | ⟨l, x, h⟩
  · rw [h] at e1
    simp [F_filled, e1, e2, e3]
  · rw [h, List.concat_eq_append] at e1
    have hx : x ∈ lot k := by rw [h]; simp
    obtain ⟨n, rfl, hn2⟩ := lot_mem.mp hx
    have hlt : ((cs.length : Int) ≤ (n : Int)) = False := eq_false (by have := hl n hn2; omega)
    simp only [List.map_append, List.map_cons, List.map_nil] at e1
    simp [F_filled, e1, e2, e3, rev_last, encs_len, hlt]
end K01

set_option Elab.async false
set_option linter.all false
set_option maxRecDepth 100000
set_option maxHeartbeats 1000000
namespace K01
open PySem PySem.Spec L2 B
set_option autoImplicit false
/-! ### what fits -/
mutual
def subF (σ : Nat → Kd) : Kd → Kd
  | .letter n => σ n
  | .row ks => .row (subsF σ ks)
  | .data n ks => .data n (subsF σ ks)
  | .fn ks r => .fn (subsF σ ks) (subF σ r)
  | .box k => .box (subF σ k)
  | .num => .num
  | .nil => .nil
def subsF (σ : Nat → Kd) : List Kd → List Kd
  | [] => []
  | k :: ks => subF σ k :: subsF σ ks
end
theorem subsF_map (σ : Nat → Kd) (ks : List Kd) : subsF σ ks = ks.map (subF σ) := by
  induction ks with
  | nil => rfl
  | cons k ks ih => simp [subsF, ih]
theorem subsF_len (σ : Nat → Kd) (ks : List Kd) : (subsF σ ks).length = ks.length := by simp [subsF_map]
abbrev Dc := List (Nat × Kd)
def encF (f : Dc) : List (Key × W) := f.map fun p => ((.inl (p.1 : Int) : Key), enc p.2)
def keys (f : Dc) : List Nat := f.map (·.1)
def look (f : Dc) (n : Nat) : Option Kd := (f.find? fun p => decide (p.1 = n)).map (·.2)
theorem look_mem {f : Dc} {n : Nat} {c : Kd} (h : look f n = some c) : (n, c) ∈ f := by
  unfold look at h
  cases e : f.find? fun p => decide (p.1 = n) with
  | none => rw [e] at h; simp at h
  | some p =>
    rw [e] at h; simp at h
    have h1 := List.mem_of_find?_eq_some e
    have h2 := List.find?_some e
    simp at h2
    subst h; subst h2; exact h1
theorem look_none {f : Dc} {n : Nat} (h : look f n = none) : n ∉ keys f := by
  unfold look at h
  simp at h
  intro z
  obtain ⟨p, hp, rfl⟩ := List.mem_map.mp z
  exact h p.1 p.2 hp rfl
theorem mem_look {f : Dc} {n : Nat} {c : Kd} (nd : (keys f).Nodup) (h : (n, c) ∈ f) : look f n = some c := by
  induction f with
  | nil => cases h
  | cons p f ih =>
    simp only [keys, List.map_cons, List.nodup_cons] at nd
    rcases List.mem_cons.mp h with rfl | h
    · simp [look]
    · have hne : p.1 ≠ n := fun z => nd.1 (List.mem_map.mpr ⟨_, h, z.symm⟩)
      have := ih nd.2 h
      unfold look at this ⊢
      rw [List.find?_cons_of_neg (by simpa using hne)]
      exact this
theorem valW_enc (f : Dc) (n : Nat) : valW (encF f) (.inl (n : Int)) = (look f n).map enc := by
  induction f with
  | nil => rfl
  | cons p f ih =>
    unfold valW look encF at *
    by_cases h : p.1 = n
    · simp [h]
    · have h2 : ((p.1 : Int) = (n : Int)) = False := eq_false (by omega)
      simp only [List.map_cons]
      rw [List.find?_cons_of_neg (by simp [h2]), List.find?_cons_of_neg (by simpa using h)]
      exact ih
theorem putW_new {f : Dc} {n : Nat} {c : Kd} (h : n ∉ keys f) : putW (encF f) (.inl (n : Int)) (enc c) = encF (f ++ [(n, c)]) := by
  unfold putW
  rw [if_neg]
  · simp [encF]
  · simp only [encF, List.any_map, List.any_eq_true, not_exists, not_and]
    intro p hp z
    simp at z
    exact h (List.mem_map.mpr ⟨p, hp, by omega⟩)
def Sol (σ : Nat → Kd) (f : Dc) (P : List (Kd × Kd)) : Prop := (∀ p ∈ f, σ p.1 = p.2) ∧ ∀ p ∈ P, subF σ p.1 = p.2
def okK (c : Kd) : Prop := wf c = true ∧ ht c ≤ 30 ∧ sz c < 200000
def okF (f : Dc) : Prop := (∀ p ∈ f, okK p.2) ∧ (keys f).Nodup
def okP (P : List (Kd × Kd)) : Prop := ∀ p ∈ P, wf p.1 = true ∧ okK p.2
def letP (P : List (Kd × Kd)) (n : Nat) : Prop := ∃ p ∈ P, Kd.letter n ∈ pre p.1
theorem okK_inn {c : Kd} (h : okK c) : ∀ x ∈ inn c, okK x := fun x hx => by
  obtain ⟨h1, h2, h3⟩ := h
  have a := hts_le.mp (Nat.le_refl (hts (inn c))) x hx
  have b := ht_inn c
  have d := szs_mem hx
  have e := sz_inn c
  exact ⟨(wfs_all _).mp (wf_inn h1) x hx, by omega, by omega⟩
theorem okP_app {a b : List (Kd × Kd)} : okP (a ++ b) ↔ okP a ∧ okP b :=
  ⟨fun h => ⟨fun p hp => h p (List.mem_append_left _ hp), fun p hp => h p (List.mem_append_right _ hp)⟩, fun h p hp => (List.mem_append.mp hp).elim (h.1 p) (h.2 p)⟩
theorem okP_zip {a c : Kd} (ha : wf a = true) (hc : okK c) : okP ((inn a).zip (inn c)) := fun p hp => by
  have := List.of_mem_zip (a := p.1) (b := p.2) hp
  exact ⟨(wfs_all _).mp (wf_inn ha) _ this.1, okK_inn hc _ this.2⟩
theorem map_zip {xs ys : List Kd} (g : Kd → Kd) : xs.length = ys.length → (xs.map g = ys ↔ ∀ p ∈ xs.zip ys, g p.1 = p.2) := by
  induction xs generalizing ys with
  | nil => intro h; cases ys <;> simp at h ⊢
  | cons x xs ih =>
    intro h
    cases ys with
    | nil => simp at h
    | cons y ys =>
      have := ih (ys := ys) (by simpa using h)
      simp only [List.map_cons, List.cons.injEq, this, List.zip_cons_cons, List.mem_cons, forall_eq_or_imp]
theorem subF_iff {σ : Nat → Kd} {a c : Kd} (h : ∀ n, a ≠ .letter n) : subF σ a = c ↔ alike a c = true ∧ ∀ p ∈ (inn a).zip (inn c), subF σ p.1 = p.2 := by
  have h1 : alike (subF σ a) c = alike a c := by
    cases a <;> cases c <;> simp [subF, alike, subsF_len] <;> exact (h _ rfl).elim
  have h2 : inn (subF σ a) = (inn a).map (subF σ) := by
    cases a <;> simp [subF, inn, subsF_map]
    exact (h _ rfl).elim
  rw [alike_eq, h1, h2]
  constructor
  · rintro ⟨x, y⟩
    exact ⟨x, (map_zip _ (alike_len x)).mp y⟩
  · rintro ⟨x, y⟩
    exact ⟨x, (map_zip _ (alike_len x)).mpr y⟩
theorem pre_zip {a c : Kd} (h : ∀ n, a ≠ .letter n) (hl : (inn a).length = (inn c).length) (n : Nat) : Kd.letter n ∈ pre a ↔ letP ((inn a).zip (inn c)) n := by
  have : Kd.letter n ∈ pre a ↔ Kd.letter n ∈ pres (inn a) := by
    rw [pre_inn a, List.mem_cons]
    exact ⟨fun z => z.elim (fun e => (h n e.symm).elim) id, .inr⟩
  rw [this]
  generalize inn a = xs at hl
  generalize inn c = ys at hl
  clear this h
  induction xs generalizing ys with
  | nil => simp [pres, letP]
  | cons x xs ih =>
    cases ys with
    | nil => simp at hl
    | cons y ys =>
      have := ih ys (by simpa using hl)
      simp only [pres, List.mem_append, this, letP, List.zip_cons_cons, List.mem_cons]
      constructor
      · rintro (z | ⟨p, hp, z⟩)
        · exact ⟨(x, y), .inl rfl, z⟩
        · exact ⟨p, .inr hp, z⟩
      · rintro ⟨p, rfl | hp, z⟩
        · exact .inl z
        · exact .inr ⟨p, hp, z⟩
/-- what came of f and the pairs P: f' if r -/
structure Came (f : Dc) (P : List (Kd × Kd)) (f' : Dc) (r : Bool) : Prop where
  yes : r = true → (∀ σ, Sol σ f P ↔ Sol σ f' []) ∧ ∀ n, n ∈ keys f' ↔ n ∈ keys f ∨ letP P n
  no : r = false → ∀ σ, ¬ Sol σ f P
theorem Sol.app {σ : Nat → Kd} {f : Dc} {a b : List (Kd × Kd)} : Sol σ f (a ++ b) ↔ Sol σ f a ∧ ∀ p ∈ b, subF σ p.1 = p.2 :=
  ⟨fun h => ⟨⟨h.1, fun p hp => h.2 p (List.mem_append_left _ hp)⟩, fun p hp => h.2 p (List.mem_append_right _ hp)⟩,
   fun h => ⟨h.1.1, fun p hp => (List.mem_append.mp hp).elim (h.1.2 p) (h.2 p)⟩⟩
theorem letP_app {a b : List (Kd × Kd)} {n : Nat} : letP (a ++ b) n ↔ letP a n ∨ letP b n := by
  simp only [letP, List.mem_append]
  grind
theorem Came.comp {f f1 f2 : Dc} {P Q : List (Kd × Kd)} {r1 r2 : Bool} (h1 : Came f P f1 r1) (h2 : Came f1 Q f2 r2) : Came f (P ++ Q) f2 (r1 && r2) := by
  constructor
  · intro hr
    simp at hr
    obtain ⟨a1, a2⟩ := h1.yes hr.1
    obtain ⟨b1, b2⟩ := h2.yes hr.2
    refine ⟨fun σ => ?_, fun n => by rw [b2, a2, letP_app]; grind⟩
    rw [Sol.app, a1, ← b1]
    exact ⟨fun z => ⟨z.1.1, z.2⟩, fun z => ⟨⟨z.1, by simp⟩, z.2⟩⟩
  · intro hr σ hs
    rw [Sol.app] at hs
    cases r1 with
    | false => exact h1.no rfl σ hs.1
    | true =>
      simp at hr
      exact h2.no hr σ ⟨(((h1.yes rfl).1 σ).mp hs.1).1, hs.2⟩
theorem Came.refl (f : Dc) : Came f [] f true := ⟨fun _ => ⟨fun _ => Iff.rfl, fun n => by simp [letP]⟩, fun h => by cases h⟩
theorem came_letter_has {f : Dc} {n : Nat} {c u : Kd} (h : look f n = some u) (r : Bool) (hr : r = true ↔ u = c) : Came f [(.letter n, c)] f r := by
  have hm := look_mem h
  constructor
  · intro e
    have := hr.mp e
    subst this
    refine ⟨fun σ => ⟨fun z => ⟨z.1, by simp⟩, fun z => ⟨z.1, ?_⟩⟩, fun m => ?_⟩
    · intro p hp
      have : p = (.letter n, u) := by simpa using hp
      subst this
      exact z.1 _ hm
    · simp only [letP, List.mem_singleton, exists_eq_left, pre]
      constructor
      · exact .inl
      · rintro (z | z)
        · exact z
        · have : m = n := by simpa using z
          subst this; exact List.mem_map.mpr ⟨_, hm, rfl⟩
  · intro e σ z
    have h1 := z.1 _ hm
    have h2 := z.2 (.letter n, c) (by simp)
    simp only [subF] at h1 h2
    have : u = c := h1.symm.trans h2
    rw [hr.mpr this] at e; cases e
theorem came_letter_new {f : Dc} {n : Nat} {c : Kd} (h : look f n = none) : Came f [(.letter n, c)] (f ++ [(n, c)]) true := by
  refine ⟨fun _ => ⟨fun σ => ⟨fun z => ⟨fun p hp => ?_, by simp⟩, fun z => ⟨fun p hp => z.1 p (List.mem_append_left _ hp), fun p hp => ?_⟩⟩, fun m => ?_⟩, fun e => by cases e⟩
  · rcases List.mem_append.mp hp with hp | hp
    · exact z.1 p hp
    · have : p = (n, c) := by simpa using hp
      subst this
      exact z.2 (.letter n, c) (by simp)
  · have : p = (.letter n, c) := by simpa using hp
    subst this
    exact z.1 (n, c) (by simp)
  · simp [keys, letP, pre]
theorem okF_new {f : Dc} {n : Nat} {c : Kd} (h : okF f) (hn : look f n = none) (hc : okK c) : okF (f ++ [(n, c)]) := by
  refine ⟨fun p hp => ?_, ?_⟩
  · rcases List.mem_append.mp hp with hp | hp
    · exact h.1 p hp
    · have : p = (n, c) := by simpa using hp
      subst this; exact hc
  · have := look_none hn
    simp only [keys, List.map_append, List.map_cons, List.map_nil]
    rw [List.nodup_append]
    exact ⟨h.2, by simp, fun a ha b hb => by simp at hb; subst hb; exact fun e => this (by subst e; exact ha)⟩
theorem came_split {f : Dc} {a c : Kd} (h : ∀ n, a ≠ .letter n) (hal : alike a c = true) {f' : Dc} {r : Bool} (hc : Came f ((inn a).zip (inn c)) f' r) : Came f [(a, c)] f' r := by
  have e : ∀ σ, Sol σ f [(a, c)] ↔ Sol σ f ((inn a).zip (inn c)) := fun σ => by
    have := subF_iff (σ := σ) (c := c) h
    constructor
    · intro z; exact ⟨z.1, (this.mp (z.2 (a, c) (by simp))).2⟩
    · intro z; exact ⟨z.1, fun p hp => by
        have : p = (a, c) := by simpa using hp
        subst this; exact (subF_iff h).mpr ⟨hal, z.2⟩⟩
  refine ⟨fun hr => ⟨fun σ => (e σ).trans ((hc.yes hr).1 σ), fun n => ?_⟩, fun hr σ z => hc.no hr σ ((e σ).mp z)⟩
  rw [(hc.yes hr).2, ← pre_zip h (alike_len hal)]
  simp [letP]
theorem came_bad {f : Dc} {a c : Kd} (h : ∀ n, a ≠ .letter n) (hal : alike a c = false) {f' : Dc} : Came f [(a, c)] f' false :=
  ⟨fun e => by (cases e), fun _ σ z => by
    have := ((subF_iff h).mp (z.2 (a, c) (by simp))).1
    rw [hal] at this; cases this⟩
end K01

set_option Elab.async false
set_option linter.all false
set_option maxRecDepth 100000
set_option maxHeartbeats 1000000
namespace K01
open PySem PySem.Spec L2 B
set_option autoImplicit false
theorem encF_len (f : Dc) : (encF f).length = f.length := by simp [encF]
def mE (t u : W) (qf qw : Nat) (o o' : Option W) : En := [some t, some u, some (.ref qf), some (.ref qw), o, o']
theorem match_loop (t u : W) (qf qw : Nat) (hne : qf ≠ qw) : ∀ (n : Nat) (P : List (Kd × Kd)) (f : Dc) (o o' : Option W) (st : Sto), st[qf]? = some (.dct (encF f)) → st[qw]? = some (.lst (encP P)) → okF f → okP P → szP P < n → f.length + szP P < 200000 →
    ∃ fl env' st', sWhile wt1_matched wb1_matched n (mE t u qf qw o o') st = some ((fl, env'), st') ∧ Fr (fun i => i = qf ∨ i = qw) st st' ∧
      ((fl = .rt .non ∧ ∀ σ, ¬ Sol σ f P) ∨ (fl = .nx ∧ ∃ o o' f', env' = mE t u qf qw o o' ∧ st'[qf]? = some (.dct (encF f')) ∧ okF f' ∧ f'.length ≤ f.length + szP P ∧ Came f P f' true)) := by
  intro n
  induction n with
  | zero => intro P f o o' st _ _ _ _ h _; omega
  | succ n ih =>
    intro P f o o' st h1 h2 hF hP hn hm
    rcases List.eq_nil_or_concat P with rfl | ⟨P0, ⟨a, c⟩, rfl⟩
    · exact ⟨.nx, mE t u qf qw o o', st, by simp [sWhile, wt1_matched, mE, h2, encP], .refl, .inr ⟨rfl, o, o', f, rfl, h1, hF, by omega, .refl f⟩⟩
    · rw [List.concat_eq_append] at *
      rw [szP_app] at hn hm
      obtain ⟨hP0, hP1⟩ := okP_app.mp hP
      obtain ⟨wa, kc⟩ := hP1 (a, c) (by simp)
      simp only at wa kc
      have hsz : szP [(a, c)] = sz a := by simp [szP]
      have hpos := sz_pos a
      have e0 : encP (P0 ++ [(a, c)]) = encP P0 ++ [.tup [enc a, enc c]] := by simp [encP]
      rw [e0] at h2
      obtain ⟨sa, hsa⟩ : ∃ s, st.set qw (SO.lst (encP P0)) = s := ⟨_, rfl⟩
      have a1 : sa[qf]? = some (.dct (encF f)) := by rw [← hsa, List.getElem?_set_ne (Ne.symm hne)]; exact h1
      have a2 : sa[qw]? = some (.lst (encP P0)) := by rw [← hsa]; exact List.getElem?_set_self (lt_of_get h2)
      have fa : Fr (fun i => i = qf ∨ i = qw) st sa := by rw [← hsa]; exact .set _ (.inr rfl)
      have hfl : sml (encF f).length = true := by rw [encF_len]; exact sml_le (by omega)
      have perm : ∀ {f' : Dc} {r : Bool}, Came f (P0 ++ [(a, c)]) f' r ↔ Came f ([(a, c)] ++ P0) f' r := fun {f' r} => by
        have e : ∀ σ, Sol σ f (P0 ++ [(a, c)]) ↔ Sol σ f ([(a, c)] ++ P0) := fun σ => by
          unfold Sol; simp only [List.mem_append]; grind
        have e2 : ∀ m, letP (P0 ++ [(a, c)]) m ↔ letP ([(a, c)] ++ P0) m := fun m => by
          rw [letP_app, letP_app]; exact Or.comm
        constructor
        · intro z; exact ⟨fun hr => ⟨fun σ => (e σ).symm.trans ((z.yes hr).1 σ), fun m => by rw [(z.yes hr).2, e2]⟩, fun hr σ w => z.no hr σ ((e σ).mpr w)⟩
        · intro z; exact ⟨fun hr => ⟨fun σ => (e σ).trans ((z.yes hr).1 σ), fun m => by rw [(z.yes hr).2, e2]⟩, fun hr σ w => z.no hr σ ((e σ).mp w)⟩
      have stop : ∀ {f1 : Dc}, Came f [(a, c)] f1 false → ∀ σ, ¬ Sol σ f (P0 ++ [(a, c)]) := fun {f1} z σ w => by
        rw [Sol.app] at w
        exact z.no rfl σ ⟨w.1.1, w.2⟩
      by_cases hlet : ∃ m, a = .letter m
      · obtain ⟨m, rfl⟩ := hlet
        have hv := valW_enc f m
        cases hlk : look f m with
        | some v =>
          rw [hlk] at hv
          have kv := hF.1 _ (look_mem hlk)
          simp only at kv
          obtain ⟨sb, r, e3, g3, i3⟩ := same_ok (a := v) (b := c) (st := sa) kv.1 kc.1 kv.2.2
          have hc := came_letter_has hlk r i3
          have fb : Fr (fun i => i = qf ∨ i = qw) st sb := fa.trans g3.any
          cases r with
          | false =>
            refine ⟨.rt .non, mE t u qf qw (some (enc (.letter m))) (some (enc c)), sb, ?_, fb, .inl ⟨rfl, stop hc⟩⟩
            simp [sWhile, wt1_matched, wb1_matched, mE, h2, hsa, enc, fEq_str, a1, hv, hfl, e3]
          | true =>
            obtain ⟨fl, env', st', r1, r2, r3⟩ := ih P0 f (some (enc (.letter m))) (some (enc c)) sb (g3.get a1 (by simp)) (g3.get a2 (by simp)) hF hP0 (by omega) (by omega)
            refine ⟨fl, env', st', ?_, fb.trans r2, ?_⟩
            · rw [← r1]
              simp [sWhile, wt1_matched, wb1_matched, mE, h2, hsa, enc, fEq_str, a1, hv, hfl, e3]
            · rcases r3 with ⟨rfl, r3⟩ | ⟨rfl, o1, o2, f', x1, x2, x3, x4, x5⟩
              · exact .inl ⟨rfl, fun σ w => r3 σ (Sol.app.mp w).1⟩
              · exact .inr ⟨rfl, o1, o2, f', x1, x2, x3, by rw [szP_app]; omega, perm.mpr (by simpa using hc.comp x5)⟩
        | none =>
          rw [hlk] at hv
          simp only [Option.map_none] at hv
          have hput := putW_new (c := c) (look_none hlk)
          obtain ⟨sb, hsb⟩ : ∃ s, sa.set qf (SO.dct (encF (f ++ [(m, c)]))) = s := ⟨_, rfl⟩
          have b1 : sb[qf]? = some (.dct (encF (f ++ [(m, c)]))) := by rw [← hsb]; exact List.getElem?_set_self (lt_of_get a1)
          have b2 : sb[qw]? = some (.lst (encP P0)) := by rw [← hsb, List.getElem?_set_ne hne]; exact a2
          have fb : Fr (fun i => i = qf ∨ i = qw) st sb := by rw [← hsb]; exact fa.trans (.set _ (.inl rfl))
          obtain ⟨sc, r, e3, g3, i3⟩ := same_ok (a := c) (b := c) (st := sb) kc.1 kc.1 kc.2.2
          have : r = true := i3.mpr rfl
          subst this
          have hc := came_letter_new (c := c) hlk
          have hlen : (f ++ [(m, c)]).length = f.length + 1 := by simp
          obtain ⟨fl, env', st', r1, r2, r3⟩ := ih P0 (f ++ [(m, c)]) (some (enc (.letter m))) (some (enc c)) sc (g3.get b1 (by simp)) (g3.get b2 (by simp)) (okF_new hF hlk kc) hP0 (by omega) (by omega)
          refine ⟨fl, env', st', ?_, (fb.trans g3.any).trans r2, ?_⟩
          · rw [← r1]
            simp [sWhile, wt1_matched, wb1_matched, mE, h2, hsa, enc, fEq_str, a1, hv, hfl, hput, hsb, e3]
          · rcases r3 with ⟨rfl, r3⟩ | ⟨rfl, o1, o2, f', x1, x2, x3, x4, x5⟩
            · refine .inl ⟨rfl, fun σ w => r3 σ ?_⟩
              have := ((hc.yes rfl).1 σ).mp ⟨(Sol.app.mp w).1.1, (Sol.app.mp w).2⟩
              exact ⟨this.1, (Sol.app.mp w).1.2⟩
            · exact .inr ⟨rfl, o1, o2, f', x1, x2, x3, by rw [szP_app]; omega, perm.mpr (by simpa using hc.comp x5)⟩
      · have hnl : ∀ m, a ≠ .letter m := fun m e => hlet ⟨m, e⟩
        obtain ⟨s, r, e1, e2, e3⟩ := head_ok a
        have e3' : (s == ("letter" : Str)) = false := by
          cases hh : (s == ("letter" : Str)) with
          | false => rfl
          | true => exact (hlet (e3.mp hh)).elim
        have e4 := alike_ok (st := sa) (wf_fnS wa) (wf_fnS kc.1)
        cases hal : alike a c with
        | false =>
          rw [hal, e1] at e4
          refine ⟨.rt .non, mE t u qf qw (some (enc a)) (some (enc c)), sa, ?_, fa, .inl ⟨rfl, stop (f1 := f) (came_bad hnl hal)⟩⟩
          rw [e1] at h2 ⊢
          simp [sWhile, wt1_matched, wb1_matched, mE, h2, hsa, fEq_str, e2, e3', e4]
        | true =>
          rw [hal, e1] at e4
          have e5 := within_ok a (wf_fnS wa) sa
          have e6 := within_ok c (wf_fnS kc.1) sa
          have hlen := alike_len hal
          have hp := sz_inn a
          have hzz := szP_zip (inn a) (inn c)
          have hz1 : sml (inn a).length = true := wf_len wa (by omega)
          have hz2 : sml (P0.length + min (inn a).length (inn c).length) = true := sml_le (by have := len_szP P0; have := len_szs (inn a); omega)
          have ez := encP_zip (inn a) (inn c)
          obtain ⟨sb, hsb⟩ : ∃ s, sa ++ [SO.lst (encP ((inn a).zip (inn c)))] = s := ⟨_, rfl⟩
          have fb : Fr (fun i => i = qf ∨ i = qw) st sb := by rw [← hsb]; exact fa.trans (.app _)
          have b0 : sb[qf]? = some (.dct (encF f)) := by rw [← hsb, List.getElem?_append_left (lt_of_get a1)]; exact a1
          have b1 : sb[qw]? = some (.lst (encP P0)) := by rw [← hsb, List.getElem?_append_left (lt_of_get a2)]; exact a2
          have b2 : sb[sa.length]? = some (SO.lst (encP ((inn a).zip (inn c)))) := by rw [← hsb]; simp
          obtain ⟨sc, hsc⟩ : ∃ s, sb.set qw (SO.lst (encP P0 ++ encP ((inn a).zip (inn c)))) = s := ⟨_, rfl⟩
          have c0 : sc[qf]? = some (.dct (encF f)) := by rw [← hsc, List.getElem?_set_ne (Ne.symm hne)]; exact b0
          have c1 : sc[qw]? = some (.lst (encP (P0 ++ (inn a).zip (inn c)))) := by rw [encP_app, ← hsc]; exact List.getElem?_set_self (lt_of_get b1)
          have fc : Fr (fun i => i = qf ∨ i = qw) st sc := by rw [← hsc]; exact fb.trans (.set _ (.inr rfl))
          obtain ⟨fl, env', st', r1, r2, r3⟩ := ih (P0 ++ (inn a).zip (inn c)) f (some (enc a)) (some (enc c)) sc c0 c1 hF (okP_app.mpr ⟨hP0, okP_zip wa kc⟩) (by rw [szP_app]; omega) (by rw [szP_app]; omega)
          have eS : ∀ σ, Sol σ f (P0 ++ [(a, c)]) ↔ Sol σ f (P0 ++ (inn a).zip (inn c)) := fun σ => by
            rw [Sol.app, Sol.app]
            constructor
            · rintro ⟨x, y⟩
              exact ⟨x, ((subF_iff hnl).mp (y (a, c) (by simp))).2⟩
            · rintro ⟨x, y⟩
              refine ⟨x, fun p hp => ?_⟩
              have : p = (a, c) := by simpa using hp
              subst this
              exact (subF_iff hnl).mpr ⟨hal, y⟩
          refine ⟨fl, env', st', ?_, fc.trans r2, ?_⟩
          · rw [← r1]
            rw [e1] at h2 e5 ⊢
            simp [sWhile, wt1_matched, wb1_matched, mE, h2, hsa, fEq_str, e2, e3', e4, e5, e6, hz1, encs_len, ez, hsb, b1, b2, encP_len, hz2, hsc, a2]
          · rcases r3 with ⟨rfl, r3⟩ | ⟨rfl, o1, o2, f', x1, x2, x3, x4, x5⟩
            · exact .inl ⟨rfl, fun σ w => r3 σ ((eS σ).mp w)⟩
            · refine .inr ⟨rfl, o1, o2, f', x1, x2, x3, by rw [szP_app] at x4 ⊢; omega, ⟨fun hr => ⟨fun σ => (eS σ).trans ((x5.yes hr).1 σ), fun m => ?_⟩, fun hr => by cases hr⟩⟩
              rw [(x5.yes rfl).2, letP_app, letP_app, ← pre_zip hnl hlen]
              simp [letP]
/-- what matched tells: nothing where nothing fits, else the dict -/
def Told (P : List (Kd × Kd)) (w : W) (st : Sto) : Prop :=
  (w = .non ∧ ∀ σ, ¬ Sol σ [] P) ∨ ∃ q f, w = .ref q ∧ st[q]? = some (.dct (encF f)) ∧ okF f ∧ Came [] P f true ∧ f.length ≤ szP P
theorem matched_ok {a c : Kd} {st : Sto} (wa : wf a = true) (sa : sz a < 100000) (kc : okK c) (hl : ∀ n, Kd.letter n ∈ pre a → n < 60) (hcl : ∀ n, Kd.letter n ∉ pre c) (hm : 0 < 1) :
    ∃ w st', F_matched [enc a, enc c] st = some (w, st') ∧ Gr st st' ∧ Told [(a, c)] w st' ∧ ∀ q, w = .ref q → st.length ≤ q := by
  obtain ⟨s1, e1, g1⟩ := kind_true (st := st) wa (by omega)
  obtain ⟨s2, e2, g2⟩ := letters_in_ok (k := c) (st := s1) kc.1 kc.2.2 0 (by omega) (fun n h => (hcl n h).elim)
  have hlot : lot c = [] := by
    cases h : lot c with
    | nil => rfl
    | cons x xs =>
      obtain ⟨n, _, hn⟩ := lot_mem.mp (show x ∈ lot c by rw [h]; simp)
      exact (hcl n hn).elim
  rw [hlot] at e2
  have hP : okP [(a, c)] := fun p hp => by
    have : p = (a, c) := by simpa using hp
    subst this; exact ⟨wa, kc⟩
  have hsz : szP [(a, c)] = sz a := by simp [szP]
  have hlen := (g1.trans g2).len
  obtain ⟨fl, env', st', r1, r2, r3⟩ := match_loop (enc a) (enc c) s2.length (s2.length + 1) (by omega) 1000000 [(a, c)] [] none none (s2 ++ [SO.dct [], SO.lst [.tup [enc a, enc c]]]) (by simp [encF]) (by simp [encP]) ⟨by simp, by simp [keys]⟩ hP (by omega) (by simp; omega)
  unfold mE at r1
  have g : Gr st st' := ((g1.trans g2).trans (.app _)).own r2 fun i hi e => by omega
  rcases r3 with ⟨rfl, r3⟩ | ⟨rfl, o, o', f', x1, x2, x3, x4, x5⟩
  · exact ⟨.non, st', by simp [F_matched, e1, e2, r1], g, .inl ⟨rfl, r3⟩, fun q h => by cases h⟩
  · subst x1
    exact ⟨.ref s2.length, st', by simp [F_matched, e1, e2, r1, mE], g, .inr ⟨_, f', rfl, x2, x3, x5, by simpa using x4⟩, fun q h => by cases h; omega⟩
end K01

set_option Elab.async false
set_option linter.all false
set_option maxRecDepth 100000
set_option maxHeartbeats 1000000
namespace K01
open PySem PySem.Spec L2 B
set_option autoImplicit false
def gT : TM := (tOrM (tBl (eOp fNe (eOp fIx (eVar 0) (eC (.int 0))) (eOp fIx (eVar 1) (eC (.int 0))))) (tOrM (tBl (eOp fNe (eCall bLen (aCons (eVar 3) aNil)) (eCall bLen (aCons (eVar 4) aNil)))) (tAndM (tBl (eOp fEq (eOp fIx (eVar 0) (eC (.int 0))) (eC (.str "data")))) (tBl (eOp fNe (eOp fIx (eVar 0) (eC (.int 1))) (eOp fIx (eVar 1) (eC (.int 1))))))))
theorem gT_ok {a c : Kd} {x : Option W} {y z : Option W} {st : Sto} (h : ∀ n, a ≠ .letter n) : gT [some (enc a), some (enc c), x, some (.tup (encs (inn a))), some (.tup (encs (inn c))), y, z] st = some (!alike a c, st) := by
  cases a <;> cases c
  case letter.letter n m => exact (h _ rfl).elim
  case data.data n ks m ls =>
    by_cases h1 : n = m
    · subst h1
      cases h2 : (ks.length == ls.length) <;> simp [gT, enc, fNe_str, fEq_str, encs_len, inn, alike, beq_natCast, h2]
    · have h2 : ((n : Int) == (m : Int)) = false := by rw [beq_natCast]; simpa using h1
      have h4 : (n == m) = false := by simpa using h1
      cases h3 : (ks.length == ls.length) <;> simp [gT, enc, fNe_str, fEq_str, encs_len, inn, alike, beq_natCast, h2, h3, h4, h1]
  all_goals first | exact (h _ rfl).elim | skip
  case row.row ks ls => cases h3 : (ks.length == ls.length) <;> simp [gT, enc, fNe_str, fEq_str, encs_len, inn, alike, beq_natCast, h3]
  case fn.fn ks r ls s => cases h3 : (ks.length == ls.length) <;> simp [gT, enc, fNe_str, fEq_str, encs_len, inn, alike, beq_natCast, dec_len, h3]
  all_goals simp [gT, enc, fNe_str, fEq_str, encs_len, inn, alike, encs]
def gG (Fd : List W → M W) : List W → M W := fnM 3 7 (bCons (sIf (tBl (eOp fEq (eOp fIx (eVar 0) (eC (.int 0))) (eC (.str "letter")))) (bCons (sIf (tBl (eOp fDIn (eOp fIx (eVar 0) (eC (.int 1))) (eVar 2))) (bCons (sRet (eOp fEq (eOp fDGet (eVar 2) (eOp fIx (eVar 0) (eC (.int 1)))) (eVar 1)))
    bNil) bNil)
    (bCons (sDSet (eVar 2) (eOp fIx (eVar 0) (eC (.int 1))) (eVar 1))
    (bCons (sRet (eC (.bl true)))
    bNil))) bNil)
    (bCons (sPar 3 4 (aCons (eCall F__law_inner (aCons (eVar 0) aNil)) (aCons (eCall F__law_inner (aCons (eVar 1) aNil)) aNil)))
    (bCons (sIf gT (bCons (sRet (eC (.bl false)))
    bNil) bNil)
    (bCons (sRet (eCall bAll (aCons (eComp (iZipB (aCons (eVar 3) (aCons (eVar 4) aNil))) (.tp [(.nm 5), (.nm 6)]) [5, 6] (ct1__law_goes_with Fd) (ce1__law_goes_with Fd) 1000000) aNil)))
    bNil))))
theorem gG_eq (Fd : List W → M W) : G__law_goes_with Fd = gG Fd := rfl
theorem boolsW_map (bs : List Bool) : boolsW (bs.map .bl) = some bs := by
  induction bs with
  | nil => rfl
  | cons b bs ih => simp [boolsW, ih]
theorem encP_get {P : List (Kd × Kd)} {j : Nat} {x : W} (h : (encP P)[j]? = some x) : ∃ p, P[j]? = some p ∧ x = .tup [enc p.1, enc p.2] := by
  unfold encP at h
  rw [List.getElem?_map] at h
  cases e : P[j]? with
  | none => rw [e] at h; simp at h
  | some k => rw [e] at h; simp at h; exact ⟨k, rfl, h.symm⟩
theorem srcZip_enc (xs ys : List Kd) (j : Nat) (st : Sto) : srcZipT (encs xs) (encs ys) j st = some (encP (xs.zip ys))[j]? := by
  unfold srcZipT
  rw [← encP_zip, List.getElem?_map, List.zip_eq_zipWith, List.getElem?_zipWith]
  cases (encs xs)[j]? <;> cases (encs ys)[j]? <;> rfl
theorem szP_take (P : List (Kd × Kd)) (j : Nat) (p : Kd × Kd) (h : P[j]? = some p) : szP (P.take (j + 1)) = szP (P.take j) + sz p.1 := by
  rw [List.take_succ, h, szP_app]
  simp [szP]
theorem szP_take_le (P : List (Kd × Kd)) (j : Nat) : szP (P.take j) ≤ szP P := by
  have : szP P = szP (P.take j) + szP (P.drop j) := by rw [← szP_app, List.take_append_drop]
  omega
theorem mem_szP {P : List (Kd × Kd)} {p : Kd × Kd} (h : p ∈ P) : sz p.1 ≤ szP P := by
  induction P with
  | nil => cases h
  | cons q P ih =>
    have e : szP (q :: P) = sz q.1 + szP P := by simp [szP]
    rcases List.mem_cons.mp h with rfl | h
    · omega
    · have := ih h; omega
theorem goes_ok : ∀ (d : Nat) (a c : Kd) (f : Dc) (qf : Nat) (st : Sto), ht a ≤ d → wf a = true → sz a < 100000 → okK c → okF f → f.length + sz a < 200000 → st[qf]? = some (.dct (encF f)) →
    ∃ r st' f', F__law_goes_with d [enc a, enc c, .ref qf] st = some (.bl r, st') ∧ Fr (fun i => i = qf) st st' ∧ st'[qf]? = some (.dct (encF f')) ∧ okF f' ∧ f'.length ≤ f.length + sz a ∧ Came f [(a, c)] f' r := by
  intro d
  induction d with
  | zero => intro a c f qf st h; have := ht_inn a; omega
  | succ d ih =>
    intro a c f qf st hd wa hsa kc hF hm hq
    have hpos := sz_pos a
    by_cases hlet : ∃ m, a = .letter m
    · obtain ⟨m, rfl⟩ := hlet
      have hv := valW_enc f m
      cases hlk : look f m with
      | some v =>
        rw [hlk] at hv
        have kv := hF.1 _ (look_mem hlk)
        simp only at kv
        obtain ⟨r, e, i⟩ := enc_fEq (a := v) (b := c) (st := st) (by have := kv.2.1; omega) (by have := kc.2.1; omega)
        simp only [Option.map_some] at hv
        exact ⟨r, st, f, by simp [F__law_goes_with, G__law_goes_with, enc, fEq_str, hq, hv, e], .refl, hq, hF, by omega, came_letter_has hlk r i⟩
      | none =>
        rw [hlk] at hv
        simp only [Option.map_none] at hv
        have hput := putW_new (c := c) (look_none hlk)
        have hfl : sml (encF f).length = true := by rw [encF_len]; exact sml_le (by omega)
        exact ⟨true, st.set qf (.dct (encF (f ++ [(m, c)]))), f ++ [(m, c)], by simp [F__law_goes_with, G__law_goes_with, enc, fEq_str, hq, hv, hfl, hput], .set _ rfl, List.getElem?_set_self (lt_of_get hq), okF_new hF hlk kc, by simp; omega, came_letter_new hlk⟩
    · have hnl : ∀ m, a ≠ .letter m := fun m e => hlet ⟨m, e⟩
      obtain ⟨s, r, e1, e2, e3⟩ := head_ok a
      have e3' : (s == ("letter" : Str)) = false := by
        cases hh : (s == ("letter" : Str)) with
        | false => rfl
        | true => exact (hlet (e3.mp hh)).elim
      have e5 := inner_ok a (wf_fnS wa) st
      have e6 := inner_ok c (wf_fnS kc.1) st
      have et := gT_ok (c := c) (x := some (.ref qf)) (y := none) (z := none) (st := st) hnl
      cases hal : alike a c with
      | false =>
        rw [hal] at et
        refine ⟨false, st, f, ?_, .refl, hq, hF, by omega, came_bad hnl hal⟩
        rw [e1] at e5 et ⊢
        simp only [F__law_goes_with, gG_eq]
        simp [gG, fEq_str, e2, e3', e5, e6, et]
      | true =>
        rw [hal] at et
        have hlen := alike_len hal
        have hi := ht_inn a
        have hsi := sz_inn a
        have hzz := szP_zip (inn a) (inn c)
        have hzl := len_szP ((inn a).zip (inn c))
        have hqk : qf ≠ st.length := by have := lt_of_get hq; omega
        have hql := lt_of_get hq
        obtain ⟨PP, hPP⟩ : ∃ x, (inn a).zip (inn c) = x := ⟨_, rfl⟩
        rw [hPP] at hzz hzl
        have hokP : okP PP := by rw [← hPP]; exact okP_zip wa kc
        have hhP : ∀ p ∈ PP, ht p.1 ≤ d := fun p hp => by
          rw [← hPP] at hp
          have h1 := (List.of_mem_zip (a := p.1) (b := p.2) hp).1
          have := hts_le.mp (Nat.le_refl (hts (inn a))) _ h1
          omega
        obtain ⟨ys, st2, r1, ⟨fj, bs, x1, x2, x3, x4, x5, x6⟩, r4, r5⟩ := comp_go (src := srcZipT (encs (inn a)) (encs (inn c))) (p := .tp [.nm 5, .nm 6]) (t := ct1__law_goes_with (F__law_goes_with d)) (e := ce1__law_goes_with (F__law_goes_with d)) (k := st.length) (env := wipeE [some (enc a), some (enc c), some (.ref qf), some (.tup (encs (inn a))), some (.tup (encs (inn c))), none, none] [5, 6]) (encP PP)
          (fun j ys s => ∃ fj bs, s[qf]? = some (.dct (encF fj)) ∧ Fr (fun i => i = qf ∨ i = st.length) (st ++ [.lst []]) s ∧ okF fj ∧ fj.length ≤ f.length + szP (PP.take j) ∧ ys = bs.map .bl ∧ Came f (PP.take j) fj (bs.all id))
          (fun j ys s I _ => by rw [← hPP]; exact srcZip_enc _ _ _ _)
          (fun j ys s x ⟨fj, bs, x1, x2, x3, x4, x5, x6⟩ hk hx => by
            obtain ⟨p, hp, rfl⟩ := encP_get hx
            have hmem := List.mem_of_getElem? hp
            have hp1 := hokP p hmem
            have hp2 := mem_szP hmem
            have hp3 := szP_take PP j p hp
            have hp4 := szP_take_le PP (j + 1)
            obtain ⟨r, s1, f2, q1, q2, q3, q4, q5, q6⟩ := ih p.1 p.2 fj qf s (hhP p hmem) hp1.1 (by omega) hp1.2 x3 (by omega) x1
            refine ⟨[some (enc a), some (enc c), some (.ref qf), some (.tup (encs (inn a))), some (.tup (encs (inn c))), some (enc p.1), some (enc p.2)], true, by simp [wipeE], by simp [ct1__law_goes_with, tYesM], by simp, fun _ => ⟨.bl r, s1, by simp [ce1__law_goes_with, q1], q2.get hk (by omega), f2, bs ++ [r], ?_, ?_, q4, by omega, by simp [x5], ?_⟩⟩
            · rw [List.getElem?_set_ne (Ne.symm hqk)]; exact q3
            · exact (x2.trans (q2.mono fun i e => .inl e)).trans (.set _ (.inr rfl))
            · rw [List.take_succ, hp, List.all_append]
              simpa using x6.comp q6)
          (by rw [encP_len]; omega) 1000000 0 [] (st ++ [.lst []]) ⟨f, [], by rw [List.getElem?_append_left hql]; exact hq, .refl, hF, by simp [szP], rfl, by simpa using Came.refl f⟩ (by simp) (by omega) (by simp) (by rw [encP_len]; omega)
        rw [encP_len, List.take_length] at x4 x6
        subst x5
        have ec := eComp_of (i := iZipB (aCons (eVar 3) (aCons (eVar 4) aNil))) (p := .tp [.nm 5, .nm 6]) (vs := [5, 6]) (t := ct1__law_goes_with (F__law_goes_with d)) (e := ce1__law_goes_with (F__law_goes_with d)) (n := 1000000) (env := [some (enc a), some (enc c), some (.ref qf), some (.tup (encs (inn a))), some (.tup (encs (inn c))), none, none]) (st := st) (st0 := st) (src := srcZipT (encs (inn a)) (encs (inn c)))
          (by simp [iZipB]) r1
        refine ⟨bs.all id, st2, fj, ?_, (Fr.app (P := fun i => i = qf) _).own x2 (fun i hi e => by omega), x1, x3, by omega, came_split hnl hal (by rw [hPP]; exact x6)⟩
        rw [e1] at e5 et ec ⊢
        simp only [F__law_goes_with, gG_eq]
        simp [gG, fEq_str, e2, e3', e5, e6, et, ec, r4, boolsW_map]
/-! ### two dicts -/
theorem hits_ok (g : Dc) (hg : okF g) : ∀ f : Dc, (∀ p ∈ f, okK p.2 ∧ look g p.1 = some p.2) → hitsW (encF g) (encF f) = some true
  | [], _ => rfl
  | (n, c) :: f, h => by
    obtain ⟨h1, h2⟩ := h (n, c) List.mem_cons_self
    have ih := hits_ok g hg f fun p hp => h p (List.mem_cons_of_mem _ hp)
    have hv := valW_enc g n
    rw [h2] at hv
    obtain ⟨d, d1, d2, d3⟩ := sim_toD (enc c) (sim_enc c)
    have hd := dW_enc c
    have hb : ht c ≤ 30 := h1.2.1
    have s1 : SeqAt.shaped d = true := by simp [SeqAt.shaped, d2, d3]; omega
    have s2 : PyData.eqv d d = true := (sim_eqv _ _ _ _ (sim_enc c) (sim_enc c) d1 d1).mpr rfl
    simp only [Option.map_some] at hv
    have e : encF ((n, c) :: f) = (.inl (n : Int), enc c) :: encF f := rfl
    rw [e]
    simp [hitsW, hv, d1, s1, s2, ih]
theorem same_dicts {f g : Dc} {q q' : Nat} {st : Sto} (hf : okF f) (hg : okF g) (h1 : st[q]? = some (.dct (encF f))) (h2 : st[q']? = some (.dct (encF g))) (hk : ∀ n, n ∈ keys f ↔ n ∈ keys g) (hv : ∃ σ : Nat → Kd, (∀ p ∈ f, σ p.1 = p.2) ∧ ∀ p ∈ g, σ p.1 = p.2) :
    fNeDict (.ref q) (.ref q') st = some (.bl false, st) := by
  obtain ⟨σ, a, b⟩ := hv
  have hl : f.length = g.length := by
    have := ((List.perm_ext_iff_of_nodup hf.2 hg.2).mpr hk).length_eq
    simpa [keys] using this
  have hh := hits_ok g hg f fun p hp => by
    refine ⟨hf.1 p hp, ?_⟩
    have : p.1 ∈ keys g := (hk _).mp (List.mem_map.mpr ⟨p, hp, rfl⟩)
    obtain ⟨p2, hp2, e⟩ := List.mem_map.mp this
    have e2 : p2.2 = p.2 := by rw [← b p2 hp2, ← a p hp, e]
    have : p2 = (p.1, p.2) := by rw [← e, ← e2]
    rw [this] at hp2
    exact mem_look hg.2 hp2
  simp [fNeDict, h1, h2, eqDW, hh, encF_len, hl]
end K01

set_option Elab.async false
set_option linter.all false
set_option maxRecDepth 100000
set_option maxHeartbeats 1000000
namespace K01
open PySem PySem.Spec L2 B
set_option autoImplicit false
/-! ### the bag -/
structure Bag (b g : Nat) (st : Sto) : Prop where
  ne : b ≠ g
  at' : ∃ (seed cnt : Int) (ns : List Int) (al : W), st[b]? = some (.lst [.int seed, .int cnt, .ref g, al]) ∧ st[g]? = some (.lst (ns.map .int)) ∧ (al = .non ∨ ∃ i, al = .int i)
abbrev BF (b g : Nat) (st st' : Sto) : Prop := Fr (fun i => i = b ∨ i = g) st st'
theorem Bag.fr {b g : Nat} {st st' : Sto} (h : Bag b g st) {P : Nat → Prop} (f : Fr P st st') (hb : ¬ P b) (hg : ¬ P g) : Bag b g st' := by
  obtain ⟨s, c, ns, al, h1, h2, h3⟩ := h.at'
  exact ⟨h.ne, s, c, ns, al, f.get h1 hb, f.get h2 hg, h3⟩
theorem Bag.gr {b g : Nat} {st st' : Sto} (h : Bag b g st) (f : Gr st st') : Bag b g st' := h.fr f (by simp) (by simp)
theorem Bag.lt {b g : Nat} {st : Sto} (h : Bag b g st) : b < st.length ∧ g < st.length := by
  obtain ⟨s, c, ns, al, h1, h2, h3⟩ := h.at'
  exact ⟨lt_of_get h1, lt_of_get h2⟩
theorem mulI1 (i j : Int) (st : Sto) (h0 : 0 ≤ i) (h1 : i < 2147483648) : fMulA (.int i) (.int j) st = some (.int (i * j), st) := by
  have : decide ((-(2 ^ 64) < i ∧ i < 2 ^ 64) ∨ (-(2 ^ 64) < j ∧ j < 2 ^ 64)) = true := decide_eq_true (.inl (by omega))
  simp only [fMulA, this, if_true]
theorem mulI2 (i j : Int) (st : Sto) (h0 : 0 ≤ j) (h1 : j < 2147483648) : fMulA (.int i) (.int j) st = some (.int (i * j), st) := by
  have : decide ((-(2 ^ 64) < i ∧ i < 2 ^ 64) ∨ (-(2 ^ 64) < j ∧ j < 2 ^ 64)) = true := decide_eq_true (.inr (by omega))
  simp only [fMulA, this, if_true]
@[simp] theorem ixN_4_0 : ixN 4 0 = some 0 := by decide +kernel
@[simp] theorem ixN_4_1 : ixN 4 1 = some 1 := by decide +kernel
@[simp] theorem ixN_4_2 : ixN 4 2 = some 2 := by decide +kernel
@[simp] theorem ixN_4_3 : ixN 4 3 = some 3 := by decide +kernel
@[simp] theorem ixN_s_0 (n : Nat) : ixN (n + 1) 0 = some 0 := by unfold ixN; rw [if_pos (by omega), if_pos (by omega)]; rfl
@[simp] theorem seqIx_0 (n : Nat) : seqIndex? 0 (n + 1) = some 0 := by
  exact (ixN_seq (ixN_s_0 n)).1
@[simp] theorem atI_3 {α : Type} (x y z u : α) (xs : List α) : atI (x :: y :: z :: u :: xs) 3 = some u := by
  have e : ixN (x :: y :: z :: u :: xs).length 3 = some 3 := by unfold ixN; rw [if_pos (by decide), if_pos (by simp only [List.length_cons]; omega)]; rfl
  unfold atI; rw [e]; rfl
theorem em_nn (a : Int) : 0 ≤ a % 2147483647 := Int.emod_nonneg _ (by decide)
theorem em_lt (a : Int) : a % 2147483647 < 2147483648 := by have := Int.emod_lt_of_pos a (b := 2147483647) (by decide); omega
def px0 (s c : Int) : Int := ((s + 7919 * (c + 1)) * 48271) % 2147483647
def px1 (s c : Int) : Int := (px0 s c * (px0 s c / 1009 + 69621)) % 2147483647
def px2 (s c : Int) : Int := (px1 s c * (px1 s c / 2003 + 40692)) % 2147483399
theorem pick_num (b g : Nat) (seed cnt m : Int) (st : Sto) (al : W) (hm : 0 < m) (h1 : st[b]? = some (.lst [.int seed, .int cnt, .ref g, .non])) (h2 : st[g]? = some (.lst [])) (hbg : b ≠ g) :
    ∃ r, F__law_pick [.ref b, .int m] st = some (.int r, st.set b (.lst [.int seed, .int (cnt + 1), .ref g, .non])) ∧ 0 ≤ r ∧ r < m := by
  have hb := lt_of_get h1
  have h3 : (st.set b (SO.lst [.int seed, .int (cnt + 1), .ref g, .non]))[b]? = some (.lst [.int seed, .int (cnt + 1), .ref g, .non]) := List.getElem?_set_self hb
  have h4 : (st.set b (SO.lst [.int seed, .int (cnt + 1), .ref g, .non]))[g]? = some (.lst []) := by rw [List.getElem?_set_ne hbg]; exact h2
  obtain ⟨sa, hsa⟩ : ∃ s, st.set b (SO.lst [.int seed, .int (cnt + 1), .ref g, .non]) = s := ⟨_, rfl⟩
  rw [hsa] at h3 h4 ⊢
  refine ⟨px2 seed cnt / 16 % m, ?_, Int.emod_nonneg _ (by omega), Int.emod_lt_of_pos _ hm⟩
  simp [-fMulA, F__law_pick, h1, hsa, h3, h4, hm, mulI1, mulI2, em_nn, em_lt, px0, px1, px2]
theorem law_pick_ok {b g : Nat} {st : Sto} {m : Int} (h : Bag b g st) (hm : 0 < m) (hm2 : m < 1073741824) :
    ∃ r st', F__law_pick [.ref b, .int m] st = some (.int r, st') ∧ 0 ≤ r ∧ r < m ∧ Bag b g st' ∧ BF b g st st' ∧ st'.length = st.length := by
  obtain ⟨hbg, seed, cnt, ns, al, h1, h2, h3⟩ := h
  have hb := lt_of_get h1
  have hg := lt_of_get h2
  rcases h3 with rfl | ⟨i, rfl⟩
  · cases ns with
    | nil =>
      obtain ⟨r, e, r0, r1⟩ := pick_num b g seed cnt m st .non hm h1 h2 hbg
      refine ⟨r, _, e, r0, r1, ⟨hbg, seed, cnt + 1, [], .non, List.getElem?_set_self hb, ?_, .inl rfl⟩, .set _ (.inl rfl), by simp⟩
      rw [List.getElem?_set_ne hbg]; exact h2
    | cons n ns =>
      simp only [List.map_cons] at h2
      obtain ⟨sa, hsa⟩ : ∃ s, st.set b (SO.lst [.int seed, .int (cnt + 1), .ref g, .non]) = s := ⟨_, rfl⟩
      have a1 : sa[b]? = some (.lst [.int seed, .int (cnt + 1), .ref g, .non]) := by rw [← hsa]; exact List.getElem?_set_self hb
      have a2 : sa[g]? = some (.lst (.int n :: ns.map .int)) := by rw [← hsa, List.getElem?_set_ne hbg]; exact h2
      have fa : BF b g st sa := by rw [← hsa]; exact .set _ (.inl rfl)
      obtain ⟨sb, hsb⟩ : ∃ s, sa.set g (SO.lst (.int (n / m) :: ns.map .int)) = s := ⟨_, rfl⟩
      have b1 : sb[b]? = some (.lst [.int seed, .int (cnt + 1), .ref g, .non]) := by rw [← hsb, List.getElem?_set_ne (Ne.symm hbg)]; exact a1
      have b2 : sb[g]? = some (.lst (.int (n / m) :: ns.map .int)) := by rw [← hsb]; exact List.getElem?_set_self (lt_of_get a2)
      have fb : BF b g st sb := by rw [← hsb]; exact fa.trans (.set _ (.inr rfl))
      have hl : sb.length = st.length := by rw [← hsb, ← hsa]; simp
      have q : ((0 : Int) < (ns.length : Int) + 1) = True := eq_true (by omega)
      by_cases hz : n / m = 0
      · refine ⟨n % m, sb.set g (.lst (ns.map .int)), ?_, Int.emod_nonneg _ (by omega), Int.emod_lt_of_pos _ hm, ⟨hbg, seed, cnt + 1, ns, .non, ?_, List.getElem?_set_self (lt_of_get b2), .inl rfl⟩, fb.trans (.set _ (.inr rfl)), by simp [hl]⟩
        · rw [hz] at hsb b2
          simp [F__law_pick, h1, hsa, a1, a2, hm, hm2, q, hz, hsb, b2]
        · rw [List.getElem?_set_ne (Ne.symm hbg)]; exact b1
      · refine ⟨n % m, sb, ?_, Int.emod_nonneg _ (by omega), Int.emod_lt_of_pos _ hm, ⟨hbg, seed, cnt + 1, n / m :: ns, .non, b1, b2, .inl rfl⟩, fb, hl⟩
        have hz2 : (n / m == 0) = false := by simpa using hz
        simp [F__law_pick, h1, hsa, a1, a2, hm, hm2, q, hz, hz2, hsb, b2]
  · refine ⟨i % m, st, ?_, Int.emod_nonneg _ (by omega), Int.emod_lt_of_pos _ hm, ⟨hbg, seed, cnt, ns, .int i, h1, h2, .inr ⟨i, rfl⟩⟩, .refl, rfl⟩
    simp [F__law_pick, h1, hm]
end K01

set_option Elab.async false
set_option linter.all false
set_option maxRecDepth 100000
set_option maxHeartbeats 1000000
namespace K01
open PySem PySem.Spec L2 B
set_option autoImplicit false
theorem some_ok {b g l : Nat} {st : Sto} {xs : List W} (h : Bag b g st) (hl : st[l]? = some (.lst xs)) (h1 : l ≠ b) (h2 : l ≠ g) (h3 : 0 < xs.length) (h4 : xs.length < 1000) :
    ∃ x st', F__law_some [.ref b, .ref l] st = some (x, st') ∧ x ∈ xs ∧ Bag b g st' ∧ BF b g st st' := by
  obtain ⟨r, st', e, r0, r1, B', f, _⟩ := law_pick_ok (m := (xs.length : Int)) h (by omega) (by omega)
  have hl' := f.get hl (by simp; omega)
  obtain ⟨n, rfl⟩ : ∃ n : Nat, r = n := ⟨r.toNat, by omega⟩
  have hn : n < xs.length := by omega
  have ha := atI_nat xs n hn
  rw [List.getElem?_eq_getElem hn] at ha
  exact ⟨xs[n], st', by simp [F__law_some, hl, e, hl', ha], List.getElem_mem hn, B', f⟩
def gsz : Nat → Nat
  | 0 => 1
  | 1 => 1
  | n + 2 => 3 * gsz (n + 1) + 1
theorem gsz_pos (n : Nat) : 1 ≤ gsz n := by
  unfold gsz; split <;> omega
structure AK (deep : Nat) (L : Int) (k : Kd) : Prop where
  wf : wf k = true
  ht : ht k ≤ max deep 1
  sz : sz k ≤ gsz deep
  lt : ∀ n, Kd.letter n ∈ pre k → (n : Int) < L
theorem range_get (m j : Nat) : ((List.range m).map fun (i : Nat) => W.int (i : Int))[j]? = if j < m then some (.int j) else none := by
  rw [List.getElem?_map]
  by_cases h : j < m
  · rw [List.getElem?_range h, if_pos h]; rfl
  · rw [List.getElem?_eq_none (by simpa using h), if_neg h]; rfl
theorem encs_snoc (ks : List Kd) (k : Kd) : encs (ks ++ [k]) = encs ks ++ [enc k] := by simp [encs_app, encs]
theorem many_go {b g : Nat} {L : Int} {deep dp : Nat} {st : Sto} (Fd : List W → M W) (o3 o4 : Option W) (m : Nat) (hm : m ≤ 100) (B : Bag b g st)
    (ih : ∀ st, Bag b g st → ∃ k st', Fd [.ref b, .int ((deep : Int) - 1), .int L] st = some (enc k, st') ∧ AK dp L k ∧ Bag b g st' ∧ BF b g st st') :
    ∃ ks st', compGo (srcRng 0 m) (.nm 5) (ct1__law_any_kind Fd) (ce1__law_any_kind Fd) st.length 1000000 0 (wipeE [some (.ref b), some (.int deep), some (.int L), o3, o4, none] [5]) (st ++ [.lst []]) = some ((), st') ∧
      ks.length = m ∧ (∀ k ∈ ks, AK dp L k) ∧ st'[st.length]? = some (.lst (encs ks)) ∧ Bag b g st' ∧ BF b g st st' := by
  have hb := B.lt
  obtain ⟨ys, st2, r1, ⟨ks, x1, x2, x3, x4, x5⟩, r4, r5⟩ := comp_go (src := srcRng 0 m) (p := .nm 5) (t := ct1__law_any_kind Fd) (e := ce1__law_any_kind Fd) (k := st.length) (env := wipeE [some (.ref b), some (.int deep), some (.int L), o3, o4, none] [5]) ((List.range m).map fun (i : Nat) => W.int (i : Int))
    (fun j ys s => ∃ ks, ys = encs ks ∧ ks.length = j ∧ (∀ k ∈ ks, AK dp L k) ∧ Bag b g s ∧ Fr (fun i => i = b ∨ i = g ∨ i = st.length) (st ++ [.lst []]) s)
    (fun j ys s I _ => by
      rw [range_get]
      unfold srcRng
      by_cases h : j < m
      · rw [if_pos h, if_pos h]; simp
      · rw [if_neg h, if_neg h])
    (fun j ys s x ⟨ks, x1, x2, x3, x4, x5⟩ hk hx => by
      obtain ⟨k, s1, e1, e2, e3, e4⟩ := ih s x4
      refine ⟨[some (.ref b), some (.int deep), some (.int L), o3, o4, some x], true, by simp [wipeE], by simp [ct1__law_any_kind, tYesM], by simp, fun _ => ⟨enc k, s1, by simp [ce1__law_any_kind, e1], e4.get hk (by omega), ks ++ [k], by rw [x1, encs_snoc], by simp [x2], ?_, ?_, ?_⟩⟩
      · intro k' hk'
        rcases List.mem_append.mp hk' with h | h
        · exact x3 k' h
        · have : k' = k := by simpa using h
          subst this; exact e2
      · exact e3.fr (P := fun i => i = st.length) (.set _ rfl) (by omega) (by omega)
      · exact (x5.trans (e4.mono fun i h => by rcases h with h | h <;> simp [h])).trans (.set _ (.inr (.inr rfl))))
    (by simp; omega) 1000000 0 [] (st ++ [.lst []]) ⟨[], rfl, rfl, by simp, B.gr (.app _), .refl⟩ (by simp) (by omega) (by simp) (by simp; omega)
  refine ⟨ks, st2, r1, by simpa using x2, x3, by rw [r4, x1], x4, (Fr.app (P := fun i => i = b ∨ i = g) _).own x5 fun i hi e => by rcases e with e | e | e <;> simp [e] <;> omega⟩
theorem AKs {dp : Nat} {L : Int} {ks : List Kd} (h : ∀ k ∈ ks, AK dp L k) : wfs ks = true ∧ hts ks ≤ max dp 1 ∧ szs ks ≤ ks.length * gsz dp ∧ ∀ n, Kd.letter n ∈ pres ks → (n : Int) < L := by
  induction ks with
  | nil => simp [wfs, hts, szs, pres]
  | cons k ks ih =>
    obtain ⟨a, b, c, d⟩ := ih fun x hx => h x (List.mem_cons_of_mem _ hx)
    have hk := h k List.mem_cons_self
    refine ⟨by simp [wfs, hk.wf, a], by have := hk.ht; simp [hts]; omega, by have := hk.sz; simp [szs, Nat.add_mul]; omega, fun n hn => ?_⟩
    rcases List.mem_append.mp hn with hn | hn
    · exact hk.lt n hn
    · exact d n hn
theorem any_ok (b g : Nat) (L : Int) (hL : 0 ≤ L) (hL2 : L < 1000) : ∀ (d deep : Nat) (st : Sto), 1 ≤ deep → deep ≤ d → Bag b g st →
    ∃ k st', F__law_any_kind d [.ref b, .int deep, .int L] st = some (enc k, st') ∧ AK deep L k ∧ Bag b g st' ∧ BF b g st st' := by
  intro d
  induction d with
  | zero => intro deep st h1 h2; omega
  | succ d ih =>
    intro deep st h1 h2 B
    have hb := B.lt
    obtain ⟨WS, hWS⟩ : ∃ x : List W, [.str "num", .str "nil", .str "letter", .str "row", .str "data", .str "fun", .str "box", .str "row", .str "box"] = x := ⟨_, rfl⟩
    have B1 : Bag b g (st ++ [SO.lst WS]) := B.gr (.app _)
    obtain ⟨w, s1, e1, hw, B2, f2⟩ := some_ok (l := st.length) (xs := WS) B1 (by simp) (by omega) (by omega) (by rw [← hWS]; simp) (by rw [← hWS]; simp)
    have F2 : BF b g st s1 := (Fr.app _).own f2 fun i hi e => e
    have hrec : 2 ≤ deep → ∀ st, Bag b g st → ∃ k st', F__law_any_kind d [.ref b, .int ((deep : Int) - 1), .int L] st = some (enc k, st') ∧ AK (deep - 1) L k ∧ Bag b g st' ∧ BF b g st st' := fun h2' s Bs => by
      have e : ((deep : Int) - 1) = ((deep - 1 : Nat) : Int) := by omega
      rw [e]
      exact ih (deep - 1) s (by omega) (by omega) Bs
    rw [← hWS] at e1 hw
    have leaf : ∀ k, (k = .num ∨ k = .nil) → AK deep L k := fun k hk => by
      have := gsz_pos deep
      rcases hk with rfl | rfl <;> exact ⟨rfl, by simp [K01.ht]; omega, by simp [K01.sz]; omega, by simp [pre]⟩
    have gs : 2 ≤ deep → gsz deep = 3 * gsz (deep - 1) + 1 := fun h => by
      obtain ⟨n, rfl⟩ : ∃ n, deep = n + 2 := ⟨deep - 2, by omega⟩
      rfl
    have Bin : Bag b g (s1 ++ [SO.lst [.str "num", .str "nil", .str "letter"]]) := B2.gr (.app _)
    have Fin : BF b g st (s1 ++ [SO.lst [.str "num", .str "nil", .str "letter"]]) := F2.trans (.app _)
    have hs1 := F2.len
    have lett : w = .str "letter" → 0 < L → ∃ k st', F__law_any_kind (d + 1) [.ref b, .int deep, .int L] st = some (enc k, st') ∧ AK deep L k ∧ Bag b g st' ∧ BF b g st st' := fun hw0 hL0 => by
      subst hw0
      obtain ⟨r, s2, e3, r0, r1, B3, f3, _⟩ := law_pick_ok (m := L) B2 hL0 (by omega)
      refine ⟨.letter r.toNat, s2, ?_, ⟨rfl, by simp [K01.ht]; omega, by have := gsz_pos deep; simp [K01.sz]; omega, fun n hn => by simp [pre] at hn; omega⟩, B3, F2.trans f3⟩
      have hr : ((r.toNat : Nat) : Int) = r := by omega
      simp [F__law_any_kind, G__law_any_kind, e1, fEq_str, hL0, e3, enc]; omega
    by_cases hd : deep < 2
    · have hd1 : ((deep : Int) < 2) = True := eq_true (by omega)
      simp only [List.mem_cons, List.not_mem_nil, or_false] at hw
      by_cases hwl : w = .str "letter" ∧ 0 < L
      · exact lett hwl.1 hwl.2
      · rcases hw with rfl | rfl | rfl | rfl | rfl | rfl | rfl | rfl | rfl
        case inr.inl => exact ⟨.nil, s1, by simp [F__law_any_kind, G__law_any_kind, e1, fEq_str, hd1, enc], leaf _ (.inr rfl), B2, F2⟩
        case inr.inr.inl =>
          have hL0 : (0 < L) = False := eq_false fun h => hwl ⟨rfl, h⟩
          exact ⟨.num, s1, by simp [F__law_any_kind, G__law_any_kind, e1, fEq_str, hd1, hL0, enc], leaf _ (.inl rfl), B2, F2⟩
        all_goals exact ⟨.num, s1, by simp [F__law_any_kind, G__law_any_kind, e1, fEq_str, hd1, enc], leaf _ (.inl rfl), B2, F2⟩
    · have hd1 : ((deep : Int) < 2) = False := eq_false (by omega)
      have gse := gs (by omega)
      have gp := gsz_pos (deep - 1)
      have hrec := hrec (by omega)
      simp only [List.mem_cons, List.not_mem_nil, or_false] at hw
      have row : w = .str "row" → ∃ k st', F__law_any_kind (d + 1) [.ref b, .int deep, .int L] st = some (enc k, st') ∧ AK deep L k ∧ Bag b g st' ∧ BF b g st st' := fun hwr => by
        subst hwr
        obtain ⟨r, s2, e3, r0, r1, B3, f3, _⟩ := law_pick_ok (m := 3) Bin (by omega) (by omega)
        obtain ⟨ks, s3, c1, c2, c3, c4, c5, c6⟩ := many_go (L := L) (deep := deep) (dp := deep - 1) (F__law_any_kind d) (some (.str "row")) none (1 + r).toNat (by omega) B3 hrec
        obtain ⟨a1, a2, a3, a4⟩ := AKs c3
        have ec := eComp_of (i := iRng1M (aCons (eOp fAdd (eC (.int 1)) (eCall F__law_pick (aCons (eVar 0) (aCons (eC (.int 3)) aNil)))) aNil)) (p := .nm 5) (vs := [5]) (t := ct1__law_any_kind (F__law_any_kind d)) (e := ce1__law_any_kind (F__law_any_kind d)) (n := 1000000) (env := [some (.ref b), some (.int deep), some (.int L), some (.str "row"), none, none]) (st := s1 ++ [SO.lst [.str "num", .str "nil", .str "letter"]]) (st0 := s2) (src := srcRng 0 (1 + r).toNat)
          (by simp [iRng1M, e3]; omega) c1
        refine ⟨.row ks, s3, ?_, ⟨by simp [K01.wf, a1]; omega, by simp [K01.ht]; omega, ?_, fun n hn => a4 n (by simpa [pre] using hn)⟩, c5, (Fin.trans f3).trans c6⟩
        · simp [F__law_any_kind, G__law_any_kind, e1, fEq_str, hd1, ec, c4, enc]
        · have : ks.length * gsz (deep - 1) ≤ 3 * gsz (deep - 1) := Nat.mul_le_mul_right _ (by omega)
          simp [K01.sz]; omega
      have data : w = .str "data" → ∃ k st', F__law_any_kind (d + 1) [.ref b, .int deep, .int L] st = some (enc k, st') ∧ AK deep L k ∧ Bag b g st' ∧ BF b g st st' := fun hwr => by
        subst hwr
        obtain ⟨r, s2, e3, r0, r1, B3, f3, _⟩ := law_pick_ok (m := 3) Bin (by omega) (by omega)
        obtain ⟨ks, s3, c1, c2, c3, c4, c5, c6⟩ := many_go (L := L) (deep := deep) (dp := deep - 1) (F__law_any_kind d) (some (.str "data")) none r.toNat (by omega) B3 hrec
        obtain ⟨a1, a2, a3, a4⟩ := AKs c3
        obtain ⟨r', s4, e4, r2, r3, B4, f4, _⟩ := law_pick_ok (m := 7) c5 (by omega) (by omega)
        have ec := eComp_of (i := iRng1M (aCons (eCall F__law_pick (aCons (eVar 0) (aCons (eC (.int 3)) aNil))) aNil)) (p := .nm 5) (vs := [5]) (t := ct2__law_any_kind (F__law_any_kind d)) (e := ce2__law_any_kind (F__law_any_kind d)) (n := 1000000) (env := [some (.ref b), some (.int deep), some (.int L), some (.str "data"), none, none]) (st := s1 ++ [SO.lst [.str "num", .str "nil", .str "letter"]]) (st0 := s2) (src := srcRng 0 r.toNat)
          (by simp [iRng1M, e3]; omega) c1
        refine ⟨.data r'.toNat ks, s4, ?_, ⟨by simp [K01.wf, a1], by simp [K01.ht]; omega, ?_, fun n hn => a4 n (by simpa [pre] using hn)⟩, B4, ((Fin.trans f3).trans c6).trans f4⟩
        · simp [F__law_any_kind, G__law_any_kind, e1, fEq_str, hd1, ec, c4, e4, enc]; omega
        · have : ks.length * gsz (deep - 1) ≤ 3 * gsz (deep - 1) := Nat.mul_le_mul_right _ (by omega)
          simp [K01.sz]; omega
      have func : w = .str "fun" → ∃ k st', F__law_any_kind (d + 1) [.ref b, .int deep, .int L] st = some (enc k, st') ∧ AK deep L k ∧ Bag b g st' ∧ BF b g st st' := fun hwr => by
        subst hwr
        obtain ⟨r, s2, e3, r0, r1, B3, f3, _⟩ := law_pick_ok (m := 2) Bin (by omega) (by omega)
        obtain ⟨ks, s3, c1, c2, c3, c4, c5, c6⟩ := many_go (L := L) (deep := deep) (dp := deep - 1) (F__law_any_kind d) (some (.str "fun")) none (1 + r).toNat (by omega) B3 hrec
        obtain ⟨a1, a2, a3, a4⟩ := AKs c3
        obtain ⟨k', s4, e4, A4, B4, f4⟩ := hrec s3 c5
        have ec := eComp_of (i := iRng1M (aCons (eOp fAdd (eC (.int 1)) (eCall F__law_pick (aCons (eVar 0) (aCons (eC (.int 2)) aNil)))) aNil)) (p := .nm 5) (vs := [5]) (t := ct3__law_any_kind (F__law_any_kind d)) (e := ce3__law_any_kind (F__law_any_kind d)) (n := 1000000) (env := [some (.ref b), some (.int deep), some (.int L), some (.str "fun"), none, none]) (st := s1 ++ [SO.lst [.str "num", .str "nil", .str "letter"]]) (st0 := s2) (src := srcRng 0 (1 + r).toNat)
          (by simp [iRng1M, e3]; omega) c1
        refine ⟨.fn ks k', s4, ?_, ⟨by simp [K01.wf, a1, A4.wf]; omega, by have := A4.ht; simp [K01.ht]; omega, ?_, fun n hn => ?_⟩, B4, ((Fin.trans f3).trans c6).trans f4⟩
        · simp [F__law_any_kind, G__law_any_kind, e1, fEq_str, hd1, ec, c4, e4, enc]
        · have : ks.length * gsz (deep - 1) ≤ 2 * gsz (deep - 1) := Nat.mul_le_mul_right _ (by omega)
          have := A4.sz
          simp [K01.sz]; omega
        · simp [pre] at hn
          rcases hn with hn | hn
          · exact a4 n hn
          · exact A4.lt n hn
      have box : w = .str "box" → ∃ k st', F__law_any_kind (d + 1) [.ref b, .int deep, .int L] st = some (enc k, st') ∧ AK deep L k ∧ Bag b g st' ∧ BF b g st st' := fun hwr => by
        subst hwr
        obtain ⟨k', s4, e4, A4, B4, f4⟩ := hrec _ Bin
        refine ⟨.box k', s4, ?_, ⟨by simp [K01.wf, A4.wf], by have := A4.ht; simp [K01.ht]; omega, by have := A4.sz; simp [K01.sz]; omega, fun n hn => A4.lt n (by simpa [pre] using hn)⟩, B4, Fin.trans f4⟩
        simp [F__law_any_kind, G__law_any_kind, e1, fEq_str, hd1, e4, enc]
      by_cases hwl : w = .str "letter" ∧ 0 < L
      · exact lett hwl.1 hwl.2
      · rcases hw with rfl | rfl | rfl | rfl | rfl | rfl | rfl | rfl | rfl
        · exact ⟨.num, _, by simp [F__law_any_kind, G__law_any_kind, e1, fEq_str, hd1, enc], leaf _ (.inl rfl), Bin, Fin⟩
        · exact ⟨.nil, _, by simp [F__law_any_kind, G__law_any_kind, e1, fEq_str, hd1, enc], leaf _ (.inr rfl), Bin, Fin⟩
        · have hL0 : (0 < L) = False := eq_false fun h => hwl ⟨rfl, h⟩
          exact ⟨.num, _, by simp [F__law_any_kind, G__law_any_kind, e1, fEq_str, hd1, hL0, enc], leaf _ (.inl rfl), Bin, Fin⟩
        · exact row rfl
        · exact data rfl
        · exact func rfl
        · exact box rfl
        · exact row rfl
        · exact box rfl
end K01

set_option Elab.async false
set_option linter.all false
set_option maxRecDepth 100000
set_option maxHeartbeats 1000000
namespace K01
open PySem PySem.Spec L2 B
set_option autoImplicit false
/-! ### things changed -/
mutual
def nl : W → Bool
  | .tup xs => nls xs
  | .str x => !(x == ("letter" : Str))
  | _ => true
def nls : List W → Bool
  | [] => true
  | x :: xs => nl x && nls xs
end
theorem nls_app (a b : List W) : nls (a ++ b) = (nls a && nls b) := by
  induction a with
  | nil => simp [nls]
  | cons k ks ih => simp [nls, ih, Bool.and_assoc]
theorem nls_mem {xs : List W} {x : W} (h : nls xs = true) (hx : x ∈ xs) : nl x = true := by
  induction xs with
  | nil => cases hx
  | cons y ys ih =>
    simp only [nls, Bool.and_eq_true] at h
    rcases List.mem_cons.mp hx with rfl | hx
    · exact h.1
    · exact ih h.2 hx
theorem dWs_app (a b : List W) : dWs (a ++ b) = max (dWs a) (dWs b) := by
  induction a with
  | nil => simp [dWs]
  | cons k ks ih => simp [dWs, ih] <;> omega
theorem vws_mem {n : Nat} {xs : List W} {x : W} (h : vws n xs = true) (hx : x ∈ xs) : vw n x = true := by
  induction xs with
  | nil => cases hx
  | cons y ys ih =>
    simp only [vws, Bool.and_eq_true] at h
    rcases List.mem_cons.mp hx with rfl | hx
    · exact h.1
    · exact ih h.2 hx
theorem cut_to (xs : List W) (n : Nat) (h : n ≤ xs.length) : cutW xs none (some (n : Int)) = xs.take n := by
  have e1 : HT.sIx xs.length 0 none = 0 := rfl
  have e2 : HT.sIx xs.length xs.length (some (n : Int)) = n := by rw [HT.sIx_nat]; omega
  unfold cutW; rw [e1, e2]; simp
theorem cut_fr (xs : List W) (n : Nat) (h : n ≤ xs.length) : cutW xs (some (n : Int)) none = xs.drop n := by
  have e1 : HT.sIx xs.length 0 (some (n : Int)) = n := by rw [HT.sIx_nat]; omega
  have e2 : HT.sIx xs.length xs.length none = xs.length := rfl
  unfold cutW; rw [e1, e2]
  rw [List.take_of_length_le (by simp)]
theorem cut_one (xs : List W) (n : Nat) (h : n < xs.length) : cutW xs (some (n : Int)) (some ((n : Int) + 1)) = [xs[n]] := by
  have e1 : HT.sIx xs.length 0 (some (n : Int)) = n := by rw [HT.sIx_nat]; omega
  have e2 : HT.sIx xs.length xs.length (some ((n : Int) + 1)) = n + 1 := by
    have : ((n : Int) + 1) = ((n + 1 : Nat) : Int) := by omega
    rw [this, HT.sIx_nat]; omega
  have : n + 1 - n = 1 := by omega
  unfold cutW; rw [e1, e2, this, List.drop_eq_getElem_cons h]; rfl
theorem cut_fr1 (xs : List W) (n : Nat) (h : n < xs.length) : cutW xs (some ((n : Int) + 1)) none = xs.drop (n + 1) := by
  have : ((n : Int) + 1) = ((n + 1 : Nat) : Int) := by omega
  rw [this]; exact cut_fr xs (n + 1) (by omega)
theorem split_at (xs : List W) (n : Nat) (h : n < xs.length) : xs = xs.take n ++ xs[n] :: xs.drop (n + 1) := by
  rw [← List.drop_eq_getElem_cons h, List.take_append_drop]
theorem changed_ok (b g : Nat) (odd : W) : ∀ (d deep : Nat) (w : W) (st : Sto), deep < d → vw st.length w = true → vw st.length odd = true → sw w ≤ 100000 → Bag b g st →
    ∃ w' st', F__law_changed d [.ref b, w, odd, .int deep] st = some (w', st') ∧ vw st'.length w' = true ∧ sw w' ≤ 2 * sw w + sw odd ∧ dW w' ≤ dW w + dW odd ∧ (nl w = true → nl odd = true → nl w' = true) ∧ Bag b g st' ∧ BF b g st st' := by
  intro d
  induction d with
  | zero => intro deep w st h; omega
  | succ d ih =>
    intro deep w st hd hv ho hs B
    have hi := isi_tup hv
    have stop : ∀ st', Bag b g st' → BF b g st st' → F__law_changed (d + 1) [.ref b, w, odd, .int deep] st = some (odd, st') → ∃ w' st', F__law_changed (d + 1) [.ref b, w, odd, .int deep] st = some (w', st') ∧ vw st'.length w' = true ∧ sw w' ≤ 2 * sw w + sw odd ∧ dW w' ≤ dW w + dW odd ∧ (nl w = true → nl odd = true → nl w' = true) ∧ Bag b g st' ∧ BF b g st st' :=
      fun st' B' f e => ⟨odd, st', e, f.vw ho, by omega, by omega, fun _ z => z, B', f⟩
    cases w with
    | tup xs =>
      rw [isTupB_tup] at hi
      cases xs with
      | nil => exact stop st B .refl (by simp [F__law_changed, G__law_changed, hi])
      | cons x0 xs0 =>
        obtain ⟨xs, hxs⟩ : ∃ y, x0 :: xs0 = y := ⟨_, rfl⟩
        have hne : 0 < xs.length := by rw [← hxs]; simp
        rw [hxs] at hv hi hs stop ⊢
        have hl := len_sws xs
        simp only [sw] at hs
        have nz : ((xs.length : Int) = 0) = False := eq_false (by omega)
        have nzb : ((xs.length : Int) == 0) = false := beq_eq_false_iff_ne.mpr (by omega)
        by_cases hd0 : deep = 0
        · subst hd0
          exact stop st B .refl (by simp [F__law_changed, G__law_changed, hi, nz, nzb])
        · have dz : ((deep : Int) = 0) = False := eq_false (by omega)
          obtain ⟨r, s1, e1, r0, r1, B1, f1, _⟩ := law_pick_ok (m := 5) B (by omega) (by omega)
          by_cases hr : r = 0
          · subst hr
            exact stop s1 B1 f1 (by simp [F__law_changed, G__law_changed, hi, nz, nzb, hd0, e1])
          · have rz : (r = 0) = False := eq_false hr
            have rzb : (r == 0) = false := by simpa using hr
            obtain ⟨ra, s2, e2, a0, a1, B2, f2, _⟩ := law_pick_ok (m := (xs.length : Int)) B1 (by omega) (by omega)
            obtain ⟨way, s3, e3, w0, w1, B3, f3, _⟩ := law_pick_ok (m := 12) B2 (by omega) (by omega)
            obtain ⟨n, rfl⟩ : ∃ n : Nat, ra = n := ⟨ra.toNat, by omega⟩
            have hn : n < xs.length := by omega
            have c1 := cut_to xs n (by omega)
            have c2 := cut_fr xs n (by omega)
            have c3 := cut_fr1 xs n hn
            have c4 := cut_one xs n hn
            have hat := atI_nat xs n hn
            rw [List.getElem?_eq_getElem hn] at hat
            have hsp := split_at xs n hn
            rw [List.drop_eq_getElem_cons hn] at c2
            have hA : (xs.take n).length = n := by rw [List.length_take]; omega
            have hZ : (xs.drop (n + 1)).length = xs.length - (n + 1) := by rw [List.length_drop]
            generalize xs.take n = A at *
            generalize xs.drop (n + 1) = Z at *
            generalize xs[n] = x at *
            have F3 : BF b g st s3 := (f1.trans f2).trans f3
            have hxv : vws st.length xs = true := by simpa [vw] using hv
            have hvp := F3.vws hxv
            rw [hsp, vws_app, Bool.and_eq_true] at hvp
            obtain ⟨hv1, hv2⟩ := hvp
            simp only [vws, Bool.and_eq_true] at hv2
            have hsz : sws xs = sws A + (sw x + sws Z) := by rw [hsp, sws_app]; simp [sws]
            have hdx : dWs xs = max (dWs A) (max (dW x) (dWs Z)) := by rw [hsp, dWs_app]; simp [dWs]
            have hnl : nls xs = true → nls A = true ∧ nl x = true ∧ nls Z = true := fun h => by
              rw [hsp, nls_app] at h
              simpa [nls] using h
            by_cases hw0 : way = 0
            · subst hw0
              have z1 : sml (A.length + Z.length) = true := sml_le (by omega)
              refine ⟨.tup (A ++ Z), s3, ?_, ?_, ?_, ?_, fun h _ => ?_, B3, F3⟩
              · simp [F__law_changed, G__law_changed, hi, nz, nzb, hd0, e1, rz, rzb, e2, e3, c1, c3, z1]
              · simp [vw, vws_app, hv1, hv2]
              · simp [sw, sws_app]; omega
              · simp [dW, dWs_app, hdx]; omega
              · have := hnl (by simpa [nl] using h)
                simp [nl, nls_app, this]
            · have wz : (way = 0) = False := eq_false hw0
              have wzb : (way == 0) = false := by simpa using hw0
              by_cases hw1 : way = 1
              · subst hw1
                have z1 : sml (A.length + 1) = true := sml_le (by omega)
                have z2 : sml (A.length + 1 + (Z.length + 1)) = true := sml_le (by omega)
                have z3 : sml (A.length + (1 + (Z.length + 1))) = true := sml_le (by omega)
                have z4 : sml (A.length + (Z.length + 1 + 1)) = true := sml_le (by omega)
                refine ⟨.tup (A ++ [x] ++ x :: Z), s3, ?_, ?_, ?_, ?_, fun h _ => ?_, B3, F3⟩
                · simp [F__law_changed, G__law_changed, hi, nz, nzb, hd0, e1, rz, rzb, e2, e3, c1, c2, c4, z1, z2, z3, z4]
                · simp [vw, vws_app, vws, hv1, hv2]
                · simp [sw, sws_app, sws]; omega
                · simp [dW, dWs_app, dWs, hdx]; omega
                · have := hnl (by simpa [nl] using h)
                  simp [nl, nls_app, nls, this]
              · have wo : (way = 1) = False := eq_false hw1
                have wob : (way == 1) = false := by simpa using hw1
                obtain ⟨w', s4, e4, v4, z4, y4, n4, B4, f4⟩ := ih (deep - 1) x s3 (by omega) hv2.1 (F3.vw ho) (by omega) B3
                have ed : ((deep : Int) - 1) = ((deep - 1 : Nat) : Int) := by omega
                rw [← ed] at e4
                have z1 : sml (A.length + 1) = true := sml_le (by omega)
                have z2 : sml (A.length + 1 + Z.length) = true := sml_le (by omega)
                have z3 : sml (A.length + (1 + Z.length)) = true := sml_le (by omega)
                have z5 : sml (A.length + (Z.length + 1)) = true := sml_le (by omega)
                refine ⟨.tup (A ++ [w'] ++ Z), s4, ?_, ?_, ?_, ?_, fun h h' => ?_, B4, F3.trans f4⟩
                · simp [F__law_changed, G__law_changed, hi, nz, nzb, hd0, e1, rz, rzb, e2, e3, wz, wzb, wo, wob, c1, c2, c3, c4, hat, e4, z1, z2, z3, z5]
                · simp [vw, vws_app, vws, f4.vws hv1, f4.vws hv2.2, v4]
                · simp [sw, sws_app, sws]; omega
                · simp [dW, dWs_app, dWs, hdx]; omega
                · have := hnl (by simpa [nl] using h)
                  simp [nl, nls_app, nls, this, n4 this.2.1 h']
    | _ => exact stop st B .refl (by simp [F__law_changed, G__law_changed, hi, isTupB])
def nest : Nat → W
  | 0 => .tup []
  | n + 1 => .tup [nest n]
theorem deep_ok (st : Sto) : F__law_deep [] st = some (nest 40, st) := by
  obtain ⟨fl, env', st', r1, r2⟩ := for_go (src := srcRng 0 40) (p := .nm 1) (b := fb1__law_deep) ((List.range 40).map fun (i : Nat) => W.int (i : Int))
    (fun j env s => s = st ∧ ∃ o, env = [some (nest j), o]) (fun _ _ => False)
    (fun j env s I _ => by
      rw [range_get]
      unfold srcRng
      by_cases h : j < 40
      · rw [if_pos h, if_pos h]; simp
      · rw [if_neg h, if_neg h])
    (fun j env s x ⟨rfl, o, I⟩ hx => by
      subst I
      exact ⟨[some (nest j), some x], .nx, [some (nest (j + 1)), some x], s, by simp, by simp [fb1__law_deep, nest], .inl ⟨rfl, rfl, _, rfl⟩⟩)
    1000000 0 [some (.tup []), none] st ⟨rfl, none, rfl⟩ (by simp) (by simp)
  rcases r2 with ⟨rfl, rfl, o, r2⟩ | ⟨_, _, r2⟩
  · simp at r2
    subst r2
    simp [F__law_deep, sFor, iRng1M, r1]
  · exact r2.elim
end K01

set_option Elab.async false
set_option linter.all false
set_option maxRecDepth 100000
set_option maxHeartbeats 1000000
namespace K01
open PySem PySem.Spec L2 B
set_option autoImplicit false
abbrev NW : W := .tup [.str "num"]
def odds (n : Nat) : List W := [.non, .str "num", .tup [.str "num", .int 0], .ref n, .tup [.str "row", .tup []], .tup [.str "row", .tup [NW, NW, NW, NW, NW]], .tup [.str "row", .ref (n + 1)], .tup [.str "row"],
  .tup [.str "data", .int (-1), .tup []], .tup [.str "data", .bl true, .tup []], .tup [.str "data", .int 0, .ref (n + 3)], .tup [.str "data", .int 0], .tup [.str "fun", .tup [], NW], .tup [.str "fun", .tup [NW, NW, NW, NW], NW], .tup [.str "fun", NW, NW],
  .tup [.str "box"], .tup [.str "box", NW, NW], .tup [.str "letter", .int (-1)], .tup [.str "letter", .bl true], .tup [.str "letter"], .tup [.str "thing"], .tup [], .int 0, .bl true, .ref (n + 8), nest 40, .tup [.str "nil"],
  .tup [.str "letter", .int 2], .tup [.str "row", .tup [.tup [.str "nil"]]], .tup [.str "box", .tup [.str "letter", .int 0]], .tup [.str "data", .int (10 ^ 30), .tup []]]
theorem vw_nest (m n : Nat) : vw m (nest n) = true := by
  induction n with
  | zero => rfl
  | succ n ih => simp [nest, vw, vws, ih]
theorem sw_nest (n : Nat) : sw (nest n) = n + 1 := by
  induction n with
  | zero => rfl
  | succ n ih => simp [nest, sw, sws, ih]
theorem odds_vw (n m : Nat) (h : n + 13 ≤ m) : ∀ x ∈ odds n, vw m x = true ∧ sw x ≤ 100 := by
  simp [odds, vw, vws, sw, sws, vw_nest, sw_nest]
  omega
theorem odd_help {b g : Nat} {st S : Sto} {R : Option (W × Sto)} (hB : Bag b g st) (hs : F__law_some [.ref b, .ref (st.length + 12)] S = R) (hG : Gr st S) (hS : st.length + 13 ≤ S.length) (hl : S[st.length + 12]? = some (.lst (odds st.length))) :
    ∃ x s', R = some (x, s') ∧ vw s'.length x = true ∧ sw x ≤ 100 ∧ Bag b g s' ∧ BF b g st s' := by
  have hb := hB.lt
  obtain ⟨x, s', e, hx, B', f⟩ := some_ok (hB.gr hG) hl (by omega) (by omega) (by simp [odds]) (by simp [odds])
  obtain ⟨h1, h2⟩ := odds_vw st.length s'.length (by have := f.len; omega) x hx
  exact ⟨x, s', hs.symm.trans e, h1, h2, B', (Fr.any hG).trans f⟩
theorem odd_ok {b g : Nat} {st : Sto} (hB : Bag b g st) : ∃ x s', F__law_odd [.ref b] st = some (x, s') ∧ vw s'.length x = true ∧ sw x ≤ 100 ∧ Bag b g s' ∧ BF b g st s' := by
  simp [F__law_odd, deep_ok]
  generalize hs : F__law_some _ _ = R
  obtain ⟨x, s', rfl, h⟩ := odd_help hB hs (.app _) (by simp) (by simp [odds])
  exact ⟨x, s', by simp, h⟩
theorem cut_63 (xs : List W) (h : xs.length ≤ 63) : cutW xs none (some 63) = xs := by
  have e1 : HT.sIx xs.length 0 none = 0 := rfl
  have e2 : HT.sIx xs.length xs.length (some ((63 : Nat) : Int)) = xs.length := by rw [HT.sIx_nat]; omega
  unfold cutW
  have e3 : (63 : Int) = ((63 : Nat) : Int) := rfl
  rw [e1, e3, e2]; simp
theorem ints_get {ns : List Int} {j : Nat} {x : W} (h : (ns.map W.int)[j]? = some x) : ∃ i, ns[j]? = some i ∧ x = .int i := by
  rw [List.getElem?_map] at h
  cases e : ns[j]? with
  | none => rw [e] at h; simp at h
  | some k => rw [e] at h; simp at h; exact ⟨k, rfl, h.symm⟩
theorem bag_ok (ns : List Int) (hn : ns.length ≤ 63) (st : Sto) : ∃ b g st', F__law_bag [.fl (ns.map .int)] st = some (.ref b, st') ∧ Bag b g st' ∧ Gr st st' := by
  obtain ⟨xs, hxs⟩ : ∃ y : List W, ns.map .int = y := ⟨_, rfl⟩
  have hlen : xs.length = ns.length := by rw [← hxs]; simp
  have hc := cut_63 xs (by omega)
  let En0 (s : Int) (o : Option W) : En := [some (.fl xs), some (.int s), o, none, none]
  -- the seed
  obtain ⟨fl, env1, s1, r1, r2⟩ := for_go (src := srcRef st.length) (p := .nm 2) (b := fb1__law_bag) xs
    (fun j env s => s = st ++ [.lst xs] ∧ ∃ v o, env = En0 v o) (fun _ _ => False)
    (fun j env s ⟨h, _⟩ _ => by subst h; simp [srcRef])
    (fun j env s x ⟨h, v, o, h2⟩ hx => by
      subst h; subst h2
      rw [← hxs] at hx
      obtain ⟨i, _, rfl⟩ := ints_get hx
      refine ⟨En0 v (some (.int i)), .nx, En0 ((v * 69621 + i % 1000003 + 7) % 2147483647) (some (.int i)), _, by simp [En0], ?_, .inl ⟨rfl, rfl, _, _, rfl⟩⟩
      simp [-fMulA, fb1__law_bag, En0, mulI2])
    1000000 0 (En0 (29 + xs.length) none) (st ++ [.lst xs]) ⟨rfl, _, _, rfl⟩ (by omega) (by omega)
  have r3 : fl = .nx ∧ s1 = st ++ [.lst xs] ∧ ∃ v o, env1 = En0 v o := by
    rcases r2 with r2 | ⟨_, _, r2⟩
    · exact r2
    · exact r2.elim
  clear r2
  obtain ⟨rfl, rfl, v, o, rfl⟩ := r3
  -- the great ones
  have S2 : (st ++ [SO.lst xs] ++ [SO.lst xs]).length = st.length + 2 := by simp
  obtain ⟨ys, s2, c1, ⟨x1, is, x2⟩, c4, c5⟩ := comp_go (src := srcRef (st.length + 1)) (p := .nm 2) (t := ct2__law_bag) (e := ce2__law_bag) (k := st.length + 2) (env := wipeE (En0 v o) [2]) xs
    (fun j ys s => Fr (fun i => i = st.length + 2) (st ++ [.lst xs] ++ [.lst xs] ++ [.lst []]) s ∧ ∃ is : List Int, ys = is.map .int)
    (fun j ys s I _ => by
      have := I.1.get (i := st.length + 1) (o := .lst xs) (by simp) (by omega)
      simp [srcRef, this])
    (fun j ys s x ⟨x1, is, x2⟩ hk hx => by
      rw [← hxs] at hx
      obtain ⟨i, _, rfl⟩ := ints_get hx
      refine ⟨[some (.fl xs), some (.int v), some (.int i), none, none], decide ((10 : Int) ^ 18 ≤ (if i < 0 then -i else i)), by simp [wipeE, En0], ?_, fun _ => ⟨x1, is, x2⟩, fun _ => ⟨.int (if i < 0 then -i else i), s, by simp [ce2__law_bag], hk, x1.trans (.set _ rfl), is ++ [if i < 0 then -i else i], by rw [x2]; simp⟩⟩
      simp [ct2__law_bag])
    (by omega) 1000000 0 [] (st ++ [.lst xs] ++ [.lst xs] ++ [.lst []]) ⟨.refl, [], rfl⟩ (by simp) (by omega) (by simp) (by omega)
  have ec2 := eComp_of (i := iSeq (eSl (eVar 0) oNone (oSome (eC (.int 63))))) (p := .nm 2) (vs := [2]) (t := ct2__law_bag) (e := ce2__law_bag) (n := 1000000) (env := En0 v o) (st := st ++ [.lst xs]) (st0 := st ++ [.lst xs] ++ [.lst xs]) (src := srcRef (st.length + 1))
    (by simp [iSeq, En0, hc]) (by rw [S2]; exact c1)
  rw [S2] at ec2
  subst x2
  have G2 : Gr st s2 := (((Fr.app [SO.lst xs]).trans (.app [SO.lst xs])).trans (.app [SO.lst []])).own x1 (fun i hi e => by omega)
  have L2 := lt_of_get c4
  by_cases hcond : xs.length < 2 ∧ is.length = 0
  · obtain ⟨zs, s3, d1, ⟨y1, js, y2⟩, d4, d5⟩ := comp_go (src := srcTup xs) (p := .nm 2) (t := ct3__law_bag) (e := ce3__law_bag) (k := s2.length) (env := wipeE [some (.fl xs), some (.int v), o, some (.ref (st.length + 2)), some .non] [2]) xs
      (fun j ys s => Fr (fun i => i = s2.length) (s2 ++ [.lst []]) s ∧ ∃ is : List Int, ys = is.map .int)
      (fun j ys s I _ => rfl)
      (fun j ys s x ⟨x1, is, x2⟩ hk hx => by
        rw [← hxs] at hx
        obtain ⟨i, _, rfl⟩ := ints_get hx
        refine ⟨[some (.fl xs), some (.int v), some (.int i), some (.ref (st.length + 2)), some .non], true, by simp [wipeE], by simp [ct3__law_bag, tYesM], by simp, fun _ => ⟨.int i, s, by simp [ce3__law_bag], hk, x1.trans (.set _ rfl), is ++ [i], by rw [x2]; simp⟩⟩)
      (by omega) 1000000 0 [] (s2 ++ [.lst []]) ⟨.refl, [], rfl⟩ (by simp) (by omega) (by simp) (by omega)
    have ec3 := eComp_of (i := iSeq (eVar 0)) (p := .nm 2) (vs := [2]) (t := ct3__law_bag) (e := ce3__law_bag) (n := 1000000) (env := [some (.fl xs), some (.int v), o, some (.ref (st.length + 2)), some .non]) (st := s2) (st0 := s2) (src := srcTup xs)
      (by simp [iSeq]) d1
    subst y2
    have G3 : Gr s2 s3 := (Fr.app _).own y1 (fun i hi e => by omega)
    have c5 := G3.get c4 (by simp)
    have L3 := lt_of_get c5
    have hi0 : is = [] := List.eq_nil_of_length_eq_zero hcond.2
    subst hi0
    simp at c4 c5
    refine ⟨s3.length, st.length + 2, s3 ++ [.lst [.int v, .int 1, .ref (st.length + 2), .int (if js.sum < 0 then -js.sum else js.sum)]], ?_, ⟨by omega, v, 1, [], .int (if js.sum < 0 then -js.sum else js.sum), by simp, ?_, .inr ⟨_, rfl⟩⟩, (G2.trans G3).trans (.app _)⟩
    · have h2 : ((xs.length : Int) < 2) = True := eq_true (by omega)
      simp only [En0] at r1 ec2
      simp [F__law_bag, hxs, hc, sFor, iSeq, h2, r1, ec2, c4, ec3, d4, intsW_map]
    · rw [List.getElem?_append_left L3]; simpa using c5
  · refine ⟨s2.length, st.length + 2, s2 ++ [.lst [.int v, .int 1, .ref (st.length + 2), .non]], ?_, ⟨by omega, v, 1, is, .non, by simp, ?_, .inl rfl⟩, G2.trans (.app _)⟩
    · simp only [En0] at r1 ec2
      by_cases h2 : xs.length < 2
      · have h3 : ¬ is.length = 0 := fun z => hcond ⟨h2, z⟩
        have h2' : ((xs.length : Int) < 2) = True := eq_true (by omega)
        have h3' : ((is.length : Int) == 0) = false := beq_eq_false_iff_ne.mpr (by omega)
        simp [F__law_bag, hxs, hc, sFor, iSeq, h2', r1, ec2, c4, h3']
      · have h2' : ((xs.length : Int) < 2) = False := eq_false (by omega)
        simp [F__law_bag, hxs, hc, sFor, iSeq, h2', r1, ec2, c4]
    · rw [List.getElem?_append_left L2]; exact c4
end K01

set_option Elab.async false
set_option linter.all false
set_option maxRecDepth 100000
set_option maxHeartbeats 1000000
namespace K01
open PySem PySem.Spec L2 B
set_option autoImplicit false
/-! ### of kinds put in -/
theorem getD_in (cs : List Kd) (n : Nat) : cs.getD n .num ∈ cs ∨ cs.getD n .num = .num := by
  rw [List.getD_eq_getElem?_getD]
  cases h : cs[n]? with
  | none => right; rfl
  | some x => left; exact List.mem_of_getElem? h
mutual
theorem sub_ht (cs : List Kd) (H : Nat) (h1 : 1 ≤ H) (hc : ∀ c ∈ cs, ht c ≤ H) : ∀ k, ht (sub cs k) ≤ ht k + H
  | .letter n => by
    rcases getD_in cs n with h | h
    · have := hc _ h; simp only [sub, ht]; omega
    · simp only [sub, ht, h]; omega
  | .row ks => by have := subs_ht cs H h1 hc ks; simp [sub, ht]; omega
  | .data _ ks => by have := subs_ht cs H h1 hc ks; simp [sub, ht]; omega
  | .fn ks r => by have := subs_ht cs H h1 hc ks; have := sub_ht cs H h1 hc r; simp [sub, ht]; omega
  | .box k => by have := sub_ht cs H h1 hc k; simp [sub, ht]; omega
  | .num => by simp [sub, ht]
  | .nil => by simp [sub, ht]
theorem subs_ht (cs : List Kd) (H : Nat) (h1 : 1 ≤ H) (hc : ∀ c ∈ cs, ht c ≤ H) : ∀ ks, hts (subs cs ks) ≤ hts ks + H
  | [] => by simp [subs, hts]
  | k :: ks => by have := subs_ht cs H h1 hc ks; have := sub_ht cs H h1 hc k; simp [subs, hts]; omega
end
mutual
theorem sub_sz (cs : List Kd) (M : Nat) (h1 : 1 ≤ M) (hc : ∀ c ∈ cs, sz c ≤ M) : ∀ k, sz (sub cs k) ≤ sz k * M
  | .letter n => by
    rcases getD_in cs n with h | h
    · have := hc _ h; simp only [sub, sz]; omega
    · simp only [sub, sz, h]; omega
  | .row ks => by have := subs_sz cs M h1 hc ks; simp [sub, sz, Nat.add_mul]; omega
  | .data _ ks => by have := subs_sz cs M h1 hc ks; simp [sub, sz, Nat.add_mul]; omega
  | .fn ks r => by have := subs_sz cs M h1 hc ks; have := sub_sz cs M h1 hc r; simp [sub, sz, Nat.add_mul]; omega
  | .box k => by have := sub_sz cs M h1 hc k; simp [sub, sz, Nat.add_mul]; omega
  | .num => by simp [sub, sz]; omega
  | .nil => by simp [sub, sz]; omega
theorem subs_sz (cs : List Kd) (M : Nat) (h1 : 1 ≤ M) (hc : ∀ c ∈ cs, sz c ≤ M) : ∀ ks, szs (subs cs ks) ≤ szs ks * M
  | [] => by simp [subs, szs]
  | k :: ks => by have := subs_sz cs M h1 hc ks; have := sub_sz cs M h1 hc k; simp [subs, szs, Nat.add_mul]; omega
end
mutual
theorem sub_wf (cs : List Kd) (hc : ∀ c ∈ cs, wf c = true) : ∀ k, wf k = true → wf (sub cs k) = true
  | .letter n, _ => by
    rcases getD_in cs n with h | h
    · exact hc _ h
    · simp only [sub, h]; rfl
  | .row ks, h => by simp [wf] at h; simp [sub, wf, subs_len, h, subs_wf cs hc ks]
  | .data _ ks, h => by simp [wf] at h; simp [sub, wf, h, subs_wf cs hc ks]
  | .fn ks r, h => by simp [wf] at h; simp [sub, wf, subs_len, h, subs_wf cs hc ks, sub_wf cs hc r]
  | .box k, h => by simp [wf] at h; simp [sub, wf, h, sub_wf cs hc k]
  | .num, _ => rfl
  | .nil, _ => rfl
theorem subs_wf (cs : List Kd) (hc : ∀ c ∈ cs, wf c = true) : ∀ ks, wfs ks = true → wfs (subs cs ks) = true
  | [], _ => rfl
  | k :: ks, h => by simp [wfs] at h; simp [subs, wfs, sub_wf cs hc k h.1, subs_wf cs hc ks h.2]
end
mutual
theorem sub_nolet (cs : List Kd) (hc : ∀ c ∈ cs, ∀ n, Kd.letter n ∉ pre c) : ∀ k, ∀ n, Kd.letter n ∉ pre (sub cs k)
  | .letter m, n => by
    rcases getD_in cs m with h | h
    · exact hc _ h n
    · simp only [sub, h]; simp [pre]
  | .row ks, n => by simp [sub, pre, subs_nolet cs hc ks n]
  | .data _ ks, n => by simp [sub, pre, subs_nolet cs hc ks n]
  | .fn ks r, n => by simp [sub, pre, subs_nolet cs hc ks n, sub_nolet cs hc r n]
  | .box k, n => by simp [sub, pre, sub_nolet cs hc k n]
  | .num, n => by simp [sub, pre]
  | .nil, n => by simp [sub, pre]
theorem subs_nolet (cs : List Kd) (hc : ∀ c ∈ cs, ∀ n, Kd.letter n ∉ pre c) : ∀ ks, ∀ n, Kd.letter n ∉ pres (subs cs ks)
  | [], n => by simp [subs, pres]
  | k :: ks, n => by simp [subs, pres, sub_nolet cs hc k n, subs_nolet cs hc ks n]
end
mutual
theorem subF_sub (cs : List Kd) : ∀ k, subF (fun n => cs.getD n .num) k = sub cs k
  | .letter m => rfl
  | .row ks => by simp only [sub, subF, subsF_subs cs ks]
  | .data _ ks => by simp only [sub, subF, subsF_subs cs ks]
  | .fn ks r => by simp only [sub, subF, subsF_subs cs ks, subF_sub cs r]
  | .box k => by simp only [sub, subF, subF_sub cs k]
  | .num => rfl
  | .nil => rfl
theorem subsF_subs (cs : List Kd) : ∀ ks, subsF (fun n => cs.getD n .num) ks = subs cs ks
  | [] => rfl
  | k :: ks => by simp only [subs, subsF, subF_sub cs k, subsF_subs cs ks]
end
mutual
theorem ht_dW : ∀ k : Kd, ht k ≤ dW (enc k)
  | .num => by simp [enc, dW, dWs, ht]
  | .nil => by simp [enc, dW, dWs, ht]
  | .letter _ => by simp [enc, dW, dWs, ht]
  | .row ks => by have := hts_dWs ks; simp [enc, dW, dWs, ht]; omega
  | .data _ ks => by have := hts_dWs ks; simp [enc, dW, dWs, ht]; omega
  | .fn ks r => by have := hts_dWs ks; have := ht_dW r; simp [enc, dW, dWs, ht]; omega
  | .box k => by have := ht_dW k; simp [enc, dW, dWs, ht]; omega
theorem hts_dWs : ∀ ks : List Kd, hts ks ≤ dWs (encs ks)
  | [] => by simp [encs, hts]
  | k :: ks => by have := ht_dW k; have := hts_dWs ks; simp [encs, dWs, hts]; omega
end
mutual
theorem sz_sw : ∀ k : Kd, sz k ≤ sw (enc k)
  | .num => by simp [enc, sw, sws, sz]
  | .nil => by simp [enc, sw, sws, sz]
  | .letter _ => by simp [enc, sw, sws, sz]
  | .row ks => by have := szs_sws ks; simp [enc, sw, sws, sz]; omega
  | .data _ ks => by have := szs_sws ks; simp [enc, sw, sws, sz]; omega
  | .fn ks r => by have := szs_sws ks; have := sz_sw r; simp [enc, sw, sws, sz]; omega
  | .box k => by have := sz_sw k; simp [enc, sw, sws, sz]; omega
theorem szs_sws : ∀ ks : List Kd, szs ks ≤ sws (encs ks)
  | [] => by simp [encs, szs]
  | k :: ks => by have := sz_sw k; have := szs_sws ks; simp [encs, sws, szs]; omega
end
mutual
theorem nl_enc : ∀ k : Kd, nl (enc k) = true ↔ ∀ n, Kd.letter n ∉ pre k
  | .num => by simp [enc, nl, nls, pre]
  | .nil => by simp [enc, nl, nls, pre]
  | .letter m => by simp [enc, nl, nls, pre]
  | .row ks => by have := nls_encs ks; simp [enc, nl, nls, pre, this]
  | .data _ ks => by have := nls_encs ks; simp [enc, nl, nls, pre, this]
  | .fn ks r => by have := nls_encs ks; have := nl_enc r; simp [enc, nl, nls, pre, *, forall_and]
  | .box k => by have := nl_enc k; simp [enc, nl, nls, pre, this]
theorem nls_encs : ∀ ks : List Kd, nls (encs ks) = true ↔ ∀ n, Kd.letter n ∉ pres ks
  | [] => by simp [encs, nls, pres]
  | k :: ks => by have := nl_enc k; have := nls_encs ks; simp [encs, nls, pres, *, forall_and]
end
theorem flag_ok (a c : Bool) (st : Sto) : F__law_is_flag [.bl a, .bl c] st = some (.bl (a == c), st) := by
  have : bIsi [.bl a, .ext (.ty "bool")] st = some (.bl true, st) := by simp [bIsi, tyW, kit_bool_bool]
  simp [F__law_is_flag, this]
/-- the numbers of the letters of a kind -/
theorem lotN (k : Kd) : ∃ ls : List Nat, lot k = ls.map (fun (n : Nat) => (n : Int)) ∧ ls.Nodup ∧ ∀ n, n ∈ ls ↔ Kd.letter n ∈ pre k := by
  refine ⟨(lot k).map Int.toNat, ?_, ?_, fun n => ?_⟩
  · rw [List.map_map]
    conv => lhs; rw [← List.map_id (lot k)]
    refine List.map_congr_left fun x hx => ?_
    obtain ⟨n, rfl, _⟩ := lot_mem.mp hx
    simp
  · have hp := pw_insAll (lets (pre k))
    have hn : ∀ x ∈ lot k, 0 ≤ x := fun x hx => by obtain ⟨n, rfl, _⟩ := lot_mem.mp hx; omega
    unfold lot at hn ⊢
    generalize insAll (lets (pre k)) = L at hp hn
    induction L with
    | nil => simp
    | cons x xs ih =>
      rw [List.pairwise_cons] at hp
      simp only [List.map_cons, List.nodup_cons]
      refine ⟨fun z => ?_, ih hp.2 fun y hy => hn y (List.mem_cons_of_mem _ hy)⟩
      obtain ⟨y, hy, e⟩ := List.mem_map.mp z
      have h1 := hp.1 y hy
      have h2 := hn x List.mem_cons_self
      have h3 := hn y (List.mem_cons_of_mem _ hy)
      omega
  · rw [List.mem_map]
    constructor
    · rintro ⟨x, hx, rfl⟩
      obtain ⟨m, rfl, hm⟩ := lot_mem.mp hx
      simpa using hm
    · intro h
      exact ⟨(n : Int), lot_mem.mpr ⟨n, rfl, h⟩, by simp⟩
theorem many_law {b g : Nat} {L : Int} {dp : Nat} {st : Sto} {env : En} {p : Pat} {t : TM} {e : EM} (m : Nat) (hm : m ≤ 100) (B : Bag b g st)
    (hp : ∀ x st, ∃ env1, p.asg x env st = some (env1, st) ∧ t env1 st = some (true, st) ∧ (Bag b g st → ∃ k st', e env1 st = some (enc k, st') ∧ AK dp L k ∧ Bag b g st' ∧ BF b g st st')) :
    ∃ ks st', compGo (srcRng 0 m) p t e st.length 1000000 0 env (st ++ [.lst []]) = some ((), st') ∧
      ks.length = m ∧ (∀ k ∈ ks, AK dp L k) ∧ st'[st.length]? = some (.lst (encs ks)) ∧ Bag b g st' ∧ BF b g st st' := by
  have hb := B.lt
  obtain ⟨ys, st2, r1, ⟨ks, x1, x2, x3, x4, x5⟩, r4, r5⟩ := comp_go (src := srcRng 0 m) (p := p) (t := t) (e := e) (k := st.length) (env := env) ((List.range m).map fun (i : Nat) => W.int (i : Int))
    (fun j ys s => ∃ ks, ys = encs ks ∧ ks.length = j ∧ (∀ k ∈ ks, AK dp L k) ∧ Bag b g s ∧ Fr (fun i => i = b ∨ i = g ∨ i = st.length) (st ++ [.lst []]) s)
    (fun j ys s I _ => by
      rw [range_get]
      unfold srcRng
      by_cases h : j < m
      · rw [if_pos h, if_pos h]; simp
      · rw [if_neg h, if_neg h])
    (fun j ys s x ⟨ks, x1, x2, x3, x4, x5⟩ hk hx => by
      obtain ⟨env1, q1, q2, q3⟩ := hp x s
      obtain ⟨k, s1, e1, e2, e3, e4⟩ := q3 x4
      refine ⟨env1, true, q1, q2, by simp, fun _ => ⟨enc k, s1, e1, e4.get hk (by omega), ks ++ [k], by rw [x1, encs_snoc], by simp [x2], ?_, ?_, ?_⟩⟩
      · intro k' hk'
        rcases List.mem_append.mp hk' with h | h
        · exact x3 k' h
        · have : k' = k := by simpa using h
          subst this; exact e2
      · exact e3.fr (P := fun i => i = st.length) (.set _ rfl) (by omega) (by omega)
      · exact (x5.trans (e4.mono fun i h => by rcases h with h | h <;> simp [h])).trans (.set _ (.inr (.inr rfl))))
    (by simp; omega) 1000000 0 [] (st ++ [.lst []]) ⟨[], rfl, rfl, by simp, B.gr (.app _), .refl⟩ (by simp) (by omega) (by simp) (by simp; omega)
  refine ⟨ks, st2, r1, by simpa using x2, x3, by rw [r4, x1], x4, (Fr.app (P := fun i => i = b ∨ i = g) _).own x5 fun i hi e => by rcases e with e | e | e <;> simp [e] <;> omega⟩
end K01

set_option Elab.async false
set_option linter.all false
set_option maxRecDepth 100000
set_option maxHeartbeats 4000000
namespace K01
open PySem PySem.Spec L2 B
set_option autoImplicit false
def LE (s : W) (b : Nat) (t o3 o4 o5 o6 o7 o8 o9 o10 o11 o12 o13 o14 o15 : Option W) : En := [some s, some (.ref b), t, o3, o4, o5, o6, o7, o8, o9, o10, o11, o12, o13, o14, o15]
theorem law_is_kd {k : Kd} {st : Sto} (h : ht k ≤ 9) (hs : sz k ≤ 200000) : ∃ st', F__law_is 40 [enc k, enc k] st = some (.bl true, st') ∧ Gr st st' := by
  have := dW_enc k
  have := sw_enc k
  exact law_is_ok 40 (enc k) st (by omega) (by omega) (sim_enc k) (by omega)
theorem fb4_ok {b g : Nat} {k : Kd} {s : W} {t o4 o5 o6 o7 o8 o9 o10 o11 o12 o13 o14 o15 : Option W} {st : Sto} (hB : Bag b g st) (hk : sz k ≤ 10000) :
    ∃ o15' st', fb4_law (LE s b t (some (enc k)) o4 o5 o6 o7 o8 o9 o10 o11 o12 o13 o14 o15) st = some ((.nx, LE s b t (some (enc k)) o4 o5 o6 o7 o8 o9 o10 o11 o12 o13 o14 o15'), st') ∧ Bag b g st' := by
  obtain ⟨odd, s1, e1, v1, z1, B1, f1⟩ := odd_ok hB
  have hsw := sw_enc k
  obtain ⟨w, s2, e2, v2, z2, _, _, B2, f2⟩ := changed_ok b g odd 40 9 (enc k) s1 (by omega) (vw_enc _ k) v1 (by omega) B1
  obtain ⟨s3, e3, g3⟩ := is_kind_ok (st := s2) v2 (by omega)
  obtain ⟨s4, e4, g4⟩ := law_is_kind_ok (st := s3) (g3.vw v2) (by omega)
  simp only [Int.cast_ofNat_Int] at e2
  refine ⟨some w, s4, ?_, (B2.gr g3).gr g4⟩
  simp [fb4_law, LE, e1, e2, e3, e4, flag_ok]
theorem due_loop {b : Nat} {s : W} {t o3 o4 o5 o7 o9 o10 o11 o12 o13 o14 o15 : Option W} (closed : List Kd) (ls : List Nat) (hl : ∀ n ∈ ls, n < closed.length) (nd : ls.Nodup) (hls : ls.length ≤ 1000) (st : Sto) :
    ∃ o9', forGo (srcTup (ls.map fun (n : Nat) => W.int (n : Int))) (.nm 9) fb3_law 1000000 0 (LE s b t o3 o4 o5 (some (.tup (encs closed))) o7 (some (.ref st.length)) o9 o10 o11 o12 o13 o14 o15) (st ++ [.dct []]) =
      some ((.nx, LE s b t o3 o4 o5 (some (.tup (encs closed))) o7 (some (.ref st.length)) o9' o10 o11 o12 o13 o14 o15), st ++ [.dct (encF (ls.map fun n => (n, closed.getD n .num)))]) := by
  obtain ⟨fl, env', st', r1, r2⟩ := for_go (src := srcTup (ls.map fun (n : Nat) => W.int (n : Int))) (p := .nm 9) (b := fb3_law) (ls.map fun (n : Nat) => W.int (n : Int))
    (fun j env s' => s' = st ++ [.dct (encF ((ls.take j).map fun n => (n, closed.getD n .num)))] ∧ ∃ o9, env = LE s b t o3 o4 o5 (some (.tup (encs closed))) o7 (some (.ref st.length)) o9 o10 o11 o12 o13 o14 o15) (fun _ _ => False)
    (fun j env s' _ _ => rfl)
    (fun j env s' x ⟨h1, o9, h2⟩ hx => by
      subst h1; subst h2
      rw [List.getElem?_map] at hx
      cases hn : ls[j]? with
      | none => rw [hn] at hx; simp at hx
      | some n =>
        rw [hn] at hx; simp at hx; subst hx
        have hmem := List.mem_of_getElem? hn
        have hlt := hl n hmem
        have hat : atI (encs closed) (n : Int) = some (enc (closed.getD n .num)) := by
          rw [atI_nat _ _ (by rw [encs_len]; exact hlt), encs_map]
          simp [hlt]
        have hnew : n ∉ keys ((ls.take j).map fun n => (n, closed.getD n .num)) := by
          intro z
          obtain ⟨p, hp, e⟩ := List.mem_map.mp z
          obtain ⟨m, hm, rfl⟩ := List.mem_map.mp hp
          simp only at e
          subst e
          obtain ⟨hj, e1⟩ := List.getElem?_eq_some_iff.mp hn
          obtain ⟨i, hi, e⟩ := List.mem_iff_getElem.mp hm
          rw [List.getElem_take] at e
          have := (List.getElem_inj nd).mp (e.trans e1.symm)
          simp at hi; omega
        have hput := putW_new (c := closed.getD n .num) hnew
        have hz : sml (encF ((ls.take j).map fun n => (n, closed.getD n .num))).length = true := by
          rw [encF_len]; exact sml_le (by simp; omega)
        refine ⟨LE s b t o3 o4 o5 (some (.tup (encs closed))) o7 (some (.ref st.length)) (some (.int n)) o10 o11 o12 o13 o14 o15, .nx, LE s b t o3 o4 o5 (some (.tup (encs closed))) o7 (some (.ref st.length)) (some (.int n)) o10 o11 o12 o13 o14 o15, st ++ [.dct (encF ((ls.take (j + 1)).map fun n => (n, closed.getD n .num)))], by simp [LE], ?_, .inl ⟨rfl, rfl, _, rfl⟩⟩
        rw [List.take_succ, hn]
        simp only [Option.toList_some, List.map_append, List.map_cons, List.map_nil]
        generalize (ls.take j).map (fun n => (n, closed.getD n .num)) = FF at hz hput ⊢
        generalize closed.getD n .num = cc at hat hput ⊢
        simp [fb3_law, LE, hat, hz, hput])
    1000000 0 (LE s b t o3 o4 o5 (some (.tup (encs closed))) o7 (some (.ref st.length)) o9 o10 o11 o12 o13 o14 o15) (st ++ [.dct []]) ⟨by simp [encF], o9, rfl⟩ (by omega) (by simp; omega)
  rcases r2 with ⟨rfl, r2, o9', r3⟩ | ⟨_, _, r2⟩
  · rw [List.length_map, List.take_length] at r2
    subst r2; subst r3
    exact ⟨o9', r1⟩
  · exact r2.elim
end K01

set_option Elab.async false
set_option linter.all false
set_option maxRecDepth 100000
set_option maxHeartbeats 4000000
namespace K01
open PySem PySem.Spec L2 B
set_option autoImplicit false
theorem okSub {k : Kd} {cs : List Kd} (hk : AK 5 4 k) (hc : ∀ c ∈ cs, ∃ L, AK 3 L c) : wf (sub cs k) = true ∧ ht (sub cs k) ≤ 8 ∧ sz (sub cs k) ≤ 1573 := by
  have h1 := sub_ht cs 3 (by omega) (fun c hc' => by obtain ⟨L, h⟩ := hc c hc'; have := h.ht; simpa using this) k
  have h2 := sub_sz cs 13 (by omega) (fun c hc' => by obtain ⟨L, h⟩ := hc c hc'; have := h.sz; simpa [gsz] using this) k
  have h3 := hk.ht
  have h4 := hk.sz
  simp [gsz] at h3 h4
  exact ⟨sub_wf cs (fun c hc' => by obtain ⟨L, h⟩ := hc c hc'; exact h.wf) k hk.wf, by omega, by omega⟩
theorem lot_len {k : Kd} (hl : ∀ n, Kd.letter n ∈ pre k → n < 4) : (lot k).length ≤ 4 := by
  have := inc_len (lot k) 0 4 (by omega) (pw_insAll _) fun x hx => by
    obtain ⟨n, rfl, h⟩ := lot_mem.mp hx
    have := hl n h
    omega
  omega
/-- the first half -/
def fbA : SM := (bCons (sSet (.nm 3) (eCall (F__law_any_kind 40) (aCons (eVar 1) (aCons (eOp fAdd (eC (.int 1)) (eCall F__law_pick (aCons (eVar 1) (aCons (eC (.int 5)) aNil)))) (aCons (eC (.int 4)) aNil)))))
    (bCons (sSet (.nm 4) (eCall F__law_letters (aCons (eVar 3) aNil)))
    (bCons (sIf (tOrM (tNotM (tVal (eCall F__law_is_flag (aCons (eCall F_is_kind (aCons (eVar 3) aNil)) (aCons (eC (.bl true)) aNil))))) (tNotM (tVal (eCall (F__law_is 40) (aCons (eCall F_letters_in (aCons (eVar 3) aNil)) (aCons (eVar 4) aNil)))))) (bCons (sRet (eC (.bl false)))
    bNil) bNil)
    bNil)))
theorem fbA_ok {b g : Nat} {s : W} {t o3 o4 o5 o6 o7 o8 o9 o10 o11 o12 o13 o14 o15 : Option W} {st : Sto} (hB : Bag b g st) :
    ∃ k st', fbA (LE s b t o3 o4 o5 o6 o7 o8 o9 o10 o11 o12 o13 o14 o15) st = some ((.nx, LE s b t (some (enc k)) (some (.tup ((lot k).map .int))) o5 o6 o7 o8 o9 o10 o11 o12 o13 o14 o15), st') ∧ AK 5 4 k ∧ Bag b g st' := by
  obtain ⟨r, s1, e1, r0, r1, B1, f1, _⟩ := law_pick_ok (m := 5) hB (by omega) (by omega)
  obtain ⟨k, s2, e2, A2, B2, f2⟩ := any_ok b g 4 (by omega) (by omega) 40 (1 + r).toNat s1 (by omega) (by omega) B1
  have er : (((1 + r).toNat : Nat) : Int) = 1 + r := by omega
  rw [er] at e2
  have A5 : AK 5 4 k := ⟨A2.wf, by have := A2.ht; omega, by
    have h := A2.sz
    have : gsz (1 + r).toNat ≤ 121 := by
      have h5 : (1 + r).toNat ≤ 5 := by omega
      generalize (1 + r).toNat = q at h5
      match q, h5 with
      | 0, _ => simp [gsz]
      | 1, _ => simp [gsz]
      | 2, _ => simp [gsz]
      | 3, _ => simp [gsz]
      | 4, _ => simp [gsz]
      | 5, _ => simp [gsz]
    simp [gsz]; omega, A2.lt⟩
  have hsz : sz k ≤ 121 := by have := A5.sz; simpa [gsz] using this
  have hl4 : ∀ n, Kd.letter n ∈ pre k → n < 4 := fun n h => by have := A5.lt n h; omega
  obtain ⟨s3, e3, g3⟩ := law_letters_ok (st := s2) A5.wf (by omega) 4 (by omega) hl4
  obtain ⟨s4, e4, g4⟩ := kind_true (st := s3) A5.wf (by omega)
  obtain ⟨s5, e5, g5⟩ := letters_in_ok (st := s4) A5.wf (by omega) 4 (by omega) hl4
  have hT : sim (.tup ((lot k).map .int)) = true ∧ dW (.tup ((lot k).map .int)) ≤ 1 ∧ sw (.tup ((lot k).map .int)) ≤ 10 := by
    have hll := lot_len hl4
    generalize lot k = L at hll
    have h1 : ∀ L : List Int, sims (L.map .int) = true ∧ dWs (L.map .int) = 0 ∧ sws (L.map .int) = L.length := fun L => by
      induction L with
      | nil => simp [sims, dWs, sws]
      | cons x xs ih => simp [sims, dWs, sws, sim, dW, sw, ih]; omega
    obtain ⟨a, b, c⟩ := h1 L
    simp [sim, dW, sw, a, b, c]; omega
  obtain ⟨s6, e6, g6⟩ := law_is_ok 40 (.tup ((lot k).map .int)) s5 (by omega) (by omega) hT.1 (by omega)
  refine ⟨k, s6, ?_, A5, (((B2.gr g3).gr g4).gr g5).gr g6⟩
  simp [fbA, LE, e1, e2, e3, e4, e5, e6, flag_ok]
def fbB : SM := (bCons (sSet (.nm 5) (eCall bTuple (aCons (eComp (iRng1M (aCons (eOp fAdd (eC (.int 4)) (eCall F__law_pick (aCons (eVar 1) (aCons (eC (.int 2)) aNil)))) aNil)) (.nm 2) [2] ct1_law ce1_law 1000000) aNil)))
    (bCons (sIf (tOrM (tNotM (tVal (eCall (F__law_is 40) (aCons (eCall F_filled (aCons (eVar 3) (aCons (eVar 5) aNil))) (aCons (eCall (F__law_put 40) (aCons (eVar 3) (aCons (eVar 5) aNil))) aNil))))) (tBl (eOp fNe (eCall F_filled (aCons (eVar 3) (aCons (eVar 5) aNil))) (eCall (F__law_put 40) (aCons (eVar 3) (aCons (eVar 5) aNil)))))) (bCons (sRet (eC (.bl false)))
    bNil) bNil)
    bNil))
theorem fbB_ok {b g : Nat} {k : Kd} {s : W} {t o4 o5 o6 o7 o8 o9 o10 o11 o12 o13 o14 o15 : Option W} {st : Sto} (hB : Bag b g st) (hk : AK 5 4 k) :
    ∃ t' o5' st', fbB (LE s b t (some (enc k)) o4 o5 o6 o7 o8 o9 o10 o11 o12 o13 o14 o15) st = some ((.nx, LE s b t' (some (enc k)) o4 o5' o6 o7 o8 o9 o10 o11 o12 o13 o14 o15), st') ∧ Bag b g st' := by
  obtain ⟨r, s1, e1, r0, r1, B1, f1, _⟩ := law_pick_ok (m := 2) hB (by omega) (by omega)
  obtain ⟨cs, s2, c1, c2, c3, c4, B2, f2⟩ := many_law (L := 3) (dp := 3) (p := .nm 2) (t := ct1_law) (e := ce1_law) (env := wipeE (LE s b t (some (enc k)) o4 o5 o6 o7 o8 o9 o10 o11 o12 o13 o14 o15) [2]) (4 + r).toNat (by omega) B1
    (fun x s' => ⟨LE s b (some x) (some (enc k)) o4 o5 o6 o7 o8 o9 o10 o11 o12 o13 o14 o15, by simp [wipeE, LE], by simp [ct1_law, tYesM], fun B' => by
      obtain ⟨k', s'', q1, q2, q3, q4⟩ := any_ok b g 3 (by omega) (by omega) 40 3 s' (by omega) (by omega) B'
      simp only [Int.cast_ofNat_Int] at q1
      exact ⟨k', s'', by simp [ce1_law, LE, q1], q2, q3, q4⟩⟩)
  have ec := eComp_of (i := iRng1M (aCons (eOp fAdd (eC (.int 4)) (eCall F__law_pick (aCons (eVar 1) (aCons (eC (.int 2)) aNil)))) aNil)) (p := .nm 2) (vs := [2]) (t := ct1_law) (e := ce1_law) (n := 1000000) (env := LE s b t (some (enc k)) o4 o5 o6 o7 o8 o9 o10 o11 o12 o13 o14 o15) (st := st) (st0 := s1) (src := srcRng 0 (4 + r).toNat)
    (by simp [iRng1M, LE, e1]; omega) c1
  have hsub := okSub (cs := cs) hk fun c hc => ⟨3, c3 c hc⟩
  have hsz : sz k ≤ 121 := by have := hk.sz; simpa [gsz] using this
  have hlt : ∀ n, Kd.letter n ∈ pre k → n < cs.length := fun n h => by have := hk.lt n h; omega
  have hwc : wfs cs = true := (wfs_all _).mpr fun c hc => (c3 c hc).wf
  have hsc : ∀ c ∈ cs, sz c < 200000 := fun c hc => by have := (c3 c hc).sz; simp [gsz] at this; omega
  have hht : ht k ≤ 5 := by simpa using hk.ht
  obtain ⟨s3, e3, g3⟩ := filled_ok (st := s2) hk.wf (by omega) hlt (by omega) hwc hsc
  obtain ⟨s4, e4, g4⟩ := law_put_ok cs 40 k s3 (by omega) hk.wf (by omega) hlt
  obtain ⟨s5, e5, g5⟩ := law_is_kd (k := sub cs k) (st := s4) (by omega) (by omega)
  obtain ⟨s6, e6, g6⟩ := filled_ok (st := s5) hk.wf (by omega) hlt (by omega) hwc hsc
  obtain ⟨s7, e7, g7⟩ := law_put_ok cs 40 k s6 (by omega) hk.wf (by omega) hlt
  have hd := dW_enc (sub cs k)
  obtain ⟨q, e8, e9⟩ := sim_fNe (st := s7) (sim_enc (sub cs k)) (sim_enc (sub cs k)) (by omega) (by omega)
  have : q = true := e9.mpr rfl
  subst this
  refine ⟨t, some (.tup (encs cs)), s7, ?_, ((((B2.gr g3).gr g4).gr g5).gr g6).gr g7⟩
  simp only [LE] at ec
  simp [fbB, LE, ec, c4, e3, e4, e5, e6, e7, e8]
end K01

set_option Elab.async false
set_option linter.all false
set_option maxRecDepth 100000
set_option maxHeartbeats 4000000
namespace K01
open PySem PySem.Spec L2 B
set_option autoImplicit false
theorem isi_dict {q : Nat} {x : List (Key × W)} {st : Sto} (h : st[q]? = some (.dct x)) : bIsi [.ref q, .ext (.ty "dict")] st = some (.bl true, st) := by
  simp [bIsi, tyW, h, kit_dict_dict]
def fbC : SM := (bCons (sSet (.nm 6) (eCall bTuple (aCons (eComp (iRng1M (aCons (eC (.int 4)) aNil)) (.nm 2) [2] ct2_law ce2_law 1000000) aNil)))
    (bCons (sSet (.nm 7) (eCall (F__law_put 40) (aCons (eVar 3) (aCons (eVar 6) aNil))))
    (bCons (sSet (.nm 8) eDict0)
    (bCons (sFor (iSeq (eVar 4)) (.nm 9) fb3_law 1000000)
    (bCons (sSet (.nm 10) (eCall F_matched (aCons (eVar 3) (aCons (eVar 7) aNil))))
    (bCons (sIf (tOrM (tNotM (tVal (eCall bIsi (aCons (eVar 10) (aCons (eC (.ext (.ty "dict"))) aNil))))) (tOrM (tBl (eOp fNeDict (eVar 10) (eVar 8))) (tNotM (tVal (eCall (F__law_is 40) (aCons (eCall F_filled (aCons (eVar 3) (aCons (eVar 6) aNil))) (aCons (eVar 7) aNil))))))) (bCons (sRet (eC (.bl false)))
    bNil) bNil)
    bNil))))))
theorem fbC_ok {b g : Nat} {k : Kd} {s : W} {t o5 o6 o7 o8 o9 o10 o11 o12 o13 o14 o15 : Option W} {st : Sto} (hB : Bag b g st) (hk : AK 5 4 k) :
    ∃ t' o6' whole o8' o9' o10' st', fbC (LE s b t (some (enc k)) (some (.tup ((lot k).map .int))) o5 o6 o7 o8 o9 o10 o11 o12 o13 o14 o15) st = some ((.nx, LE s b t' (some (enc k)) (some (.tup ((lot k).map .int))) o5 o6' (some (enc whole)) o8' o9' o10' o11 o12 o13 o14 o15), st') ∧ Bag b g st' ∧
      wf whole = true ∧ ht whole ≤ 8 ∧ sz whole ≤ 1573 ∧ ∀ n, Kd.letter n ∉ pre whole := by
  obtain ⟨cs, s2, c1, c2, c3, c4, B2, f2⟩ := many_law (L := 0) (dp := 3) (p := .nm 2) (t := ct2_law) (e := ce2_law) (env := wipeE (LE s b t (some (enc k)) (some (.tup ((lot k).map .int))) o5 o6 o7 o8 o9 o10 o11 o12 o13 o14 o15) [2]) 4 (by omega) hB
    (fun x s' => ⟨LE s b (some x) (some (enc k)) (some (.tup ((lot k).map .int))) o5 o6 o7 o8 o9 o10 o11 o12 o13 o14 o15, by simp [wipeE, LE], by simp [ct2_law, tYesM], fun B' => by
      obtain ⟨k', s'', q1, q2, q3, q4⟩ := any_ok b g 0 (by omega) (by omega) 40 3 s' (by omega) (by omega) B'
      simp only [Int.cast_ofNat_Int] at q1
      exact ⟨k', s'', by simp [ce2_law, LE, q1], q2, q3, q4⟩⟩)
  have ec := eComp_of (i := iRng1M (aCons (eC (.int 4)) aNil)) (p := .nm 2) (vs := [2]) (t := ct2_law) (e := ce2_law) (n := 1000000) (env := LE s b t (some (enc k)) (some (.tup ((lot k).map .int))) o5 o6 o7 o8 o9 o10 o11 o12 o13 o14 o15) (st := st) (st0 := st) (src := srcRng 0 4)
    (by simp [iRng1M, LE]) c1
  obtain ⟨w1, w2, w3⟩ := okSub (cs := cs) hk fun c hc => ⟨0, c3 c hc⟩
  have w4 := sub_nolet cs (fun c hc n hn => by have := (c3 c hc).lt n hn; omega) k
  have hsz : sz k ≤ 121 := by have := hk.sz; simpa [gsz] using this
  have hlt : ∀ n, Kd.letter n ∈ pre k → n < cs.length := fun n h => by have := hk.lt n h; omega
  have hwc : wfs cs = true := (wfs_all _).mpr fun c hc => (c3 c hc).wf
  have hsc : ∀ c ∈ cs, sz c < 200000 := fun c hc => by have := (c3 c hc).sz; simp [gsz] at this; omega
  have hht : ht k ≤ 5 := by simpa using hk.ht
  have hk60 : ∀ n, Kd.letter n ∈ pre k → n < 60 := fun n h => by have := hlt n h; omega
  obtain ⟨s3, e3, g3⟩ := law_put_ok cs 40 k s2 (by omega) hk.wf (by omega) hlt
  obtain ⟨ls, l1, l2, l3⟩ := lotN k
  have hl4 := lot_len (k := k) fun n h => by have := hk.lt n h; omega
  obtain ⟨o9', e4⟩ := due_loop (b := b) (s := s) (t := t) (o3 := some (enc k)) (o4 := some (.tup ((lot k).map .int))) (o5 := o5) (o7 := some (enc (sub cs k))) (o9 := o9) (o10 := o10) (o11 := o11) (o12 := o12) (o13 := o13) (o14 := o14) (o15 := o15) cs ls (fun n hn => hlt n ((l3 n).mp hn)) l2 (by rw [l1] at hl4; simp at hl4; omega) s3
  obtain ⟨s4, hs4⟩ : ∃ x, s3 ++ [SO.dct (encF (ls.map fun n => (n, cs.getD n .num)))] = x := ⟨_, rfl⟩
  have g4 : Gr s3 s4 := by rw [← hs4]; exact .app _
  have d4 : s4[s3.length]? = some (.dct (encF (ls.map fun n => (n, cs.getD n .num)))) := by rw [← hs4]; simp
  rw [hs4] at e4
  obtain ⟨w, s5, e5, g5, told, _⟩ := matched_ok (a := k) (c := sub cs k) (st := s4) hk.wf (by omega) ⟨w1, by omega, by omega⟩ hk60 w4 (by omega)
  have hsol : Sol (fun n => cs.getD n .num) [] [(k, sub cs k)] := ⟨by simp, fun p hp => by
    have : p = (k, sub cs k) := by simpa using hp
    subst this; exact subF_sub cs k⟩
  rcases told with ⟨_, no⟩ | ⟨q, f, rfl, hq, hf, came, _⟩
  · exact (no _ hsol).elim
  obtain ⟨y1, y2⟩ := came.yes rfl
  have hf2 := (y1 _).mp hsol
  have d5 := g5.get d4 (by simp)
  have hkeys : keys (ls.map fun n => (n, cs.getD n .num)) = ls := by
    unfold keys; rw [List.map_map]; conv => rhs; rw [← List.map_id ls]
    rfl
  have okd : okF (ls.map fun n => (n, cs.getD n .num)) := ⟨fun p hp => by
    obtain ⟨n, hn, rfl⟩ := List.mem_map.mp hp
    have hh := getD_in cs n
    show okK (cs.getD n .num)
    generalize cs.getD n .num = cc at hh ⊢
    rcases hh with h | rfl
    · have := c3 _ h
      have h1 := this.ht
      have h2 := this.sz
      simp [gsz] at h1 h2
      exact ⟨this.wf, by omega, by omega⟩
    · exact ⟨rfl, by simp [ht], by simp [sz]⟩, by rw [hkeys]; exact l2⟩
  have e6 := same_dicts (st := s5) hf okd hq d5 (fun n => by
    rw [y2, hkeys, l3]; simp [keys, letP]) ⟨fun n => cs.getD n .num, hf2.1, fun p hp => by
      obtain ⟨n, hn, rfl⟩ := List.mem_map.mp hp
      rfl⟩
  have e7 := isi_dict hq
  obtain ⟨s6, e8, g6⟩ := filled_ok (st := s5) hk.wf (by omega) hlt (by omega) hwc hsc
  obtain ⟨s7, e9, g7⟩ := law_is_kd (k := sub cs k) (st := s6) (by omega) (by omega)
  have lm : (lot k).map W.int = ls.map (fun (n : Nat) => W.int (n : Int)) := by rw [l1, List.map_map]; rfl
  refine ⟨t, some (.tup (encs cs)), sub cs k, some (.ref s3.length), o9', some (.ref q), s7, ?_, ((((B2.gr g3).gr g4).gr g5).gr g6).gr g7, w1, w2, w3, w4⟩
  rw [lm] at ec e4 ⊢
  simp only [LE] at ec e4
  simp [fbC, LE, ec, c4, e3, sFor, iSeq, e4, e5, e6, e7, e8, e9]
theorem closed_ok {n : Nat} {k : Kd} {m : Nat} (h : AK m 0 k) (hm : m ≤ 4) : okK k ∧ ∀ n, Kd.letter n ∉ pre k := by
  have h1 := h.ht
  have h2 := h.sz
  have : gsz m ≤ 40 := by
    match m, hm with
    | 0, _ => simp [gsz]
    | 1, _ => simp [gsz]
    | 2, _ => simp [gsz]
    | 3, _ => simp [gsz]
    | 4, _ => simp [gsz]
  exact ⟨⟨h.wf, by omega, by omega⟩, fun n hn => by have := h.lt n hn; omega⟩
/-- the other one -/
def fbD : SM := (bCons (sSet (.nm 11) (eCall (F__law_any_kind 40) (aCons (eVar 1) (aCons (eOp fAdd (eC (.int 1)) (eCall F__law_pick (aCons (eVar 1) (aCons (eC (.int 4)) aNil)))) (aCons (eC (.int 0)) aNil)))))
    (bCons (sIf (tBl (eOp fEq (eCall F__law_pick (aCons (eVar 1) (aCons (eC (.int 2)) aNil))) (eC (.int 0)))) (bCons (sSet (.nm 12) (eCall (F__law_changed 40) (aCons (eVar 1) (aCons (eVar 7) (aCons (eTup (aCons (eC (.str "num")) aNil)) (aCons (eC (.int 8)) aNil))))))
    (bCons (sSet (.nm 11) (eIf (tVal (eCall F__law_is_kind (aCons (eVar 12) aNil))) (eVar 12) (eVar 11)))
    bNil)) bNil)
    bNil))
theorem fbD_ok {b g : Nat} {whole : Kd} {s : W} {t o3 o4 o5 o6 o8 o9 o10 o11 o12 o13 o14 o15 : Option W} {st : Sto} (hB : Bag b g st) (h1 : ht whole ≤ 8) (h2 : sz whole ≤ 1573) (h3 : ∀ n, Kd.letter n ∉ pre whole) :
    ∃ c o12' st', fbD (LE s b t o3 o4 o5 o6 (some (enc whole)) o8 o9 o10 o11 o12 o13 o14 o15) st = some ((.nx, LE s b t o3 o4 o5 o6 (some (enc whole)) o8 o9 o10 (some (enc c)) o12' o13 o14 o15), st') ∧ Bag b g st' ∧ okK c ∧ ∀ n, Kd.letter n ∉ pre c := by
  obtain ⟨r, s1, e1, r0, r1, B1, f1, _⟩ := law_pick_ok (m := 4) hB (by omega) (by omega)
  obtain ⟨k, s2, e2, A2, B2, f2⟩ := any_ok b g 0 (by omega) (by omega) 40 (1 + r).toNat s1 (by omega) (by omega) B1
  have er : (((1 + r).toNat : Nat) : Int) = 1 + r := by omega
  rw [er] at e2
  obtain ⟨k1, k2⟩ := closed_ok (n := 0) A2 (by omega)
  obtain ⟨r', s3, e3, r2, r3, B3, f3, _⟩ := law_pick_ok (m := 2) B2 (by omega) (by omega)
  by_cases hr : r' = 0
  · subst hr
    have hsw := sw_enc whole
    have hdw := dW_enc whole
    obtain ⟨w, s4, e4, v4, z4, y4, n4, B4, f4⟩ := changed_ok b g (.tup [.str "num"]) 40 8 (enc whole) s3 (by omega) (vw_enc _ whole) (by simp [vw, vws]) (by omega) B3
    simp only [Int.cast_ofNat_Int] at e4
    have q1 : sw (.tup [.str "num"]) = 2 := by simp [sw, sws]
    have q2 : dW (.tup [.str "num"]) = 1 := by simp [dW, dWs]
    obtain ⟨s5, e5, g5⟩ := law_is_kind_ok (st := s4) v4 (by omega)
    by_cases hK : isK w
    · obtain ⟨c, hc, rfl⟩ := hK
      have : isK (enc c) := ⟨c, hc, rfl⟩
      simp only [this, decide_true] at e5
      have a1 := ht_dW c
      have a2 := sz_sw c
      refine ⟨c, some (enc c), s5, ?_, B4.gr g5, ⟨hc, by omega, by omega⟩, (nl_enc c).mp (n4 ((nl_enc whole).mpr h3) (by simp [nl, nls]))⟩
      simp [fbD, LE, e1, e2, e3, e4, e5]
    · simp only [hK, decide_false] at e5
      refine ⟨k, some w, s5, ?_, B4.gr g5, k1, k2⟩
      simp [fbD, LE, e1, e2, e3, e4, e5]
  · have hr2 : (r' == 0) = false := by simpa using hr
    refine ⟨k, o12, s3, ?_, B3, k1, k2⟩
    simp [fbD, LE, e1, e2, e3, hr, hr2]
def fbE : SM := (bCons (sSet (.nm 13) eDict0)
    (bCons (sSet (.nm 8) (eIf (tVal (eCall (F__law_goes_with 40) (aCons (eVar 3) (aCons (eVar 11) (aCons (eVar 13) aNil))))) (eVar 13) (eC .non)))
    (bCons (sIf (tBl (eOp fNeDict (eCall F_matched (aCons (eVar 3) (aCons (eVar 11) aNil))) (eVar 8))) (bCons (sRet (eC (.bl false)))
    bNil) bNil)
    bNil)))
theorem sol_of {f : Dc} (h : okF f) : ∃ σ, Sol σ f [] := by
  refine ⟨fun n => (look f n).getD .num, fun p hp => ?_, by simp⟩
  have := mem_look h.2 (show (p.1, p.2) ∈ f from hp)
  simp [this]
theorem fbE_ok {b g : Nat} {k c : Kd} {s : W} {t o4 o5 o6 o7 o8 o9 o10 o12 o13 o14 o15 : Option W} {st : Sto} (hB : Bag b g st) (hk : AK 5 4 k) (hc : okK c) (hcl : ∀ n, Kd.letter n ∉ pre c) :
    ∃ o8' o13' st', fbE (LE s b t (some (enc k)) o4 o5 o6 o7 o8 o9 o10 (some (enc c)) o12 o13 o14 o15) st = some ((.nx, LE s b t (some (enc k)) o4 o5 o6 o7 o8' o9 o10 (some (enc c)) o12 o13' o14 o15), st') ∧ Bag b g st' := by
  have hsz : sz k ≤ 121 := by have := hk.sz; simpa [gsz] using this
  have hht : ht k ≤ 5 := by simpa using hk.ht
  have hk60 : ∀ n, Kd.letter n ∈ pre k → n < 60 := fun n h => by have := hk.lt n h; omega
  have hb := hB.lt
  obtain ⟨r, s1, f, e1, f1, d1, okf, _, came⟩ := goes_ok 40 k c [] st.length (st ++ [.dct []]) (by omega) hk.wf (by omega) hc ⟨by simp, by simp [keys]⟩ (by simp; omega) (by simp [encF])
  have G1 : Gr st s1 := (Fr.app _).own f1 fun i hi e => by omega
  obtain ⟨w, s2, e2, g2, told, hfresh⟩ := matched_ok (a := k) (c := c) (st := s1) hk.wf (by omega) hc hk60 hcl (by omega)
  have d2 := g2.get d1 (by simp)
  have B2 := (hB.gr G1).gr g2
  cases r with
  | true =>
    obtain ⟨y1, y2⟩ := came.yes rfl
    obtain ⟨σ, hσ⟩ := sol_of okf
    have hσ0 := (y1 σ).mpr hσ
    rcases told with ⟨_, no⟩ | ⟨q, f', rfl, hq, hf', came', _⟩
    · exact (no σ hσ0).elim
    obtain ⟨z1, z2⟩ := came'.yes rfl
    have e3 := same_dicts (st := s2) hf' okf hq d2 (fun n => by rw [y2, z2]) ⟨σ, ((z1 σ).mp hσ0).1, hσ.1⟩
    refine ⟨some (.ref st.length), some (.ref st.length), s2, ?_, B2⟩
    simp [fbE, LE, e1, e2, e3]
  | false =>
    rcases told with ⟨rfl, _⟩ | ⟨q, f', rfl, hq, hf', came', _⟩
    · refine ⟨some .non, some (.ref st.length), s2, ?_, B2⟩
      simp [fbE, LE, e1, e2, fNeDict]
    · obtain ⟨z1, z2⟩ := came'.yes rfl
      obtain ⟨σ, hσ⟩ := sol_of hf'
      exact (came.no rfl σ ((z1 σ).mpr hσ)).elim
end K01

set_option Elab.async false
set_option linter.all false
set_option maxRecDepth 100000
set_option maxHeartbeats 4000000
namespace K01
open PySem PySem.Spec L2 B
set_option autoImplicit false
def Cat (X R X' : SM) : Prop := ∀ env st env' st', X env st = some ((.nx, env'), st') → X' env st = R env' st'
theorem cat_nil {R : SM} : Cat bNil R R := fun env st env' st' h => by
  simp at h
  rw [h.1, h.2]
theorem cat_cons {s X R X' : SM} (h : Cat X R X') : Cat (bCons s X) R (bCons s X') := fun env st env' st' e => by
  unfold bCons bnd at e ⊢
  cases hs : s env st with
  | none => rw [hs] at e; simp at e
  | some r =>
    obtain ⟨⟨fl, env1⟩, st1⟩ := r
    rw [hs] at e
    cases fl with
    | nx => exact h env1 st1 env' st' e
    | bk => simp [B.ret] at e
    | ct => simp [B.ret] at e
    | rt w => simp [B.ret] at e
theorem fb5_cat : ∃ R1 R2 R3 R4 R5, Cat fbA R1 fb5_law ∧ Cat fbB R2 R1 ∧ Cat fbC R3 R2 ∧ Cat fbD R4 R3 ∧ Cat fbE R5 R4 ∧ R5 = bCons (sFor (iRng1M (aCons (eC (.int 4)) aNil)) (.nm 14) fb4_law 1000000) bNil :=
  ⟨_, _, _, _, _, cat_cons (cat_cons (cat_cons cat_nil)), cat_cons (cat_cons cat_nil), cat_cons (cat_cons (cat_cons (cat_cons (cat_cons (cat_cons cat_nil))))), cat_cons (cat_cons cat_nil), cat_cons (cat_cons (cat_cons cat_nil)), rfl⟩
theorem fb4_loop {b g : Nat} {k : Kd} {s : W} {t o4 o5 o6 o7 o8 o9 o10 o11 o12 o13 o14 o15 : Option W} {st : Sto} (hB : Bag b g st) (hk : sz k ≤ 10000) :
    ∃ o14' o15' st', bCons (sFor (iRng1M (aCons (eC (.int 4)) aNil)) (.nm 14) fb4_law 1000000) bNil (LE s b t (some (enc k)) o4 o5 o6 o7 o8 o9 o10 o11 o12 o13 o14 o15) st = some ((.nx, LE s b t (some (enc k)) o4 o5 o6 o7 o8 o9 o10 o11 o12 o13 o14' o15'), st') ∧ Bag b g st' := by
  obtain ⟨fl, env', st', r1, r2⟩ := for_go (src := srcRng 0 4) (p := .nm 14) (b := fb4_law) ((List.range 4).map fun (i : Nat) => W.int (i : Int))
    (fun j env s' => Bag b g s' ∧ ∃ o14 o15, env = LE s b t (some (enc k)) o4 o5 o6 o7 o8 o9 o10 o11 o12 o13 o14 o15) (fun _ _ => False)
    (fun j env s' I _ => by
      rw [range_get]
      unfold srcRng
      by_cases h : j < 4
      · rw [if_pos h, if_pos h]; simp
      · rw [if_neg h, if_neg h])
    (fun j env s' x ⟨B', o14, o15, h⟩ hx => by
      subst h
      obtain ⟨o15', s2, e, B2⟩ := fb4_ok (s := s) (t := t) (o4 := o4) (o5 := o5) (o6 := o6) (o7 := o7) (o8 := o8) (o9 := o9) (o10 := o10) (o11 := o11) (o12 := o12) (o13 := o13) (o14 := some x) (o15 := o15) B' hk
      exact ⟨LE s b t (some (enc k)) o4 o5 o6 o7 o8 o9 o10 o11 o12 o13 (some x) o15, .nx, _, s2, by simp [LE], e, .inl ⟨rfl, B2, _, _, rfl⟩⟩)
    1000000 0 (LE s b t (some (enc k)) o4 o5 o6 o7 o8 o9 o10 o11 o12 o13 o14 o15) st ⟨hB, _, _, rfl⟩ (by simp) (by simp)
  rcases r2 with ⟨rfl, B', o14', o15', rfl⟩ | ⟨_, _, r2⟩
  · exact ⟨o14', o15', st', by simp [sFor, iRng1M, r1], B'⟩
  · exact r2.elim
theorem fb5_ok {b g : Nat} {s : W} {t o3 o4 o5 o6 o7 o8 o9 o10 o11 o12 o13 o14 o15 : Option W} {st : Sto} (hB : Bag b g st) :
    ∃ t' o3' o4' o5' o6' o7' o8' o9' o10' o11' o12' o13' o14' o15' st', fb5_law (LE s b t o3 o4 o5 o6 o7 o8 o9 o10 o11 o12 o13 o14 o15) st = some ((.nx, LE s b t' o3' o4' o5' o6' o7' o8' o9' o10' o11' o12' o13' o14' o15'), st') ∧ Bag b g st' := by
  obtain ⟨R1, R2, R3, R4, R5, cA, cB, cC, cD, cE, hR⟩ := fb5_cat
  obtain ⟨k, s1, e1, hk, B1⟩ := fbA_ok (s := s) (t := t) (o3 := o3) (o4 := o4) (o5 := o5) (o6 := o6) (o7 := o7) (o8 := o8) (o9 := o9) (o10 := o10) (o11 := o11) (o12 := o12) (o13 := o13) (o14 := o14) (o15 := o15) hB
  obtain ⟨t2, o52, s2, e2, B2⟩ := fbB_ok (s := s) (t := t) (o4 := some (.tup ((lot k).map .int))) (o5 := o5) (o6 := o6) (o7 := o7) (o8 := o8) (o9 := o9) (o10 := o10) (o11 := o11) (o12 := o12) (o13 := o13) (o14 := o14) (o15 := o15) B1 hk
  obtain ⟨t3, o63, whole, o83, o93, o103, s3, e3, B3, w1, w2, w3, w4⟩ := fbC_ok (s := s) (t := t2) (o5 := o52) (o6 := o6) (o7 := o7) (o8 := o8) (o9 := o9) (o10 := o10) (o11 := o11) (o12 := o12) (o13 := o13) (o14 := o14) (o15 := o15) B2 hk
  obtain ⟨c, o124, s4, e4, B4, hc, hcl⟩ := fbD_ok (s := s) (t := t3) (o3 := some (enc k)) (o4 := some (.tup ((lot k).map .int))) (o5 := o52) (o6 := o63) (o8 := o83) (o9 := o93) (o10 := o103) (o11 := o11) (o12 := o12) (o13 := o13) (o14 := o14) (o15 := o15) B3 w2 w3 w4
  obtain ⟨o85, o135, s5, e5, B5⟩ := fbE_ok (s := s) (t := t3) (o4 := some (.tup ((lot k).map .int))) (o5 := o52) (o6 := o63) (o7 := some (enc whole)) (o8 := o83) (o9 := o93) (o10 := o103) (o12 := o124) (o13 := o13) (o14 := o14) (o15 := o15) B4 hk hc hcl
  have hsz : sz k ≤ 121 := by have := hk.sz; simpa [gsz] using this
  obtain ⟨o146, o156, s6, e6, B6⟩ := fb4_loop (s := s) (t := t3) (o4 := some (.tup ((lot k).map .int))) (o5 := o52) (o6 := o63) (o7 := some (enc whole)) (o8 := o85) (o9 := o93) (o10 := o103) (o11 := some (enc c)) (o12 := o124) (o13 := o135) (o14 := o14) (o15 := o15) (k := k) B5 (by omega)
  have e7 := cA _ _ _ _ e1
  rw [cB _ _ _ _ e2, cC _ _ _ _ e3, cD _ _ _ _ e4, cE _ _ _ _ e5, hR, e6] at e7
  exact ⟨_, _, _, _, _, _, _, _, _, _, _, _, _, _, s6, e7, B6⟩
theorem law_true (ns : List Int) (h : ns.length ≤ 63) : ∃ st, F_law [.fl (ns.map .int)] [] = some (.bl true, st) := by
  obtain ⟨b, g, s1, e1, B1, _⟩ := bag_ok ns h []
  obtain ⟨sc, hsc⟩ : ∃ x : W, .fl (ns.map .int) = x := ⟨_, rfl⟩
  rw [hsc] at e1 ⊢
  obtain ⟨fl, env', st', r1, r2⟩ := for_go (src := srcRng 0 3) (p := .nm 2) (b := fb5_law) ((List.range 3).map fun (i : Nat) => W.int (i : Int))
    (fun j env s' => Bag b g s' ∧ ∃ t o3 o4 o5 o6 o7 o8 o9 o10 o11 o12 o13 o14 o15, env = LE sc b t o3 o4 o5 o6 o7 o8 o9 o10 o11 o12 o13 o14 o15) (fun _ _ => False)
    (fun j env s' I _ => by
      rw [range_get]
      unfold srcRng
      by_cases h : j < 3
      · rw [if_pos h, if_pos h]; simp
      · rw [if_neg h, if_neg h])
    (fun j env s' x ⟨B', t, o3, o4, o5, o6, o7, o8, o9, o10, o11, o12, o13, o14, o15, hE⟩ hx => by
      subst hE
      obtain ⟨t', o3', o4', o5', o6', o7', o8', o9', o10', o11', o12', o13', o14', o15', s2, e, B2⟩ := fb5_ok (s := sc) (t := some x) (o3 := o3) (o4 := o4) (o5 := o5) (o6 := o6) (o7 := o7) (o8 := o8) (o9 := o9) (o10 := o10) (o11 := o11) (o12 := o12) (o13 := o13) (o14 := o14) (o15 := o15) B'
      exact ⟨LE sc b (some x) o3 o4 o5 o6 o7 o8 o9 o10 o11 o12 o13 o14 o15, .nx, _, s2, by simp [LE], e, .inl ⟨rfl, B2, _, _, _, _, _, _, _, _, _, _, _, _, _, _, rfl⟩⟩)
    1000000 0 (LE sc b none none none none none none none none none none none none none none) s1 ⟨B1, _, _, _, _, _, _, _, _, _, _, _, _, _, _, rfl⟩ (by simp) (by simp)
  rcases r2 with ⟨rfl, B', t, o3, o4, o5, o6, o7, o8, o9, o10, o11, o12, o13, o14, o15, rfl⟩ | ⟨_, _, r2⟩
  · obtain ⟨s2, e2, _⟩ := is_kind_ok (w := nest 40) (st := st') (vw_nest _ _) (by rw [sw_nest]; omega)
    have hn : ¬ isK (nest 40) := fun z => by
      have := (isK_iff.mp z).1
      simp [nest, hof] at this
    simp only [hn, decide_false] at e2
    simp only [LE] at r1
    exact ⟨s2, by simp [F_law, e1, sFor, iRng1M, r1, deep_ok, e2, LE]⟩
  · exact r2.elim
end K01

open PySem PySem.W PyProof.Rows in
set_option maxRecDepth 100000 in
set_option maxHeartbeats 0 in
theorem PySem.Challenge.cw_barewords_k01_whole_kinds_holds : PySem.Challenge.rw_barewords_k01_whole_kinds.Holds := by
  w_on; o_law; k_head; (case hw => w_witness2)
  k_fill
  refine K01.walk (l := PySem.Challenge.rw_barewords_k01_whole_kinds) rfl rfl K01.law_true (fun w h Y => PySem.W.kIn_of Y) ?F
  case F =>
    intro w mg fa h KX G hmg
    refine' K01.all_mk KX G hmg ?a0 ?l0 ?c0 ?k0 ?a1 ?l1 ?c1 ?k1 ?a2 ?l2 ?c2 ?k2 ?a3 ?l3 ?c3 ?k3 ?a4 ?l4 ?c4 ?k4 ?a5 ?l5 ?c5 ?k5 ?a6 ?l6 ?c6 ?k6 ?a7 ?l7 ?c7 ?k7 ?a8 ?l8 ?c8 ?k8 ?a9 ?l9 ?c9 ?k9 ?a10 ?l10 ?c10 ?k10 ?a11 ?l11 ?c11 ?k11 ?a12 ?l12 ?c12 ?k12 ?a13 ?l13 ?c13 ?k13 ?a14 ?l14 ?c14 ?k14 ?a15 ?l15 ?c15 ?k15 ?a16 ?l16 ?c16 ?k16 ?a17 ?l17 ?c17 ?k17 ?a18 ?l18 ?c18 ?k18 ?a19 ?l19 ?c19 ?k19 ?a20 ?l20 ?c20 ?k20 ?a21 ?l21 ?c21 ?k21 ?a22 ?l22 ?c22 ?k22 ?a23 ?l23 ?c23 ?k23 ?a24 ?l24 ?c24 ?k24 ?a25 ?l25 ?c25 ?k25 ?a26 ?l26 ?c26 ?k26 ?a27 ?l27 ?c27 ?k27 ?a28 ?l28 ?c28 ?k28 ?a29 ?l29 ?c29 ?k29 ?a30 ?l30 ?c30 ?k30 ?a31 ?l31 ?c31 ?k31 ?a32 ?l32 ?c32 ?k32 ?a33 ?l33 ?c33 ?k33 ?z_abs ?z_all ?z_bool ?z_dict ?z_int ?z_isinstance ?z_len ?z_list ?z_range ?z_reversed ?z_set ?z_sorted ?z_str ?z_sum ?z_tuple ?z_zip
    (case a0 => k_is)
    (case l0 => k_is)
    (case c0 => k_is)
    (case k0 => k_is)
    (case a1 => k_is)
    (case l1 => k_is)
    (case c1 => k_is)
    (case k1 => k_is)
    (case a2 => k_is)
    (case l2 => k_is)
    (case c2 => k_is)
    (case k2 => k_is)
    (case a3 => k_is)
    (case l3 => k_is)
    (case c3 => k_is)
    (case k3 => k_is)
    (case a4 => k_is)
    (case l4 => k_is)
    (case c4 => k_is)
    (case k4 => k_is)
    (case a5 => k_is)
    (case l5 => k_is)
    (case c5 => k_is)
    (case k5 => k_is)
    (case a6 => k_is)
    (case l6 => k_is)
    (case c6 => k_is)
    (case k6 => k_is)
    (case a7 => k_is)
    (case l7 => k_is)
    (case c7 => k_is)
    (case k7 => k_is)
    (case a8 => k_is)
    (case l8 => k_is)
    (case c8 => k_is)
    (case k8 => k_is)
    (case a9 => k_is)
    (case l9 => k_is)
    (case c9 => k_is)
    (case k9 => k_is)
    (case a10 => k_is)
    (case l10 => k_is)
    (case c10 => k_is)
    (case k10 => k_is)
    (case a11 => k_is)
    (case l11 => k_is)
    (case c11 => k_is)
    (case k11 => k_is)
    (case a12 => k_is)
    (case l12 => k_is)
    (case c12 => k_is)
    (case k12 => k_is)
    (case a13 => k_is)
    (case l13 => k_is)
    (case c13 => k_is)
    (case k13 => k_is)
    (case a14 => k_is)
    (case l14 => k_is)
    (case c14 => k_is)
    (case k14 => k_is)
    (case a15 => k_is)
    (case l15 => k_is)
    (case c15 => k_is)
    (case k15 => k_is)
    (case a16 => k_is)
    (case l16 => k_is)
    (case c16 => k_is)
    (case k16 => k_is)
    (case a17 => k_is)
    (case l17 => k_is)
    (case c17 => k_is)
    (case k17 => k_is)
    (case a18 => k_is)
    (case l18 => k_is)
    (case c18 => k_is)
    (case k18 => k_is)
    (case a19 => k_is)
    (case l19 => k_is)
    (case c19 => k_is)
    (case k19 => k_is)
    (case a20 => k_is)
    (case l20 => k_is)
    (case c20 => k_is)
    (case k20 => k_is)
    (case a21 => k_is)
    (case l21 => k_is)
    (case c21 => k_is)
    (case k21 => k_is)
    (case a22 => k_is)
    (case l22 => k_is)
    (case c22 => k_is)
    (case k22 => k_is)
    (case a23 => k_is)
    (case l23 => k_is)
    (case c23 => k_is)
    (case k23 => k_is)
    (case a24 => k_is)
    (case l24 => k_is)
    (case c24 => k_is)
    (case k24 => k_is)
    (case a25 => k_is)
    (case l25 => k_is)
    (case c25 => k_is)
    (case k25 => k_is)
    (case a26 => k_is)
    (case l26 => k_is)
    (case c26 => k_is)
    (case k26 => k_is)
    (case a27 => k_is)
    (case l27 => k_is)
    (case c27 => k_is)
    (case k27 => k_is)
    (case a28 => k_is)
    (case l28 => k_is)
    (case c28 => k_is)
    (case k28 => k_is)
    (case a29 => k_is)
    (case l29 => k_is)
    (case c29 => k_is)
    (case k29 => k_is)
    (case a30 => k_is)
    (case l30 => k_is)
    (case c30 => k_is)
    (case k30 => k_is)
    (case a31 => k_is)
    (case l31 => k_is)
    (case c31 => k_is)
    (case k31 => k_is)
    (case a32 => k_is)
    (case l32 => k_is)
    (case c32 => k_is)
    (case k32 => k_is)
    (case a33 => k_is)
    (case l33 => k_is)
    (case c33 => k_is)
    (case k33 => k_is)
    (case z_abs => k_is)
    (case z_all => k_is)
    (case z_bool => k_is)
    (case z_dict => k_is)
    (case z_int => k_is)
    (case z_isinstance => k_is)
    (case z_len => k_is)
    (case z_list => k_is)
    (case z_range => k_is)
    (case z_reversed => k_is)
    (case z_set => k_is)
    (case z_sorted => k_is)
    (case z_str => k_is)
    (case z_sum => k_is)
    (case z_tuple => k_is)
    (case z_zip => k_is)

