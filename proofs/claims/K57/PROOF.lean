import PyProof.Rows.All
import Wide.All
import OpenK.AllK
import Wide.FinOn
import HandS.ForMost
import HandS.ForExc
import HandS.Flow
import HandS.Wide
import HandS.NoneIn
import HandS.Conv
import HandS.Star
import HandS.IsInst
import HandS.TupAny
import HandS.TupMul
import HandS.Deep
import HandS.Text
import HandS.CallSlots
import HandS.Walk
import HandS.Flt
import HandS.More
import HandS.Iter
import HandS.ExcOwn
import HandS.TryOnly
import HandS.ExcCtx
import HandS.SuiteRaise
import HandS.RaiseFrom
import HandS.ExcIs
import KE.GoesEnum
import KE.KDictZip
import HandS.Zip
import HandS.SetFor
import HandS.EndBits
import HandS.Words
import HandS.Style
import PySem.Challenge.RW_keptops_k57_wrong_machines
set_option Elab.async false
set_option linter.all false
set_option maxRecDepth 100000
/-! MI: a small world of values and objects in which a def's work is a plain function; each rule says that the machine does what the function says. -/
namespace MI
open PySem L2

/-- values: tuples are told by what they hold, mutable objects by their number -/
inductive MV where
  | non | bl (b : Bool) | int (i : Int) | str (s : Str) | tup (l : List MV) | ref (n : Nat) | kl (l : List MV)
/-- an exception: its class's name -/
structure Exn where
  cls : Str
/-- objects -/
inductive MO where
  | lst (l : List MV) | frz (l : List MV) | dct (l : List (Key × MV)) | exn (x : Exn) | own (c : Str) (l : List (Str × MV))
abbrev Mem := List MO
abbrev Env := List (Option MV)
inductive Re (α : Type) where
  | ok (a : α) (m : Mem) | ex (x : Exn) (m : Mem) | stuck
/-- how a statement ends -/
inductive Fl where
  | nx (ρ : Env) | rt (d : MV) | bk (ρ : Env) | ct (ρ : Env) | ex (x : Exn) (ρ : Env)
abbrev ME := Env → Mem → Re MV
abbrev MT := Env → Mem → Re Bool
abbrev MA := Env → Mem → Re (List MV)
abbrev MS := Env → Mem → Re Fl
abbrev MF := List MV → Mem → Re MV

def Re.bind {α γ : Type} : Re α → (α → Mem → Re γ) → Re γ
  | .ok a m, f => f a m
  | .ex x m, _ => .ex x m
  | .stuck, _ => .stuck

/-! ### how the two worlds lie to one another -/
/-- a list that nobody writes: the script, or one of the module -/
def KL (K : PySem.W.Frag) (β : List Addr) (H : Hp) (a : Addr) (vs : List V) : Prop :=
  (a ∉ β ∧ ∃ ob, H a = some (.frz ob (.lst vs))) ∨ ∃ (o : Obj) (its : Array Value) (n : Nat), K.lookup a = some o ∧ o.cls = .type "list" ∧ o.dict = none ∧ o.data = .seq its n ∧ its.size ≤ sizeLine ∧ Vals vs its.toList
mutual
inductive RV (K : PySem.W.Frag) (β : List Addr) (H : Hp) : MV → V → Prop
  | non : RV K β H .non .non
  | bl (b : Bool) : RV K β H (.bl b) (.bl b)
  | int (i : Int) : RV K β H (.int i) (.int i)
  | str (x : Str) : RV K β H (.str x) (.str x)
  | tup {a : Addr} {ds : List MV} {vs : List V} : SqT K H a vs → RVs K β H ds vs → RV K β H (.tup ds) (.ref a)
  | ref {n : Nat} {a : Addr} : β[n]? = some a → RV K β H (.ref n) (.ref a)
  | kl {a : Addr} {ds : List MV} {vs : List V} : KL K β H a vs → RVs K β H ds vs → RV K β H (.kl ds) (.ref a)
inductive RVs (K : PySem.W.Frag) (β : List Addr) (H : Hp) : List MV → List V → Prop
  | nil : RVs K β H [] []
  | cons {d : MV} {v : V} {ds : List MV} {vs : List V} : RV K β H d v → RVs K β H ds vs → RVs K β H (d :: ds) (v :: vs)
end
/-- pairs of a dict -/
inductive RKs (K : PySem.W.Frag) (β : List Addr) (H : Hp) : List (Key × MV) → List (Key × V) → Prop
  | nil : RKs K β H [] []
  | cons {k : Key} {d : MV} {v : V} {ds : List (Key × MV)} {vs : List (Key × V)} : RV K β H d v → RKs K β H ds vs → RKs K β H ((k, d) :: ds) ((k, v) :: vs)
/-- values of an object -/
inductive RFs (K : PySem.W.Frag) (β : List Addr) (H : Hp) : List (Str × MV) → List (Str × V) → Prop
  | nil : RFs K β H [] []
  | cons {k : Str} {d : MV} {v : V} {ds : List (Str × MV)} {vs : List (Str × V)} : RV K β H d v → RFs K β H ds vs → RFs K β H ((k, d) :: ds) ((k, v) :: vs)
/-- the class of that name -/
def ClsN (K : PySem.W.Frag) (x : Str) (C : Addr) : Prop := PySem.W.nsIn K mainGlobals x = some (some (.ref C))
/-- an exception object that is kept -/
def ExH (cls : Value) (a : Addr) : HO := .ext fun h => ∃ (oe : Obj) (vs : Array Value), h.get? a = some oe ∧ oe.cls = cls ∧ oe.dict = none ∧ oe.data = .fields vs
def RO (K : PySem.W.Frag) (β : List Addr) (H : Hp) (o : MO) (a : Addr) : Prop :=
  match o with
  | .lst l => ∃ vs, H a = some (.lst vs) ∧ RVs K β H l vs
  | .frz l => ∃ vs ob, H a = some (.frz ob (.lst vs)) ∧ RVs K β H l vs
  | .dct l => ∃ vs, H a = some (.dK vs) ∧ RKs K β H l vs
  | .exn x => ∃ C, ClsN K x.cls C ∧ H a = some (ExH (.ref C) a)
  | .own c l => ∃ C dx vs, ClsN K c C ∧ H a = some (.ins C dx vs) ∧ RFs K β H l vs
structure RM (K : PySem.W.Frag) (β : List Addr) (H : Hp) (m : Mem) : Prop where
  len : β.length = m.length
  nd : β.Nodup
  ob : ∀ (n : Nat) (o : MO) (a : Addr), m[n]? = some o → β[n]? = some a → RO K β H o a
structure RE (K : PySem.W.Frag) (β : List Addr) (H : Hp) (ρ : Env) (σ : L2.St) : Prop where
  len : ρ.length = σ.length
  at_ : ∀ (i : Nat) (d : MV), ρ[i]? = some (some d) → ∃ v, σ[i]? = some (some v) ∧ RV K β H d v
structure Ext (β : List Addr) (H : Hp) (β' : List Addr) (H' : Hp) : Prop where
  pre : ∃ r, β' = β ++ r
  old : ∀ a o, H a = some o → a ∉ β → H' a = some o
  new : ∀ a, a ∈ β' → a ∈ β ∨ H a = none

section
variable {K : PySem.W.Frag} {β β' β'' : List Addr} {H H' H'' : Hp} {m m' : Mem}
theorem Ext.refl : Ext β H β H := ⟨⟨[], by simp⟩, fun _ _ h _ => h, fun _ h => .inl h⟩
theorem Ext.get (e : Ext β H β' H') {n : Nat} {a : Addr} (h : β[n]? = some a) : β'[n]? = some a := by
  obtain ⟨r, rfl⟩ := e.pre
  have hl : n < β.length := (List.getElem?_eq_some_iff.mp h).1
  rw [List.getElem?_append_left hl]; exact h
theorem Ext.mem (e : Ext β H β' H') {a : Addr} (h : a ∈ β) : a ∈ β' := by
  obtain ⟨r, rfl⟩ := e.pre
  exact List.mem_append_left _ h
theorem Ext.trans (e : Ext β H β' H') (f : Ext β' H' β'' H'') : Ext β H β'' H'' := by
  refine ⟨?_, fun a o h n => ?_, fun a h => ?_⟩
  · obtain ⟨r, rfl⟩ := e.pre
    obtain ⟨q, rfl⟩ := f.pre
    exact ⟨r ++ q, by simp⟩
  · refine f.old a o (e.old a o h n) fun z => ?_
    rcases e.new a z with z | z
    · exact n z
    · rw [h] at z; cases z
  · rcases f.new a h with z | z
    · exact e.new a z
    · by_cases q : a ∈ β
      · exact .inl q
      · refine .inr ?_
        cases w : H a with
        | none => rfl
        | some o => rw [e.old a o w q] at z; cases z
theorem RM.at_ (R : RM K β H m) {a : Addr} (h : a ∈ β) : ∃ (n : Nat) (o : MO), m[n]? = some o ∧ β[n]? = some a ∧ RO K β H o a := by
  obtain ⟨n, hn⟩ := List.mem_iff_getElem?.mp h
  have hl : n < m.length := by rw [← R.len]; exact (List.getElem?_eq_some_iff.mp hn).1
  exact ⟨n, m[n], by simp [hl], hn, R.ob n _ a (by simp [hl]) hn⟩
theorem RM.notup (R : RM K β H m) {a : Addr} {xs : List V} (h : Rd H a (.tup xs)) : a ∉ β := fun z => by
  obtain ⟨n, o, _, _, r⟩ := R.at_ z
  rcases h with h | ⟨ob, h⟩
  · cases o with
    | lst l => obtain ⟨vs, e, _⟩ := r; rw [h] at e; cases e
    | frz l => obtain ⟨vs, ob, e, _⟩ := r; rw [h] at e; cases e
    | dct l => obtain ⟨vs, e, _⟩ := r; rw [h] at e; cases e
    | exn x => obtain ⟨C, _, e⟩ := r; rw [h] at e; unfold ExH at e; cases e
    | own c l => obtain ⟨C, dx, vs, _, e, _⟩ := r; rw [h] at e; cases e
  · cases o with
    | lst l => obtain ⟨vs, e, _⟩ := r; rw [h] at e; cases e
    | frz l => obtain ⟨vs, ob, e, _⟩ := r; rw [h] at e; cases e
    | dct l => obtain ⟨vs, e, _⟩ := r; rw [h] at e; cases e
    | exn x => obtain ⟨C, _, e⟩ := r; rw [h] at e; unfold ExH at e; cases e
    | own c l => obtain ⟨C, dx, vs, _, e, _⟩ := r; rw [h] at e; cases e
theorem RM.sqt (R : RM K β H m) (e : Ext β H β' H') {a : Addr} {xs : List V} (h : SqT K H a xs) : SqT K H' a xs := by
  rcases h with h | h
  · have n := R.notup h
    rcases h with h | ⟨o, h⟩
    · exact .inl (.inl (e.old _ _ h n))
    · exact .inl (.inr ⟨o, e.old _ _ h n⟩)
  · exact .inr h
theorem KL.ext (e : Ext β H β' H') {a : Addr} {vs : List V} (h : KL K β H a vs) : KL K β' H' a vs := by
  rcases h with ⟨n, ob, h⟩ | h
  · refine .inl ⟨fun z => ?_, ob, e.old _ _ h n⟩
    rcases e.new a z with z | z
    · exact n z
    · rw [h] at z; cases z
  · exact .inr h
mutual
theorem RV.ext (R : RM K β H m) (e : Ext β H β' H') : ∀ {d : MV} {v : V}, RV K β H d v → RV K β' H' d v
  | _, _, .non => .non
  | _, _, .bl b => .bl b
  | _, _, .int i => .int i
  | _, _, .str x => .str x
  | _, _, .tup h r => .tup (R.sqt e h) (RVs.ext R e r)
  | _, _, .ref h => .ref (e.get h)
  | _, _, .kl h r => .kl (KL.ext e h) (RVs.ext R e r)
theorem RVs.ext (R : RM K β H m) (e : Ext β H β' H') : ∀ {d : List MV} {v : List V}, RVs K β H d v → RVs K β' H' d v
  | _, _, .nil => .nil
  | _, _, .cons h r => .cons (RV.ext R e h) (RVs.ext R e r)
end
theorem RKs.ext (R : RM K β H m) (e : Ext β H β' H') : ∀ {d : List (Key × MV)} {v : List (Key × V)}, RKs K β H d v → RKs K β' H' d v
  | _, _, .nil => .nil
  | _, _, .cons h r => .cons (RV.ext R e h) (RKs.ext R e r)
theorem RFs.ext (R : RM K β H m) (e : Ext β H β' H') : ∀ {d : List (Str × MV)} {v : List (Str × V)}, RFs K β H d v → RFs K β' H' d v
  | _, _, .nil => .nil
  | _, _, .cons h r => .cons (RV.ext R e h) (RFs.ext R e r)
theorem RE.ext {ρ : Env} {σ : L2.St} (R : RM K β H m) (e : Ext β H β' H') (r : RE K β H ρ σ) : RE K β' H' ρ σ :=
  ⟨r.len, fun i d h => let ⟨v, h1, h2⟩ := r.at_ i d h; ⟨v, h1, h2.ext R e⟩⟩
theorem RE.set {ρ : Env} {σ : L2.St} {i : Nat} {d : MV} {v : V} (r : RE K β H ρ σ) (h : RV K β H d v) : RE K β H (ρ.set i (some d)) (σ.set i (some v)) := by
  refine ⟨by simp [r.len], fun j e q => ?_⟩
  by_cases hj : i = j
  · subst hj
    by_cases hl : i < ρ.length
    · rw [List.getElem?_set_self hl] at q
      cases q
      exact ⟨v, List.getElem?_set_self (by rw [← r.len]; exact hl), h⟩
    · rw [List.getElem?_eq_none (by simp; omega)] at q; cases q
  · rw [List.getElem?_set_ne hj] at q
    obtain ⟨u, h1, h2⟩ := r.at_ j e q
    exact ⟨u, by rw [List.getElem?_set_ne hj]; exact h1, h2⟩
theorem RVs.length : ∀ {ds : List MV} {vs : List V}, RVs K β H ds vs → ds.length = vs.length
  | _, _, .nil => rfl
  | _, _, .cons _ r => by simp [RVs.length r]
theorem RVs.get : ∀ {ds : List MV} {vs : List V} {i : Nat} {d : MV}, RVs K β H ds vs → ds[i]? = some d → ∃ v, vs[i]? = some v ∧ RV K β H d v
  | _, _, _, _, .nil, e => by simp at e
  | _, _, 0, _, .cons h r, e => by simp at e; subst e; exact ⟨_, rfl, h⟩
  | _, _, i + 1, d, .cons h r, e => by
    obtain ⟨v, h1, h2⟩ := RVs.get (i := i) r (by simpa using e)
    exact ⟨v, by simpa using h1, h2⟩
theorem RVs.app : ∀ {ds es : List MV} {vs us : List V}, RVs K β H ds vs → RVs K β H es us → RVs K β H (ds ++ es) (vs ++ us)
  | _, _, _, _, .nil, q => q
  | _, _, _, _, .cons h r, q => .cons h (RVs.app r q)
theorem RVs.take : ∀ {ds : List MV} {vs : List V} (n : Nat), RVs K β H ds vs → RVs K β H (ds.take n) (vs.take n)
  | _, _, 0, _ => by simp; exact .nil
  | _, _, n + 1, .nil => by simp; exact .nil
  | _, _, n + 1, .cons h r => .cons h (RVs.take n r)
theorem RVs.drop : ∀ {ds : List MV} {vs : List V} (n : Nat), RVs K β H ds vs → RVs K β H (ds.drop n) (vs.drop n)
  | _, _, 0, r => r
  | _, _, n + 1, .nil => .nil
  | _, _, n + 1, .cons h r => RVs.drop n r
theorem RVs.set : ∀ {ds : List MV} {vs : List V} {d : MV} {v : V} (n : Nat), RVs K β H ds vs → RV K β H d v → RVs K β H (ds.set n d) (vs.set n v)
  | _, _, _, _, _, .nil, _ => .nil
  | _, _, _, _, 0, .cons h r, q => .cons q r
  | _, _, _, _, n + 1, .cons h r, q => .cons h (RVs.set n r q)
/-- a new object is laid -/
theorem RM.fresh (R : RM K β H m) {p : Addr} (hp : H p = none) : p ∉ β := fun z => by
  obtain ⟨n, o, _, _, r⟩ := R.at_ z
  cases o with
  | lst l => obtain ⟨vs, e, _⟩ := r; rw [hp] at e; cases e
  | frz l => obtain ⟨vs, ob, e, _⟩ := r; rw [hp] at e; cases e
  | dct l => obtain ⟨vs, e, _⟩ := r; rw [hp] at e; cases e
  | exn x => obtain ⟨C, _, e⟩ := r; rw [hp] at e; cases e
  | own c l => obtain ⟨C, dx, vs, _, e, _⟩ := r; rw [hp] at e; cases e
theorem Ext.tup {p : Addr} {o : HO} (hp : H p = none) : Ext β H β (upd H p o) :=
  ⟨⟨[], by simp⟩, fun a u h _ => by rw [upd_ne (ne_of_none h hp)]; exact h, fun _ h => .inl h⟩
theorem Ext.push {p : Addr} {o : HO} (hp : H p = none) : Ext β H (β ++ [p]) (upd H p o) :=
  ⟨⟨[p], rfl⟩, fun a u h _ => by rw [upd_ne (ne_of_none h hp)]; exact h, fun a h => by
    rcases List.mem_append.mp h with z | z
    · exact .inl z
    · simp at z; subst z; exact .inr hp⟩
theorem RO.ext (R : RM K β H m) (e : Ext β H β' H') {o : MO} {a : Addr} (ha : H' a = H a) (r : RO K β H o a) : RO K β' H' o a := by
  cases o with
  | lst l => obtain ⟨vs, h, q⟩ := r; exact ⟨vs, by rw [ha]; exact h, q.ext R e⟩
  | frz l => obtain ⟨vs, ob, h, q⟩ := r; exact ⟨vs, ob, by rw [ha]; exact h, q.ext R e⟩
  | dct l => obtain ⟨vs, h, q⟩ := r; exact ⟨vs, by rw [ha]; exact h, q.ext R e⟩
  | exn x => obtain ⟨C, h1, h2⟩ := r; exact ⟨C, h1, by rw [ha]; exact h2⟩
  | own c l => obtain ⟨C, dx, vs, h1, h2, h3⟩ := r; exact ⟨C, dx, vs, h1, by rw [ha]; exact h2, h3.ext R e⟩
/-- a thing that the small world does not number: the objects stay -/
theorem RM.tup (R : RM K β H m) {p : Addr} {o : HO} (hp : H p = none) : RM K β (upd H p o) m :=
  ⟨R.len, R.nd, fun n ob a h1 h2 => (R.ob n ob a h1 h2).ext R (Ext.tup hp) (upd_ne fun z => R.fresh hp (z ▸ List.mem_of_getElem? h2))⟩
theorem RM.push (R : RM K β H m) {p : Addr} {o : HO} {mo : MO} (hp : H p = none) (h : RO K (β ++ [p]) (upd H p o) mo p) : RM K (β ++ [p]) (upd H p o) (m ++ [mo]) := by
  refine ⟨by simp [R.len], ?_, fun n ob a h1 h2 => ?_⟩
  · have := R.fresh hp
    have nd := R.nd
    rw [List.nodup_append]
    refine ⟨nd, by simp, fun a ha b hb => ?_⟩
    simp at hb
    subst hb
    intro z
    subst z
    exact this ha
  · by_cases hn : n < m.length
    · rw [List.getElem?_append_left hn] at h1
      rw [List.getElem?_append_left (by rw [R.len]; exact hn)] at h2
      exact (R.ob n ob a h1 h2).ext R (Ext.push hp) (upd_ne fun z => R.fresh hp (z ▸ List.mem_of_getElem? h2))
    · rw [List.getElem?_append_right (by omega)] at h1
      rw [List.getElem?_append_right (by rw [R.len]; omega), R.len] at h2
      cases hk : n - m.length with
      | zero =>
        rw [hk] at h1 h2
        simp at h1 h2
        subst h1; subst h2
        exact h
      | succ k => rw [hk] at h1; simp at h1
/-- an object is written -/
theorem Ext.wr {p : Addr} {o : HO} (hp : p ∈ β) : Ext β H β (upd H p o) :=
  ⟨⟨[], by simp⟩, fun a u h n => by rw [upd_ne (show a ≠ p from fun z => n (by rw [z]; exact hp))]; exact h, fun _ h => .inl h⟩
theorem RM.wr (R : RM K β H m) {n : Nat} {p : Addr} {o : HO} {mo : MO} (hb : β[n]? = some p) (h : RO K β (upd H p o) mo p) : RM K β (upd H p o) (m.set n mo) := by
  refine ⟨by simp [R.len], R.nd, fun i ob a h1 h2 => ?_⟩
  have hp : p ∈ β := List.mem_of_getElem? hb
  by_cases hi : n = i
  · subst hi
    rw [hb] at h2; cases h2
    have hl : n < m.length := by rw [← R.len]; exact (List.getElem?_eq_some_iff.mp hb).1
    rw [List.getElem?_set_self hl] at h1
    cases h1
    exact h
  · rw [List.getElem?_set_ne hi] at h1
    refine (R.ob i ob a h1 h2).ext R (Ext.wr hp) (upd_ne fun z => hi ?_)
    subst z
    obtain ⟨l1, e1⟩ := List.getElem?_eq_some_iff.mp hb
    obtain ⟨l2, e2⟩ := List.getElem?_eq_some_iff.mp h2
    exact (List.getElem_inj R.nd).mp (e1.trans e2.symm)
end

/-! ### readings -/
/-- an exception's class and own values, as the machine has them -/
def XR (K : PySem.W.Frag) (x : Exn) (cls : Value) (d : Option Addr) : Prop := ∃ C : Addr, cls = .ref C ∧ ClsN K x.cls C ∧ d = none
section
variable (X : Cx) (W : WX)
def Post {α γ : Type} (r : Re α) (β : List Addr) (H : Hp) (σ : L2.St) (R : List Addr → Hp → α → γ → Prop) (Q : γ → Hp → Prop) : Prop :=
  match r with
  | .ok d m' => ∀ v H' β', Ext β H β' H' → RM X.K β' H' m' → R β' H' d v → Q v H'
  | .ex x m' => ∀ cls dd H' β', Ext β H β' H' → RM X.K β' H' m' → XR X.K x cls dd → W cls dd σ H'
  | .stuck => False
def tE (f : ME) : TE := fun σ H Q => ∃ ρ m β, RE X.K β H ρ σ ∧ RM X.K β H m ∧ Post X W (f ρ m) β H σ (fun β' H' d v => RV X.K β' H' d v) Q
def tT (f : MT) : TT := fun σ H Q => ∃ ρ m β, RE X.K β H ρ σ ∧ RM X.K β H m ∧ Post X W (f ρ m) β H σ (fun _ _ d v => d = v) Q
def tA (f : MA) : TA := fun σ H Q => ∃ ρ m β, RE X.K β H ρ σ ∧ RM X.K β H m ∧ Post X W (f ρ m) β H σ (fun β' H' d v => RVs X.K β' H' d v) Q
def tS (f : MS) : TS := fun D σ H => ∃ ρ m β, RE X.K β H ρ σ ∧ RM X.K β H m ∧
  match f ρ m with
  | .ok (.nx ρ') m' => ∀ σ' H' β', Ext β H β' H' → RM X.K β' H' m' → RE X.K β' H' ρ' σ' → D.nx σ' H'
  | .ok (.bk ρ') m' => ∀ σ' H' β', Ext β H β' H' → RM X.K β' H' m' → RE X.K β' H' ρ' σ' → D.bk σ' H'
  | .ok (.ct ρ') m' => ∀ σ' H' β', Ext β H β' H' → RM X.K β' H' m' → RE X.K β' H' ρ' σ' → D.ct σ' H'
  | .ok (.rt d) m' => ∀ v H' β', Ext β H β' H' → RM X.K β' H' m' → RV X.K β' H' d v → D.rt v H'
  | .ok (.ex x ρ') m' => ∀ cls dd σ' H' β', Ext β H β' H' → RM X.K β' H' m' → RE X.K β' H' ρ' σ' → XR X.K x cls dd → W cls dd σ' H'
  | .ex _ _ => False
  | .stuck => False
end
structure JE (X : Cx) (W : WX) (e : Expr) (f : ME) : Prop where
  run : PE X e (tE X W f)
structure JT (X : Cx) (W : WX) (e : Expr) (f : MT) : Prop where
  run : PT X e (tT X W f)
structure JA (X : Cx) (W : WX) (es : List Expr) (f : MA) : Prop where
  run : PA X es (tA X W f)
structure JS (X : Cx) (W : WX) (st : Stmt) (f : MS) : Prop where
  run : PS X st (tS X W f)
structure JB (X : Cx) (W : WX) (st : List Stmt) (f : MS) : Prop where
  run : PSs X st (tS X W f)
/-- a stronger reading does -/
theorem pe_imp {X : Cx} {e : Expr} {t t' : TE} (h : PE X e t) (i : ∀ σ H Q, t' σ H Q → t σ H Q) : PE X e t' := ⟨fun pins s σ H Q I q => h.run pins s σ H Q I (i σ H Q q)⟩
theorem pt_imp {X : Cx} {e : Expr} {t t' : TT} (h : PT X e t) (i : ∀ σ H Q, t' σ H Q → t σ H Q) : PT X e t' := ⟨fun pins s σ H Q I q => h.run pins s σ H Q I (i σ H Q q)⟩
theorem pa_imp {X : Cx} {e : List Expr} {t t' : TA} (h : PA X e t) (i : ∀ σ H Q, t' σ H Q → t σ H Q) : PA X e t' := ⟨fun p pins s σ H Q I q => h.run p pins s σ H Q I (i σ H Q q)⟩
theorem ps_imp {X : Cx} {e : Stmt} {t t' : TS} (h : PS X e t) (i : ∀ D σ H, t' D σ H → t D σ H) : PS X e t' := ⟨fun pins s σ H D I q => h.run pins s σ H D I (i D σ H q)⟩
theorem pss_imp {X : Cx} {e : List Stmt} {t t' : TS} (h : PSs X e t) (i : ∀ D σ H, t' D σ H → t D σ H) : PSs X e t' := ⟨fun pins s σ H D I q => h.run pins s σ H D I (i D σ H q)⟩

/-! ### composing -/
section
variable {X : Cx} {W : WX} {α γ δ ε : Type} {r : Re α} {β β1 : List Addr} {H H1 : Hp} {σ : L2.St}
theorem Post.later {R : List Addr → Hp → α → γ → Prop} {Q : γ → Hp → Prop} (p : Post X W r β H σ R Q) (e : Ext β H β1 H1) : Post X W r β1 H1 σ R Q := by
  cases r with
  | ok d m => exact fun v H' β' e' => p v H' β' (e.trans e')
  | ex x m => exact fun c d H' β' e' => p c d H' β' (e.trans e')
  | stuck => exact p
theorem Post.bind {k : α → Mem → Re δ} {R : List Addr → Hp → δ → ε → Prop} {R1 : List Addr → Hp → α → γ → Prop} {Q : ε → Hp → Prop} {Q1 : γ → Hp → Prop} (p : Post X W (r.bind k) β H σ R Q)
    (h : ∀ d m1 v H1 β1, r = .ok d m1 → Ext β H β1 H1 → RM X.K β1 H1 m1 → R1 β1 H1 d v → Post X W (k d m1) β1 H1 σ R Q → Q1 v H1) : Post X W r β H σ R1 Q1 := by
  cases r with
  | ok d m => exact fun v H' β' e M V => h d m v H' β' rfl e M V (Post.later (r := k d m) p e)
  | ex x m => exact p
  | stuck => exact p
theorem Post.ok {d : α} {m : Mem} {R : List Addr → Hp → α → γ → Prop} {Q : γ → Hp → Prop} (p : Post X W (.ok d m) β H σ R Q) {v : γ} (M : RM X.K β H m) (h : R β H d v) : Q v H := p v H β Ext.refl M h
theorem Post.not_stuck {R : List Addr → Hp → α → γ → Prop} {Q : γ → Hp → Prop} {Z : Prop} (p : Post X W (.stuck : Re α) β H σ R Q) : Z := p.elim
end

/-! ### names and constants -/
section
variable {X : Cx} {W : WX} {pos : Pos}
def mVar (i : Nat) : ME := fun ρ m => match ρ[i]? with
  | some (some d) => .ok d m
  | _ => .stuck
theorem j_var (i : Nat) {x : Str} (hN : X.N[i]? = some x := by rfl) (hv : Vis X.env.scope x := by first | exact Or.inl rfl | exact Or.inr (Or.inl rfl) | exact Or.inr (Or.inr rfl)) (hd : (x == ("__debug__" : Str)) = false := by decide)
    (hcd : (x == ("__classdict__" : Str)) = false := by decide) : JE X W (.Name x pos) (mVar i) := by
  refine ⟨pe_imp (pe_var hN hv hd hcd) fun σ H Q ⟨ρ, m, β, hE, hM, p⟩ => ?_⟩
  unfold mVar at p
  split at p
  · rename_i d e
    obtain ⟨v, h1, h2⟩ := hE.at_ i d e
    exact ⟨v, h1, p.ok hM h2⟩
  · exact p.not_stuck
def mC (d : MV) : ME := fun _ m => .ok d m
theorem j_int {i : Int} {j : Nat} : JE X W (.Constant (.int i) j pos) (mC (.int i)) := ⟨pe_imp pe_int fun _ _ _ ⟨_, _, _, _, hM, p⟩ => p.ok hM (.int i)⟩
theorem j_bl {b : Bool} {j : Nat} : JE X W (.Constant (.bool b) j pos) (mC (.bl b)) := ⟨pe_imp pe_bl fun _ _ _ ⟨_, _, _, _, hM, p⟩ => p.ok hM (.bl b)⟩
theorem j_non {j : Nat} : JE X W (.Constant .none j pos) (mC .non) := ⟨pe_imp pe_non fun _ _ _ ⟨_, _, _, _, hM, p⟩ => p.ok hM .non⟩
theorem j_str {x : Str} {j : Nat} : JE X W (.Constant (.str x) j pos) (mC (.str x)) := ⟨pe_imp pe_str fun _ _ _ ⟨_, _, _, _, hM, p⟩ => p.ok hM (.str x)⟩
/-- a constant of the module -/
structure Con (K : PySem.W.Frag) (mg : Str → Option Value) (x : Str) (d : MV) : Prop where
  ex : ∃ (u : Value) (v : V), mg x = some u ∧ RelV v u ∧ ∀ β H, RV K β H d v
theorem j_con {x : Str} {d : MV} (c : Con X.K X.mg x d) (hg : Gl X x := by rfl) (hd : (x == ("__debug__" : Str)) = false := by decide) : JE X W (.Name x pos) (mC d) := by
  obtain ⟨u, v, h1, h2, h3⟩ := c.ex
  exact ⟨pe_imp (pe_glob hg h1 h2 hd) fun _ H _ ⟨_, _, β, _, hM, p⟩ => p.ok hM (h3 β H)⟩

/-! ### operators -/
def mBin (g : MV → MV → Mem → Re MV) (fa fb : ME) : ME := fun ρ m => (fa ρ m).bind fun a m1 => (fb ρ m1).bind fun b m2 => g a b m2
/-- an operator's rule does what g says -/
def OpM (X : Cx) (r : R2) (g : MV → MV → Mem → Re MV) : Prop := ∀ (W : WX) (σ : L2.St) (d e : MV) (m : Mem) (β : List Addr) (H : Hp) (x y : V) (Q : VK), RM X.K β H m → RV X.K β H d x → RV X.K β H e y →
  Post X W (g d e m) β H σ (fun β' H' d v => RV X.K β' H' d v) Q → r x y H Q
theorem j_op {op : Operator} {r : R2} {g : MV → MV → Mem → Re MV} {a b : Expr} {fa fb : ME} (ho : OpR X (binaryOp op) r) (hm : OpM X r g) (ha : JE X W a fa) (hb : JE X W b fb) : JE X W (.BinOp a op b pos) (mBin g fa fb) :=
  ⟨pe_imp (pe_op ho ha.run hb.run) fun σ H Q ⟨ρ, m, β, hE, hM, p⟩ => ⟨ρ, m, β, hE, hM, p.bind fun d m1 x H1 β1 _ e1 M1 V1 p1 => ⟨ρ, m1, β1, hE.ext hM e1, M1, p1.bind fun d2 m2 y H2 β2 _ e2 M2 V2 p2 =>
    hm W σ d d2 m2 β2 H2 x y Q M2 (V1.ext M1 e2) V2 p2⟩⟩⟩
theorem j_cmp {op : CmpOp} {r : R2} {g : MV → MV → Mem → Re MV} {a b : Expr} {fa fb : ME} (ho : OpR X (compareOp op) r) (hm : OpM X r g) (ha : JE X W a fa) (hb : JE X W b fb) (hk : behindInMarks op b = false := by first | exact nobehind _ (by decide) (by decide) | rfl) :
    JE X W (.Compare a [op] [b] pos) (mBin g fa fb) :=
  ⟨pe_imp (pe_cmpR ho ha.run hb.run hk) fun σ H Q ⟨ρ, m, β, hE, hM, p⟩ => ⟨ρ, m, β, hE, hM, p.bind fun d m1 x H1 β1 _ e1 M1 V1 p1 => ⟨ρ, m1, β1, hE.ext hM e1, M1, p1.bind fun d2 m2 y H2 β2 _ e2 M2 V2 p2 =>
    hm W σ d d2 m2 β2 H2 x y Q M2 (V1.ext M1 e2) V2 p2⟩⟩⟩
/-- a new object -/
def alloc (o : MO) (m : Mem) : Re MV := .ok (.ref m.length) (m ++ [o])
theorem Post.alloc {β : List Addr} {H : Hp} {σ : L2.St} {o : MO} {m : Mem} {Q : VK} (M : RM X.K β H m) (p : Post X W (alloc o m) β H σ (fun β' H' d v => RV X.K β' H' d v) Q) {a : Addr} {ho : HO} (na : H a = none) (h : RO X.K (β ++ [a]) (upd H a ho) o a) : Q (.ref a) (upd H a ho) :=
  p (.ref a) _ (β ++ [a]) (Ext.push na) (M.push na h) (.ref (by rw [← M.len]; simp))
theorem Post.newtup {β : List Addr} {H : Hp} {σ : L2.St} {ds : List MV} {m : Mem} {vs : List V} {Q : VK} (M : RM X.K β H m) (p : Post X W (.ok (.tup ds) m) β H σ (fun β' H' d v => RV X.K β' H' d v) Q) {a : Addr} (na : H a = none) (h : RVs X.K β H ds vs) : Q (.ref a) (upd H a (.tup vs)) :=
  p (.ref a) _ β (Ext.tup na) (M.tup na) (.tup (SqT.of upd_same) (h.ext M (Ext.tup na)))
/-- ints alone -/
def gII (C : Int → Int → Prop) [∀ i j, Decidable (C i j)] (f : Int → Int → MV) : MV → MV → Mem → Re MV
  | .int i, .int j, m => if C i j then .ok (f i j) m else .stuck
  | _, _, _ => .stuck
theorem om_I {C : Int → Int → Prop} [∀ i j, Decidable (C i j)] {f : Int → Int → MV} {g : Int → Int → V} (h : ∀ K β H i j, RV K β H (f i j) (g i j)) : OpM X (rI C g) (gII C f) := by
  intro W σ d e m β H x y Q M rx ry p
  unfold gII at p
  split at p
  · cases rx; cases ry
    split at p
    · rename_i i j hc
      exact ⟨i, j, rfl, rfl, hc, p.ok M (h _ _ _ i j)⟩
    · exact p.not_stuck
  · exact p.not_stuck
def gI0 (f : Int → Int → MV) : MV → MV → Mem → Re MV
  | .int i, .int j, m => .ok (f i j) m
  | _, _, _ => .stuck
theorem om_I0 {f : Int → Int → MV} {g : Int → Int → V} (h : ∀ K β H i j, RV K β H (f i j) (g i j)) : OpM X (rI0 g) (gI0 f) := by
  intro W σ d e m β H x y Q M rx ry p
  unfold gI0 at p
  split at p
  · cases rx; cases ry
    exact ⟨_, _, rfl, rfl, p.ok M (h _ _ _ _ _)⟩
  · exact p.not_stuck
end
end MI
namespace MI
open PySem L2
section
variable {X : Cx} {W : WX} {pos : Pos} {K : PySem.W.Frag} {β : List Addr} {H : Hp} {m : Mem}
/-! ### what a number's list, a tuple is -/
def lstOf (m : Mem) (d : MV) : Option (List MV) := match d with
  | .ref n => match m[n]? with
    | some (.lst l) => some l
    | some (.frz l) => some l
    | _ => none
  | .kl l => some l
  | _ => none
/-- a list or a tuple -/
def seqOf (m : Mem) (d : MV) : Option (List MV) := match d with
  | .tup l => some l
  | d => lstOf m d
theorem RM.lst (R : RM K β H m) {d : MV} {v : V} {l : List MV} (r : RV K β H d v) (h : lstOf m d = some l) : ∃ a vs, v = .ref a ∧ SqL K H a vs ∧ RVs K β H l vs := by
  unfold lstOf at h
  split at h
  · rename_i n
    cases r with
    | ref hb =>
      split at h
      · rename_i l' e
        cases h
        obtain ⟨vs, q1, q2⟩ := R.ob n _ _ e hb
        exact ⟨_, vs, rfl, SqL.of q1, q2⟩
      · rename_i l' e
        cases h
        obtain ⟨vs, ob, q1, q2⟩ := R.ob n _ _ e hb
        exact ⟨_, vs, rfl, .inl (.inr ⟨ob, q1⟩), q2⟩
      · cases h
  · cases h
    cases r with
    | kl h1 h2 =>
      refine ⟨_, _, rfl, ?_, h2⟩
      rcases h1 with ⟨_, ob, h1⟩ | h1
      · exact .inl (.inr ⟨ob, h1⟩)
      · exact .inr h1
  · cases h
theorem RM.seq (R : RM K β H m) {d : MV} {v : V} {l : List MV} (r : RV K β H d v) (h : seqOf m d = some l) : ∃ a vs, v = .ref a ∧ (SqL K H a vs ∨ SqT K H a vs) ∧ RVs K β H l vs := by
  unfold seqOf at h
  split at h
  · rename_i l'
    cases h
    cases r with
    | tup h1 h2 => exact ⟨_, _, rfl, .inr h1, h2⟩
  · obtain ⟨a, vs, h1, h2, h3⟩ := R.lst r h
    exact ⟨a, vs, h1, .inl h2, h3⟩
/-- a list that may be written -/
def mutOf (m : Mem) (d : MV) : Option (Nat × List MV) := match d with
  | .ref n => match m[n]? with
    | some (.lst l) => some (n, l)
    | _ => none
  | _ => none
theorem mutOf_some {d : MV} {n : Nat} {l : List MV} (h : mutOf m d = some (n, l)) : d = .ref n ∧ m[n]? = some (.lst l) := by
  unfold mutOf at h
  split at h
  · split at h
    · rename_i e
      cases h
      exact ⟨rfl, e⟩
    · cases h
  · cases h
theorem RM.mut (R : RM K β H m) {d : MV} {v : V} {n : Nat} {l : List MV} (r : RV K β H d v) (h : mutOf m d = some (n, l)) : ∃ a vs, v = .ref a ∧ β[n]? = some a ∧ H a = some (.lst vs) ∧ RVs K β H l vs := by
  obtain ⟨rfl, e⟩ := mutOf_some h
  cases r with
  | ref hb =>
    obtain ⟨vs, q1, q2⟩ := R.ob n _ _ e hb
    exact ⟨_, vs, rfl, hb, q1, q2⟩
/-! ### + -/
def gAdd : MV → MV → Mem → Re MV
  | .int i, .int j, m => .ok (.int (i + j)) m
  | .str a, .str b, m => if a.length + b.length ≤ sizeLine then .ok (.str (a ++ b)) m else .stuck
  | .tup a, .tup b, m => if a.length + b.length ≤ sizeLine then .ok (.tup (a ++ b)) m else .stuck
  | .ref a, .ref b, m => match mutOf m (.ref a), mutOf m (.ref b) with
    | some (_, xs), some (_, ys) => if xs.length + ys.length ≤ sizeLine then alloc (.lst (xs ++ ys)) m else .stuck
    | _, _ => .stuck
  | _, _, _ => .stuck
abbrev rAddA (K : PySem.W.Frag) : R2 := fun x y H Q => (rI0 (fun i j => V.int (i + j))) x y H Q ∨ (∃ i j, x = V.str i ∧ y = V.str j ∧ i.length + j.length ≤ sizeLine ∧ Q (V.str (i ++ j)) H) ∨ rCatA K x y H Q ∨ rCat x y H Q
theorem op_addA : OpR X (binaryOp .Add) (rAddA X.K) := OpR.or op_add (OpR.or op_add_str (OpR.or op_catA op_cat))
theorem om_add : OpM X (rAddA X.K) gAdd := by
  intro W σ d e m β H x y Q M rx ry p
  unfold gAdd at p
  split at p
  · cases rx; cases ry
    exact .inl ⟨_, _, rfl, rfl, p.ok M (.int _)⟩
  · cases rx; cases ry
    split at p
    · rename_i h
      exact .inr (.inl ⟨_, _, rfl, rfl, h, p.ok M (.str _)⟩)
    · exact p.not_stuck
  · cases rx with
    | tup h1 r1 =>
      cases ry with
      | tup h2 r2 =>
        split at p
        · rename_i h
          refine .inr (.inr (.inl ⟨_, _, _, _, rfl, rfl, h1, h2, by rw [← r1.length, ← r2.length]; exact h, fun z => ?_, fun _ z => ?_, fun _ _ q hq => ?_⟩))
          · subst z
            cases r1
            exact p.ok M (.tup h2 r2)
          · subst z
            cases r2
            rw [List.append_nil] at p
            exact p.ok M (.tup h1 r1)
          · exact p.newtup M hq (r1.app r2)
        · exact p.not_stuck
  · split at p
    · rename_i n1 xs n2 ys e1 e2
      split at p
      · rename_i h
        obtain ⟨a1, vs1, rfl, hb1, q1, r1⟩ := M.mut rx e1
        obtain ⟨a2, vs2, rfl, hb2, q2, r2⟩ := M.mut ry e2
        exact .inr (.inr (.inr ⟨_, _, _, _, rfl, rfl, q1, q2, by rw [← r1.length, ← r2.length]; exact h, fun q hq => p.alloc M hq ⟨_, upd_same, (r1.app r2).ext M (Ext.push hq)⟩⟩))
      · exact p.not_stuck
    · exact p.not_stuck
  · exact p.not_stuck
/-! ### the other arithmetic -/
def gMul : MV → MV → Mem → Re MV
  | .int i, .int j, m => if (-(2 ^ 64) < i ∧ i < 2 ^ 64) ∨ (-(2 ^ 64) < j ∧ j < 2 ^ 64) then .ok (.int (i * j)) m else .stuck
  | .ref a, .int k, m => match mutOf m (.ref a) with
    | some (_, xs) => if 0 ≤ k ∧ k ≤ 1000 ∧ xs.length ≤ 1000 then alloc (.lst (List.replicate k.toNat xs).flatten) m else .stuck
    | _ => .stuck
  | .tup xs, .int k, m => if 0 < xs.length ∧ 2 ≤ k ∧ k ≤ 1000 ∧ xs.length ≤ 1000 then .ok (.tup (List.replicate k.toNat xs).flatten) m else .stuck
  | _, _, _ => .stuck
theorem RVs.rep {ds : List MV} {vs : List V} (h : RVs K β H ds vs) : ∀ k : Nat, RVs K β H (List.replicate k ds).flatten (List.replicate k vs).flatten
  | 0 => .nil
  | k + 1 => by rw [List.replicate_succ, List.replicate_succ, List.flatten_cons, List.flatten_cons]; exact h.app (RVs.rep h k)
abbrev rMulA (K : PySem.W.Frag) : R2 := fun x y H Q => (rI CMul (fun i j => V.int (i * j))) x y H Q ∨ rRep x y H Q ∨ rRepT K x y H Q
theorem op_mulA : OpR X (binaryOp .Mult) (rMulA X.K) := OpR.or op_mul (OpR.or op_rep op_repT)
theorem om_mul : OpM X (rMulA X.K) gMul := by
  intro W σ d e m β H x y Q M rx ry p
  unfold gMul at p
  split at p
  · cases rx; cases ry
    split at p
    · rename_i h
      exact .inl ⟨_, _, rfl, rfl, h, p.ok M (.int _)⟩
    · exact p.not_stuck
  · cases ry
    split at p
    · rename_i n1 xs e1
      split at p
      · rename_i h
        obtain ⟨a1, vs1, rfl, hb1, q1, r1⟩ := M.mut rx e1
        have hl := r1.length
        have hb : xs.length * (Int.toNat ‹Int›) ≤ 1000 * 1000 := Nat.mul_le_mul h.2.2 (by omega)
        exact .inr (.inl ⟨_, _, _, rfl, rfl, q1, by omega, by omega, by rw [← hl]; exact Nat.le_trans hb (by decide), fun q hq => p.alloc M hq ⟨_, upd_same, (r1.rep _).ext M (Ext.push hq)⟩⟩)
      · exact p.not_stuck
    · exact p.not_stuck
  · cases ry
    cases rx with
    | tup h1 r1 =>
      split at p
      · rename_i h
        have hl := r1.length
        exact .inr (.inr ⟨_, _, _, rfl, rfl, h1, fun z => by rw [z] at hl; simp at hl; rw [hl] at h; simp at h, h.2.1, h.2.2.1, by rw [← hl]; exact h.2.2.2, fun q hq => p.newtup M hq (r1.rep _)⟩)
      · exact p.not_stuck
  · exact p.not_stuck
theorem om_sub : OpM X (rI0 fun i j => V.int (i - j)) (gI0 fun i j => .int (i - j)) := om_I0 fun _ _ _ _ _ => .int _
theorem om_mod : OpM X (rI (fun _ j => 0 < j) fun i j => V.int (i % j)) (gII (fun _ j => 0 < j) fun i j => .int (i % j)) := om_I fun _ _ _ _ _ => .int _
instance (i j : Int) : Decidable (CDivW i j) := by unfold CDivW; exact inferInstance
theorem om_div : OpM X (rI CDivW fun i j => V.int (i / j)) (gII CDivW fun i j => .int (i / j)) := om_I fun _ _ _ _ _ => .int _
/-- a power, by its size in bits -/
def CPowW (i j : Int) : Prop := 0 ≤ j ∧ (Builtin.Int.intBits i : Int) * j ≤ 2 ^ 27
instance (i j : Int) : Decidable (CPowW i j) := by unfold CPowW; exact inferInstance
theorem op_powW : OpR X (binaryOp .Pow) (rI CPowW fun i j => V.int (i ^ j.toNat)) := by
  intro pins s σ H x y v u Q I rx ry h
  obtain ⟨i, j, rfl, rfl, ⟨h1, h2⟩, q⟩ := h
  obtain ⟨t, rfl⟩ := rx
  obtain ⟨t', rfl⟩ := ry
  exact PyProof.Rows.pow_int h1 h2 ⟨.int _, H, I.tok _, ⟨_, rfl⟩, q⟩
theorem om_pow : OpM X (rI CPowW fun i j => V.int (i ^ j.toNat)) (gII CPowW fun i j => .int (i ^ j.toNat)) := om_I fun _ _ _ _ _ => .int _
theorem om_lt : OpM X (rI0 fun i j => V.bl (decide (i < j))) (gI0 fun i j => .bl (decide (i < j))) := om_I0 fun _ _ _ _ _ => .bl _
theorem om_le : OpM X (rI0 fun i j => V.bl (decide (i ≤ j))) (gI0 fun i j => .bl (decide (i ≤ j))) := om_I0 fun _ _ _ _ _ => .bl _
theorem om_gt : OpM X (rI0 fun i j => V.bl (decide (j < i))) (gI0 fun i j => .bl (decide (j < i))) := om_I0 fun _ _ _ _ _ => .bl _
theorem om_ge : OpM X (rI0 fun i j => V.bl (decide (j ≤ i))) (gI0 fun i j => .bl (decide (j ≤ i))) := om_I0 fun _ _ _ _ _ => .bl _
/-- texts in their order -/
def gLeS : MV → MV → Mem → Re MV
  | .str a, .str b, m => .ok (.bl (!decide (b.cps.toList < a.cps.toList))) m
  | .int i, .int j, m => .ok (.bl (decide (i ≤ j))) m
  | _, _, _ => .stuck
abbrev rLeA : R2 := fun x y H Q => (rI0 (fun i j => V.bl (decide (i ≤ j)))) x y H Q ∨ (∃ i j, x = V.str i ∧ y = V.str j ∧ Q (V.bl (!decide (j.cps.toList < i.cps.toList))) H)
theorem op_leA : OpR X (compareOp .LtE) rLeA := OpR.or op_le op_le_str
theorem om_leA : OpM X rLeA gLeS := by
  intro W σ d e m β H x y Q M rx ry p
  unfold gLeS at p
  split at p
  · cases rx; cases ry
    exact .inr ⟨_, _, rfl, rfl, p.ok M (.bl _)⟩
  · cases rx; cases ry
    exact .inl ⟨_, _, rfl, rfl, p.ok M (.bl _)⟩
  · exact p.not_stuck
/-- is None -/
def gIsN : MV → MV → Mem → Re MV
  | d, .non, m => .ok (.bl (match d with | .non => true | _ => false)) m
  | _, _, _ => .stuck
def gNotN : MV → MV → Mem → Re MV
  | d, .non, m => .ok (.bl (match d with | .non => false | _ => true)) m
  | _, _, _ => .stuck
theorem om_isN : OpM X (fun x y H Q => y = V.non ∧ Q (V.bl (decide (x = V.non))) H) gIsN := by
  intro W σ d e m β H x y Q M rx ry p
  unfold gIsN at p
  split at p
  · cases ry
    refine ⟨rfl, p.ok M ?_⟩
    cases rx <;> exact .bl _
  · exact p.not_stuck
theorem om_notN : OpM X (fun x y H Q => y = V.non ∧ Q (V.bl (!decide (x = V.non))) H) gNotN := by
  intro W σ d e m β H x y Q M rx ry p
  unfold gNotN at p
  split at p
  · cases ry
    refine ⟨rfl, p.ok M ?_⟩
    cases rx <;> exact .bl _
  · exact p.not_stuck

/-! ### data, == -/

mutual
def dat (m : Mem) : Nat → MV → Option PyData
  | _, .non => some .none
  | _, .bl b => some (.bool b)
  | _, .int i => some (.int i)
  | _, .str s => some (.str s)
  | _, .kl _ => none
  | 0, _ => none
  | n + 1, .tup l => (dats m n l).map .tuple
  | n + 1, .ref r => match lstOf m (.ref r) with
    | some l => (dats m n l).map .list
    | none => none
def dats (m : Mem) : Nat → List MV → Option (List PyData)
  | _, [] => some []
  | 0, _ :: _ => none
  | n + 1, d :: ds => match dat m n d, dats m n ds with
    | some a, some b => some (a :: b)
    | _, _ => none
end
mutual
theorem RM.dat1 (R : RM K β H m) : ∀ {n : Nat} {d : MV} {v : V} {e : PyData}, RV K β H d v → dat m n d = some e → Dp K H v e
  | _, .non, _, _, .non, h => by unfold MI.dat at h; cases h; exact .non
  | _, .bl b, _, _, .bl _, h => by unfold MI.dat at h; cases h; exact .bl b
  | _, .int i, _, _, .int _, h => by unfold MI.dat at h; cases h; exact .int i
  | _, .str s, _, _, .str _, h => by unfold MI.dat at h; cases h; exact .str s
  | 0, .tup l, _, _, _, h => by unfold MI.dat at h; cases h
  | 0, .ref l, _, _, _, h => by unfold MI.dat at h; cases h
  | _, .kl l, _, _, _, h => by unfold MI.dat at h; cases h
  | n + 1, .tup l, _, _, .tup h1 h2, h => by
    unfold MI.dat at h
    cases e : dats m n l with
    | none => rw [e] at h; cases h
    | some es => rw [e] at h; cases h; exact .tup h1 (RM.dats1 R h2 e)
  | n + 1, .ref r, v, _, hr, h => by
    unfold MI.dat at h
    split at h
    · rename_i l e
      obtain ⟨a, vs, rfl, h1, h2⟩ := R.lst hr e
      cases e : dats m n l with
      | none => rw [e] at h; cases h
      | some es => rw [e] at h; cases h; exact .lst h1 (RM.dats1 R h2 e)
    · cases h
theorem RM.dats1 (R : RM K β H m) : ∀ {n : Nat} {d : List MV} {v : List V} {e : List PyData}, RVs K β H d v → dats m n d = some e → DpAll K H v e
  | _, [], _, _, .nil, h => by unfold MI.dats at h; cases h; exact .nil
  | 0, _ :: _, _, _, _, h => by unfold MI.dats at h; cases h
  | n + 1, d :: ds, _, _, .cons h1 h2, h => by
    unfold MI.dats at h
    split at h
    · rename_i a b e1 e2
      cases h
      exact .cons (RM.dat1 R h1 e1) (RM.dats1 R h2 e2)
    · cases h
end
def fuel : Nat := 2000
def gEq (neg : Bool) (d e : MV) (m : Mem) : Re MV := match dat m fuel d, dat m fuel e with
  | some a, some b => if SeqAt.shaped a = true ∧ SeqAt.shaped b = true then .ok (.bl (if neg then !a.eqv b else a.eqv b)) m else .stuck
  | _, _ => .stuck
theorem om_eq : OpM X (rEqD X.K) (gEq false) := by
  intro W σ d e m β H x y Q M rx ry p
  unfold gEq at p
  split at p
  · rename_i a b e1 e2
    split at p
    · rename_i h
      exact ⟨a, b, M.dat1 rx e1, M.dat1 ry e2, h.1, h.2, p.ok M (.bl _)⟩
    · exact p.not_stuck
  · exact p.not_stuck
theorem om_ne : OpM X (rNeD X.K) (gEq true) := by
  intro W σ d e m β H x y Q M rx ry p
  unfold gEq at p
  split at p
  · rename_i a b e1 e2
    split at p
    · rename_i h
      exact ⟨a, b, M.dat1 rx e1, M.dat1 ry e2, h.1, h.2, p.ok M (.bl _)⟩
    · exact p.not_stuck
  · exact p.not_stuck
end
end MI
namespace MI
open PySem L2
section
variable {X : Cx} {W : WX} {pos : Pos} {K : PySem.W.Frag} {β : List Addr} {H : Hp} {m : Mem}
/-! ### truth -/
def truO : Option MO → Option Bool
  | some (.lst l) => some (!l.isEmpty)
  | some (.frz l) => some (!l.isEmpty)
  | some (.dct l) => some (!l.isEmpty)
  | _ => none
def tru (m : Mem) : MV → Option Bool
  | .non => some false
  | .bl b => some b
  | .int i => some (i != 0)
  | .str y => if y.length ≤ sizeLine then some ((y.length : Int) != 0) else none
  | .tup l => some (!l.isEmpty)
  | .ref n => truO m[n]?
  | .kl _ => none
theorem RVs.isEmpty {ds : List MV} {vs : List V} (h : RVs K β H ds vs) : ds.isEmpty = vs.isEmpty := by
  cases h <;> rfl
theorem RKs.isEmpty {ds : List (Key × MV)} {vs : List (Key × V)} (h : RKs K β H ds vs) : ds.isEmpty = vs.isEmpty := by
  cases h <;> rfl
theorem RM.tru (R : RM K β H m) {d : MV} {v : V} {b : Bool} (r : RV K β H d v) (h : tru m d = some b) : TruV K v H b := by
  cases r with
  | non => cases h; rfl
  | bl k => cases h; rfl
  | int i => cases h; rfl
  | str x =>
    have h' : (if x.length ≤ sizeLine then some ((x.length : Int) != 0) else none) = some b := h
    by_cases q : x.length ≤ sizeLine
    · rw [if_pos q] at h'; cases h'; exact ⟨q, rfl⟩
    · rw [if_neg q] at h'; cases h'
  | tup h1 h2 => cases h; exact .inr (.inl ⟨_, h1, by rw [h2.isEmpty]⟩)
  | @ref n a hb =>
    have h' : truO m[n]? = some b := h
    cases e : m[n]? with
    | none => rw [e] at h'; cases h'
    | some o =>
      rw [e] at h'
      have q := R.ob n o a e hb
      cases o with
      | lst l => cases h'; obtain ⟨vs, q1, q2⟩ := q; exact .inl ⟨_, SqL.of q1, by rw [q2.isEmpty]⟩
      | frz l => cases h'; obtain ⟨vs, ob, q1, q2⟩ := q; exact .inl ⟨_, .inl (.inr ⟨ob, q1⟩), by rw [q2.isEmpty]⟩
      | dct l => cases h'; obtain ⟨vs, q1, q2⟩ := q; exact .inr (.inr ⟨_, q1, by rw [q2.isEmpty]⟩)
      | exn x => cases h'
      | own c l => cases h'
  | kl h1 h2 => cases h
def mTru (f : ME) : MT := fun ρ m => (f ρ m).bind fun d m1 => match tru m1 d with
  | some b => .ok b m1
  | none => .stuck
theorem jt_tru {a : Expr} {f : ME} (h : JE X W a f) (he : ∀ whole, PySem.isTrue a X.env whole = (do let v ← whole; standAt a.pos; holding [v] (truthy v)) := by intro _; rfl) : JT X W a (mTru f) :=
  ⟨pt_imp (pt_truth h.run he) fun σ H Q ⟨ρ, m, β, hE, hM, p⟩ => ⟨ρ, m, β, hE, hM, p.bind fun d m1 x H1 β1 _ e1 M1 V1 p1 => by
    split at p1
    · rename_i b e; exact ⟨b, M1.tru V1 e, p1.ok M1 rfl⟩
    · exact p1.not_stuck⟩⟩
/-- a value that is a bool, as a test -/
def mB (f : ME) : MT := fun ρ m => (f ρ m).bind fun d m1 => match d with
  | .bl b => .ok b m1
  | _ => .stuck
theorem jt_cmp {op : CmpOp} {r : R2} {g : MV → MV → Mem → Re MV} {a b : Expr} {fa fb : ME} (ho : OpR X (compareOp op) r) (hm : OpM X r g) (ha : JE X W a fa) (hb : JE X W b fb) (hk : behindInMarks op b = false := by first | exact nobehind _ (by decide) (by decide) | rfl) :
    JT X W (.Compare a [op] [b] pos) (mB (mBin g fa fb)) := by
  refine ⟨pt_imp (pt_cmpR ho ha.run hb.run hk) fun σ H Q ⟨ρ, m, β, hE, hM, p⟩ => ⟨ρ, m, β, hE, hM, ?_⟩⟩
  unfold mB mBin at p
  have p' : Post X W ((fa ρ m).bind fun a m1 => ((fb ρ m1).bind fun b m2 => g a b m2).bind fun d m1 => match d with | .bl b => .ok b m1 | _ => .stuck) β H σ (fun _ _ d v => d = v) Q := by
    cases hh : fa ρ m with
    | ok d m1 => rw [hh] at p; exact p
    | ex x m1 => rw [hh] at p; exact p
    | stuck => rw [hh] at p; exact p
  refine p'.bind fun d m1 x H1 β1 _ e1 M1 V1 p1 => ⟨ρ, m1, β1, hE.ext hM e1, M1, ?_⟩
  have p1' : Post X W ((fb ρ m1).bind fun b m2 => (g d b m2).bind fun d m1 => match d with | .bl b => .ok b m1 | _ => .stuck) β1 H1 σ (fun _ _ d v => d = v) Q := by
    cases hh : fb ρ m1 with
    | ok d m1 => rw [hh] at p1; exact p1
    | ex x m1 => rw [hh] at p1; exact p1
    | stuck => rw [hh] at p1; exact p1
  refine p1'.bind fun d2 m2 y H2 β2 _ e2 M2 V2 p2 => hm W σ d d2 m2 β2 H2 x y _ M2 (V1.ext M1 e2) V2 (p2.bind fun d3 m3 z H3 β3 _ e3 M3 V3 p3 => ?_)
  split at p3
  · cases V3; exact ⟨_, rfl, p3.ok M3 rfl⟩
  · exact p3.not_stuck
/-- an expression whose value is a bool -/
theorem jt_val {a : Expr} {f : ME} (h : JE X W a f) (he : ∀ whole, PySem.isTrue a X.env whole = (do let v ← whole; standAt a.pos; holding [v] (truthy v)) := by intro _; rfl) : JT X W a (mB f) :=
  ⟨pt_imp (pt_val h.run he) fun σ H Q ⟨ρ, m, β, hE, hM, p⟩ => ⟨ρ, m, β, hE, hM, p.bind fun d m1 x H1 β1 _ e1 M1 V1 p1 => by
    split at p1
    · cases V1; exact ⟨_, rfl, p1.ok M1 rfl⟩
    · exact p1.not_stuck⟩⟩
/-! ### not, and, or -/
structure JW (X : Cx) (W : WX) (e : Expr) (f : MT) : Prop where
  run : PW X e (tT X W f)
theorem pw_imp {X : Cx} {e : Expr} {t t' : TT} (h : PW X e t) (i : ∀ σ H Q, t' σ H Q → t σ H Q) : PW X e t' := ⟨fun wh pins s σ H Q I q => h.run wh pins s σ H Q I (i σ H Q q)⟩
def mNotT (f : MT) : MT := fun ρ m => (f ρ m).bind fun b m1 => .ok (!b) m1
def mAndT (f g : MT) : MT := fun ρ m => (f ρ m).bind fun b m1 => if b = true then g ρ m1 else .ok false m1
def mOrT (f g : MT) : MT := fun ρ m => (f ρ m).bind fun b m1 => if b = true then .ok true m1 else g ρ m1
theorem jt_not {a : Expr} {f : MT} (h : JT X W a f) : JT X W (.UnaryOp .Not a pos) (mNotT f) :=
  ⟨pt_imp (pt_not h.run) fun σ H Q ⟨ρ, m, β, hE, hM, p⟩ => ⟨ρ, m, β, hE, hM, p.bind fun d m1 x H1 β1 _ e1 M1 V1 p1 => by cases V1; exact p1.ok M1 rfl⟩⟩
theorem jw_and1 {a : Expr} {f : MT} (h : JT X W a f) : JW X W (.BoolOp .And [a] pos) f := ⟨pw_and1 h.run⟩
theorem jw_or1 {a : Expr} {f : MT} (h : JT X W a f) : JW X W (.BoolOp .Or [a] pos) f := ⟨pw_or1 h.run⟩
theorem jw_and {a b : Expr} {rest : List Expr} {f g : MT} (h : JT X W a f) (h2 : JW X W (.BoolOp .And (b :: rest) pos) g) : JW X W (.BoolOp .And (a :: b :: rest) pos) (mAndT f g) :=
  ⟨pw_imp (pw_and h.run h2.run) fun σ H Q ⟨ρ, m, β, hE, hM, p⟩ => ⟨ρ, m, β, hE, hM, p.bind fun d m1 x H1 β1 _ e1 M1 V1 p1 => by
    cases V1
    cases d with
    | true => exact ⟨ρ, m1, β1, hE.ext hM e1, M1, p1⟩
    | false => exact p1.ok M1 rfl⟩⟩
theorem jw_or {a b : Expr} {rest : List Expr} {f g : MT} (h : JT X W a f) (h2 : JW X W (.BoolOp .Or (b :: rest) pos) g) : JW X W (.BoolOp .Or (a :: b :: rest) pos) (mOrT f g) :=
  ⟨pw_imp (pw_or h.run h2.run) fun σ H Q ⟨ρ, m, β, hE, hM, p⟩ => ⟨ρ, m, β, hE, hM, p.bind fun d m1 x H1 β1 _ e1 M1 V1 p1 => by
    cases V1
    cases d with
    | false => exact ⟨ρ, m1, β1, hE.ext hM e1, M1, p1⟩
    | true => exact p1.ok M1 rfl⟩⟩
theorem JW.jt {e : Expr} {f : MT} (h : JW X W e f) : JT X W e f := ⟨h.run.pt⟩
/-- .. as values -/
def mAnd (f g : ME) : ME := fun ρ m => (f ρ m).bind fun d m1 => match tru m1 d with
  | some true => g ρ m1
  | some false => .ok d m1
  | none => .stuck
def mOr (f g : ME) : ME := fun ρ m => (f ρ m).bind fun d m1 => match tru m1 d with
  | some true => .ok d m1
  | some false => g ρ m1
  | none => .stuck
def mNot (f : ME) : ME := fun ρ m => (f ρ m).bind fun d m1 => match tru m1 d with
  | some b => .ok (.bl (!b)) m1
  | none => .stuck
theorem je_one {op : BoolOp} {a : Expr} {f : ME} (h : JE X W a f) : JE X W (.BoolOp op [a] pos) f := ⟨pe_one h.run⟩
theorem je_and {a b : Expr} {rest : List Expr} {f g : ME} (h : JE X W a f) (h2 : JE X W (.BoolOp .And (b :: rest) pos) g) : JE X W (.BoolOp .And (a :: b :: rest) pos) (mAnd f g) :=
  ⟨pe_imp (pe_andT h.run h2.run) fun σ H Q ⟨ρ, m, β, hE, hM, p⟩ => ⟨ρ, m, β, hE, hM, p.bind fun d m1 x H1 β1 _ e1 M1 V1 p1 => by
    split at p1
    · rename_i e; exact ⟨true, M1.tru V1 e, ⟨ρ, m1, β1, hE.ext hM e1, M1, p1⟩⟩
    · rename_i e; exact ⟨false, M1.tru V1 e, p1.ok M1 V1⟩
    · exact p1.not_stuck⟩⟩
theorem je_or {a b : Expr} {rest : List Expr} {f g : ME} (h : JE X W a f) (h2 : JE X W (.BoolOp .Or (b :: rest) pos) g) : JE X W (.BoolOp .Or (a :: b :: rest) pos) (mOr f g) :=
  ⟨pe_imp (pe_orT h.run h2.run) fun σ H Q ⟨ρ, m, β, hE, hM, p⟩ => ⟨ρ, m, β, hE, hM, p.bind fun d m1 x H1 β1 _ e1 M1 V1 p1 => by
    split at p1
    · rename_i e; exact ⟨true, M1.tru V1 e, p1.ok M1 V1⟩
    · rename_i e; exact ⟨false, M1.tru V1 e, ⟨ρ, m1, β1, hE.ext hM e1, M1, p1⟩⟩
    · exact p1.not_stuck⟩⟩
theorem je_not {a : Expr} {f : ME} (h : JE X W a f) : JE X W (.UnaryOp .Not a pos) (mNot f) :=
  ⟨pe_imp (pe_notT h.run) fun σ H Q ⟨ρ, m, β, hE, hM, p⟩ => ⟨ρ, m, β, hE, hM, p.bind fun d m1 x H1 β1 _ e1 M1 V1 p1 => by
    split at p1
    · rename_i b e; exact ⟨b, M1.tru V1 e, p1.ok M1 (.bl _)⟩
    · exact p1.not_stuck⟩⟩
def mIf (c : MT) (f g : ME) : ME := fun ρ m => (c ρ m).bind fun b m1 => if b = true then f ρ m1 else g ρ m1
theorem je_if {c a b : Expr} {fc : MT} {f g : ME} (hc : JT X W c fc) (ha : JE X W a f) (hb : JE X W b g) : JE X W (.IfExp c a b pos) (mIf fc f g) :=
  ⟨pe_imp (pe_ifExp hc.run ha.run hb.run) fun σ H Q ⟨ρ, m, β, hE, hM, p⟩ => ⟨ρ, m, β, hE, hM, p.bind fun d m1 x H1 β1 _ e1 M1 V1 p1 => by
    cases V1
    cases d with
    | true => exact ⟨ρ, m1, β1, hE.ext hM e1, M1, p1⟩
    | false => exact ⟨ρ, m1, β1, hE.ext hM e1, M1, p1⟩⟩⟩
/-! ### argument lists, displays -/
def mNil : MA := fun _ m => .ok [] m
def mCons (f : ME) (g : MA) : MA := fun ρ m => (f ρ m).bind fun d m1 => (g ρ m1).bind fun ds m2 => .ok (d :: ds) m2
theorem ja_nil : JA X W [] mNil := ⟨pa_imp pa_nil fun _ _ _ ⟨_, _, _, _, hM, p⟩ => p.ok hM .nil⟩
theorem ja_cons {e : Expr} {es : List Expr} {f : ME} {g : MA} (h : JE X W e f) (h2 : JA X W es g) (he : starEach (e :: es) X.env = (false, eval e X.env) :: starEach es X.env := by rfl) : JA X W (e :: es) (mCons f g) :=
  ⟨pa_imp (pa_cons h.run h2.run he) fun σ H Q ⟨ρ, m, β, hE, hM, p⟩ => ⟨ρ, m, β, hE, hM, p.bind fun d m1 x H1 β1 _ e1 M1 V1 p1 => ⟨ρ, m1, β1, hE.ext hM e1, M1, p1.bind fun d2 m2 y H2 β2 _ e2 M2 V2 p2 =>
    p2.ok M2 (.cons (V1.ext M1 e2) V2)⟩⟩⟩
/-- *e within a display or a call -/
def mStar (f : ME) (g : MA) : MA := fun ρ m => (f ρ m).bind fun d m1 => match seqOf m1 d with
  | some l => (g ρ m1).bind fun ds m2 => .ok (l ++ ds) m2
  | none => .stuck
def mTup (g : MA) : ME := fun ρ m => (g ρ m).bind fun ds m1 => if ds.length ≤ sizeLine then .ok (.tup ds) m1 else .stuck
def mLst (g : MA) : ME := fun ρ m => (g ρ m).bind fun ds m1 => if ds.length ≤ sizeLine then alloc (.lst ds) m1 else .stuck
theorem je_tup {es : List Expr} {k : Nat} {g : MA} (h : JA X W es g) : JE X W (.Tuple es k pos) (mTup g) :=
  ⟨pe_imp (pe_tup h.run) fun σ H Q ⟨ρ, m, β, hE, hM, p⟩ => ⟨ρ, m, β, hE, hM, p.bind fun d m1 x H1 β1 _ e1 M1 V1 p1 => by
    split at p1
    · rename_i q; exact ⟨by rw [← V1.length]; exact q, fun a ha => p1.newtup M1 ha V1⟩
    · exact p1.not_stuck⟩⟩
theorem je_lst {es : List Expr} {g : MA} (h : JA X W es g) : JE X W (.List es pos) (mLst g) :=
  ⟨pe_imp (pe_lst h.run) fun σ H Q ⟨ρ, m, β, hE, hM, p⟩ => ⟨ρ, m, β, hE, hM, p.bind fun d m1 x H1 β1 _ e1 M1 V1 p1 => by
    split at p1
    · rename_i q; exact ⟨by rw [← V1.length]; exact q, fun a ha => p1.alloc M1 ha ⟨_, upd_same, V1.ext M1 (Ext.push ha)⟩⟩
    · exact p1.not_stuck⟩⟩
end
end MI
namespace MI
open PySem L2
section
variable {X : Cx} {W : WX} {pos : Pos} {K : PySem.W.Frag} {β : List Addr} {H : Hp} {m : Mem}
theorem ja_star {e : Expr} {es : List Expr} {f : ME} {g : MA} {p : Pos} (h : JE X W e f) (h2 : JA X W es g) (hs : starEach (.Starred e p :: es) X.env = (true, eval e X.env) :: starEach es X.env := by rfl) : JA X W (.Starred e p :: es) (mStar f g) :=
  ⟨pa_imp (StX.pa_star h.run h2.run hs) fun σ H Q ⟨ρ, m, β, hE, hM, p⟩ => ⟨ρ, m, β, hE, hM, p.bind fun d m1 x H1 β1 _ e1 M1 V1 p1 => by
    split at p1
    · rename_i l q
      obtain ⟨a, vs, rfl, hs, hr⟩ := M1.seq V1 q
      refine ⟨a, vs, rfl, hs.symm, ⟨ρ, m1, β1, hE.ext hM e1, M1, p1.bind fun d2 m2 y H2 β2 _ e2 M2 V2 p2 => p2.ok M2 ((hr.ext M1 e2).app V2)⟩⟩
    · exact p1.not_stuck⟩⟩
/-! ### items and slices -/
def atM (l : List MV) (i : Int) : Option MV := (ixN l.length i).bind fun j => l[j]?
theorem RVs.at_ {ds : List MV} {vs : List V} {i : Int} {d : MV} (h : RVs K β H ds vs) (e : atM ds i = some d) : ∃ v, atI vs i = some v ∧ RV K β H d v := by
  unfold atM at e
  unfold atI
  rw [← h.length]
  cases q : ixN ds.length i with
  | none => rw [q] at e; cases e
  | some j =>
    rw [q] at e
    obtain ⟨v, h1, h2⟩ := h.get (show ds[j]? = some d from e)
    exact ⟨v, h1, h2⟩
/-- x[i] by values: a list, a tuple, a text -/
def gIx : MV → MV → Mem → Re MV
  | .str z, .int i, m => if z.length ≤ sizeLine then match atI z.cps.toList i with
      | some c => .ok (.str ⟨#[c]⟩) m
      | none => .stuck
    else .stuck
  | d, .int i, m => match seqOf m d with
    | some l => match atM l i with
      | some e => .ok e m
      | none => .stuck
    | none => .stuck
  | _, _, _ => .stuck
theorem om_ix : OpM X (rIx X.K) gIx := by
  intro W σ d e m β H x y Q M rx ry p
  unfold gIx at p
  split at p
  · cases rx; cases ry
    split at p
    · rename_i h
      split at p
      · rename_i c hc
        exact .inr (.inr ⟨_, _, c, rfl, rfl, h, hc, p.ok M (.str _)⟩)
      · exact p.not_stuck
    · exact p.not_stuck
  · cases ry
    split at p
    · rename_i l hl
      split at p
      · rename_i e he
        obtain ⟨a, vs, rfl, hs, hr⟩ := M.seq rx hl
        obtain ⟨v, h1, h2⟩ := hr.at_ he
        rcases hs with hs | hs
        · exact .inl ⟨a, vs, _, v, rfl, rfl, hs, h1, p.ok M h2⟩
        · exact .inr (.inl ⟨a, vs, _, v, rfl, rfl, hs, h1, p.ok M h2⟩)
      · exact p.not_stuck
    · exact p.not_stuck
  · exact p.not_stuck
theorem je_ix {a b : Expr} {fa fb : ME} (ha : JE X W a fa) (hb : JE X W b fb) (hs : PlainIx b := by intro _ _; rfl) : JE X W (.Subscript a b pos) (mBin gIx fa fb) :=
  ⟨pe_imp (pe_ix ix_seq ha.run hb.run hs) fun σ H Q ⟨ρ, m, β, hE, hM, p⟩ => ⟨ρ, m, β, hE, hM, p.bind fun d m1 x H1 β1 _ e1 M1 V1 p1 => ⟨ρ, m1, β1, hE.ext hM e1, M1, p1.bind fun d2 m2 y H2 β2 _ e2 M2 V2 p2 =>
    om_ix W σ d d2 m2 β2 H2 x y Q M2 (V1.ext M1 e2) V2 p2⟩⟩⟩
/-- d[k], d a dict with ints and texts for keys -/
def keyOf : MV → Option Key
  | .int i => some (.inl i)
  | .str x => some (.inr x)
  | _ => none
def dctOf (m : Mem) : MV → Option (Nat × List (Key × MV))
  | .ref n => match m[n]? with
    | some (.dct l) => some (n, l)
    | _ => none
  | _ => none

def valM (l : List (Key × MV)) (k : Key) : Option MV := Option.map (fun x => x.snd) (List.find? (fun kv => decide (kv.fst = k)) l)
def putM (l : List (Key × MV)) (k : Key) (d : MV) : List (Key × MV) :=
  if (l.any fun kv => decide (kv.fst = k)) = true then List.map (fun kv => if kv.fst = k then (kv.fst, d) else kv) l else l ++ [(k, d)]
theorem dctOf_some {d : MV} {n : Nat} {l : List (Key × MV)} (h : dctOf m d = some (n, l)) : d = .ref n ∧ m[n]? = some (.dct l) := by
  unfold dctOf at h
  split at h
  · split at h
    · rename_i e
      cases h
      exact ⟨rfl, e⟩
    · cases h
  · cases h
theorem RM.dct (R : RM K β H m) {d : MV} {v : V} {n : Nat} {l : List (Key × MV)} (r : RV K β H d v) (h : dctOf m d = some (n, l)) : ∃ a vs, v = .ref a ∧ β[n]? = some a ∧ H a = some (.dK vs) ∧ RKs K β H l vs := by
  obtain ⟨rfl, e⟩ := dctOf_some h
  cases r with
  | ref hb =>
    obtain ⟨vs, q1, q2⟩ := R.ob n _ _ e hb
    exact ⟨_, vs, rfl, hb, q1, q2⟩
theorem keyOf_some {d : MV} {v : V} {k : Key} (r : RV K β H d v) (h : keyOf d = some k) : v = kV k := by
  cases r <;> cases h <;> rfl
theorem RKs.val : ∀ {l : List (Key × MV)} {vs : List (Key × V)} {k : Key}, RKs K β H l vs → (∀ d, valM l k = some d → ∃ v, valV vs k = some v ∧ RV K β H d v) ∧ (valM l k = none → valV vs k = none)
  | _, _, k, .nil => ⟨fun d h => (by cases h), fun _ => rfl⟩
  | _, _, k, .cons (k := q) (ds := ds) (vs := vs) h r => by
    obtain ⟨i1, i2⟩ := RKs.val (k := k) r
    unfold valM valV at *
    rw [List.find?_cons, List.find?_cons]
    by_cases e : q = k
    · simp only [e, decide_true]
      exact ⟨fun d z => (by cases z; exact ⟨_, rfl, h⟩), fun z => (by cases z)⟩
    · simp only [e, decide_false]
      exact ⟨i1, i2⟩
theorem RKs.length : ∀ {l : List (Key × MV)} {vs : List (Key × V)}, RKs K β H l vs → l.length = vs.length
  | _, _, .nil => rfl
  | _, _, .cons _ r => by simp [RKs.length r]
theorem RKs.any : ∀ {l : List (Key × MV)} {vs : List (Key × V)} {k : Key}, RKs K β H l vs → (l.any fun kv => decide (kv.fst = k)) = (vs.any fun kv => decide (kv.fst = k))
  | _, _, _, .nil => rfl
  | _, _, k, .cons _ r => by simp only [List.any_cons, RKs.any (k := k) r]
theorem RKs.map : ∀ {l : List (Key × MV)} {vs : List (Key × V)} {k : Key} {d : MV} {v : V}, RKs K β H l vs → RV K β H d v →
    RKs K β H (l.map fun kv => if kv.fst = k then (kv.fst, d) else kv) (vs.map fun kv => if kv.fst = k then (kv.fst, v) else kv)
  | _, _, _, _, _, .nil, _ => .nil
  | _, _, k, _, _, .cons (k := q) h r, z => by
    simp only [List.map_cons]
    by_cases e : q = k
    · simp only [e, if_true]; exact .cons z (RKs.map r z)
    · simp only [e, if_false]; exact .cons h (RKs.map r z)
theorem RKs.app : ∀ {l l2 : List (Key × MV)} {vs v2 : List (Key × V)}, RKs K β H l vs → RKs K β H l2 v2 → RKs K β H (l ++ l2) (vs ++ v2)
  | _, _, _, _, .nil, q => q
  | _, _, _, _, .cons h r, q => .cons h (RKs.app r q)
theorem RKs.put {l : List (Key × MV)} {vs : List (Key × V)} {k : Key} {d : MV} {v : V} (r : RKs K β H l vs) (h : RV K β H d v) : RKs K β H (putM l k d) (putK vs k v) := by
  unfold putM putK
  rw [r.any (k := k)]
  split
  · exact r.map h
  · exact r.app (.cons h .nil)
/-- d[k] -/
def gDGet (d k : MV) (m : Mem) : Re MV := match dctOf m d, keyOf k with
  | some (_, l), some q => match valM l q with
    | some e => .ok e m
    | none => .stuck
  | _, _ => .stuck
theorem je_dget {a b : Expr} {fa fb : ME} (hu : X.A.units + 1 < cLine) (ha : JE X W a fa) (hb : JE X W b fb) (hs : NoSl b := by intro _ _; rfl) : JE X W (.Subscript a b pos) (mBin gDGet fa fb) :=
  ⟨pe_imp (pe_dget hu ha.run hb.run hs) fun σ H Q ⟨ρ, m, β, hE, hM, p⟩ => ⟨ρ, m, β, hE, hM, p.bind fun d m1 x H1 β1 _ e1 M1 V1 p1 => ⟨ρ, m1, β1, hE.ext hM e1, M1, p1.bind fun d2 m2 y H2 β2 _ e2 M2 V2 p2 => by
    unfold gDGet at p2
    split at p2
    · rename_i n l q h1 h2
      split at p2
      · rename_i e he
        obtain ⟨a, vs, rfl, hb, hH, hr⟩ := M2.dct (V1.ext M1 e2) h1
        have hy := keyOf_some V2 h2
        subst hy
        obtain ⟨v, z1, z2⟩ := hr.val.1 e he
        exact ⟨a, v, rfl, .inl ⟨vs, q, .inl hH, rfl, z1.symm⟩, p2.ok M2 z2⟩
      · exact p2.not_stuck
    · exact p2.not_stuck⟩⟩⟩
/-- k in d, k not in d -/
def gDIn (neg : Bool) (k d : MV) (m : Mem) : Re MV := match dctOf m d, keyOf k with
  | some (_, l), some q => .ok (.bl (if neg then !(valM l q).isSome else (valM l q).isSome)) m
  | _, _ => .stuck
theorem RKs.isSome {l : List (Key × MV)} {vs : List (Key × V)} {k : Key} (r : RKs K β H l vs) : (valV vs k).isSome = (valM l k).isSome := by
  obtain ⟨h1, h2⟩ := r.val (k := k)
  cases e : valM l k with
  | none => rw [h2 e] <;> rfl
  | some d => obtain ⟨v, z, _⟩ := h1 d e; rw [z] <;> rfl
theorem je_din {a b : Expr} {fa fb : ME} (hu : X.A.units + 1 < cLine) (ha : JE X W a fa) (hb : JE X W b fb) (hk : behindInMarks .In b = false := by rfl) : JE X W (.Compare a [.In] [b] pos) (mBin (gDIn false) fa fb) :=
  ⟨pe_imp (pe_cmp (pc_din hu ha.run hb.run) hk) fun σ H Q ⟨ρ, m, β, hE, hM, p⟩ => ⟨ρ, m, β, hE, hM, p.bind fun d m1 x H1 β1 _ e1 M1 V1 p1 => ⟨ρ, m1, β1, hE.ext hM e1, M1, p1.bind fun d2 m2 y H2 β2 _ e2 M2 V2 p2 => by
    unfold gDIn at p2
    split at p2
    · rename_i n l q h1 h2
      obtain ⟨a, vs, rfl, hb, hH, hr⟩ := M2.dct V2 h1
      have hy := keyOf_some (V1.ext M1 e2) h2
      subst hy
      exact ⟨a, valV vs q, rfl, .inl ⟨vs, q, .inl hH, rfl, rfl⟩, p2.ok M2 (by rw [hr.isSome]; exact .bl _)⟩
    · exact p2.not_stuck⟩⟩⟩
theorem je_dnotin {a b : Expr} {fa fb : ME} (hu : X.A.units + 1 < cLine) (ha : JE X W a fa) (hb : JE X W b fb) (hk : behindInMarks .NotIn b = false := by rfl) : JE X W (.Compare a [.NotIn] [b] pos) (mBin (gDIn true) fa fb) :=
  ⟨pe_imp (pe_cmp (pc_dnotin hu ha.run hb.run) hk) fun σ H Q ⟨ρ, m, β, hE, hM, p⟩ => ⟨ρ, m, β, hE, hM, p.bind fun d m1 x H1 β1 _ e1 M1 V1 p1 => ⟨ρ, m1, β1, hE.ext hM e1, M1, p1.bind fun d2 m2 y H2 β2 _ e2 M2 V2 p2 => by
    unfold gDIn at p2
    split at p2
    · rename_i n l q h1 h2
      obtain ⟨a, vs, rfl, hb, hH, hr⟩ := M2.dct V2 h1
      have hy := keyOf_some (V1.ext M1 e2) h2
      subst hy
      exact ⟨a, valV vs q, rfl, .inl ⟨vs, q, .inl hH, rfl, rfl⟩, p2.ok M2 (by rw [hr.isSome]; exact .bl _)⟩
    · exact p2.not_stuck⟩⟩⟩
def mDNew : ME := fun _ m => alloc (.dct []) m
theorem je_dnew : JE X W (.Dict [] [] pos) mDNew :=
  ⟨pe_imp pe_dnewK fun σ H Q ⟨ρ, m, β, hE, hM, p⟩ => fun a ha => p.alloc hM ha ⟨[], upd_same, .nil⟩⟩
/-! ### slices -/
def cutM {α : Type} (xs : List α) (lo hi : Option Int) : List α := (xs.drop (HT.sIx xs.length 0 lo)).take (HT.sIx xs.length xs.length hi - HT.sIx xs.length 0 lo)
theorem RVs.cut {ds : List MV} {vs : List V} (h : RVs K β H ds vs) (lo hi : Option Int) : RVs K β H (cutM ds lo hi) (cutV vs lo hi) := by
  unfold cutM cutV
  rw [h.length]
  exact (h.drop _).take _
def gSl (d : MV) (lo hi : Option Int) (m : Mem) : Re MV := match d with
  | .str z => if z.length ≤ sizeLine then .ok (.str ⟨(cutM z.cps.toList lo hi).toArray⟩) m else .stuck
  | .tup l => .ok (.tup (cutM l lo hi)) m
  | d => match lstOf m d with
    | some l => alloc (.lst (cutM l lo hi)) m
    | none => .stuck
abbrev rSlAll (K : PySem.W.Frag) : V → Option Int → Option Int → Hp → VK → Prop := fun x lo hi H Q => rSlL K x lo hi H Q ∨ rSlA K x lo hi H Q ∨ rSlS x lo hi H Q
theorem sl_all : SlR X (rSlAll X.K) := SlR.or sl_list (SlR.or sl_tupA sl_str)
theorem cut_all {α : Type} {xs : List α} {lo hi : Option Int} (h : HT.sIx xs.length 0 lo = 0 ∧ HT.sIx xs.length xs.length hi = xs.length) : cutM xs lo hi = xs := by
  unfold cutM
  rw [h.1, h.2]; simp
theorem om_sl {σ : L2.St} {d : MV} {lo hi : Option Int} {m : Mem} {β : List Addr} {H : Hp} {x : V} {Q : VK} (M : RM X.K β H m) (rx : RV X.K β H d x) (p : Post X W (gSl d lo hi m) β H σ (fun β' H' d v => RV X.K β' H' d v) Q) : rSlAll X.K x lo hi H Q := by
  unfold gSl at p
  split at p
  · rename_i z
    cases rx
    split at p
    · rename_i h
      refine .inr (.inr ⟨_, rfl, h, ?_⟩)
      have e : cutS z lo hi = ⟨(cutM z.cps.toList lo hi).toArray⟩ := by
        unfold cutS cutM
        rw [show z.cps.toList.length = z.length from by simp [Str.length]]
      rw [e]
      exact p.ok M (.str _)
    · exact p.not_stuck
  · cases rx with
    | tup h1 r1 =>
      refine .inr (.inl ⟨_, _, rfl, h1, fun q => ?_, fun q a ha => p.newtup M ha (r1.cut lo hi)⟩)
      rw [← r1.length] at q
      rw [cut_all q] at p
      exact p.ok M (.tup h1 r1)
  · split at p
    · rename_i l hl
      obtain ⟨a, vs, rfl, hs, hr⟩ := M.lst rx hl
      exact .inl ⟨a, vs, rfl, hs, fun q hq => p.alloc M hq ⟨_, upd_same, (hr.cut lo hi).ext M (Ext.push hq)⟩⟩
    · exact p.not_stuck
/-- an end of a slice -/
abbrev MO' := Env → Mem → Re (Option Int)
structure JO (X : Cx) (W : WX) (e : Option Expr) (f : MO') : Prop where
  run : PO X e (fun σ H Q => ∃ ρ m β, RE X.K β H ρ σ ∧ RM X.K β H m ∧ Post X W (f ρ m) β H σ (fun _ _ d v => d = v) Q)
def mNo : MO' := fun _ m => .ok none m
def mEnd (f : ME) : MO' := fun ρ m => (f ρ m).bind fun d m1 => match d with
  | .int i => .ok (some i) m1
  | _ => .stuck
theorem po_imp {e : Option Expr} {t t' : TO} (h : PO X e t) (i : ∀ σ H Q, t' σ H Q → t σ H Q) : PO X e t' := ⟨fun pins s σ H Q I q => h.run pins s σ H Q I (i σ H Q q)⟩
theorem jo_no : JO X W none mNo := ⟨po_imp po_none fun σ H Q ⟨ρ, m, β, hE, hM, p⟩ => p.ok hM rfl⟩
theorem jo_end {e : Expr} {f : ME} (h : JE X W e f) : JO X W (some e) (mEnd f) :=
  ⟨po_imp (po_some h.run) fun σ H Q ⟨ρ, m, β, hE, hM, p⟩ => ⟨ρ, m, β, hE, hM, p.bind fun d m1 x H1 β1 _ e1 M1 V1 p1 => by
    split at p1
    · cases V1; exact ⟨_, rfl, p1.ok M1 rfl⟩
    · exact p1.not_stuck⟩⟩
def mSl (f : ME) (l h : MO') : ME := fun ρ m => (f ρ m).bind fun d m1 => (l ρ m1).bind fun lo m2 => (h ρ m2).bind fun hi m3 => gSl d lo hi m3
theorem je_sl {e : Expr} {lo hi : Option Expr} {p2 : Pos} {f : ME} {l h : MO'} (he : JE X W e f) (hl : JO X W lo l) (hh : JO X W hi h) : JE X W (.Subscript e (.Slice lo hi none p2) pos) (mSl f l h) :=
  ⟨pe_imp (pe_slice sl_all he.run hl.run hh.run) fun σ H Q ⟨ρ, m, β, hE, hM, p⟩ => ⟨ρ, m, β, hE, hM, p.bind fun d m1 x H1 β1 _ e1 M1 V1 p1 => ⟨ρ, m1, β1, hE.ext hM e1, M1, p1.bind fun o m2 o' H2 β2 _ e2 M2 V2 p2 => by
    subst V2
    exact ⟨ρ, m2, β2, (hE.ext hM e1).ext M1 e2, M2, p2.bind fun u m3 u' H3 β3 _ e3 M3 V3 p3 => by
      subst V3
      exact om_sl M3 ((V1.ext M1 e2).ext M2 e3) p3⟩⟩⟩⟩
end
end MI
namespace MI
open PySem L2
/-! ### statements -/
section
variable {X : Cx} {W : WX} {pos : Pos} {K : PySem.W.Frag} {β : List Addr} {H : Hp} {m : Mem}
def PostS (X : Cx) (W : WX) (r : Re Fl) (β : List Addr) (H : Hp) (D : Ends) : Prop :=
  match r with
  | .ok (.nx ρ') m' => ∀ σ' H' β', Ext β H β' H' → RM X.K β' H' m' → RE X.K β' H' ρ' σ' → D.nx σ' H'
  | .ok (.bk ρ') m' => ∀ σ' H' β', Ext β H β' H' → RM X.K β' H' m' → RE X.K β' H' ρ' σ' → D.bk σ' H'
  | .ok (.ct ρ') m' => ∀ σ' H' β', Ext β H β' H' → RM X.K β' H' m' → RE X.K β' H' ρ' σ' → D.ct σ' H'
  | .ok (.rt d) m' => ∀ v H' β', Ext β H β' H' → RM X.K β' H' m' → RV X.K β' H' d v → D.rt v H'
  | .ok (.ex x ρ') m' => ∀ cls dd σ' H' β', Ext β H β' H' → RM X.K β' H' m' → RE X.K β' H' ρ' σ' → XR X.K x cls dd → W cls dd σ' H'
  | .ex _ _ => False
  | .stuck => False
theorem tS_of {f : MS} {D : Ends} {σ : L2.St} {H : Hp} (h : tS X W f D σ H) : ∃ ρ m β, RE X.K β H ρ σ ∧ RM X.K β H m ∧ PostS X W (f ρ m) β H D := h
theorem PostS.later {r : Re Fl} {β β1 : List Addr} {H H1 : Hp} {D : Ends} (p : PostS X W r β H D) (e : Ext β H β1 H1) : PostS X W r β1 H1 D := by
  cases r with
  | ok a m =>
    cases a with
    | nx ρ => exact fun σ' H' β' e' => p σ' H' β' (e.trans e')
    | bk ρ => exact fun σ' H' β' e' => p σ' H' β' (e.trans e')
    | ct ρ => exact fun σ' H' β' e' => p σ' H' β' (e.trans e')
    | rt d => exact fun σ' H' β' e' => p σ' H' β' (e.trans e')
    | ex x ρ => exact fun c d σ' H' β' e' => p c d σ' H' β' (e.trans e')
  | ex x m => exact p
  | stuck => exact p
/-- an expression within a statement -/
def onE {α : Type} (ρ : Env) (r : Re α) (k : α → Mem → Re Fl) : Re Fl := match r with
  | .ok a m => k a m
  | .ex x m => .ok (.ex x ρ) m
  | .stuck => .stuck
theorem PostS.on {α γ : Type} {r : Re α} {k : α → Mem → Re Fl} {β : List Addr} {H : Hp} {σ : L2.St} {ρ : Env} {D : Ends} {R : List Addr → Hp → α → γ → Prop} {Q : γ → Hp → Prop} (hE : RE X.K β H ρ σ) (hM : RM X.K β H m) (p : PostS X W (onE ρ r k) β H D)
    (h : ∀ d m1 v H1 β1, r = .ok d m1 → Ext β H β1 H1 → RM X.K β1 H1 m1 → R β1 H1 d v → PostS X W (k d m1) β1 H1 D → Q v H1) : Post X W r β H σ R Q := by
  cases r with
  | ok d m => exact fun v H' β' e M V => h d m v H' β' rfl e M V (PostS.later (r := k d m) p e)
  | ex x m => exact fun c d H' β' e M z => p c d σ H' β' e M (hE.ext hM e) z
  | stuck => exact p
/-- another end for what follows: the same but nx -/
theorem PostS.seq {r : Re Fl} {k : Env → Mem → Re Fl} {β : List Addr} {H : Hp} {D : Ends} {N : L2.St → Hp → Prop} (p : PostS X W (match r with | .ok (.nx ρ) m => k ρ m | r => r) β H D)
    (h : ∀ ρ' m' σ' H' β', r = .ok (.nx ρ') m' → Ext β H β' H' → RM X.K β' H' m' → RE X.K β' H' ρ' σ' → PostS X W (k ρ' m') β' H' D → N σ' H') : PostS X W r β H { D with nx := N } := by
  cases r with
  | ok a m =>
    cases a with
    | nx ρ => exact fun σ' H' β' e M E => h ρ m σ' H' β' rfl e M E (PostS.later (r := k ρ m) p e)
    | bk ρ => exact p
    | ct ρ => exact p
    | rt d => exact p
    | ex x ρ => exact p
  | ex x m => exact p
  | stuck => exact p
def mSkip : MS := fun ρ m => .ok (.nx ρ) m
def mSeq (f g : MS) : MS := fun ρ m => match f ρ m with
  | .ok (.nx ρ') m' => g ρ' m'
  | r => r
theorem jb_nil : JB X W [] mSkip := ⟨pss_imp pss_nil fun D σ H ⟨ρ, m, β, hE, hM, p⟩ => p σ H β Ext.refl hM hE⟩
theorem jb_cons {st : Stmt} {rest : List Stmt} {f g : MS} (h : JS X W st f) (h2 : JB X W rest g) : JB X W (st :: rest) (mSeq f g) :=
  ⟨pss_imp (pss_cons h.run h2.run) fun D σ H ⟨ρ, m, β, hE, hM, p⟩ => ⟨ρ, m, β, hE, hM, PostS.seq (k := g) (r := f ρ m) (D := D) p fun ρ' m' σ' H' β' _ e M E q => ⟨ρ', m', β', E, M, q⟩⟩⟩
theorem jb_one {st : Stmt} {f : MS} (h : JS X W st f) : JB X W [st] f := ⟨pss_one h.run⟩
theorem js_pass : JS X W (.Pass pos) mSkip := ⟨ps_imp ps_pass fun D σ H ⟨ρ, m, β, hE, hM, p⟩ => p σ H β Ext.refl hM hE⟩
theorem js_break : JS X W (.Break pos) (fun ρ m => .ok (.bk ρ) m) := ⟨ps_imp ps_break fun D σ H ⟨ρ, m, β, hE, hM, p⟩ => p σ H β Ext.refl hM hE⟩
theorem js_continue : JS X W (.Continue pos) (fun ρ m => .ok (.ct ρ) m) := ⟨ps_imp ps_continue fun D σ H ⟨ρ, m, β, hE, hM, p⟩ => p σ H β Ext.refl hM hE⟩
def mRet (f : ME) : MS := fun ρ m => onE ρ (f ρ m) fun d m1 => .ok (.rt d) m1
theorem js_ret {e : Expr} {f : ME} (h : JE X W e f) : JS X W (.Return (some e) pos) (mRet f) :=
  ⟨ps_imp (ps_ret h.run) fun D σ H ⟨ρ, m, β, hE, hM, p⟩ => ⟨ρ, m, β, hE, hM, PostS.on (D := D) (k := fun d m1 => .ok (.rt d) m1) hE hM p fun d m1 v H1 β1 _ e M V q => q v H1 β1 Ext.refl M V⟩⟩
def mDrop (f : ME) : MS := fun ρ m => onE ρ (f ρ m) fun _ m1 => .ok (.nx ρ) m1
theorem js_expr {e : Expr} {f : ME} (h : JE X W e f) (hs : swapsWith e none pos.line X.env = pure false := by rfl) : JS X W (.Expr e pos) (mDrop f) :=
  ⟨ps_imp (ps_expr h.run hs) fun D σ H ⟨ρ, m, β, hE, hM, p⟩ => ⟨ρ, m, β, hE, hM, PostS.on (D := D) (k := fun _ m1 => .ok (.nx ρ) m1) (R := fun β' H' d v => RV X.K β' H' d v) hE hM p fun d m1 v H1 β1 _ e M V q => q σ H1 β1 Ext.refl M (hE.ext hM e)⟩⟩
def mIfS (c : MT) (f g : MS) : MS := fun ρ m => onE ρ (c ρ m) fun b m1 => if b = true then f ρ m1 else g ρ m1
theorem js_if {c : Expr} {a b : List Stmt} {fc : MT} {f g : MS} (hc : JT X W c fc) (ha : JB X W a f) (hb : JB X W b g) : JS X W (.If c a b pos) (mIfS fc f g) :=
  ⟨ps_imp (ps_if hc.run ha.run hb.run) fun D σ H ⟨ρ, m, β, hE, hM, p⟩ => ⟨ρ, m, β, hE, hM, PostS.on (D := D) (k := fun b m1 => if b = true then f ρ m1 else g ρ m1) (R := fun _ _ d v => d = v) hE hM p fun d m1 v H1 β1 _ e M V q => by
    subst V
    cases d with
    | true => exact ⟨ρ, m1, β1, hE.ext hM e, M, q⟩
    | false => exact ⟨ρ, m1, β1, hE.ext hM e, M, q⟩⟩⟩
/-! ### targets -/
abbrev MG := MV → Env → Mem → Re Env
def tG (X : Cx) (g : MG) : TG := fun v σ H Q => ∃ d ρ m β, RV X.K β H d v ∧ RE X.K β H ρ σ ∧ RM X.K β H m ∧
  match g d ρ m with
  | .ok ρ' m' => ∀ σ' H' β', Ext β H β' H' → RM X.K β' H' m' → RE X.K β' H' ρ' σ' → Q σ' H'
  | _ => False
abbrev MGs := List MV → Env → Mem → Re Env
def tGs (X : Cx) (g : MGs) : TGs := fun vs σ H Q => ∃ ds ρ m β, RVs X.K β H ds vs ∧ RE X.K β H ρ σ ∧ RM X.K β H m ∧
  match g ds ρ m with
  | .ok ρ' m' => ∀ σ' H' β', Ext β H β' H' → RM X.K β' H' m' → RE X.K β' H' ρ' σ' → Q σ' H'
  | _ => False
structure JG (X : Cx) (tg : Expr) (g : MG) : Prop where
  run : PG X tg (tG X g)
structure JGs (X : Cx) (tg : List Expr) (g : MGs) : Prop where
  run : PGs X tg (tGs X g)
theorem pg_imp {e : Expr} {t t' : TG} (h : PG X e t) (i : ∀ v σ H Q, t' v σ H Q → t v σ H Q) : PG X e t' := ⟨fun pins s σ H v u Q I r q => h.run pins s σ H v u Q I r (i v σ H Q q)⟩
theorem pgs_imp {e : List Expr} {t t' : TGs} (h : PGs X e t) (i : ∀ v σ H Q, t' v σ H Q → t v σ H Q) : PGs X e t' := ⟨fun pins s σ H v u Q I r q => h.run pins s σ H v u Q I r (i v σ H Q q)⟩
def nName (i : Nat) : MG := fun d ρ m => .ok (ρ.set i (some d)) m
theorem jg_name (i : Nat) {x : Str} (hN : X.N.Nodup) (hi : X.N[i]? = some x := by rfl) (hx : Loc X.env.scope x := by first | exact Or.inl rfl | exact Or.inr rfl) (hf : X.fn x = true ∨ X.env.scope.names.lookup x = some .local := by first | exact .inl rfl | exact .inr rfl | assumption) : JG X (.Name x pos) (nName i) :=
  ⟨pg_imp (pg_name hN hi hx hf) fun v σ H Q ⟨d, ρ, m, β, V, hE, hM, p⟩ => p _ H β Ext.refl hM (hE.set V)⟩
def nNil : MGs := fun ds ρ m => match ds with
  | [] => .ok ρ m
  | _ => .stuck
def nCons (g : MG) (k : MGs) : MGs := fun ds ρ m => match ds with
  | d :: r => match g d ρ m with
    | .ok ρ' m' => k r ρ' m'
    | _ => .stuck
  | _ => .stuck
theorem jgs_nil : JGs X [] nNil := ⟨pgs_imp pgs_nil fun v σ H Q ⟨ds, ρ, m, β, V, hE, hM, p⟩ => by
  cases V with
  | nil => exact ⟨rfl, p σ H β Ext.refl hM hE⟩
  | cons _ _ => exact p.elim⟩
theorem jgs_cons {e : Expr} {es : List Expr} {g : MG} {k : MGs} (h1 : JG X e g) (h2 : JGs X es k) (hs : (assignEach (e :: es) X.env).map (·.2) = assign e X.env :: (assignEach es X.env).map (·.2) := by rfl) : JGs X (e :: es) (nCons g k) :=
  ⟨pgs_imp (pgs_cons h1.run h2.run hs) fun v σ H Q ⟨ds, ρ, m, β, V, hE, hM, p⟩ => by
    cases V with
    | nil => exact p.elim
    | @cons d v ds vs h r =>
      refine ⟨v, vs, rfl, d, ρ, m, β, h, hE, hM, ?_⟩
      have p' : match (match g d ρ m with | .ok ρ' m' => k ds ρ' m' | _ => .stuck : Re Env) with
        | .ok ρ' m' => ∀ σ' H' β', Ext β H β' H' → RM X.K β' H' m' → RE X.K β' H' ρ' σ' → Q σ' H'
        | _ => False := p
      cases e1 : g d ρ m with
      | ok ρ1 m1 =>
        rw [e1] at p'
        intro σ1 H1 β1 x1 M1 E1
        refine ⟨ds, ρ1, m1, β1, r.ext hM x1, E1, M1, ?_⟩
        have p2 : match k ds ρ1 m1 with
          | .ok ρ' m' => ∀ σ' H' β', Ext β H β' H' → RM X.K β' H' m' → RE X.K β' H' ρ' σ' → Q σ' H'
          | _ => False := p'
        cases e2 : k ds ρ1 m1 with
        | ok ρ2 m2 => rw [e2] at p2; exact fun σ2 H2 β2 x2 => p2 σ2 H2 β2 (x1.trans x2)
        | ex x m => rw [e2] at p2; exact p2
        | stuck => rw [e2] at p2; exact p2
      | ex x m => rw [e1] at p'; exact p'.elim
      | stuck => rw [e1] at p'; exact p'.elim⟩
/-- (a, b, ..) = a list or a tuple of that length -/
def nTup (n : Nat) (k : MGs) : MG := fun d ρ m => match seqOf m d with
  | some l => if l.length = n then k l ρ m else .stuck
  | none => .stuck
theorem pg_or {e : Expr} {t t' : TG} (h : PG X e t) (h' : PG X e t') : PG X e (fun v σ H Q => t v σ H Q ∨ t' v σ H Q) := ⟨fun pins s σ H v u Q I r q => q.elim (h.run pins s σ H v u Q I r) (h'.run pins s σ H v u Q I r)⟩
theorem jg_tup {es : List Expr} {k : Nat} {g : MGs} {n : Nat} (hc : X.calm = true) (h : JGs X es g) (hn : (assignEach es X.env).length = n := by rfl) (hst : (assignEach es X.env).findIdx? (·.1) = none := by rfl) : JG X (.Tuple es k pos) (nTup n g) :=
  ⟨pg_imp (pg_or (pg_tup hc h.run hn hst) (pg_unl hc h.run hn hst)) fun v σ H Q ⟨d, ρ, m, β, V, hE, hM, p⟩ => by
    unfold nTup at p
    cases e : seqOf m d with
    | none => rw [e] at p; exact p.elim
    | some l =>
      rw [e] at p
      obtain ⟨a, vs, rfl, hs, hr⟩ := hM.seq V e
      by_cases q : l.length = n
      · simp only [q, if_true] at p
        rcases hs with hs | hs
        · exact .inr ⟨a, vs, rfl, hs, by rw [← hr.length]; exact q, l, ρ, m, β, hr, hE, hM, p⟩
        · exact .inl ⟨a, vs, rfl, hs, by rw [← hr.length]; exact q, l, ρ, m, β, hr, hE, hM, p⟩
      · simp only [q, if_false] at p⟩
def mAsg (f : ME) (g : MG) : MS := fun ρ m => onE ρ (f ρ m) fun d m1 => match g d ρ m1 with
  | .ok ρ' m' => .ok (.nx ρ') m'
  | _ => .stuck
theorem js_asg {tg e : Expr} {f : ME} {g : MG} (he : JE X W e f) (hg : JG X tg g) (hs : swapsWithSole [tg] e pos.line X.env = pure false := by rfl) (hw : swappedStores [tg] e X.env = pure none := by rfl)
    (h1 : (assignEach [tg] X.env).map (·.2) = [assign tg X.env] := by rfl) : JS X W (.Assign [tg] e pos) (mAsg f g) :=
  ⟨ps_imp (ps_asg he.run hg.run hs hw h1) fun D σ H ⟨ρ, m, β, hE, hM, p⟩ => ⟨ρ, m, β, hE, hM, PostS.on (D := D) (R := fun β' H' d v => RV X.K β' H' d v) hE hM p fun d m1 v H1 β1 _ e M V q => ⟨d, ρ, m1, β1, V, hE.ext hM e, M, by
    split at q
    · rename_i ρ' m' e1; exact q
    · exact q.elim⟩⟩⟩
theorem js_set (i : Nat) {x : Str} {e : Expr} {f : ME} {pos' : Pos} (hN : X.N.Nodup) (he : JE X W e f) (hi : X.N[i]? = some x := by rfl) (hx : Loc X.env.scope x := by first | exact Or.inl rfl | exact Or.inr rfl) (hs : swapsWith e (some (.Name x pos')) pos.line X.env = pure false := by rfl)
    (hf : X.fn x = true ∨ X.env.scope.names.lookup x = some .local := by first | exact .inl rfl | exact .inr rfl | assumption) : JS X W (.Assign [.Name x pos'] e pos) (mAsg f (nName i)) :=
  ⟨ps_imp (ps_set hN hi hx he.run hs hf) fun D σ H ⟨ρ, m, β, hE, hM, p⟩ => ⟨ρ, m, β, hE, hM, PostS.on (D := D) (R := fun β' H' d v => RV X.K β' H' d v) hE hM p fun d m1 v H1 β1 _ e M V q => q _ H1 β1 Ext.refl M ((hE.ext hM e).set V)⟩⟩
/-- o[i] = .. in a list -/
def nSubL (fo fi : ME) : MG := fun d ρ m => match fo ρ m with
  | .ok o m1 => match fi ρ m1 with
    | .ok (.int k) m2 => match mutOf m2 o with
      | some (n, l) => match ixN l.length k with
        | some j => .ok ρ (m2.set n (.lst (l.set j d)))
        | none => .stuck
      | none => .stuck
    | _ => .stuck
  | _ => .stuck
end
/-! ### a def's promise -/
def spM (K : PySem.W.Frag) (n : Nat) (F : MF) : Sp := fun vs H Q E => vs.length = n ∧ ∃ ds m β, RVs K β H ds vs ∧ RM K β H m ∧
  match F ds m with
  | .ok d m' => ∀ v H' β', Ext β H β' H' → RM K β' H' m' → RV K β' H' d v → Q v H'
  | .ex x m' => ∀ cls dd H' β', Ext β H β' H' → RM K β' H' m' → XR K x cls dd → E cls dd H'
  | .stuck => False
/-- a global def that does F, at level k, with n parameters -/
structure Fn (P : Program) (w : World) (K : PySem.W.Frag) (mg : Str → Option Value) (base : Heap) (k : Nat) (x : Str) (n : Nat) (F : MF) : Prop where
  ex : ∃ (f : Addr) (fd : FuncData) (ps : List Str), FnOk P w K mg base (CX P w) k f fd ps (spM K n F) ∧ mg x = some (.ref f) ∧ PySem.W.keepIn K (.ref f) = true ∧ Binds K fd ps []
/-- a body's end as a call's -/
def endOf (r : Re Fl) : Re MV := match r with
  | .ok (.nx _) m => .ok .non m
  | .ok (.rt d) m => .ok d m
  | .ok (.ex x _) m => .ex x m
  | _ => .stuck
def startM (n : Nat) (ds : List MV) : Env := ds.map some ++ List.replicate (n - ds.length) none
theorem RE.start {K : PySem.W.Frag} {β : List Addr} {H : Hp} {N : List Str} {ds : List MV} {vs : List V} (h : RVs K β H ds vs) : RE K β H (startM N.length ds) (L2.start N vs) := by
  unfold startM L2.start
  refine ⟨by simp [h.length], fun i d e => ?_⟩
  by_cases hi : i < ds.length
  · rw [List.getElem?_append_left (by simpa using hi), List.getElem?_map] at e
    cases q : ds[i]? with
    | none => rw [q] at e; cases e
    | some d' =>
      rw [q] at e
      cases e
      obtain ⟨v, h1, h2⟩ := h.get q
      refine ⟨v, ?_, h2⟩
      rw [List.getElem?_append_left (by rw [List.length_map, ← h.length]; exact hi), List.getElem?_map, h1] <;> rfl
  · rw [List.getElem?_append_right (by simpa using hi), List.getElem?_replicate] at e
    split at e <;> cases e
section
variable {P : Program} {w : World} {K : PySem.W.Frag} {mg : Str → Option Value} {base : Heap}
/-- THE RULE for a def -/
theorem fn_ok {x qual : Str} {st : Stmt} {f : Addr} {fd : FuncData} {N ps : List Str} {k n : Nat} {g : MS} {F : MF} (Fu : Fun K x qual st f fd) (S : FnScope N ps (defScope st)) (hn : ps.length = n)
    (hF : ∀ ds m, ds.length = n → F ds m = endOf (g (startM N.length ds) m))
    (hb : ∀ (X : Cx), X.prog = P → X.w = w → X.K = K → X.mg = mg → X.base = base → X.N = N → X.env.scope = defScope st → X.calm = true → (∀ x, X.fn x = true) → Room k X.A → (X.stack = X.env :: X.outer) → (X.env.frame = some X.env.locals) → X.ex = [] →
      ∀ W, Takes X W → PassesOwn (model X.prog X.w) X.A X.env X.xe → JB X W (defBody st) g) :
    FnOk P w K mg base (CX P w) (k + 1) f fd ps (spM K n F) := by
  refine Fu.okX S (fun vs H Q E h => by rw [hn]; exact h.1) fun cdv A outer s H vs Q E hr hsp => ?_
  obtain ⟨hl, ds, m, β, V, M, p⟩ := hsp
  have tk : Takes (cxOf (CX P w) P w K mg base N qual (defScope st) f cdv A outer s H E) (fun cls d _ H' => E cls d H') := takes_of rfl rfl rfl rfl
  refine ⟨_, (hb _ rfl rfl rfl rfl rfl rfl rfl rfl (fun _ => rfl) hr rfl rfl rfl _ tk (passes_of rfl)).run, ?_⟩
  refine ⟨startM N.length ds, m, β, RE.start V, M, ?_⟩
  rw [hF ds m (by rw [V.length]; exact hl)] at p
  have E0 : RE K β H (startM N.length ds) (L2.start N vs) := RE.start V
  revert p
  generalize g (startM N.length ds) m = r
  intro p
  cases r with
  | ok a m' =>
    cases a with
    | nx ρ => exact fun σ' H' β' e M' _ => p .non H' β' e M' .non
    | bk ρ => exact p.elim
    | ct ρ => exact p.elim
    | rt d => exact fun v H' β' e M' V' => p v H' β' e M' V'
    | ex x ρ => exact fun c d σ' H' β' e M' _ z => p c d H' β' e M' z
  | ex x m' => exact p.elim
  | stuck => exact p
/-- f(e, ..) -/
def mCall (F : MF) (g : MA) : ME := fun ρ m => (g ρ m).bind fun ds m1 => F ds m1
theorem je_call {X : Cx} {W : WX} {k j n : Nat} {x : Str} {F : MF} {e : Expr} {es : List Expr} {g : MA} {p pos : Pos} (Fk : Fn X.prog X.w X.K X.mg X.base k x n F) (hr : Room j X.A) (hk : k ≤ j) (tk : Takes X W) (ha : JA X W (e :: es) g) (hl : (e :: es).length = n := by rfl)
    (hg : Gl X x := by rfl) (hdb : (x == ("__debug__" : Str)) = false := by decide) (he : starEach (e :: es) X.env = (false, eval e X.env) :: starEach es X.env := by rfl) (hpl : (backTo pos (starEach es X.env)).any (·.1) = false := by rfl)
    (hlen : ∀ ρ m ds m1, g ρ m = .ok ds m1 → ds.length = n) : JE X W (.Call (.Name x p) (e :: es) [] pos) (mCall F g) := by
  obtain ⟨f, fd, ps, h1, h2, h3, h4⟩ := Fk.ex
  refine ⟨pe_imp (pe_callS h1 (hr.mono hk) hg h2 h3 h4 (fun σ => passAt tk σ) ha.run hdb he hpl) fun σ H Q ⟨ρ, m, β, hE, hM, p⟩ => ⟨ρ, m, β, hE, hM, ?_⟩⟩
  refine p.bind fun ds m1 vs H1 β1 e0 e1 M1 V1 p1 => ⟨by rw [← V1.length]; exact hlen ρ m ds m1 e0, ds, m1, β1, V1, M1, ?_⟩
  revert p1
  generalize F ds m1 = r
  intro p1
  cases r with
  | ok d m2 => exact p1
  | ex x m2 => exact p1
  | stuck => exact p1
end
end MI
namespace MI
open PySem L2
section
variable {X : Cx} {W : WX} {pos : Pos} {K : PySem.W.Frag} {β : List Addr} {H : Hp} {m : Mem}
/-! ### what is walked -/
/-- the items, and what must hold of the objects at every turn -/
structure IterM where
  items : List MV
  chk : Mem → Prop
structure WalkM (K : PySem.W.Frag) (β0 : List Addr) (H0 : Hp) (it : IterM) (J : It) : Prop where
  ex : ∃ (G : Hp → Prop) (Y : Nat → Hp → V → Hp → Prop), Walk J it.items.length G Y ∧ (∀ β1 H1 m1, Ext β0 H0 β1 H1 → RM K β1 H1 m1 → it.chk m1 → G H1) ∧
    (∀ i H1 x H2 β1 m1 d, Ext β0 H0 β1 H1 → RM K β1 H1 m1 → it.chk m1 → it.items[i]? = some d → Y i H1 x H2 → Ext β1 H1 β1 H2 ∧ RM K β1 H2 m1 ∧ RV K β1 H2 d x)
abbrev MI' := Env → Mem → Re IterM
def tI (X : Cx) (W : WX) (h : MI') : TI := fun σ H R => ∃ ρ m β, RE X.K β H ρ σ ∧ RM X.K β H m ∧
  match h ρ m with
  | .ok it m' => ∀ H' β' J, Ext β H β' H' → RM X.K β' H' m' → WalkM X.K β' H' it J → R J H'
  | .ex x m' => ∀ cls dd H' β', Ext β H β' H' → RM X.K β' H' m' → XR X.K x cls dd → W cls dd σ H'
  | .stuck => False
structure JI (X : Cx) (W : WX) (tg iter : Expr) (h : MI') : Prop where
  run : PI X tg iter (tI X W h)
theorem pi_imp {tg e : Expr} {t t' : TI} (h : PI X tg e t) (i : ∀ σ H R, t' σ H R → t σ H R) : PI X tg e t' := ⟨fun pins s σ H R I q => h.run pins s σ H R I (i σ H R q)⟩
theorem pi_or {tg e : Expr} {t t' : TI} (h : PI X tg e t) (h' : PI X tg e t') : PI X tg e (fun σ H R => t σ H R ∨ t' σ H R) := ⟨fun pins s σ H R I q => q.elim (h.run pins s σ H R I) (h'.run pins s σ H R I)⟩
/-- a list or a tuple -/
def mSeqI (f : ME) : MI' := fun ρ m => (f ρ m).bind fun d m1 => match d with
  | .tup l => .ok ⟨l, fun _ => True⟩ m1
  | .kl _ => .stuck
  | d => match lstOf m1 d with
    | some l => .ok ⟨l, fun m' => lstOf m' d = some l⟩ m1
    | none => .stuck
theorem walkM_tup {a : Addr} {l : List MV} {vs : List V} (M : RM K β H m) (h : SqT K H a vs) (r : RVs K β H l vs) : WalkM K β H ⟨l, fun _ => True⟩ (Itt K a) := by
  refine ⟨fun H1 => SqT K H1 a vs, YAt vs, ?_, fun β1 H1 m1 e M1 _ => M.sqt e h, fun i H1 x H2 β1 m1 d e M1 _ hi y => ?_⟩
  · show Walk _ l.length _ _
    rw [r.length]; exact walk_tup
  · obtain ⟨rfl, hx⟩ := y
    obtain ⟨v, h1, h2⟩ := (r.ext M e).get hi
    rw [h1] at hx; cases hx
    exact ⟨Ext.refl, M1, h2⟩
theorem walkM_lst {a : Addr} {d : MV} {l : List MV} (M : RM K β H m) (rd : RV K β H d (.ref a)) (h : lstOf m d = some l) : WalkM K β H ⟨l, fun m' => lstOf m' d = some l⟩ (Itl K a) := by
  refine ⟨fun H1 => ∃ vs, SqL K H1 a vs ∧ vs.length = l.length, fun i H1 x H2 => H2 = H1 ∧ ∀ vs, SqL K H1 a vs → vs[i]? = some x, ⟨fun i H1 hi g => ?_, fun H1 g => ?_, fun i H1 x H2 _ _ y => y⟩, fun β1 H1 m1 e M1 hc => ?_, fun i H1 x H2 β1 m1 d' e M1 hc hi y => ?_⟩
  · obtain ⟨vs, g1, g2⟩ := g
    have hi' : i < vs.length := by rw [g2]; exact hi
    exact ⟨vs, vs[i], g1, by simp [hi']⟩
  · obtain ⟨vs, g1, g2⟩ := g
    exact ⟨vs, g1, by rw [g2]; exact Nat.le_refl _⟩
  · obtain ⟨a', vs, e1, h1, h2⟩ := M1.lst (rd.ext M e) hc
    cases e1
    exact ⟨vs, h1, h2.length.symm⟩
  · obtain ⟨rfl, hx⟩ := y
    obtain ⟨a', vs, e1, h1, h2⟩ := M1.lst (rd.ext M e) hc
    cases e1
    obtain ⟨v, q1, q2⟩ := h2.get hi
    have := hx vs h1
    rw [q1] at this; cases this
    exact ⟨Ext.refl, M1, q2⟩
theorem ji_seq {tg e : Expr} {f : ME} (h : JE X W e f) : JI X W tg e (mSeqI f) := by
  refine ⟨pi_imp (pi_or (pi_list h.run) (pi_tup h.run)) fun σ H R ⟨ρ, m, β, hE, hM, p⟩ => ?_⟩
  unfold mSeqI at p
  cases hf : f ρ m with
  | stuck => rw [hf] at p; exact p.elim
  | ex x m1 =>
    rw [hf] at p
    exact .inl ⟨ρ, m, β, hE, hM, by rw [hf]; exact p⟩
  | ok d m1 =>
    rw [hf] at p
    cases d with
    | tup l =>
      refine .inr ⟨ρ, m, β, hE, hM, ?_⟩
      rw [hf]
      intro v H1 β1 e1 M1 V1
      cases V1 with
      | tup h1 h2 => exact ⟨_, rfl, ⟨_, h1⟩, p _ _ _ e1 M1 (walkM_tup M1 h1 h2)⟩
    | ref n =>
      have p' : match (match lstOf m1 (.ref n) with | some l => .ok ⟨l, fun m' => lstOf m' (.ref n) = some l⟩ m1 | none => .stuck : Re IterM) with
        | .ok it m' => ∀ H' β' J, Ext β H β' H' → RM X.K β' H' m' → WalkM X.K β' H' it J → R J H'
        | .ex x m' => ∀ cls dd H' β', Ext β H β' H' → RM X.K β' H' m' → XR X.K x cls dd → W cls dd σ H'
        | .stuck => False := p
      cases hl : lstOf m1 (.ref n) with
      | none => rw [hl] at p'; exact p'.elim
      | some l =>
        rw [hl] at p'
        refine .inl ⟨ρ, m, β, hE, hM, ?_⟩
        rw [hf]
        intro v H1 β1 e1 M1 V1
        obtain ⟨a, vs, rfl, h1, h2⟩ := M1.lst V1 hl
        exact ⟨a, rfl, ⟨vs, h1⟩, p' _ _ _ e1 M1 (walkM_lst M1 V1 hl)⟩
    | non => exact p.elim
    | bl b => exact p.elim
    | int i => exact p.elim
    | str s => exact p.elim
    | kl s => exact p.elim
/-- range(n), range(a, b) -/
def rngL (lo : Int) (n : Nat) : List MV := (List.range n).map fun i => MV.int (lo + (i : Nat))
theorem walkM_rng {lo : Int} {n : Nat} : WalkM K β H ⟨rngL lo n, fun _ => True⟩ (Itr lo n) := by
  refine ⟨fun _ => True, YFn fun i => .int (lo + i), ?_, fun _ _ _ _ _ _ => trivial, fun i H1 x H2 β1 m1 d e M1 _ hi y => ?_⟩
  · show Walk _ (rngL lo n).length _ _
    rw [show (rngL lo n).length = n by simp [rngL]]; exact walk_range
  · obtain ⟨rfl, rfl⟩ := y
    unfold rngL at hi
    rw [List.getElem?_map] at hi
    cases q : (List.range n)[i]? with
    | none => rw [q] at hi; cases hi
    | some j =>
      rw [q] at hi
      obtain ⟨hj, e2⟩ := List.getElem?_eq_some_iff.mp q
      simp at e2
      subst e2
      cases hi
      exact ⟨Ext.refl, M1, .int _⟩
def rngOf : List MV → Mem → Re IterM
  | [.int j], m => if -(2 ^ 62) ≤ j ∧ j < 2 ^ 62 then .ok ⟨rngL 0 j.toNat, fun _ => True⟩ m else .stuck
  | _, _ => .stuck
def rngOf2 : List MV → Mem → Re IterM
  | [.int i, .int j], m => if -(2 ^ 62) ≤ i ∧ i < 2 ^ 62 ∧ -(2 ^ 62) ≤ j ∧ j < 2 ^ 62 then .ok ⟨rngL i (j - i).toNat, fun _ => True⟩ m else .stuck
  | _, _ => .stuck
def mRng (g : MA) : MI' := fun ρ m => (g ρ m).bind rngOf
def mRng2 (g : MA) : MI' := fun ρ m => (g ρ m).bind rngOf2
/-- a reading of what is walked, from there on -/
def PostI (X : Cx) (W : WX) (r : Re IterM) (β : List Addr) (H : Hp) (σ : L2.St) (R : It → Hp → Prop) : Prop :=
  match r with
  | .ok it m' => ∀ H' β' J, Ext β H β' H' → RM X.K β' H' m' → WalkM X.K β' H' it J → R J H'
  | .ex x m' => ∀ cls dd H' β', Ext β H β' H' → RM X.K β' H' m' → XR X.K x cls dd → W cls dd σ H'
  | .stuck => False
theorem ji_rng1 {tg a : Expr} {g : MA} {p : Pos} (hm : X.mg "range" = none) (ha : JA X W [a] g) (hg : Gl X "range" := by rfl) (hs : starEach [a] X.env = [(false, eval a X.env)] := by rfl) : JI X W tg (.Call (.Name "range" p) [a] [] pos) (mRng g) := by
  refine ⟨pi_imp (pi_range1 hg hm ha.run hs) fun σ H R ⟨ρ, m, β, hE, hM, p⟩ => ⟨ρ, m, β, hE, hM, ?_⟩⟩
  have p : PostI X W ((g ρ m).bind rngOf) β H σ R := p
  cases hf : g ρ m with
  | stuck => rw [hf] at p; exact p.elim
  | ex x m1 => rw [hf] at p; exact p
  | ok ds m1 =>
    rw [hf] at p
    intro vs H1 β1 e1 M1 V1
    have p : PostI X W (rngOf ds m1) β H σ R := p
    unfold rngOf at p
    split at p
    · split at p
      · rename_i hj
        cases V1 with
        | cons h r =>
          cases h; cases r
          exact ⟨_, rfl, hj.1, hj.2, p _ _ _ e1 M1 walkM_rng⟩
      · exact p.elim
    · exact p.elim
theorem ji_rng2 {tg a b : Expr} {g : MA} {p : Pos} (hm : X.mg "range" = none) (ha : JA X W [a, b] g) (hg : Gl X "range" := by rfl) (hs : starEach [a, b] X.env = [(false, eval a X.env), (false, eval b X.env)] := by rfl) (hs2 : starEach [b] X.env = [(false, eval b X.env)] := by rfl) : JI X W tg (.Call (.Name "range" p) [a, b] [] pos) (mRng2 g) := by
  refine ⟨pi_imp (pi_range2 hg hm ha.run hs hs2) fun σ H R ⟨ρ, m, β, hE, hM, p⟩ => ⟨ρ, m, β, hE, hM, ?_⟩⟩
  have p : PostI X W ((g ρ m).bind rngOf2) β H σ R := p
  cases hf : g ρ m with
  | stuck => rw [hf] at p; exact p.elim
  | ex x m1 => rw [hf] at p; exact p
  | ok ds m1 =>
    rw [hf] at p
    intro vs H1 β1 e1 M1 V1
    have p : PostI X W (rngOf2 ds m1) β H σ R := p
    unfold rngOf2 at p
    split at p
    · split at p
      · rename_i hj
        cases V1 with
        | cons h r =>
          cases r with
          | cons h2 r =>
            cases h; cases h2; cases r
            exact ⟨_, _, rfl, hj, p _ _ _ e1 M1 walkM_rng⟩
      · exact p.elim
    · exact p.elim
/-! ### for -/
open Classical in
noncomputable def loopM (chk : Mem → Prop) (g : MG) (body : MS) : List MV → Env → Mem → Re Fl
  | [], ρ, m => if chk m then .ok (.nx ρ) m else .stuck
  | d :: r, ρ, m => if chk m then (match g d ρ m with
    | .ok ρ1 m1 => match body ρ1 m1 with
      | .ok (.nx ρ2) m2 => loopM chk g body r ρ2 m2
      | .ok (.ct ρ2) m2 => loopM chk g body r ρ2 m2
      | .ok (.bk ρ2) m2 => .ok (.nx ρ2) m2
      | q => q
    | _ => .stuck) else .stuck
noncomputable def mFor (h : MI') (g : MG) (body : MS) : MS := fun ρ m => onE ρ (h ρ m) fun it m1 => loopM it.chk g body it.items ρ m1
theorem js_for {tg iter : Expr} {body : List Stmt} {h : MI'} {g : MG} {f : MS} (hp : PassesOwn (model X.prog X.w) X.A X.env X.xe) (hc : X.calm = true) (hi : JI X W tg iter h) (hg : JG X tg g) (hb : JB X W body f)
    (hs : ∀ x, foldedSetIterable iter X.env x = pure x := by intro _; rfl) : JS X W (.For tg iter body [] pos) (mFor h g f) := by
  refine ⟨ps_imp (ps_for hp hc hi.run hg.run hb.run hs) fun D σ H q => ?_⟩
  obtain ⟨ρ, m, β, hE, hM, p⟩ := tS_of q
  refine ⟨ρ, m, β, hE, hM, ?_⟩
  unfold mFor at p
  cases hh : h ρ m with
  | stuck => rw [hh] at p; exact p.elim
  | ex x m1 => rw [hh] at p; exact fun c d H' β' e M z => p c d σ H' β' e M (hE.ext hM e) z
  | ok it m1 =>
    rw [hh] at p
    intro H1 β1 J e1 M1 w1
    obtain ⟨G, Y, wk, hG, hY⟩ := w1.ex
    have p1 : PostS X W (loopM it.chk g f it.items ρ m1) β1 H1 D := PostS.later (r := loopM it.chk g f it.items ρ m1) p e1
    refine for_it wk (fun i σ2 H2 => ∃ ρ2 m2 β2, Ext β1 H1 β2 H2 ∧ RE X.K β2 H2 ρ2 σ2 ∧ RM X.K β2 H2 m2 ∧ PostS X W (loopM it.chk g f (it.items.drop i) ρ2 m2) β2 H2 D) ⟨ρ, m1, β1, Ext.refl, hE.ext hM e1, M1, by rw [List.drop_zero]; exact p1⟩
      (fun i σ2 H2 hi ⟨ρ2, m2, β2, e2, E2, M2, p2⟩ => ?_) (fun i x σ2 H2 H3 hi ⟨ρ2, m2, β2, e2, E2, M2, p2⟩ y => ?_) (fun σ2 H2 ⟨ρ2, m2, β2, e2, E2, M2, p2⟩ => ?_)
    · refine hG β2 H2 m2 e2 M2 (Classical.byContradiction fun nc => ?_)
      cases hd : it.items.drop i with
      | nil => rw [hd] at p2; unfold loopM at p2; rw [if_neg nc] at p2; exact p2
      | cons d r => rw [hd] at p2; unfold loopM at p2; rw [if_neg nc] at p2; exact p2
    · have hdr : it.items.drop i = it.items[i] :: it.items.drop (i + 1) := List.drop_eq_getElem_cons hi
      rw [hdr] at p2
      unfold loopM at p2
      by_cases hk : it.chk m2
      · rw [if_pos hk] at p2
        obtain ⟨e3, M3, V3⟩ := hY i H2 x H3 β2 m2 it.items[i] e2 M2 hk (by simp [hi]) y
        refine ⟨it.items[i], ρ2, m2, β2, V3, E2.ext M2 e3, M3, ?_⟩
        cases hgd : g it.items[i] ρ2 m2 with
        | stuck => rw [hgd] at p2; exact p2.elim
        | ex x m => rw [hgd] at p2; exact p2.elim
        | ok ρ3 m3 =>
          rw [hgd] at p2
          intro σ4 H4 β4 e4 M4 E4
          refine ⟨ρ3, m3, β4, E4, M4, ?_⟩
          have p3 : PostS X W (match f ρ3 m3 with
            | .ok (.nx ρ2) m2 => loopM it.chk g f (it.items.drop (i + 1)) ρ2 m2
            | .ok (.ct ρ2) m2 => loopM it.chk g f (it.items.drop (i + 1)) ρ2 m2
            | .ok (.bk ρ2) m2 => .ok (.nx ρ2) m2
            | q => q) β4 H4 D := PostS.later p2 (e3.trans e4)
          have e24 : Ext β1 H1 β4 H4 := (e2.trans e3).trans e4
          cases hf : f ρ3 m3 with
          | stuck => rw [hf] at p3; exact p3
          | ex x m => rw [hf] at p3; exact p3
          | ok a m5 =>
            rw [hf] at p3
            cases a with
            | nx ρ5 => exact fun σ5 H5 β5 e5 M5 E5 => ⟨ρ5, m5, β5, e24.trans e5, E5, M5, PostS.later (r := loopM it.chk g f (it.items.drop (i + 1)) ρ5 m5) p3 e5⟩
            | ct ρ5 => exact fun σ5 H5 β5 e5 M5 E5 => ⟨ρ5, m5, β5, e24.trans e5, E5, M5, PostS.later (r := loopM it.chk g f (it.items.drop (i + 1)) ρ5 m5) p3 e5⟩
            | bk ρ5 => exact p3
            | rt d => exact p3
            | ex x ρ5 => exact p3
      · rw [if_neg hk] at p2; exact p2.elim
    · rw [List.drop_length] at p2
      unfold loopM at p2
      by_cases hk : it.chk m2
      · rw [if_pos hk] at p2; exact p2 σ2 H2 β2 Ext.refl M2 E2
      · rw [if_neg hk] at p2; exact p2.elim
/-! ### while -/
def whileM (c : MT) (f : MS) : Nat → Env → Mem → Re Fl
  | 0, _, _ => .stuck
  | n + 1, ρ, m => onE ρ (c ρ m) fun b m1 => if b = true then (match f ρ m1 with
    | .ok (.nx ρ2) m2 => whileM c f n ρ2 m2
    | .ok (.ct ρ2) m2 => whileM c f n ρ2 m2
    | .ok (.bk ρ2) m2 => .ok (.nx ρ2) m2
    | q => q) else .ok (.nx ρ) m1
theorem js_while {c : Expr} {body : List Stmt} {fc : MT} {f : MS} (n : Nat) (hp : PassesOwn (model X.prog X.w) X.A X.env X.xe) (hc : JT X W c fc) (hb : JB X W body f) : JS X W (.While c body [] pos) (fun ρ m => whileM fc f n ρ m) := by
  refine ⟨ps_imp (ps_while hp hc.run hb.run) fun D σ H q => ?_⟩
  obtain ⟨ρ, m, β, hE, hM, p⟩ := tS_of q
  refine ⟨fun k σ H => ∃ ρ m β, RE X.K β H ρ σ ∧ RM X.K β H m ∧ PostS X W (whileM fc f k ρ m) β H D, ⟨n, ρ, m, β, hE, hM, p⟩, ?_⟩
  rintro k σ1 H1 ⟨ρ1, m1, β1, E1, M1, p1⟩
  cases k with
  | zero => exact p1.elim
  | succ k =>
    unfold whileM at p1
    refine ⟨ρ1, m1, β1, E1, M1, PostS.on (D := D) (R := fun _ _ d v => d = v) E1 M1 p1 fun b m2 v H2 β2 _ e2 M2 V2 p2 => ?_⟩
    subst V2
    cases b with
    | false => exact p2 σ1 H2 β2 Ext.refl M2 (E1.ext M1 e2)
    | true =>
      rw [if_pos rfl] at p2 ⊢
      refine ⟨fun σ' H' => ∃ ρ m β, RE X.K β H' ρ σ' ∧ RM X.K β H' m ∧ PostS X W (whileM fc f k ρ m) β H' D, fun σ' H' w => ⟨k, Nat.lt_succ_self k, w⟩, ρ1, m2, β2, E1.ext M1 e2, M2, ?_⟩
      cases hf : f ρ1 m2 with
      | stuck => rw [hf] at p2; exact p2
      | ex x m => rw [hf] at p2; exact p2
      | ok a m5 =>
        rw [hf] at p2
        cases a with
        | nx ρ5 => exact fun σ5 H5 β5 e5 M5 E5 => ⟨ρ5, m5, β5, E5, M5, PostS.later (r := whileM fc f k ρ5 m5) p2 e5⟩
        | ct ρ5 => exact fun σ5 H5 β5 e5 M5 E5 => ⟨ρ5, m5, β5, E5, M5, PostS.later (r := whileM fc f k ρ5 m5) p2 e5⟩
        | bk ρ5 => exact p2
        | rt d => exact p2
        | ex x ρ5 => exact p2
end
end MI
namespace MI
open PySem L2
section
variable {X : Cx} {W : WX} {pos : Pos} {K : PySem.W.Frag} {β : List Addr} {H : Hp} {m : Mem}
/-! ### a comprehension's target: names alone -/
abbrev NG := MV → Mem → Option (List (Nat × MV))
def setE (ρ : Env) : List (Nat × MV) → Env
  | [] => ρ
  | (i, d) :: r => setE (ρ.set i (some d)) r
def setS (σ : L2.St) : List (Nat × V) → L2.St
  | [] => σ
  | (i, v) :: r => setS (σ.set i (some v)) r
inductive RAs (K : PySem.W.Frag) (β : List Addr) (H : Hp) : List (Nat × MV) → List (Nat × V) → Prop
  | nil : RAs K β H [] []
  | cons {i : Nat} {d : MV} {v : V} {ds : List (Nat × MV)} {vs : List (Nat × V)} : RV K β H d v → RAs K β H ds vs → RAs K β H ((i, d) :: ds) ((i, v) :: vs)
theorem RE.setAs : ∀ {ds : List (Nat × MV)} {vs : List (Nat × V)}, RAs K β H ds vs → ∀ {ρ : Env} {σ : L2.St}, RE K β H ρ σ → RE K β H (setE ρ ds) (setS σ vs)
  | _, _, .nil, _, _, h => h
  | _, _, .cons v r, _, _, h => RE.setAs r (h.set v)
theorem RAs.app : ∀ {ds es : List (Nat × MV)} {vs us : List (Nat × V)}, RAs K β H ds vs → RAs K β H es us → RAs K β H (ds ++ es) (vs ++ us)
  | _, _, _, _, .nil, q => q
  | _, _, _, _, .cons h r, q => .cons h (RAs.app r q)
theorem RAs.fst : ∀ {ds : List (Nat × MV)} {vs : List (Nat × V)}, RAs K β H ds vs → ds.map (·.1) = vs.map (·.1)
  | _, _, .nil => rfl
  | _, _, .cons _ r => by simp [RAs.fst r]
theorem RAs.ext (R : RM K β H m) {β' : List Addr} {H' : Hp} (e : Ext β H β' H') : ∀ {ds : List (Nat × MV)} {vs : List (Nat × V)}, RAs K β H ds vs → RAs K β' H' ds vs
  | _, _, .nil => .nil
  | _, _, .cons h r => .cons (h.ext R e) (RAs.ext R e r)
/-- what the target does, at the slots themselves -/
def tNG (X : Cx) (g : NG) : TG := fun v σ H Q => ∃ d m β, RV X.K β H d v ∧ RM X.K β H m ∧ ∃ as, g d m = some as ∧ ∀ vs, RAs X.K β H as vs → Q (setS σ vs) H
structure JNG (X : Cx) (tg : Expr) (g : NG) : Prop where
  run : PG X tg (tNG X g)
def ngName (i : Nat) : NG := fun d _ => some [(i, d)]
theorem jn_name (i : Nat) {x : Str} (hN : X.N.Nodup) (hi : X.N[i]? = some x := by rfl) (hx : Loc X.env.scope x := by first | exact Or.inl rfl | exact Or.inr rfl) (hf : X.fn x = true ∨ X.env.scope.names.lookup x = some .local := by first | exact .inl rfl | exact .inr rfl | assumption) : JNG X (.Name x pos) (ngName i) :=
  ⟨pg_imp (pg_name hN hi hx hf) fun v σ H Q ⟨d, m, β, V, hM, as, h, p⟩ => by
    unfold ngName at h
    cases h
    exact p [(i, v)] (.cons V .nil)⟩
/-- several: each a name -/
abbrev NGs := List MV → Mem → Option (List (Nat × MV))
def tNGs (X : Cx) (g : NGs) : TGs := fun us σ H Q => ∃ ds m β, RVs X.K β H ds us ∧ RM X.K β H m ∧ ∃ as, g ds m = some as ∧ ∀ vs, RAs X.K β H as vs → Q (setS σ vs) H
structure JNGs (X : Cx) (tg : List Expr) (g : NGs) : Prop where
  run : PGs X tg (tNGs X g)
def ngNil : NGs := fun ds _ => match ds with
  | [] => some []
  | _ => none
def ngCons (g : NG) (k : NGs) : NGs := fun ds m => match ds with
  | d :: r => match g d m, k r m with
    | some a, some b => some (a ++ b)
    | _, _ => none
  | _ => none
theorem setS_app {σ : L2.St} : ∀ {a b : List (Nat × V)}, setS σ (a ++ b) = setS (setS σ a) b := by
  intro a
  induction a generalizing σ with
  | nil => intro b; rfl
  | cons p r ih => intro b; obtain ⟨i, v⟩ := p; exact ih
theorem jn_nil : JNGs X [] ngNil := ⟨pgs_imp pgs_nil fun v σ H Q ⟨ds, m, β, V, hM, as, h, p⟩ => by
  cases V with
  | nil => cases h; exact ⟨rfl, p [] .nil⟩
  | cons _ _ => cases h⟩
theorem jn_cons {e : Expr} {es : List Expr} {g : NG} {k : NGs} (h1 : JNG X e g) (h2 : JNGs X es k) (hs : (assignEach (e :: es) X.env).map (·.2) = assign e X.env :: (assignEach es X.env).map (·.2) := by rfl) : JNGs X (e :: es) (ngCons g k) :=
  ⟨pgs_imp (pgs_cons h1.run h2.run hs) fun us σ H Q ⟨ds, m, β, V, hM, as, h, p⟩ => by
    cases V with
    | nil => cases h
    | @cons d v ds vs q r =>
      unfold ngCons at h
      have h : (match g d m, k ds m with | some a, some b => some (a ++ b) | _, _ => none) = some as := h
      split at h
      · rename_i a b e1 e2
        cases h
        exact ⟨v, vs, rfl, d, m, β, q, hM, a, e1, fun ws hw => ⟨ds, m, β, r, hM, b, e2, fun zs hz => by rw [← setS_app]; exact p _ (hw.app hz)⟩⟩
      · cases h⟩
def ngTup (n : Nat) (k : NGs) : NG := fun d m => match seqOf m d with
  | some l => if l.length = n then k l m else none
  | none => none
theorem jn_tup {es : List Expr} {k : Nat} {g : NGs} {n : Nat} (hc : X.calm = true) (h : JNGs X es g) (hn : (assignEach es X.env).length = n := by rfl) (hst : (assignEach es X.env).findIdx? (·.1) = none := by rfl) : JNG X (.Tuple es k pos) (ngTup n g) :=
  ⟨pg_imp (pg_or (pg_tup hc h.run hn hst) (pg_unl hc h.run hn hst)) fun v σ H Q ⟨d, m, β, V, hM, as, h, p⟩ => by
    unfold ngTup at h
    cases e : seqOf m d with
    | none => rw [e] at h; cases h
    | some l =>
      rw [e] at h
      obtain ⟨a, vs, rfl, hs, hr⟩ := hM.seq V e
      by_cases q : l.length = n
      · simp only [q, if_true] at h
        rcases hs with hs | hs
        · exact .inr ⟨a, vs, rfl, hs, by rw [← hr.length]; exact q, l, m, β, hr, hM, as, h, p⟩
        · exact .inl ⟨a, vs, rfl, hs, by rw [← hr.length]; exact q, l, m, β, hr, hM, as, h, p⟩
      · simp only [q, if_false] at h; cases h⟩
/-! ### list comprehensions -/
def wipeM (ρ : Env) : List Nat → Env
  | [] => ρ
  | v :: vs => (wipeM ρ vs).set v none
theorem RE.wipe {ρ : Env} {σ : L2.St} (h : RE K β H ρ σ) : ∀ vs : List Nat, RE K β H (wipeM ρ vs) (L2.wipe σ vs)
  | [] => h
  | v :: vs => by
    have ih := RE.wipe h vs
    refine ⟨by show ((wipeM ρ vs).set v none).length = ((L2.wipe σ vs).set v none).length; simp [ih.len], fun i d e => ?_⟩
    have e : ((wipeM ρ vs).set v none)[i]? = some (some d) := e
    show ∃ u, ((L2.wipe σ vs).set v none)[i]? = some (some u) ∧ _
    by_cases q : v = i
    · subst q
      rw [List.getElem?_set_self'] at e
      cases z : (wipeM ρ vs)[v]? with
      | none => rw [z] at e; cases e
      | some w => rw [z] at e; cases e
    · rw [List.getElem?_set_ne q] at e ⊢
      exact ih.at_ i d e
theorem wipe_set {σ : L2.St} {i : Nat} {o : Option V} : ∀ {vs : List Nat}, i ∈ vs → L2.wipe (σ.set i o) vs = L2.wipe σ vs := by
  intro vs
  induction vs with
  | nil => intro h; cases h
  | cons v vs ih =>
    intro h
    show (L2.wipe (σ.set i o) vs).set v none = (L2.wipe σ vs).set v none
    by_cases q : i ∈ vs
    · rw [ih q]
    · have hv : i = v := by
        rcases List.mem_cons.mp h with z | z
        · exact z
        · exact absurd z q
      subst hv
      have comm : ∀ (ws : List Nat), i ∉ ws → L2.wipe (σ.set i o) ws = (L2.wipe σ ws).set i o := by
        intro ws
        induction ws with
        | nil => intro _; rfl
        | cons w ws ih2 =>
          intro hn
          show (L2.wipe (σ.set i o) ws).set w none = ((L2.wipe σ ws).set w none).set i o
          rw [ih2 (fun z => hn (List.mem_cons_of_mem _ z)), List.set_comm]
          intro z
          exact hn (by rw [z]; exact List.mem_cons_self)
      rw [comm vs q, List.set_set]
theorem wipe_setS {vs : List Nat} : ∀ {as : List (Nat × V)} {σ : L2.St}, (∀ p ∈ as, p.1 ∈ vs) → L2.wipe (setS σ as) vs = L2.wipe σ vs
  | [], _, _ => rfl
  | (i, v) :: r, σ, h => by
    show L2.wipe (setS (σ.set i (some v)) r) vs = _
    rw [wipe_setS (as := r) fun p hp => h p (List.mem_cons_of_mem _ hp)]
    exact wipe_set (h (i, v) List.mem_cons_self)
theorem wipe_wipe {σ : L2.St} {vs : List Nat} : L2.wipe (L2.wipe σ vs) vs = L2.wipe σ vs := by
  have gen : ∀ (ws us : List Nat) (σ : L2.St), (∀ w ∈ ws, w ∈ us) → L2.wipe (L2.wipe σ ws) us = L2.wipe σ us := by
    intro ws
    induction ws with
    | nil => intro us σ _; rfl
    | cons w ws ih =>
      intro us σ h
      show L2.wipe ((L2.wipe σ ws).set w none) us = _
      rw [wipe_set (h w List.mem_cons_self)]
      exact ih us σ fun z hz => h z (List.mem_cons_of_mem _ hz)
  exact gen vs vs σ fun _ h => h
open Classical in
noncomputable def lcM (chk : Mem → Prop) (g : NG) (t : MT) (e : ME) (ρ : Env) : List MV → List MV → Mem → Re (List MV)
  | [], acc, m => if chk m then .ok acc m else .stuck
  | d :: r, acc, m => if chk m then (match g d m with
    | some as => match t (setE ρ as) m with
      | .ok true m2 => match e (setE ρ as) m2 with
        | .ok y m3 => if acc.length < sizeLine then lcM chk g t e ρ r (acc ++ [y]) m3 else .stuck
        | _ => .stuck
      | .ok false m2 => lcM chk g t e ρ r acc m2
      | _ => .stuck
    | none => .stuck) else .stuck
noncomputable def mLc (h : MI') (g : NG) (t : MT) (e : ME) (vs : List Nat) : ME := fun ρ m => (h ρ m).bind fun it m1 => (lcM it.chk g t e (wipeM ρ vs) it.items [] m1).bind fun l m2 => alloc (.lst l) m2
end
end MI
namespace MI
open PySem L2
section
variable {X : Cx} {W : WX} {pos : Pos} {K : PySem.W.Frag} {β : List Addr} {H : Hp} {m : Mem}
structure JTs (X : Cx) (W : WX) (es : List Expr) (f : MT) : Prop where
  run : PTs X es (tT X W f)
theorem pts_imp {e : List Expr} {t t' : TT} (h : PTs X e t) (i : ∀ σ H Q, t' σ H Q → t σ H Q) : PTs X e t' := ⟨fun pins s σ H Q I q => h.run pins s σ H Q I (i σ H Q q)⟩
def mYes : MT := fun _ m => .ok true m
theorem jts_nil : JTs X W [] mYes := ⟨pts_imp pts_nil fun σ H Q ⟨ρ, m, β, hE, hM, p⟩ => p.ok hM rfl⟩
theorem jts_one {c : Expr} {f : MT} (h : JT X W c f) : JTs X W [c] f := ⟨pts_one h.run⟩
/-- nothing is raised -/
abbrev W0 : WX := fun _ _ _ _ => False
abbrev blk (X : Cx) (scope : Scope) (s : Shared) (H : Hp) (C : Addr) (cl : List (Str × Addr)) (fp : List Addr) : Cx := X.blk s H scope (PySem.compEnvC scope cl C X.env) fp
theorem Post.of_ok {α γ : Type} {a : α} {m : Mem} {β : List Addr} {H : Hp} {σ : L2.St} {R : List Addr → Hp → α → γ → Prop} {Q : γ → Hp → Prop} (h : ∀ v H' β', Ext β H β' H' → RM X.K β' H' m → R β' H' a v → Q v H') : Post X W (.ok a m) β H σ R Q := h
mutual
theorem RV.grow {β β' : List Addr} {H H' : Hp} (hb : ∀ (n : Nat) a, β[n]? = some a → β'[n]? = some a) (ht : ∀ a xs, SqT K H a xs → SqT K H' a xs) (hk : ∀ a xs, KL K β H a xs → KL K β' H' a xs) : ∀ {d : MV} {v : V}, RV K β H d v → RV K β' H' d v
  | _, _, .non => .non
  | _, _, .bl b => .bl b
  | _, _, .int i => .int i
  | _, _, .str x => .str x
  | _, _, .tup h r => .tup (ht _ _ h) (RVs.grow hb ht hk r)
  | _, _, .ref h => .ref (hb _ _ h)
  | _, _, .kl h r => .kl (hk _ _ h) (RVs.grow hb ht hk r)
theorem RVs.grow {β β' : List Addr} {H H' : Hp} (hb : ∀ (n : Nat) a, β[n]? = some a → β'[n]? = some a) (ht : ∀ a xs, SqT K H a xs → SqT K H' a xs) (hk : ∀ a xs, KL K β H a xs → KL K β' H' a xs) : ∀ {d : List MV} {v : List V}, RVs K β H d v → RVs K β' H' d v
  | _, _, .nil => .nil
  | _, _, .cons h r => .cons (RV.grow hb ht hk h) (RVs.grow hb ht hk r)
end
theorem RKs.grow {β β' : List Addr} {H H' : Hp} (hb : ∀ (n : Nat) a, β[n]? = some a → β'[n]? = some a) (ht : ∀ a xs, SqT K H a xs → SqT K H' a xs) (hk : ∀ a xs, KL K β H a xs → KL K β' H' a xs) : ∀ {d : List (Key × MV)} {v : List (Key × V)}, RKs K β H d v → RKs K β' H' d v
  | _, _, .nil => .nil
  | _, _, .cons h r => .cons (RV.grow hb ht hk h) (RKs.grow hb ht hk r)
theorem RFs.grow {β β' : List Addr} {H H' : Hp} (hb : ∀ (n : Nat) a, β[n]? = some a → β'[n]? = some a) (ht : ∀ a xs, SqT K H a xs → SqT K H' a xs) (hk : ∀ a xs, KL K β H a xs → KL K β' H' a xs) : ∀ {d : List (Str × MV)} {v : List (Str × V)}, RFs K β H d v → RFs K β' H' d v
  | _, _, .nil => .nil
  | _, _, .cons h r => .cons (RV.grow hb ht hk h) (RFs.grow hb ht hk r)
theorem RO.grow {β β' : List Addr} {H H' : Hp} (hb : ∀ (n : Nat) a, β[n]? = some a → β'[n]? = some a) (ht : ∀ a xs, SqT K H a xs → SqT K H' a xs) (hk : ∀ a xs, KL K β H a xs → KL K β' H' a xs) {o : MO} {a : Addr} (ha : H' a = H a) (r : RO K β H o a) : RO K β' H' o a := by
  cases o with
  | lst l => obtain ⟨vs, h, q⟩ := r; exact ⟨vs, by rw [ha]; exact h, q.grow hb ht hk⟩
  | frz l => obtain ⟨vs, ob, h, q⟩ := r; exact ⟨vs, ob, by rw [ha]; exact h, q.grow hb ht hk⟩
  | dct l => obtain ⟨vs, h, q⟩ := r; exact ⟨vs, by rw [ha]; exact h, q.grow hb ht hk⟩
  | exn x => obtain ⟨C, h1, h2⟩ := r; exact ⟨C, h1, by rw [ha]; exact h2⟩
  | own c l => obtain ⟨C, dx, vs, h1, h2, h3⟩ := r; exact ⟨C, dx, vs, h1, by rw [ha]; exact h2, h3.grow hb ht hk⟩
/-- a list that the small world does not number is written -/
theorem sqt_off {H : Hp} {D a : Addr} {l l' xs : List V} (hD : H D = some (.lst l)) (h : SqT K H a xs) : SqT K (upd H D (.lst l')) a xs := by
  rcases h with (h | ⟨o, h⟩) | h
  · exact .inl (.inl (by rw [upd_ne (ne_of h hD (by intro z; cases z))]; exact h))
  · exact .inl (.inr ⟨o, by rw [upd_ne (ne_of h hD (by intro z; cases z))]; exact h⟩)
  · exact .inr h
theorem kl_off {H : Hp} {D a : Addr} {l l' xs : List V} {β : List Addr} (hD : H D = some (.lst l)) (h : KL K β H a xs) : KL K β (upd H D (.lst l')) a xs := by
  rcases h with ⟨n, o, h⟩ | h
  · exact .inl ⟨n, o, by rw [upd_ne (ne_of h hD (by intro z; cases z))]; exact h⟩
  · exact .inr h
theorem kl_adopt {H : Hp} {D a : Addr} {l xs : List V} {β : List Addr} (hD : H D = some (.lst l)) (h : KL K β H a xs) : KL K (β ++ [D]) H a xs := by
  rcases h with ⟨n, o, h⟩ | h
  · refine .inl ⟨fun z => ?_, o, h⟩
    rcases List.mem_append.mp z with z | z
    · exact n z
    · simp at z
      subst z
      rw [hD] at h
      cases h
  · exact .inr h
theorem RM.off {β : List Addr} {H : Hp} {m : Mem} (R : RM K β H m) {D : Addr} {l l' : List V} (n : D ∉ β) (hD : H D = some (.lst l)) : RM K β (upd H D (.lst l')) m :=
  ⟨R.len, R.nd, fun i o a h1 h2 => (R.ob i o a h1 h2).grow (fun _ _ h => h) (fun _ _ h => sqt_off hD h) (fun _ _ h => kl_off hD h) (upd_ne fun z => n (z ▸ List.mem_of_getElem? h2))⟩
/-- .. and gets a number -/
theorem RM.adopt {β : List Addr} {H : Hp} {m : Mem} (R : RM K β H m) {D : Addr} {l : List V} {ds : List MV} (n : D ∉ β) (hD : H D = some (.lst l)) (r : RVs K β H ds l) : RM K (β ++ [D]) H (m ++ [.lst ds]) := by
  have hb : ∀ (n : Nat) a, β[n]? = some a → (β ++ [D])[n]? = some a := fun n a h => by rw [List.getElem?_append_left (List.getElem?_eq_some_iff.mp h).1]; exact h
  refine ⟨by simp [R.len], ?_, fun i ob a h1 h2 => ?_⟩
  · rw [List.nodup_append]
    refine ⟨R.nd, by simp, fun a ha b hb => ?_⟩
    simp at hb
    subst hb
    intro z
    subst z
    exact n ha
  · by_cases hn : i < m.length
    · rw [List.getElem?_append_left hn] at h1
      rw [List.getElem?_append_left (by rw [R.len]; exact hn)] at h2
      exact (R.ob i ob a h1 h2).grow hb (fun _ _ h => h) (fun _ _ h => kl_adopt hD h) rfl
    · rw [List.getElem?_append_right (by omega)] at h1
      rw [List.getElem?_append_right (by rw [R.len]; omega), R.len] at h2
      cases hk : i - m.length with
      | zero =>
        rw [hk] at h1 h2
        simp at h1 h2
        subst h1; subst h2
        exact ⟨l, hD, r.grow hb (fun _ _ h => h) fun _ _ h => kl_adopt hD h⟩
      | succ k => rw [hk] at h1; simp at h1
theorem Ext.later {β β' : List Addr} {H H' : Hp} (e : Ext β H β' H') {D : Addr} {o : HO} (h : H D = none) : Ext β H β' (upd H' D o) :=
  ⟨e.pre, fun a u q n => by rw [upd_ne (ne_of_none q h)]; exact e.old a u q n, e.new⟩
theorem Ext.adopt {β β' : List Addr} {H H' : Hp} (e : Ext β H β' H') {D : Addr} (h : H D = none) : Ext β H (β' ++ [D]) H' :=
  ⟨by obtain ⟨r, rfl⟩ := e.pre; exact ⟨r ++ [D], by simp⟩, e.old, fun a q => by
    rcases List.mem_append.mp q with q | q
    · exact e.new a q
    · simp at q; subst q; exact .inr h⟩
theorem lc_imp {h : MI'} {g : NG} {t : MT} {e : ME} (own : List (Str × Nat)) (hgs : ∀ d m as, g d m = some as → ∀ p ∈ as, p.1 ∈ own.map (·.2)) {σ : L2.St} {H : Hp} {Q : VK} (q : tE X W (mLc h g t e (own.map (·.2))) σ H Q) :
    tLc (tI X W h) (tNG X g) (tT X W0 t) (tE X W0 e) (own.map (·.2)) σ H Q := by
  obtain ⟨ρ, m, β, hE, hM, p⟩ := q
  refine ⟨ρ, m, β, hE, hM, ?_⟩
  have p : Post X W ((h ρ m).bind fun it m1 => (lcM it.chk g t e (wipeM ρ (own.map (·.2))) it.items [] m1).bind fun l m2 => alloc (.lst l) m2) β H σ (fun β' H' d v => RV X.K β' H' d v) Q := p
  cases hh : h ρ m with
  | stuck => rw [hh] at p; exact p.elim
  | ex x m1 => rw [hh] at p; exact p
  | ok it m1 =>
    rw [hh] at p
    intro H1 β1 J e1 M1 w1 D hD
    have p1 : Post X W ((lcM it.chk g t e (wipeM ρ (own.map (·.2))) it.items [] m1).bind fun l m2 => alloc (.lst l) m2) β1 H1 σ (fun β' H' d v => RV X.K β' H' d v) Q := Post.later p e1
    obtain ⟨G, Y, wk, hG, hY⟩ := w1.ex
    have hE1 := hE.ext hM e1
    have old : ∀ {β2 : List Addr} {H2 : Hp}, Ext β1 H1 β2 H2 → D ∉ β2 → True := fun _ _ => trivial
    -- what holds at turn i
    let Pv : Nat → Hp → Prop := fun i H2 => ∃ m2 β2 acc accV, Ext β1 H1 β2 H2 ∧ D ∉ β2 ∧ RM X.K β2 H2 m2 ∧ H2 D = some (.lst accV) ∧ RVs X.K β2 H2 acc accV ∧
      Post X W ((lcM it.chk g t e (wipeM ρ (own.map (·.2))) (it.items.drop i) acc m2).bind fun l m2 => alloc (.lst l) m2) β1 H1 σ (fun β' H' d v => RV X.K β' H' d v) Q
    have nD : D ∉ β1 := M1.fresh hD
    refine lc_it wk Pv ⟨m1, β1, [], [], Ext.tup hD, nD, M1.tup hD, upd_same, .nil, by rw [List.drop_zero]; exact p1⟩ (fun i H2 hi ⟨m2, β2, acc, accV, e2, n2, M2, h2, r2, p2⟩ => ?_) (fun i x H2 H3 hi ⟨m2, β2, acc, accV, e2, n2, M2, h2, r2, p2⟩ y => ?_) (fun H2 ⟨m2, β2, acc, accV, e2, n2, M2, h2, r2, p2⟩ => ?_)
    · refine hG β2 H2 m2 e2 M2 (Classical.byContradiction fun nc => ?_)
      cases hd : it.items.drop i with
      | nil => rw [hd] at p2; unfold lcM at p2; rw [if_neg nc] at p2; exact p2
      | cons d r => rw [hd] at p2; unfold lcM at p2; rw [if_neg nc] at p2; exact p2
    · have hdr : it.items.drop i = it.items[i] :: it.items.drop (i + 1) := List.drop_eq_getElem_cons hi
      rw [hdr] at p2
      unfold lcM at p2
      by_cases hk : it.chk m2
      · rw [if_pos hk] at p2
        obtain ⟨e3, M3, V3⟩ := hY i H2 x H3 β2 m2 it.items[i] e2 M2 hk (by simp [hi]) y
        have h3 : H3 D = some (.lst accV) := e3.old D _ h2 n2
        cases hgd : g it.items[i] m2 with
        | none => rw [hgd] at p2; exact p2.elim
        | some as =>
          rw [hgd] at p2
          dsimp only at p2
          refine ⟨it.items[i], m2, β2, V3, M3, as, hgd, fun ws hw => ⟨?_, ?_⟩⟩
          · rw [wipe_setS fun q hq => ?_, wipe_wipe]
            have hm : q.1 ∈ ws.map (·.1) := List.mem_map_of_mem hq
            rw [← hw.fst] at hm
            obtain ⟨q', hq', e'⟩ := List.mem_map.mp hm
            rw [← e']
            exact hgs _ _ _ hgd q' hq'
          · have hW : RE X.K β2 H3 (wipeM ρ (own.map (·.2))) (L2.wipe σ (own.map (·.2))) := ((hE1.ext M1 e2).ext M2 e3).wipe _
            have hW2 := RE.setAs (ρ := wipeM ρ (own.map (·.2))) (σ := L2.wipe σ (own.map (·.2))) hw hW
            refine ⟨_, m2, β2, hW2, M3, ?_⟩
            cases hT : t (setE (wipeM ρ (own.map (·.2))) as) m2 with
            | stuck => rw [hT] at p2; exact p2.elim
            | ex x m => rw [hT] at p2; exact p2.elim
            | ok b m4 =>
              rw [hT] at p2
              intro b' H4 β4 e4 M4 V4
              subst V4
              have h4 : H4 D = some (.lst accV) := e4.old D _ h3 n2
              have n4 : D ∉ β4 := fun z => by
                rcases e4.new D z with z | z
                · exact n2 z
                · rw [h3] at z; cases z
              cases b with
              | false =>
                exact ⟨m4, β4, acc, accV, (e2.trans e3).trans e4, n4, M4, h4, (r2.ext M2 e3).ext M3 e4, p2⟩
              | true =>
                rw [if_pos rfl]
                refine ⟨_, m4, β4, hW2.ext M3 e4, M4, ?_⟩
                cases hv : e (setE (wipeM ρ (own.map (·.2))) as) m4 with
                | stuck => simp only [hv] at p2; exact p2.elim
                | ex x m => simp only [hv] at p2; exact p2.elim
                | ok d m5 =>
                  simp only [hv] at p2
                  intro v H5 β5 e5 M5 V5
                  have h5 : H5 D = some (.lst accV) := e5.old D _ h4 n4
                  have n5 : D ∉ β5 := fun z => by
                    rcases e5.new D z with z | z
                    · exact n4 z
                    · rw [h4] at z; cases z
                  have r5 := ((r2.ext M2 e3).ext M3 e4).ext M4 e5
                  by_cases hl : acc.length < sizeLine
                  · rw [if_pos hl] at p2
                    -- D grows; it is no object of the small world
                    have e15 : Ext β1 H1 β5 H5 := ((e2.trans e3).trans e4).trans e5
                    exact ⟨accV, h5, by rw [← r5.length]; exact hl, m5, β5, acc ++ [d], accV ++ [v], e15.later hD, n5, M5.off n5 h5, upd_same, (r5.app (.cons V5 .nil)).grow (fun _ _ h => h) (fun _ _ h => sqt_off h5 h) (fun _ _ h => kl_off h5 h), p2⟩
                  · rw [if_neg hl] at p2; exact p2.elim
      · rw [if_neg hk] at p2; exact p2.elim
    · rw [List.drop_length] at p2
      unfold lcM at p2
      by_cases hk : it.chk m2
      · rw [if_pos hk] at p2
        exact p2 (.ref D) H2 (β2 ++ [D]) (e2.adopt hD) (M2.adopt n2 h2 r2) (.ref (by rw [← M2.len]; simp))
      · rw [if_neg hk] at p2; exact p2.elim
theorem je_lc {elt tg iter : Expr} {ifs : List Expr} {scope : Scope} {h : MI'} {g : NG} {t : MT} {e : ME} {vs : List Nat} (own : List (Str × Nat)) (hvs : own.map (·.2) = vs) (hc : X.calm = true) (hN : X.N.Nodup) (hi : JI X W tg iter h) (ok : BlkOk X.N X.env.scope scope own)
    (hg : ∀ s H C cl fp, JNG (blk X scope s H C cl fp) tg g) (ht : ∀ s H C cl fp, JTs (blk X scope s H C cl fp) W0 ifs t) (he : ∀ s H C cl fp, JE (blk X scope s H C cl fp) W0 elt e)
    (hgs : ∀ d m as, g d m = some as → ∀ p ∈ as, p.1 ∈ vs) (hs : ∀ x, foldedSetIterable iter X.env x = pure x := by intro _; rfl) :
    JE X W (.ListComp elt [⟨tg, iter, ifs, 0⟩] scope pos) (mLc h g t e vs) := by
  subst hvs
  exact ⟨pe_imp (pe_lc (g := tNG X g) (tt := tT X W0 t) (te := tE X W0 e) hc hN hi.run ok (fun s H C cl fp => (hg s H C cl fp).run) (fun s H C cl fp => (ht s H C cl fp).run) (fun s H C cl fp => (he s H C cl fp).run) hs) fun σ H Q q => lc_imp own hgs q⟩
/-- name = [..] -/
theorem js_setLc (i : Nat) {y : Str} {py spos : Pos} {elt tg iter : Expr} {ifs : List Expr} {scope : Scope} {h : MI'} {g : NG} {t : MT} {e : ME} {vs : List Nat} (own : List (Str × Nat)) (hvs : own.map (·.2) = vs) (hc : X.calm = true) (hN : X.N.Nodup) (hi : JI X W tg iter h) (ok : BlkOk X.N X.env.scope scope own)
    (hg : ∀ s H C cl fp, JNG (blk X scope s H C cl fp) tg g) (ht : ∀ s H C cl fp, JTs (blk X scope s H C cl fp) W0 ifs t) (he : ∀ s H C cl fp, JE (blk X scope s H C cl fp) W0 elt e)
    (hgs : ∀ d m as, g d m = some as → ∀ p ∈ as, p.1 ∈ vs) (hy : X.N[i]? = some y := by rfl) (hyl : X.env.scope.names.lookup y = some .local := by rfl) (hsw : swapsWith (.ListComp elt [⟨tg, iter, ifs, 0⟩] scope pos) (some (.Name y py)) spos.line X.env = pure true := by rfl) (hs : ∀ x, foldedSetIterable iter X.env x = pure x := by intro _; rfl) :
    JS X W (.Assign [.Name y py] (.ListComp elt [⟨tg, iter, ifs, 0⟩] scope pos) spos) (mAsg (mLc h g t e vs) (nName i)) := by
  subst hvs
  refine ⟨ps_imp (ps_setLc (g := tNG X g) (tt := tT X W0 t) (te := tE X W0 e) hc hN hy hyl hsw hi.run ok (fun s H C cl fp => (hg s H C cl fp).run) (fun s H C cl fp => (ht s H C cl fp).run) (fun s H C cl fp => (he s H C cl fp).run) hs) fun D σ H ⟨ρ, m, β, hE, hM, p⟩ => ?_⟩
  refine lc_imp own hgs (Q := fun x H1 => gName i x σ H1 D.nx) ⟨ρ, m, β, hE, hM, ?_⟩
  exact PostS.on (D := D) (R := fun β' H' d v => RV X.K β' H' d v) hE hM p fun d m1 v H1 β1 _ e M V q => q _ H1 β1 Ext.refl M ((hE.ext hM e).set V)
end
end MI
namespace MI
open PySem L2
section
variable {X : Cx} {W : WX} {pos : Pos} {K : PySem.W.Frag} {β : List Addr} {H : Hp} {m : Mem}
/-! ### built-in functions and types -/
def CrM (X : Cx) (r : List V → Hp → VK → Prop) (g : List MV → Mem → Re MV) : Prop := ∀ (W : WX) (σ : L2.St) (ds : List MV) (m : Mem) (β : List Addr) (H : Hp) (vs : List V) (Q : VK), RM X.K β H m → RVs X.K β H ds vs →
  Post X W (g ds m) β H σ (fun β' H' d v => RV X.K β' H' d v) Q → r vs H Q
theorem cr_or {f : Value} {r r' : List V → Hp → VK → Prop} (h : CallR X f r) (h' : CallR X f r') : CallR X f (fun xs H Q => r xs H Q ∨ r' xs H Q) := by
  intro pins s σ H vs us Q I rv q
  rcases q with q | q
  · exact h pins s σ H vs us Q I rv q
  · exact h' pins s σ H vs us Q I rv q
theorem je_callB {id : String} {r : List V → Hp → VK → Prop} {g : List MV → Mem → Re MV} {ga : MA} {x : Str} {p : Pos} {e : Expr} {es : List Expr} (hc : CallR X (.builtin id) r) (hm : CrM X r g) (mg : X.mg x = none) (hv : bootBuiltins x = some (.builtin id)) (ha : JA X W (e :: es) ga) (hg : Gl X x := by rfl)
    (hn : x ≠ "__name__" := by decide) (hdb : (x == ("__debug__" : Str)) = false := by decide) (he : starEach (e :: es) X.env = (false, eval e X.env) :: starEach es X.env := by rfl) (hpl : (backTo pos (starEach es X.env)).any (·.1) = false := by rfl) :
    JE X W (.Call (.Name x p) (e :: es) [] pos) (mCall g ga) :=
  ⟨pe_imp (pe_callB hc hg mg hv ha.run hn hdb he hpl) fun σ H Q ⟨ρ, m, β, hE, hM, p⟩ => ⟨ρ, m, β, hE, hM, p.bind fun ds m1 vs H1 β1 _ e1 M1 V1 p1 => hm W σ ds m1 β1 H1 vs Q M1 V1 p1⟩⟩
theorem je_callTy {T : String} {r : List V → Hp → VK → Prop} {g : List MV → Mem → Re MV} {ga : MA} {x : Str} {p : Pos} {e : Expr} {es : List Expr} (hc : CallR X (.type T) r) (hm : CrM X r g) (mg : X.mg x = none) (hv : bootBuiltins x = some (.type T)) (ha : JA X W (e :: es) ga) (hg : Gl X x := by rfl)
    (hn : x ≠ "__name__" := by decide) (hdb : (x == ("__debug__" : Str)) = false := by decide) (he : starEach (e :: es) X.env = (false, eval e X.env) :: starEach es X.env := by rfl) (hpl : (backTo pos (starEach es X.env)).any (·.1) = false := by rfl) :
    JE X W (.Call (.Name x p) (e :: es) [] pos) (mCall g ga) :=
  ⟨pe_imp (pe_callTy hc hg mg hv ha.run hn hdb he hpl) fun σ H Q ⟨ρ, m, β, hE, hM, p⟩ => ⟨ρ, m, β, hE, hM, p.bind fun ds m1 vs H1 β1 _ e1 M1 V1 p1 => hm W σ ds m1 β1 H1 vs Q M1 V1 p1⟩⟩
/-- len -/
def lenM (m : Mem) : MV → Option Nat
  | .str z => if z.length ≤ sizeLine then some z.length else none
  | .ref n => match dctOf m (.ref n) with
    | some (_, l) => some l.length
    | none => (lstOf m (.ref n)).map List.length
  | d => (seqOf m d).map List.length
def gLen : List MV → Mem → Re MV
  | [d], m => match lenM m d with
    | some n => .ok (.int (n : Int)) m
    | none => .stuck
  | _, _ => .stuck
abbrev rLenA (K : PySem.W.Frag) : List V → Hp → VK → Prop := fun xs H Q => (∃ p ys, xs = [V.ref p] ∧ (SqL K H p ys ∨ SqT K H p ys) ∧ Q (V.int ys.length) H) ∨ (∃ z, xs = [V.str z] ∧ z.length ≤ sizeLine ∧ Q (V.int z.length) H) ∨ (∃ a kvs, xs = [V.ref a] ∧ H a = some (.dK kvs) ∧ Q (V.int kvs.length) H)
theorem cr_len : CallR X (.builtin "len") (rLenA X.K) := cr_or call_len_seq (cr_or call_len_str call_lenD)
theorem cm_len : CrM X (rLenA X.K) gLen := by
  intro W σ ds m β H vs Q M V p
  unfold gLen at p
  split at p
  · cases V with
    | cons h r =>
      cases r
      split at p
      · rename_i n e
        have p : Q (V.int (n : Int)) H := p.ok M (.int _)
        unfold lenM at e
        split at e
        · cases h
          split at e
          · rename_i q
            cases e
            exact .inr (.inl ⟨_, rfl, q, p⟩)
          · cases e
        · split at e
          · rename_i n' l e1
            cases e
            obtain ⟨a, vs, rfl, h1, h2, h3⟩ := M.dct h e1
            exact .inr (.inr ⟨a, vs, rfl, h2, by rw [← h3.length]; exact p⟩)
          · cases q : lstOf m (.ref ‹Nat›) with
            | none => rw [q] at e; cases e
            | some l =>
              rw [q] at e
              cases e
              obtain ⟨a, vs, rfl, h1, h2⟩ := M.lst h q
              exact .inl ⟨a, vs, rfl, .inl h1, by rw [← h2.length]; exact p⟩
        · obtain ⟨l, q, e2⟩ := Option.map_eq_some_iff.mp e
          subst e2
          obtain ⟨a, vs, rfl, h1, h2⟩ := M.seq h q
          exact .inl ⟨a, vs, rfl, h1, by rw [← h2.length]; exact p⟩
      · exact p.not_stuck
  · exact p.not_stuck
/-- int of an int, of a bool -/
def gInt : List MV → Mem → Re MV
  | [.int i], m => .ok (.int i) m
  | [.bl b], m => .ok (.int (if b = true then 1 else 0)) m
  | _, _ => .stuck
theorem cm_int : CrM X (fun xs H Q => (∃ i, xs = [V.int i] ∧ Q (V.int i) H) ∨ ∃ k, xs = [V.bl k] ∧ Q (V.int (if k = true then 1 else 0)) H) gInt := by
  intro W σ ds m β H vs Q M V p
  unfold gInt at p
  split at p
  · cases V with | cons h r => cases r; cases h; exact .inl ⟨_, rfl, p.ok M (.int _)⟩
  · cases V with | cons h r => cases r; cases h; exact .inr ⟨_, rfl, p.ok M (.int _)⟩
  · exact p.not_stuck
def gAbs : List MV → Mem → Re MV
  | [.int i], m => .ok (.int (if i < 0 then -i else i)) m
  | _, _ => .stuck
theorem cm_abs : CrM X (fun xs H Q => ∃ i, xs = [V.int i] ∧ Q (V.int (if i < 0 then -i else i)) H) gAbs := by
  intro W σ ds m β H vs Q M V p
  unfold gAbs at p
  split at p
  · cases V with | cons h r => cases r; cases h; exact ⟨_, rfl, p.ok M (.int _)⟩
  · exact p.not_stuck
def gMin2 : List MV → Mem → Re MV
  | [.int i, .int j], m => .ok (.int (if j < i then j else i)) m
  | _, _ => .stuck
theorem cm_min2 : CrM X (fun xs H Q => ∃ i j, xs = [V.int i, V.int j] ∧ Q (V.int (if j < i then j else i)) H) gMin2 := by
  intro W σ ds m β H vs Q M V p
  unfold gMin2 at p
  split at p
  · cases V with | cons h r => cases r with | cons h2 r => cases r; cases h; cases h2; exact ⟨_, _, rfl, p.ok M (.int _)⟩
  · exact p.not_stuck
/-- list(..), tuple(..) -/
def gList : List MV → Mem → Re MV
  | [d], m => match seqOf m d with
    | some l => alloc (.lst l) m
    | none => .stuck
  | _, _ => .stuck
theorem cm_list : CrM X (fun xs H Q => ∃ p ys, xs = [V.ref p] ∧ (SqL X.K H p ys ∨ SqT X.K H p ys) ∧ ∀ l, H l = none → Q (V.ref l) (upd H l (.lst ys))) gList := by
  intro W σ ds m β H vs Q M V p
  unfold gList at p
  split at p
  · cases V with
    | cons h r =>
      cases r
      split at p
      · rename_i l e
        obtain ⟨a, vs, rfl, h1, h2⟩ := M.seq h e
        exact ⟨a, vs, rfl, h1, fun q hq => p.alloc M hq ⟨_, upd_same, h2.ext M (Ext.push hq)⟩⟩
      · exact p.not_stuck
  · exact p.not_stuck
def gTuple : List MV → Mem → Re MV
  | [d], m => match seqOf m d with
    | some l => .ok (.tup l) m
    | none => .stuck
  | _, _ => .stuck
theorem cm_tuple : CrM X (fun xs H Q => ∃ p ys, xs = [V.ref p] ∧ ((SqL X.K H p ys ∧ ∀ l, H l = none → Q (V.ref l) (upd H l (.tup ys))) ∨ (SqT X.K H p ys ∧ Q (V.ref p) H))) gTuple := by
  intro W σ ds m β H vs Q M V p
  unfold gTuple at p
  split at p
  · cases V with
    | cons h r =>
      cases r
      split at p
      · rename_i l e
        obtain ⟨a, vs, rfl, h1, h2⟩ := M.seq h e
        rcases h1 with h1 | h1
        · exact ⟨a, vs, rfl, .inl ⟨h1, fun q hq => p.newtup M hq h2⟩⟩
        · exact ⟨a, vs, rfl, .inr ⟨h1, p.ok M (.tup h1 h2)⟩⟩
      · exact p.not_stuck
  · exact p.not_stuck
/-- ints alone, bools alone -/
def intsOf : List MV → Option (List Int)
  | [] => some []
  | .int i :: r => (intsOf r).map (i :: ·)
  | _ :: _ => none
def blsOf : List MV → Option (List Bool)
  | [] => some []
  | .bl i :: r => (blsOf r).map (i :: ·)
  | _ :: _ => none
def strsOf : List MV → Option (List Str)
  | [] => some []
  | .str i :: r => (strsOf r).map (i :: ·)
  | _ :: _ => none
theorem RVs.ints : ∀ {l : List MV} {vs : List V} {ns : List Int}, RVs K β H l vs → intsOf l = some ns → vs = ns.map V.int
  | [], _, _, .nil, h => by cases h; rfl
  | .int i :: r, _, _, .cons (.int _) q, h => by
    unfold intsOf at h
    cases e : intsOf r with
    | none => rw [e] at h; cases h
    | some ns => rw [e] at h; cases h; rw [RVs.ints q e]; rfl
theorem RVs.bls : ∀ {l : List MV} {vs : List V} {ns : List Bool}, RVs K β H l vs → blsOf l = some ns → vs = ns.map V.bl
  | [], _, _, .nil, h => by cases h; rfl
  | .bl i :: r, _, _, .cons (.bl _) q, h => by
    unfold blsOf at h
    cases e : blsOf r with
    | none => rw [e] at h; cases h
    | some ns => rw [e] at h; cases h; rw [RVs.bls q e]; rfl
theorem RVs.strs : ∀ {l : List MV} {vs : List V} {ns : List Str}, RVs K β H l vs → strsOf l = some ns → vs = ns.map V.str
  | [], _, _, .nil, h => by cases h; rfl
  | .str i :: r, _, _, .cons (.str _) q, h => by
    unfold strsOf at h
    cases e : strsOf r with
    | none => rw [e] at h; cases h
    | some ns => rw [e] at h; cases h; rw [RVs.strs q e]; rfl
def gSum : List MV → Mem → Re MV
  | [d], m => match (lstOf m d).bind intsOf with
    | some ns => .ok (.int ns.sum) m
    | none => .stuck
  | _, _ => .stuck
theorem lst_ints {d : MV} {ns : List Int} (h : (lstOf m d).bind intsOf = some ns) : ∃ l, lstOf m d = some l ∧ intsOf l = some ns := by
  cases e : lstOf m d with
  | none => rw [e] at h; cases h
  | some l => rw [e] at h; exact ⟨l, rfl, h⟩
theorem lst_bls {d : MV} {ns : List Bool} (h : (lstOf m d).bind blsOf = some ns) : ∃ l, lstOf m d = some l ∧ blsOf l = some ns := by
  cases e : lstOf m d with
  | none => rw [e] at h; cases h
  | some l => rw [e] at h; exact ⟨l, rfl, h⟩
theorem cm_sum : CrM X (rSum X.K) gSum := by
  intro W σ ds m β H vs Q M V p
  unfold gSum at p
  split at p
  · cases V with
    | cons h r =>
      cases r
      split at p
      · rename_i ns e
        obtain ⟨l, h1, h2⟩ := lst_ints e
        obtain ⟨a, vs, rfl, q1, q2⟩ := M.lst h h1
        exact ⟨a, ns, rfl, by rw [← q2.ints h2]; exact q1, p.ok M (.int _)⟩
      · exact p.not_stuck
  · exact p.not_stuck
def gAll : List MV → Mem → Re MV
  | [d], m => match (lstOf m d).bind blsOf with
    | some bs => .ok (.bl (bs.all id)) m
    | none => .stuck
  | _, _ => .stuck
def gAny : List MV → Mem → Re MV
  | [d], m => match (lstOf m d).bind blsOf with
    | some bs => .ok (.bl (bs.any id)) m
    | none => .stuck
  | _, _ => .stuck
theorem cm_all : CrM X (rAll X.K) gAll := by
  intro W σ ds m β H vs Q M V p
  unfold gAll at p
  split at p
  · cases V with
    | cons h r =>
      cases r
      split at p
      · rename_i ns e
        obtain ⟨l, h1, h2⟩ := lst_bls e
        obtain ⟨a, vs, rfl, q1, q2⟩ := M.lst h h1
        exact ⟨a, ns, rfl, by rw [← q2.bls h2]; exact q1, p.ok M (.bl _)⟩
      · exact p.not_stuck
  · exact p.not_stuck
theorem cm_any : CrM X (rAny X.K) gAny := by
  intro W σ ds m β H vs Q M V p
  unfold gAny at p
  split at p
  · cases V with
    | cons h r =>
      cases r
      split at p
      · rename_i ns e
        obtain ⟨l, h1, h2⟩ := lst_bls e
        obtain ⟨a, vs, rfl, q1, q2⟩ := M.lst h h1
        exact ⟨a, ns, rfl, by rw [← q2.bls h2]; exact q1, p.ok M (.bl _)⟩
      · exact p.not_stuck
  · exact p.not_stuck
/-- the greatest -/
def maxL : List Int → Option Int
  | [] => none
  | a :: r => some (r.foldl (fun x y => if x < y then y else x) a)
theorem foldl_max : ∀ (r : List Int) (a : Int), (r.foldl (fun x y => if x < y then y else x) a) ∈ a :: r ∧ ∀ y ∈ a :: r, y ≤ r.foldl (fun x y => if x < y then y else x) a
  | [], a => ⟨by simp, fun y h => by simp at h; subst h; exact Int.le_refl _⟩
  | b :: r, a => by
    obtain ⟨h1, h2⟩ := foldl_max r (if a < b then b else a)
    refine ⟨?_, fun y hy => ?_⟩
    · show (r.foldl _ (if a < b then b else a)) ∈ _
      rcases List.mem_cons.mp h1 with z | z
      · rw [z]; split <;> simp
      · exact List.mem_cons_of_mem _ (List.mem_cons_of_mem _ z)
    · show y ≤ r.foldl _ (if a < b then b else a)
      have hab := h2 _ List.mem_cons_self
      rcases List.mem_cons.mp hy with rfl | hy
      · exact Int.le_trans (by split <;> omega) hab
      · rcases List.mem_cons.mp hy with rfl | hy
        · exact Int.le_trans (by split <;> omega) hab
        · exact h2 y (List.mem_cons_of_mem _ hy)
def gMax : List MV → Mem → Re MV
  | [d], m => match ((lstOf m d).bind intsOf).bind maxL with
    | some k => .ok (.int k) m
    | none => .stuck
  | _, _ => .stuck
theorem cm_max : CrM X (rMax X.K) gMax := by
  intro W σ ds m β H vs Q M V p
  unfold gMax at p
  split at p
  · cases V with
    | cons h r =>
      cases r
      split at p
      · rename_i k e
        cases e0 : (lstOf m ‹MV›).bind intsOf with
        | none => rw [e0] at e; cases e
        | some ns =>
          rw [e0] at e
          obtain ⟨l, h1, h2⟩ := lst_ints e0
          obtain ⟨a, vs, rfl, q1, q2⟩ := M.lst h h1
          cases ns with
          | nil => cases e
          | cons b t =>
            have e : some (t.foldl (fun x y => if x < y then y else x) b) = some k := e
            obtain ⟨m1, m2⟩ := foldl_max t b
            refine ⟨a, b :: t, rfl, by rw [← q2.ints h2]; exact q1, by simp, fun mx hm hx => ?_⟩
            have : mx = k := by
              cases e
              exact Int.le_antisymm (m2 mx hm) (hx _ m1)
            rw [this]
            exact p.ok M (.int _)
      · exact p.not_stuck
  · exact p.not_stuck
end
end MI
namespace MI
open PySem L2
section
variable {X : Cx} {W : WX} {pos : Pos} {K : PySem.W.Frag} {β : List Addr} {H : Hp} {m : Mem}
theorem pe_or' {e : Expr} {t t' : TE} (h : PE X e t) (h' : PE X e t') : PE X e (fun σ H Q => t σ H Q ∨ t' σ H Q) := ⟨fun pins s σ H Q I q => q.elim (h.run pins s σ H Q I) (h'.run pins s σ H Q I)⟩
theorem pt_or' {e : Expr} {t t' : TT} (h : PT X e t) (h' : PT X e t') : PT X e (fun σ H Q => t σ H Q ∨ t' σ H Q) := ⟨fun pins s σ H Q I q => q.elim (h.run pins s σ H Q I) (h'.run pins s σ H Q I)⟩
theorem ps_or' {e : Stmt} {t t' : TS} (h : PS X e t) (h' : PS X e t') : PS X e (fun D σ H => t D σ H ∨ t' D σ H) := ⟨fun pins s σ H D I q => q.elim (h.run pins s σ H D I) (h'.run pins s σ H D I)⟩
/-- one of two works, by what the small world says -/
theorem JE.or {e : Expr} {f f1 f2 : ME} (h1 : JE X W e f1) (h2 : JE X W e f2) (hh : ∀ ρ m, f ρ m = .stuck ∨ f ρ m = f1 ρ m ∨ f ρ m = f2 ρ m) : JE X W e f :=
  ⟨pe_imp (pe_or' h1.run h2.run) fun σ H Q ⟨ρ, m, β, hE, hM, p⟩ => by
    rcases hh ρ m with q | q | q
    · rw [q] at p; exact p.elim
    · rw [q] at p; exact .inl ⟨ρ, m, β, hE, hM, p⟩
    · rw [q] at p; exact .inr ⟨ρ, m, β, hE, hM, p⟩⟩
theorem JT.or {e : Expr} {f f1 f2 : MT} (h1 : JT X W e f1) (h2 : JT X W e f2) (hh : ∀ ρ m, f ρ m = .stuck ∨ f ρ m = f1 ρ m ∨ f ρ m = f2 ρ m) : JT X W e f :=
  ⟨pt_imp (pt_or' h1.run h2.run) fun σ H Q ⟨ρ, m, β, hE, hM, p⟩ => by
    rcases hh ρ m with q | q | q
    · rw [q] at p; exact p.elim
    · rw [q] at p; exact .inl ⟨ρ, m, β, hE, hM, p⟩
    · rw [q] at p; exact .inr ⟨ρ, m, β, hE, hM, p⟩⟩
theorem JS.or {e : Stmt} {f f1 f2 : MS} (h1 : JS X W e f1) (h2 : JS X W e f2) (hh : ∀ ρ m, f ρ m = .stuck ∨ f ρ m = f1 ρ m ∨ f ρ m = f2 ρ m) : JS X W e f :=
  ⟨ps_imp (ps_or' h1.run h2.run) fun D σ H ⟨ρ, m, β, hE, hM, p⟩ => by
    rcases hh ρ m with q | q | q
    · rw [q] at p; exact p.elim
    · rw [q] at p; exact .inl ⟨ρ, m, β, hE, hM, p⟩
    · rw [q] at p; exact .inr ⟨ρ, m, β, hE, hM, p⟩⟩
/-- an operation on two values, of which one of two serves -/
theorem mBin_or {g g1 g2 : MV → MV → Mem → Re MV} {fa fb : ME} (h : ∀ a b m, g a b m = g1 a b m ∨ g a b m = g2 a b m) (ρ : Env) (m : Mem) : mBin g fa fb ρ m = .stuck ∨ mBin g fa fb ρ m = mBin g1 fa fb ρ m ∨ mBin g fa fb ρ m = mBin g2 fa fb ρ m := by
  unfold mBin
  cases fa ρ m with
  | stuck => exact .inl rfl
  | ex x m1 => exact .inr (.inl rfl)
  | ok a m1 =>
    show ((fb ρ m1).bind fun b m2 => g a b m2) = .stuck ∨ ((fb ρ m1).bind fun b m2 => g a b m2) = ((fb ρ m1).bind fun b m2 => g1 a b m2) ∨ ((fb ρ m1).bind fun b m2 => g a b m2) = ((fb ρ m1).bind fun b m2 => g2 a b m2)
    cases fb ρ m1 with
    | stuck => exact .inl rfl
    | ex x m1 => exact .inr (.inl rfl)
    | ok b m2 =>
      rcases h a b m2 with q | q
      · exact .inr (.inl q)
      · exact .inr (.inr q)
/-- x[i]: a dict's, or of a list, a tuple, a text -/
def gItem (a b : MV) (m : Mem) : Re MV := match dctOf m a with
  | some _ => gDGet a b m
  | none => gIx a b m
theorem je_item {a b : Expr} {fa fb : ME} (hu : X.A.units + 1 < cLine) (ha : JE X W a fa) (hb : JE X W b fb) (hs : PlainIx b := by intro _ _; rfl) : JE X W (.Subscript a b pos) (mBin gItem fa fb) :=
  JE.or (je_dget hu ha hb hs) (je_ix ha hb hs) (mBin_or fun a b m => by
    unfold gItem
    cases dctOf m a with
    | none => exact .inr rfl
    | some q => exact .inl rfl)
/-! ### in -/
def toV : MV → V
  | .non => .non
  | .bl b => .bl b
  | .int i => .int i
  | .str s => .str s
  | _ => .ref 0
def flat (d : MV) : Bool := match d with
  | .non => true
  | .bl _ => true
  | .int _ => true
  | .str _ => true
  | _ => false
theorem RV.flat {d : MV} {v : V} (h : RV K β H d v) (f : flat d = true) : v = toV d ∧ flatV v = true := by
  cases h with
  | non => exact ⟨rfl, rfl⟩
  | bl b => exact ⟨rfl, rfl⟩
  | int i => exact ⟨rfl, rfl⟩
  | str s => exact ⟨rfl, rfl⟩
  | tup _ _ => cases f
  | ref _ => cases f
  | kl _ _ => cases f
theorem RVs.flat : ∀ {ds : List MV} {vs : List V}, RVs K β H ds vs → ds.all flat = true → vs = ds.map toV ∧ vs.all flatV = true
  | _, _, .nil, _ => ⟨rfl, rfl⟩
  | _, _, .cons h r, f => by
    rw [List.all_cons, Bool.and_eq_true] at f
    obtain ⟨e1, e2⟩ := h.flat f.1
    obtain ⟨e3, e4⟩ := RVs.flat r f.2
    exact ⟨by rw [e1, e3]; rfl, by rw [List.all_cons, e2, e4]; rfl⟩
/-- x in a list or a tuple of flat things -/
def gInF (neg : Bool) (a b : MV) (m : Mem) : Re MV := match seqOf m b with
  | some l => if flat a = true ∧ l.all flat = true then .ok (.bl (if neg then !inV (toV a) (l.map toV) else inV (toV a) (l.map toV))) m else .stuck
  | none => .stuck
theorem om_inF {neg : Bool} : OpM X (rIn X.K neg) (gInF neg) := by
  intro W σ d e m β H x y Q M rx ry p
  unfold gInF at p
  split at p
  · rename_i l hl
    split at p
    · rename_i hf
      obtain ⟨a, vs, rfl, hs, hr⟩ := M.seq ry hl
      obtain ⟨e1, e2⟩ := rx.flat hf.1
      obtain ⟨e3, e4⟩ := hr.flat hf.2
      exact ⟨a, vs, rfl, hs, e2, e4, by rw [e1, e3]; exact p.ok M (.bl _)⟩
    · exact p.not_stuck
  · exact p.not_stuck
/-- a sign in a text -/
def gInS (neg : Bool) (a b : MV) (m : Mem) : Re MV := match a, b with
  | .str z, .str y => match z.cps.toList with
    | [c] => .ok (.bl (if neg then !decide (c ∈ y.cps.toList) else decide (c ∈ y.cps.toList))) m
    | _ => .stuck
  | _, _ => .stuck
theorem om_inS : OpM X (fun x y H Q => ∃ (c : Nat) (z : Str), x = V.str ⟨#[c]⟩ ∧ y = V.str z ∧ Q (V.bl (decide (c ∈ z.cps.toList))) H) (gInS false) := by
  intro W σ d e m β H x y Q M rx ry p
  unfold gInS at p
  split at p
  · cases rx; cases ry
    split at p
    · rename_i c hc
      rename_i z y _
      refine ⟨c, y, ?_, rfl, p.ok M (.bl _)⟩
      cases z with
      | mk cps => simp at hc; rw [show cps = #[c] from by apply Array.toList_inj.mp; rw [hc]]
    · exact p.not_stuck
  · exact p.not_stuck
theorem om_ninS : OpM X (fun x y H Q => ∃ (c : Nat) (z : Str), x = V.str ⟨#[c]⟩ ∧ y = V.str z ∧ Q (V.bl (!decide (c ∈ z.cps.toList))) H) (gInS true) := by
  intro W σ d e m β H x y Q M rx ry p
  unfold gInS at p
  split at p
  · cases rx; cases ry
    split at p
    · rename_i c hc
      rename_i z y _
      refine ⟨c, y, ?_, rfl, p.ok M (.bl _)⟩
      cases z with
      | mk cps => simp at hc; rw [show cps = #[c] from by apply Array.toList_inj.mp; rw [hc]]
    · exact p.not_stuck
  · exact p.not_stuck
/-- data in a list -/
def gInD (neg : Bool) (a b : MV) (m : Mem) : Re MV := match dat m fuel a, dat m fuel b with
  | some d, some (.list ds) => if SeqAt.shaped d = true ∧ SeqAt.shaped (.list ds) = true then .ok (.bl (if neg then !ds.any (fun z => PyData.eqv z d) else ds.any (fun z => PyData.eqv z d))) m else .stuck
  | _, _ => .stuck
theorem om_inD : OpM X (rInD X.K) (gInD false) := by
  intro W σ d e m β H x y Q M rx ry p
  unfold gInD at p
  split at p
  · rename_i a b e1 e2
    split at p
    · rename_i h
      exact ⟨a, b, M.dat1 rx e1, M.dat1 ry e2, h.1, h.2, p.ok M (.bl _)⟩
    · exact p.not_stuck
  · exact p.not_stuck
theorem om_ninD : OpM X (rNotInD X.K) (gInD true) := by
  intro W σ d e m β H x y Q M rx ry p
  unfold gInD at p
  split at p
  · rename_i a b e1 e2
    split at p
    · rename_i h
      exact ⟨a, b, M.dat1 rx e1, M.dat1 ry e2, h.1, h.2, p.ok M (.bl _)⟩
    · exact p.not_stuck
  · exact p.not_stuck
open Classical in
noncomputable def gInA (neg : Bool) (a b : MV) (m : Mem) : Re MV :=
  if (∃ z, b = .str z) then gInS neg a b m else if (dctOf m b).isSome = true then gDIn neg a b m else if (∃ l, seqOf m b = some l ∧ flat a = true ∧ l.all flat = true) then gInF neg a b m else gInD neg a b m
theorem je_in {a b : Expr} {fa fb : ME} (hu : X.A.units + 1 < cLine) (hu2 : X.A.units + 65 < cLine) (ha : JE X W a fa) (hb : JE X W b fb) (hk : behindInMarks .In b = false := by rfl) : JE X W (.Compare a [.In] [b] pos) (mBin (gInA false) fa fb) := by
  have j1 : JE X W (.Compare a [.In] [b] pos) (mBin (gInS false) fa fb) := j_cmp op_in_sign om_inS ha hb hk
  have j2 : JE X W (.Compare a [.In] [b] pos) (mBin (gDIn false) fa fb) := je_din hu ha hb hk
  have j3 : JE X W (.Compare a [.In] [b] pos) (mBin (gInF false) fa fb) := j_cmp op_in_seq om_inF ha hb hk
  have j4 : JE X W (.Compare a [.In] [b] pos) (mBin (gInD false) fa fb) := j_cmp (op_inD hu2) om_inD ha hb hk
  classical
  have j34 : JE X W (.Compare a [.In] [b] pos) (mBin (fun a b m => if (∃ l, seqOf m b = some l ∧ flat a = true ∧ l.all flat = true) then gInF false a b m else gInD false a b m) fa fb) := JE.or j3 j4 (mBin_or fun a b m => by split <;> simp)
  have j234 : JE X W (.Compare a [.In] [b] pos) (mBin (fun a b m => if (dctOf m b).isSome = true then gDIn false a b m else if (∃ l, seqOf m b = some l ∧ flat a = true ∧ l.all flat = true) then gInF false a b m else gInD false a b m) fa fb) := JE.or j2 j34 (mBin_or fun a b m => by
    by_cases q : (dctOf m b).isSome = true
    · exact .inl (if_pos q)
    · exact .inr (if_neg q))
  exact JE.or j1 j234 (mBin_or fun a b m => by
    unfold gInA
    by_cases q : ∃ z, b = .str z
    · exact .inl (if_pos q)
    · exact .inr (if_neg q))
theorem je_nin {a b : Expr} {fa fb : ME} (hu : X.A.units + 1 < cLine) (hu2 : X.A.units + 65 < cLine) (ha : JE X W a fa) (hb : JE X W b fb) (hk : behindInMarks .NotIn b = false := by rfl) : JE X W (.Compare a [.NotIn] [b] pos) (mBin (gInA true) fa fb) := by
  have j1 : JE X W (.Compare a [.NotIn] [b] pos) (mBin (gInS true) fa fb) := j_cmp op_notIn_sign om_ninS ha hb hk
  have j2 : JE X W (.Compare a [.NotIn] [b] pos) (mBin (gDIn true) fa fb) := je_dnotin hu ha hb hk
  have j3 : JE X W (.Compare a [.NotIn] [b] pos) (mBin (gInF true) fa fb) := j_cmp op_notIn_seq om_inF ha hb hk
  have j4 : JE X W (.Compare a [.NotIn] [b] pos) (mBin (gInD true) fa fb) := j_cmp (op_notInD hu2) om_ninD ha hb hk
  classical
  have j34 : JE X W (.Compare a [.NotIn] [b] pos) (mBin (fun a b m => if (∃ l, seqOf m b = some l ∧ flat a = true ∧ l.all flat = true) then gInF true a b m else gInD true a b m) fa fb) := JE.or j3 j4 (mBin_or fun a b m => by split <;> simp)
  have j234 : JE X W (.Compare a [.NotIn] [b] pos) (mBin (fun a b m => if (dctOf m b).isSome = true then gDIn true a b m else if (∃ l, seqOf m b = some l ∧ flat a = true ∧ l.all flat = true) then gInF true a b m else gInD true a b m) fa fb) := JE.or j2 j34 (mBin_or fun a b m => by
    by_cases q : (dctOf m b).isSome = true
    · exact .inl (if_pos q)
    · exact .inr (if_neg q))
  exact JE.or j1 j234 (mBin_or fun a b m => by
    unfold gInA
    by_cases q : ∃ z, b = .str z
    · exact .inl (if_pos q)
    · exact .inr (if_neg q))
/-! ### methods of lists -/
def MtMm (X : Cx) (r : V → List V → Hp → VK → Prop) (g : MV → List MV → Mem → Re MV) : Prop := ∀ (W : WX) (σ : L2.St) (d : MV) (ds : List MV) (m : Mem) (β : List Addr) (H : Hp) (x : V) (vs : List V) (Q : VK), RM X.K β H m → RV X.K β H d x → RVs X.K β H ds vs →
  Post X W (g d ds m) β H σ (fun β' H' d v => RV X.K β' H' d v) Q → r x vs H Q
def mBM (g : MV → List MV → Mem → Re MV) (fo : ME) (ga : MA) : ME := fun ρ m => (fo ρ m).bind fun d m1 => if (lstOf m1 d).isSome = true then (ga ρ m1).bind fun ds m2 => g d ds m2 else .stuck
theorem je_bmL {o e : Expr} {es : List Expr} {fo : ME} {ga : MA} {name : Str} {apos : Pos} {id : String} {r : V → List V → Hp → VK → Prop} {g : MV → List MV → Mem → Re MV} (slot : Slot "list" name id) (hty : typeOf (.builtin id) = pure (.type "method_descriptor")) (hm : MtR X id r) (hg : MtMm X r g) (ho : JE X W o fo) (ha : JA X W (e :: es) ga)
    (h1 : attributeBase o name X.env (eval o X.env) = eval o X.env := by rfl) (h2 : (((((backTo pos (starEach (e :: es) X.env)).all fun x => !x.fst) && (backToKw pos (keywordEach [] X.env)).all fun x => x.fst.isSome) && decide (((e :: es).length + ([] : List Keyword).length + if ([] : List Keyword).isEmpty = true then 0 else 1) < 30)) = true) := by rfl) (h3 : (apos.endLine == pos.line) = true := by rfl)
    (h4 : starEach (e :: es) X.env = (false, eval e X.env) :: starEach es X.env := by rfl) (h5 : (backTo pos (starEach es X.env)).any (·.1) = false := by rfl) : JE X W (.Call (.Attribute o name apos) (e :: es) [] pos) (mBM g fo ga) :=
  ⟨pe_imp (pe_bm PySem.F.plainAttrs_list slot hty hm ho.run ha.run h1 h2 h3 h4 h5) fun σ H Q ⟨ρ, m, β, hE, hM, p⟩ => ⟨ρ, m, β, hE, hM, p.bind fun d m1 x H1 β1 _ e1 M1 V1 p1 => by
    split at p1
    · rename_i q
      obtain ⟨l, hl⟩ := Option.isSome_iff_exists.mp q
      obtain ⟨a, vs, rfl, hs, _⟩ := M1.lst V1 hl
      exact ⟨.inl ⟨rfl, vs, hs⟩, ρ, m1, β1, hE.ext hM e1, M1, p1.bind fun ds m2 us H2 β2 _ e2 M2 V2 p2 => hg W σ d ds m2 β2 H2 _ us Q M2 (V1.ext M1 e2) V2 p2⟩
    · exact p1.not_stuck⟩⟩
theorem je_bmL0 {o : Expr} {fo : ME} {name : Str} {apos : Pos} {id : String} {r : V → List V → Hp → VK → Prop} {g : MV → List MV → Mem → Re MV} (slot : Slot "list" name id) (hty : typeOf (.builtin id) = pure (.type "method_descriptor")) (hm : MtR X id r) (hg : MtMm X r g) (ho : JE X W o fo)
    (h1 : attributeBase o name X.env (eval o X.env) = eval o X.env := by rfl) (h3 : (apos.endLine == pos.line) = true := by rfl) : JE X W (.Call (.Attribute o name apos) [] [] pos) (mBM g fo mNil) :=
  ⟨pe_imp (pe_bm0 PySem.F.plainAttrs_list slot hty hm ho.run h1 h3) fun σ H Q ⟨ρ, m, β, hE, hM, p⟩ => ⟨ρ, m, β, hE, hM, p.bind fun d m1 x H1 β1 _ e1 M1 V1 p1 => by
    split at p1
    · rename_i q
      obtain ⟨l, hl⟩ := Option.isSome_iff_exists.mp q
      obtain ⟨a, vs, rfl, hs, _⟩ := M1.lst V1 hl
      exact ⟨.inl ⟨rfl, vs, hs⟩, hg W σ d [] m1 β1 H1 _ [] Q M1 V1 .nil p1⟩
    · exact p1.not_stuck⟩⟩
def gAppend (d : MV) (ds : List MV) (m : Mem) : Re MV := match ds with
  | [e] => match mutOf m d with
    | some (n, l) => if l.length < sizeLine then .ok .non (m.set n (.lst (l ++ [e]))) else .stuck
    | none => .stuck
  | _ => .stuck
theorem mm_append : MtMm X rAppend gAppend := by
  intro W σ d ds m β H x vs Q M rx rv p
  unfold gAppend at p
  split at p
  · cases rv with
    | @cons _ y _ _ h r =>
      cases r
      split at p
      · rename_i n l e
        split at p
        · rename_i hl
          obtain ⟨a, us, rfl, hb, hH, hr⟩ := M.mut rx e
          have eE : Ext β H β (upd H a (.lst (us ++ [y]))) := Ext.wr (List.mem_of_getElem? hb)
          exact ⟨a, us, _, rfl, rfl, hH, by rw [← hr.length]; exact hl, p .non _ β eE (M.wr hb ⟨_, upd_same, (hr.app (.cons h .nil)).ext M eE⟩) .non⟩
        · exact p.not_stuck
      · exact p.not_stuck
  · exact p.not_stuck
def gExtend (d : MV) (ds : List MV) (m : Mem) : Re MV := match ds with
  | [e] => match mutOf m d, mutOf m e with
    | some (n, l), some (_, k) => if l.length + k.length ≤ sizeLine then .ok .non (m.set n (.lst (l ++ k))) else .stuck
    | _, _ => .stuck
  | _ => .stuck
theorem mm_extend : MtMm X rExtend gExtend := by
  intro W σ d ds m β H x vs Q M rx rv p
  unfold gExtend at p
  split at p
  · cases rv with
    | cons h r =>
      cases r
      split at p
      · rename_i n l n2 k e e2
        split at p
        · rename_i hl
          obtain ⟨a, us, rfl, hb, hH, hr⟩ := M.mut rx e
          obtain ⟨a2, us2, rfl, hb2, hH2, hr2⟩ := M.mut h e2
          have eE : Ext β H β (upd H a (.lst (us ++ us2))) := Ext.wr (List.mem_of_getElem? hb)
          exact ⟨a, a2, us, us2, rfl, rfl, hH, hH2, by rw [← hr.length, ← hr2.length]; exact hl, p .non _ β eE (M.wr hb ⟨_, upd_same, (hr.app hr2).ext M eE⟩) .non⟩
        · exact p.not_stuck
      · exact p.not_stuck
  · exact p.not_stuck
theorem RVs.dropLast : ∀ {ds : List MV} {vs : List V}, RVs K β H ds vs → RVs K β H ds.dropLast vs.dropLast := fun {ds vs} h => by
  rw [List.dropLast_eq_take, List.dropLast_eq_take, ← h.length]
  exact h.take _
def gPop (d : MV) (ds : List MV) (m : Mem) : Re MV := match ds with
  | [] => match mutOf m d with
    | some (n, l) => match l[l.length - 1]? with
      | some e => .ok e (m.set n (.lst l.dropLast))
      | none => .stuck
    | none => .stuck
  | _ => .stuck
theorem mm_pop : MtMm X rPop gPop := by
  intro W σ d ds m β H x vs Q M rx rv p
  unfold gPop at p
  split at p
  · cases rv
    split at p
    · rename_i n l e
      split at p
      · rename_i y hy
        obtain ⟨a, us, rfl, hb, hH, hr⟩ := M.mut rx e
        obtain ⟨v, h1, h2⟩ := hr.get hy
        have eE : Ext β H β (upd H a (.lst us.dropLast)) := Ext.wr (List.mem_of_getElem? hb)
        exact ⟨a, us, v, rfl, rfl, hH, by rw [← hr.length]; exact h1, p v _ β eE (M.wr hb ⟨_, upd_same, hr.dropLast.ext M eE⟩) (h2.ext M eE)⟩
      · exact p.not_stuck
    · exact p.not_stuck
  · exact p.not_stuck
/-! ### stores -/
theorem jg_subL {o i : Expr} {fo fi : ME} (ho : JE X W0 o fo) (hi : JE X W0 i fi)
    (ha : ∀ v, assign (.Subscript o i pos) X.env v = (do
      let ov ← holding [v] (eval o X.env)
      let iv ← holding [v, ov] (eval i X.env)
      standAt pos
      holding [v, ov, iv] (setItem ov iv v)
      release [v, ov, iv] []) := by intro _; rfl) : JG X (.Subscript o i pos) (nSubL fo fi) :=
  ⟨pg_imp (pg_sub ho.run hi.run set_list ha) fun v σ H Q ⟨d, ρ, m, β, V, hE, hM, p⟩ => by
    refine ⟨ρ, m, β, hE, hM, ?_⟩
    unfold nSubL at p
    cases e1 : fo ρ m with
    | stuck => rw [e1] at p; exact p.elim
    | ex x m1 => rw [e1] at p; exact p.elim
    | ok od m1 =>
      rw [e1] at p
      dsimp only at p
      intro ov H1 β1 x1 M1 V1
      refine ⟨ρ, m1, β1, hE.ext hM x1, M1, ?_⟩
      cases e2 : fi ρ m1 with
      | stuck => rw [e2] at p; exact p.elim
      | ex x m1 => rw [e2] at p; exact p.elim
      | ok id m2 =>
        rw [e2] at p
        intro iv H2 β2 x2 M2 V2
        cases id with
        | int k =>
          dsimp only at p
          cases V2
          cases e3 : mutOf m2 od with
          | none => rw [e3] at p; exact p.elim
          | some nl =>
            obtain ⟨n, l⟩ := nl
            rw [e3] at p
            dsimp only at p
            obtain ⟨a, us, rfl, hb, hH, hr⟩ := M2.mut (V1.ext M1 x2) e3
            cases e4 : ixN l.length k with
            | none => rw [e4] at p; exact p.elim
            | some j =>
              rw [e4] at p
              have eE : Ext β2 H2 β2 (upd H2 a (.lst (us.set j v))) := Ext.wr (List.mem_of_getElem? hb)
              refine ⟨a, us, k, j, rfl, rfl, hH, by rw [← hr.length]; exact e4, p σ _ β2 ((x1.trans x2).trans eE) (M2.wr hb ⟨_, upd_same, (hr.set j ((V.ext hM x1).ext M1 x2)).ext M2 eE⟩) (((hE.ext hM x1).ext M1 x2).ext M2 eE)⟩
        | _ => exact p.elim⟩
/-- d[k] = v in a dict -/
def mDPut (fd fk fv : ME) : MS := fun ρ m => onE ρ (fv ρ m) fun v m1 => onE ρ (fd ρ m1) fun d m2 => onE ρ (fk ρ m2) fun k m3 => match dctOf m3 d, keyOf k with
  | some (n, l), some q => if l.length < sizeLine then .ok (.nx ρ) (m3.set n (.dct (putM l q v))) else .stuck
  | _, _ => .stuck
theorem js_dput {o i value : Expr} {pos' : Pos} {fo fi fv : ME} (hu : X.A.units + 1 < cLine) (ho : JE X W o fo) (hi : JE X W i fi) (hv : JE X W value fv) (hs : swapsWith value (some (.Subscript o i pos')) pos.line X.env = pure false := by rfl) : JS X W (.Assign [.Subscript o i pos'] value pos) (mDPut fo fi fv) :=
  ⟨ps_imp (ps_dput hu ho.run hi.run hv.run hs) fun D σ H ⟨ρ, m, β, hE, hM, p⟩ => ⟨ρ, m, β, hE, hM, PostS.on (D := D) (R := fun β' H' d v => RV X.K β' H' d v) hE hM p fun d1 m1 v1 H1 β1 _ e1 M1 V1 p1 => ⟨ρ, m1, β1, hE.ext hM e1, M1, PostS.on (D := D) (R := fun β' H' d v => RV X.K β' H' d v) (hE.ext hM e1) M1 p1 fun d2 m2 v2 H2 β2 _ e2 M2 V2 p2 => ⟨ρ, m2, β2, (hE.ext hM e1).ext M1 e2, M2,
    PostS.on (D := D) (R := fun β' H' d v => RV X.K β' H' d v) ((hE.ext hM e1).ext M1 e2) M2 p2 fun d3 m3 v3 H3 β3 _ e3 M3 V3 p3 => by
      split at p3
      · rename_i n l q h1 h2
        split at p3
        · rename_i hl
          obtain ⟨a, us, rfl, hb, hH, hr⟩ := M3.dct (V2.ext M2 e3) h1
          have hk := keyOf_some V3 h2
          subst hk
          have eE : Ext β3 H3 β3 (upd H3 a (.dK (putK us q v1))) := Ext.wr (List.mem_of_getElem? hb)
          exact ⟨a, _, rfl, .inl ⟨us, q, hH, rfl, by rw [← hr.length]; exact hl, rfl⟩, p3 σ _ β3 eE (M3.wr hb ⟨_, upd_same, (hr.put ((V1.ext M1 e2).ext M2 e3)).ext M3 eE⟩) ((((hE.ext hM e1).ext M1 e2).ext M2 e3).ext M3 eE)⟩
        · exact p3.elim
      · exact p3.elim⟩⟩⟩⟩
end
end MI
namespace MI
open PySem L2
section
variable {X : Cx} {W : WX} {pos : Pos} {K : PySem.W.Frag} {β : List Addr} {H : Hp} {m : Mem}
/-! ### ==, != of anything -/
theorem OpM.or {r1 r2 : R2} {g g1 g2 : MV → MV → Mem → Re MV} (h1 : OpM X r1 g1) (h2 : OpM X r2 g2) (h : ∀ a b m, g a b m = .stuck ∨ g a b m = g1 a b m ∨ g a b m = g2 a b m) : OpM X (fun x y H Q => r1 x y H Q ∨ r2 x y H Q) g := by
  intro W σ d e m β H x y Q M rx ry p
  rcases h d e m with q | q | q
  · rw [q] at p; exact p.elim
  · rw [q] at p; exact .inl (h1 W σ d e m β H x y Q M rx ry p)
  · rw [q] at p; exact .inr (h2 W σ d e m β H x y Q M rx ry p)
/-- equal scalars -/
def eqS : MV → MV → Option Bool
  | .non, .non => some true
  | .non, .int _ => some false
  | .int _, .non => some false
  | .non, .bl _ => some false
  | .bl _, .non => some false
  | .non, .str _ => some false
  | .str _, .non => some false
  | .int i, .int j => some (decide (i = j))
  | .bl i, .bl j => some (decide (i = j))
  | .str i, .str j => some (decide (i = j))
  | .int _, .str _ => some false
  | .str _, .int _ => some false
  | .bl _, .str _ => some false
  | .str _, .bl _ => some false
  | _, _ => none
def gEqS (neg : Bool) (a b : MV) (m : Mem) : Re MV := match eqS a b with
  | some k => .ok (.bl (if neg then !k else k)) m
  | none => .stuck
theorem eqS_scal {a b : MV} {k : Bool} {x y : V} (h : eqS a b = some k) (rx : RV K β H a x) (ry : RV K β H b y) : scal x y = true ∧ decide (x = y) = k := by
  cases rx <;> cases ry <;> first | (cases h; exact ⟨rfl, by simp⟩) | (cases h) 
theorem om_eqS : OpM X rEq (gEqS false) := by
  intro W σ d e m β H x y Q M rx ry p
  unfold gEqS at p
  split at p
  · rename_i k hk
    obtain ⟨h1, h2⟩ := eqS_scal hk rx ry
    exact ⟨h1, by rw [h2]; exact p.ok M (.bl _)⟩
  · exact p.not_stuck
theorem om_neS : OpM X rNe (gEqS true) := by
  intro W σ d e m β H x y Q M rx ry p
  unfold gEqS at p
  split at p
  · rename_i k hk
    obtain ⟨h1, h2⟩ := eqS_scal hk rx ry
    exact ⟨h1, by rw [h2]; exact p.ok M (.bl _)⟩
  · exact p.not_stuck
def gEqA (neg : Bool) (a b : MV) (m : Mem) : Re MV := match eqS a b with
  | some _ => gEqS neg a b m
  | none => gEq neg a b m
abbrev rEqAll (K : PySem.W.Frag) : R2 := fun x y H Q => rEq x y H Q ∨ rEqD K x y H Q
abbrev rNeAll (K : PySem.W.Frag) : R2 := fun x y H Q => rNe x y H Q ∨ rNeD K x y H Q
theorem om_eqA : OpM X (rEqAll X.K) (gEqA false) := om_eqS.or om_eq fun a b m => by
  unfold gEqA
  cases eqS a b with
  | none => exact .inr (.inr rfl)
  | some k => exact .inr (.inl rfl)
theorem om_neA : OpM X (rNeAll X.K) (gEqA true) := om_neS.or om_ne fun a b m => by
  unfold gEqA
  cases eqS a b with
  | none => exact .inr (.inr rfl)
  | some k => exact .inr (.inl rfl)
theorem op_eqA (hu : X.A.units + 64 < cLine) : OpR X (compareOp .Eq) (rEqAll X.K) := OpR.or op_eq (op_eqD hu)
theorem op_neA (hu : X.A.units + 64 < cLine) : OpR X (compareOp .NotEq) (rNeAll X.K) := OpR.or op_ne (op_neD hu)
/-! ### room -/
theorem hu1 {k : Nat} (hr : Room k X.A) : X.A.units + 1 < cLine := hu_of hr
theorem hu64 {k : Nat} (hr : Room k X.A) : X.A.units + 64 < cLine := by have := hr.un; omega
theorem hu65 {k : Nat} (hr : Room k X.A) : X.A.units + 65 < cLine := by have := hr.un; omega
/-! ### in, as a test -/
theorem mB_or {g g1 g2 : MV → MV → Mem → Re MV} {fa fb : ME} (h : ∀ a b m, g a b m = g1 a b m ∨ g a b m = g2 a b m) (ρ : Env) (m : Mem) : mB (mBin g fa fb) ρ m = .stuck ∨ mB (mBin g fa fb) ρ m = mB (mBin g1 fa fb) ρ m ∨ mB (mBin g fa fb) ρ m = mB (mBin g2 fa fb) ρ m := by
  unfold mB
  rcases mBin_or (fa := fa) (fb := fb) h ρ m with q | q | q
  · rw [q]; exact .inl rfl
  · rw [q]; exact .inr (.inl rfl)
  · rw [q]; exact .inr (.inr rfl)
theorem jt_of {op : CmpOp} {a b : Expr} {t : TE} {f : ME} (h : PC X op a b t) (hk : behindInMarks op b = false) (i : ∀ σ H (Q : VK), tE X W f σ H Q → t σ H Q) : JT X W (.Compare a [op] [b] pos) (mB f) :=
  ⟨pt_imp (pt_cmp h hk) fun σ H Q ⟨ρ, m, β, hE, hM, p⟩ => i σ H _ ⟨ρ, m, β, hE, hM, by
    unfold mB at p
    exact p.bind fun d m1 x H1 β1 _ e1 M1 V1 p1 => by
      split at p1
      · cases V1; exact ⟨_, rfl, p1.ok M1 rfl⟩
      · exact p1.not_stuck⟩⟩
theorem tdin {neg : Bool} {fa fb : ME} {σ : L2.St} {H : Hp} {Q : VK} (h : tE X W (mBin (gDIn neg) fa fb) σ H Q) : (fun σ H (Q : VK) => tE X W fa σ H fun y H1 => tE X W fb σ H1 fun x H2 => ∃ a o, x = V.ref a ∧ DGet H2 a y o ∧ Q (.bl (if neg then !o.isSome else o.isSome)) H2) σ H Q := by
  obtain ⟨ρ, m, β, hE, hM, p⟩ := h
  exact ⟨ρ, m, β, hE, hM, p.bind fun d m1 x H1 β1 _ e1 M1 V1 p1 => ⟨ρ, m1, β1, hE.ext hM e1, M1, p1.bind fun d2 m2 y H2 β2 _ e2 M2 V2 p2 => by
    unfold gDIn at p2
    split at p2
    · rename_i n l q h1 h2
      obtain ⟨a, vs, rfl, hb, hH, hr⟩ := M2.dct V2 h1
      have hy := keyOf_some (V1.ext M1 e2) h2
      subst hy
      exact ⟨a, valV vs q, rfl, .inl ⟨vs, q, .inl hH, rfl, rfl⟩, p2.ok M2 (by rw [hr.isSome]; exact .bl _)⟩
    · exact p2.not_stuck⟩⟩
theorem jt_in {a b : Expr} {fa fb : ME} (hu : X.A.units + 1 < cLine) (hu2 : X.A.units + 65 < cLine) (ha : JE X W a fa) (hb : JE X W b fb) (hk : behindInMarks .In b = false := by rfl) : JT X W (.Compare a [.In] [b] pos) (mB (mBin (gInA false) fa fb)) := by
  have j1 : JT X W (.Compare a [.In] [b] pos) (mB (mBin (gInS false) fa fb)) := jt_cmp op_in_sign om_inS ha hb hk
  have j2 : JT X W (.Compare a [.In] [b] pos) (mB (mBin (gDIn false) fa fb)) := jt_of (pc_din hu ha.run hb.run) hk fun σ H Q h => tdin h
  have j3 : JT X W (.Compare a [.In] [b] pos) (mB (mBin (gInF false) fa fb)) := jt_cmp op_in_seq om_inF ha hb hk
  have j4 : JT X W (.Compare a [.In] [b] pos) (mB (mBin (gInD false) fa fb)) := jt_cmp (op_inD hu2) om_inD ha hb hk
  classical
  have j34 : JT X W (.Compare a [.In] [b] pos) (mB (mBin (fun a b m => if (∃ l, seqOf m b = some l ∧ flat a = true ∧ l.all flat = true) then gInF false a b m else gInD false a b m) fa fb)) := JT.or j3 j4 (mB_or fun a b m => by split <;> simp)
  have j234 : JT X W (.Compare a [.In] [b] pos) (mB (mBin (fun a b m => if (dctOf m b).isSome = true then gDIn false a b m else if (∃ l, seqOf m b = some l ∧ flat a = true ∧ l.all flat = true) then gInF false a b m else gInD false a b m) fa fb)) := JT.or j2 j34 (mB_or fun a b m => by
    by_cases q : (dctOf m b).isSome = true
    · exact .inl (if_pos q)
    · exact .inr (if_neg q))
  exact JT.or j1 j234 (mB_or fun a b m => by
    unfold gInA
    by_cases q : ∃ z, b = .str z
    · exact .inl (if_pos q)
    · exact .inr (if_neg q))
theorem jt_nin {a b : Expr} {fa fb : ME} (hu : X.A.units + 1 < cLine) (hu2 : X.A.units + 65 < cLine) (ha : JE X W a fa) (hb : JE X W b fb) (hk : behindInMarks .NotIn b = false := by rfl) : JT X W (.Compare a [.NotIn] [b] pos) (mB (mBin (gInA true) fa fb)) := by
  have j1 : JT X W (.Compare a [.NotIn] [b] pos) (mB (mBin (gInS true) fa fb)) := jt_cmp op_notIn_sign om_ninS ha hb hk
  have j2 : JT X W (.Compare a [.NotIn] [b] pos) (mB (mBin (gDIn true) fa fb)) := jt_of (pc_dnotin hu ha.run hb.run) hk fun σ H Q h => tdin h
  have j3 : JT X W (.Compare a [.NotIn] [b] pos) (mB (mBin (gInF true) fa fb)) := jt_cmp op_notIn_seq om_inF ha hb hk
  have j4 : JT X W (.Compare a [.NotIn] [b] pos) (mB (mBin (gInD true) fa fb)) := jt_cmp (op_notInD hu2) om_ninD ha hb hk
  classical
  have j34 : JT X W (.Compare a [.NotIn] [b] pos) (mB (mBin (fun a b m => if (∃ l, seqOf m b = some l ∧ flat a = true ∧ l.all flat = true) then gInF true a b m else gInD true a b m) fa fb)) := JT.or j3 j4 (mB_or fun a b m => by split <;> simp)
  have j234 : JT X W (.Compare a [.NotIn] [b] pos) (mB (mBin (fun a b m => if (dctOf m b).isSome = true then gDIn true a b m else if (∃ l, seqOf m b = some l ∧ flat a = true ∧ l.all flat = true) then gInF true a b m else gInD true a b m) fa fb)) := JT.or j2 j34 (mB_or fun a b m => by
    by_cases q : (dctOf m b).isSome = true
    · exact .inl (if_pos q)
    · exact .inr (if_neg q))
  exact JT.or j1 j234 (mB_or fun a b m => by
    unfold gInA
    by_cases q : ∃ z, b = .str z
    · exact .inl (if_pos q)
    · exact .inr (if_neg q))
/-! ### o[i] = v of a list or a dict -/
def mStore (fo fi fv : ME) : MS := fun ρ m => onE ρ (fv ρ m) fun v m1 => onE ρ (fo ρ m1) fun d m2 => match dctOf m2 d with
  | some _ => onE ρ (fi ρ m2) fun k m3 => match dctOf m3 d, keyOf k with
    | some (n, l), some q => if l.length < sizeLine then .ok (.nx ρ) (m3.set n (.dct (putM l q v))) else .stuck
    | _, _ => .stuck
  | none => match fi ρ m2 with
    | .ok (.int k) m3 => match mutOf m3 d with
      | some (n, l) => match ixN l.length k with
        | some j => .ok (.nx ρ) (m3.set n (.lst (l.set j v)))
        | none => .stuck
      | none => .stuck
    | _ => .stuck
theorem js_store {o i value : Expr} {pos' : Pos} {fo fi fv : ME} (hu : X.A.units + 1 < cLine) (ho : JE X W o fo) (hi : JE X W i fi) (ho0 : JE X W0 o fo) (hi0 : JE X W0 i fi) (hv : JE X W value fv)
    (hs : swapsWith value (some (.Subscript o i pos')) pos.line X.env = pure false := by rfl) (hs1 : swapsWithSole [.Subscript o i pos'] value pos.line X.env = pure false := by rfl) (hw : swappedStores [.Subscript o i pos'] value X.env = pure none := by rfl)
    (h1 : (assignEach [.Subscript o i pos'] X.env).map (·.2) = [assign (.Subscript o i pos') X.env] := by rfl)
    (ha : ∀ v, assign (.Subscript o i pos') X.env v = (do
      let ov ← holding [v] (eval o X.env)
      let iv ← holding [v, ov] (eval i X.env)
      standAt pos'
      holding [v, ov, iv] (setItem ov iv v)
      release [v, ov, iv] []) := by intro _; rfl) : JS X W (.Assign [.Subscript o i pos'] value pos) (mStore fo fi fv) := by
  have j1 : JS X W (.Assign [.Subscript o i pos'] value pos) (mDPut fo fi fv) := js_dput hu ho hi hv hs
  have j2 : JS X W (.Assign [.Subscript o i pos'] value pos) (mAsg fv (nSubL fo fi)) := js_asg hv (jg_subL ho0 hi0 ha) hs1 hw h1
  refine JS.or j1 j2 fun ρ m => ?_
  unfold mStore mDPut mAsg nSubL
  cases fv ρ m with
  | stuck => exact .inl rfl
  | ex x m1 => exact .inr (.inl rfl)
  | ok v m1 =>
    dsimp only [onE]
    cases fo ρ m1 with
    | stuck => exact .inl rfl
    | ex x m2 => exact .inr (.inl rfl)
    | ok d m2 =>
      dsimp only
      cases hd : dctOf m2 d with
      | some q => exact .inr (.inl rfl)
      | none =>
        dsimp only
        cases fi ρ m2 with
        | stuck => exact .inl rfl
        | ex x m3 => exact .inl rfl
        | ok k m3 =>
          cases k with
          | int k =>
            dsimp only
            cases mutOf m3 d with
            | none => exact .inl rfl
            | some nl =>
              obtain ⟨n, l⟩ := nl
              dsimp only
              cases ixN l.length k with
              | none => exact .inl rfl
              | some j => exact .inr (.inr rfl)
          | _ => exact .inl rfl
/-! ### x op= e -/
def mAug (i : Nat) (g : MV → MV → Mem → Re MV) (f : ME) : MS := fun ρ m => match ρ[i]? with
  | some (some d) => onE ρ (f ρ m) fun e m1 => onE ρ (g d e m1) fun r m2 => .ok (.nx (ρ.set i (some r))) m2
  | _ => .stuck
theorem js_aug (i : Nat) {x : Str} {e : Expr} {f : ME} {op : Operator} {r : R2} {g : MV → MV → Mem → Re MV} {pos' : Pos} (hN : X.N.Nodup) (he : JE X W e f) (ho : PIp X op r) (hm : OpM X r g) (hi : X.N[i]? = some x := by rfl) (hx : Loc X.env.scope x := by first | exact Or.inl rfl | exact Or.inr rfl)
    (hf : X.fn x = true ∨ X.env.scope.names.lookup x = some .local := by first | exact .inl rfl | exact .inr rfl | assumption) : JS X W (.AugAssign (.Name x pos') op e pos) (mAug i g f) :=
  ⟨ps_imp (ps_aug hN hi hx he.run ho hf) fun D σ H q => by
    obtain ⟨ρ, m, β, hE, hM, p⟩ := tS_of q
    unfold mAug at p
    split at p
    · rename_i d hd
      obtain ⟨v, h1, h2⟩ := hE.at_ i d hd
      refine ⟨v, h1, ρ, m, β, hE, hM, PostS.on (D := D) (R := fun β' H' d v => RV X.K β' H' d v) hE hM p fun e1 m1 y H1 β1 _ x1 M1 V1 p1 => ?_⟩
      refine hm W σ d e1 m1 β1 H1 v y _ M1 (h2.ext hM x1) V1 (PostS.on (D := D) (hE.ext hM x1) M1 p1 fun r m2 z H2 β2 _ x2 M2 V2 p2 => ?_)
      exact p2 _ H2 β2 Ext.refl M2 (((hE.ext hM x1).ext M1 x2).set V2)
    · exact p.elim⟩
theorem ip_addI : PIp X .Add (rI0 fun i j => V.int (i + j)) := ip_add
theorem ip_subI : PIp X .Sub (rI0 fun i j => V.int (i - j)) := ip_sub
end
/-! ### the rule for a def, its context told -/
section
variable {P : Program} {w : World} {K : PySem.W.Frag} {mg : Str → Option Value} {base : Heap}
theorem fn_okC {x qual : Str} {st : Stmt} {f : Addr} {fd : FuncData} {N ps : List Str} {k n : Nat} {g : MS} {F : MF} (Fu : Fun K x qual st f fd) (S : FnScope N ps (defScope st)) (hn : ps.length = n)
    (hF : ∀ ds m, ds.length = n → F ds m = endOf (g (startM N.length ds) m))
    (hb : ∀ (cdv : Value) (A : Around) (outer : List PySem.Env) (s : Shared) (H : Hp) (E : XK), Room k (A.deeper (PyProof.Rows.envOfC qual (defScope st) s.heap.objs.size f cdv)) →
      ∀ W, Takes (cxOf (CX P w) P w K mg base N qual (defScope st) f cdv A outer s H E) W → PassesOwn (model P w) (cxOf (CX P w) P w K mg base N qual (defScope st) f cdv A outer s H E).A (cxOf (CX P w) P w K mg base N qual (defScope st) f cdv A outer s H E).env (cxOf (CX P w) P w K mg base N qual (defScope st) f cdv A outer s H E).xe →
        JB (cxOf (CX P w) P w K mg base N qual (defScope st) f cdv A outer s H E) W (defBody st) g) :
    FnOk P w K mg base (CX P w) (k + 1) f fd ps (spM K n F) := by
  refine Fu.okX S (fun vs H Q E h => by rw [hn]; exact h.1) fun cdv A outer s H vs Q E hr hsp => ?_
  obtain ⟨hl, ds, m, β, V, M, p⟩ := hsp
  have tk : Takes (cxOf (CX P w) P w K mg base N qual (defScope st) f cdv A outer s H E) (fun cls d _ H' => E cls d H') := takes_of rfl rfl rfl rfl
  refine ⟨_, (hb cdv A outer s H E hr _ tk (passes_of rfl)).run, ?_⟩
  refine ⟨startM N.length ds, m, β, RE.start V, M, ?_⟩
  rw [hF ds m (by rw [V.length]; exact hl)] at p
  revert p
  generalize g (startM N.length ds) m = r
  intro p
  cases r with
  | ok a m' =>
    cases a with
    | nx ρ => exact fun σ' H' β' e M' _ => p .non H' β' e M' .non
    | bk ρ => exact p.elim
    | ct ρ => exact p.elim
    | rt d => exact fun v H' β' e M' V' => p v H' β' e M' V'
    | ex x ρ => exact fun c d σ' H' β' e M' _ z => p c d H' β' e M' z
  | ex x m' => exact p.elim
  | stuck => exact p
end
end MI
namespace MI
open PySem L2
section
variable {X : Cx} {W : WX} {pos : Pos} {K : PySem.W.Frag} {β : List Addr} {H : Hp} {m : Mem}
abbrev gSub := gI0 fun i j => MV.int (i - j)
abbrev gMod := gII (fun _ j => 0 < j) fun i j => MV.int (i % j)
abbrev gDiv := gII CDivW fun i j => MV.int (i / j)
abbrev gPow := gII CPowW fun i j => MV.int (i ^ j.toNat)
abbrev gLt := gI0 fun i j => MV.bl (decide (i < j))
abbrev gGt := gI0 fun i j => MV.bl (decide (j < i))
abbrev gGe := gI0 fun i j => MV.bl (decide (j ≤ i))
/-- -x -/
def mNeg (f : ME) : ME := fun ρ m => (f ρ m).bind fun d m1 => match d with
  | .int i => .ok (.int (-i)) m1
  | _ => .stuck
theorem je_neg {a : Expr} {f : ME} (ha : JE X W a f) : JE X W (.UnaryOp .USub a pos) (mNeg f) :=
  ⟨pe_imp (pe_un un_neg ha.run) fun σ H Q ⟨ρ, m, β, hE, hM, p⟩ => ⟨ρ, m, β, hE, hM, p.bind fun d m1 x H1 β1 _ e1 M1 V1 p1 => by
    split at p1
    · cases V1; exact ⟨_, rfl, p1.ok M1 (.int _)⟩
    · exact p1.not_stuck⟩⟩
/-- a < b < c -/
def mChain (g g' : MV → MV → Mem → Re MV) (fa fb fc : ME) : ME := fun ρ m => (fa ρ m).bind fun a m1 => (fb ρ m1).bind fun b m2 => (g a b m2).bind fun r m3 => match r with
  | .bl true => (fc ρ m3).bind fun c m4 => g' b c m4
  | .bl false => .ok (.bl false) m3
  | _ => .stuck
theorem t_chain {r r' : R2} {g g' : MV → MV → Mem → Re MV} {fa fb fc : ME} (hm : OpM X r g) (hm' : OpM X r' g') {σ : L2.St} {H : Hp} {Q : VK} (h : tE X W (mChain g g' fa fb fc) σ H Q) : tChain r r' (tE X W fa) (tE X W fb) (tE X W fc) σ H Q := by
  obtain ⟨ρ, m, β, hE, hM, p⟩ := h
  refine ⟨ρ, m, β, hE, hM, p.bind fun d m1 x H1 β1 _ e1 M1 V1 p1 => ⟨ρ, m1, β1, hE.ext hM e1, M1, p1.bind fun d2 m2 y H2 β2 _ e2 M2 V2 p2 => hm W σ d d2 m2 β2 H2 x y _ M2 (V1.ext M1 e2) V2 (p2.bind fun d3 m3 z H3 β3 _ e3 M3 V3 p3 => ?_)⟩⟩
  split at p3
  · cases V3
    exact ⟨true, rfl, by rw [if_pos rfl]; exact ⟨ρ, m3, β3, ((hE.ext hM e1).ext M1 e2).ext M2 e3, M3, p3.bind fun d4 m4 u H4 β4 _ e4 M4 V4 p4 => hm' W σ d2 d4 m4 β4 H4 y u Q M4 ((V2.ext M2 e3).ext M3 e4) V4 p4⟩⟩
  · cases V3
    exact ⟨false, rfl, by rw [if_neg Bool.false_ne_true]; exact p3.ok M3 (.bl _)⟩
  · exact p3.not_stuck
theorem je_chain {op op' : CmpOp} {r r' : R2} {g g' : MV → MV → Mem → Re MV} {a b c : Expr} {fa fb fc : ME} (ho : OpR X (compareOp op) r) (ho' : OpR X (compareOp op') r') (hm : OpM X r g) (hm' : OpM X r' g') (ha : JE X W a fa) (hb : JE X W b fb) (hc : JE X W c fc) (hk : lastMarks [op, op'] [b, c] = false := by rfl) :
    JE X W (.Compare a [op, op'] [b, c] pos) (mChain g g' fa fb fc) := ⟨pe_imp (pe_chain ho ho' ha.run hb.run hc.run hk) fun σ H Q h => t_chain hm hm' h⟩
theorem jt_chain {op op' : CmpOp} {r r' : R2} {g g' : MV → MV → Mem → Re MV} {a b c : Expr} {fa fb fc : ME} (ho : OpR X (compareOp op) r) (ho' : OpR X (compareOp op') r') (hm : OpM X r g) (hm' : OpM X r' g') (ha : JE X W a fa) (hb : JE X W b fb) (hc : JE X W c fc) (hk : lastMarks [op, op'] [b, c] = false := by rfl) :
    JT X W (.Compare a [op, op'] [b, c] pos) (mB (mChain g g' fa fb fc)) :=
  ⟨pt_imp (pt_chain ho ho' ha.run hb.run hc.run hk) fun σ H Q ⟨ρ, m, β, hE, hM, p⟩ => t_chain hm hm' ⟨ρ, m, β, hE, hM, by
    unfold mB at p
    exact p.bind fun d m1 x H1 β1 _ e1 M1 V1 p1 => by
      split at p1
      · cases V1; exact ⟨_, rfl, p1.ok M1 rfl⟩
      · exact p1.not_stuck⟩⟩
/-! ### calls of the text's own defs -/
theorem mNil_len : ∀ ρ m ds m1, mNil ρ m = .ok ds m1 → ds.length = 0 := fun _ _ _ _ h => by cases h; rfl
theorem mCons_len {f : ME} {g : MA} {n : Nat} (h : ∀ ρ m ds m1, g ρ m = .ok ds m1 → ds.length = n) : ∀ ρ m ds m1, mCons f g ρ m = .ok ds m1 → ds.length = n + 1 := fun ρ m ds m1 e => by
  unfold mCons at e
  cases e1 : f ρ m with
  | stuck => rw [e1] at e; cases e
  | ex x m2 => rw [e1] at e; cases e
  | ok d m2 =>
    rw [e1] at e
    have e : ((g ρ m2).bind fun ds m2 => .ok (d :: ds) m2) = .ok ds m1 := e
    cases e2 : g ρ m2 with
    | stuck => rw [e2] at e; cases e
    | ex x m3 => rw [e2] at e; cases e
    | ok es m3 =>
      rw [e2] at e
      cases e
      rw [List.length_cons, h ρ m2 es _ e2]
/-- f() -/
theorem je_call0 {k j : Nat} {x : Str} {F : MF} {p : Pos} (Fk : Fn X.prog X.w X.K X.mg X.base k x 0 F) (hr : Room j X.A) (hk : k ≤ j) (tk : Takes X W) (hg : Gl X x := by rfl) (hdb : (x == ("__debug__" : Str)) = false := by decide) : JE X W (.Call (.Name x p) [] [] pos) (mCall F mNil) := by
  obtain ⟨f, fd, ps, h1, h2, h3, h4⟩ := Fk.ex
  refine ⟨⟨fun pins s σ H Q I q => ?_⟩⟩
  obtain ⟨ρ, m, β, hE, hM, p⟩ := q
  refine wpAny_Call_Name_kw (ld_glob I hg h2 ?_ hdb)
  refine PySem.W.callWith_K0 I.kIn h3 (run_fnSD (E := WE W) (us := []) h1 (hr.mono hk) h4 .nil (passAt tk σ) I .nil ?_)
  refine ⟨rfl, [], m, β, .nil, hM, ?_⟩
  have p : Post X W (F [] m) β H σ (fun β' H' d v => RV X.K β' H' d v) Q := p
  revert p
  generalize F [] m = r
  intro p
  cases r with
  | ok d m2 => exact p
  | ex x m2 => exact p
  | stuck => exact p
def mRetN : MS := fun _ m => .ok (.rt .non) m
theorem js_retN : JS X W (.Return none pos) mRetN := ⟨ps_imp ps_retN fun D σ H ⟨ρ, m, β, hE, hM, p⟩ => p .non H β Ext.refl hM .non⟩
/-! ### more built-ins -/
def gMin : List MV → Mem → Re MV
  | [.int i, .int j], m => .ok (.int (if j < i then j else i)) m
  | [.int i, .int j, .int k], m => .ok (.int (if k < (if j < i then j else i) then k else (if j < i then j else i))) m
  | _, _ => .stuck
abbrev rMinA : List V → Hp → VK → Prop := fun xs H Q => (∃ i j, xs = [V.int i, V.int j] ∧ Q (V.int (if j < i then j else i)) H) ∨ rNuC3 nuMin3 xs H Q
theorem cr_min (hc : X.calm = true) : CallR X (.builtin "min") rMinA := cr_or (call_min2 hc) (call_min3Nu hc)
theorem cm_min : CrM X rMinA gMin := by
  intro W σ ds m β H vs Q M V p
  unfold gMin at p
  split at p
  · cases V with | cons h r => cases r with | cons h2 r => cases r; cases h; cases h2; exact .inl ⟨_, _, rfl, p.ok M (.int _)⟩
  · cases V with
    | cons h r =>
      cases r with
      | cons h2 r =>
        cases r with
        | cons h3 r =>
          cases r; cases h; cases h2; cases h3
          rename_i i j k
          refine .inr ⟨_, _, _, _, rfl, ?_, p.ok M (.int _)⟩
          show (nuMin2 (V.int i) (V.int j)).bind (fun m => nuMin2 m (V.int k)) = _
          have e : ∀ a b : Int, nuMin2 (V.int a) (V.int b) = some (V.int (if b < a then b else a)) := fun a b => by
            show Option.map (fun c => if c = true then V.int b else V.int a) (some (decide (b < a))) = _
            by_cases h : b < a <;> simp [h]
          rw [e]
          show nuMin2 (V.int _) (V.int k) = _
          rw [e]
  · exact p.not_stuck
abbrev gAddI := gI0 fun i j => MV.int (i + j)
theorem om_addI : OpM X (rI0 fun i j => V.int (i + j)) gAddI := om_I0 fun _ _ _ _ _ => .int _
/-- more turns than any while here takes -/
def turns : Nat := 1000000
theorem hgs_name {i : Nat} : ∀ d m as, ngName i d m = some as → ∀ p ∈ as, p.1 ∈ [i] := fun d m as h p hp => by
  unfold ngName at h
  cases h
  simp at hp
  subst hp
  simp
end
end MI
namespace MI
open PySem L2
section
variable {X : Cx} {W : WX} {pos : Pos} {K : PySem.W.Frag} {β : List Addr} {H : Hp} {m : Mem}
/-! ### isinstance of a built-in type -/
def tyO : Option MO → Option String
  | some (.lst _) => some "list"
  | some (.frz _) => some "list"
  | some (.dct _) => some "dict"
  | _ => none
def tyM (m : Mem) : MV → Option String
  | .non => some "NoneType"
  | .bl _ => some "bool"
  | .int _ => some "int"
  | .str _ => some "str"
  | .tup _ => some "tuple"
  | .ref n => tyO m[n]?
  | .kl _ => none
theorem RM.ty (R : RM K β H m) {d : MV} {v : V} {t : String} (r : RV K β H d v) (h : tyM m d = some t) : TyX K H v (.type t) := by
  cases r with
  | non => cases h; exact .base .non
  | bl k => cases h; exact .base (.bl k)
  | int i => cases h; exact .base (.int i)
  | str x => cases h; exact .base (.str x)
  | tup h1 h2 =>
    cases h
    rcases h1 with (h1 | ⟨o, h1⟩) | ⟨o, its, n, h1, h2, _⟩
    · exact .base (.tup h1)
    · exact .fTuple h1
    · exact .kTuple h1 h2
  | @ref n a hb =>
    have h' : tyO m[n]? = some t := h
    cases e : m[n]? with
    | none => rw [e] at h'; cases h'
    | some o =>
      rw [e] at h'
      have q := R.ob n o a e hb
      cases o with
      | lst l => cases h'; obtain ⟨vs, q1, q2⟩ := q; exact .base (.lst q1)
      | frz l => cases h'; obtain ⟨vs, ob, q1, q2⟩ := q; exact .base (.frz q1)
      | dct l => cases h'; obtain ⟨vs, q1, q2⟩ := q; exact .base (.dK q1)
      | exn x => cases h'
      | own c l => cases h'
  | kl _ _ => cases h
def mIsi (T : String) (f : ME) : ME := fun ρ m => (f ρ m).bind fun d m1 => match (tyM m1 d).bind fun t => kitB t T with
  | some b => .ok (.bl b) m1
  | none => .stuck
theorem je_isi (T : String) {e : Expr} {x : Str} {p q : Pos} {f : ME} (h : JE X W e f) (hm : X.mg "isinstance" = none) (hmt : X.mg x = none) (hv : bootBuiltins x = some (.type T)) (hg : Gl X "isinstance" := by rfl) (hgt : Gl X x := by rfl) (hn : x ≠ "__name__" := by decide) (hd : (x == ("__debug__" : Str)) = false := by decide)
    (he : starEach (e :: [.Name x q]) X.env = (false, eval e X.env) :: starEach [.Name x q] X.env := by rfl) (hpl : (backTo pos (starEach [.Name x q] X.env)).any (·.1) = false := by rfl) : JE X W (.Call (.Name "isinstance" p) [e, .Name x q] [] pos) (mIsi T f) :=
  ⟨pe_imp (pe_callB call_isi hg hm (by decide +kernel) (pa_cons h.run (pa_cons (pe_bltn (v := .ty T) hgt hmt hv rfl hn hd) pa_nil) he) (by decide) (by decide) he hpl) fun σ H Q ⟨ρ, m, β, hE, hM, p⟩ => ⟨ρ, m, β, hE, hM, p.bind fun d m1 x H1 β1 _ e1 M1 V1 p1 => by
    split at p1
    · rename_i b hb
      cases ht : tyM m1 d with
      | none => rw [ht] at hb; cases hb
      | some t =>
        rw [ht] at hb
        exact ⟨x, _, _, _, b, rfl, .ty T, M1.ty V1 ht, kit_ty hb, p1.ok M1 (.bl _)⟩
    · exact p1.not_stuck⟩⟩
end
end MI
namespace MI
open PySem L2
/-! ### two ways to let an exception out: anyhow, or with no context -/
/-- what a class of the text must say, to be raised with a text -/
structure ExF (K : PySem.W.Frag) (mg : Str → Option Value) (x : Str) : Prop where
  ex : ∃ C : Addr, ClsN K x C ∧ mg x = some (.ref C) ∧ PySem.W.excIn K C [.type "ValueError", .type "Exception", .type "BaseException", .type "object"] "ValueError.__new__" = true ∧ PySem.W.keepIn K (.ref C) = true ∧
    PySem.W.subIn K (.ref C) (.type "BaseException") = some true ∧ PySem.W.typeIn K (.ref C) = some (.type "type")
structure Mode where
  CX : Program → World → CXT
  Tk : Cx → WX → Prop
  tk0 : ∀ {X : Cx}, Tk X fun _ _ _ _ => False
  pass : ∀ {X : Cx} {W : WX}, Tk X W → ∀ σ, PassesAt (CX X.prog X.w) X σ (WE W σ)
  raise : ∀ {X : Cx} {W : WX} {x m : Str} {j : Nat} {p p2 pos pos' : Pos} {C : Addr}, X.calm = true → Tk X W → PySem.W.excIn X.K C [.type "ValueError", .type "Exception", .type "BaseException", .type "object"] "ValueError.__new__" = true → X.mg x = some (.ref C) → PySem.W.keepIn X.K (.ref C) = true → Raises X (.ref C) → Gl X x → (x == ("__debug__" : Str)) = false →
    PS X (.Raise (some (.Call (.Name x p) [.Constant (.str m) j p2] [] pos)) none pos') (fun _ σ H => W (.ref C) none σ H)
  no : ∀ {P : Program} {w : World} {st : List PySem.Env} {H : Hp} {s : Shared} {e : Value} {s' : Shared}, CX P w st H s (fun _ _ _ => False) e s' → False
  of : ∀ {X : Cx} {E : XK} {E₁ : Value → Shared → Prop}, X.stack = X.env :: X.outer → X.env.frame = some X.env.locals → X.ex = [] →
    (X.xe = fun e s' => wpAny (model X.prog X.w) X.A (leaving X.env e) (fun _ s'' => CX X.prog X.w X.outer X.H_0 X.s_0 E e s'') E₁ s') → Tk X (fun cls d _ H => E cls d H)
def M2 : Mode where
  CX := L2.CX
  Tk := L2.Takes
  tk0 := takes0
  pass := fun tk σ => L2.passAt tk σ
  raise := fun hc tk q gC kC r hg hd => L2.ps_raise hc tk (L2.pmk_own PySem.F.excBase_ValueError q gC kC r hg hd)
  no := fun ⟨_, _, _, _, _, _, _, _, _, _, _, _, z⟩ => z
  of := fun hs hf hex hx => L2.takes_of hs hf hex hx
def MN : Mode where
  CX := L2N.CX
  Tk := L2N.Takes
  tk0 := fun u s' ⟨_, _, _, _, _, _, _, _, _, _, _, _, _, _, _, _, h⟩ => h.elim
  pass := fun tk σ => L2N.passAt tk σ
  raise := fun hc tk q gC kC r hg hd => L2N.ps_raise hc tk (L2N.pmk_own PySem.F.excBase_ValueError q gC kC r hg hd)
  no := fun ⟨_, _, _, _, _, _, _, _, _, _, _, _, z⟩ => z
  of := fun hs hf hex hx => L2N.takes_of hs hf hex hx
/-- a global def that does F, at level k, with n parameters -/
structure FnX (M : Mode) (P : Program) (w : World) (K : PySem.W.Frag) (mg : Str → Option Value) (base : Heap) (k : Nat) (x : Str) (n : Nat) (F : MF) : Prop where
  ex : ∃ (f : Addr) (fd : FuncData) (ps : List Str), FnOk P w K mg base (M.CX P w) k f fd ps (spM K n F) ∧ mg x = some (.ref f) ∧ PySem.W.keepIn K (.ref f) = true ∧ Binds K fd ps []
section
variable {M : Mode} {X : Cx} {W : WX} {pos : Pos} {K : PySem.W.Frag} {β : List Addr} {H : Hp} {m : Mem}
def mRaise (x : Str) : MS := fun ρ m => .ok (.ex ⟨x⟩ ρ) m
theorem jx_raise {x msg : Str} {j : Nat} {p p2 pos pos' : Pos} (T : ExF X.K X.mg x) (hc : X.calm = true) (tk : M.Tk X W) (hg : Gl X x := by rfl) (hd : (x == ("__debug__" : Str)) = false := by decide) : JS X W (.Raise (some (.Call (.Name x p) [.Constant (.str msg) j p2] [] pos)) none pos') (mRaise x) := by
  obtain ⟨C, h1, h2, h3, h4, h5, h6⟩ := T.ex
  exact ⟨ps_imp (M.raise hc tk h3 h2 h4 (raises_own h5 h6) hg hd) fun D σ H ⟨ρ, m, β, hE, hM, p⟩ => p _ _ σ H β Ext.refl hM hE ⟨C, rfl, h1, rfl⟩⟩
theorem jx_call {k j n : Nat} {x : Str} {F : MF} {e : Expr} {es : List Expr} {g : MA} {p pos : Pos} (Fk : FnX M X.prog X.w X.K X.mg X.base k x n F) (hr : Room j X.A) (hk : k ≤ j) (tk : M.Tk X W) (ha : JA X W (e :: es) g)
    (hg : Gl X x := by rfl) (hdb : (x == ("__debug__" : Str)) = false := by decide) (he : starEach (e :: es) X.env = (false, eval e X.env) :: starEach es X.env := by rfl) (hpl : (backTo pos (starEach es X.env)).any (·.1) = false := by rfl)
    (hlen : ∀ ρ m ds m1, g ρ m = .ok ds m1 → ds.length = n) : JE X W (.Call (.Name x p) (e :: es) [] pos) (mCall F g) := by
  obtain ⟨f, fd, ps, h1, h2, h3, h4⟩ := Fk.ex
  refine ⟨pe_imp (pe_callS h1 (hr.mono hk) hg h2 h3 h4 (fun σ => M.pass tk σ) ha.run hdb he hpl) fun σ H Q ⟨ρ, m, β, hE, hM, p⟩ => ⟨ρ, m, β, hE, hM, ?_⟩⟩
  refine p.bind fun ds m1 vs H1 β1 e0 e1 M1 V1 p1 => ⟨by rw [← V1.length]; exact hlen ρ m ds m1 e0, ds, m1, β1, V1, M1, ?_⟩
  revert p1
  generalize F ds m1 = r
  intro p1
  cases r with
  | ok d m2 => exact p1
  | ex x m2 => exact p1
  | stuck => exact p1
theorem jx_call0 {k j : Nat} {x : Str} {F : MF} {p : Pos} (Fk : FnX M X.prog X.w X.K X.mg X.base k x 0 F) (hr : Room j X.A) (hk : k ≤ j) (tk : M.Tk X W) (hg : Gl X x := by rfl) (hdb : (x == ("__debug__" : Str)) = false := by decide) : JE X W (.Call (.Name x p) [] [] pos) (mCall F mNil) := by
  obtain ⟨f, fd, ps, h1, h2, h3, h4⟩ := Fk.ex
  refine ⟨⟨fun pins s σ H Q I q => ?_⟩⟩
  obtain ⟨ρ, m, β, hE, hM, p⟩ := q
  refine wpAny_Call_Name_kw (ld_glob I hg h2 ?_ hdb)
  refine PySem.W.callWith_K0 I.kIn h3 (run_fnSD (E := WE W) (us := []) h1 (hr.mono hk) h4 .nil (M.pass tk σ) I .nil ?_)
  refine ⟨rfl, [], m, β, .nil, hM, ?_⟩
  have p : Post X W (F [] m) β H σ (fun β' H' d v => RV X.K β' H' d v) Q := p
  revert p
  generalize F [] m = r
  intro p
  cases r with
  | ok d m2 => exact p
  | ex x m2 => exact p
  | stuck => exact p
end
section
variable {M : Mode} {P : Program} {w : World} {K : PySem.W.Frag} {mg : Str → Option Value} {base : Heap}
theorem fnx_ok {x qual : Str} {st : Stmt} {f : Addr} {fd : FuncData} {N ps : List Str} {k n : Nat} {g : MS} {F : MF} (Fu : Fun K x qual st f fd) (S : FnScope N ps (defScope st)) (hn : ps.length = n)
    (hF : ∀ ds m, ds.length = n → F ds m = endOf (g (startM N.length ds) m))
    (hb : ∀ (cdv : Value) (A : Around) (outer : List PySem.Env) (s : Shared) (H : Hp) (E : XK), Room k (A.deeper (PyProof.Rows.envOfC qual (defScope st) s.heap.objs.size f cdv)) →
      ∀ W, M.Tk (cxOf (M.CX P w) P w K mg base N qual (defScope st) f cdv A outer s H E) W → PassesOwn (model P w) (cxOf (M.CX P w) P w K mg base N qual (defScope st) f cdv A outer s H E).A (cxOf (M.CX P w) P w K mg base N qual (defScope st) f cdv A outer s H E).env (cxOf (M.CX P w) P w K mg base N qual (defScope st) f cdv A outer s H E).xe →
        JB (cxOf (M.CX P w) P w K mg base N qual (defScope st) f cdv A outer s H E) W (defBody st) g) :
    FnOk P w K mg base (M.CX P w) (k + 1) f fd ps (spM K n F) := by
  obtain ⟨oc, od, kV, doc, pm, an, cdv, ct, osl, rfl, lk, hcd⟩ := Fu.ex
  refine fn_of lk hcd S (fun vs H Q E h => by rw [hn]; exact h.1) fun A outer s H vs Q E hr hsp => ?_
  obtain ⟨hl, ds, m, β, V, Mm, p⟩ := hsp
  have tk : M.Tk (cxOf (M.CX P w) P w K mg base N qual (defScope st) f cdv A outer s H E) (fun cls d _ H' => E cls d H') := M.of rfl rfl rfl rfl
  refine ⟨_, (hb cdv A outer s H E hr _ tk (passes_of rfl)).run, ?_⟩
  refine ⟨startM N.length ds, m, β, RE.start V, Mm, ?_⟩
  rw [hF ds m (by rw [V.length]; exact hl)] at p
  revert p
  generalize g (startM N.length ds) m = r
  intro p
  cases r with
  | ok a m' =>
    cases a with
    | nx ρ => exact fun σ' H' β' e M' _ => p .non H' β' e M' .non
    | bk ρ => exact p.elim
    | ct ρ => exact p.elim
    | rt d => exact fun v H' β' e M' V' => p v H' β' e M' V'
    | ex x ρ => exact fun c d σ' H' β' e M' _ z => p c d H' β' e M' z
  | ex x m' => exact p.elim
  | stuck => exact p
/-- level 0: nothing is promised -/
theorem fnx_0 {x : Str} {n : Nat} {f : Addr} {fd : FuncData} {ps : List Str} (hn : ps.length = n) (h2 : mg x = some (.ref f)) (h3 : PySem.W.keepIn K (.ref f) = true) (h4 : Binds K fd ps []) : FnX M P w K mg base 0 x n (fun _ _ => .stuck) :=
  ⟨f, fd, ps, ⟨fun vs H Q E h => by rw [hn]; exact h.1, fun A outer s H args us vs Q E _ _ _ _ h => by obtain ⟨_, _, _, _, _, _, q⟩ := h; exact q.elim⟩, h2, h3, h4⟩
end
/-! ### try: .. except C: .. -/
section
variable {X : Cx} {W : WX} {pos : Pos} {K : PySem.W.Frag} {β : List Addr} {H : Hp} {m : Mem}
/-- which classes a clause takes -/
def Exm (K : PySem.W.Frag) (c : Value) (P : Str → Option Bool) : Prop := ∀ (y : Str) (C : Addr) (b : Bool), ClsN K y C → P y = some b → PySem.W.exmOne K (.ref C) c = some b
/-- a suite that lets nothing out -/
def noEx (r : Re Fl) : Re Fl := match r with
  | .ok (.ex _ _) _ => .stuck
  | r => r
theorem PostS.noEx {r : Re Fl} {β : List Addr} {H : Hp} {D : Ends} (p : PostS X W (noEx r) β H D) : PostS X W0 r β H D := by
  cases r with
  | ok a m =>
    cases a with
    | ex x ρ => exact p.elim
    | nx ρ => exact p
    | bk ρ => exact p
    | ct ρ => exact p
    | rt d => exact p
  | ex x m => exact p
  | stuck => exact p
def mTry (P : Str → Option Bool) (f g : MS) : MS := fun ρ m => match f ρ m with
  | .ok (.ex x ρ') m' => match P x.cls with
    | some true => noEx (g ρ' m')
    | some false => .ok (.ex x ρ') m'
    | none => .stuck
  | r => r
theorem jx_try {x : Str} {c : Value} {body suite : List Stmt} {b₀ : Stmt} {np pos' : Pos} {f g : MS} {P : Str → Option Bool} (hs : X.stack = X.env :: X.outer) (hf : X.env.frame = some X.env.locals) (hc : Names X x c) (he : Exm X.K c P) (tk : Takes X W)
    (hb : ∀ (W' : WX) (pn : List (Addr × Obj)) (xe : Value → Shared → Prop), Takes (X.tr pn xe) W' → PassesOwn (model X.prog X.w) X.A X.env xe → JB (X.tr pn xe) W' body f)
    (hsu : ∀ (a : Addr) (oe : Obj) (pn : List (Addr × Obj)), JB (X.suite a ((a, oe) :: pn)) W0 (b₀ :: suite) g) :
    JS X W (.Try body [.ExceptHandler (some (.Name x np)) none (b₀ :: suite) pos'] [] [] pos) (mTry P f g) := by
  refine ⟨ps_imp (ps_try_only (tb := fun W' => tS X W' f) (ts := fun _ _ _ => tS X W0 g) hs hf hc tk (fun W' pn xe t h => (hb W' pn xe t h).run) (fun a oe cls d pn _ _ => (hsu a oe pn).run)) fun D σ H q => ?_⟩
  obtain ⟨ρ, m, β, hE, hM, p⟩ := tS_of q
  refine ⟨ρ, m, β, hE, hM, ?_⟩
  unfold mTry at p
  cases hf' : f ρ m with
  | stuck => rw [hf'] at p; exact p
  | ex x m' => rw [hf'] at p; exact p
  | ok a m' =>
    rw [hf'] at p
    cases a with
    | nx ρ' => exact p
    | bk ρ' => exact p
    | ct ρ' => exact p
    | rt d => exact p
    | ex x ρ' =>
      intro cls dd σ' H' β' e M E hx
      obtain ⟨C, rfl, hC, rfl⟩ := hx
      dsimp only at p
      cases hP : P x.cls with
      | none => rw [hP] at p; exact p.elim
      | some b =>
        refine ⟨b, he _ C b hC hP, fun hb1 a ha => ?_, fun hb0 => ?_⟩
        · subst hb1
          rw [hP] at p
          have p : PostS X W (noEx (g ρ' m')) β H D := p
          exact ⟨ρ', m', β', E, M, (PostS.later p e).noEx⟩
        · subst hb0
          rw [hP] at p
          exact p _ none σ' H' β' e M E ⟨C, rfl, hC, rfl⟩
end
end MI
namespace MI
open PySem L2
/-! ### a caught exception is kept behind its suite -/
section
variable {X : Cx} {pins : List (Addr × Obj)} {σ : L2.St} {H : Hp} {s : Shared}
/-- an object that was made behind the entry is known from now on -/
theorem track {a : Addr} {oe : Obj} {vs : Array Value} {o : HO} (I : L2.Inv X pins σ H s) (he : s.heap.get? a = some oe) (hd : oe.data = .fields vs) (n : H a = none) (h0 : X.s_0.heap.get? a = none) (nL : a ≠ X.env.locals)
    (np : ∀ p ∈ X.pn ++ pins, p.1 ≠ a) (ok : ObjOk X.prog X.w (upd H a o) s.heap a o) : L2.Inv X pins σ (upd H a o) s where
  ok := I.ok
  os := I.os
  bare := I.bare
  base :=
    { keep := I.base.keep
      slot := I.base.slot
      free := fun b u q z hx => by
        have hb : b ≠ a := fun e => by rw [e, h0] at q; cases q
        rw [upd_ne hb]
        exact I.base.free b u q z hx
      there := I.base.there
      tups := fun b xs q => by
        have q1 := I.base.tups b xs q
        rw [upd_ne (ne_of_none q1 n)]
        exact q1
      frzs := fun b u xs q => by
        have q1 := I.base.frzs b u xs q
        rw [upd_ne (ne_of_none q1 n)]
        exact q1
      tbls := fun b ps q => by
        obtain ⟨more, q1⟩ := I.base.tbls b ps q
        exact ⟨more, by rw [upd_ne (ne_of_none q1 n)]; exact q1⟩ }
  loc := I.loc
  cell := I.cell
  free := by rw [upd_ne (Ne.symm nL)]; exact I.free
  freeC := fun x c e => by
    have hc : c ≠ a := fun z => by
      obtain ⟨v, ob, q1, q2⟩ := I.cell x c e
      rw [z, he] at q1
      cases q1
      rw [hd] at q2
      cases q2
    rw [upd_ne hc]
    exact I.freeC x c e
  pin := fun p hp => by
    obtain ⟨q1, q2, q3⟩ := I.pin p hp
    exact ⟨q1, by rw [upd_ne (np p hp)]; exact q2, q3⟩
  hok := fun b u q => by
    by_cases hb : b = a
    · subst hb
      rw [upd_same] at q
      cases q
      exact ok
    · rw [upd_ne hb] at q
      exact (I.hok b u q).stay (fun _ _ _ z => z) (fun c z => by rw [upd_ne (ne_of_none z n)]; exact z) fun c xs z => by rw [upd_ne (ne_of_none z n)]; exact z
  len := I.len
end
section
variable {X : Cx} {x n y : Str} {c : Value} {i j : Nat} {body : List Stmt} {np py pn' spos pos pos' : Pos} {tb : WX → TS} {Wout : WX}
/-- what is wanted of an exception in the body: it is taken, and then both names have it, the clause's own goes again; or it goes on -/
def wKeep (K : PySem.W.Frag) (c : Value) (i j : Nat) (Wout : WX) (D : Ends) : WX := fun cls d σ H =>
  ∃ b, PySem.W.exmOne K cls c = some b ∧ (b = true → d = none ∧ ∀ a, H a = none → D.nx (((σ.set i (some (.ref a))).set j (some (.ref a))).set i none) (upd H a (ExH cls a))) ∧ (b = false → Wout cls d σ H)
abbrev keepH (x n y : Str) (np py pn' spos pos' : Pos) : ExceptHandler := .ExceptHandler (some (.Name x np)) (some n) [.Assign [.Name y py] (.Name n pn') spos] pos'
theorem ps_try_keep (hs : X.stack = X.env :: X.outer) (hf : X.env.frame = some X.env.locals) (hex : X.ex = []) (hN : X.N.Nodup) (hi : X.N[i]? = some n) (hln : X.env.kindOf n = some .local) (hj : X.N[j]? = some y) (hly : X.env.kindOf y = some .local) (hc : Names X x c) (tk : Takes X Wout)
    (hd1 : (n == ("__debug__" : Str)) = false) (hd2 : (n == ("__classdict__" : Str)) = false)
    (hb : ∀ (W : WX) (pn : List (Addr × Obj)) (xe : Value → Shared → Prop), Takes (X.tr pn xe) W → PassesOwn (model X.prog X.w) X.A X.env xe → PSs (X.tr pn xe) body (tb W)) :
    PS X (.Try body [keepH x n y np py pn' spos pos'] [] [] pos) (fun D σ H => tb (wKeep X.K c i j Wout D) D σ H) := by
  constructor
  intro pins s σ H D I h
  have ok := I.ok
  have fr : X.A.frames = some (X.env :: X.outer) := ok.frames.trans (congrArg some hs)
  apply wpAny_Try_except
  let M := model X.prog X.w
  let Eb : Value → Shared → Prop := fun e s₁ => wpAny M X.A (noteFrame e X.env) (fun _ s₂ => wpAny M X.A (setFlight e none) (fun _ s₃ => wpAny M X.A (handleBy e X.env [keepH x n y np py pn' spos pos']) (SP X pins D) X.xe s₃) X.xe s₂) X.xe s₁
  have catch_ : Takes (X.tr (X.pn ++ pins) Eb) (wKeep X.K c i j Wout D) := by
    rintro u s' ⟨a, B, sI, ps', σ', H', cls, d, rfl, J', nb, up, sky, na, os, ag, b, hb1, yes, no⟩
    have J : L2.Inv X pins σ' H' sI := J'.ofTry ok
    have sky2 : Sky B (X.env :: X.outer) a (Zc cls d) X.env.locals s'.heap := hs ▸ sky
    refine Sky.land Zc.steady fr hf sky2 ?_
    intro h3 fl3 up3
    obtain ⟨oe3, vs3, he3, hz3, hd3⟩ := fl3.there
    -- the object is no frame's
    have apart : ∀ {h : Heap} {o : Obj} {vs : Array Value}, h.FunFrames B (X.env :: X.outer) → h.get? a = some o → o.data = .fields vs → a ∉ frs (X.env :: X.outer) := by
      intro h o vs ff e dd hm
      obtain ⟨_, o', e', far⟩ := ff.mem hm
      rw [e] at e'
      cases e'
      exact far _ dd
    have nfr := apart fl3.2.2.1 he3 hd3
    have nL : a ≠ X.env.locals := by
      intro z
      exact nfr (List.mem_filterMap.mpr ⟨X.env, List.mem_cons_self, hf.trans (by rw [z])⟩)
    have nF : a ∉ X.fs := by
      intro hm
      obtain ⟨e, he, q⟩ := List.mem_filterMap.mp hm
      exact nfr (List.mem_filterMap.mpr ⟨e, List.mem_cons_of_mem _ he, q⟩)
    -- it is new
    have newI : sI.heap.get? a = none := by
      cases q : sI.heap.get? a with
      | none => rfl
      | some o =>
        have := nb a o q (by rw [hs]; exact nfr)
        rw [fl3.2.1] at this
        cases this
    have new0 : X.s_0.heap.get? a = none := by
      cases q : X.s_0.heap.get? a with
      | none => rfl
      | some o =>
        obtain ⟨o', q'⟩ := J.base.there a o q (by rw [hex]; exact List.not_mem_nil)
        rw [newI] at q'
        cases q'
    have newp : ∀ p ∈ X.pn ++ pins, p.1 ≠ a := by
      intro p hp z
      have := (J.pin p hp).1
      rw [z, newI] at this
      cases this
    have J3 : L2.Inv X pins σ' H' { s' with heap := h3 } := J.landed nb fl3.1 (up.trans up3) os ag
    have S3 := J3.suite he3 hd3 na nL nF
    apply wpAny_handleBy_cons (codeAny_handlers_test ?_) (by intro q; cases q)
    have ty : PySem.W.Looks M h3 (typeOf (.ref a)) cls := fun A Q E s k q => wpAny_typeOf_ref (k _ _ he3) (by rw [hz3.1]; exact q)
    have asks := PySem.W.exm_one (M := M) J3.kIn ty hb1
    have clause : ∀ {Q : Value → Shared → Prop} {E : Value → Shared → Prop}, Q c { s' with heap := h3 } → wpAny M (X.A.mark (some (.ref a))) (eval (.Name x np) X.env) Q E { s' with heap := h3 } := by
      intro Q E q
      obtain ⟨hg, hdbg, hm | ⟨hm, hv, hnn⟩⟩ := hc
      · exact ld_glob (X := X.suite a ((a, oe3) :: (X.pn ++ pins))) S3 hg hm q hdbg
      · exact ld_blt (X := X.suite a ((a, oe3) :: (X.pn ++ pins))) S3 hg hm hv q hnn hdbg
    apply clause
    apply asks.here
    cases b with
    | true =>
      obtain ⟨ed, goes⟩ := yes rfl
      subst ed
      apply codeAny_handlers_suite_as
      apply HandSPX.lands_againZ fl3
      intro h4 fl4 up4
      have J4 : L2.Inv X pins σ' H' { s' with heap := h4 } := J.landed nb fl4.1 ((up.trans up3).trans up4) os ag
      obtain ⟨oe4, vs4, he4, hz4, hd4⟩ := fl4.there
      have S4 := J4.suite he4 hd4 na nL nF
      refine store_ok (X := X.suite a ((a, oe4) :: (X.pn ++ pins))) (v := .ref a) S4 hN hi (.inl hln) rfl ?_ (.inr hln)
      intro s5 S5
      have il : i < σ'.length := by rw [J.len]; exact (List.getElem?_eq_some_iff.mp hi).1
      have one : PSs (X.suite a ((a, oe4) :: (X.pn ++ pins))) [.Assign [.Name y py] (.Name n pn') spos] (tAsg (tVar i) (gName j)) :=
        pss_one (ps_set hN hj (.inl hly) (pe_var hi (.inl hln) hd1 hd2) (by rfl) (.inr hly))
      refine wpAny_mono (one.run [] s5 (σ'.set i (some (.ref a))) H' { nx := fun σ6 H6 => σ6 = (σ'.set i (some (.ref a))).set j (some (.ref a)) ∧ H6 = H', rt := fun _ _ => False } S5 ⟨.ref a, List.getElem?_set_self il, rfl, rfl⟩) ?_ (fun _ _ z => z.elim)
      intro f s6 q6
      cases f with
      | next =>
        obtain ⟨σ6, H6, S6, rfl, rfl⟩ := q6
        obtain ⟨p1, p2, p3, p4, _⟩ := S6.pin (a, oe4) (List.mem_append_left _ List.mem_cons_self)
        have J6 : L2.Inv X pins ((σ'.set i (some (.ref a))).set j (some (.ref a))) H6 s6 := S6.unsuite ok
        have known : ObjOk X.prog X.w (upd H6 a (ExH cls a)) s6.heap a (ExH cls a) :=
          ⟨⟨oe4, vs4, p1, hz4.1, hz4.2, hd4⟩, ⟨oe4, p1⟩, fun _ _ ⟨o, v, q1, q2⟩ st => ⟨o, v, st o q1, q2⟩⟩
        have J7 := track J6 p1 hd4 na new0 nL newp known
        exact gone_ok J7 hN hi hln fun s7 J8 => ⟨_, _, J8, goes a na⟩
      | ret u => obtain ⟨v, σ6, H6, _, _, q⟩ := q6; exact q.elim
      | brk => obtain ⟨σ6, H6, _, q⟩ := q6; exact q.elim
      | cont => obtain ⟨σ6, H6, _, q⟩ := q6; exact q.elim
    | false =>
      show wpAny _ X.A (handleBy (.ref a) X.env []) _ _ _
      apply wpAny_handleBy_nil
      obtain ⟨k1, k2, k3, oe, vs, T, oT, ts', he, hz, hd, h1, hr⟩ := id fl3
      unfold PySem.passOn
      apply wpAny_bind
      apply wpAny_field he hd h1
      rw [if_neg (show ¬ ((Value.ref T == Value.none) = true) from by simp)]
      have fin : wpAny M X.A (setFlight (.ref a) X.env.frame) (fun _ s4 => wpAny M X.A (throw (.ref a) : Sem Flow) (SP X pins D) X.xe s4) X.xe { s' with heap := h3 } := by
        rw [hf]
        apply HandSPX.setFlight_upZ fl3
        intro h4 hh4 up4
        apply wpAny_throw
        apply tk
        exact ⟨a, B, sI, pins, σ', H', cls, d, rfl, J, nb, (up.trans up3).trans up4, .inr (.inr (by rw [hs]; exact hh4)), na, os, ag, no rfl⟩
      first
        | exact wpAny_bind (wpAny_pure (wpAny_bind fin))
        | exact wpAny_bind fin
  refine wpAny_mono ((hb _ (X.pn ++ pins) Eb catch_ PassesOwn.looking).run [] s σ H D (I.toTry _) h) ?_ (fun e s1 he => he)
  intro f s1 q1
  cases f with
  | next =>
    obtain ⟨σ1, H1, J1, q⟩ := q1
    exact wpAny_execs_nil ⟨σ1, H1, J1.ofTry ok, q⟩
  | ret u =>
    obtain ⟨v, σ1, H1, J1, r, q⟩ := q1
    exact ⟨v, σ1, H1, J1.ofTry ok, r, q⟩
  | brk =>
    obtain ⟨σ1, H1, J1, q⟩ := q1
    exact ⟨σ1, H1, J1.ofTry ok, q⟩
  | cont =>
    obtain ⟨σ1, H1, J1, q⟩ := q1
    exact ⟨σ1, H1, J1.ofTry ok, q⟩
end
end MI
namespace MI
open PySem L2
section
variable {X : Cx} {W : WX} {pos : Pos} {K : PySem.W.Frag} {β : List Addr} {H : Hp} {m : Mem}
theorem RE.setN {ρ : Env} {σ : L2.St} {i : Nat} (r : RE K β H ρ σ) : RE K β H (ρ.set i none) (σ.set i none) := by
  refine ⟨by simp [r.len], fun j e q => ?_⟩
  by_cases hj : i = j
  · subst hj
    rw [List.getElem?_set_self'] at q
    cases z : ρ[i]? with
    | none => rw [z] at q; cases q
    | some w => rw [z] at q; cases q
  · rw [List.getElem?_set_ne hj] at q ⊢
    exact r.at_ j e q
def mTryK (P : Str → Option Bool) (i j : Nat) (f : MS) : MS := fun ρ m => match f ρ m with
  | .ok (.ex x ρ') m' => match P x.cls with
    | some true => .ok (.nx (((ρ'.set i (some (.ref m'.length))).set j (some (.ref m'.length))).set i none)) (m' ++ [.exn x])
    | some false => .ok (.ex x ρ') m'
    | none => .stuck
  | r => r
theorem jx_tryK (i j : Nat) {x n y : Str} {c : Value} {body : List Stmt} {np py pn' spos pos' : Pos} {f : MS} {P : Str → Option Bool} (hs : X.stack = X.env :: X.outer) (hf : X.env.frame = some X.env.locals) (hex : X.ex = []) (hN : X.N.Nodup) (hc : Names X x c) (he : Exm X.K c P) (tk : Takes X W)
    (hb : ∀ (W' : WX) (pn : List (Addr × Obj)) (xe : Value → Shared → Prop), Takes (X.tr pn xe) W' → PassesOwn (model X.prog X.w) X.A X.env xe → JB (X.tr pn xe) W' body f)
    (hi : X.N[i]? = some n := by rfl) (hln : X.env.kindOf n = some .local := by rfl) (hj : X.N[j]? = some y := by rfl) (hly : X.env.kindOf y = some .local := by rfl)
    (hd1 : (n == ("__debug__" : Str)) = false := by decide) (hd2 : (n == ("__classdict__" : Str)) = false := by decide) :
    JS X W (.Try body [.ExceptHandler (some (.Name x np)) (some n) [.Assign [.Name y py] (.Name n pn') spos] pos'] [] [] pos) (mTryK P i j f) := by
  refine ⟨ps_imp (ps_try_keep (tb := fun W' => tS X W' f) hs hf hex hN hi hln hj hly hc tk hd1 hd2 (fun W' pn xe t h => (hb W' pn xe t h).run)) fun D σ H q => ?_⟩
  obtain ⟨ρ, m, β, hE, hM, p⟩ := tS_of q
  refine ⟨ρ, m, β, hE, hM, ?_⟩
  unfold mTryK at p
  cases hf' : f ρ m with
  | stuck => rw [hf'] at p; exact p
  | ex x m' => rw [hf'] at p; exact p
  | ok a m' =>
    rw [hf'] at p
    cases a with
    | nx ρ' => exact p
    | bk ρ' => exact p
    | ct ρ' => exact p
    | rt d => exact p
    | ex x ρ' =>
      intro cls dd σ' H' β' e M E hx
      obtain ⟨C, rfl, hC, rfl⟩ := hx
      dsimp only at p
      cases hP : P x.cls with
      | none => rw [hP] at p; exact p.elim
      | some b =>
        refine ⟨b, he _ C b hC hP, fun hb1 => ⟨rfl, fun a ha => ?_⟩, fun hb0 => ?_⟩
        · subst hb1
          rw [hP] at p
          have V : RV X.K (β' ++ [a]) (upd H' a (ExH (.ref C) a)) (.ref m'.length) (.ref a) := .ref (by rw [← M.len]; simp)
          exact p _ _ _ (e.trans (Ext.push ha)) (M.push ha ⟨C, hC, upd_same⟩) ((((E.ext M (Ext.push ha)).set V).set V).setN)
        · subst hb0
          rw [hP] at p
          exact p _ none σ' H' β' e M E ⟨C, rfl, hC, rfl⟩
/-! ### try: .. except C: raise D('m') from None -/
theorem pmk5_text {C : Addr} {x t : Str} {j : Nat} {p p2 : Pos} (q : PySem.W.excIn X.K C [.type "ValueError", .type "Exception", .type "BaseException", .type "object"] "ValueError.__new__" = true) (gC : X.mg x = some (.ref C)) (kC : PySem.W.keepIn X.K (.ref C) = true) (r : Raises X (.ref C)) (hg : Gl X x) (hdb : (x == ("__debug__" : Str)) = false) :
    L2H.PMk5 X (.Call (.Name x p) [.Constant (.str t) j p2] [] pos) (fun _ H Q => Q (.ref C) none H) := by
  intro pins s σ H Q I h
  apply wpAny_Call_Name_kw
  apply ld_glob I hg gC (hd := hdb)
  have args : PA X [.Constant (.str t) j p2] (tCons (tC (.str t)) tNil) := pa_cons pe_str pa_nil
  apply PySem.W.callWith_K (h₀ := X.base) I.ok.mod.kin kC
  apply thn (args.run pos pins s σ H (fun vs H1 => vs = [V.str t] ∧ H = H1) I ⟨rfl, rfl⟩)
  rintro us s1 ⟨vs, H1, I1, r1, rfl, rfl⟩
  refine ⟨I1.kIn, ?_⟩
  obtain ⟨u, rfl⟩ : ∃ u, us = [u] := by
    cases r1 with
    | cons a b => cases b; exact ⟨_, rfl⟩
  show wpAny _ _ (call (.ref C) [u]) _ _ _
  obtain ⟨bm, N, nm, qn, bs, hdct, sn, sub, ab, col, dd, k0, k1, k2, k3, k5, mN, hC, hN, hni, T⟩ := exc_obj I1.kIn q
  apply wpAny_call_exc_subT PySem.F.excBase_ValueError T hC hN hni
  intro h' e hm
  exact L2H.mk_of5 I1 hm r h (I1.hok.gone hm.new)
def mTryF (P : Str → Option Bool) (y : Str) (f : MS) : MS := fun ρ m => match f ρ m with
  | .ok (.ex x ρ') m' => match P x.cls with
    | some true => .ok (.ex ⟨y⟩ ρ') m'
    | some false => .ok (.ex x ρ') m'
    | none => .stuck
  | r => r
theorem jx_tryF {x y t : Str} {c : Value} {body : List Stmt} {np p p2 pos2 pos3 cpos pos' : Pos} {j j2 : Nat} {f : MS} {P : Str → Option Bool} (hs : X.stack = X.env :: X.outer) (hf : X.env.frame = some X.env.locals) (hpa : ∀ hd : Option Value, PassesOwnAt (model X.prog X.w) (X.A.mark hd) X.A X.env X.xe) (hc : Names X x c) (he : Exm X.K c P) (T : ExF X.K X.mg y) (tk : Takes X W)
    (hb : ∀ (W' : WX) (pn : List (Addr × Obj)) (xe : Value → Shared → Prop), L2N.Takes (X.tr pn xe) W' → PassesOwn (model X.prog X.w) X.A X.env xe → JB (X.tr pn xe) W' body f) (hg : Gl X y := by rfl) (hdb : (y == ("__debug__" : Str)) = false := by decide) :
    JS X W (.Try body [.ExceptHandler (some (.Name x np)) none [.Raise (some (.Call (.Name y p) [.Constant (.str t) j p2] [] pos2)) (some (.Constant .none j2 cpos)) pos3] pos'] [] [] pos) (mTryF P y f) := by
  obtain ⟨C, h1, h2, h3, h4, h5, h6⟩ := T.ex
  refine ⟨ps_imp (L2H.ps_try_onlyX (tb := fun W' => tS X W' f) (ts := fun _ _ _ _ σ H => W (.ref C) none σ H) (Wout := W) hs hf hc hpa tk (fun W' pn xe t _ h => (hb W' pn xe t h).run)
    (fun a oe cls d pn _ _ tk' hot => pss_one (L2H.ps_raiseHN hot tk' (pmk5_text (X := L2H.suiteX X a ((a, oe) :: pn)) h3 h2 h4 (raises_own h5 h6) hg hdb)))) fun D σ H q => ?_⟩
  obtain ⟨ρ, m, β, hE, hM, p⟩ := tS_of q
  refine ⟨ρ, m, β, hE, hM, ?_⟩
  unfold mTryF at p
  cases hf' : f ρ m with
  | stuck => rw [hf'] at p; exact p
  | ex x m' => rw [hf'] at p; exact p
  | ok a m' =>
    rw [hf'] at p
    cases a with
    | nx ρ' => exact p
    | bk ρ' => exact p
    | ct ρ' => exact p
    | rt d => exact p
    | ex x ρ' =>
      intro cls dd σ' H' β' e M E hx
      obtain ⟨C', rfl, hC, rfl⟩ := hx
      dsimp only at p
      cases hP : P x.cls with
      | none => rw [hP] at p; exact p.elim
      | some b =>
        refine ⟨b, he _ C' b hC hP, fun hb1 a ha => ?_, fun hb0 => ?_⟩
        · subst hb1
          rw [hP] at p
          exact p _ none σ' H' β' e M E ⟨C, rfl, h1, rfl⟩
        · subst hb0
          rw [hP] at p
          exact p _ none σ' H' β' e M E ⟨C', rfl, hC, rfl⟩
/-! ### isinstance of a kept exception -/
def rIsX (K : PySem.W.Frag) : List V → Hp → VK → Prop := fun xs H Q => ∃ (a D : Addr) (c : V) (cv : Value) (b : Bool), xs = [.ref a, c] ∧ H a = some (ExH (.ref D) a) ∧ ExcC K D ∧ (∀ u, RelV c u → u = cv) ∧ PySem.W.kitOne K (.ref D) cv = some b ∧ Q (.bl b) H
theorem call_isx : CallR X (.builtin "isinstance") (rIsX X.K) := by
  intro pins s σ H xs us Q I r h
  obtain ⟨a, D, c, cv, b, rfl, hH, C, hcv, e, q⟩ := h
  cases r with
  | cons rx rr =>
    cases rr with
    | cons rt rr =>
      cases rr
      cases rx
      obtain rfl := hcv _ rt
      obtain ⟨⟨oe, vs, g1, g2, g3, g4⟩, _, _⟩ := I.hok a _ hH
      have J : PySem.W.InstAt s.heap a oe D none := by
        cases oe
        dsimp only at g2 g3 g4
        subst g2 g3 g4
        exact ⟨g1, rfl, rfl, trivial⟩
      exact PySem.W.kia_one (PySem.W.handS_kitx_exc C.hg C.hk C.hs C.hd C.ha C.hn C.ht C.hm) I.kIn J e (fun z => nomatch z) fun tk => ⟨.bl b, H, I.kept (t' := tk) fun _ _ z => z, rfl, q⟩
/-- what a class says of the exceptions' classes -/
structure Isx (K : PySem.W.Frag) (cv : Value) (P : Str → Option Bool) : Prop where
  one : ∀ (y : Str) (D : Addr) (b : Bool), ClsN K y D → P y = some b → ExcC K D ∧ PySem.W.kitOne K (.ref D) cv = some b
  non : PySem.W.kitOne K (.type "NoneType") cv = some false
def exnOf (m : Mem) : MV → Option Exn
  | .ref n => match m[n]? with
    | some (.exn x) => some x
    | _ => none
  | _ => none
def isxV (P : Str → Option Bool) (m : Mem) : MV → Option Bool
  | .non => some false
  | d => (exnOf m d).bind fun x => P x.cls
def mIsx (P : Str → Option Bool) (f : ME) : ME := fun ρ m => (f ρ m).bind fun d m1 => match isxV P m1 d with
  | some b => .ok (.bl b) m1
  | none => .stuck
theorem je_isx {e ce : Expr} {p : Pos} {f : ME} {c : V} {cv : Value} {P : Str → Option Bool} (h : JE X W e f) (hcv : ∀ u, RelV c u → u = cv) (hcl : ClsV c cv) (hce : PE X ce (tC c)) (T : Isx X.K cv P) (hm : X.mg "isinstance" = none) (hg : Gl X "isinstance" := by rfl)
    (he : starEach (e :: [ce]) X.env = (false, eval e X.env) :: starEach [ce] X.env := by rfl) (he2 : starEach (ce :: []) X.env = (false, eval ce X.env) :: starEach [] X.env := by rfl) (hpl : (backTo pos (starEach [ce] X.env)).any (·.1) = false := by rfl) : JE X W (.Call (.Name "isinstance" p) [e, ce] [] pos) (mIsx P f) :=
  ⟨pe_imp (pe_callB (cr_or call_isi call_isx) hg hm (by decide +kernel) (pa_cons h.run (pa_cons hce pa_nil he2) he) (by decide) (by decide) he hpl) fun σ H Q ⟨ρ, m, β, hE, hM, p⟩ => ⟨ρ, m, β, hE, hM, p.bind fun d m1 x H1 β1 _ e1 M1 V1 p1 => by
    show rIsi X.K [x, c] H1 Q ∨ rIsX X.K [x, c] H1 Q
    split at p1
    · rename_i b hb
      unfold isxV at hb
      split at hb
      · cases hb
        cases V1
        exact .inl ⟨_, _, _, _, false, rfl, hcl, .base .non, T.non, p1.ok M1 (.bl _)⟩
      · cases hx : exnOf m1 d with
        | none => rw [hx] at hb; cases hb
        | some y =>
          rw [hx] at hb
          unfold exnOf at hx
          split at hx
          · split at hx
            · rename_i x' hm1
              cases hx
              cases V1 with
              | ref hbn =>
                obtain ⟨C, hC, hH⟩ := M1.ob _ _ _ hm1 hbn
                obtain ⟨t1, t2⟩ := T.one _ C b hC hb
                exact .inr ⟨_, C, c, cv, b, rfl, hH, t1, hcv, t2, p1.ok M1 (.bl _)⟩
            · cases hx
          · cases hx
    · exact p1.not_stuck⟩⟩
end
end MI
namespace PySem
open Sem (wp)
set_option maxHeartbeats 1000000 in
theorem mi_meets_enum {v : Value} {o : Obj} {H : Heap → Prop} (B : Begins v o H) :
    Meets (Builtin.«enumerate.__new__» ⟨[.type "enumerate", v], []⟩) (fun _ R s => H s.heap ∧
        R (.ok (.ret (.ref (s.heap.push o).objs.size))) { s with heap := (s.heap.push o).push { cls := .type "enumerate", data := .fields #[.none, .bool false, .ref s.heap.objs.size, rawInt 0, .none, .none] } }) :=
  .of_wp fun prog w A R s hh => by
    obtain ⟨hp, gs, ds, ts, oss⟩ := s
    obtain ⟨hb, hR⟩ := hh
    have hsubc := sub_enumerate
    have walk1 : ∀ {A' : Around} {E : Value → Shared → Prop} {Q : Value → Shared → Prop}, Q (.ref hp.objs.size) ⟨hp.push o, gs, ds, ts, oss⟩ → wpAny (model prog w) A' (pyIter v) Q E ⟨hp, gs, ds, ts, oss⟩ := fun z => B.iter prog w _ _ ⟨hp, gs, ds, ts, oss⟩ _ hb z
    wp_walk using walk1
    refine wpAny_stack_any fun st => ?_
    refine wpAny_pure ?_
    split
    next c _ _ _ _ _ =>
      cases (c == Value.type "enumerate") <;> (wp_walk using walk1; exact ⟨_, rfl, hR⟩)
    next => wp_walk using walk1; exact ⟨_, rfl, hR⟩
theorem mi_enum {prog : Program} {w : World} {A : Around} {E : Value → Shared → Prop} {s : Shared} {v : Value} {o : Obj} {H : Heap → Prop} {Q : Value → Shared → Prop} (B : Begins v o H) (h1 : H s.heap)
    (h : ∀ h', IsEnum h' (s.heap.objs.size + 1) s.heap.objs.size 0 .none → h'.get? s.heap.objs.size = some o → (∀ b o, s.heap.get? b = some o → h'.get? b = some o) → Q (.ref (s.heap.objs.size + 1)) { s with heap := h' }) :
    wpAny (model prog w) A (call (.type "enumerate") [v]) Q E s := by
  refine callType_new F.called_enumerate (by decide) (F.typeCall_enumerate_1 _) (F.newCall_enumerate_1 _) (fun obj => F.args_object_init_2 obj _) F.entry_enumerate_new (mi_meets_enum B) ⟨h1, ?_⟩
  have sz : (s.heap.push o).objs.size = s.heap.objs.size + 1 := Heap.size_push ..
  show _ ∧ _
  rw [sz]
  have he := Heap.get?_push_size (s.heap.push o) (o := { cls := .type "enumerate", data := .fields #[.none, .bool false, .ref s.heap.objs.size, rawInt 0, .none, .none] }) rfl
  rw [sz] at he
  exact ⟨⟨_, he, rfl⟩, h _ he (Heap.get?_push_of_some _ (Heap.get?_push_size _ B.free)) fun b o' x => Heap.get?_push_of_some _ (Heap.get?_push_of_some _ x)⟩
end PySem
namespace MI
open PySem L2
/-- a tuple's items with their numbers -/
def ItEt (K : PySem.W.Frag) (a : Addr) : It :=
  ⟨fun i H => ∃ (xs : List V) (x : V), SqT K H a xs ∧ xs[i]? = some x, fun i H v H' => ∃ T x, v = .ref T ∧ H T = none ∧ H' = upd H T (.tup [.int (i : Nat), x]) ∧ ∀ xs, SqT K H a xs → xs[i]? = some x, fun i H => ∃ xs : List V, SqT K H a xs ∧ xs.length = i⟩
section
variable {X : Cx} {W : WX} {pos : Pos} {K : PySem.W.Frag} {β : List Addr} {H : Hp} {m : Mem}
theorem mi_turn {P : Program} {w : World} {K : PySem.W.Frag} {elts : List Expr} {kk : Nat} {tpos : Pos} (a e it : Addr) :
    Turn P w K (.Tuple elts kk tpos) (ItEt K a) [e, it] e (fun i h => (∃ old, IsEnum h e it ((i : Nat) : Int) old) ∧ h.IsTupleIter it a i ∧ e ≠ it ∧ a ≠ it ∧ a ≠ e) where
  mem := by simp
  obj := fun i h st b hb => by
    obtain ⟨⟨old, he⟩, ⟨o, ho, hc, hd⟩, _⟩ := st
    rcases (by simpa using hb : b = e ∨ b = it) with rfl | rfl
    · exact ⟨_, he, fun v q => nomatch q⟩
    · exact ⟨o, ho, fun v q => by rw [hd] at q; cases q⟩
  keep := fun i h h' st k => let ⟨⟨old, he⟩, hi, hne⟩ := st; ⟨⟨old, k e (by simp) _ he⟩, hi.at fun o q => k it (by simp) o q, hne⟩
  item := by
    intro X hP hw hK hc i pins s σ H E I hf st hg
    subst hP hw hK
    obtain ⟨⟨old, he⟩, hit, hne, n1, n2⟩ := st
    obtain ⟨xs, x, hq, hx⟩ := hg
    obtain ⟨its, rv, p, hz⟩ := I.tuple hq
    obtain ⟨u, hu, ru⟩ := rv.get hx
    have p' : s.heap.IsTuple a its.toArray := p
    have hel : e < s.heap.objs.size := Heap.lt_size he
    have hil : it < s.heap.objs.size := by obtain ⟨_, q, _⟩ := hit; exact Heap.lt_size q
    have hi : i < its.length := (List.getElem?_eq_some_iff.mp hu).1
    refine wpAny_pyNext_enum_itemD (D := Draws.tuple (prog := X.prog) (w := X.w) (A := X.A.in1) (I.ok.hd hc) it a n1 its.toArray) he ⟨hit, p'⟩ (by simpa using hi) hne (by simp [hne, Ne.symm n2]) fun x' h' tk hP ho hst hT hsz hk => ?_
    have hxu : x' = u := by
      have := hP
      simp only [List.getElem?_toArray] at this
      rw [hu] at this
      exact (Option.some.inj this).symm
    subst hxu
    refine ⟨_, rfl, wpAny_letOwnedTupleGo_enum (s := { s with heap := h', toks := tk + 1 }) ho fun h'' he' sb => ?_⟩
    have hT2 : h''.get? s.heap.objs.size = some { cls := .type "tuple", data := .seq #[.int i tk, x'] } := (sb.2 _ (Nat.ne_of_gt hel)).trans hT
    have new : ObjOk X.prog X.w (upd H s.heap.objs.size (.tup [.int (i : Nat), x])) h'' s.heap.objs.size (.tup [.int (i : Nat), x]) :=
      ⟨by show 2 ≤ sizeLine; decide, [.int i tk, x'], .cons ⟨_, rfl⟩ (.cons ru .nil), ⟨_, hT2, rfl, _, rfl⟩⟩
    have I1 : Inv X pins σ (upd H s.heap.objs.size (.tup [.int (i : Nat), x])) { s with heap := h'', toks := tk + 1 } :=
      I.turnedNew (ch := [e, it]) (fun b ob hb q => (sb.2 b (fun z => hb (by simp [z]))).trans (hk b ob (fun z => hb (by simp [z])) (fun z => hb (by simp [z])) q)) hf (Nat.le_refl _) new
    refine ⟨.ref s.heap.objs.size, _, I1, rfl, ⟨_, x, rfl, I.hok.fresh (Nat.le_refl _), rfl, fun ys hy => by rw [I.tuple_inj hy hq]; exact hx⟩, ⟨⟨x', ?_⟩, hst.1.at fun o q => (sb.2 it (Ne.symm hne)).trans q, hne, n1, n2⟩, fun b hb => ?_⟩
    · have e1 : ((i + 1 : Nat) : Int) = (i : Int) + 1 := by omega
      rw [e1]; exact he'
    · have hb' : b < s.heap.objs.size := by
        rcases (by simpa using hb : b = e ∨ b = it) with rfl | rfl
        · exact hel
        · exact hil
      rw [upd_ne (Nat.ne_of_lt hb')]
      exact (hf b hb).1
  done := by
    intro X hP hw hK hc i pins s σ H E I hf st hg
    subst hP hw hK
    obtain ⟨⟨old, he⟩, hit, hne, n1, n2⟩ := st
    obtain ⟨xs, hq, hx⟩ := hg
    obtain ⟨its, rv, p, hz⟩ := I.tuple hq
    have p' : s.heap.IsTuple a its.toArray := p
    obtain ⟨f0, f1, f2, f3, f4, f5⟩ := hf it (by simp)
    have hl := rv.length
    have D := Draws.tuple (prog := X.prog) (w := X.w) (A := X.A.in1) (I.ok.hd hc) it a n1 its.toArray
    have e0 : i = its.toArray.size := by simp; omega
    rw [e0] at hit
    refine wpAny_pyNext_enum_endD D he ⟨hit, p'⟩ fun h' eb => ⟨rfl, I.turned (t' := s.toks) (fun b o hb q => eb b o hb q) f0 f1 f3 f4 f5⟩
  self := fun A i s Q E st h => let ⟨⟨_, he⟩, _⟩ := st; wpAny_pyIter_enum he h
/-! ### enumerate -/
/-- the items with their numbers -/
def numd (l : List MV) : List MV := (List.range l.length).zipWith (fun (i : Nat) x => .tup [.int i, x]) l
def enumOf : List MV → Mem → Re IterM
  | [.tup l], m => .ok ⟨numd l, fun _ => True⟩ m
  | [.ref n], m => match lstOf m (.ref n) with
    | some l => .ok ⟨numd l, fun m' => lstOf m' (.ref n) = some l⟩ m
    | none => .stuck
  | _, _ => .stuck
def mEnum (g : MA) : MI' := fun ρ m => (g ρ m).bind enumOf
def iEnumA (K : PySem.W.Frag) (ta : TA) : TI := fun σ H R => ta σ H fun vs H1 => ∃ a xs, vs = [.ref a] ∧ ((SqL K H1 a xs ∧ R (Ite K a) H1) ∨ (SqT K H1 a xs ∧ R (ItEt K a) H1))
theorem pi_enumA {e : Expr} {ta : TA} {p tpos : Pos} {elts : List Expr} {kk : Nat} (hg : Gl X "enumerate") (hm : X.mg "enumerate" = none) (ha : PA X [e] ta) (hs : starEach [e] X.env = [(false, eval e X.env)]) :
    PI X (.Tuple elts kk tpos) (.Call (.Name "enumerate" p) [e] [] pos) (iEnumA X.K ta) := by
  refine ⟨fun pins s σ H R I h => ?_⟩
  refine PyProof.Rows.Call_ (ld_blt I hg hm PyProof.Rows.boot_enumerate (PyProof.Rows.callWith_type1 (thn (ha.run pos pins s σ H _ I h) fun us s1 z => ?_) hs rfl))
  obtain ⟨vs, H1, I1, r1, a, xs, ex, q⟩ := z
  subst ex
  cases r1 with
  | cons r rr =>
    cases rr
    cases r
    have fp : ∀ b, b = s1.heap.objs.size + 1 ∨ b = s1.heap.objs.size → ∀ {h' : Heap}, Inv X pins σ H1 { s1 with heap := h' } → FpOk X pins H1 b := by
      intro b hb h' _
      have hle : s1.heap.objs.size ≤ b := by rcases hb with rfl | rfl <;> omega
      exact I1.fpOk hle (I1.hok.fresh hle)
    rcases q with ⟨hq, q⟩ | ⟨hq, q⟩
    · obtain ⟨its, rv, p', hz⟩ := I1.list hq
      refine call_enumerate_list p'.isList fun h' he hit hsz hk => wpAny_pyIter_enum he ?_
      have I2 : Inv X pins σ H1 { s1 with heap := h' } := I1.kept (t' := s1.toks) hk
      exact ⟨s1.heap.objs.size + 1, [s1.heap.objs.size + 1, s1.heap.objs.size], _, _, H1, rfl, I2, turn_enum a (s1.heap.objs.size + 1) s1.heap.objs.size, ⟨⟨.none, he⟩, hit, Nat.succ_ne_self _⟩, fun b hb => fp b (by simpa using hb) I2, q⟩
    · obtain ⟨its, rv, p', hz⟩ := I1.tuple hq
      have p2 : s1.heap.IsTuple a its.toArray := p'
      have la : a < s1.heap.objs.size := by obtain ⟨_, z, _⟩ := p2; exact Heap.lt_size z
      refine mi_enum (begins_tuple a its.toArray) p2 fun h' he hit hk => wpAny_pyIter_enum he ?_
      have I2 : Inv X pins σ H1 { s1 with heap := h' } := I1.kept (t' := s1.toks) hk
      exact ⟨s1.heap.objs.size + 1, [s1.heap.objs.size + 1, s1.heap.objs.size], _, _, H1, rfl, I2, mi_turn a (s1.heap.objs.size + 1) s1.heap.objs.size, ⟨⟨.none, he⟩, ⟨_, hit, rfl, rfl⟩, Nat.succ_ne_self _, Nat.ne_of_lt la, Nat.ne_of_lt (Nat.lt_succ_of_lt la)⟩, fun b hb => fp b (by simpa using hb) I2, q⟩
theorem zw_get {l : List MV} {i : Nat} {d : MV} (h : (numd l)[i]? = some d) : ∃ x, l[i]? = some x ∧ d = .tup [.int (i : Nat), x] := by
  unfold numd at h
  rw [List.getElem?_zipWith] at h
  cases e : l[i]? with
  | none => rw [e] at h; cases h' : (List.range l.length)[i]? <;> rw [h'] at h <;> cases h
  | some x =>
    have hi : i < l.length := (List.getElem?_eq_some_iff.mp e).1
    rw [e, List.getElem?_range hi] at h
    exact ⟨x, rfl, (Option.some.inj h).symm⟩
@[simp] theorem zw_len {l : List MV} : (numd l).length = l.length := by simp [numd]
/-- a new pair is laid -/
theorem lay_pair {x y : MV} {u v : V} {T : Addr} (M : RM K β H m) (h1 : RV K β H x u) (h2 : RV K β H y v) (hT : H T = none) : Ext β H β (upd H T (.tup [u, v])) ∧ RM K β (upd H T (.tup [u, v])) m ∧ RV K β (upd H T (.tup [u, v])) (.tup [x, y]) (.ref T) := by
  have e : Ext β H β (upd H T (.tup [u, v])) := Ext.tup hT
  exact ⟨e, M.tup hT, .tup (.inl (.inl upd_same)) (.cons (h1.ext M e) (.cons (h2.ext M e) .nil))⟩
theorem walkM_enumT {a : Addr} {l : List MV} {vs : List V} (M : RM K β H m) (h : SqT K H a vs) (r : RVs K β H l vs) : WalkM K β H ⟨numd l, fun _ => True⟩ (ItEt K a) := by
  refine ⟨fun H1 => SqT K H1 a vs, fun i H1 x H2 => ∃ T y, x = .ref T ∧ H1 T = none ∧ H2 = upd H1 T (.tup [.int (i : Nat), y]) ∧ vs[i]? = some y, ⟨fun i H1 hi g => ?_, fun H1 g => ?_, fun i H1 x H2 _ g y => ?_⟩, fun β1 H1 m1 e M1 _ => M.sqt e h, fun i H1 x H2 β1 m1 d e M1 _ hi y => ?_⟩
  · have hi : i < vs.length := by rw [← r.length]; simpa using hi
    exact ⟨vs, vs[i], g, by simp [hi]⟩
  · exact ⟨vs, g, by rw [← r.length]; simp⟩
  · obtain ⟨T, x', q1, q2, q3, q4⟩ := y
    exact ⟨T, x', q1, q2, q3, q4 vs g⟩
  · obtain ⟨T, y, rfl, q2, rfl, q4⟩ := y
    obtain ⟨x, hx, rfl⟩ := zw_get hi
    obtain ⟨v, h1, h2⟩ := (r.ext M e).get hx
    rw [h1] at q4; cases q4
    exact lay_pair M1 (.int _) h2 q2
theorem walkM_enumL {a : Addr} {d : MV} {l : List MV} (M : RM K β H m) (rd : RV K β H d (.ref a)) (h : lstOf m d = some l) : WalkM K β H ⟨numd l, fun m' => lstOf m' d = some l⟩ (Ite K a) := by
  refine ⟨fun H1 => ∃ vs, SqL K H1 a vs ∧ vs.length = l.length, fun i H1 x H2 => ∃ T y, x = .ref T ∧ H1 T = none ∧ H2 = upd H1 T (.tup [.int (i : Nat), y]) ∧ ∀ vs, SqL K H1 a vs → vs[i]? = some y, ⟨fun i H1 hi g => ?_, fun H1 g => ?_, fun i H1 x H2 _ g y => y⟩, fun β1 H1 m1 e M1 hc => ?_, fun i H1 x H2 β1 m1 d' e M1 hc hi y => ?_⟩
  · obtain ⟨vs, g1, g2⟩ := g
    have hi' : i < vs.length := by rw [g2]; simpa using hi
    exact ⟨vs, vs[i], g1, by simp [hi']⟩
  · obtain ⟨vs, g1, g2⟩ := g
    exact ⟨vs, g1, by rw [g2]; simp⟩
  · obtain ⟨a', vs, e1, h1, h2⟩ := M1.lst (rd.ext M e) hc
    cases e1
    exact ⟨vs, h1, h2.length.symm⟩
  · obtain ⟨T, y, rfl, q2, rfl, q4⟩ := y
    obtain ⟨x, hx, rfl⟩ := zw_get hi
    obtain ⟨a', vs, e1, h1, h2⟩ := M1.lst (rd.ext M e) hc
    cases e1
    obtain ⟨v, z1, z2⟩ := h2.get hx
    have := q4 vs h1
    rw [z1] at this; cases this
    exact lay_pair M1 (.int _) z2 q2
theorem ji_enum {e : Expr} {g : MA} {p tpos : Pos} {elts : List Expr} {kk : Nat} (hm : X.mg "enumerate" = none) (ha : JA X W [e] g) (hg : Gl X "enumerate" := by rfl) (hs : starEach [e] X.env = [(false, eval e X.env)] := by rfl) : JI X W (.Tuple elts kk tpos) (.Call (.Name "enumerate" p) [e] [] pos) (mEnum g) := by
  refine ⟨pi_imp (pi_enumA hg hm ha.run hs) fun σ H R ⟨ρ, m, β, hE, hM, p⟩ => ⟨ρ, m, β, hE, hM, ?_⟩⟩
  have p : PostI X W ((g ρ m).bind enumOf) β H σ R := p
  cases hf : g ρ m with
  | stuck => rw [hf] at p; exact p.elim
  | ex x m1 => rw [hf] at p; exact p
  | ok ds m1 =>
    rw [hf] at p
    intro vs H1 β1 e1 M1 V1
    have p : PostI X W (enumOf ds m1) β H σ R := p
    unfold enumOf at p
    split at p
    · cases V1 with
      | cons V1 V2 =>
        cases V2
        cases V1 with
        | tup h1 h2 => exact ⟨_, _, rfl, .inr ⟨h1, p _ _ _ e1 M1 (walkM_enumT M1 h1 h2)⟩⟩
    · cases V1 with
      | cons V1 V2 =>
        cases V2
        split at p
        · rename_i l hl
          obtain ⟨a, vs, rfl, h1, h2⟩ := M1.lst V1 hl
          exact ⟨a, vs, rfl, .inl ⟨h1, p _ _ _ e1 M1 (walkM_enumL M1 V1 hl)⟩⟩
        · exact p.elim
    · exact p.elim
end
end MI
namespace PySem
open Sem (wp)
/-! ### tuple(zip(list, list)) -/
theorem F.mi_zip_len : typeLookup (.type "zip") "__len__" = pure none := by rw [typeLookup_type, builtinLookup_eq_fast]; kernel_rfl
theorem F.mi_zip_hint : typeLookup (.type "zip") "__length_hint__" = pure none := by rw [typeLookup_type, builtinLookup_eq_fast]; kernel_rfl
structure ZSet (z TI TO i1 i2 l1 l2 S N : Addr) : Prop where
  D : ZipApart z TI TO i1 i2 l1 l2
  Sz : S ≠ z
  SI : S ≠ TI
  SO : S ≠ TO
  S1 : S ≠ i1
  S2 : S ≠ i2
  Sl1 : S ≠ l1
  Sl2 : S ≠ l2
  Lz : z < N
  LI : TI < N
  LO : TO < N
  L1 : i1 < N
  L2 : i2 < N
  LS : S < N
structure ZFin (h0 : Heap) (S N : Addr) (xs ys acc : Array Value) (h : Heap) : Prop where
  keep : ∀ b o, h0.get? b = some o → h.get? b = some o
  lst : ∃ c, h.get? S = some { cls := .type "list", dict := none, data := .seq acc c, slots := #[] }
  items : ∀ (j : Nat) (v : Value), acc[j]? = some v → ∃ T x y, v = .ref T ∧ N ≤ T ∧ IsPair h T x y ∧ xs[j]? = some x ∧ ys[j]? = some y
  above : h0.objs.size ≤ N
  inc : ∀ (j k T U : Nat), acc[j]? = some (.ref T) → acc[k]? = some (.ref U) → j < k → T < U
structure ZAt (h0 : Heap) (z TI TO i1 i2 l1 l2 S N : Addr) (xs ys : Array Value) (i : Nat) (acc : Array Value) (h : Heap) : Prop extends ZFin h0 S N xs ys acc h where
  zst : IsZip h z TI TO .none ∨ ∃ T f oT, IsZipHeld h z TI TO T f ∧ h.get? T = some oT ∧ N ≤ T
  ti : IsPair h TI (.ref i1) (.ref i2)
  to : ∃ a b, IsPair h TO a b
  it1 : h.IsListIter i1 l1 i
  it2 : h.IsListIter i2 l2 i
  low : N ≤ h.objs.size
  top : ∀ (j T : Nat), acc[j]? = some (.ref T) → T < h.objs.size
  in0 : ∀ b o, h0.get? b = some o → b ≠ z ∧ b ≠ TI ∧ b ≠ TO ∧ b ≠ i1 ∧ b ≠ i2 ∧ b ≠ S
section
variable {prog : Program} {w : World} {A : Around} {R : Result → Shared → Prop} {h0 : Heap} {z TI TO i1 i2 l1 l2 S N : Addr} {xs ys : Array Value}
theorem ZFin.pair {h h' : Heap} {acc : Array Value} (a : ZFin h0 S N xs ys acc h) (hz : S < N) (k : ∀ b o, (b = S ∨ N ≤ b ∨ ∃ o, h0.get? b = some o) → h.get? b = some o → h'.get? b = some o) : ZFin h0 S N xs ys acc h' where
  keep := fun b o e => k b o (.inr (.inr ⟨o, e⟩)) (a.keep b o e)
  lst := let ⟨c, e⟩ := a.lst; ⟨c, k S _ (.inl rfl) e⟩
  items := fun j v e => let ⟨T, x, y, e1, e2, e3, e4⟩ := a.items j v e; ⟨T, x, y, e1, e2, k T _ (.inr (.inl e2)) e3, e4⟩
  above := a.above
  inc := a.inc
theorem ZAt.next {i : Nat} {s : Shared} {acc : Array Value} {Q : Option Value → Shared → Prop} {E : Value → Shared → Prop} {x y : Value} (Z : ZSet z TI TO i1 i2 l1 l2 S N) (h1 : h0.IsList l1 xs) (h2 : h0.IsList l2 ys) (a : ZAt h0 z TI TO i1 i2 l1 l2 S N xs ys i acc s.heap)
    (hx : xs[i]? = some x) (hy : ys[i]? = some y)
    (hQ : ∀ h', ZAt h0 z TI TO i1 i2 l1 l2 S N xs ys (i + 1) acc h' → IsPair h' s.heap.objs.size x y → Q (some (.ref s.heap.objs.size)) { s with heap := h' }) : wpAny (model prog w) A (pyNext (.ref z)) Q E s := by
  have hl1 : s.heap.IsList l1 xs := h1.at fun o e => a.keep l1 o e
  have hl2 : s.heap.IsList l2 ys := h2.at fun o e => a.keep l2 o e
  rcases a.zst with q | ⟨T, f, oT, q, qT, qN⟩
  · obtain ⟨u, v, hTO⟩ := a.to
    refine wpAny_pyNext_zip_item Z.D q a.ti hTO a.it1 a.it2 hl1 hl2 hx hy fun h' g1 g2 g3 g4 g5 g6 g7 => hQ h' ?_ g5
    have kp : ∀ b o, (b = S ∨ N ≤ b ∨ ∃ o, h0.get? b = some o) → s.heap.get? b = some o → h'.get? b = some o := fun b o hb e => by
      rcases hb with rfl | hb | ⟨o', hb⟩
      · exact g7 _ _ Z.Sz Z.SO Z.S1 Z.S2 e
      · exact g7 _ _ (Nat.ne_of_gt (Nat.lt_of_lt_of_le Z.Lz hb)) (Nat.ne_of_gt (Nat.lt_of_lt_of_le Z.LO hb)) (Nat.ne_of_gt (Nat.lt_of_lt_of_le Z.L1 hb)) (Nat.ne_of_gt (Nat.lt_of_lt_of_le Z.L2 hb)) e
      · obtain ⟨q1, _, q3, q4, q5, _⟩ := a.in0 b o' hb
        exact g7 _ _ q1 q3 q4 q5 e
    exact { toZFin := a.toZFin.pair Z.LS kp
            zst := .inr ⟨_, false, _, g1, g5, a.low⟩
            ti := g7 _ _ Z.D.TIz Z.D.TITO Z.D.TIi1 Z.D.TIi2 a.ti
            to := ⟨_, _, g2⟩
            it1 := g3
            it2 := g4
            low := by rw [g6]; exact Nat.le_succ_of_le a.low
            top := fun j T' e => by rw [g6]; exact Nat.lt_succ_of_lt (a.top j T' e)
            in0 := a.in0 }
  · refine wpAny_pyNext_zip_item_held Z.D q qT a.ti a.it1 a.it2 hl1 hl2 hx hy fun h' g1 g3 g4 g5 g6 g7 => hQ h' ?_ g5
    have kp : ∀ b o, (b = S ∨ N ≤ b ∨ ∃ o, h0.get? b = some o) → s.heap.get? b = some o → h'.get? b = some o := fun b o hb e => by
      rcases hb with rfl | hb | ⟨o', hb⟩
      · exact g7 _ _ Z.Sz Z.S1 Z.S2 e
      · exact g7 _ _ (Nat.ne_of_gt (Nat.lt_of_lt_of_le Z.Lz hb)) (Nat.ne_of_gt (Nat.lt_of_lt_of_le Z.L1 hb)) (Nat.ne_of_gt (Nat.lt_of_lt_of_le Z.L2 hb)) e
      · obtain ⟨q1, _, _, q4, q5, _⟩ := a.in0 b o' hb
        exact g7 _ _ q1 q4 q5 e
    obtain ⟨u, v, hTO⟩ := a.to
    exact { toZFin := a.toZFin.pair Z.LS kp
            zst := .inr ⟨T, true, _, g1, kp _ _ (.inr (.inl qN)) qT, qN⟩
            ti := g7 _ _ Z.D.TIz Z.D.TIi1 Z.D.TIi2 a.ti
            to := ⟨_, _, g7 _ _ Z.D.TOz Z.D.TOi1 Z.D.TOi2 hTO⟩
            it1 := g3
            it2 := g4
            low := by rw [g6]; exact Nat.le_succ_of_le a.low
            top := fun j T' e => by rw [g6]; exact Nat.lt_succ_of_lt (a.top j T' e)
            in0 := a.in0 }
theorem ZAt.done {i : Nat} {s : Shared} {acc : Array Value} {Q : Option Value → Shared → Prop} {E : Value → Shared → Prop} (hh : A.handled = none) (Z : ZSet z TI TO i1 i2 l1 l2 S N) (h1 : h0.IsList l1 xs) (h2 : h0.IsList l2 ys) (a : ZAt h0 z TI TO i1 i2 l1 l2 S N xs ys i acc s.heap)
    (hend : xs[i]? = none ∨ ys[i]? = none) (hQ : ∀ h', ZFin h0 S N xs ys acc h' → Q none { s with heap := h' }) : wpAny (model prog w) A (pyNext (.ref z)) Q E s := by
  have hl1 : s.heap.IsList l1 xs := h1.at fun o e => a.keep l1 o e
  have hl2 : s.heap.IsList l2 ys := h2.at fun o e => a.keep l2 o e
  have kp : ∀ h' : Heap, (∀ c o, c ≠ z → c ≠ TO → c ≠ i1 → c ≠ i2 → s.heap.get? c = some o → h'.get? c = some o) → ∀ b o, (b = S ∨ N ≤ b ∨ ∃ o, h0.get? b = some o) → s.heap.get? b = some o → h'.get? b = some o := fun h' g7 b o hb e => by
    rcases hb with rfl | hb | ⟨o', hb⟩
    · exact g7 _ _ Z.Sz Z.SO Z.S1 Z.S2 e
    · exact g7 _ _ (Nat.ne_of_gt (Nat.lt_of_lt_of_le Z.Lz hb)) (Nat.ne_of_gt (Nat.lt_of_lt_of_le Z.LO hb)) (Nat.ne_of_gt (Nat.lt_of_lt_of_le Z.L1 hb)) (Nat.ne_of_gt (Nat.lt_of_lt_of_le Z.L2 hb)) e
    · obtain ⟨q1, _, q3, q4, q5, _⟩ := a.in0 b o' hb
      exact g7 _ _ q1 q3 q4 q5 e
  rcases a.zst with q | ⟨T, f, oT, q, qT, qN⟩
  · obtain ⟨u, v, hTO⟩ := a.to
    exact wpAny_pyNext_zip_end hh Z.D q a.ti hTO a.it1 a.it2 hl1 hl2 hend fun h' g7 => hQ h' (a.toZFin.pair Z.LS (kp h' g7))
  · exact wpAny_pyNext_zip_end_held hh Z.D q qT a.ti a.it1 a.it2 hl1 hl2 hend fun h' g7 => hQ h' (a.toZFin.pair Z.LS (kp h' fun c o a1 _ a3 a4 e => g7 c o a1 a3 a4 e))
theorem ZAt.put {i T : Nat} {h : Heap} {acc : Array Value} {x y : Value} {c : Nat} (Z : ZSet z TI TO i1 i2 l1 l2 S N) (a : ZAt h0 z TI TO i1 i2 l1 l2 S N xs ys (i + 1) acc h) (hi : acc.size = i) (hS : h.get? S = some { cls := .type "list", dict := none, data := .seq acc c, slots := #[] })
    (hT : IsPair h T x y) (hN : N ≤ T) (new : ∀ (j U : Nat), acc[j]? = some (.ref U) → U < T) (hx : xs[i]? = some x) (hy : ys[i]? = some y) : ZAt h0 z TI TO i1 i2 l1 l2 S N xs ys (i + 1) (acc.push (.ref T)) (h.update S (Obj.mapSeq (·.push (.ref T)))) := by
  have oth : ∀ b o, b ≠ S → h.get? b = some o → (h.update S (Obj.mapSeq (·.push (.ref T)))).get? b = some o := fun b o hb e => (Heap.get?_update_other _ _ (Ne.symm hb)).trans e
  have ge : ∀ b, N ≤ b → b ≠ S := fun b hb => Nat.ne_of_gt (Nat.lt_of_lt_of_le Z.LS hb)
  exact
    { keep := fun b o e => oth b o (a.in0 b o e).2.2.2.2.2 (a.keep b o e)
      lst := ⟨_, Heap.get?_update_self _ hS rfl⟩
      items := fun j v e => by
        rw [Array.getElem?_push] at e
        split at e
        · rename_i ej
          cases e
          rw [hi] at ej
          subst ej
          exact ⟨T, x, y, rfl, hN, oth _ _ (ge T hN) hT, hx, hy⟩
        · obtain ⟨T', x', y', e1, e2, e3, e4⟩ := a.items j v e
          exact ⟨T', x', y', e1, e2, oth _ _ (ge T' e2) e3, e4⟩
      above := a.above
      inc := fun j k U V e1 e2 hjk => by
        rw [Array.getElem?_push] at e1 e2
        split at e2
        · rename_i ek
          cases e2
          rw [if_neg (by omega)] at e1
          exact new j U e1
        · split at e1
          · have : k < acc.size := by
              rw [Array.getElem?_eq_some_iff] at e2
              exact e2.1
            omega
          · exact a.inc j k U V e1 e2 hjk
      top := fun j U e => by
        rw [Heap.size_update]
        rw [Array.getElem?_push] at e
        split at e
        · cases e; exact Heap.lt_size hT
        · exact a.top j U e
      zst := a.zst.elim (fun q => .inl (oth _ _ (Ne.symm Z.Sz) q)) fun ⟨T', f, oT, q, qT, qN⟩ => .inr ⟨T', f, oT, oth _ _ (Ne.symm Z.Sz) q, oth _ _ (ge T' qN) qT, qN⟩
      ti := oth _ _ (Ne.symm Z.SI) a.ti
      to := let ⟨u, v, q⟩ := a.to; ⟨u, v, oth _ _ (Ne.symm Z.SO) q⟩
      it1 := a.it1.at fun o e => oth _ _ (Ne.symm Z.S1) e
      it2 := a.it2.at fun o e => oth _ _ (Ne.symm Z.S2) e
      low := by rw [Heap.size_update]; exact a.low
      in0 := a.in0 }
theorem zip_loop {n : Nat} (hh : A.in1.handled = none) (hn : n ≤ sizeLine) (hm : n = min xs.size ys.size) (res : Value) (Z : ZSet z TI TO i1 i2 l1 l2 S N) (h1 : h0.IsList l1 xs) (h2 : h0.IsList l2 ys) :
    ∀ (k i : Nat) (s : Shared) (acc : Array Value), n - i = k → i ≤ n → acc.size = i → ZAt h0 z TI TO i1 i2 l1 l2 S N xs ys i acc s.heap → (∀ h' acc', ZFin h0 S N xs ys acc' h' → acc'.size = n → R (.ok (.ret res)) { s with heap := h' }) →
      codeAny (model prog w) A (.builtin "list.extend.loop" ⟨[.ref S, .ref z, res], []⟩) R s := by
  intro k
  induction k with
  | zero =>
    intro i s acc hk hi ha a hR
    have hin : i = n := by omega
    refine codeAny_builtin F.entry_extend_loop ?_
    rw [Around.under_plainId F.plain_extend_loop _]
    show wpAny _ A.in1 (pyNext (.ref z) >>= _) _ _ s
    refine wpAny_bind (a.done hh Z h1 h2 ?_ fun h' f => wpAny_pure (hR h' acc f (by omega)))
    rcases Nat.le_total xs.size ys.size with q | q
    · exact .inl (by simp; omega)
    · exact .inr (by simp; omega)
  | succ k ih =>
    intro i s acc hk hi ha a hR
    have hlt : i < n := by omega
    have l1 : i < xs.size := by omega
    have l2 : i < ys.size := by omega
    refine codeAny_builtin F.entry_extend_loop ?_
    rw [Around.under_plainId F.plain_extend_loop _]
    show wpAny _ A.in1 (pyNext (.ref z) >>= _) _ _ s
    refine wpAny_bind (a.next Z h1 h2 (x := xs[i]) (y := ys[i]) (by simp [l1]) (by simp [l2]) fun h' a' hT => ?_)
    obtain ⟨c, hS⟩ := a'.lst
    show wpAny _ A.in1 (updateSeq S (·.push (.ref s.heap.objs.size)) >>= _) _ _ _
    refine wpAny_bind ?_
    refine wpAny_updateSeq hS rfl (wpAny_pure ⟨plainId_quiet F.plain_extend_loop _, ih (i + 1) _ _ (by omega) hlt (by rw [Array.size_push]; omega) (a'.put Z ha hS hT a.low a.top (by simp [l1]) (by simp [l2])) fun h2 acc2 f e => hR h2 acc2 f e⟩) ?_ ?_
    · rw [ha]; omega
    · show (acc.push _).size ≤ sizeLine + 1
      rw [Array.size_push, ha]; omega
theorem zip_collect {n : Nat} {s : Shared} {Q : List Value → Shared → Prop} {E : Value → Shared → Prop} (hh : A.handled = none) (hn : n ≤ sizeLine) (hm : n = min xs.size ys.size) (D : ZipApart z TI TO i1 i2 l1 l2) (h1 : h0.IsList l1 xs) (h2 : h0.IsList l2 ys)
    (h0le : h0.objs.size ≤ s.heap.objs.size) (keep : ∀ b o, h0.get? b = some o → s.heap.get? b = some o) (in0 : ∀ b o, h0.get? b = some o → b ≠ z ∧ b ≠ TI ∧ b ≠ TO ∧ b ≠ i1 ∧ b ≠ i2)
    (zz : IsZip s.heap z TI TO .none) (ti : IsPair s.heap TI (.ref i1) (.ref i2)) (to : ∃ a b, IsPair s.heap TO a b) (it1 : s.heap.IsListIter i1 l1 0) (it2 : s.heap.IsListIter i2 l2 0)
    (hQ : ∀ h' acc, ZFin h0 s.heap.objs.size (s.heap.objs.size + 1) xs ys acc h' → acc.size = n → Q acc.toList { s with heap := h' }) : wpAny (model prog w) A (collect (.ref z)) Q E s := by
  have sz : z < s.heap.objs.size := Heap.lt_size zz
  have sI : TI < s.heap.objs.size := Heap.lt_size ti
  have sO : TO < s.heap.objs.size := by obtain ⟨_, _, q⟩ := to; exact Heap.lt_size q
  have s1 : i1 < s.heap.objs.size := by obtain ⟨_, q, _⟩ := it1; exact Heap.lt_size q
  have s2 : i2 < s.heap.objs.size := by obtain ⟨_, q, _⟩ := it2; exact Heap.lt_size q
  have sl1 : l1 < s.heap.objs.size := by obtain ⟨_, q, _⟩ := h1; exact Heap.lt_size (keep _ _ q)
  have sl2 : l2 < s.heap.objs.size := by obtain ⟨_, q, _⟩ := h2; exact Heap.lt_size (keep _ _ q)
  have ne : ∀ {b : Nat}, b < s.heap.objs.size → s.heap.objs.size ≠ b := fun q => Nat.ne_of_gt q
  have lt : ∀ {b : Nat}, b < s.heap.objs.size → b < s.heap.objs.size + 1 := fun q => Nat.lt_succ_of_lt q
  have Z : ZSet z TI TO i1 i2 l1 l2 s.heap.objs.size (s.heap.objs.size + 1) := ⟨D, ne sz, ne sI, ne sO, ne s1, ne s2, ne sl1, ne sl2, lt sz, lt sI, lt sO, lt s1, lt s2, Nat.lt_succ_self _⟩
  unfold collect
  refine wpAny_bind (wpAny_runValue (codeAny_builtin F.entry_proto_collect ?_))
  rw [Around.under_plainId F.plain_proto_collect _]
  show wpAny _ A.in1 (newList [] >>= fun l => again (.builtin "list.__iadd__" ⟨[l, .ref z], []⟩)) _ _ s
  refine wpAny_bind (wpAny_newObj_type ?_)
  refine wpAny_pure ⟨plainId_quiet F.plain_list_iadd _, codeAny_builtin F.entry_list_iadd ?_⟩
  rw [Around.under_plainId F.plain_list_iadd _]
  show wpAny _ A.in1 (Builtin.List.listExtendWith (.ref s.heap.objs.size) (.ref z) (.ref s.heap.objs.size)) _ _ _
  have up : ∀ b o, s.heap.get? b = some o → (s.heap.push { cls := .type "list", data := .seq ([] : List Value).toArray }).get? b = some o := fun b o e => Heap.get?_push_of_some _ e
  have zz1 : IsZip (s.heap.push { cls := .type "list", data := .seq ([] : List Value).toArray }) z TI TO .none := up _ _ zz
  have hT : ∀ t : Nat, Shared.TypeIs { s with heap := s.heap.push { cls := .type "list", data := .seq ([] : List Value).toArray }, toks := t } (.ref z) "zip" := fun t => ⟨_, zz1, rfl⟩
  have lay : (s.heap.push { cls := .type "list", data := .seq ([] : List Value).toArray }).get? s.heap.objs.size = some { cls := .type "list", data := .seq ([] : List Value).toArray } := Heap.get?_push_size _ rfl
  unfold Builtin.List.listExtendWith
  refine wpAny_bind (wpAny_typeOf (hT _) ?_)
  have b1 : Builtin.List.listSameRef (.ref s.heap.objs.size) (.ref z) = false := by simp [Builtin.List.listSameRef, ne sz]
  have b2 : (Value.type "zip" == Value.type "list") = false := by decide
  have b3 : (Value.type "zip" == Value.type "tuple") = false := by decide
  simp only [b1, b2, b3, Bool.or_false, Bool.false_eq_true, if_false]
  refine wpAny_bind (wpAny_pyIter_zip zz1 ?_)
  refine wpAny_bind (wpAny_holding ?_)
  unfold Builtin.List.listLengthHint
  refine wpAny_bind (wpAny_specialOf (hT _) F.mi_zip_len ?_)
  show wpAny _ A.in1 (specialOf (Value.ref z) (Str.ofString "__length_hint__") >>= _) _ _ _
  refine wpAny_bind (wpAny_specialOf (hT _) F.mi_zip_hint ?_)
  refine wpAny_pure ?_
  show wpAny _ A.in1 (rule "list.extend.makes-room" >>= fun _ => Builtin.List.listTouch (.ref s.heap.objs.size) >>= fun _ => again (.builtin "list.extend.loop" ⟨[.ref s.heap.objs.size, .ref z, .ref s.heap.objs.size], []⟩)) _ _ _
  refine wpAny_bind (wpAny_rule (wpAny_bind ?_))
  show wpAny _ A.in1 (updateSeq s.heap.objs.size (·.push .none) >>= fun _ => updateSeq s.heap.objs.size (·.pop)) _ _ _
  refine wpAny_bind (wpAny_updateSeq lay rfl ?_)
  have lay2 := Heap.get?_update_self (Obj.mapSeq (·.push Value.none)) lay rfl
  refine wpAny_updateSeq lay2 rfl ?_
  have lay3 := Heap.get?_update_self (Obj.mapSeq (·.pop)) lay2 rfl
  have oth : ∀ b o, b ≠ s.heap.objs.size → s.heap.get? b = some o → (((s.heap.push { cls := .type "list", data := .seq ([] : List Value).toArray }).update s.heap.objs.size (Obj.mapSeq (·.push Value.none))).update s.heap.objs.size (Obj.mapSeq (·.pop))).get? b = some o :=
    fun b o hb e => (Heap.get?_update_other _ _ (Ne.symm hb)).trans ((Heap.get?_update_other _ _ (Ne.symm hb)).trans (up b o e))
  have start : ZAt h0 z TI TO i1 i2 l1 l2 s.heap.objs.size (s.heap.objs.size + 1) xs ys 0 #[] (((s.heap.push { cls := .type "list", data := .seq ([] : List Value).toArray }).update s.heap.objs.size (Obj.mapSeq (·.push Value.none))).update s.heap.objs.size (Obj.mapSeq (·.pop))) :=
    { keep := fun b o e => oth b o (Nat.ne_of_lt (Heap.lt_size (keep b o e))) (keep b o e)
      lst := ⟨_, lay3⟩
      items := fun j v e => by simp at e
      above := Nat.le_succ_of_le h0le
      inc := fun j k T U e => by simp at e
      top := fun j T e => by simp at e
      zst := .inl (oth _ _ (Nat.ne_of_lt sz) zz)
      ti := oth _ _ (Nat.ne_of_lt sI) ti
      to := let ⟨a, b, q⟩ := to; ⟨a, b, oth _ _ (Nat.ne_of_lt sO) q⟩
      it1 := it1.at fun o e => oth _ _ (Nat.ne_of_lt s1) e
      it2 := it2.at fun o e => oth _ _ (Nat.ne_of_lt s2) e
      low := by rw [Heap.size_update, Heap.size_update, Heap.size_push]; exact Nat.le_refl _
      in0 := fun b o e => let ⟨a1, a2, a3, a4, a5⟩ := in0 b o e; ⟨a1, a2, a3, a4, a5, Nat.ne_of_lt (Heap.lt_size (keep b o e))⟩ }
  refine wpAny_pure ⟨plainId_quiet F.plain_extend_loop _, zip_loop hh hn hm _ Z h1 h2 n 0 _ _ rfl (Nat.zero_le _) rfl start fun h' acc' f e => ?_⟩
  obtain ⟨c, q⟩ := f.lst
  show wpAny _ A (load s.heap.objs.size >>= _) _ _ _
  exact wpAny_bind (wpAny_load q (wpAny_pure (hQ h' acc' f e)))
theorem zip_tuple {n : Nat} {s : Shared} {Q : Value → Shared → Prop} {E : Value → Shared → Prop} (hh : A.handled = none) (hn : n ≤ sizeLine) (hm : n = min xs.size ys.size) (D : ZipApart z TI TO i1 i2 l1 l2) (h1 : h0.IsList l1 xs) (h2 : h0.IsList l2 ys)
    (h0le : h0.objs.size ≤ s.heap.objs.size) (keep : ∀ b o, h0.get? b = some o → s.heap.get? b = some o) (in0 : ∀ b o, h0.get? b = some o → b ≠ z ∧ b ≠ TI ∧ b ≠ TO ∧ b ≠ i1 ∧ b ≠ i2)
    (zz : IsZip s.heap z TI TO .none) (ti : IsPair s.heap TI (.ref i1) (.ref i2)) (to : ∃ a b, IsPair s.heap TO a b) (it1 : s.heap.IsListIter i1 l1 0) (it2 : s.heap.IsListIter i2 l2 0)
    (hQ : ∀ h' acc N, ZFin h0 s.heap.objs.size N xs ys acc h' → acc.size = n → Q (.ref h'.objs.size) { s with heap := h'.push { cls := .type "tuple", data := .seq acc } }) : wpAny (model prog w) A (call (.type "tuple") [.ref z]) Q E s := by
  have hTI : s.TypeIs (.ref z) "zip" := ⟨_, zz, rfl⟩
  have code : codeAny (model prog w) A.in1 (.call (.builtin "tuple.__new__") ⟨[.type "tuple", .ref z], []⟩) (wants (fun obj s₁ => s₁.TypeIs obj "tuple" ∧ Q obj s₁) E) s := by
    refine codeAny_of_tree ?_
    show wpAny _ A.in1.in1 (do checkBuiltinCall "tuple.__new__" ⟨[.type "tuple", .ref z], []⟩; again (.builtin "tuple.__new__" ⟨[.type "tuple", .ref z], []⟩)) _ _ s
    refine wpAny_bind (wpAny_of_eq (F.newCall_tuple_1 _) (wpAny_pure ⟨plainId_quiet F.plain_tuple_new _, codeAny_builtin F.entry_tuple_new ?_⟩))
    rw [Around.under_plainId F.plain_tuple_new _]
    have f1 := sub_tuple_self
    have f2 := init_tuple_lookup
    have f3 := madeHere_tuple
    have hh1 : A.in1.in1.handled = none := hh
    wp_walk using wpAny_typeOf hTI, zip_collect (A := A.in1.in1) hh1 hn hm D h1 h2 h0le keep in0 zz ti to it1 it2
    intro h' acc f e
    show wpAny _ _ (Builtin.Tuple.tupleExact acc.toList.toArray >>= fun v => ret v) _ _ _
    unfold Builtin.Tuple.tupleExact
    refine wpAny_bind (wpAny_newObj_type ?_ (by show acc.toList.toArray.size ≤ sizeLine; simp only [Array.toArray_toList]; rw [e]; exact hn))
    refine wpAny_pure ?_
    have e2 : acc.toList.toArray = acc := by simp
    rw [e2]
    exact ⟨⟨_, Heap.get?_push_size _ rfl, rfl⟩, hQ h' acc _ f e⟩
  refine callType_codes (Q₁ := fun obj s₁ => s₁.TypeIs obj "tuple" ∧ Q obj s₁) F.called_tuple (F.typeCall_tuple_1 _) F.entry_object_init code fun obj s₁ q => ?_
  exact ⟨q.1, F.args_object_init_2 obj _, object_init_meets F.called_tuple.init.lookup F.called_tuple.made (by decide) prog w A.in1 _ s₁ ⟨q.1, rfl, q.2⟩⟩
end
end PySem
namespace MI
open PySem L2
section
variable {X : Cx} {W : WX} {pins : List (Addr × Obj)} {σ : L2.St} {H : Hp} {s : Shared} {pos : Pos} {K : PySem.W.Frag} {β : List Addr} {m : Mem}
theorem track2 {a : Addr} {oe : Obj} {o : HO} (I : L2.Inv X pins σ H s) (he : s.heap.get? a = some oe) (hd : ∀ v, oe.data ≠ .cell v) (n : H a = none) (h0 : X.s_0.heap.get? a = none) (nL : a ≠ X.env.locals)
    (np : ∀ p ∈ X.pn ++ pins, p.1 ≠ a) (ok : ObjOk X.prog X.w (upd H a o) s.heap a o) : L2.Inv X pins σ (upd H a o) s := by
  have ne : ∀ {b u}, H b = some u → b ≠ a := fun e => ne_of_none e n
  refine ⟨I.ok, I.os, I.bare, ⟨I.base.keep, I.base.slot, fun b u q z hx => ?_, I.base.there, fun b xs q => ?_, fun b u xs q => ?_, fun b ps q => ?_⟩, I.loc, I.cell, ?_, fun x c e => ?_, fun p hp => ?_, fun b u q => ?_, I.len⟩
  · rw [upd_ne (fun e => by rw [e, h0] at q; cases q)]
    exact I.base.free b u q z hx
  · have q1 := I.base.tups b xs q
    rw [upd_ne (ne q1)]; exact q1
  · have q1 := I.base.frzs b u xs q
    rw [upd_ne (ne q1)]; exact q1
  · obtain ⟨more, q1⟩ := I.base.tbls b ps q
    exact ⟨more, by rw [upd_ne (ne q1)]; exact q1⟩
  · rw [upd_ne (Ne.symm nL)]; exact I.free
  · rw [upd_ne (fun z => ?_)]
    · exact I.freeC x c e
    · obtain ⟨v, ob, q1, q2⟩ := I.cell x c e
      rw [z, he] at q1
      cases q1
      exact hd v q2
  · obtain ⟨q1, q2, q3⟩ := I.pin p hp
    exact ⟨q1, by rw [upd_ne (np p hp)]; exact q2, q3⟩
  · by_cases hb : b = a
    · subst hb
      rw [upd_same] at q
      cases q
      exact ok
    · rw [upd_ne hb] at q
      exact (I.hok b u q).stay (fun _ _ _ z => z) (fun c z => by rw [upd_ne (ne z)]; exact z) fun c xs z => by rw [upd_ne (ne z)]; exact z
/-- pairs, one after the other -/
def pairsH : Hp → List (Addr × V × V) → Hp
  | H, [] => H
  | H, p :: r => pairsH (upd H p.1 (.tup [p.2.1, p.2.2])) r
theorem pairsH_ne : ∀ (ps : List (Addr × V × V)) (H : Hp) (a : Addr), a ∉ ps.map (·.1) → pairsH H ps a = H a
  | [], _, _, _ => rfl
  | p :: r, H, a, h => by
    rw [List.map_cons, List.mem_cons, not_or] at h
    show pairsH _ r a = _
    rw [pairsH_ne r _ a h.2, upd_ne h.1]
theorem lay_pairs : ∀ (ps : List (Addr × V × V)) {H : Hp} (I : L2.Inv X pins σ H s), (ps.map (·.1)).Nodup → (∀ p ∈ ps, H p.1 = none ∧ X.s_0.heap.get? p.1 = none ∧ p.1 ≠ X.env.locals ∧ ∀ q ∈ X.pn ++ pins, q.1 ≠ p.1) →
    (∀ p ∈ ps, ∃ u v, IsPair s.heap p.1 u v ∧ RelV p.2.1 u ∧ RelV p.2.2 v) → L2.Inv X pins σ (pairsH H ps) s
  | [], _, I, _, _, _ => I
  | p :: r, H, I, nd, fr, ok => by
    obtain ⟨f1, f2, f3, f4⟩ := fr p (List.mem_cons_self)
    obtain ⟨u, v, o1, o2, o3⟩ := ok p (List.mem_cons_self)
    rw [List.map_cons, List.nodup_cons] at nd
    have I1 : L2.Inv X pins σ (upd H p.1 (.tup [p.2.1, p.2.2])) s := track2 I o1 (fun _ z => nomatch z) f1 f2 f3 f4 ⟨by show 2 ≤ sizeLine; decide, [u, v], .cons o2 (.cons o3 .nil), ⟨_, o1, rfl, _, rfl⟩⟩
    refine lay_pairs r I1 nd.2 (fun q hq => ?_) fun q hq => ok q (List.mem_cons_of_mem _ hq)
    obtain ⟨g1, g2⟩ := fr q (List.mem_cons_of_mem _ hq)
    refine ⟨?_, g2⟩
    rw [upd_ne (fun z => nd.1 (by rw [← z]; exact List.mem_map_of_mem hq))]
    exact g1
def tTupZip (K : PySem.W.Frag) (ta : TA) : TE := fun σ H Q => ta σ H fun vs H1 => ∃ a b xs ys, vs = [.ref a, .ref b] ∧ SqL K H1 a xs ∧ SqL K H1 b ys ∧
  ∀ ps q, ps.map (·.2) = xs.zip ys → (ps.map (·.1)).Nodup → (∀ p ∈ ps, H1 p.1 = none ∧ p.1 ≠ q) → H1 q = none → Q (.ref q) (upd (pairsH H1 ps) q (.tup (ps.map fun p => .ref p.1)))
def adr : Option Value → Addr
  | some (.ref T) => T
  | _ => 0
/-- what the collected items are -/
theorem pairs_of {h0 h : Heap} {S N : Addr} {its its2 : List Value} {xs ys : List V} {acc : Array Value} (f : ZFin h0 S N its.toArray its2.toArray acc h) (rx : Vals xs its) (ry : Vals ys its2) (hn : acc.size = min its.length its2.length) :
    ∃ ps : List (Addr × V × V), ps.map (·.2) = xs.zip ys ∧ acc.toList = ps.map (fun p => .ref p.1) ∧ (ps.map (·.1)).Nodup ∧ (∀ p ∈ ps, N ≤ p.1) ∧ ∀ p ∈ ps, ∃ u v, IsPair h p.1 u v ∧ RelV p.2.1 u ∧ RelV p.2.2 v := by
  have lx := rx.length
  have ly := ry.length
  have key : ∀ j, j < acc.size → ∃ p : Addr × V × V, acc[j]? = some (.ref p.1) ∧ N ≤ p.1 ∧ (xs.zip ys)[j]? = some p.2 ∧ ∃ u v, IsPair h p.1 u v ∧ RelV p.2.1 u ∧ RelV p.2.2 v := by
    intro j hj
    obtain ⟨T, x, y, e1, e2, e3, e4, e5⟩ := f.items j acc[j] (by simp [hj])
    have jx : j < xs.length := by omega
    have jy : j < ys.length := by omega
    obtain ⟨u, hu, ru⟩ := rx.get (i := j) (x := xs[j]) (by simp [jx])
    obtain ⟨v, hv, rv⟩ := ry.get (i := j) (x := ys[j]) (by simp [jy])
    rw [List.getElem?_toArray, hu] at e4
    rw [List.getElem?_toArray, hv] at e5
    have e4' := Option.some.inj e4
    have e5' := Option.some.inj e5
    subst e4' e5'
    exact ⟨(T, xs[j], ys[j]), by rw [← e1]; simp [hj], e2, by simp [List.getElem?_zip_eq_some, jx, jy], u, v, e3, ru, rv⟩
  refine ⟨(List.range acc.size).map fun j => (adr acc[j]?, ((xs.zip ys).getD j (.non, .non))), ?_, ?_, ?_, ?_, ?_⟩
  · apply List.ext_getElem?
    intro j
    rw [List.map_map, List.getElem?_map]
    by_cases hj : j < acc.size
    · obtain ⟨p, _, _, e, _⟩ := key j hj
      rw [List.getElem?_range hj]
      show some ((xs.zip ys).getD j _) = _
      rw [List.getD_eq_getElem?_getD, e]; rfl
    · rw [List.getElem?_eq_none (by simp; omega), List.getElem?_eq_none (by simp; omega)]; rfl
  · apply List.ext_getElem?
    intro j
    rw [List.map_map, List.getElem?_map, Array.getElem?_toList]
    by_cases hj : j < acc.size
    · obtain ⟨p, e, _⟩ := key j hj
      rw [List.getElem?_range hj, e]
      show _ = some (Value.ref _)
      simp only [Function.comp_apply, e, adr]
    · rw [List.getElem?_eq_none (by simp; omega), Array.getElem?_eq_none (by omega)]; rfl
  · rw [List.map_map]
    refine List.pairwise_iff_getElem.mpr fun i j hi hj hij => ?_
    have hj : j < acc.size := by simpa using hj
    obtain ⟨p, e, _⟩ := key i (by omega)
    obtain ⟨q, e2, _⟩ := key j hj
    have := f.inc i j _ _ e e2 hij
    simp only [List.getElem_map, List.getElem_range, Function.comp_apply, e, e2]
    exact Nat.ne_of_lt this
  · intro p hp
    obtain ⟨j, hj, rfl⟩ := List.mem_map.mp hp
    have hj : j < acc.size := by simpa using hj
    obtain ⟨q, e, e2, _⟩ := key j hj
    simp only [e]
    exact e2
  · intro p hp
    obtain ⟨j, hj, rfl⟩ := List.mem_map.mp hp
    have hj : j < acc.size := by simpa using hj
    obtain ⟨q, e, e2, e3, e4⟩ := key j hj
    have : (xs.zip ys).getD j (.non, .non) = q.2 := by rw [List.getD_eq_getElem?_getD, e3]; rfl
    simp only [e]
    rw [this]
    exact e4
theorem refsV : ∀ ps : List (Addr × V × V), Vals (ps.map fun p => V.ref p.1) (ps.map fun p => Value.ref p.1)
  | [] => .nil
  | _ :: r => .cons rfl (refsV r)
theorem pe_tupZip {a b : Expr} {ta : TA} {p p2 pos2 : Pos} (hc : X.calm = true) (hg : Gl X "tuple") (hm : X.mg "tuple" = none) (hg2 : Gl X "zip") (hm2 : X.mg "zip" = none) (ha : PA X [a, b] ta)
    (hs : starEach [a, b] X.env = (false, eval a X.env) :: starEach [b] X.env) (hpl : (backTo pos2 (starEach [b] X.env)).any (·.1) = false)
    (na : starEach [.Call (.Name "zip" p2) [a, b] [] pos2] X.env = (false, eval (.Call (.Name "zip" p2) [a, b] [] pos2) X.env) :: starEach [] X.env) : PE X (.Call (.Name "tuple" p) [.Call (.Name "zip" p2) [a, b] [] pos2] [] pos) (tTupZip X.K ta) := by
  refine ⟨fun pins s σ H Q I h => ?_⟩
  refine PyProof.Rows.Call_ (ld_blt I hg hm PyProof.Rows.boot_tuple (PyProof.Rows.callWith_type1 (PyProof.Rows.args_cons ?_ na) na))
  refine PyProof.Rows.Call_ (ld_blt I hg2 hm2 PyProof.Rows.boot_zip (PyProof.Rows.callWith_type1 (thn (ha.run pos2 pins s σ H _ I h) fun us s1 z => ?_) hs hpl))
  obtain ⟨vs, H1, I1, r1, l1, l2, xs, ys, ex, hqx, hqy, q⟩ := z
  subst ex
  cases r1 with
  | cons r rr =>
    cases rr with
    | cons r' rr =>
      cases rr
      cases r
      cases r'
      obtain ⟨its, rv, p1, z1⟩ := I1.list hqx
      obtain ⟨its2, rv2, p3, z2⟩ := I1.list hqy
      have la : l1 < s1.heap.objs.size := p1.lt
      have lb : l2 < s1.heap.objs.size := p3.lt
      have lx := rv.length
      have ly := rv2.length
      refine call_zip_2 p1.isList p3.isList fun h' hz hTI hTO i1 i2 hsz hk => PyProof.Rows.args_nil ?_
      have I2 : Inv X pins σ H1 { s1 with heap := h' } := I1.kept (t' := s1.toks) hk
      have out : ∀ (b : Nat) (o : Obj), s1.heap.get? b = some o → b < s1.heap.objs.size := fun b o e => Heap.lt_size e
      refine zip_tuple (h0 := s1.heap) (s := { s1 with heap := h' }) (n := min its.length its2.length) (I2.ok.hd hc) (by omega) (by simp) (PySem.W.ktu_apart s1.heap.objs.size l1 l2 la lb) p1.isList p3.isList (by show s1.heap.objs.size ≤ h'.objs.size; omega) hk (fun b o e => ?_) hz hTI ⟨_, _, hTO⟩ i1 i2 fun h2 acc N f e => ?_
      · have := out b o e
        refine ⟨?_, ?_, ?_, ?_, ?_⟩ <;> (intro z; rw [z] at this; omega)
      obtain ⟨ps, e1, e2, e3, e4, e5⟩ := pairs_of f rv rv2 e
      have hN : s1.heap.objs.size ≤ N := by
        obtain ⟨c, hS⟩ := f.lst
        exact f.above
      have up : ∀ b o, s1.heap.get? b = some o → h2.get? b = some o := f.keep
      have I3 : Inv X pins σ H1 { s1 with heap := h2 } := I1.kept (t' := s1.toks) up
      have fp : ∀ p ∈ ps, FpOk X pins H1 p.1 := fun p hp => by
        have hle : s1.heap.objs.size ≤ p.1 := Nat.le_trans hN (e4 p hp)
        exact I1.fpOk hle (I1.hok.fresh hle)
      have none0 : ∀ b : Nat, s1.heap.objs.size ≤ b → X.s_0.heap.get? b = none := fun b hb => by
        cases q0 : X.s_0.heap.get? b with
        | none => rfl
        | some o => exact absurd (Nat.lt_of_lt_of_le (Heap.lt_size q0) I1.sz) (Nat.not_lt.mpr hb)
      have I4 : Inv X pins σ (pairsH H1 ps) { s1 with heap := h2 } := lay_pairs ps I3 e3 (fun p hp => ⟨(fp p hp).1, none0 _ (Nat.le_trans hN (e4 p hp)), (fp p hp).2.1, (fp p hp).2.2.2.2.2⟩) e5
      have lt2 : ∀ p ∈ ps, p.1 < h2.objs.size := fun p hp => by
        obtain ⟨u, v, o1, _⟩ := e5 p hp
        exact Heap.lt_size o1
      have hq : H1 h2.objs.size = none := I3.hok.fresh (Nat.le_refl _)
      have lenz : (ps.map fun p => V.ref p.1).length ≤ sizeLine := by
        have : ps.length = (xs.zip ys).length := by rw [← e1, List.length_map]
        rw [List.length_map, this, List.length_zip]
        omega
      have vals : Vals (ps.map fun p => V.ref p.1) acc.toList := by
        rw [e2]
        exact refsV ps
      refine ⟨.ref h2.objs.size, _, I4.laid (t' := s1.toks) (fun b o e => Heap.get?_push_of_some _ e) (Nat.le_refl _) (show ObjOk X.prog X.w _ _ _ (.tup (ps.map fun p => V.ref p.1)) from ⟨lenz, acc.toList, vals, ?_⟩), rfl, q ps _ e1 e3 (fun p hp => ⟨(fp p hp).1, Nat.ne_of_lt (lt2 p hp)⟩) hq⟩
      rw [Array.toArray_toList]
      exact PyProof.Rows.IsTup.new _ _
/-- the items of both, side by side -/
def gZip : List MV → Mem → Re MV
  | [d, e], m => match lstOf m d, lstOf m e with
    | some l, some k => .ok (.tup ((l.zip k).map fun p => .tup [p.1, p.2])) m
    | _, _ => .stuck
  | _, _ => .stuck
/-- pairs are laid, one after the other -/
theorem lay_all : ∀ (ps : List (Addr × V × V)) (l : List (MV × MV)) {H : Hp}, RM K β H m → (ps.map (·.1)).Nodup → (∀ p ∈ ps, H p.1 = none) → RVs K β H (l.map (·.1)) (ps.map (·.2.1)) → RVs K β H (l.map (·.2)) (ps.map (·.2.2)) →
    Ext β H β (pairsH H ps) ∧ RM K β (pairsH H ps) m ∧ RVs K β (pairsH H ps) (l.map fun p => .tup [p.1, p.2]) (ps.map fun p => .ref p.1)
  | [], [], _, M, _, _, _, _ => ⟨Ext.refl, M, .nil⟩
  | [], _ :: _, _, _, _, _, a, _ => nomatch a
  | _ :: _, [], _, _, _, _, a, _ => nomatch a
  | p :: r, q :: l, H, M, nd, fr, .cons a ar, .cons b br => by
    rw [List.map_cons, List.nodup_cons] at nd
    obtain ⟨E1, M1, v1⟩ := lay_pair M a b (fr p List.mem_cons_self)
    obtain ⟨E2, M2, v2⟩ := lay_all r l M1 nd.2 (fun x hx => by
      rw [upd_ne (fun z => nd.1 (by rw [← z]; exact List.mem_map_of_mem hx))]
      exact fr x (List.mem_cons_of_mem _ hx)) (ar.ext M E1) (br.ext M E1)
    exact ⟨E1.trans E2, M2, .cons (v1.ext M1 E2) v2⟩
theorem zipV {f : MV × MV → MV} : ∀ {l k : List MV} {xs ys : List V}, RVs K β H l xs → RVs K β H k ys → RVs K β H ((l.zip k).map (·.1)) ((xs.zip ys).map (·.1)) ∧ RVs K β H ((l.zip k).map (·.2)) ((xs.zip ys).map (·.2))
  | _, _, _, _, .nil, _ => ⟨.nil, .nil⟩
  | _, _, _, _, .cons _ _, .nil => ⟨.nil, .nil⟩
  | _, _, _, _, .cons a ar, .cons b br => let ⟨p, q⟩ := zipV (f := f) ar br; ⟨.cons a p, .cons b q⟩
theorem je_tupZip {a b : Expr} {g : MA} {p p2 pos2 : Pos} (hc : X.calm = true) (hm : X.mg "tuple" = none) (hm2 : X.mg "zip" = none) (ha : JA X W [a, b] g) (hg : Gl X "tuple" := by rfl) (hg2 : Gl X "zip" := by rfl)
    (hs : starEach [a, b] X.env = (false, eval a X.env) :: starEach [b] X.env := by rfl) (hpl : (backTo pos2 (starEach [b] X.env)).any (·.1) = false := by rfl)
    (na : starEach [.Call (.Name "zip" p2) [a, b] [] pos2] X.env = (false, eval (.Call (.Name "zip" p2) [a, b] [] pos2) X.env) :: starEach [] X.env := by rfl) : JE X W (.Call (.Name "tuple" p) [.Call (.Name "zip" p2) [a, b] [] pos2] [] pos) (mCall gZip g) := by
  refine ⟨pe_imp (pe_tupZip hc hg hm hg2 hm2 ha.run hs hpl na) fun σ H Q ⟨ρ, m, β, hE, hM, p⟩ => ⟨ρ, m, β, hE, hM, p.bind fun ds m1 vs H1 β1 _ e1 M1 V1 p1 => ?_⟩⟩
  unfold gZip at p1
  split at p1
  · rename_i d e
    split at p1
    · rename_i l k h1 h2
      cases V1 with
      | cons V1 V2 =>
        cases V2 with
        | cons V2 V3 =>
          cases V3
          obtain ⟨a1, xs, rfl, q1, q2⟩ := M1.lst V1 h1
          obtain ⟨a2, ys, rfl, q3, q4⟩ := M1.lst V2 h2
          refine ⟨a1, a2, xs, ys, rfl, q1, q3, fun ps q z1 z2 z3 z4 => ?_⟩
          obtain ⟨w1, w2⟩ := zipV (f := fun p => p.1) q2 q4
          rw [← z1, List.map_map] at w1 w2
          obtain ⟨E1, M2, V4⟩ := lay_all ps (l.zip k) M1 z2 (fun p hp => (z3 p hp).1) w1 w2
          have hq : pairsH H1 ps q = none := by
            rw [pairsH_ne ps H1 q (fun z => ?_)]
            · exact z4
            · obtain ⟨p, hp, e⟩ := List.mem_map.mp z
              exact (z3 p hp).2 e
          have E2 : Ext β1 (pairsH H1 ps) β1 (upd (pairsH H1 ps) q (.tup (ps.map fun p => .ref p.1))) := Ext.tup hq
          exact Post.ok (Post.later p1 (E1.trans E2)) (M2.tup hq) (.tup (.inl (.inl upd_same)) (V4.ext M2 E2))
    · exact p1.not_stuck
  · exact p1.not_stuck
end
end MI
namespace MI
open PySem L2
section
variable {X : Cx} {W : WX} {pos : Pos} {K : PySem.W.Frag} {β : List Addr} {H : Hp} {m : Mem}
/-! ### == with an empty list, whatever the other holds -/
def rEqE (K : PySem.W.Frag) : R2 := fun x y H Q => ∃ a b xs ys, x = .ref a ∧ y = .ref b ∧ SqL K H a xs ∧ SqL K H b ys ∧ ((xs = [] ∧ Q (.bl ys.isEmpty) H) ∨ (ys = [] ∧ Q (.bl xs.isEmpty) H))
theorem op_eqE (hu : X.A.units < cLine) : OpR X (compareOp .Eq) (rEqE X.K) := by
  intro pins s σ H x y v u Q I rx ry h
  obtain ⟨a, b, xs, ys, rfl, rfl, hx, hy, q⟩ := h
  cases rx
  cases ry
  obtain ⟨i1, r1, p1, _⟩ := I.list hx
  obtain ⟨i2, r2, p2, _⟩ := I.list hy
  have n1 := r1.length
  have n2 := r2.length
  have both : ∀ {c : Bool}, (i1.toArray.size = 0 ∨ i2.toArray.size = 0) → c = (decide (i1.length = i2.length)) → Q (.bl c) H → wpAny (model X.prog X.w) X.A (compareOp .Eq (.ref a) (.ref b)) (EP X pins σ Q) X.xe s := by
    intro c he hc z
    by_cases e : i1.length = i2.length
    · refine SeqAt.eq_listAt (e := fun _ => true) p1.isList p2.isList (by simpa using e) hu (fun j h1 h2 => ?_) ?_
      · rcases he with he | he <;> omega
      · rw [hc, decide_eq_true e] at z
        have : ((List.range i1.toArray.size).all fun _ => true) = true := List.all_eq_true.mpr fun _ _ => rfl
        rw [this]
        exact ⟨.bl true, H, I, rfl, z⟩
    · refine SeqAt.eq_list_lengthsAt p1.isList p2.isList (by simpa using e) hu ?_
      rw [hc, decide_eq_false e] at z
      exact ⟨.bl false, H, I, rfl, z⟩
  rcases q with ⟨rfl, q⟩ | ⟨rfl, q⟩
  · refine both (.inl (by simp; simpa using n1.symm)) ?_ q
    cases ys with
    | nil => simp only [List.isEmpty_nil]; exact (decide_eq_true (by simp at n1 n2; omega)).symm
    | cons y r => simp only [List.isEmpty_cons]; exact (decide_eq_false (by simp at n1 n2; omega)).symm
  · refine both (.inr (by simp; simpa using n2.symm)) ?_ q
    cases xs with
    | nil => simp only [List.isEmpty_nil]; exact (decide_eq_true (by simp at n1 n2; omega)).symm
    | cons y r => simp only [List.isEmpty_cons]; exact (decide_eq_false (by simp at n1 n2; omega)).symm
def gEqE (a b : MV) (m : Mem) : Re MV := match lstOf m a, lstOf m b with
  | some l, some [] => .ok (.bl l.isEmpty) m
  | _, _ => .stuck
theorem om_eqE : OpM X (rEqE X.K) gEqE := by
  intro W σ d e m β H x y Q M rx ry p
  unfold gEqE at p
  split at p
  · rename_i l h1 h2
    obtain ⟨a, xs, rfl, q1, q2⟩ := M.lst rx h1
    obtain ⟨b, ys, rfl, q3, q4⟩ := M.lst ry h2
    have n1 := q2.length
    have n2 := q4.length
    have e2 : ys = [] := by cases ys with | nil => rfl | cons _ _ => simp at n2
    refine ⟨a, b, xs, ys, rfl, rfl, q1, q3, .inr ⟨e2, ?_⟩⟩
    have : xs.isEmpty = l.isEmpty := by cases xs <;> cases l <;> simp_all
    rw [this]
    exact p.ok M (.bl _)
  · exact p.not_stuck
/-! ### count, index of flat items -/
def fV : MV → Option V
  | .non => some .non
  | .bl b => some (.bl b)
  | .int i => some (.int i)
  | .str s => some (.str s)
  | _ => none
theorem RV.fl2 {d : MV} {v u : V} (r : RV K β H d v) (h : fV d = some u) : v = u ∧ flatV v = true := by
  cases r <;> cases h <;> exact ⟨rfl, rfl⟩
def fVs : List MV → Option (List V)
  | [] => some []
  | d :: r => match fV d, fVs r with
    | some v, some vs => some (v :: vs)
    | _, _ => none
theorem RVs.fl2 : ∀ {l : List MV} {vs us : List V}, RVs K β H l vs → fVs l = some us → vs = us ∧ vs.all flatV = true
  | [], _, _, .nil, h => by cases h; exact ⟨rfl, rfl⟩
  | d :: r, _, _, .cons a b, h => by
    unfold fVs at h
    split at h
    · rename_i v vs h1 h2
      cases h
      obtain ⟨rfl, f1⟩ := a.fl2 h1
      obtain ⟨rfl, f2⟩ := RVs.fl2 b h2
      exact ⟨rfl, by rw [List.all_cons, f1, f2]; rfl⟩
    · cases h
def rCntF (K : PySem.W.Frag) : V → List V → Hp → VK → Prop := fun x xs H Q => ∃ (a : Addr) (ys : List V) (y : V), x = .ref a ∧ xs = [y] ∧ SqL K H a ys ∧ flatV y = true ∧ ys.all flatV = true ∧ Q (.int ((ys.countP fun z => eqV z y : Nat) : Int)) H
theorem eqU_count {y : V} : ∀ {ys : List V} {us : List Value}, Vals ys us → ys.all flatV = true → us.countP (eqU y) = ys.countP fun z => eqV z y
  | _, _, .nil, _ => rfl
  | z :: ys, u :: us, .cons r t, f => by
    rw [List.all_cons, Bool.and_eq_true] at f
    rw [List.countP_cons, List.countP_cons, eqU_count t f.2, eqU_of r f.1]
theorem mt_cntF : MtR X "list.count" (rCntF X.K) := by
  intro pins s σ H x xs v us Q I rx rxs h
  obtain ⟨a, ys, y, rfl, rfl, hs, fy, fys, q⟩ := h
  cases rx
  obtain ⟨u, rfl, ry⟩ := rxs.one
  obtain ⟨its, rv, ⟨⟨cls, dd, data, sl⟩, n, ho, hc, hdn, hd⟩, hlen⟩ := I.list hs
  simp only at hc hd
  subst hc hd
  refine call_meets PySem.F.slot_list_count ⟨_, ho, rfl⟩ PySem.F.entry_list_count (PySem.F.args_list_count_2 _ _) (SeqAt.list_countAt a its.toArray n dd sl u (eqU y)) ⟨ho, fun u' hu' => mem_eqAt ry fy rv fys u' (by simpa using hu'), ?_⟩
  have e := eqU_count (y := y) rv fys
  refine ⟨.int ((ys.countP fun z => eqV z y : Nat) : Int), H, I.tok _, ⟨s.toks, ?_⟩, q⟩
  show Value.int ((its.toArray.toList.countP (eqU y) : Nat) : Int) s.toks = _
  rw [show its.toArray.toList = its from by simp, e]
def gCnt (d : MV) (ds : List MV) (m : Mem) : Re MV := match ds with
  | [e] => match (lstOf m d).bind fVs, fV e with
    | some us, some u => .ok (.int ((us.countP fun z => eqV z u : Nat) : Int)) m
    | _, _ => .stuck
  | _ => .stuck
theorem lst_flat {d : MV} {us : List V} (h : (lstOf m d).bind fVs = some us) : ∃ l, lstOf m d = some l ∧ fVs l = some us := by
  cases e : lstOf m d with
  | none => rw [e] at h; cases h
  | some l => rw [e] at h; exact ⟨l, rfl, h⟩
theorem mm_cnt : MtMm X (rCntF X.K) gCnt := by
  intro W σ d ds m β H x vs Q M rx rv p
  unfold gCnt at p
  split at p
  · split at p
    · rename_i us u h1 h2
      cases rv with
      | cons r1 r2 =>
        cases r2
        obtain ⟨l, e1, e2⟩ := lst_flat h1
        obtain ⟨a, ys, rfl, q1, q2⟩ := M.lst rx e1
        obtain ⟨rfl, f1⟩ := q2.fl2 e2
        obtain ⟨rfl, f2⟩ := r1.fl2 h2
        exact ⟨a, _, _, rfl, rfl, q1, f2, f1, p.ok M (.int _)⟩
    · exact p.not_stuck
  · exact p.not_stuck
def gIdx (d : MV) (ds : List MV) (m : Mem) : Re MV := match ds with
  | [e] => match (lstOf m d).bind fVs, fV e with
    | some us, some u => match us.findIdx? fun z => eqV z u with
      | some j => .ok (.int (j : Nat)) m
      | none => .stuck
    | _, _ => .stuck
  | _ => .stuck
theorem mm_idx : MtMm X (rIndex X.K) gIdx := by
  intro W σ d ds m β H x vs Q M rx rv p
  unfold gIdx at p
  split at p
  · split at p
    · rename_i us u h1 h2
      split at p
      · rename_i j hj
        cases rv with
        | cons r1 r2 =>
          cases r2
          obtain ⟨l, e1, e2⟩ := lst_flat h1
          obtain ⟨a, ys, rfl, q1, q2⟩ := M.lst rx e1
          obtain ⟨rfl, f1⟩ := q2.fl2 e2
          obtain ⟨rfl, f2⟩ := r1.fl2 h2
          obtain ⟨hl, z1, z2⟩ := List.findIdx?_eq_some_iff_getElem.mp hj
          refine ⟨a, _, _, j, _, rfl, rfl, q1, f2, f1, List.getElem?_eq_getElem hl, z1, fun k z hk hz => ?_, p.ok M (.int _)⟩
          have := z2 k hk
          obtain ⟨hk', rfl⟩ := List.getElem?_eq_some_iff.mp hz
          simpa using this
      · exact p.not_stuck
    · exact p.not_stuck
  · exact p.not_stuck
/-! ### sorted texts -/
def leS (a b : Str) : Bool := !Spec.ltCps b.cps.toList a.cps.toList
def sortM (xs : List Str) : List Str := xs.mergeSort leS
theorem leS_iff {a b : Str} : leS a b = true ↔ a.cps.toList ≤ b.cps.toList := by
  unfold leS
  rw [PyProof.Rows.ltCps_eq]
  simp [List.not_lt]
theorem leS_trans (a b c : Str) (h1 : leS a b = true) (h2 : leS b c = true) : leS a c = true := leS_iff.mpr (List.le_trans (leS_iff.mp h1) (leS_iff.mp h2))
theorem leS_total (a b : Str) : (leS a b || leS b a) = true := by
  rw [Bool.or_eq_true, leS_iff, leS_iff]
  exact List.le_total _ _
theorem str_ext {a b : Str} (h : a.cps.toList = b.cps.toList) : a = b := by
  cases a with
  | mk x => cases b with
    | mk y => congr; exact Array.toList_inj.mp h
theorem leS_anti {a b : Str} (h1 : leS a b = true) (h2 : leS b a = true) : a = b := str_ext (List.le_antisymm (leS_iff.mp h1) (leS_iff.mp h2))
theorem pair_rising : ∀ (l : List Str) (p : Str), PyProof.Rows.risingS p l = true → (p :: l).Pairwise fun a b => leS a b = true
  | [], p, _ => List.pairwise_singleton _ _
  | x :: r, p, h => by
    have h' : (leS p x && PyProof.Rows.risingS x r) = true := by simpa [PyProof.Rows.risingS, leS] using h
    rw [Bool.and_eq_true] at h'
    have ih := pair_rising r x h'.2
    refine List.pairwise_cons.mpr ⟨fun y hy => ?_, ih⟩
    rcases List.mem_cons.mp hy with rfl | hy
    · exact h'.1
    · exact leS_trans _ _ _ h'.1 ((List.pairwise_cons.mp ih).1 y hy)
theorem sortM_only {ys xs : List Str} (hp : ys.Perm xs) (hs : PyProof.Rows.sortedS ys = true) : ys = sortM xs := by
  have h1 : ys.Pairwise fun a b => leS a b = true := by
    cases ys with
    | nil => exact .nil
    | cons y r => exact pair_rising r y hs
  exact List.Perm.eq_of_pairwise (fun a b _ _ => leS_anti) h1 (List.pairwise_mergeSort leS_trans leS_total xs) (hp.trans (List.mergeSort_perm xs leS).symm)
def gSortS : List MV → Mem → Re MV
  | [d], m => match (lstOf m d).bind strsOf with
    | some xs => if xs.length < 64 then alloc (.lst ((sortM xs).map .str)) m else .stuck
    | none => .stuck
  | _, _ => .stuck
theorem RVs.ofStrs : ∀ xs : List Str, RVs K β H (xs.map .str) (xs.map .str)
  | [] => .nil
  | x :: r => .cons (.str x) (RVs.ofStrs r)
theorem lst_strs {d : MV} {ns : List Str} (h : (lstOf m d).bind strsOf = some ns) : ∃ l, lstOf m d = some l ∧ strsOf l = some ns := by
  cases e : lstOf m d with
  | none => rw [e] at h; cases h
  | some l => rw [e] at h; exact ⟨l, rfl, h⟩
theorem cm_sortS : CrM X (rSortedS X.K) gSortS := by
  intro W σ ds m β H vs Q M V p
  unfold gSortS at p
  split at p
  · cases V with
    | cons h r =>
      cases r
      split at p
      · rename_i xs e
        split at p
        · rename_i hl
          obtain ⟨l, h1, h2⟩ := lst_strs e
          obtain ⟨a, us, rfl, q1, q2⟩ := M.lst h h1
          have e2 := q2.strs h2
          subst e2
          refine ⟨a, xs, rfl, q1, hl, fun ys pp hp hs hn => ?_⟩
          obtain rfl := sortM_only hp hs
          have V1 : RVs X.K (β ++ [pp]) (upd H pp (.lst ((sortM xs).map .str))) ((sortM xs).map .str) ((sortM xs).map V.str) := RVs.ofStrs _
          exact p.alloc M hn ⟨_, upd_same, V1⟩
        · exact p.not_stuck
      · exact p.not_stuck
  · exact p.not_stuck
end
end MI
namespace MI
open PySem L2
section
variable {X : Cx} {W : WX} {pos : Pos} {K : PySem.W.Frag} {β : List Addr} {H : Hp} {m : Mem}
/-! ### a dict of the module that is written with text keys, and never changed -/
inductive Ents : List DictEntry → List (Str × MV) → Prop
  | nil : Ents [] []
  | cons {e : DictEntry} {k : Str} {t : Tok} {u : Value} {v : V} {d : MV} {l : List DictEntry} {r : List (Str × MV)} : e.key = .str k t → e.val = u → RelV v u → (∀ K β H, RV K β H d v) → Ents l r → Ents (e :: l) ((k, d) :: r)
structure KTab (K : PySem.W.Frag) (w : World) (mg : Str → Option Value) (x : Str) (tbl : List (Str × MV)) : Prop where
  ex : ∃ (d : Addr) (es : Array DictEntry) (n : Nat), mg x = some (.ref d) ∧ KDict K w d es n ∧ Ents es.toList tbl
theorem Ents.find {z : Str} : ∀ {l : List DictEntry} {r : List (Str × MV)}, Ents l r → l.any (·.refKey) = false ∧ match r.lookup z with
    | some d => ∃ (e : DictEntry) (v : V), l.find? (·.key.isStr z) = some e ∧ RelV v e.val ∧ ∀ K β H, RV K β H d v
    | none => l.find? (·.key.isStr z) = none
  | _, _, .nil => ⟨rfl, rfl⟩
  | _, _, .cons (e := e) (k := k) (v := v) (d := d) (l := l) (r := r) h1 h2 h3 h4 h5 => by
    obtain ⟨i1, i2⟩ := Ents.find (z := z) h5
    refine ⟨?_, ?_⟩
    · rw [List.any_cons, i1, Bool.or_false]
      unfold DictEntry.refKey
      rw [h1]
    · rw [List.lookup_cons, List.find?_cons]
      have e1 : e.key.isStr z = (k == z) := by rw [h1]; rfl
      rw [e1]
      by_cases hk : k = z
      · subst hk
        simp only [beq_self_eq_true]
        exact ⟨e, v, rfl, by rw [h2]; exact h3, h4⟩
      · rw [beq_eq_false_iff_ne.mpr hk, beq_eq_false_iff_ne.mpr (Ne.symm hk)]
        exact i2
theorem KTab.at_ {w : World} {mg : Str → Option Value} {x : Str} {tbl : List (Str × MV)} (T : KTab K w mg x tbl) : ∃ (d : Addr) (es : Array DictEntry) (n : Nat), mg x = some (.ref d) ∧ KDict K w d es n ∧ ∀ z, match tbl.lookup z with
    | some c => ∃ (u : Value) (v : V), PySem.W.nsIn K d z = some (some u) ∧ RelV v u ∧ ∀ K β H, RV K β H c v
    | none => PySem.W.nsIn K d z = some none := by
  obtain ⟨d, es, n, h1, h2, h3⟩ := T.ex
  refine ⟨d, es, n, h1, h2, fun z => ?_⟩
  obtain ⟨i1, i2⟩ := h3.find (z := z)
  have e : PySem.W.nsIn K d z = match es.toList.find? (·.key.isStr z) with
      | some e => some (some e.val)
      | none => if es.toList.any (·.refKey) then none else some none := by
    unfold PySem.W.nsIn
    rw [h2.at_] <;> rfl
  cases hl : tbl.lookup z with
  | some c =>
    rw [hl] at i2
    obtain ⟨en, v, q1, q2, q3⟩ := i2
    exact ⟨en.val, v, by rw [e, q1], q2, q3⟩
  | none =>
    rw [hl] at i2
    rw [e, i2, i1]
    rfl
def mInK (tbl : List (Str × MV)) (f : ME) : ME := fun ρ m => (f ρ m).bind fun d m1 => match d with
  | .str z => .ok (.bl (tbl.lookup z).isSome) m1
  | _ => .stuck
theorem je_inK {e : Expr} {x : Str} {p : Pos} {f : ME} {tbl : List (Str × MV)} (h : JE X W e f) (T : KTab X.K X.w X.mg x tbl) (hg : Gl X x := by rfl) (hd : (x == ("__debug__" : Str)) = false := by decide) (hk : behindInMarks .In (.Name x p) = false := by rfl) : JE X W (.Compare e [.In] [.Name x p] pos) (mInK tbl f) := by
  obtain ⟨d, es, n, h1, h2, h3⟩ := T.at_
  refine ⟨pe_imp (pe_cmpR (op_in_kd h2) h.run (pe_glob (v := .ref d) hg h1 rfl hd) hk) fun σ H Q ⟨ρ, m, β, hE, hM, q⟩ => ⟨ρ, m, β, hE, hM, q.bind fun c m1 y H1 β1 _ e1 M1 V1 p1 => ?_⟩⟩
  split at p1
  · rename_i z _
    cases V1
    have q3 := h3 z
    cases hl : tbl.lookup z with
    | some c =>
      rw [hl] at q3 p1
      obtain ⟨u, v, q4, _⟩ := q3
      exact ⟨z, some u, rfl, rfl, q4, p1.ok M1 (.bl _)⟩
    | none =>
      rw [hl] at q3 p1
      exact ⟨z, none, rfl, rfl, q3, p1.ok M1 (.bl _)⟩
  · exact p1.not_stuck
def mItemK (tbl : List (Str × MV)) (f : ME) : ME := fun ρ m => (f ρ m).bind fun d m1 => match d with
  | .str z => match tbl.lookup z with
    | some c => .ok c m1
    | none => .stuck
  | _ => .stuck
theorem je_itemK {e : Expr} {x : Str} {p : Pos} {f : ME} {tbl : List (Str × MV)} (h : JE X W e f) (T : KTab X.K X.w X.mg x tbl) (hg : Gl X x := by rfl) (hd : (x == ("__debug__" : Str)) = false := by decide) (hs : PlainIx e := by intro _ _; rfl) : JE X W (.Subscript (.Name x p) e pos) (mItemK tbl f) := by
  obtain ⟨d, es, n, h1, h2, h3⟩ := T.at_
  refine ⟨pe_imp (pe_ix (ix_kdict (X := X)) (pe_glob (v := .ref d) hg h1 rfl hd) h.run hs) fun σ H Q ⟨ρ, m, β, hE, hM, q⟩ => ⟨ρ, m, β, hE, hM, q.bind fun c m1 y H1 β1 _ e1 M1 V1 p1 => ?_⟩⟩
  split at p1
  · rename_i z _
    cases V1
    have q3 := h3 z
    split at p1
    · rename_i c hl
      rw [hl] at q3
      obtain ⟨u, v, q4, q5, q6⟩ := q3
      exact ⟨d, z, v, rfl, rfl, ⟨es, n, u, h2.at_, h2.lit, q4, q5⟩, p1.ok M1 (q6 _ _ _)⟩
    · exact p1.not_stuck
  · exact p1.not_stuck
end
end MI
namespace MI
open PySem L2
section
variable {X : Cx} {W : WX} {pos : Pos} {K : PySem.W.Frag} {β : List Addr} {H : Hp} {m : Mem}
/-- a list, a tuple, or a text by its signs -/
def seqIt : MV → Mem → Re IterM
  | .str z, m => .ok ⟨z.cps.toList.map fun c => .str ⟨#[c]⟩, fun _ => True⟩ m
  | .tup l, m => .ok ⟨l, fun _ => True⟩ m
  | .ref n, m => match lstOf m (.ref n) with
    | some l => .ok ⟨l, fun m' => lstOf m' (.ref n) = some l⟩ m
    | none => .stuck
  | _, _ => .stuck
def mAnyI (f : ME) : MI' := fun ρ m => (f ρ m).bind seqIt
theorem walkM_str {z : Str} : WalkM K β H ⟨z.cps.toList.map fun c => .str ⟨#[c]⟩, fun _ => True⟩ (Its z) := by
  refine ⟨fun _ => True, fun i H v H' => H' = H ∧ ∃ c, z.cps[i]? = some c ∧ v = .str ⟨#[c]⟩, ?_, fun _ _ _ _ _ _ => trivial, fun i H1 x H2 β1 m1 d e M1 _ hi y => ?_⟩
  · show Walk _ (List.map _ _).length _ _
    rw [List.length_map, Array.length_toList]
    exact walk_str
  · obtain ⟨rfl, c, h1, rfl⟩ := y
    rw [List.getElem?_map, Array.getElem?_toList, h1] at hi
    cases hi
    exact ⟨Ext.refl, M1, .str _⟩
theorem ji_any {tg e : Expr} {f : ME} (h : JE X W e f) : JI X W tg e (mAnyI f) := by
  refine ⟨pi_imp (pi_or (pi_str h.run) (pi_or (pi_list h.run) (pi_tup h.run))) fun σ H R ⟨ρ, m, β, hE, hM, p⟩ => ?_⟩
  have p : PostI X W ((f ρ m).bind seqIt) β H σ R := p
  have go : ∀ (t : V → Hp → Prop), (∀ d m1 β1 H1 v, f ρ m = .ok d m1 → Ext β H β1 H1 → RM X.K β1 H1 m1 → RV X.K β1 H1 d v → t v H1) → tE X W f σ H t := by
    intro t q
    refine ⟨ρ, m, β, hE, hM, ?_⟩
    cases hf : f ρ m with
    | stuck => rw [hf] at p; exact p.elim
    | ex x m1 => rw [hf] at p; exact p
    | ok d m1 => exact fun v H1 β1 e1 M1 V1 => q d m1 β1 H1 v hf e1 M1 V1
  cases hf : f ρ m with
  | stuck => rw [hf] at p; exact p.elim
  | ex x m1 => exact .inl (go _ fun d m2 β1 H1 v e => by rw [hf] at e; cases e)
  | ok d m1 =>
    rw [hf] at p
    have p : PostI X W (seqIt d m1) β H σ R := p
    cases d with
    | str z =>
      refine .inl (go _ fun d m2 β1 H1 v e e1 M1 V1 => ?_)
      rw [hf] at e
      cases e
      cases V1
      exact ⟨z, rfl, p _ _ _ e1 M1 walkM_str⟩
    | tup l =>
      refine .inr (.inr (go _ fun d m2 β1 H1 v e e1 M1 V1 => ?_))
      rw [hf] at e
      cases e
      cases V1 with
      | tup h1 h2 => exact ⟨_, rfl, ⟨_, h1⟩, p _ _ _ e1 M1 (walkM_tup M1 h1 h2)⟩
    | ref n =>
      refine .inr (.inl (go _ fun d m2 β1 H1 v e e1 M1 V1 => ?_))
      rw [hf] at e
      cases e
      have p : PostI X W (match lstOf m1 (.ref n) with
        | some l => .ok ⟨l, fun m' => lstOf m' (.ref n) = some l⟩ m1
        | none => .stuck) β H σ R := p
      cases hl : lstOf m1 (.ref n) with
      | none => rw [hl] at p; exact p.elim
      | some l =>
        rw [hl] at p
        obtain ⟨a, vs, rfl, h1, h2⟩ := M1.lst V1 hl
        exact ⟨a, rfl, ⟨vs, h1⟩, p _ _ _ e1 M1 (walkM_lst M1 V1 hl)⟩
    | non => exact p.elim
    | bl _ => exact p.elim
    | int _ => exact p.elim
    | kl _ => exact p.elim
/-! ### exceptions by name -/
/-- which classes a clause by that name takes -/
structure HndN (K : PySem.W.Frag) (mg : Str → Option Value) (x : Str) (P : Str → Option Bool) : Prop where
  ex : ∃ C : Addr, mg x = some (.ref C) ∧ Exm K (.ref C) P
/-- what isinstance(.., x) says of exceptions -/
structure IsxN (K : PySem.W.Frag) (mg : Str → Option Value) (x : Str) (P : Str → Option Bool) : Prop where
  ex : ∃ (c : V) (cv : Value), RelV c cv ∧ (∀ u, RelV c u → u = cv) ∧ ClsV c cv ∧ (mg x = some cv ∨ (mg x = none ∧ bootBuiltins x = some cv)) ∧ Isx K cv P
theorem je_isxN {e : Expr} {x : Str} {p q : Pos} {f : ME} {P : Str → Option Bool} (h : JE X W e f) (T : IsxN X.K X.mg x P) (hm : X.mg "isinstance" = none) (hg : Gl X "isinstance" := by rfl) (hgx : Gl X x := by rfl) (hn : x ≠ "__name__" := by decide) (hd : (x == ("__debug__" : Str)) = false := by decide)
    (he : starEach (e :: [.Name x q]) X.env = (false, eval e X.env) :: starEach [.Name x q] X.env := by rfl) (he2 : starEach (.Name x q :: []) X.env = (false, eval (.Name x q) X.env) :: starEach [] X.env := by rfl) (hpl : (backTo pos (starEach [.Name x q] X.env)).any (·.1) = false := by rfl) : JE X W (.Call (.Name "isinstance" p) [e, .Name x q] [] pos) (mIsx P f) := by
  obtain ⟨c, cv, r, hcv, hcl, hx, T⟩ := T.ex
  rcases hx with hx | ⟨hx, hb⟩
  · exact je_isx h hcv hcl (pe_glob hgx hx r hd) T hm hg he he2 hpl
  · exact je_isx h hcv hcl (pe_bltn hgx hx hb r hn hd) T hm hg he he2 hpl
section
variable {body : List Stmt} {f : MS} {P : Str → Option Bool}
theorem jx_tryKN (i j : Nat) {x n y : Str} {np py pn' spos pos' : Pos} (hs : X.stack = X.env :: X.outer) (hf : X.env.frame = some X.env.locals) (hex : X.ex = []) (hN : X.N.Nodup) (T : HndN X.K X.mg x P) (tk : Takes X W)
    (hb : ∀ (W' : WX) (pn : List (Addr × Obj)) (xe : Value → Shared → Prop), Takes (X.tr pn xe) W' → PassesOwn (model X.prog X.w) X.A X.env xe → JB (X.tr pn xe) W' body f)
    (hg : Gl X x := by rfl) (hdb : (x == ("__debug__" : Str)) = false := by decide) (hi : X.N[i]? = some n := by rfl) (hln : X.env.kindOf n = some .local := by rfl) (hj : X.N[j]? = some y := by rfl) (hly : X.env.kindOf y = some .local := by rfl)
    (hd1 : (n == ("__debug__" : Str)) = false := by decide) (hd2 : (n == ("__classdict__" : Str)) = false := by decide) :
    JS X W (.Try body [.ExceptHandler (some (.Name x np)) (some n) [.Assign [.Name y py] (.Name n pn') spos] pos'] [] [] pos) (mTryK P i j f) := by
  obtain ⟨C, h1, h2⟩ := T.ex
  exact jx_tryK i j hs hf hex hN ⟨hg, hdb, .inl h1⟩ h2 tk hb hi hln hj hly hd1 hd2
theorem jx_tryFN {x y t : Str} {np p p2 pos2 pos3 cpos pos' : Pos} {j j2 : Nat} (hs : X.stack = X.env :: X.outer) (hf : X.env.frame = some X.env.locals) (hpa : ∀ hd : Option Value, PassesOwnAt (model X.prog X.w) (X.A.mark hd) X.A X.env X.xe) (T : HndN X.K X.mg x P) (T2 : ExF X.K X.mg y) (tk : Takes X W)
    (hb : ∀ (W' : WX) (pn : List (Addr × Obj)) (xe : Value → Shared → Prop), L2N.Takes (X.tr pn xe) W' → PassesOwn (model X.prog X.w) X.A X.env xe → JB (X.tr pn xe) W' body f) (hgx : Gl X x := by rfl) (hdx : (x == ("__debug__" : Str)) = false := by decide) (hg : Gl X y := by rfl) (hdb : (y == ("__debug__" : Str)) = false := by decide) :
    JS X W (.Try body [.ExceptHandler (some (.Name x np)) none [.Raise (some (.Call (.Name y p) [.Constant (.str t) j p2] [] pos2)) (some (.Constant .none j2 cpos)) pos3] pos'] [] [] pos) (mTryF P y f) := by
  obtain ⟨C, h1, h2⟩ := T.ex
  exact jx_tryF hs hf hpa ⟨hgx, hdx, .inl h1⟩ h2 T2 tk hb hg hdb
theorem jx_tryN {x : Str} {suite : List Stmt} {b₀ : Stmt} {np pos' : Pos} {g : MS} (hs : X.stack = X.env :: X.outer) (hf : X.env.frame = some X.env.locals) (T : HndN X.K X.mg x P) (tk : Takes X W)
    (hb : ∀ (W' : WX) (pn : List (Addr × Obj)) (xe : Value → Shared → Prop), Takes (X.tr pn xe) W' → PassesOwn (model X.prog X.w) X.A X.env xe → JB (X.tr pn xe) W' body f)
    (hsu : ∀ (a : Addr) (oe : Obj) (pn : List (Addr × Obj)), JB (X.suite a ((a, oe) :: pn)) W0 (b₀ :: suite) g) (hg : Gl X x := by rfl) (hdb : (x == ("__debug__" : Str)) = false := by decide) :
    JS X W (.Try body [.ExceptHandler (some (.Name x np)) none (b₀ :: suite) pos'] [] [] pos) (mTry P f g) := by
  obtain ⟨C, h1, h2⟩ := T.ex
  exact jx_try hs hf ⟨hg, hdb, .inl h1⟩ h2 tk hb hsu
end
end
end MI
namespace MI
open PySem L2
theorem hu0 {k : Nat} {X : L2.Cx} (hr : L2.Room k X.A) : X.A.units < PySem.cLine := Nat.lt_of_succ_lt (hu1 hr)
/-! ### what the top has written -/
/-- a def of the module -/
structure DefAt (K : PySem.W.Frag) (mg : Str → Option Value) (x : Str) (st : Stmt) (ps : List Str) : Prop where
  ex : ∃ (f : Addr) (fd : FuncData), Fun K x x st f fd ∧ mg x = some (.ref f) ∧ PySem.W.keepIn K (.ref f) = true ∧ Binds K fd ps []
section
variable {K : PySem.W.Frag} {h : Heap} {mg : Str → Option Value} {w : World}
theorem def_mk {x : Str} {st : Stmt} {ps : List Str} {f : Addr} {oc : Value} {od an : Option Addr} {osl : Array (Option Value)} {kV doc pm cdv ct : Value} (X : K.In h) (G : h.Ns mainGlobals mg)
    (a : PySem.W.nsIn K mainGlobals x = some (some (.ref f))) (l : K.lookup f = some ⟨oc, od, .func (PySem.W.fnOf x x (defArgs st) (defBody st) (defScope st) .none kV doc pm an cdv ct), osl⟩) (c : PySem.W.codeIn K cdv x = true) (k : PySem.W.keepIn K (.ref f) = true)
    (b : ∀ (kV doc pm : Value) (an : Option Addr) (cdv ct : Value) (us : List Value), us.length = ps.length → bindArgs (PySem.W.fnOf x x (defArgs st) (defBody st) (defScope st) .none kV doc pm an cdv ct) ⟨us, []⟩ = pure (ps.zip us)) : DefAt K mg x st ps :=
  ⟨f, _, fun_mk l c k, PySem.W.mg_of X G a, k, (fun_mk l c k).binds b⟩
theorem DefAt.fnx {P : Program} {base : Heap} {M : Mode} {x : Str} {st : Stmt} {ps : List Str} {k n : Nat} {F : MF} (D : DefAt K mg x st ps) (hok : ∀ f fd, Fun K x x st f fd → FnOk P w K mg base (M.CX P w) k f fd ps (spM K n F)) : FnX M P w K mg base k x n F := by
  obtain ⟨f, fd, h1, h2, h3, h4⟩ := D.ex
  exact ⟨f, fd, ps, hok f fd h1, h2, h3, h4⟩
theorem DefAt.fn0 {P : Program} {base : Heap} {M : Mode} {x : Str} {st : Stmt} {ps : List Str} {n : Nat} (D : DefAt K mg x st ps) (hn : ps.length = n) : FnX M P w K mg base 0 x n (fun _ _ => .stuck) := by
  obtain ⟨f, fd, h1, h2, h3, h4⟩ := D.ex
  exact fnx_0 hn h2 h3 h4
/-! constants -/
theorem con_int {x : Str} {i : Int} {t : Tok} (X : K.In h) (G : h.Ns mainGlobals mg) (a : PySem.W.nsIn K mainGlobals x = some (some (.int i t))) : Con K mg x (.int i) := ⟨_, .int i, PySem.W.mg_of X G a, ⟨t, rfl⟩, fun _ _ => .int i⟩
theorem con_str {x : Str} {i : Str} {t : Tok} (X : K.In h) (G : h.Ns mainGlobals mg) (a : PySem.W.nsIn K mainGlobals x = some (some (.str i t))) : Con K mg x (.str i) := ⟨_, .str i, PySem.W.mg_of X G a, ⟨t, rfl⟩, fun _ _ => .str i⟩
theorem con_bl {x : Str} {b : Bool} (X : K.In h) (G : h.Ns mainGlobals mg) (a : PySem.W.nsIn K mainGlobals x = some (some (.bool b))) : Con K mg x (.bl b) := ⟨_, .bl b, PySem.W.mg_of X G a, rfl, fun _ _ => .bl b⟩
/-- a written constant, as it stands in the fragment; n bounds the depth -/
def conB (K : PySem.W.Frag) : Nat → MV → Value → Bool
  | _, .non, .none => true
  | _, .bl a, .bool b => a == b
  | _, .int a, .int b _ => a == b
  | _, .str a, .str b _ => a == b
  | n + 1, .tup l, .ref a => match K.lookup a with
    | some ⟨.type c, _, .seq its _, _⟩ => c == "tuple" && (l.length == its.size && decide (its.size ≤ 1000)) && (l.zip its.toList).all fun p => conB K n p.1 p.2
    | _ => false
  | _, _, _ => false
theorem vals_refl : ∀ (us : List Value), True := fun _ => trivial
theorem conB_ok : ∀ {n : Nat} {d : MV} {u : Value}, conB K n d u = true → ∃ v, RelV v u ∧ ∀ β H, RV K β H d v := by
  intro n
  induction n with
  | zero =>
    intro d u e
    cases d <;> cases u <;> simp [conB] at e
    · exact ⟨.non, rfl, fun _ _ => .non⟩
    · subst e; exact ⟨.bl _, rfl, fun _ _ => .bl _⟩
    · subst e; exact ⟨.int _, ⟨_, rfl⟩, fun _ _ => .int _⟩
    · subst e; exact ⟨.str _, ⟨_, rfl⟩, fun _ _ => .str _⟩
  | succ n ih =>
    intro d u e
    cases d <;> cases u <;> simp [conB] at e
    · exact ⟨.non, rfl, fun _ _ => .non⟩
    · subst e; exact ⟨.bl _, rfl, fun _ _ => .bl _⟩
    · subst e; exact ⟨.int _, ⟨_, rfl⟩, fun _ _ => .int _⟩
    · subst e; exact ⟨.str _, ⟨_, rfl⟩, fun _ _ => .str _⟩
    · rename_i l a
      split at e
      · rename_i c dd its k sl hl
        rw [Bool.and_eq_true, Bool.and_eq_true, Bool.and_eq_true, beq_iff_eq, beq_iff_eq, decide_eq_true_eq, List.all_eq_true] at e
        obtain ⟨⟨rfl, e2, e4⟩, e3⟩ := e
        have key : ∀ (l : List MV) (us : List Value), l.length = us.length → (∀ p ∈ l.zip us, conB K n p.1 p.2 = true) → ∃ vs, Vals vs us ∧ ∀ β H, RVs K β H l vs := by
          intro l
          induction l with
          | nil =>
            intro us h1 _
            cases us with
            | nil => exact ⟨[], .nil, fun _ _ => .nil⟩
            | cons _ _ => simp at h1
          | cons d l il =>
            intro us h1 h2
            cases us with
            | nil => simp at h1
            | cons u us =>
              obtain ⟨v, r1, r2⟩ := ih (h2 (d, u) (by simp))
              obtain ⟨vs, r3, r4⟩ := il us (by simpa using h1) fun p hp => h2 p (by simp [hp])
              exact ⟨v :: vs, .cons r1 r3, fun β H => .cons (r2 β H) (r4 β H)⟩
        obtain ⟨vs, r1, r2⟩ := key l its.toList (by simpa using e2) (fun p hp => e3 p hp)
        refine ⟨.ref a, rfl, fun β H => .tup (.inr ⟨_, its, k, hl, rfl, rfl, Nat.le_of_lt (small1000 e4), r1⟩) (r2 β H)⟩
      · cases e
theorem con_any {x : Str} {d : MV} {u : Value} (n : Nat) (X : K.In h) (G : h.Ns mainGlobals mg) (a : PySem.W.nsIn K mainGlobals x = some (some u)) (e : conB K n d u = true) : Con K mg x d := by
  obtain ⟨v, r1, r2⟩ := conB_ok e
  exact ⟨u, v, PySem.W.mg_of X G a, r1, r2⟩
/-! tables -/
def entB : List DictEntry → List (Str × MV) → Bool
  | [], [] => true
  | e :: l, p :: r => (match e.key, e.val, p.2 with
    | .str k _, .int i _, .int j => k == p.1 && i == j
    | .str k _, .str i _, .str j => k == p.1 && i == j
    | _, _, _ => false) && entB l r
  | _, _ => false
theorem entB_ok : ∀ {l : List DictEntry} {r : List (Str × MV)}, entB l r = true → Ents l r
  | [], [], _ => .nil
  | [], _ :: _, e => by cases e
  | _ :: _, [], e => by cases e
  | e :: l, (k, d) :: r, h => by
    unfold entB at h
    rw [Bool.and_eq_true] at h
    have ih := entB_ok h.2
    have h1 := h.1
    split at h1
    · rename_i k' t i t' j e1 e2 e3
      simp only [Bool.and_eq_true, beq_iff_eq] at h1
      obtain ⟨rfl, rfl⟩ := h1
      have e3 : d = .int i := e3
      subst e3
      exact .cons (v := .int i) e1 e2 ⟨_, rfl⟩ (fun _ _ _ => .int _) ih
    · rename_i k' t i t' j e1 e2 e3
      simp only [Bool.and_eq_true, beq_iff_eq] at h1
      obtain ⟨rfl, rfl⟩ := h1
      have e3 : d = .str i := e3
      subst e3
      exact .cons (v := .str i) e1 e2 ⟨_, rfl⟩ (fun _ _ _ => .str _) ih
    · cases h1
theorem tab_mk {x : Str} {tbl : List (Str × MV)} {d : Addr} {es : Array DictEntry} {n : Nat} (X : K.In h) (G : h.Ns mainGlobals mg) (a : PySem.W.nsIn K mainGlobals x = some (some (.ref d))) (l : K.lookup d = some ⟨.type "dict", none, .dict es n, #[]⟩)
    (c : PySem.W.KeysLit w.params es.toList) (e : entB es.toList tbl = true) (z : (d == sysModules) = false) : KTab K w mg x tbl := ⟨d, es, n, PySem.W.mg_of X G a, ⟨l, c, z⟩, entB_ok e⟩
/-! exceptions -/
theorem exf_mk {x : Str} {C : Addr} (X : K.In h) (G : h.Ns mainGlobals mg) (a : PySem.W.nsIn K mainGlobals x = some (some (.ref C))) (b : PySem.W.excIn K C [.type "ValueError", .type "Exception", .type "BaseException", .type "object"] "ValueError.__new__" = true)
    (c : PySem.W.keepIn K (.ref C) = true) (d : PySem.W.subIn K (.ref C) (.type "BaseException") = some true) (e : PySem.W.typeIn K (.ref C) = some (.type "type")) : ExF K mg x := ⟨C, a, PySem.W.mg_of X G a, b, c, d, e⟩
def hndB (K : PySem.W.Frag) (c : Value) (l : List (Str × Bool)) : Bool := l.all fun p => match PySem.W.nsIn K mainGlobals p.1 with
  | some (some (.ref C)) => PySem.W.exmOne K (.ref C) c == some p.2
  | _ => false
theorem lookup_mem {α : Type} : ∀ {l : List (Str × α)} {y : Str} {b : α}, l.lookup y = some b → (y, b) ∈ l
  | (k, c) :: l, y, b, h => by
    rw [List.lookup_cons] at h
    split at h
    · rename_i e
      cases h
      rw [eq_of_beq e]
      exact List.mem_cons_self
    · exact List.mem_cons_of_mem _ (lookup_mem h)
theorem hnd_mk {x : Str} {C : Addr} {l : List (Str × Bool)} (X : K.In h) (G : h.Ns mainGlobals mg) (a : PySem.W.nsIn K mainGlobals x = some (some (.ref C))) (e : hndB K (.ref C) l = true) : HndN K mg x (fun y => l.lookup y) := by
  refine ⟨C, PySem.W.mg_of X G a, fun y D b hy hb => ?_⟩
  have q := List.all_eq_true.mp e (y, b) (lookup_mem hb)
  have hy : PySem.W.nsIn K mainGlobals y = some (some (.ref D)) := hy
  simp only [hy] at q
  exact eq_of_beq q
def excB (K : PySem.W.Frag) (D : Addr) : Bool :=
  PySem.W.findIn K (.ref D) "__getattribute__" == some (some (.builtin "BaseException.__getattribute__")) && PySem.W.findIn K (.ref D) "__getattr__" == some none && PySem.W.subIn K (.ref D) (.type "BaseException") == some true && PySem.W.hasDictIn K D &&
    PySem.W.findIn K (.ref D) "__class__" == some (some (.builtin "object.__class__")) && PySem.W.specialIn K (.builtin "object.__class__") "__get__" == some (some (.builtin "getset_descriptor.__get__")) && PySem.W.takesIn K (.builtin "object.__class__") == some true && PySem.W.mroIn K D (.type "object") == some true
theorem excB_ok {D : Addr} (e : excB K D = true) : ExcC K D := by
  unfold excB at e
  simp only [Bool.and_eq_true, beq_iff_eq] at e
  obtain ⟨⟨⟨⟨⟨⟨⟨e1, e2⟩, e3⟩, e4⟩, e5⟩, e6⟩, e7⟩, e8⟩ := e
  exact ⟨e1, e2, e3, e4, e5, e6, e7, e8⟩
def isxB (K : PySem.W.Frag) (c : Value) (l : List (Str × Bool)) : Bool := PySem.W.kitOne K (.type "NoneType") c == some false && l.all fun p => match PySem.W.nsIn K mainGlobals p.1 with
  | some (some (.ref D)) => excB K D && PySem.W.kitOne K (.ref D) c == some p.2
  | _ => false
theorem isx_of {c : Value} {l : List (Str × Bool)} (e : isxB K c l = true) : Isx K c (fun y => l.lookup y) := by
  unfold isxB at e
  rw [Bool.and_eq_true] at e
  refine ⟨fun y D b hy hb => ?_, eq_of_beq e.1⟩
  have q := List.all_eq_true.mp e.2 (y, b) (lookup_mem hb)
  have hy : PySem.W.nsIn K mainGlobals y = some (some (.ref D)) := hy
  simp only [hy, Bool.and_eq_true] at q
  exact ⟨excB_ok q.1, eq_of_beq q.2⟩
theorem isx_own {x : Str} {C : Addr} {l : List (Str × Bool)} (X : K.In h) (G : h.Ns mainGlobals mg) (a : PySem.W.nsIn K mainGlobals x = some (some (.ref C))) (e : isxB K (.ref C) l = true) : IsxN K mg x (fun y => l.lookup y) :=
  ⟨.ref C, .ref C, rfl, fun _ r => r, .own C, .inl (PySem.W.mg_of X G a), isx_of e⟩
theorem isx_blt {x : Str} {T : String} {l : List (Str × Bool)} (X : K.In h) (G : h.Ns mainGlobals mg) (a : PySem.W.nsIn K mainGlobals x = some none) (hb : bootBuiltins x = some (.type T)) (e : isxB K (.type T) l = true) : IsxN K mg x (fun y => l.lookup y) :=
  ⟨.ty T, .type T, rfl, fun _ r => r, .ty T, .inr ⟨PySem.W.mg_none_of X G a, hb⟩, isx_of e⟩
/-! ### the end -/
theorem kl_of {H : Hp} {a : Addr} {xs : List V} (hO : Only H) (hS : SqL K H a xs) : KL K [] H a xs := by
  rcases hS with (h | ⟨ob, h⟩) | h
  · rcases hO a with z | ⟨o, ys, z⟩
    · rw [z] at h; cases h
    · rw [z] at h; cases h
  · exact .inl ⟨List.not_mem_nil, ob, h⟩
  · exact .inr h
theorem ints_rv {β : List Addr} {H : Hp} : ∀ ns : List Int, RVs K β H (ns.map MV.int) (ns.map V.int)
  | [] => .nil
  | n :: r => .cons (.int n) (ints_rv r)
theorem spM_law {F : MF} {H : Hp} {a : Addr} {ns : List Int} (hO : Only H) (hS : SqL K H a (ns.map V.int)) (hF : ∃ m', F [.kl (ns.map .int)] [] = .ok (.bl true) m') : spM K 1 F [.ref a] H (fun v _ => v = .bl true) fun _ _ _ => False := by
  refine ⟨rfl, [.kl (ns.map .int)], [], [], .cons (.kl (kl_of hO hS) (ints_rv ns)) .nil, ⟨rfl, List.nodup_nil, fun n o a h => by simp at h⟩, ?_⟩
  obtain ⟨m', e⟩ := hF
  rw [e]
  intro v H' β' _ _ V
  cases V
  rfl
theorem walkM {l : PySem.W.OpenLaw} {k : Nat} {q : Program} {loose : List Str} {XP : (Str → Option Value) → Heap → Prop} {YP : World → Heap → Prop} {d : DefRec} {K : Params → PySem.W.Frag} {x : Str} {F : MF}
    (hn : l.most = some 63) (hdf : d.params.defaults = []) (hr : Room k callerA) (hY : ∀ (w : World) (h : Heap), YP w h → (K w.params).In h)
    (G : ∀ (w : World) (mg : Str → Option Value) (fa : Addr) (h : Heap), (K w.params).In h → h.Ns mainGlobals mg → mg d.name = some (.ref fa) →
      ∃ fd : FuncData, (∀ (s : Shared) (u : Value), BindsTo s fd ⟨[u], []⟩ [(x, u)]) ∧ ∀ base : Heap, FnOk l.prog w (K w.params) mg base (L2.CX l.prog w) k fa fd [x] (spM (K w.params) 1 F))
    (hF : ∀ ns : List Int, ns.length ≤ 63 → (∀ z ∈ ns, Builtin.Int.intBits z ≤ 1048576) → ∃ m', F [.kl (ns.map .int)] [] = .ok (.bl true) m') :
    PySem.W.WalkO q loose XP YP l.row.toRowW d [] (fun f vs => PySem.call f vs) :=
  walk_ofB (n := 63) (k := k) (x := x) (CX := fun w => L2.CX l.prog w) (sp := fun w => spM (K w.params) 1 F) hn (by decide) hdf hr hY (fun w mg fa h X N e => let ⟨fd, b, f⟩ := G w mg fa h X N e; ⟨fd, b, fun base _ _ => f base⟩)
    (fun w H a ns hl hb hO hS => spM_law hO hS (hF ns hl hb)) fun w H s e s' z => by
      obtain ⟨_, _, _, _, _, _, _, _, _, _, _, _, z⟩ := z
      exact z
end
end MI
namespace MI
open PySem L2
/-! ### what comes of a run: Q of an answer, E of an exception -/
def W {α : Type} (r : Re α) (Q : α → Mem → Prop) (E : Exn → Mem → Prop) : Prop := match r with
  | .ok a m => Q a m
  | .ex x m => E x m
  | .stuck => False
section
variable {α γ : Type} {Q Q' : α → Mem → Prop} {E E' : Exn → Mem → Prop}
@[simp] theorem W_ok {a : α} {m : Mem} : W (.ok a m) Q E = Q a m := rfl
@[simp] theorem W_ex {x : Exn} {m : Mem} : W (.ex x m : Re α) Q E = E x m := rfl
@[simp] theorem W_stuck : W (.stuck : Re α) Q E = False := rfl
@[simp] theorem W_bind {r : Re γ} {f : γ → Mem → Re α} : W (r.bind f) Q E = W r (fun a m => W (f a m) Q E) E := by
  cases r <;> rfl
theorem W.mono {r : Re α} (h : W r Q' E') (hq : ∀ a m, Q' a m → Q a m) (he : ∀ x m, E' x m → E x m := by first | (intro _ _ h; exact h.elim) | (intro _ _ h; exact h)) : W r Q E := by
  cases r with
  | ok a m => exact hq a m h
  | ex x m => exact he x m h
  | stuck => exact h
theorem W_ite {c : Prop} [Decidable c] {a b : Re α} : W (if c then a else b) Q E = if c then W a Q E else W b Q E := by split <;> rfl
end
abbrev E0 : Exn → Mem → Prop := fun _ _ => False
section
variable {ρ : Env} {m : Mem} {Q : Fl → Mem → Prop} {E : Exn → Mem → Prop}
@[simp] theorem W_onE {α : Type} {r : Re α} {k : α → Mem → Re Fl} : W (onE ρ r k) Q E = W r (fun a m => W (k a m) Q E) (fun x m => Q (.ex x ρ) m) := by
  cases r <;> rfl
/-- on to the next statement -/
def nxt (f : MS) (Q : Fl → Mem → Prop) (E : Exn → Mem → Prop) : Fl → Mem → Prop := fun a m => match a with
  | .nx ρ => W (f ρ m) Q E
  | a => Q a m
@[simp] theorem W_seq {f g : MS} : W (mSeq f g ρ m) Q E = W (f ρ m) (nxt g Q E) E := by
  unfold mSeq
  cases f ρ m with
  | ok a m => cases a <;> rfl
  | ex x m => rfl
  | stuck => rfl
@[simp] theorem nxt_nx {f : MS} : nxt f Q E (.nx ρ) m = W (f ρ m) Q E := rfl
@[simp] theorem nxt_rt {f : MS} {d : MV} : nxt f Q E (.rt d) m = Q (.rt d) m := rfl
@[simp] theorem nxt_ex {f : MS} {x : Exn} : nxt f Q E (.ex x ρ) m = Q (.ex x ρ) m := rfl
def fin (Q : MV → Mem → Prop) (E : Exn → Mem → Prop) : Fl → Mem → Prop := fun a m => match a with
  | .nx _ => Q .non m
  | .rt d => Q d m
  | .ex x _ => E x m
  | _ => False
@[simp] theorem W_end {r : Re Fl} {Q : MV → Mem → Prop} : W (endOf r) Q E = W r (fin Q E) E0 := by
  cases r with
  | ok a m => cases a <;> rfl
  | ex x m => rfl
  | stuck => rfl
@[simp] theorem fin_nx {Q : MV → Mem → Prop} : fin Q E (.nx ρ) m = Q .non m := rfl
@[simp] theorem fin_rt {Q : MV → Mem → Prop} {d : MV} : fin Q E (.rt d) m = Q d m := rfl
@[simp] theorem fin_ex {Q : MV → Mem → Prop} {x : Exn} : fin Q E (.ex x ρ) m = E x m := rfl
@[simp] theorem W_ifS {c : MT} {f g : MS} : W (mIfS c f g ρ m) Q E = W (c ρ m) (fun b m => if b = true then W (f ρ m) Q E else W (g ρ m) Q E) (fun x m => Q (.ex x ρ) m) := by
  unfold mIfS
  rw [W_onE]
  congr 1
  funext b m
  rw [W_ite]
@[simp] theorem W_asg {f : ME} {i : Nat} : W (mAsg f (nName i) ρ m) Q E = W (f ρ m) (fun d m => Q (.nx (ρ.set i (some d))) m) (fun x m => Q (.ex x ρ) m) := by
  unfold mAsg nName
  rw [W_onE]
  rfl
@[simp] theorem W_ret {f : ME} : W (mRet f ρ m) Q E = W (f ρ m) (fun d m => Q (.rt d) m) (fun x m => Q (.ex x ρ) m) := by
  unfold mRet
  rw [W_onE]
  rfl
@[simp] theorem W_drop {f : ME} : W (mDrop f ρ m) Q E = W (f ρ m) (fun _ m => Q (.nx ρ) m) (fun x m => Q (.ex x ρ) m) := by
  unfold mDrop
  rw [W_onE]
  rfl
@[simp] theorem W_skip : W (mSkip ρ m) Q E = Q (.nx ρ) m := rfl
@[simp] theorem W_retN : W (mRetN ρ m) Q E = Q (.rt .non) m := rfl
@[simp] theorem W_raise {x : Str} : W (mRaise x ρ m) Q E = Q (.ex ⟨x⟩ ρ) m := rfl
end
section
variable {ρ : Env} {m : Mem} {Q : MV → Mem → Prop} {E : Exn → Mem → Prop}
@[simp] theorem W_C {d : MV} : W (mC d ρ m) Q E = Q d m := rfl
theorem W_var {i : Nat} {d : MV} (h : ρ[i]? = some (some d)) : W (mVar i ρ m) Q E = Q d m := by
  unfold mVar
  rw [h] <;> rfl
@[simp] theorem W_bin {g : MV → MV → Mem → Re MV} {f k : ME} : W (mBin g f k ρ m) Q E = W (f ρ m) (fun a m => W (k ρ m) (fun b m => W (g a b m) Q E) E) E := by
  unfold mBin
  simp only [W_bind]
@[simp] theorem W_call {F : MF} {g : MA} : W (mCall F g ρ m) Q E = W (g ρ m) (fun ds m => W (F ds m) Q E) E := by
  unfold mCall
  simp only [W_bind]
@[simp] theorem W_nil {Q : List MV → Mem → Prop} : W (mNil ρ m) Q E = Q [] m := rfl
@[simp] theorem W_cons {f : ME} {g : MA} {Q : List MV → Mem → Prop} : W (mCons f g ρ m) Q E = W (f ρ m) (fun d m => W (g ρ m) (fun ds m => Q (d :: ds) m) E) E := by
  unfold mCons
  simp only [W_bind, W_ok]
@[simp] theorem W_B {f : ME} {Q : Bool → Mem → Prop} : W (mB f ρ m) Q E = W (f ρ m) (fun d m => match d with | .bl b => Q b m | _ => False) E := by
  unfold mB
  rw [W_bind]
  congr 1
  funext d m
  cases d <;> rfl
@[simp] theorem W_tru {f : ME} {Q : Bool → Mem → Prop} : W (mTru f ρ m) Q E = W (f ρ m) (fun d m => match tru m d with | some b => Q b m | none => False) E := by
  unfold mTru
  rw [W_bind]
  congr 1
  funext d m
  cases tru m d <;> rfl
@[simp] theorem W_notT {f : MT} {Q : Bool → Mem → Prop} : W (mNotT f ρ m) Q E = W (f ρ m) (fun b m => Q (!b) m) E := by
  unfold mNotT
  rw [W_bind]
  rfl
@[simp] theorem W_andT {f g : MT} {Q : Bool → Mem → Prop} : W (mAndT f g ρ m) Q E = W (f ρ m) (fun b m => if b = true then W (g ρ m) Q E else Q false m) E := by
  unfold mAndT
  rw [W_bind]
  congr 1
  funext b m
  rw [W_ite]
  rfl
@[simp] theorem W_orT {f g : MT} {Q : Bool → Mem → Prop} : W (mOrT f g ρ m) Q E = W (f ρ m) (fun b m => if b = true then Q true m else W (g ρ m) Q E) E := by
  unfold mOrT
  rw [W_bind]
  congr 1
  funext b m
  rw [W_ite]
  rfl
@[simp] theorem W_and {f g : ME} : W (mAnd f g ρ m) Q E = W (f ρ m) (fun d m => match tru m d with | some true => W (g ρ m) Q E | some false => Q d m | none => False) E := by
  unfold mAnd
  rw [W_bind]
  congr 1
  funext d m
  cases tru m d with
  | none => rfl
  | some b => cases b <;> rfl
@[simp] theorem W_or {f g : ME} : W (mOr f g ρ m) Q E = W (f ρ m) (fun d m => match tru m d with | some true => Q d m | some false => W (g ρ m) Q E | none => False) E := by
  unfold mOr
  rw [W_bind]
  congr 1
  funext d m
  cases tru m d with
  | none => rfl
  | some b => cases b <;> rfl
@[simp] theorem W_not {f : ME} : W (mNot f ρ m) Q E = W (f ρ m) (fun d m => match tru m d with | some b => Q (.bl (!b)) m | none => False) E := by
  unfold mNot
  rw [W_bind]
  congr 1
  funext d m
  cases tru m d <;> rfl
@[simp] theorem W_if {c : MT} {f g : ME} : W (mIf c f g ρ m) Q E = W (c ρ m) (fun b m => if b = true then W (f ρ m) Q E else W (g ρ m) Q E) E := by
  unfold mIf
  rw [W_bind]
  congr 1
  funext b m
  rw [W_ite]
@[simp] theorem W_tup {g : MA} : W (mTup g ρ m) Q E = W (g ρ m) (fun ds m => ds.length ≤ sizeLine ∧ Q (.tup ds) m) E := by
  unfold mTup
  rw [W_bind]
  congr 1
  funext ds m
  rw [W_ite]
  by_cases h : ds.length ≤ sizeLine
  · rw [if_pos h]; simp [h]
  · rw [if_neg h]; simp [h]
@[simp] theorem W_lst {g : MA} : W (mLst g ρ m) Q E = W (g ρ m) (fun ds m => ds.length ≤ sizeLine ∧ Q (.ref m.length) (m ++ [.lst ds])) E := by
  unfold mLst
  rw [W_bind]
  congr 1
  funext ds m
  rw [W_ite]
  by_cases h : ds.length ≤ sizeLine
  · rw [if_pos h]; simp [h, alloc]
  · rw [if_neg h]; simp [h]
@[simp] theorem W_star {f : ME} {g : MA} {Q : List MV → Mem → Prop} : W (mStar f g ρ m) Q E = W (f ρ m) (fun d m => match seqOf m d with | some l => W (g ρ m) (fun ds m => Q (l ++ ds) m) E | none => False) E := by
  unfold mStar
  rw [W_bind]
  congr 1
  funext d m
  cases seqOf m d with
  | none => rfl
  | some l => simp
@[simp] theorem W_sl {f : ME} {l h : MO'} : W (mSl f l h ρ m) Q E = W (f ρ m) (fun d m => W (l ρ m) (fun lo m => W (h ρ m) (fun hi m => W (gSl d lo hi m) Q E) E) E) E := by
  unfold mSl
  simp only [W_bind]
@[simp] theorem W_no {Q : Option Int → Mem → Prop} : W (mNo ρ m) Q E = Q none m := rfl
@[simp] theorem W_endO {f : ME} {Q : Option Int → Mem → Prop} : W (mEnd f ρ m) Q E = W (f ρ m) (fun d m => match d with | .int i => Q (some i) m | _ => False) E := by
  unfold mEnd
  rw [W_bind]
  congr 1
  funext d m
  cases d <;> rfl
@[simp] theorem W_dnew : W (mDNew ρ m) Q E = Q (.ref m.length) (m ++ [.dct []]) := rfl
@[simp] theorem W_isi {T : String} {f : ME} : W (mIsi T f ρ m) Q E = W (f ρ m) (fun d m => match (tyM m d).bind fun t => kitB t T with | some b => Q (.bl b) m | none => False) E := by
  unfold mIsi
  rw [W_bind]
  congr 1
  funext d m
  cases (tyM m d).bind fun t => kitB t T <;> rfl
@[simp] theorem W_bm {g : MV → List MV → Mem → Re MV} {f : ME} {a : MA} : W (mBM g f a ρ m) Q E = W (f ρ m) (fun d m => if (lstOf m d).isSome = true then W (a ρ m) (fun ds m => W (g d ds m) Q E) E else False) E := by
  unfold mBM
  rw [W_bind]
  congr 1
  funext d m
  rw [W_ite]
  simp only [W_bind, W_stuck]
@[simp] theorem W_chain {g g' : MV → MV → Mem → Re MV} {fa fb fc : ME} : W (mChain g g' fa fb fc ρ m) Q E = W (fa ρ m) (fun a m => W (fb ρ m) (fun b m => W (g a b m) (fun r m => match r with | .bl true => W (fc ρ m) (fun c m => W (g' b c m) Q E) E | .bl false => Q (.bl false) m | _ => False) E) E) E := by
  unfold mChain
  simp only [W_bind]
  congr 1
  funext a m
  congr 1
  funext b m
  congr 1
  funext r m
  cases r with
  | bl b => cases b <;> simp
  | _ => rfl
@[simp] theorem W_neg {f : ME} : W (mNeg f ρ m) Q E = W (f ρ m) (fun d m => match d with | .int i => Q (.int (-i)) m | _ => False) E := by
  unfold mNeg
  rw [W_bind]
  congr 1
  funext d m
  cases d <;> rfl
end
/-! ### loops -/
section
variable {ρ : Env} {m : Mem} {E : Exn → Mem → Prop}
@[simp] theorem W_for {h : MI'} {g : MG} {body : MS} {Q : Fl → Mem → Prop} : W (mFor h g body ρ m) Q E = W (h ρ m) (fun it m => W (loopM it.chk g body it.items ρ m) Q E) (fun x m => Q (.ex x ρ) m) := by
  unfold mFor
  rw [W_onE]
@[simp] theorem W_lc {h : MI'} {g : NG} {t : MT} {e : ME} {vs : List Nat} {Q : MV → Mem → Prop} : W (mLc h g t e vs ρ m) Q E = W (h ρ m) (fun it m => W (lcM it.chk g t e (wipeM ρ vs) it.items [] m) (fun l m => Q (.ref m.length) (m ++ [.lst l])) E) E := by
  unfold mLc
  simp only [W_bind]
  rfl
/-- a for loop over names: what holds at every turn -/
theorem W_loop {chk : Mem → Prop} {i : Nat} {body : MS} {Q : Fl → Mem → Prop} (I : List MV → Env → Mem → Prop) : ∀ (l : List MV) (ρ : Env) (m : Mem), I l ρ m → (∀ l ρ m, I l ρ m → chk m) →
    (∀ d l ρ m, I (d :: l) ρ m → W (body (ρ.set i (some d)) m) (fun a m => match a with | .nx ρ' => I l ρ' m | .ct ρ' => I l ρ' m | .bk ρ' => Q (.nx ρ') m | a => Q a m) E) → (∀ ρ m, I [] ρ m → Q (.nx ρ) m) → W (loopM chk (nName i) body l ρ m) Q E
  | [], ρ, m, h, hc, _, hd => by
    unfold loopM
    rw [if_pos (hc _ _ _ h)]
    exact hd _ _ h
  | d :: l, ρ, m, h, hc, hs, hd => by
    unfold loopM
    rw [if_pos (hc _ _ _ h)]
    show W (match body (ρ.set i (some d)) m with
      | .ok (.nx ρ2) m2 => loopM chk (nName i) body l ρ2 m2
      | .ok (.ct ρ2) m2 => loopM chk (nName i) body l ρ2 m2
      | .ok (.bk ρ2) m2 => .ok (.nx ρ2) m2
      | q => q) Q E
    have q := hs d l ρ m h
    cases hb : body (ρ.set i (some d)) m with
    | stuck => rw [hb] at q; exact q
    | ex x m' => rw [hb] at q; exact q
    | ok a m' =>
      rw [hb] at q
      cases a with
      | nx ρ' => exact W_loop I l ρ' m' q hc hs hd
      | ct ρ' => exact W_loop I l ρ' m' q hc hs hd
      | bk ρ' => exact q
      | rt d => exact q
      | ex x ρ' => exact q
/-- a comprehension: what holds at every turn -/
theorem W_lcs {chk : Mem → Prop} {g : NG} {t : MT} {e : ME} {Q : List MV → Mem → Prop} (I : List MV → List MV → Mem → Prop) : ∀ (l acc : List MV) (m : Mem), I l acc m → (∀ l acc m, I l acc m → chk m) →
    (∀ d l acc m, I (d :: l) acc m → ∃ as, g d m = some as ∧ W (t (setE ρ as) m) (fun b m => if b = true then W (e (setE ρ as) m) (fun y m => acc.length < sizeLine ∧ I l (acc ++ [y]) m) E0 else I l acc m) E0) → (∀ acc m, I [] acc m → Q acc m) → W (lcM chk g t e ρ l acc m) Q E
  | [], acc, m, h, hc, _, hd => by
    unfold lcM
    rw [if_pos (hc _ _ _ h)]
    exact hd _ _ h
  | d :: l, acc, m, h, hc, hs, hd => by
    unfold lcM
    rw [if_pos (hc _ _ _ h)]
    obtain ⟨as, e1, q⟩ := hs d l acc m h
    rw [e1]
    dsimp only
    cases ht : t (setE ρ as) m with
    | stuck => rw [ht] at q; exact q.elim
    | ex x m' => rw [ht] at q; exact q.elim
    | ok b m' =>
      rw [ht] at q
      cases b with
      | false => exact W_lcs I l acc m' q hc hs hd
      | true =>
        have q : W (e (setE ρ as) m') (fun y m => acc.length < sizeLine ∧ I l (acc ++ [y]) m) E0 := q
        dsimp only
        cases he : e (setE ρ as) m' with
        | stuck => rw [he] at q; exact q.elim
        | ex x m2 => rw [he] at q; exact q.elim
        | ok y m2 =>
          rw [he] at q
          dsimp only
          rw [if_pos q.1]
          exact W_lcs I l (acc ++ [y]) m2 q.2 hc hs hd
end
section
variable {ρ : Env} {m : Mem} {E : Exn → Mem → Prop}
@[simp] theorem W_vr {i : Nat} {Q : MV → Mem → Prop} : W (mVar i ρ m) Q E = match ρ[i]? with | some (some d) => Q d m | _ => False := by
  unfold mVar
  cases ρ[i]? with
  | none => rfl
  | some o => cases o <;> rfl
theorem W_asgT {f : ME} {n : Nat} {k : MGs} {Q : Fl → Mem → Prop} : W (mAsg f (nTup n k) ρ m) Q E = W (f ρ m) (fun d m => match seqOf m d with
    | some l => if l.length = n then (match k l ρ m with | .ok ρ' m' => Q (.nx ρ') m' | _ => False) else False
    | none => False) (fun x m => Q (.ex x ρ) m) := by
  unfold mAsg nTup
  rw [W_onE]
  congr 1
  funext d m
  cases seqOf m d with
  | none => rfl
  | some l =>
    by_cases h : l.length = n
    · simp only [h, if_true]
      cases k l ρ m <;> rfl
    · simp only [h, if_false]
      rfl
@[simp] theorem W_store {fo fi fv : ME} {Q : Fl → Mem → Prop} : W (mStore fo fi fv ρ m) Q E = W (fv ρ m) (fun v m1 => W (fo ρ m1) (fun d m2 => match dctOf m2 d with
    | some _ => W (fi ρ m2) (fun k m3 => match dctOf m3 d, keyOf k with
      | some (n, l), some q => if l.length < sizeLine then Q (.nx ρ) (m3.set n (.dct (putM l q v))) else False
      | _, _ => False) (fun x m => Q (.ex x ρ) m)
    | none => W (fi ρ m2) (fun k m3 => match k with
      | .int k => match mutOf m3 d with
        | some (n, l) => match ixN l.length k with
          | some j => Q (.nx ρ) (m3.set n (.lst (l.set j v)))
          | none => False
        | none => False
      | _ => False) E0) (fun x m => Q (.ex x ρ) m)) (fun x m => Q (.ex x ρ) m) := by
  unfold mStore
  simp only [W_onE]
  congr 1
  funext v m1
  congr 1
  funext d m2
  cases dctOf m2 d with
  | some p =>
    simp only [W_onE]
    congr 1
    funext k m3
    cases dctOf m3 d with
    | none => rfl
    | some p =>
      obtain ⟨n, l⟩ := p
      cases keyOf k with
      | none => rfl
      | some q => simp only [W_ite, W_ok, W_stuck]
  | none =>
    dsimp only
    cases fi ρ m2 with
    | stuck => rfl
    | ex x m => rfl
    | ok k m3 =>
      cases k with
      | int k =>
        dsimp only [W_ok]
        cases mutOf m3 d with
        | none => rfl
        | some p =>
          obtain ⟨n, l⟩ := p
          dsimp only
          cases ixN l.length k <;> rfl
      | _ => rfl
@[simp] theorem W_aug {i : Nat} {g : MV → MV → Mem → Re MV} {f : ME} {Q : Fl → Mem → Prop} : W (mAug i g f ρ m) Q E = match ρ[i]? with
    | some (some d) => W (f ρ m) (fun e m1 => W (g d e m1) (fun r m2 => Q (.nx (ρ.set i (some r))) m2) (fun x m => Q (.ex x ρ) m)) (fun x m => Q (.ex x ρ) m)
    | _ => False := by
  unfold mAug
  cases ρ[i]? with
  | none => rfl
  | some o =>
    cases o with
    | none => rfl
    | some d =>
      simp only [W_onE]
      rfl
end
end MI
namespace MI
open PySem L2
section
variable {m : Mem} {Q : MV → Mem → Prop} {E : Exn → Mem → Prop}
/-! ### operations on things that are seen -/
@[simp] theorem W_add_i {i j : Int} : W (gAdd (.int i) (.int j) m) Q E = Q (.int (i + j)) m := rfl
@[simp] theorem W_add_t {a b : List MV} : W (gAdd (.tup a) (.tup b) m) Q E = (a.length + b.length ≤ sizeLine ∧ Q (.tup (a ++ b)) m) := by
  show W (if a.length + b.length ≤ sizeLine then .ok (.tup (a ++ b)) m else .stuck) Q E = _
  by_cases h : a.length + b.length ≤ sizeLine <;> simp [h]
@[simp] theorem W_addI_i {i j : Int} : W (gAddI (.int i) (.int j) m) Q E = Q (.int (i + j)) m := rfl
theorem W_add_l {a b : Nat} {xs ys : List MV} (h1 : m[a]? = some (.lst xs)) (h2 : m[b]? = some (.lst ys)) : W (gAdd (.ref a) (.ref b) m) Q E = (xs.length + ys.length ≤ sizeLine ∧ Q (.ref m.length) (m ++ [.lst (xs ++ ys)])) := by
  have e1 : mutOf m (.ref a) = some (a, xs) := by simp [mutOf, h1]
  have e2 : mutOf m (.ref b) = some (b, ys) := by simp [mutOf, h2]
  show W (match mutOf m (.ref a), mutOf m (.ref b) with
    | some (_, xs), some (_, ys) => if xs.length + ys.length ≤ sizeLine then alloc (.lst (xs ++ ys)) m else .stuck
    | _, _ => .stuck) Q E = _
  rw [e1, e2]
  by_cases h : xs.length + ys.length ≤ sizeLine <;> simp [h, alloc]
@[simp] theorem W_sub_i {i j : Int} : W (gSub (.int i) (.int j) m) Q E = Q (.int (i - j)) m := rfl
@[simp] theorem W_mul_i {i j : Int} : W (gMul (.int i) (.int j) m) Q E = (((-(2 ^ 64) < i ∧ i < 2 ^ 64) ∨ (-(2 ^ 64) < j ∧ j < 2 ^ 64)) ∧ Q (.int (i * j)) m) := by
  show W (if (-(2 ^ 64) < i ∧ i < 2 ^ 64) ∨ (-(2 ^ 64) < j ∧ j < 2 ^ 64) then .ok (.int (i * j)) m else .stuck) Q E = _
  by_cases h : (-(2 ^ 64) < i ∧ i < 2 ^ 64) ∨ (-(2 ^ 64) < j ∧ j < 2 ^ 64)
  · rw [if_pos h]; simp only [W_ok, eq_iff_iff]; exact ⟨fun q => ⟨h, q⟩, fun q => q.2⟩
  · rw [if_neg h]; simp only [W_stuck, eq_iff_iff]; exact ⟨fun q => q.elim, fun q => h q.1⟩
@[simp] theorem W_mul_t {a : List MV} {k : Int} : W (gMul (.tup a) (.int k) m) Q E = ((0 < a.length ∧ 2 ≤ k ∧ k ≤ 1000 ∧ a.length ≤ 1000) ∧ Q (.tup (List.replicate k.toNat a).flatten) m) := by
  show W (if 0 < a.length ∧ 2 ≤ k ∧ k ≤ 1000 ∧ a.length ≤ 1000 then .ok (.tup (List.replicate k.toNat a).flatten) m else .stuck) Q E = _
  by_cases h : 0 < a.length ∧ 2 ≤ k ∧ k ≤ 1000 ∧ a.length ≤ 1000
  · rw [if_pos h]; simp only [W_ok, eq_iff_iff]; exact ⟨fun q => ⟨h, q⟩, fun q => q.2⟩
  · rw [if_neg h]; simp only [W_stuck, eq_iff_iff]; exact ⟨fun q => q.elim, fun q => h q.1⟩
@[simp] theorem W_mod_i {i j : Int} : W (gMod (.int i) (.int j) m) Q E = (0 < j ∧ Q (.int (i % j)) m) := by
  show W (if 0 < j then .ok (.int (i % j)) m else .stuck) Q E = _
  by_cases h : 0 < j <;> simp [h]
@[simp] theorem W_div_i {i j : Int} : W (gDiv (.int i) (.int j) m) Q E = (CDivW i j ∧ Q (.int (i / j)) m) := by
  show W (if CDivW i j then .ok (.int (i / j)) m else .stuck) Q E = _
  by_cases h : CDivW i j <;> simp [h]
@[simp] theorem W_pow_i {i j : Int} : W (gPow (.int i) (.int j) m) Q E = (CPowW i j ∧ Q (.int (i ^ j.toNat)) m) := by
  show W (if CPowW i j then .ok (.int (i ^ j.toNat)) m else .stuck) Q E = _
  by_cases h : CPowW i j <;> simp [h]
@[simp] theorem W_lt_i {i j : Int} : W (gLt (.int i) (.int j) m) Q E = Q (.bl (decide (i < j))) m := rfl
@[simp] theorem W_gt_i {i j : Int} : W (gGt (.int i) (.int j) m) Q E = Q (.bl (decide (j < i))) m := rfl
@[simp] theorem W_ge_i {i j : Int} : W (gGe (.int i) (.int j) m) Q E = Q (.bl (decide (j ≤ i))) m := rfl
@[simp] theorem W_le_i {i j : Int} : W (gLeS (.int i) (.int j) m) Q E = Q (.bl (decide (i ≤ j))) m := rfl
@[simp] theorem W_le_s {a b : Str} : W (gLeS (.str a) (.str b) m) Q E = Q (.bl (!decide (b.cps.toList < a.cps.toList))) m := rfl
@[simp] theorem W_isN {d : MV} : W (gIsN d .non m) Q E = Q (.bl (match d with | .non => true | _ => false)) m := rfl
@[simp] theorem W_notN {d : MV} : W (gNotN d .non m) Q E = Q (.bl (match d with | .non => false | _ => true)) m := rfl
@[simp] theorem W_int_i {i : Int} : W (gInt [.int i] m) Q E = Q (.int i) m := rfl
@[simp] theorem W_int_b {b : Bool} : W (gInt [.bl b] m) Q E = Q (.int (if b = true then 1 else 0)) m := rfl
@[simp] theorem W_abs_i {i : Int} : W (gAbs [.int i] m) Q E = Q (.int (if i < 0 then -i else i)) m := rfl
@[simp] theorem W_min2 {i j : Int} : W (gMin [.int i, .int j] m) Q E = Q (.int (if j < i then j else i)) m := rfl
@[simp] theorem W_min3 {i j k : Int} : W (gMin [.int i, .int j, .int k] m) Q E = Q (.int (if k < (if j < i then j else i) then k else (if j < i then j else i))) m := rfl
@[simp] theorem W_len {d : MV} : W (gLen [d] m) Q E = match lenM m d with | some n => Q (.int (n : Int)) m | none => False := by
  show W (match lenM m d with | some n => .ok (.int (n : Int)) m | none => .stuck) Q E = _
  cases lenM m d <;> rfl
@[simp] theorem W_list {d : MV} : W (gList [d] m) Q E = match seqOf m d with | some l => Q (.ref m.length) (m ++ [.lst l]) | none => False := by
  show W (match seqOf m d with | some l => alloc (.lst l) m | none => .stuck) Q E = _
  cases seqOf m d <;> rfl
@[simp] theorem W_tuple {d : MV} : W (gTuple [d] m) Q E = match seqOf m d with | some l => Q (.tup l) m | none => False := by
  show W (match seqOf m d with | some l => .ok (.tup l) m | none => .stuck) Q E = _
  cases seqOf m d <;> rfl
/-! what stands there -/
@[simp] theorem lstOf_ref {n : Nat} : lstOf m (.ref n) = match m[n]? with | some (.lst l) => some l | some (.frz l) => some l | _ => none := rfl
@[simp] theorem lstOf_kl {l : List MV} : lstOf m (.kl l) = some l := rfl
@[simp] theorem lstOf_tup {l : List MV} : lstOf m (.tup l) = none := rfl
@[simp] theorem lstOf_str {z : Str} : lstOf m (.str z) = none := rfl
@[simp] theorem lstOf_int {z : Int} : lstOf m (.int z) = none := rfl
@[simp] theorem lstOf_non : lstOf m .non = none := rfl
@[simp] theorem seqOf_tup {l : List MV} : seqOf m (.tup l) = some l := rfl
@[simp] theorem seqOf_ref {n : Nat} : seqOf m (.ref n) = match m[n]? with | some (.lst l) => some l | some (.frz l) => some l | _ => none := rfl
@[simp] theorem seqOf_kl {l : List MV} : seqOf m (.kl l) = some l := rfl
@[simp] theorem mutOf_ref {n : Nat} : mutOf m (.ref n) = match m[n]? with | some (.lst l) => some (n, l) | _ => none := rfl
@[simp] theorem mutOf_tup {l : List MV} : mutOf m (.tup l) = none := rfl
@[simp] theorem dctOf_ref {n : Nat} : dctOf m (.ref n) = match m[n]? with | some (.dct l) => some (n, l) | _ => none := rfl
@[simp] theorem dctOf_tup {l : List MV} : dctOf m (.tup l) = none := rfl
@[simp] theorem dctOf_str {l : Str} : dctOf m (.str l) = none := rfl
@[simp] theorem dctOf_kl {l : List MV} : dctOf m (.kl l) = none := rfl
@[simp] theorem lenM_tup {l : List MV} : lenM m (.tup l) = some l.length := rfl
@[simp] theorem lenM_kl {l : List MV} : lenM m (.kl l) = some l.length := rfl
@[simp] theorem lenM_str {z : Str} : lenM m (.str z) = if z.length ≤ sizeLine then some z.length else none := rfl
@[simp] theorem lenM_ref {n : Nat} : lenM m (.ref n) = match m[n]? with | some (.lst l) => some l.length | some (.frz l) => some l.length | some (.dct l) => some l.length | _ => none := by
  show (match dctOf m (.ref n) with
    | some (_, l) => some l.length
    | none => (lstOf m (.ref n)).map List.length) = _
  simp only [dctOf_ref, lstOf_ref]
  cases m[n]? with
  | none => rfl
  | some o => cases o <;> rfl
@[simp] theorem W_item_t {l : List MV} {i : Int} : W (gItem (.tup l) (.int i) m) Q E = match atM l i with | some e => Q e m | none => False := by
  show W (match atM l i with | some e => .ok e m | none => .stuck) Q E = _
  cases atM l i <;> rfl
@[simp] theorem W_item_k {l : List MV} {i : Int} : W (gItem (.kl l) (.int i) m) Q E = match atM l i with | some e => Q e m | none => False := by
  show W (match atM l i with | some e => .ok e m | none => .stuck) Q E = _
  cases atM l i <;> rfl
@[simp] theorem W_item_r {n : Nat} {i : Int} : W (gItem (.ref n) (.int i) m) Q E = match m[n]? with
    | some (.lst l) => (match atM l i with | some e => Q e m | none => False)
    | some (.frz l) => (match atM l i with | some e => Q e m | none => False)
    | some (.dct l) => (match valM l (.inl i) with | some e => Q e m | none => False)
    | _ => False := by
  unfold gItem gDGet gIx
  simp only [dctOf_ref, seqOf_ref]
  cases h : m[n]? with
  | none => simp [h]
  | some o =>
    cases o with
    | lst l => cases h2 : atM l i <;> simp [h, h2]
    | frz l => cases h2 : atM l i <;> simp [h, h2]
    | dct l => cases h2 : valM l (.inl i) <;> simp [h, h2, keyOf]
    | exn x => simp [h]
    | own c l => simp [h]
@[simp] theorem W_sl_t {l : List MV} {lo hi : Option Int} : W (gSl (.tup l) lo hi m) Q E = Q (.tup (cutM l lo hi)) m := rfl
@[simp] theorem W_sl_k {l : List MV} {lo hi : Option Int} : W (gSl (.kl l) lo hi m) Q E = Q (.ref m.length) (m ++ [.lst (cutM l lo hi)]) := rfl
@[simp] theorem W_append {n : Nat} {e : MV} : W (gAppend (.ref n) [e] m) Q E = match m[n]? with | some (.lst l) => l.length < sizeLine ∧ Q .non (m.set n (.lst (l ++ [e]))) | _ => False := by
  unfold gAppend
  simp only [mutOf_ref]
  cases h : m[n]? with
  | none => rfl
  | some o =>
    cases o with
    | lst l => by_cases q : l.length < sizeLine <;> simp [q]
    | _ => rfl
@[simp] theorem W_extend {n k : Nat} : W (gExtend (.ref n) [.ref k] m) Q E = match m[n]?, m[k]? with | some (.lst l), some (.lst l') => l.length + l'.length ≤ sizeLine ∧ Q .non (m.set n (.lst (l ++ l'))) | _, _ => False := by
  unfold gExtend
  simp only [mutOf_ref]
  cases h : m[n]? with
  | none => rfl
  | some o =>
    cases o with
    | lst l =>
      cases h2 : m[k]? with
      | none => rfl
      | some o2 =>
        cases o2 with
        | lst l' => by_cases q : l.length + l'.length ≤ sizeLine <;> simp [q]
        | _ => rfl
    | _ => rfl
@[simp] theorem W_pop {n : Nat} : W (gPop (.ref n) [] m) Q E = match m[n]? with | some (.lst l) => (match l[l.length - 1]? with | some e => Q e (m.set n (.lst l.dropLast)) | none => False) | _ => False := by
  unfold gPop
  simp only [mutOf_ref]
  cases h : m[n]? with
  | none => rfl
  | some o =>
    cases o with
    | lst l => cases q : l[l.length - 1]? <;> simp [q]
    | _ => rfl
@[simp] theorem W_eq_s {a b : Str} {neg : Bool} : W (gEqA neg (.str a) (.str b) m) Q E = Q (.bl (if neg = true then !decide (a = b) else decide (a = b))) m := by
  unfold gEqA gEqS
  simp [eqS]
@[simp] theorem W_eq_i {a b : Int} {neg : Bool} : W (gEqA neg (.int a) (.int b) m) Q E = Q (.bl (if neg = true then !decide (a = b) else decide (a = b))) m := by
  unfold gEqA gEqS
  simp [eqS]
@[simp] theorem tru_bl {b : Bool} : tru m (.bl b) = some b := rfl
@[simp] theorem tru_non : tru m .non = some false := rfl
@[simp] theorem tru_int {i : Int} : tru m (.int i) = some (i != 0) := rfl
@[simp] theorem tru_tup {l : List MV} : tru m (.tup l) = some (!l.isEmpty) := rfl
@[simp] theorem tru_ref {n : Nat} : tru m (.ref n) = truO m[n]? := rfl
/-! ### what is walked -/
@[simp] theorem W_any {ρ : Env} {f : ME} {Q : IterM → Mem → Prop} : W (mAnyI f ρ m) Q E = W (f ρ m) (fun d m => W (seqIt d m) Q E) E := by
  unfold mAnyI
  simp only [W_bind]
@[simp] theorem W_it_t {l : List MV} {Q : IterM → Mem → Prop} : W (seqIt (.tup l) m) Q E = Q ⟨l, fun _ => True⟩ m := rfl
@[simp] theorem W_it_s {z : Str} {Q : IterM → Mem → Prop} : W (seqIt (.str z) m) Q E = Q ⟨z.cps.toList.map fun c => .str ⟨#[c]⟩, fun _ => True⟩ m := rfl
@[simp] theorem W_it_r {n : Nat} {Q : IterM → Mem → Prop} : W (seqIt (.ref n) m) Q E = match m[n]? with
    | some (.lst l) => Q ⟨l, fun m' => lstOf m' (.ref n) = some l⟩ m
    | some (.frz l) => Q ⟨l, fun m' => lstOf m' (.ref n) = some l⟩ m
    | _ => False := by
  unfold seqIt
  simp only [lstOf_ref]
  cases h : m[n]? with
  | none => rfl
  | some o => cases o <;> rfl
@[simp] theorem W_rng {ρ : Env} {g : MA} {Q : IterM → Mem → Prop} : W (mRng g ρ m) Q E = W (g ρ m) (fun ds m => W (rngOf ds m) Q E) E := by
  unfold mRng
  simp only [W_bind]
@[simp] theorem W_rng1 {j : Int} {Q : IterM → Mem → Prop} : W (rngOf [.int j] m) Q E = ((-(2 ^ 62) ≤ j ∧ j < 2 ^ 62) ∧ Q ⟨rngL 0 j.toNat, fun _ => True⟩ m) := by
  show W (if -(2 ^ 62) ≤ j ∧ j < 2 ^ 62 then .ok ⟨rngL 0 j.toNat, fun _ => True⟩ m else .stuck) Q E = _
  by_cases h : -(2 ^ 62) ≤ j ∧ j < 2 ^ 62
  · rw [if_pos h]; simp only [W_ok, eq_iff_iff]; exact ⟨fun q => ⟨h, q⟩, fun q => q.2⟩
  · rw [if_neg h]; simp only [W_stuck, eq_iff_iff]; exact ⟨fun q => q.elim, fun q => h q.1⟩
@[simp] theorem W_enum {ρ : Env} {g : MA} {Q : IterM → Mem → Prop} : W (mEnum g ρ m) Q E = W (g ρ m) (fun ds m => W (enumOf ds m) Q E) E := by
  unfold mEnum
  simp only [W_bind]
@[simp] theorem W_enum_t {l : List MV} {Q : IterM → Mem → Prop} : W (enumOf [.tup l] m) Q E = Q ⟨numd l, fun _ => True⟩ m := rfl
end
end MI
namespace MI
open PySem L2
section
variable {m : Mem} {E : Exn → Mem → Prop}
theorem szl {n : Nat} (h : n ≤ 1000) : n ≤ sizeLine := Nat.le_of_lt (small1000 h)
/-- a comprehension that changes nothing -/
theorem lc_pure {chk : Mem → Prop} {i : Nat} {t : MT} {e : ME} {ρ : Env} (φ : MV → MV) (ψ : MV → Bool) : ∀ (l acc : List MV), chk m → (∀ d ∈ l, t (ρ.set i (some d)) m = .ok (ψ d) m ∧ (ψ d = true → e (ρ.set i (some d)) m = .ok (φ d) m)) → acc.length + l.length ≤ 1000 →
    lcM chk (ngName i) t e ρ l acc m = .ok (acc ++ (l.filter ψ).map φ) m
  | [], acc, hc, _, _ => by
    unfold lcM
    rw [if_pos hc]
    simp
  | d :: l, acc, hc, h, hl => by
    unfold lcM
    rw [if_pos hc]
    obtain ⟨h1, h2⟩ := h d List.mem_cons_self
    show (match t (ρ.set i (some d)) m with
      | .ok true m2 => match e (ρ.set i (some d)) m2 with
        | .ok y m3 => if acc.length < sizeLine then lcM chk (ngName i) t e ρ l (acc ++ [y]) m3 else .stuck
        | _ => .stuck
      | .ok false m2 => lcM chk (ngName i) t e ρ l acc m2
      | _ => .stuck) = _
    rw [h1]
    simp only [List.length_cons] at hl
    cases hp : ψ d with
    | false =>
      dsimp only
      rw [lc_pure φ ψ l acc hc (fun x hx => h x (List.mem_cons_of_mem _ hx)) (by omega), List.filter_cons, hp]
      simp
    | true =>
      dsimp only
      rw [h2 hp]
      dsimp only
      rw [if_pos (Nat.lt_of_lt_of_le (by omega) (szl (n := 1000) (Nat.le_refl _))), lc_pure φ ψ l (acc ++ [φ d]) hc (fun x hx => h x (List.mem_cons_of_mem _ hx)) (by simp; omega), List.filter_cons, hp]
      simp
theorem W_pure {chk : Mem → Prop} {i : Nat} {t : MT} {e : ME} {ρ : Env} {Q : List MV → Mem → Prop} (φ : MV → MV) (ψ : MV → Bool) {l : List MV} (hc : chk m) (h : ∀ d ∈ l, t (ρ.set i (some d)) m = .ok (ψ d) m ∧ (ψ d = true → e (ρ.set i (some d)) m = .ok (φ d) m)) (hl : l.length ≤ 1000) (q : Q ((l.filter ψ).map φ) m) :
    W (lcM chk (ngName i) t e ρ l [] m) Q E := by
  rw [lc_pure φ ψ l [] hc h (by simpa using hl)]
  simpa using q
theorem filter_all {l : List MV} : l.filter (fun _ => true) = l := by simp
/-- a for loop over any target -/
theorem W_loopG {chk : Mem → Prop} {g : MG} {body : MS} {Q : Fl → Mem → Prop} (I : List MV → Env → Mem → Prop) : ∀ (l : List MV) (ρ : Env) (m : Mem), I l ρ m → (∀ l ρ m, I l ρ m → chk m) →
    (∀ d l ρ m, I (d :: l) ρ m → ∃ ρ1, g d ρ m = .ok ρ1 m ∧ W (body ρ1 m) (fun a m => match a with | .nx ρ' => I l ρ' m | .ct ρ' => I l ρ' m | .bk ρ' => Q (.nx ρ') m | a => Q a m) E) → (∀ ρ m, I [] ρ m → Q (.nx ρ) m) → W (loopM chk g body l ρ m) Q E
  | [], ρ, m, h, hc, _, hd => by
    unfold loopM
    rw [if_pos (hc _ _ _ h)]
    exact hd _ _ h
  | d :: l, ρ, m, h, hc, hs, hd => by
    unfold loopM
    rw [if_pos (hc _ _ _ h)]
    obtain ⟨ρ1, e1, q⟩ := hs d l ρ m h
    rw [e1]
    dsimp only
    cases hb : body ρ1 m with
    | stuck => rw [hb] at q; exact q
    | ex x m' => rw [hb] at q; exact q
    | ok a m' =>
      rw [hb] at q
      cases a with
      | nx ρ' => exact W_loopG I l ρ' m' q hc hs hd
      | ct ρ' => exact W_loopG I l ρ' m' q hc hs hd
      | bk ρ' => exact q
      | rt d => exact q
      | ex x ρ' => exact q
@[simp] theorem W_inK {tbl : List (Str × MV)} {f : ME} {ρ : Env} {Q : MV → Mem → Prop} : W (mInK tbl f ρ m) Q E = W (f ρ m) (fun d m => match d with | .str z => Q (.bl (tbl.lookup z).isSome) m | _ => False) E := by
  unfold mInK
  rw [W_bind]
  congr 1
  funext d m
  cases d <;> rfl
@[simp] theorem W_itemK {tbl : List (Str × MV)} {f : ME} {ρ : Env} {Q : MV → Mem → Prop} : W (mItemK tbl f ρ m) Q E = W (f ρ m) (fun d m => match d with | .str z => (match tbl.lookup z with | some c => Q c m | none => False) | _ => False) E := by
  unfold mItemK
  rw [W_bind]
  congr 1
  funext d m
  cases d with
  | str z => dsimp only; cases tbl.lookup z <;> rfl
  | _ => rfl
/-- a while loop: I n, n the turns that may be left -/
theorem W_while {c : MT} {f : MS} {Q : Fl → Mem → Prop} (I : Nat → Env → Mem → Prop) (hs : ∀ n ρ m, I n ρ m → W (c ρ m) (fun b m1 => if b = true then ∃ n', n = n' + 1 ∧ W (f ρ m1) (fun a m2 => match a with | .nx ρ' => ∃ j, j ≤ n' ∧ I j ρ' m2 | .ct ρ' => ∃ j, j ≤ n' ∧ I j ρ' m2 | .bk ρ' => Q (.nx ρ') m2 | a => Q a m2) E else Q (.nx ρ) m1) E0) :
    ∀ (fuel n : Nat) (ρ : Env) (m : Mem), I n ρ m → n < fuel → W (whileM c f fuel ρ m) Q E
  | 0, n, ρ, m, _, hl => by omega
  | fuel + 1, n, ρ, m, h, hl => by
    have q := hs n ρ m h
    show W (onE ρ (c ρ m) fun b m1 => if b = true then (match f ρ m1 with
      | .ok (.nx ρ2) m2 => whileM c f fuel ρ2 m2
      | .ok (.ct ρ2) m2 => whileM c f fuel ρ2 m2
      | .ok (.bk ρ2) m2 => .ok (.nx ρ2) m2
      | q => q) else .ok (.nx ρ) m1) Q E
    cases hc : c ρ m with
    | stuck => rw [hc] at q; exact q.elim
    | ex x m1 => rw [hc] at q; exact q.elim
    | ok b m1 =>
      rw [hc] at q
      have q : if b = true then ∃ n', n = n' + 1 ∧ W (f ρ m1) (fun a m2 => match a with | .nx ρ' => ∃ j, j ≤ n' ∧ I j ρ' m2 | .ct ρ' => ∃ j, j ≤ n' ∧ I j ρ' m2 | .bk ρ' => Q (.nx ρ') m2 | a => Q a m2) E else Q (.nx ρ) m1 := q
      show W (if b = true then (match f ρ m1 with
        | .ok (.nx ρ2) m2 => whileM c f fuel ρ2 m2
        | .ok (.ct ρ2) m2 => whileM c f fuel ρ2 m2
        | .ok (.bk ρ2) m2 => .ok (.nx ρ2) m2
        | q => q) else .ok (.nx ρ) m1) Q E
      cases b with
      | false => exact q
      | true =>
        obtain ⟨n', en, q2⟩ := (show ∃ n', n = n' + 1 ∧ W (f ρ m1) (fun a m2 => match a with | .nx ρ' => ∃ j, j ≤ n' ∧ I j ρ' m2 | .ct ρ' => ∃ j, j ≤ n' ∧ I j ρ' m2 | .bk ρ' => Q (.nx ρ') m2 | a => Q a m2) E from q)
        rw [if_pos rfl]
        cases hf : f ρ m1 with
        | stuck => rw [hf] at q2; exact q2
        | ex x m2 => rw [hf] at q2; exact q2
        | ok a m2 =>
          rw [hf] at q2
          cases a with
          | nx ρ' => obtain ⟨j, hj, q⟩ := q2; exact W_while I hs fuel j ρ' m2 q (by omega)
          | ct ρ' => obtain ⟨j, hj, q⟩ := q2; exact W_while I hs fuel j ρ' m2 q (by omega)
          | bk ρ' => exact q2
          | rt d => exact q2
          | ex x ρ' => exact q2
end
end MI
namespace MI
open PySem L2
/-! ### data: values with no object in them, and no truth -/
mutual
def pu : MV → Bool
  | .non => true
  | .int _ => true
  | .str s => PyData.strOk s
  | .tup l => pus l
  | _ => false
def pus : List MV → Bool
  | [] => true
  | d :: l => pu d && pus l
end
mutual
def pd : MV → PyData
  | .non => .none
  | .int i => .int i
  | .str s => .str s
  | .tup l => .tuple (pds l)
  | _ => .none
def pds : List MV → List PyData
  | [] => []
  | d :: l => pd d :: pds l
end
mutual
/-- the fuel that it takes -/
def fl : MV → Nat
  | .tup l => 1 + fls l
  | _ => 0
def fls : List MV → Nat
  | [] => 0
  | d :: l => 1 + max (fl d) (fls l)
end
mutual
/-- how deep it is -/
def dp : MV → Nat
  | .tup l => dps l + 1
  | _ => 0
def dps : List MV → Nat
  | [] => 0
  | d :: l => max (dp d) (dps l)
end
mutual
theorem dat_pu (m : Mem) : ∀ (d : MV) (n : Nat), pu d = true → fl d ≤ n → dat m n d = some (pd d)
  | .non, n, _, _ => by unfold dat; rfl
  | .int _, n, _, _ => by unfold dat; rfl
  | .str _, n, _, _ => by unfold dat; rfl
  | .bl _, _, h, _ => by simp [pu] at h
  | .ref _, _, h, _ => by simp [pu] at h
  | .kl _, _, h, _ => by simp [pu] at h
  | .tup l, 0, _, h => by simp [fl] at h
  | .tup l, n + 1, h, hn => by
    unfold dat
    rw [dats_pu m l n (by simpa [pu] using h) (by simp [fl] at hn; omega)]
    rfl
theorem dats_pu (m : Mem) : ∀ (l : List MV) (n : Nat), pus l = true → fls l ≤ n → dats m n l = some (pds l)
  | [], n, _, _ => by unfold dats; rfl
  | d :: l, 0, _, h => by simp [fls] at h
  | d :: l, n + 1, h, hn => by
    simp [pus] at h
    simp [fls] at hn
    unfold dats
    rw [dat_pu m d n h.1 (by omega), dats_pu m l n h.2 (by omega)]
    rfl
end
mutual
theorem lay_pu : ∀ (d : MV), pu d = true → (pd d).canLay0 = true
  | .non, _ => rfl
  | .int _, _ => rfl
  | .str s, h => by simpa [pd, PyData.canLay0, pu] using h
  | .bl _, h => by simp [pu] at h
  | .ref _, h => by simp [pu] at h
  | .kl _, h => by simp [pu] at h
  | .tup l, h => by
    have := lays_pu l (by simpa [pu] using h)
    simpa [pd, PyData.canLay0] using this
theorem lays_pu : ∀ (l : List MV), pus l = true → PyData.canLayAll0 (pds l) = true
  | [], _ => rfl
  | d :: l, h => by
    simp [pus] at h
    simp [pds, PyData.canLayAll0, lay_pu d h.1, lays_pu l h.2]
end
mutual
theorem depth_pu : ∀ (d : MV), (pd d).depth = dp d
  | .non => by simp [pd, PyData.depth, dp]
  | .int _ => by simp [pd, PyData.depth, dp]
  | .str s => by simp [pd, PyData.depth, dp]
  | .bl _ => by simp [pd, PyData.depth, dp]
  | .ref _ => by simp [pd, PyData.depth, dp]
  | .kl _ => by simp [pd, PyData.depth, dp]
  | .tup l => by simp [pd, PyData.depth, dp, depths_pu l]
theorem depths_pu : ∀ (l : List MV), PyData.depthAll (pds l) = dps l
  | [] => by simp [pds, PyData.depthAll, dps]
  | d :: l => by simp [pds, PyData.depthAll, dps, depth_pu d, depths_pu l]
end
mutual
theorem eqv_pu : ∀ (a b : MV), pu a = true → pu b = true → (PyData.eqv (pd a) (pd b) = true ↔ a = b)
  | .bl _, _, h, _ => by simp [pu] at h
  | .ref _, _, h, _ => by simp [pu] at h
  | .kl _, _, h, _ => by simp [pu] at h
  | .non, b, _, h => by cases b <;> simp_all [pd, PyData.eqv, pu]
  | .int _, b, _, h => by cases b <;> simp_all [pd, PyData.eqv, pu]
  | .str _, b, _, h => by cases b <;> simp_all [pd, PyData.eqv, pu]
  | .tup l, b, h1, h => by
    cases b with
    | tup k =>
      have := eqvs_pu l k (by simpa [pu] using h1) (by simpa [pu] using h)
      simpa [pd, PyData.eqv] using this
    | _ => simp_all [pd, PyData.eqv, pu]
theorem eqvs_pu : ∀ (a b : List MV), pus a = true → pus b = true → (PyData.eqvAll (pds a) (pds b) = true ↔ a = b)
  | [], [], _, _ => by simp [pds, PyData.eqvAll]
  | [], _ :: _, _, _ => by simp [pds, PyData.eqvAll]
  | _ :: _, [], _, _ => by simp [pds, PyData.eqvAll]
  | a :: l, b :: k, h1, h2 => by
    simp [pus] at h1 h2
    simp [pds, PyData.eqvAll, eqv_pu a b h1.1 h2.1, eqvs_pu l k h1.2 h2.2]
end
theorem shaped_pu {d : MV} (h : pu d = true) (hd : dp d ≤ 64) : SeqAt.shaped (pd d) = true := by
  unfold SeqAt.shaped
  rw [lay_pu d h, depth_pu]
  simp [hd]
theorem shaped_pus {l : List MV} (h : pus l = true) (hd : dps l ≤ 63) : SeqAt.shaped (.list (pds l)) = true := by
  unfold SeqAt.shaped
  simp only [PyData.canLay0, PyData.depth, lays_pu l h, depths_pu]
  simp
  omega
/-- data that == can look at -/
structure Da (d : MV) : Prop where
  pu : MI.pu d = true
  fl : MI.fl d ≤ 1900
  dp : MI.dp d ≤ 60
structure Das (l : List MV) : Prop where
  pu : MI.pus l = true
  fl : MI.fls l ≤ 1900
  dp : MI.dps l ≤ 60
section
variable {m : Mem} {E : Exn → Mem → Prop} {Q : MV → Mem → Prop}
theorem eqS_pu {a b : MV} {k : Bool} (ha : pu a = true) (h : eqS a b = some k) : (k = true ↔ a = b) := by
  cases a <;> cases b <;> simp [eqS] at h <;> first | (subst h; simp) | (simp [pu] at ha) 
theorem gEqA_pu {a b : MV} {neg : Bool} (ha : Da a) (hb : Da b) : ∃ k : Bool, (k = true ↔ a = b) ∧ gEqA neg a b m = .ok (.bl (if neg = true then !k else k)) m := by
  unfold gEqA
  cases h : eqS a b with
  | some k =>
    refine ⟨k, eqS_pu ha.pu h, ?_⟩
    dsimp only
    unfold gEqS
    rw [h]
  | none =>
    dsimp only
    unfold gEq
    rw [dat_pu m a fuel ha.pu (Nat.le_trans ha.fl (by decide)), dat_pu m b fuel hb.pu (Nat.le_trans hb.fl (by decide))]
    dsimp only
    rw [if_pos ⟨shaped_pu ha.pu (by have := ha.dp; omega), shaped_pu hb.pu (by have := hb.dp; omega)⟩]
    exact ⟨_, eqv_pu a b ha.pu hb.pu, rfl⟩
theorem W_eqD {a b : MV} {neg : Bool} (ha : Da a) (hb : Da b) (q : ∀ k : Bool, (k = true ↔ a = b) → Q (.bl (if neg = true then !k else k)) m) : W (gEqA neg a b m) Q E := by
  obtain ⟨k, h1, h2⟩ := gEqA_pu (m := m) (neg := neg) ha hb
  rw [h2]
  exact q k h1
theorem dat_l {n : Nat} {l : List MV} (h : m[n]? = some (.lst l)) (hl : Das l) : dat m fuel (.ref n) = some (.list (pds l)) := by
  show dat m (1999 + 1) (.ref n) = _
  unfold dat
  rw [(show lstOf m (.ref n) = some l by simp [h])]
  dsimp only
  rw [dats_pu m l 1999 hl.pu (Nat.le_trans hl.fl (by decide))]
  rfl
theorem W_eqL {a b : Nat} {l k : List MV} {neg : Bool} (ha : m[a]? = some (.lst l)) (hb : m[b]? = some (.lst k)) (da : Das l) (db : Das k) (q : ∀ z : Bool, (z = true ↔ l = k) → Q (.bl (if neg = true then !z else z)) m) : W (gEqA neg (.ref a) (.ref b) m) Q E := by
  unfold gEqA
  show W (gEq neg (.ref a) (.ref b) m) Q E
  unfold gEq
  rw [dat_l ha da, dat_l hb db]
  dsimp only
  rw [if_pos ⟨shaped_pus da.pu (by have := da.dp; omega), shaped_pus db.pu (by have := db.dp; omega)⟩]
  refine q _ ?_
  show (PyData.eqv (.list _) (.list _) = true ↔ _)
  simp only [PyData.eqv]
  exact eqvs_pu l k da.pu db.pu
theorem any_pds {l : List MV} {d : MV} (hl : pus l = true) (hd : pu d = true) : ((pds l).any (fun z => PyData.eqv z (pd d)) = true ↔ d ∈ l) := by
  induction l with
  | nil => simp [pds]
  | cons x r ih =>
    simp [pus] at hl
    have h1 := eqv_pu x d hl.1 hd
    simp [pds, h1] at *
    rw [ih hl.2, eq_comm]
theorem W_inD {d : MV} {n : Nat} {l : List MV} {neg : Bool} (hn : m[n]? = some (.lst l)) (hl : Das l) (hd : Da d) (nf : flat d = false) (q : ∀ z : Bool, (z = true ↔ d ∈ l) → Q (.bl (if neg = true then !z else z)) m) : W (gInA neg d (.ref n) m) Q E := by
  unfold gInA
  rw [if_neg (by rintro ⟨z, hz⟩; cases hz), if_neg (by simp [hn]), if_neg (by rintro ⟨z, _, hz, _⟩; rw [nf] at hz; cases hz)]
  unfold gInD
  rw [dat_pu m d fuel hd.pu (Nat.le_trans hd.fl (by decide)), dat_l hn hl]
  dsimp only
  rw [if_pos ⟨shaped_pu hd.pu (by have := hd.dp; omega), shaped_pus hl.pu (by have := hl.dp; omega)⟩]
  exact q _ (any_pds hl.pu hd.pu)
end
section
variable {m : Mem} {E : Exn → Mem → Prop} {Q : MV → Mem → Prop}
@[simp] theorem W_sl_r {n : Nat} {lo hi : Option Int} : W (gSl (.ref n) lo hi m) Q E = match lstOf m (.ref n) with | some l => Q (.ref m.length) (m ++ [.lst (cutM l lo hi)]) | none => False := by
  show W (match lstOf m (.ref n) with | some l => alloc (.lst (cutM l lo hi)) m | none => .stuck) Q E = _
  cases lstOf m (.ref n) <;> rfl
@[simp] theorem W_zip {a b : MV} : W (gZip [a, b] m) Q E = match lstOf m a, lstOf m b with | some l, some k => Q (.tup ((l.zip k).map fun p => .tup [p.1, p.2])) m | _, _ => False := by
  show W (match lstOf m a, lstOf m b with | some l, some k => .ok (.tup ((l.zip k).map fun p => .tup [p.1, p.2])) m | _, _ => .stuck) Q E = _
  cases lstOf m a <;> cases lstOf m b <;> rfl
end
end MI
namespace MI
open PySem L2
section
variable {m : Mem} {E : Exn → Mem → Prop} {Q : MV → Mem → Prop} {ρ : Env}
@[simp] theorem W_max {d : MV} : W (gMax [d] m) Q E = match ((lstOf m d).bind intsOf).bind maxL with | some k => Q (.int k) m | none => False := by
  show W (match ((lstOf m d).bind intsOf).bind maxL with | some k => .ok (.int k) m | none => .stuck) Q E = _
  cases ((lstOf m d).bind intsOf).bind maxL <;> rfl
@[simp] theorem W_sum {d : MV} : W (gSum [d] m) Q E = match (lstOf m d).bind intsOf with | some ns => Q (.int ns.sum) m | none => False := by
  show W (match (lstOf m d).bind intsOf with | some ns => .ok (.int ns.sum) m | none => .stuck) Q E = _
  cases (lstOf m d).bind intsOf <;> rfl
@[simp] theorem W_sortS {d : MV} : W (gSortS [d] m) Q E = match (lstOf m d).bind strsOf with | some xs => xs.length < 64 ∧ Q (.ref m.length) (m ++ [.lst ((sortM xs).map .str)]) | none => False := by
  show W (match (lstOf m d).bind strsOf with | some xs => (if xs.length < 64 then alloc (.lst ((sortM xs).map .str)) m else .stuck) | none => .stuck) Q E = _
  cases (lstOf m d).bind strsOf with
  | none => rfl
  | some xs => by_cases h : xs.length < 64 <;> simp [h, alloc]
theorem strs_map : ∀ ns : List Str, strsOf (ns.map .str) = some ns
  | [] => rfl
  | s :: r => by simp [strsOf, strs_map r]
theorem ints_map : ∀ ns : List Int, intsOf (ns.map .int) = some ns
  | [] => rfl
  | s :: r => by simp [intsOf, ints_map r]
@[simp] theorem W_isx {P : Str → Option Bool} {f : ME} : W (mIsx P f ρ m) Q E = W (f ρ m) (fun d m => match isxV P m d with | some b => Q (.bl b) m | none => False) E := by
  unfold mIsx
  rw [W_bind]
  congr 1
  funext d m
  cases isxV P m d <;> rfl
@[simp] theorem W_cnt {d e : MV} : W (gCnt d [e] m) Q E = match (lstOf m d).bind fVs, fV e with | some us, some u => Q (.int ((us.countP fun z => eqV z u : Nat) : Int)) m | _, _ => False := by
  show W (match (lstOf m d).bind fVs, fV e with | some us, some u => .ok (.int ((us.countP fun z => eqV z u : Nat) : Int)) m | _, _ => .stuck) Q E = _
  cases (lstOf m d).bind fVs <;> cases fV e <;> rfl
@[simp] theorem W_idx {d e : MV} : W (gIdx d [e] m) Q E = match (lstOf m d).bind fVs, fV e with | some us, some u => (match us.findIdx? fun z => eqV z u with | some j => Q (.int (j : Nat)) m | none => False) | _, _ => False := by
  show W (match (lstOf m d).bind fVs, fV e with | some us, some u => (match us.findIdx? fun z => eqV z u with | some j => .ok (.int (j : Nat)) m | none => .stuck) | _, _ => .stuck) Q E = _
  cases (lstOf m d).bind fVs with
  | none => rfl
  | some us => cases fV e with
    | none => rfl
    | some u => dsimp only; cases us.findIdx? fun z => eqV z u <;> rfl
@[simp] theorem W_eqE {a b : MV} : W (gEqE a b m) Q E = match lstOf m a, lstOf m b with | some l, some [] => Q (.bl l.isEmpty) m | _, _ => False := by
  unfold gEqE
  cases lstOf m a with
  | none => rfl
  | some l => cases lstOf m b with
    | none => rfl
    | some k => cases k <;> rfl
theorem inV_str {s : Str} : ∀ {ns : List Str}, (inV (toV (.str s)) ((ns.map MV.str).map toV) = true ↔ s ∈ ns)
  | [] => ⟨(fun h => by cases h), (fun h => by cases h)⟩
  | x :: r => by
    have ih := inV_str (s := s) (ns := r)
    show (((x == s) || inV (toV (.str s)) ((r.map MV.str).map toV)) = true ↔ _)
    rw [Bool.or_eq_true, ih, List.mem_cons, beq_iff_eq, eq_comm]
theorem W_inStr {s : Str} {n : Nat} {ns : List Str} {neg : Bool} (hn : m[n]? = some (.lst (ns.map .str))) (q : ∀ z : Bool, (z = true ↔ s ∈ ns) → Q (.bl (if neg = true then !z else z)) m) : W (gInA neg (.str s) (.ref n) m) Q E := by
  unfold gInA
  have hf : (ns.map MV.str).all MI.flat = true := by simp [MI.flat]
  rw [if_neg (by rintro ⟨z, hz⟩; cases hz), if_neg (by simp [hn]), if_pos ⟨ns.map .str, by simp [hn], rfl, hf⟩]
  unfold gInF
  rw [(show seqOf m (.ref n) = some (ns.map .str) by simp [hn])]
  dsimp only
  rw [if_pos ⟨rfl, hf⟩]
  exact q _ inV_str
section
variable {Q : Fl → Mem → Prop}
@[simp] theorem W_tryK {P : Str → Option Bool} {i j : Nat} {f : MS} : W (mTryK P i j f ρ m) Q E = W (f ρ m) (fun a m' => match a with
    | .ex x ρ' => (match P x.cls with
      | some true => Q (.nx (((ρ'.set i (some (.ref m'.length))).set j (some (.ref m'.length))).set i none)) (m' ++ [.exn x])
      | some false => Q (.ex x ρ') m'
      | none => False)
    | a => Q a m') E := by
  unfold mTryK
  cases f ρ m with
  | stuck => rfl
  | ex x m => rfl
  | ok a m =>
    cases a with
    | ex x ρ' =>
      dsimp only [W_ok]
      cases P x.cls with
      | none => rfl
      | some b => cases b <;> rfl
    | _ => rfl
@[simp] theorem W_tryF {P : Str → Option Bool} {y : Str} {f : MS} : W (mTryF P y f ρ m) Q E = W (f ρ m) (fun a m' => match a with
    | .ex x ρ' => (match P x.cls with
      | some true => Q (.ex ⟨y⟩ ρ') m'
      | some false => Q (.ex x ρ') m'
      | none => False)
    | a => Q a m') E := by
  unfold mTryF
  cases f ρ m with
  | stuck => rfl
  | ex x m => rfl
  | ok a m =>
    cases a with
    | ex x ρ' =>
      dsimp only [W_ok]
      cases P x.cls with
      | none => rfl
      | some b => cases b <;> rfl
    | _ => rfl
end
/-- a comprehension that changes nothing, at any memory, with what its function and test are said of each -/
theorem W_pureN {chk : Mem → Prop} {i : Nat} {t : MT} {e : ME} {Q : List MV → Mem → Prop} (φ : MV → MV) (ψ : MV → Bool) {l : List MV} (hc : chk m) (h : ∀ d ∈ l, t (ρ.set i (some d)) m = .ok (ψ d) m ∧ (ψ d = true → e (ρ.set i (some d)) m = .ok (φ d) m)) (hl : l.length ≤ 1000) (q : ∀ k, k = (l.filter ψ).map φ → Q k m) :
    W (lcM chk (ngName i) t e ρ l [] m) Q E := W_pure φ ψ hc h hl (q _ rfl)
end
theorem gItem_t {m : Mem} {l : List MV} {i : Int} : gItem (.tup l) (.int i) m = match atM l i with | some e => .ok e m | none => .stuck := rfl
theorem gEqA_s {m : Mem} {a b : Str} {neg : Bool} : gEqA neg (.str a) (.str b) m = .ok (.bl (if neg = true then !decide (a = b) else decide (a = b))) m := by
  unfold gEqA gEqS
  simp [eqS]
theorem gItem_l {m : Mem} {n : Nat} {l : List MV} {i : Int} (h : m[n]? = some (.lst l)) : gItem (.ref n) (.int i) m = match atM l i with | some e => .ok e m | none => .stuck := by
  unfold gItem gDGet gIx
  simp only [dctOf_ref, seqOf_ref, h]
  all_goals (cases h2 : atM l i <;> simp [h2])
theorem gAdd_i {m : Mem} {i j : Int} : gAdd (.int i) (.int j) m = .ok (.int (i + j)) m := rfl
end MI
namespace MI
open PySem L2
section
variable {X : Cx} {W : WX} {pos : Pos} {K : PySem.W.Frag} {β : List Addr} {H : Hp} {m : Mem}
/-! ### what no run comes to -/
def mStuck : MS := fun _ _ => .stuck
theorem jb_stuck {st : List Stmt} : JB X W st mStuck := ⟨⟨fun pins s σ H D I h => by obtain ⟨_, _, _, _, _, p⟩ := h; exact p.elim⟩⟩
/-! ### a display of written keys and values -/
structure JPs (X : Cx) (pos : Pos) (keys : List (Option Expr)) (vals : List Expr) (tbl : List (Key × MV)) : Prop where
  ex : ∃ trs, PPs X pos keys vals trs ∧ ∀ σ H (Q : List (V × V) → Hp → Prop), Q (tbl.map fun p => (kV p.1, toV p.2)) H → tPairs trs σ H Q
  fl : tbl.all (fun p => MI.flat p.2) = true
  l1 : keys.length = tbl.length
  l2 : vals.length = tbl.length
  so : keys.all (·.isSome) = true
theorem jps_nil : JPs X pos [] [] [] := ⟨⟨[], pps_nil, fun _ _ _ h => h⟩, rfl, rfl, rfl, rfl⟩
theorem jps_cons {k v : Expr} {q : Key} {d : MV} {ks : List (Option Expr)} {vs : List Expr} {tbl : List (Key × MV)} (hk : PE X k (tC (kV q))) (hv : PE X v (tC (toV d))) (hf : MI.flat d = true) (h : JPs X pos ks vs tbl) : JPs X pos (some k :: ks) (v :: vs) ((q, d) :: tbl) := by
  obtain ⟨⟨trs, a, b⟩, f, l1, l2, so⟩ := h
  exact ⟨⟨_, pps_cons hk hv a, fun σ H Q z => b σ H _ z⟩, by simp [hf, f], by simp [l1], by simp [l2], by simpa using so⟩
theorem flat_RV {d : MV} (h : MI.flat d = true) : RV K β H d (toV d) := by
  cases d with
  | non => exact .non
  | bl b => exact .bl b
  | int i => exact .int i
  | str s => exact .str s
  | tup _ => cases h
  | ref _ => cases h
  | kl _ => cases h
def foldM (tbl acc : List (Key × MV)) : List (Key × MV) := tbl.foldl (fun acc kv => putM acc kv.1 kv.2) acc
theorem RKs.merge : ∀ {tbl acc : List (Key × MV)} {vs : List (Key × V)}, tbl.all (fun p => MI.flat p.2) = true → RKs K β H acc vs → RKs K β H (foldM tbl acc) (mergeK vs (tbl.map fun p => (p.1, toV p.2)))
  | [], _, _, _, h => h
  | p :: r, acc, vs, f, h => by
    simp only [List.all_cons, Bool.and_eq_true] at f
    exact RKs.merge (tbl := r) f.2 (h.put (flat_RV f.1))
def mDisp (tbl : List (Key × MV)) : ME := fun _ m => alloc (.dct (foldM tbl [])) m
theorem je_disp {keys : List (Option Expr)} {vals : List Expr} {tbl : List (Key × MV)} (h : JPs X pos keys vals tbl) (h0 : keys ≠ []) (h15 : keys.length ≤ 15) : JE X W (.Dict keys vals pos) (mDisp tbl) := by
  obtain ⟨⟨trs, a, b⟩, f, l1, l2, so⟩ := h
  refine ⟨pe_imp (pe_disp a so (l1.trans l2.symm) h0 h15) fun σ H Q ⟨ρ, m, β, hE, hM, p⟩ => fun q hq => b σ _ _ ⟨upd_same, tbl.map fun p => (p.1, toV p.2), by rw [List.map_map]; rfl, by rw [List.length_map, ← l1]; exact h15, ?_⟩⟩
  have e : upd (upd H q (.dK [])) q (.dK (mergeK [] (tbl.map fun p => (p.1, toV p.2)))) = upd H q (.dK (mergeK [] (tbl.map fun p => (p.1, toV p.2)))) := by
    funext z
    by_cases hz : z = q
    · subst hz; rw [upd_same, upd_same]
    · rw [upd_ne hz, upd_ne hz, upd_ne hz]
  rw [e]
  exact p.alloc hM hq ⟨_, upd_same, RKs.merge f .nil⟩
/-! ### d.get(k, x), d.get(k) -/
def gGet (d k x : MV) (m : Mem) : Re MV := match dctOf m d, keyOf k with
  | some (_, l), some q => .ok ((valM l q).getD x) m
  | _, _ => .stuck
def mGet2 (fd fy fx : ME) : ME := fun ρ m => (fd ρ m).bind fun d m1 => if (dctOf m1 d).isSome = true then (fy ρ m1).bind fun y m2 => (fx ρ m2).bind fun x m3 => gGet d y x m3 else .stuck
def mGet1 (fd fy : ME) : ME := fun ρ m => (fd ρ m).bind fun d m1 => if (dctOf m1 d).isSome = true then (fy ρ m1).bind fun y m2 => gGet d y .non m2 else .stuck
theorem je_get2 {o e f : Expr} {apos : Pos} {fd fy fx : ME} (hu : X.A.units + 1 < cLine) (ho : JE X W o fd) (he : JE X W e fy) (hf : JE X W f fx) (h1 : attributeBase o "get" X.env (eval o X.env) = eval o X.env := by rfl)
    (h2 : ((backTo pos (starEach [e, f] X.env)).all (fun x => !x.1) && (backToKw pos (keywordEach [] X.env)).all (fun x => x.1.isSome)
    && decide (([e, f] : List Expr).length + ([] : List Keyword).length + (if ([] : List Keyword).isEmpty then 0 else 1) < 30)) = true := by rfl) (h3 : (apos.endLine == pos.line) = true := by rfl) (h4 : backTo pos (starEach [e, f] X.env) = [(false, eval e X.env), (false, eval f X.env)] := by rfl) :
    JE X W (.Call (.Attribute o "get" apos) [e, f] [] pos) (mGet2 fd fy fx) :=
  ⟨pe_imp (pe_dget2 hu ho.run he.run hf.run ⟨h1, h2, h3, h4⟩) fun σ H Q ⟨ρ, m, β, hE, hM, p⟩ => ⟨ρ, m, β, hE, hM, p.bind fun d m1 x H1 β1 _ e1 M1 V1 p1 => by
    split at p1
    · rename_i q
      obtain ⟨⟨n, l⟩, hl⟩ := Option.isSome_iff_exists.mp q
      obtain ⟨a, vs, rfl, hb, hH, hr⟩ := M1.dct V1 hl
      refine ⟨a, rfl, .inl ⟨vs, .inl hH⟩, ⟨ρ, m1, β1, hE.ext hM e1, M1, p1.bind fun d2 m2 y H2 β2 _ e2 M2 V2 p2 => ⟨ρ, m2, β2, (hE.ext hM e1).ext M1 e2, M2, p2.bind fun d3 m3 z H3 β3 _ e3 M3 V3 p3 => ?_⟩⟩⟩
      unfold gGet at p3
      split at p3
      · rename_i n' l' q' z1 z2
        obtain ⟨a', vs', ea, hb', hH', hr'⟩ := M3.dct ((V1.ext M1 e2).ext M2 e3) z1
        cases ea
        have hy := keyOf_some (V2.ext M2 e3) z2
        subst hy
        refine ⟨valV vs' q', .inl ⟨vs', q', .inl hH', rfl, rfl⟩, ?_⟩
        obtain ⟨w1, w2⟩ := hr'.val (k := q')
        cases hv : valM l' q' with
        | none => rw [hv] at p3; rw [w2 hv]; exact p3.ok M3 V3
        | some d4 =>
          rw [hv] at p3
          obtain ⟨v4, u1, u2⟩ := w1 d4 hv
          rw [u1]
          exact p3.ok M3 u2
      · exact p3.not_stuck
    · exact p1.not_stuck⟩⟩
theorem je_get1 {o e : Expr} {apos : Pos} {fd fy : ME} (hu : X.A.units + 1 < cLine) (ho : JE X W o fd) (he : JE X W e fy) (h1 : attributeBase o "get" X.env (eval o X.env) = eval o X.env := by rfl)
    (h2 : ((backTo pos (starEach [e] X.env)).all (fun x => !x.1) && (backToKw pos (keywordEach [] X.env)).all (fun x => x.1.isSome)
    && decide (([e] : List Expr).length + ([] : List Keyword).length + (if ([] : List Keyword).isEmpty then 0 else 1) < 30)) = true := by rfl) (h3 : (apos.endLine == pos.line) = true := by rfl) (h4 : backTo pos (starEach [e] X.env) = [(false, eval e X.env)] := by rfl) :
    JE X W (.Call (.Attribute o "get" apos) [e] [] pos) (mGet1 fd fy) :=
  ⟨pe_imp (pe_dget1 hu ho.run he.run ⟨h1, h2, h3, h4⟩) fun σ H Q ⟨ρ, m, β, hE, hM, p⟩ => ⟨ρ, m, β, hE, hM, p.bind fun d m1 x H1 β1 _ e1 M1 V1 p1 => by
    split at p1
    · rename_i q
      obtain ⟨⟨n, l⟩, hl⟩ := Option.isSome_iff_exists.mp q
      obtain ⟨a, vs, rfl, hb, hH, hr⟩ := M1.dct V1 hl
      refine ⟨a, rfl, .inl ⟨vs, .inl hH⟩, ⟨ρ, m1, β1, hE.ext hM e1, M1, p1.bind fun d2 m2 y H2 β2 _ e2 M2 V2 p3 => ?_⟩⟩
      unfold gGet at p3
      split at p3
      · rename_i n' l' q' z1 z2
        obtain ⟨a', vs', ea, hb', hH', hr'⟩ := M2.dct (V1.ext M1 e2) z1
        cases ea
        have hy := keyOf_some V2 z2
        subst hy
        refine ⟨valV vs' q', .inl ⟨vs', q', .inl hH', rfl, rfl⟩, ?_⟩
        obtain ⟨w1, w2⟩ := hr'.val (k := q')
        cases hv : valM l' q' with
        | none => rw [hv] at p3; rw [w2 hv]; exact p3.ok M2 .non
        | some d4 =>
          rw [hv] at p3
          obtain ⟨v4, u1, u2⟩ := w1 d4 hv
          rw [u1]
          exact p3.ok M2 u2
      · exact p3.not_stuck
    · exact p1.not_stuck⟩⟩
end
section
variable {m : Mem} {ρ : Env} {E : Exn → Mem → Prop} {Q : MV → Mem → Prop}
@[simp] theorem W_disp {tbl : List (Key × MV)} : MI.W (mDisp tbl ρ m) Q E = Q (.ref m.length) (m ++ [.dct (foldM tbl [])]) := rfl
@[simp] theorem W_gGet {d k x : MV} : MI.W (gGet d k x m) Q E = match dctOf m d, keyOf k with | some (_, l), some q => Q ((valM l q).getD x) m | _, _ => False := by
  unfold gGet
  cases dctOf m d with
  | none => rfl
  | some p => cases keyOf k <;> rfl
@[simp] theorem W_get2 {fd fy fx : ME} : MI.W (mGet2 fd fy fx ρ m) Q E = MI.W (fd ρ m) (fun d m => if (dctOf m d).isSome = true then MI.W (fy ρ m) (fun y m => MI.W (fx ρ m) (fun x m => MI.W (gGet d y x m) Q E) E) E else False) E := by
  unfold mGet2
  rw [W_bind]
  congr 1
  funext d m
  rw [W_ite]
  simp only [W_bind, W_stuck]
@[simp] theorem W_get1 {fd fy : ME} : MI.W (mGet1 fd fy ρ m) Q E = MI.W (fd ρ m) (fun d m => if (dctOf m d).isSome = true then MI.W (fy ρ m) (fun y m => MI.W (gGet d y .non m) Q E) E else False) E := by
  unfold mGet1
  rw [W_bind]
  congr 1
  funext d m
  rw [W_ite]
  simp only [W_bind, W_stuck]
@[simp] theorem W_mStuck {Q : Fl → Mem → Prop} : MI.W (mStuck ρ m) Q E = False := rfl
end
end MI
namespace MI
open PySem L2
section
variable {X : Cx} {W : WX} {pos : Pos} {K : PySem.W.Frag} {β : List Addr} {H : Hp} {m : Mem}
/-! ### data in a tuple -/
def rInT (K : PySem.W.Frag) (neg : Bool) : R2 := fun x y H Q => ∃ d ds, Dp K H x d ∧ Dp K H y (.tuple ds) ∧ SeqAt.shaped d = true ∧ SeqAt.shaped (.tuple ds) = true ∧ Q (.bl (if neg = true then !ds.any fun z => PyData.eqv z d else ds.any fun z => PyData.eqv z d)) H
theorem roomT {d : PyData} {ds : List PyData} {A : Around} (sd : SeqAt.shaped d = true) (hu : A.units + 65 < cLine) : A.units + 1 + min (PyData.depthAll ds) d.depth < cLine := by
  have h1 := SeqAt.depth_of_shaped sd
  have h2 : min (PyData.depthAll ds) d.depth ≤ d.depth := Nat.min_le_right _ _
  omega
theorem op_inT (hu : X.A.units + 65 < cLine) : OpR X (compareOp .In) (rInT X.K false) := by
  intro pins s σ H x y v u Q I rx ry h
  obtain ⟨d, ds, hd, he, sd, se, q⟩ := h
  obtain ⟨as, r1⟩ := Dp.reads I d x v hd rx
  obtain ⟨bs, r2⟩ := Dp.reads I (.tuple ds) y u he ry
  exact SeqAt.in_tuple_reads r2 r1 (by simpa [PyData.canLay0] using SeqAt.canLay_of_shaped se) (SeqAt.canLay_of_shaped sd) (roomT sd hu) ⟨.bl _, H, I, rfl, q⟩
theorem op_ninT (hu : X.A.units + 65 < cLine) : OpR X (compareOp .NotIn) (rInT X.K true) := by
  intro pins s σ H x y v u Q I rx ry h
  obtain ⟨d, ds, hd, he, sd, se, q⟩ := h
  obtain ⟨as, r1⟩ := Dp.reads I d x v hd rx
  obtain ⟨bs, r2⟩ := Dp.reads I (.tuple ds) y u he ry
  exact SeqAt.notIn_tuple_reads r2 r1 (by simpa [PyData.canLay0] using SeqAt.canLay_of_shaped se) (SeqAt.canLay_of_shaped sd) (roomT sd hu) ⟨.bl _, H, I, rfl, q⟩
def gInT (neg : Bool) (a b : MV) (m : Mem) : Re MV := match dat m fuel a, dat m fuel b with
  | some d, some (.tuple ds) => if SeqAt.shaped d = true ∧ SeqAt.shaped (.tuple ds) = true then .ok (.bl (if neg = true then !ds.any fun z => PyData.eqv z d else ds.any fun z => PyData.eqv z d)) m else .stuck
  | _, _ => .stuck
theorem om_inT {neg : Bool} : OpM X (rInT X.K neg) (gInT neg) := by
  intro W σ d e m β H x y Q M rx ry p
  unfold gInT at p
  split at p
  · rename_i a b e1 e2
    split at p
    · rename_i h
      exact ⟨a, b, M.dat1 rx e1, M.dat1 ry e2, h.1, h.2, p.ok M (.bl _)⟩
    · exact p.not_stuck
  · exact p.not_stuck
open Classical in
/-- x in a list, a dict, a text, a tuple -/
noncomputable def gInB (neg : Bool) (a b : MV) (m : Mem) : Re MV := if (∃ l, b = .tup l) ∧ flat a = false then gInT neg a b m else gInA neg a b m
theorem je_inB {a b : Expr} {fa fb : ME} (hu : X.A.units + 1 < cLine) (hu2 : X.A.units + 65 < cLine) (ha : JE X W a fa) (hb : JE X W b fb) (hk : behindInMarks .In b = false := by rfl) : JE X W (.Compare a [.In] [b] pos) (mBin (gInB false) fa fb) :=
  JE.or (j_cmp (op_inT hu2) om_inT ha hb hk) (je_in hu hu2 ha hb hk) (mBin_or fun a b m => by
    unfold gInB
    by_cases q : (∃ l, b = .tup l) ∧ flat a = false
    · exact .inl (if_pos q)
    · exact .inr (if_neg q))
theorem je_ninB {a b : Expr} {fa fb : ME} (hu : X.A.units + 1 < cLine) (hu2 : X.A.units + 65 < cLine) (ha : JE X W a fa) (hb : JE X W b fb) (hk : behindInMarks .NotIn b = false := by rfl) : JE X W (.Compare a [.NotIn] [b] pos) (mBin (gInB true) fa fb) :=
  JE.or (j_cmp (op_ninT hu2) om_inT ha hb hk) (je_nin hu hu2 ha hb hk) (mBin_or fun a b m => by
    unfold gInB
    by_cases q : (∃ l, b = .tup l) ∧ flat a = false
    · exact .inl (if_pos q)
    · exact .inr (if_neg q))
theorem jt_inB {a b : Expr} {fa fb : ME} (hu : X.A.units + 1 < cLine) (hu2 : X.A.units + 65 < cLine) (ha : JE X W a fa) (hb : JE X W b fb) (hk : behindInMarks .In b = false := by rfl) : JT X W (.Compare a [.In] [b] pos) (mB (mBin (gInB false) fa fb)) :=
  JT.or (jt_cmp (op_inT hu2) om_inT ha hb hk) (jt_in hu hu2 ha hb hk) (mB_or fun a b m => by
    unfold gInB
    by_cases q : (∃ l, b = .tup l) ∧ flat a = false
    · exact .inl (if_pos q)
    · exact .inr (if_neg q))
theorem jt_ninB {a b : Expr} {fa fb : ME} (hu : X.A.units + 1 < cLine) (hu2 : X.A.units + 65 < cLine) (ha : JE X W a fa) (hb : JE X W b fb) (hk : behindInMarks .NotIn b = false := by rfl) : JT X W (.Compare a [.NotIn] [b] pos) (mB (mBin (gInB true) fa fb)) :=
  JT.or (jt_cmp (op_ninT hu2) om_inT ha hb hk) (jt_nin hu hu2 ha hb hk) (mB_or fun a b m => by
    unfold gInB
    by_cases q : (∃ l, b = .tup l) ∧ flat a = false
    · exact .inl (if_pos q)
    · exact .inr (if_neg q))
end
section
variable {m : Mem} {E : Exn → Mem → Prop} {Q : MV → Mem → Prop}
@[simp] theorem gInB_ref {neg : Bool} {a : MV} {n : Nat} : gInB neg a (.ref n) m = gInA neg a (.ref n) m := by
  unfold gInB
  rw [if_neg (by rintro ⟨⟨l, h⟩, _⟩; cases h)]
@[simp] theorem gInB_str {neg : Bool} {a : MV} {z : Str} : gInB neg a (.str z) m = gInA neg a (.str z) m := by
  unfold gInB
  rw [if_neg (by rintro ⟨⟨l, h⟩, _⟩; cases h)]
@[simp] theorem gInB_s {neg : Bool} {s : Str} {b : MV} : gInB neg (.str s) b m = gInA neg (.str s) b m := by
  unfold gInB
  rw [if_neg (by rintro ⟨_, h⟩; cases h)]
end
end MI
namespace MI
open PySem L2
section
variable {X : Cx} {W : WX} {pos : Pos} {K : PySem.W.Frag} {β : List Addr} {H : Hp} {m : Mem}
/-! ### list of a dict: its keys -/
def keyM : Key → MV
  | .inl i => .int i
  | .inr s => .str s
theorem RKs.keys : ∀ {l : List (Key × MV)} {vs : List (Key × V)}, RKs K β H l vs → ∀ {β' : List Addr} {H' : Hp}, RVs K β' H' (l.map fun kv => keyM kv.1) (vs.map fun kv => kV kv.1)
  | _, _, .nil, _, _ => .nil
  | _, _, .cons (k := k) h r, _, _ => by
    refine .cons ?_ (RKs.keys r)
    cases k with
    | inl i => exact .int i
    | inr s => exact .str s
def gListA : List MV → Mem → Re MV
  | [d], m => match dctOf m d with
    | some (_, l) => alloc (.lst (l.map fun kv => keyM kv.1)) m
    | none => gList [d] m
  | _, _ => .stuck
abbrev rListA (K : PySem.W.Frag) : List V → Hp → VK → Prop := fun xs H Q => (∃ (a : Addr) (kvs : List (Key × V)), xs = [.ref a] ∧ Rd H a (.dK kvs) ∧ ∀ p, H p = none → Q (.ref p) (upd H p (.lst (kvs.map fun kv => kV kv.1)))) ∨ ∃ p ys, xs = [.ref p] ∧ (SqL K H p ys ∨ SqT K H p ys) ∧ ∀ l, H l = none → Q (.ref l) (upd H l (.lst ys))
theorem cr_listA (hc : X.calm = true) : CallR X (.type "list") (rListA X.K) := cr_or (call_listD hc) call_list_of
theorem cm_listA : CrM X (rListA X.K) gListA := by
  intro W σ ds m β H vs Q M V p
  unfold gListA at p
  split at p
  · rename_i d
    split at p
    · rename_i n l h
      cases V with
      | cons h1 r =>
        cases r
        obtain ⟨a, vs, rfl, hb, hH, hr⟩ := M.dct h1 h
        exact .inl ⟨a, vs, rfl, .inl hH, fun q hq => p.alloc M hq ⟨_, upd_same, hr.keys⟩⟩
    · exact .inr (cm_list W σ _ m β H vs Q M V p)
  · exact p.not_stuck
end
section
variable {m : Mem} {E : Exn → Mem → Prop} {Q : MV → Mem → Prop}
@[simp] theorem W_listA_t {l : List MV} : MI.W (gListA [.tup l] m) Q E = MI.W (gList [.tup l] m) Q E := rfl
@[simp] theorem W_listA_r {n : Nat} : MI.W (gListA [.ref n] m) Q E = match m[n]? with
    | some (.dct l) => Q (.ref m.length) (m ++ [.lst (l.map fun kv => keyM kv.1)])
    | _ => MI.W (gList [.ref n] m) Q E := by
  show MI.W (match dctOf m (.ref n) with
    | some (_, l) => alloc (.lst (l.map fun kv => keyM kv.1)) m
    | none => gList [.ref n] m) Q E = _
  simp only [dctOf_ref]
  cases m[n]? with
  | none => rfl
  | some o => cases o <;> rfl
end
end MI
namespace MI
open PySem L2
section
variable {X : Cx} {W : WX} {pos : Pos} {K : PySem.W.Frag} {β : List Addr} {H : Hp} {m : Mem}
/-! ### == with the empty tuple, whatever the other holds -/
def rEqT (K : PySem.W.Frag) : R2 := fun x y H Q => ∃ a b xs, x = .ref a ∧ y = .ref b ∧ SqT K H a xs ∧ SqT K H b [] ∧ Q (.bl xs.isEmpty) H
theorem op_eqT (hu : X.A.units < cLine) : OpR X (compareOp .Eq) (rEqT X.K) := by
  intro pins s σ H x y v u Q I rx ry h
  obtain ⟨a, b, xs, rfl, rfl, hx, hy, q⟩ := h
  cases rx
  cases ry
  obtain ⟨i1, r1, p1, _⟩ := I.tuple hx
  obtain ⟨i2, r2, p2, _⟩ := I.tuple hy
  have n1 := r1.length
  have n2 := r2.length
  have z2 : i2.toArray.size = 0 := by simp only [List.length_nil] at n2; rw [List.size_toArray]; exact n2.symm
  refine SeqAt.eq_tupleAt (e := fun _ => true) p1 p2 hu (fun j h1 h2 => by omega) ?_
  have e : ((List.range (min i1.toArray.size i2.toArray.size)).all (fun _ => true) && i1.toArray.size == i2.toArray.size) = xs.isEmpty := by
    rw [z2]
    rw [List.size_toArray, ← n1]
    cases xs <;> simp
  rw [e]
  exact ⟨.bl _, H, I, rfl, q⟩
def gEqT (a b : MV) (m : Mem) : Re MV := match a, b with
  | .tup l, .tup [] => .ok (.bl l.isEmpty) m
  | _, _ => .stuck
theorem om_eqT : OpM X (rEqT X.K) gEqT := by
  intro W σ d e m β H x y Q M rx ry p
  unfold gEqT at p
  split at p
  · rename_i l
    cases rx with
    | tup h1 h2 =>
      cases ry with
      | tup h3 h4 =>
        cases h4
        refine ⟨_, _, _, rfl, rfl, h1, h3, ?_⟩
        have : ∀ {l : List MV} {vs : List V}, RVs X.K β H l vs → vs.isEmpty = l.isEmpty := fun h => by cases h <;> rfl
        rw [this h2]
        exact p.ok M (.bl _)
  · exact p.not_stuck
end
section
variable {m : Mem} {E : Exn → Mem → Prop} {Q : MV → Mem → Prop}
@[simp] theorem W_eqT {l : List MV} : MI.W (gEqT (.tup l) (.tup []) m) Q E = Q (.bl l.isEmpty) m := rfl
end
end MI
namespace MI
open PySem L2
/-! ### own objects: attributes read and stored, an object made -/
/-- attribute f of the classes that P takes -/
structure FldN (K : PySem.W.Frag) (f : Str) (P : Str → Bool) : Prop where
  ex : ∀ (c : Str) (C : Addr), P c = true → ClsN K c C → Cls K C ∧ NoAttr K C f
def ownOf (m : Mem) : MV → Option (Nat × Str × List (Str × MV))
  | .ref n => match m[n]? with
    | some (.own c l) => some (n, c, l)
    | _ => none
  | _ => none
section
variable {K : PySem.W.Frag} {β : List Addr} {H : Hp} {m : Mem}
theorem RFs.look (f : Str) : ∀ {l : List (Str × MV)} {vs : List (Str × V)}, RFs K β H l vs → ∀ {d : MV}, l.lookup f = some d → ∃ v, vs.lookup f = some v ∧ RV K β H d v
  | _, _, .nil, _, h => by simp at h
  | _, _, @RFs.cons _ _ _ k d' v' ds vs h r, d, q => by
    rw [List.lookup_cons] at q ⊢
    cases hk : f == k with
    | true => rw [hk] at q; cases q; exact ⟨v', by simp, h⟩
    | false => rw [hk] at q; simpa using r.look f q
def putFM (f : Str) (v : MV) : List (Str × MV) → List (Str × MV)
  | [] => [(f, v)]
  | (g, x) :: r => if g = f then (g, v) :: r else (g, x) :: putFM f v r
theorem RFs.put (f : Str) {d : MV} {v : V} (h : RV K β H d v) : ∀ {l : List (Str × MV)} {vs : List (Str × V)}, RFs K β H l vs → RFs K β H (putFM f d l) (putF f v vs)
  | _, _, .nil => .cons h .nil
  | _, _, @RFs.cons _ _ _ k d' v' ds vs h' r => by
    unfold putFM putF
    split
    · exact .cons h r
    · exact .cons h' (r.put f h)
theorem RFs.len : ∀ {l : List (Str × MV)} {vs : List (Str × V)}, RFs K β H l vs → l.length = vs.length
  | _, _, .nil => rfl
  | _, _, .cons _ r => by simp [r.len]
theorem RM.own (R : RM K β H m) {d : MV} {v : V} {n : Nat} {c : Str} {l : List (Str × MV)} (r : RV K β H d v) (h : ownOf m d = some (n, c, l)) : ∃ a C dx vs, v = .ref a ∧ m[n]? = some (.own c l) ∧ β[n]? = some a ∧ ClsN K c C ∧ H a = some (.ins C dx vs) ∧ RFs K β H l vs := by
  cases r with
  | @ref n' a hb =>
    have h : (match m[n']? with | some (.own c l) => some (n', c, l) | _ => none) = some (n, c, l) := h
    split at h
    · rename_i c' l' e
      cases h
      obtain ⟨C, dx, vs, q1, q2, q3⟩ := R.ob n _ a e hb
      exact ⟨a, C, dx, vs, rfl, e, hb, q1, q2, q3⟩
    · cases h
  | _ => cases h
end
section
variable {X : Cx} {W : WX} {pos : Pos}
def gFld (P : Str → Bool) (f : Str) (d : MV) (m : Mem) : Re MV := match ownOf m d with
  | some (_, c, l) => if P c = true then (match l.lookup f with | some v => .ok v m | none => .stuck) else .stuck
  | none => .stuck
def mFld (P : Str → Bool) (f : Str) (g : ME) : ME := fun ρ m => (g ρ m).bind fun d m1 => gFld P f d m1
theorem je_fld {P : Str → Bool} {f : Str} {e : Expr} {g : ME} (h : JE X W e g) (T : FldN X.K f P) (hb : attributeBase e f X.env (eval e X.env) = eval e X.env := by rfl) : JE X W (.Attribute e f pos) (mFld P f g) :=
  ⟨pe_imp (pe_fld h.run hb) fun σ H Q ⟨ρ, m, β, hE, hM, p⟩ => ⟨ρ, m, β, hE, hM, p.bind fun d m1 x H1 β1 _ e1 M1 V1 p1 => by
    unfold gFld at p1
    split at p1
    · rename_i n c l ho
      obtain ⟨a, C, dx, vs, rfl, h1, h2, h3, h4, h5⟩ := M1.own V1 ho
      split at p1
      · rename_i hP
        split at p1
        · rename_i v hv
          obtain ⟨u, q1, q2⟩ := h5.look f hv
          obtain ⟨c1, c2⟩ := T.ex c C hP h3
          exact ⟨a, C, dx, vs, u, rfl, h4, c1, c2, q1, p1.ok M1 q2⟩
        · exact p1.not_stuck
      · exact p1.not_stuck
    · exact p1.not_stuck⟩⟩
def mFldS (P : Str → Bool) (f : Str) (fo fv : ME) : MS := fun ρ m => onE ρ (fv ρ m) fun y m1 => onE ρ (fo ρ m1) fun d m2 => match ownOf m2 d with
  | some (n, c, l) => if P c = true ∧ l.length < 1000 then .ok (.nx ρ) (m2.set n (.own c (putFM f y l))) else .stuck
  | none => .stuck
theorem js_fld {P : Str → Bool} {f : Str} {o value : Expr} {pos' : Pos} {fo fv : ME} (ho : JE X W o fo) (hv : JE X W value fv) (T : FldN X.K f P) (hs : swapsWith value (some (.Attribute o f pos')) pos.line X.env = pure false := by rfl) :
    JS X W (.Assign [.Attribute o f pos'] value pos) (mFldS P f fo fv) :=
  ⟨ps_imp (ps_fld ho.run hv.run hs) fun D σ H ⟨ρ, m, β, hE, hM, p⟩ => ⟨ρ, m, β, hE, hM,
    PostS.on (D := D) (R := fun β' H' d v => RV X.K β' H' d v) hE hM p fun y m1 v H1 β1 _ e M V q => ⟨ρ, m1, β1, hE.ext hM e, M,
      PostS.on (D := D) (R := fun β' H' d v => RV X.K β' H' d v) (hE.ext hM e) M q fun d m2 x H2 β2 _ e2 M2 V2 q2 => by
        split at q2
        · rename_i n c l hown
          obtain ⟨a, C, dx, vs, rfl, h1, h2, h3, h4, h5⟩ := M2.own V2 hown
          split at q2
          · rename_i hP
            obtain ⟨c1, c2⟩ := T.ex c C hP.1 h3
            refine ⟨a, C, dx, vs, rfl, h4, c1, c2, by rw [← h5.len]; exact hP.2, ?_⟩
            have eX : Ext β2 H2 β2 (upd H2 a (.ins C dx (putF f v vs))) := Ext.wr (List.mem_of_getElem? h2)
            have V' := V.ext M e2
            exact q2 σ _ β2 eX (M2.wr h2 ⟨C, dx, _, h3, upd_same, (h5.put f V').ext M2 eX⟩) (((hE.ext hM e).ext M e2).ext M2 eX)
          · exact q2.elim
        · exact q2.elim⟩⟩⟩
/-- a class of the module whose __init__ does F; n arguments behind the object itself -/
structure MkX (M : Mode) (P : Program) (w : World) (K : PySem.W.Frag) (mg : Str → Option Value) (base : Heap) (k : Nat) (c : Str) (n : Nat) (F : MF) : Prop where
  ex : ∃ (C f : Addr) (fd : FuncData) (ps : List Str), FnOk P w K mg base (M.CX P w) k f fd ps (spM K (n + 1) F) ∧ ClsN K c C ∧ mg c = some (.ref C) ∧ Mk K C f ∧ Binds K fd ps []
def gMake (c : Str) (F : MF) (ds : List MV) (m : Mem) : Re MV := match F (.ref m.length :: ds) (m ++ [.own c []]) with
  | .ok .non m' => .ok (.ref m.length) m'
  | _ => .stuck
theorem jx_make {M : Mode} {k j n : Nat} {c : Str} {F : MF} {e : Expr} {es : List Expr} {g : MA} {p pos : Pos} (Fk : MkX M X.prog X.w X.K X.mg X.base k c n F) (hr : Room j X.A) (hk : k + 1 ≤ j) (ha : JA X W (e :: es) g)
    (hg : Gl X c := by rfl) (hdb : (c == ("__debug__" : Str)) = false := by decide) (he : starEach (e :: es) X.env = (false, eval e X.env) :: starEach es X.env := by rfl) (hpl : (backTo pos (starEach es X.env)).any (·.1) = false := by rfl)
    (hlen : ∀ ρ m ds m1, g ρ m = .ok ds m1 → ds.length = n) : JE X W (.Call (.Name c p) (e :: es) [] pos) (mCall (gMake c F) g) := by
  obtain ⟨C, f, fd, ps, h1, h2, h3, h4, h5⟩ := Fk.ex
  refine ⟨pe_imp (pe_make (E := fun _ _ _ => False) h4 h1 (hr.mono hk) hg h3 h5 .nil (fun _ _ _ _ _ _ _ z => (M.no z).elim) ha.run hdb he hpl) fun σ H Q ⟨ρ, m, β, hE, hM, p⟩ => ⟨ρ, m, β, hE, hM, ?_⟩⟩
  refine p.bind fun ds m1 vs H1 β1 e0 e1 M1 V1 p1 x dx nx ndx ne => ?_
  have nx' : upd H1 dx (.own x) x = none := by rw [upd_ne (Ne.symm ne)]; exact nx
  have eX : Ext β1 H1 (β1 ++ [x]) (upd (upd H1 dx (.own x)) x (.ins C dx [])) := (Ext.tup ndx).trans (Ext.push nx')
  have MX : RM X.K (β1 ++ [x]) (upd (upd H1 dx (.own x)) x (.ins C dx [])) (m1 ++ [.own c []]) := (M1.tup ndx).push nx' ⟨C, dx, [], h2, upd_same, .nil⟩
  have hx : (β1 ++ [x])[m1.length]? = some x := by rw [← M1.len]; simp
  refine ⟨by simp [← V1.length, hlen ρ m ds m1 e0], .ref m1.length :: ds, m1 ++ [.own c []], β1 ++ [x], .cons (.ref hx) (by rw [List.append_nil]; exact V1.ext M1 eX), MX, ?_⟩
  unfold gMake at p1
  revert p1
  generalize F (.ref m1.length :: ds) (m1 ++ [.own c []]) = r
  intro p1
  cases r with
  | ok d m2 =>
    cases d with
    | non =>
      intro v H' β' e' M' V'
      cases V'
      exact ⟨rfl, p1 (.ref x) H' β' (eX.trans e') M' (.ref (e'.get hx))⟩
    | _ => exact p1.not_stuck
  | ex x m2 => exact p1.not_stuck
  | stuck => exact p1.not_stuck
end
def lv (k : Nat) : Nat := Nat.rec 0 (fun _ n => n + 2) k
def clsS (st : Stmt) (j : Nat) : Stmt := match st with
  | .ClassDef _ _ _ body _ _ _ _ _ _ _ => body.getD j (.Pass ⟨0, 0, 0, 0⟩)
  | _ => .Pass ⟨0, 0, 0, 0⟩
/-! ### what the top has written -/
/-- __init__ of a class of the module -/
structure IniAt (K : PySem.W.Frag) (mg : Str → Option Value) (c : Str) (qual : Str) (st : Stmt) (ps : List Str) : Prop where
  ex : ∃ (C f : Addr) (fd : FuncData), Fun K "__init__" qual st f fd ∧ ClsN K c C ∧ mg c = some (.ref C) ∧ Mk K C f ∧ Binds K fd ps []
section
variable {K : PySem.W.Frag} {h : Heap} {mg : Str → Option Value} {w : World}
theorem ini_mk {c qual : Str} {st : Stmt} {ps : List Str} {C f : Addr} {oc : Value} {od an : Option Addr} {osl : Array (Option Value)} {kV doc pm cdv ct : Value} (X : K.In h) (G : h.Ns mainGlobals mg)
    (a : PySem.W.nsIn K mainGlobals c = some (some (.ref C))) (i : PySem.W.findIn K (.ref C) "__init__" = some (some (.ref f))) (fn : PySem.W.isFn K (.ref f) = true) (mk : PySem.W.makesIn K C = true) (kp : PySem.W.keepIn K (.ref C) = true)
    (l : K.lookup f = some ⟨oc, od, .func (PySem.W.fnOf "__init__" qual (defArgs st) (defBody st) (defScope st) .none kV doc pm an cdv ct), osl⟩) (cd : PySem.W.codeIn K cdv qual = true) (k : PySem.W.keepIn K (.ref f) = true)
    (b : ∀ (kV doc pm : Value) (an : Option Addr) (cdv ct : Value) (us : List Value), us.length = ps.length → bindArgs (PySem.W.fnOf "__init__" qual (defArgs st) (defBody st) (defScope st) .none kV doc pm an cdv ct) ⟨us, []⟩ = pure (ps.zip us)) : IniAt K mg c qual st ps :=
  ⟨C, f, _, fun_mk l cd k, a, PySem.W.mg_of X G a, ⟨mk, i, fn, kp⟩, (fun_mk l cd k).binds b⟩
theorem IniAt.mkx {P : Program} {base : Heap} {M : Mode} {c qual : Str} {st : Stmt} {ps : List Str} {k n : Nat} {F : MF} (D : IniAt K mg c qual st ps) (hok : ∀ f fd, Fun K "__init__" qual st f fd → FnOk P w K mg base (M.CX P w) k f fd ps (spM K (n + 1) F)) : MkX M P w K mg base k c n F := by
  obtain ⟨C, f, fd, h1, h2, h3, h4, h5⟩ := D.ex
  exact ⟨C, f, fd, ps, hok f fd h1, h2, h3, h4, h5⟩
theorem IniAt.mk0 {P : Program} {base : Heap} {M : Mode} {c qual : Str} {st : Stmt} {ps : List Str} {n : Nat} (D : IniAt K mg c qual st ps) (hn : ps.length = n + 1) : MkX M P w K mg base 0 c n (fun _ _ => .stuck) := by
  obtain ⟨C, f, fd, h1, h2, h3, h4, h5⟩ := D.ex
  exact ⟨C, f, fd, ps, ⟨fun vs H Q E h => by rw [hn]; exact h.1, fun A outer s H args us vs Q E _ _ _ _ h => by obtain ⟨_, _, _, _, _, _, q⟩ := h; exact q.elim⟩, h2, h3, h4, h5⟩
theorem fld_mk {c f : Str} {C : Addr} (a : PySem.W.nsIn K mainGlobals c = some (some (.ref C))) (pg : PySem.W.plainGet K C Str.empty = true) (hd : PySem.W.hasDictIn K C = true) (po : PySem.W.plainOver K C = true)
    (sa : PySem.W.findIn K (.ref C) "__setattr__" = some (some (.builtin "object.__setattr__"))) (n : PySem.W.findIn K (.ref C) f = some none) : FldN K f (fun y => y == c) := by
  refine ⟨fun y D hy hD => ?_⟩
  have e : y = c := eq_of_beq hy
  subst e
  have hD : PySem.W.nsIn K mainGlobals y = some (some (.ref D)) := hD
  rw [a] at hD
  cases hD
  exact ⟨⟨pg, hd, po, sa⟩, n⟩
theorem FldN.or {f : Str} {P Q : Str → Bool} (p : FldN K f P) (q : FldN K f Q) : FldN K f (fun y => P y || Q y) :=
  ⟨fun c C h hc => by
    rcases Bool.or_eq_true_iff.mp h with h | h
    · exact p.ex c C h hc
    · exact q.ex c C h hc⟩
end
end MI
namespace MI
open PySem L2
/-! ### the calculus of own objects -/
section
variable {E : Exn → Mem → Prop} {ρ : Env} {m : Mem}
@[simp] theorem W_fld {P : Str → Bool} {f : Str} {g : ME} {Q : MV → Mem → Prop} : W (mFld P f g ρ m) Q E = W (g ρ m) (fun d m1 => W (gFld P f d m1) Q E) E := by
  unfold mFld
  rw [W_bind]
theorem W_gFld {P : Str → Bool} {f c : Str} {n : Nat} {l : List (Str × MV)} {v : MV} {Q : MV → Mem → Prop} (h : m[n]? = some (.own c l)) (hP : P c = true) (hl : l.lookup f = some v) (q : Q v m) : W (gFld P f (.ref n) m) Q E := by
  unfold gFld ownOf
  simp only [h, hP, hl, if_true]
  exact q
@[simp] theorem W_fldS {P : Str → Bool} {f : Str} {fo fv : ME} {Q : Fl → Mem → Prop} : W (mFldS P f fo fv ρ m) Q E = W (fv ρ m) (fun y m1 => W (fo ρ m1) (fun d m2 => match ownOf m2 d with
    | some (n, c, l) => if P c = true ∧ l.length < 1000 then Q (.nx ρ) (m2.set n (.own c (putFM f y l))) else False
    | none => False) (fun x m => Q (.ex x ρ) m)) (fun x m => Q (.ex x ρ) m) := by
  unfold mFldS
  simp only [W_onE]
  congr 1
  funext y m1
  congr 1
  funext d m2
  cases h : ownOf m2 d with
  | none => rfl
  | some q =>
    obtain ⟨n, c, l⟩ := q
    simp only
    split <;> rfl
theorem ownOf_at {n : Nat} {c : Str} {l : List (Str × MV)} (h : m[n]? = some (.own c l)) : ownOf m (.ref n) = some (n, c, l) := by
  unfold ownOf
  simp only [h]
end
end MI
section
set_option maxHeartbeats 4000000
namespace MI
open PySem PySem.Spec PyProof.Rows L2
theorem tuple_mul1 (l : Addr) (items : Array Value) (n : Nat) (dd : Option Addr) (sl : Array (Option Value)) (u : Tok) :
    Meets (Builtin.«tuple.__mul__» ⟨[.ref l, .int 1 u], []⟩) (fun _ R s => s.heap.get? l = some { cls := .type "tuple", dict := dd, data := .seq items n, slots := sl } ∧ R (.ok (.ret (Value.ref l))) s) :=
  .of_wp fun prog w A R s h => by
    obtain ⟨hp, g, d, tk, os⟩ := s
    obtain ⟨hl, h⟩ := h
    have f1 := AutoSeq1.idx_int
    have c1 : (items.isEmpty || (1 : Int) == 1) = true := by simp
    wp_walk using wpAny_loadPart' hl
    exact ⟨_, rfl, h⟩
theorem tuple_mul0 (l : Addr) (items : Array Value) (n : Nat) (dd : Option Addr) (sl : Array (Option Value)) (u : Tok) (c1 : (items.isEmpty || (0 : Int) == 1) = false) :
    Meets (Builtin.«tuple.__mul__» ⟨[.ref l, .int 0 u], []⟩) (fun _ R s => s.heap.get? l = some { cls := .type "tuple", dict := dd, data := .seq items n, slots := sl } ∧
      R (.ok (.ret (Value.ref s.heap.objs.size))) { s with heap := s.heap.push { cls := Value.type "tuple", data := Data.seq #[] }, toks := s.toks }) :=
  .of_wp fun prog w A R s h => by
    obtain ⟨hp, g, d, tk, os⟩ := s
    obtain ⟨hl, h⟩ := h
    have f1 := AutoSeq1.idx_int
    wp_walk using wpAny_loadPart' hl
    repeat (first
      | (refine wpAny_ite_false (decide_eq_false (by rw [c1]; exact Bool.false_ne_true)) ?_; wp_walk using wpAny_loadPart' hl))
    exact ⟨_, rfl, h⟩
/-- a tuple of something, not at all or once -/
def rRep01 (K : PySem.W.Frag) : R2 := fun x y H Q => ∃ l k xs, x = .ref l ∧ y = .int k ∧ SqT K H l xs ∧ xs ≠ [] ∧ ((k = 1 ∧ Q (.ref l) H) ∨ (k = 0 ∧ ∀ p, H p = none → Q (.ref p) (upd H p (.tup []))))
section
variable {X : Cx}
theorem op_rep01 : OpR X (binaryOp .Mult) (rRep01 X.K) := by
  intro pins s σ H x y v u Q I rx ry h
  obtain ⟨l, k, xs, rfl, rfl, hT, hne, q⟩ := h
  cases rx
  obtain ⟨t, rfl⟩ := ry
  obtain ⟨its, r, ⟨⟨cls, dd, data, sl⟩, ho, hc, n, hd⟩, hs⟩ := I.tuple hT
  simp only at hc hd
  subst hc hd
  have hle : its.length = xs.length := r.length.symm
  have hi : its.toArray.isEmpty = false := by
    cases its with
    | nil => exact absurd (List.eq_nil_of_length_eq_zero hle.symm) hne
    | cons a b => rfl
  rcases q with ⟨rfl, q⟩ | ⟨rfl, q⟩
  · exact wpAny_binaryOp_repeat_ref (T := "tuple") (U := "int") (by decide) ⟨_, ho, rfl⟩ (fun s' => typeIs_int s' 1 t) noFill_tuple_mul F.fills_int_mul F.slot_int_rmul repeat_tuple F.slot_int_index.lookup
      (call_meets F.slot_int_rmul (typeIs_int s 1 t) F.entry_int_rmul (F.args_int_rmul_2 _ _) (int_rmul_tuple 1 t l its.toArray n dd sl)
        ⟨ho, rfl, ⟨_, ho, rfl⟩, call_meets F.slot_tuple_mul ⟨_, ho, rfl⟩ F.entry_tuple_mul (F.args_tuple_mul_2 _ _) (tuple_mul1 l its.toArray n dd sl t) ⟨ho, ⟨.ref l, H, I, rfl, q⟩⟩⟩)
  · exact wpAny_binaryOp_repeat_ref (T := "tuple") (U := "int") (by decide) ⟨_, ho, rfl⟩ (fun s' => typeIs_int s' 0 t) noFill_tuple_mul F.fills_int_mul F.slot_int_rmul repeat_tuple F.slot_int_index.lookup
      (call_meets F.slot_int_rmul (typeIs_int s 0 t) F.entry_int_rmul (F.args_int_rmul_2 _ _) (int_rmul_tuple 0 t l its.toArray n dd sl)
        ⟨ho, rfl, ⟨_, ho, rfl⟩, call_meets F.slot_tuple_mul ⟨_, ho, rfl⟩ F.entry_tuple_mul (F.args_tuple_mul_2 _ _) (tuple_mul0 l its.toArray n dd sl t (by rw [hi]; rfl)) ⟨ho,
          ⟨.ref s.heap.objs.size, _, I.laid (t' := s.toks) (o := .tup []) (fun b ob q => Heap.get?_push_of_some _ q) (Nat.le_refl _) ⟨Nat.zero_le _, [], .nil, IsTup.new _ _⟩, rfl, q _ (I.hok.fresh (Nat.le_refl _))⟩⟩⟩)
end
end MI
end

namespace MI
open PySem L2
section
variable {X : Cx}
def gMulB (d e : MV) (m : Mem) : Re MV := match d, e with
  | .tup xs, .int k => if 0 < xs.length ∧ k = 1 then .ok (.tup xs) m else if 0 < xs.length ∧ k = 0 then .ok (.tup []) m else gMul (.tup xs) (.int k) m
  | d, e => gMul d e m
abbrev rMulB (K : PySem.W.Frag) : R2 := fun x y H Q => rMulA K x y H Q ∨ rRep01 K x y H Q
theorem op_mulB : OpR X (binaryOp .Mult) (rMulB X.K) := OpR.or op_mulA op_rep01
theorem om_mulB : OpM X (rMulB X.K) gMulB := by
  intro W σ d e m β H x y Q M rx ry p
  unfold gMulB at p
  split at p
  · rename_i xs k
    split at p
    · rename_i h
      cases rx with
      | tup h1 h2 =>
        cases ry
        refine .inr ⟨_, _, _, rfl, rfl, h1, fun z => ?_, .inl ⟨h.2, p.ok M (.tup h1 h2)⟩⟩
        have := h2.length
        rw [z] at this
        have := h.1
        simp_all
    · split at p
      · rename_i h
        cases rx with
        | tup h1 h2 =>
          cases ry
          refine .inr ⟨_, _, _, rfl, rfl, h1, fun z => ?_, .inr ⟨h.2, fun q hq => p.newtup M hq .nil⟩⟩
          have := h2.length
          rw [z] at this
          have := h.1
          simp_all
      · exact .inl (om_mul W σ _ _ m β H x y Q M rx ry p)
  · exact .inl (om_mul W σ _ _ m β H x y Q M rx ry p)
end
section
variable {E : Exn → Mem → Prop} {m : Mem} {Q : MV → Mem → Prop}
@[simp] theorem W_mulB_1 {a : MV} {l : List MV} : W (gMulB (.tup (a :: l)) (.int 1) m) Q E = Q (.tup (a :: l)) m := by
  unfold gMulB
  simp
@[simp] theorem W_mulB_0 {a : MV} {l : List MV} : W (gMulB (.tup (a :: l)) (.int 0) m) Q E = Q (.tup []) m := by
  unfold gMulB
  simp
theorem W_mulB_n {a : MV} {l : List MV} {k : Int} (h : 2 ≤ k) (h2 : k ≤ 1000) (h3 : l.length < 1000) : W (gMulB (.tup (a :: l)) (.int k) m) Q E = Q (.tup (List.replicate k.toNat (a :: l)).flatten) m := by
  unfold gMulB
  simp only
  rw [if_neg (by omega), if_neg (by omega), W_mul_t]
  simp
  intro _
  omega
end
end MI
namespace MI
open PySem L2
/-! ### a, b = x, y and a, b, c = x, y, z of plain names; targets of a comprehension -/
section
variable {X : Cx} {W : WX} {pos : Pos}
def mPar2 (i j : Nat) (g : MA) : MS := fun ρ m => onE ρ (g ρ m) fun ds m1 => match ds with
  | [u, v] => .ok (.nx ((ρ.set i (some u)).set j (some v))) m1
  | _ => .stuck
def mPar3 (i j l : Nat) (g : MA) : MS := fun ρ m => onE ρ (g ρ m) fun ds m1 => match ds with
  | [u, v, w] => .ok (.nx (((ρ.set i (some u)).set j (some v)).set l (some w))) m1
  | _ => .stuck
theorem js_par2 (i j : Nat) {x y : Str} {a b : Expr} {g : MA} {px py pt : Pos} {kt k2 : Nat} {pt2 : Pos} (hc : X.calm = true) (hN : X.N.Nodup) (ha : JA X W [a, b] g) (hi : X.N[i]? = some x := by rfl) (hj : X.N[j]? = some y := by rfl) (hij : i ≠ j := by decide)
    (hx : X.env.scope.names.lookup x = some .local := by rfl) (hy : X.env.scope.names.lookup y = some .local := by rfl)
    (hw : swappedStores [.Tuple [.Name x px, .Name y py] kt pt] (.Tuple [a, b] k2 pt2) X.env = pure (some [x, y]) := by rfl)
    (hs : swapsWithSole [.Tuple [.Name x px, .Name y py] kt pt] (.Tuple [a, b] k2 pt2) pos.line X.env = pure false := by rfl) :
    JS X W (.Assign [.Tuple [.Name x px, .Name y py] kt pt] (.Tuple [a, b] k2 pt2) pos) (mPar2 i j g) :=
  ⟨ps_imp (ps_par hc hN hi hj hij hx hy ha.run hw hs) fun D σ H ⟨ρ, m, β, hE, hM, p⟩ => ⟨ρ, m, β, hE, hM, PostS.on (D := D) (R := fun β' H' d v => RVs X.K β' H' d v) hE hM p fun ds m1 vs H1 β1 _ e M V q => by
    split at q
    · rename_i u v
      cases V with
      | cons h1 V => cases V with
        | cons h2 V => cases V with
          | nil => exact ⟨_, _, rfl, q _ H1 β1 Ext.refl M (((hE.ext hM e).set h1).set h2)⟩
    · exact q.elim⟩⟩
theorem js_par3 (i j l : Nat) {x y z : Str} {a b c : Expr} {g : MA} {px py pz pt : Pos} {kt k2 : Nat} {pt2 : Pos} (hc : X.calm = true) (hN : X.N.Nodup) (ha : JA X W [a, b, c] g) (hi : X.N[i]? = some x := by rfl) (hj : X.N[j]? = some y := by rfl) (hl : X.N[l]? = some z := by rfl)
    (hij : i ≠ j := by decide) (hil : i ≠ l := by decide) (hjl : j ≠ l := by decide)
    (hx : X.env.scope.names.lookup x = some .local := by rfl) (hy : X.env.scope.names.lookup y = some .local := by rfl) (hz : X.env.scope.names.lookup z = some .local := by rfl)
    (hw : swappedStores [.Tuple [.Name x px, .Name y py, .Name z pz] kt pt] (.Tuple [a, b, c] k2 pt2) X.env = pure (some [x, y, z]) := by rfl)
    (hs : swapsWithSole [.Tuple [.Name x px, .Name y py, .Name z pz] kt pt] (.Tuple [a, b, c] k2 pt2) pos.line X.env = pure false := by rfl) :
    JS X W (.Assign [.Tuple [.Name x px, .Name y py, .Name z pz] kt pt] (.Tuple [a, b, c] k2 pt2) pos) (mPar3 i j l g) :=
  ⟨ps_imp (ps_par3 hc hN hi hj hl hij hil hjl hx hy hz ha.run hw hs) fun D σ H ⟨ρ, m, β, hE, hM, p⟩ => ⟨ρ, m, β, hE, hM, PostS.on (D := D) (R := fun β' H' d v => RVs X.K β' H' d v) hE hM p fun ds m1 vs H1 β1 _ e M V q => by
    split at q
    · rename_i u v w
      cases V with
      | cons h1 V => cases V with
        | cons h2 V => cases V with
          | cons h3 V => cases V with
            | nil => exact ⟨_, _, _, rfl, q _ H1 β1 Ext.refl M ((((hE.ext hM e).set h1).set h2).set h3)⟩
    · exact q.elim⟩⟩
end
section
variable {E : Exn → Mem → Prop} {ρ : Env} {m : Mem} {Q : Fl → Mem → Prop}
@[simp] theorem W_par2 {i j : Nat} {g : MA} : W (mPar2 i j g ρ m) Q E = W (g ρ m) (fun ds m1 => match ds with | [u, v] => Q (.nx ((ρ.set i (some u)).set j (some v))) m1 | _ => False) (fun x m => Q (.ex x ρ) m) := by
  unfold mPar2
  rw [W_onE]
  congr 1
  funext ds m1
  split <;> simp_all
@[simp] theorem W_par3 {i j l : Nat} {g : MA} : W (mPar3 i j l g ρ m) Q E = W (g ρ m) (fun ds m1 => match ds with | [u, v, w] => Q (.nx (((ρ.set i (some u)).set j (some v)).set l (some w))) m1 | _ => False) (fun x m => Q (.ex x ρ) m) := by
  unfold mPar3
  rw [W_onE]
  congr 1
  funext ds m1
  split <;> simp_all
end
/-- the slots that a target writes -/
def Wr (g : NG) (vs : List Nat) : Prop := ∀ d m as, g d m = some as → ∀ p ∈ as, p.1 ∈ vs
def Wrs (g : NGs) (vs : List Nat) : Prop := ∀ ds m as, g ds m = some as → ∀ p ∈ as, p.1 ∈ vs
theorem wr_name {i : Nat} {vs : List Nat} (h : i ∈ vs) : Wr (ngName i) vs := fun d m as e p hp => by
  unfold ngName at e
  cases e
  simp at hp
  subst hp
  exact h
theorem wr_nil {vs : List Nat} : Wrs ngNil vs := fun ds m as e p hp => by
  unfold ngNil at e
  split at e
  · cases e; cases hp
  · cases e
theorem wr_cons {g : NG} {k : NGs} {vs : List Nat} (h : Wr g vs) (q : Wrs k vs) : Wrs (ngCons g k) vs := fun ds m as e p hp => by
  unfold ngCons at e
  split at e
  · split at e
    · rename_i a b e1 e2
      cases e
      rcases List.mem_append.mp hp with hp | hp
      · exact h _ _ _ e1 p hp
      · exact q _ _ _ e2 p hp
    · cases e
  · cases e
theorem wr_tup {n : Nat} {k : NGs} {vs : List Nat} (q : Wrs k vs) : Wr (ngTup n k) vs := fun d m as e p hp => by
  unfold ngTup at e
  split at e
  · split at e
    · exact q _ _ _ e p hp
    · cases e
  · cases e
end MI
namespace MI
open PySem L2
/-! ### loops over lists that are written: turn by turn -/
section
variable {E : Exn → Mem → Prop} {ρ : Env} {m : Mem}
theorem W_lp_nil {chk : Mem → Prop} {g : MG} {body : MS} {Q : Fl → Mem → Prop} (hc : chk m) (q : Q (.nx ρ) m) : W (loopM chk g body [] ρ m) Q E := by
  unfold loopM
  rw [if_pos hc]
  exact q
theorem W_lp_cons {chk : Mem → Prop} {g : MG} {body : MS} {d : MV} {l : List MV} {ρ1 : Env} {Q : Fl → Mem → Prop} (hc : chk m) (hg : g d ρ m = .ok ρ1 m)
    (q : W (body ρ1 m) (fun a m => match a with | .nx ρ' => W (loopM chk g body l ρ' m) Q E | .ct ρ' => W (loopM chk g body l ρ' m) Q E | .bk ρ' => Q (.nx ρ') m | a => Q a m) E) : W (loopM chk g body (d :: l) ρ m) Q E := by
  unfold loopM
  rw [if_pos hc, hg]
  dsimp only
  cases hb : body ρ1 m with
  | stuck => rw [hb] at q; exact q
  | ex x m' => rw [hb] at q; exact q
  | ok a m' =>
    rw [hb] at q
    cases a with
    | nx ρ' => exact q
    | ct ρ' => exact q
    | bk ρ' => exact q
    | rt d => exact q
    | ex x ρ' => exact q
end
end MI
namespace MI
open PySem L2
open Classical in
/-- x in a list, a dict, a text, a tuple of anything -/
noncomputable def gInC (neg : Bool) (a b : MV) (m : Mem) : Re MV := if (∃ l, b = .tup l ∧ (flat a = false ∨ l.all flat = false)) then gInT neg a b m else gInA neg a b m
section
variable {X : Cx} {W : WX} {pos : Pos}
theorem je_inC {a b : Expr} {fa fb : ME} (hu : X.A.units + 1 < cLine) (hu2 : X.A.units + 65 < cLine) (ha : JE X W a fa) (hb : JE X W b fb) (hk : behindInMarks .In b = false := by rfl) : JE X W (.Compare a [.In] [b] pos) (mBin (gInC false) fa fb) :=
  JE.or (j_cmp (op_inT hu2) om_inT ha hb hk) (je_in hu hu2 ha hb hk) (mBin_or fun a b m => by
    unfold gInC
    by_cases q : (∃ l, b = .tup l ∧ (flat a = false ∨ l.all flat = false))
    · exact .inl (if_pos q)
    · exact .inr (if_neg q))
theorem je_ninC {a b : Expr} {fa fb : ME} (hu : X.A.units + 1 < cLine) (hu2 : X.A.units + 65 < cLine) (ha : JE X W a fa) (hb : JE X W b fb) (hk : behindInMarks .NotIn b = false := by rfl) : JE X W (.Compare a [.NotIn] [b] pos) (mBin (gInC true) fa fb) :=
  JE.or (j_cmp (op_ninT hu2) om_inT ha hb hk) (je_nin hu hu2 ha hb hk) (mBin_or fun a b m => by
    unfold gInC
    by_cases q : (∃ l, b = .tup l ∧ (flat a = false ∨ l.all flat = false))
    · exact .inl (if_pos q)
    · exact .inr (if_neg q))
end
section
variable {E : Exn → Mem → Prop} {ρ : Env} {m : Mem}
theorem W_lc_nil {chk : Mem → Prop} {g : NG} {t : MT} {e : ME} {acc : List MV} {Q : List MV → Mem → Prop} (hc : chk m) (q : Q acc m) : W (lcM chk g t e ρ [] acc m) Q E := by
  unfold lcM
  rw [if_pos hc]
  exact q
theorem W_lc_cons {chk : Mem → Prop} {g : NG} {t : MT} {e : ME} {d : MV} {l acc : List MV} {as : List (Nat × MV)} {Q : List MV → Mem → Prop} (hc : chk m) (hg : g d m = some as)
    (q : W (t (setE ρ as) m) (fun b m => if b = true then W (e (setE ρ as) m) (fun y m => acc.length < sizeLine ∧ W (lcM chk g t e ρ l (acc ++ [y]) m) Q E) E0 else W (lcM chk g t e ρ l acc m) Q E) E0) : W (lcM chk g t e ρ (d :: l) acc m) Q E := by
  unfold lcM
  rw [if_pos hc, hg]
  dsimp only
  cases ht : t (setE ρ as) m with
  | stuck => rw [ht] at q; exact q.elim
  | ex x m' => rw [ht] at q; exact q.elim
  | ok b m' =>
    rw [ht] at q
    cases b with
    | false => exact q
    | true =>
      have q : W (e (setE ρ as) m') (fun y m => acc.length < sizeLine ∧ W (lcM chk g t e ρ l (acc ++ [y]) m) Q E) E0 := q
      dsimp only
      cases he : e (setE ρ as) m' with
      | stuck => rw [he] at q; exact q.elim
      | ex x m2 => rw [he] at q; exact q.elim
      | ok y m2 =>
        rw [he] at q
        dsimp only
        rw [if_pos q.1]
        exact q.2
theorem gInC_flat {neg : Bool} {a : MV} {l : List MV} (h : flat a = true) (hl : l.all flat = true) : gInC neg a (.tup l) m = .ok (.bl (if neg = true then !inV (toV a) (l.map toV) else inV (toV a) (l.map toV))) m := by
  unfold gInC
  rw [if_neg (by rintro ⟨l', h', q⟩; cases h'; rcases q with q | q <;> simp_all)]
  unfold gInA
  rw [if_neg (by rintro ⟨z, h⟩; cases h), if_neg (by simp), if_pos ⟨_, rfl, h, hl⟩]
  unfold gInF
  show (if flat a = true ∧ l.all flat = true then Re.ok (MV.bl (if neg then !inV (toV a) (l.map toV) else inV (toV a) (l.map toV))) m else .stuck) = _
  rw [if_pos ⟨h, hl⟩]
theorem dat_lk {n k : Nat} {l : List MV} (h : m[n]? = some (.lst l)) (hl : pus l = true) (hk : fls l ≤ k) : dat m (k + 1) (.ref n) = some (.list (pds l)) := by
  unfold dat
  rw [(show lstOf m (.ref n) = some l by simp [h])]
  dsimp only
  rw [dats_pu m l k hl hk]
  rfl
/-- a text in a tuple of one list -/
theorem gInC_ref {neg : Bool} {s : Str} {n : Nat} {l : List MV} (hs : PyData.strOk s = true) (h : m[n]? = some (.lst l)) (hl : Das l) : gInC neg (.str s) (.tup [.ref n]) m = .ok (.bl neg) m := by
  unfold gInC
  rw [if_pos ⟨_, rfl, .inr rfl⟩]
  unfold gInT
  have d1 : dat m fuel (.str s) = some (.str s) := by show dat m (1999 + 1) (.str s) = _; unfold dat; rfl
  have d2 : dat m fuel (.tup [.ref n]) = some (.tuple [.list (pds l)]) := by
    show dat m (1998 + 1 + 1) (.tup [.ref n]) = _
    unfold dat
    unfold dats
    rw [dat_lk (k := 1997) h hl.pu (Nat.le_trans hl.fl (by decide))]
    unfold dats
    rfl
  rw [d1, d2]
  dsimp only
  have s1 : SeqAt.shaped (.str s) = true := shaped_pu (d := .str s) (by simpa [pu] using hs) (by simp [dp])
  have s2 := shaped_pus hl.pu (by have := hl.dp; omega)
  have s3 : SeqAt.shaped (.tuple [.list (pds l)]) = true := by
    have q := hl.dp
    unfold SeqAt.shaped at s2 ⊢
    rw [Bool.and_eq_true] at s2 ⊢
    refine ⟨by simpa [PyData.canLay0, PyData.canLayAll0] using s2.1, ?_⟩
    have e : (PyData.list (pds l)).depth ≤ 61 := by
      simp only [PyData.depth, depths_pu]
      omega
    simp only [PyData.depth, PyData.depthAll] at e ⊢
    simp
    omega
  rw [if_pos ⟨s1, s3⟩]
  cases neg <;> simp [PyData.eqv]
end
end MI
namespace K57
open PySem L2 MI
abbrev row := PySem.Challenge.pw_keptops_k57_wrong_machines
def topS (i : Nat) : Stmt := row.main.body.getD i (.Pass ⟨0, 0, 0, 0⟩)
inductive Fnm where
  | is_integer | is_name | held_object | is_call | is_history | check_history | check_machine | u_is_machine_state | u_is_number | u_check_tree | u_is_tuple_of | u_check_end | u_is_outcome | u_are_operands | u_is_operand | u_is_object | run_machine | l_source | l_draw | l_pick | l_word | l_leaf | l_with_tree | l_behind | l_spots | l_operands | l_ends | l_asks | l_long | l_wholes | law | i_Room
  deriving DecidableEq
abbrev c_SIGNS : MV := .tup [.str "<", .str "<=", .str ">", .str ">=", .str "==", .str "!="]
abbrev c_CONSTANTS : MV := .tup [.str "none", .str "true", .str "false"]
abbrev c_BARRED : MV := .tup [.str "and", .str "or", .str "not", .str "if", .str "else", .str "is", .str "none", .str "true", .str "false", .str "set", .str "give", .str "try", .str "except", .str "end", .str "then", .str "program", .str "keep", .str "self"]
abbrev c_MOST_LETTERS : MV := .int 8
abbrev c_MOST_OPERANDS : MV := .int 3
abbrev c_MOST_PLACES : MV := .int 6
abbrev c_KINDS : MV := .tup [.str "t", .str "f", .str "n"]
abbrev c_ANSWERS : MV := .tup [.str "t", .str "f", .str "n", .str "x"]
abbrev c_MOST_PARAMETERS : MV := .int 2
abbrev c_MOST_STATES : MV := .int 2000
abbrev c_MOST_HELD : MV := .int 8
abbrev c_MOST_TREE_LEVELS : MV := .int 30
def p_InvalidHistory (y : Str) : Option Bool := ([("OperandError", false), ("InvalidHistory", true), ("InvalidMachine", false)] : List (Str × Bool)).lookup y
def p_InvalidMachine (y : Str) : Option Bool := ([("OperandError", false), ("InvalidHistory", false), ("InvalidMachine", true)] : List (Str × Bool)).lookup y
def p_OperandError (y : Str) : Option Bool := ([("OperandError", true), ("InvalidHistory", true), ("InvalidMachine", true)] : List (Str × Bool)).lookup y
def p_ValueError (y : Str) : Option Bool := ([("OperandError", true), ("InvalidHistory", true), ("InvalidMachine", true)] : List (Str × Bool)).lookup y
def pf_parameters (y : Str) : Bool := y == "Room"
def pf_places (y : Str) : Bool := y == "Room"
def pf_states (y : Str) : Bool := y == "Room"
structure Txt (K : PySem.W.Frag) (w : World) (mg : Str → Option Value) : Prop where
  b_abs : mg "abs" = none
  b_all : mg "all" = none
  b_bool : mg "bool" = none
  b_enumerate : mg "enumerate" = none
  b_int : mg "int" = none
  b_isinstance : mg "isinstance" = none
  b_len : mg "len" = none
  b_list : mg "list" = none
  b_range : mg "range" = none
  b_str : mg "str" = none
  b_tuple : mg "tuple" = none
  c_ANSWERS : Con K mg "ANSWERS" c_ANSWERS
  c_BARRED : Con K mg "BARRED" c_BARRED
  c_CONSTANTS : Con K mg "CONSTANTS" c_CONSTANTS
  c_KINDS : Con K mg "KINDS" c_KINDS
  c_MOST_HELD : Con K mg "MOST_HELD" c_MOST_HELD
  c_MOST_LETTERS : Con K mg "MOST_LETTERS" c_MOST_LETTERS
  c_MOST_OPERANDS : Con K mg "MOST_OPERANDS" c_MOST_OPERANDS
  c_MOST_PARAMETERS : Con K mg "MOST_PARAMETERS" c_MOST_PARAMETERS
  c_MOST_PLACES : Con K mg "MOST_PLACES" c_MOST_PLACES
  c_MOST_STATES : Con K mg "MOST_STATES" c_MOST_STATES
  c_MOST_TREE_LEVELS : Con K mg "MOST_TREE_LEVELS" c_MOST_TREE_LEVELS
  c_SIGNS : Con K mg "SIGNS" c_SIGNS
  x_InvalidHistory : ExF K mg "InvalidHistory"
  x_InvalidMachine : ExF K mg "InvalidMachine"
  h_OperandError : HndN K mg "OperandError" p_OperandError
  i_InvalidHistory : IsxN K mg "InvalidHistory" p_InvalidHistory
  i_InvalidMachine : IsxN K mg "InvalidMachine" p_InvalidMachine
  i_ValueError : IsxN K mg "ValueError" p_ValueError
  f_parameters : FldN K "parameters" pf_parameters
  f_places : FldN K "places" pf_places
  f_states : FldN K "states" pf_states
abbrev s_is_integer : Stmt := topS 11
theorem sc_is_integer : FnScope ["value"] ["value"] (defScope s_is_integer) := ⟨rfl, rfl, rfl, by decide +kernel, rfl, by decide +kernel, by decide +kernel⟩
noncomputable def b_is_integer (ck : Fnm → MF) : MS := (mRet (mAnd (mIsi "int" (mVar 0)) (mNot (mIsi "bool" (mVar 0)))))
noncomputable def f_is_integer (ck : Fnm → MF) : MF := fun ds m => endOf (b_is_integer ck (startM 1 ds) m)
theorem ok_is_integer {M : Mode} {P : Program} {w : World} {K : PySem.W.Frag} {mg : Str → Option Value} {base : Heap} {k : Nat} {f : Addr} {fd : FuncData} {ck : Fnm → MF} (Fu : Fun K "is_integer" "is_integer" s_is_integer f fd) (T : Txt K w mg) :
    FnOk P w K mg base (M.CX P w) (k + 2) f fd ["value"] (spM K 1 (f_is_integer ck)) :=
  have nd := sc_is_integer.nd
  fnx_ok (M := M) (g := b_is_integer ck) Fu sc_is_integer rfl (fun _ _ _ => rfl) fun cdv A outer s H E hr W tk hp =>
    (jb_one (js_ret (je_and (je_isi "int" (j_var 0) T.b_isinstance T.b_int (by decide +kernel)) (je_one (je_not (je_isi "bool" (j_var 0) T.b_isinstance T.b_bool (by decide +kernel)))))))
abbrev s_is_name : Stmt := topS 12
theorem sc_is_name : FnScope ["value", "letter"] ["value"] (defScope s_is_name) := ⟨rfl, rfl, rfl, by decide +kernel, rfl, by decide +kernel, by decide +kernel⟩
noncomputable def b_is_name (ck : Fnm → MF) : MS := (mSeq (mIfS (mOrT (mNotT (mTru (mIsi "str" (mVar 0)))) (mNotT (mB (mChain gLeS gLeS (mC (.int 1)) (mCall gLen (mCons (mVar 0) mNil)) (mC c_MOST_LETTERS)))))
    (mRet (mC (.bl false)))
    mSkip)
    (mRet (mAnd (mBin (gInB true) (mVar 0) (mC c_BARRED)) (mCall gAll (mCons (mLc (mAnyI (mVar 0)) (ngName 1) mYes (mChain gLeS gLeS (mC (.str "a")) (mVar 1) (mC (.str "z"))) [1]) mNil)))))
noncomputable def f_is_name (ck : Fnm → MF) : MF := fun ds m => endOf (b_is_name ck (startM 2 ds) m)
theorem ok_is_name {M : Mode} {P : Program} {w : World} {K : PySem.W.Frag} {mg : Str → Option Value} {base : Heap} {k : Nat} {f : Addr} {fd : FuncData} {ck : Fnm → MF} (Fu : Fun K "is_name" "is_name" s_is_name f fd) (T : Txt K w mg) :
    FnOk P w K mg base (M.CX P w) (k + 2) f fd ["value"] (spM K 1 (f_is_name ck)) :=
  have nd := sc_is_name.nd
  fnx_ok (M := M) (g := b_is_name ck) Fu sc_is_name rfl (fun _ _ _ => rfl) fun cdv A outer s H E hr W tk hp =>
    (jb_cons (js_if (jw_or (jt_not (jt_tru (je_isi "str" (j_var 0) T.b_isinstance T.b_str (by decide +kernel)))) (jw_or1 (jt_not (jt_chain op_leA op_leA om_leA om_leA j_int (je_callB cr_len cm_len T.b_len PySem.boot_len (ja_cons (j_var 0) ja_nil)) (j_con T.c_MOST_LETTERS))))).jt
    (jb_one (js_ret j_bl))
    jb_nil)
    (jb_one (js_ret (je_and (je_ninB (hu1 hr) (hu65 hr) (j_var 0) (j_con T.c_BARRED)) (je_one (je_callB (cr_all rfl) cm_all T.b_all (by decide +kernel) (ja_cons (je_lc [("letter", 1)] rfl rfl nd (ji_any (j_var 0)) (blkOk_by (N := ["value", "letter"]) (sc := defScope s_is_name) (by decide +kernel)) (fun _ _ _ _ _ => (jn_name 1 nd)) (fun _ _ _ _ _ => jts_nil) (fun _ _ _ _ _ => (je_chain op_leA op_leA om_leA om_leA j_str (j_var 1) j_str)) (hgs_name)) ja_nil)))))))
abbrev s_held_object : Stmt := topS 16
theorem sc_held_object : FnScope ["source", "kind"] ["source", "kind"] (defScope s_held_object) := ⟨rfl, rfl, rfl, by decide +kernel, rfl, by decide +kernel, by decide +kernel⟩
noncomputable def b_held_object (ck : Fnm → MF) : MS := (mSeq (mIfS (mB (mBin (gEqA false) (mVar 1) (mC (.str "n"))))
    (mRet (mTup (mCons (mTup (mCons (mC (.str "none")) mNil)) (mCons (mC (.bl false)) mNil))))
    mSkip)
    (mRet (mTup (mCons (mTup (mCons (mC (.str "object")) (mCons (mVar 0) mNil))) (mCons (mBin (gEqA false) (mVar 1) (mC (.str "t"))) mNil)))))
noncomputable def f_held_object (ck : Fnm → MF) : MF := fun ds m => endOf (b_held_object ck (startM 2 ds) m)
theorem ok_held_object {M : Mode} {P : Program} {w : World} {K : PySem.W.Frag} {mg : Str → Option Value} {base : Heap} {k : Nat} {f : Addr} {fd : FuncData} {ck : Fnm → MF} (Fu : Fun K "held_object" "held_object" s_held_object f fd) (T : Txt K w mg) :
    FnOk P w K mg base (M.CX P w) (k + 2) f fd ["source", "kind"] (spM K 2 (f_held_object ck)) :=
  have nd := sc_held_object.nd
  fnx_ok (M := M) (g := b_held_object ck) Fu sc_held_object rfl (fun _ _ _ => rfl) fun cdv A outer s H E hr W tk hp =>
    (jb_cons (js_if (jt_cmp (op_eqA (hu64 hr)) om_eqA (j_var 1) j_str)
    (jb_one (js_ret (je_tup (ja_cons (je_tup (ja_cons j_str ja_nil)) (ja_cons j_bl ja_nil)))))
    jb_nil)
    (jb_one (js_ret (je_tup (ja_cons (je_tup (ja_cons j_str (ja_cons (j_var 0) ja_nil))) (ja_cons (j_cmp (op_eqA (hu64 hr)) om_eqA (j_var 1) j_str) ja_nil))))))
abbrev s_is_call : Stmt := topS 19
theorem sc_is_call : FnScope ["value", "program", "kinds", "answers", "kind", "answer"] ["value", "program"] (defScope s_is_call) := ⟨rfl, rfl, rfl, by decide +kernel, rfl, by decide +kernel, by decide +kernel⟩
noncomputable def b_is_call (ck : Fnm → MF) : MS := (mSeq (mIfS (mOrT (mNotT (mTru (mIsi "tuple" (mVar 0)))) (mB (mBin (gEqA true) (mCall gLen (mCons (mVar 0) mNil)) (mC (.int 2)))))
    (mRet (mC (.bl false)))
    mSkip)
    (mSeq (mAsg (mVar 0) (nTup 2 (nCons (nName 2) (nCons (nName 3) nNil))))
    (mSeq (mIfS (mOrT (mNotT (mTru (mIsi "tuple" (mVar 2)))) (mOrT (mB (mBin (gEqA true) (mCall gLen (mCons (mVar 2) mNil)) (mCall gLen (mCons (mBin gItem (mVar 1) (mC (.int 0))) mNil)))) (mNotT (mTru (mIsi "list" (mVar 3))))))
    (mRet (mC (.bl false)))
    mSkip)
    (mRet (mAnd (mCall gAll (mCons (mLc (mAnyI (mVar 2)) (ngName 4) mYes (mBin (gInB false) (mVar 4) (mC c_KINDS)) [4]) mNil)) (mCall gAll (mCons (mLc (mAnyI (mVar 3)) (ngName 5) mYes (mBin (gInB false) (mVar 5) (mC c_ANSWERS)) [5]) mNil)))))))
noncomputable def f_is_call (ck : Fnm → MF) : MF := fun ds m => endOf (b_is_call ck (startM 6 ds) m)
theorem ok_is_call {M : Mode} {P : Program} {w : World} {K : PySem.W.Frag} {mg : Str → Option Value} {base : Heap} {k : Nat} {f : Addr} {fd : FuncData} {ck : Fnm → MF} (Fu : Fun K "is_call" "is_call" s_is_call f fd) (T : Txt K w mg) :
    FnOk P w K mg base (M.CX P w) (k + 2) f fd ["value", "program"] (spM K 2 (f_is_call ck)) :=
  have nd := sc_is_call.nd
  fnx_ok (M := M) (g := b_is_call ck) Fu sc_is_call rfl (fun _ _ _ => rfl) fun cdv A outer s H E hr W tk hp =>
    (jb_cons (js_if (jw_or (jt_not (jt_tru (je_isi "tuple" (j_var 0) T.b_isinstance T.b_tuple (by decide +kernel)))) (jw_or1 (jt_cmp (op_neA (hu64 hr)) om_neA (je_callB cr_len cm_len T.b_len PySem.boot_len (ja_cons (j_var 0) ja_nil)) j_int))).jt
    (jb_one (js_ret j_bl))
    jb_nil)
    (jb_cons (js_asg (j_var 0) (jg_tup rfl (jgs_cons (jg_name 2 nd) (jgs_cons (jg_name 3 nd) jgs_nil))))
    (jb_cons (js_if (jw_or (jt_not (jt_tru (je_isi "tuple" (j_var 2) T.b_isinstance T.b_tuple (by decide +kernel)))) (jw_or (jt_cmp (op_neA (hu64 hr)) om_neA (je_callB cr_len cm_len T.b_len PySem.boot_len (ja_cons (j_var 2) ja_nil)) (je_callB cr_len cm_len T.b_len PySem.boot_len (ja_cons (je_item (hu1 hr) (j_var 1) j_int) ja_nil))) (jw_or1 (jt_not (jt_tru (je_isi "list" (j_var 3) T.b_isinstance T.b_list (by decide +kernel))))))).jt
    (jb_one (js_ret j_bl))
    jb_nil)
    (jb_one (js_ret (je_and (je_callB (cr_all rfl) cm_all T.b_all (by decide +kernel) (ja_cons (je_lc [("kind", 4)] rfl rfl nd (ji_any (j_var 2)) (blkOk_by (N := ["value", "program", "kinds", "answers", "kind", "answer"]) (sc := defScope s_is_call) (by decide +kernel)) (fun _ _ _ _ _ => (jn_name 4 nd)) (fun _ _ _ _ _ => jts_nil) (fun _ _ _ _ _ => (je_inB (hu1 hr) (hu65 hr) (j_var 4) (j_con T.c_KINDS))) (hgs_name)) ja_nil)) (je_one (je_callB (cr_all rfl) cm_all T.b_all (by decide +kernel) (ja_cons (je_lc [("answer", 5)] rfl rfl nd (ji_any (j_var 3)) (blkOk_by (N := ["value", "program", "kinds", "answers", "kind", "answer"]) (sc := defScope s_is_call) (by decide +kernel)) (fun _ _ _ _ _ => (jn_name 5 nd)) (fun _ _ _ _ _ => jts_nil) (fun _ _ _ _ _ => (je_inB (hu1 hr) (hu65 hr) (j_var 5) (j_con T.c_ANSWERS))) (hgs_name)) ja_nil)))))))))
abbrev s_is_history : Stmt := topS 20
theorem sc_is_history : FnScope ["program", "value", "call"] ["program", "value"] (defScope s_is_history) := ⟨rfl, rfl, rfl, by decide +kernel, rfl, by decide +kernel, by decide +kernel⟩
noncomputable def b_is_history (ck : Fnm → MF) : MS := (mRet (mAnd (mIsi "list" (mVar 1)) (mCall gAll (mCons (mLc (mAnyI (mVar 1)) (ngName 2) mYes (mCall (ck .is_call) (mCons (mVar 2) (mCons (mVar 0) mNil))) [2]) mNil))))
noncomputable def f_is_history (ck : Fnm → MF) : MF := fun ds m => endOf (b_is_history ck (startM 3 ds) m)
theorem ok_is_history {M : Mode} {P : Program} {w : World} {K : PySem.W.Frag} {mg : Str → Option Value} {base : Heap} {k : Nat} {f : Addr} {fd : FuncData} {ck : Fnm → MF} (Fu : Fun K "is_history" "is_history" s_is_history f fd) (T : Txt K w mg) (I_is_call : FnX M P w K mg base k "is_call" 2 (ck .is_call)) :
    FnOk P w K mg base (M.CX P w) (k + 2) f fd ["program", "value"] (spM K 2 (f_is_history ck)) :=
  have nd := sc_is_history.nd
  fnx_ok (M := M) (g := b_is_history ck) Fu sc_is_history rfl (fun _ _ _ => rfl) fun cdv A outer s H E hr W tk hp =>
    (jb_one (js_ret (je_and (je_isi "list" (j_var 1) T.b_isinstance T.b_list (by decide +kernel)) (je_one (je_callB (cr_all rfl) cm_all T.b_all (by decide +kernel) (ja_cons (je_lc [("call", 2)] rfl rfl nd (ji_any (j_var 1)) (blkOk_by (N := ["program", "value", "call"]) (sc := defScope s_is_history) (by decide +kernel)) (fun _ _ _ _ _ => (jn_name 2 nd)) (fun _ _ _ _ _ => jts_nil) (fun _ _ _ _ _ => (jx_call I_is_call hr (Nat.le_succ _) M.tk0 (ja_cons (j_var 2) (ja_cons (j_var 0) ja_nil)) (hlen := (mCons_len (mCons_len mNil_len))))) (hgs_name)) ja_nil))))))
abbrev s_check_history : Stmt := topS 21
theorem sc_check_history : FnScope ["program", "history"] ["program", "history"] (defScope s_check_history) := ⟨rfl, rfl, rfl, by decide +kernel, rfl, by decide +kernel, by decide +kernel⟩
noncomputable def b_check_history (ck : Fnm → MF) : MS := (mIfS (mNotT (mTru (mCall (ck .is_history) (mCons (mVar 0) (mCons (mVar 1) mNil)))))
    (mRaise "InvalidHistory")
    mSkip)
noncomputable def f_check_history (ck : Fnm → MF) : MF := fun ds m => endOf (b_check_history ck (startM 2 ds) m)
theorem ok_check_history {M : Mode} {P : Program} {w : World} {K : PySem.W.Frag} {mg : Str → Option Value} {base : Heap} {k : Nat} {f : Addr} {fd : FuncData} {ck : Fnm → MF} (Fu : Fun K "check_history" "check_history" s_check_history f fd) (T : Txt K w mg) (I_is_history : FnX M P w K mg base k "is_history" 2 (ck .is_history)) :
    FnOk P w K mg base (M.CX P w) (k + 2) f fd ["program", "history"] (spM K 2 (f_check_history ck)) :=
  have nd := sc_check_history.nd
  fnx_ok (M := M) (g := b_check_history ck) Fu sc_check_history rfl (fun _ _ _ => rfl) fun cdv A outer s H E hr W tk hp =>
    (jb_one (js_if (jt_not (jt_tru (jx_call I_is_history hr (Nat.le_succ _) tk (ja_cons (j_var 0) (ja_cons (j_var 1) ja_nil)) (hlen := (mCons_len (mCons_len mNil_len))))))
    (jb_one (jx_raise (M := M) T.x_InvalidHistory rfl tk))
    jb_nil))
abbrev s_check_machine : Stmt := topS 26
theorem sc_check_machine : FnScope ["machine", "parameters", "begin", "states", "places_of_states", "places", "tree", "_", "at", "name", "value"] ["machine"] (defScope s_check_machine) := ⟨rfl, rfl, rfl, by decide +kernel, rfl, by decide +kernel, by decide +kernel⟩
noncomputable def b_check_machine (ck : Fnm → MF) : MS := (mSeq (mIfS (mOrT (mNotT (mTru (mIsi "tuple" (mVar 0)))) (mB (mBin (gEqA true) (mCall gLen (mCons (mVar 0) mNil)) (mC (.int 3)))))
    (mRaise "InvalidMachine")
    mSkip)
    (mSeq (mAsg (mVar 0) (nTup 3 (nCons (nName 1) (nCons (nName 2) (nCons (nName 3) nNil)))))
    (mSeq (mIfS (mOrT (mNotT (mTru (mIsi "tuple" (mVar 1)))) (mB (mBin gGt (mCall gLen (mCons (mVar 1) mNil)) (mC c_MOST_PARAMETERS))))
    (mRaise "InvalidMachine")
    mSkip)
    (mSeq (mIfS (mNotT (mTru (mCall gAll (mCons (mLc (mEnum (mCons (mVar 1) mNil)) (ngTup 2 (ngCons (ngName 8) (ngCons (ngName 9) ngNil))) mYes (mAnd (mCall (ck .is_name) (mCons (mVar 9) mNil)) (mBin (gInC true) (mVar 9) (mSl (mVar 1) mNo (mEnd (mVar 8))))) [9, 8]) mNil))))
    (mRaise "InvalidMachine")
    mSkip)
    (mSeq (mIfS (mOrT (mNotT (mTru (mIsi "tuple" (mVar 3)))) (mNotT (mB (mChain gLeS gLeS (mC (.int 1)) (mCall gLen (mCons (mVar 3) mNil)) (mC c_MOST_STATES)))))
    (mRaise "InvalidMachine")
    mSkip)
    (mSeq (mIfS (mNotT (mTru (mCall gAll (mCons (mLc (mAnyI (mVar 3)) (ngName 10) mYes (mCall (ck .u_is_machine_state) (mCons (mVar 10) mNil)) [10]) mNil))))
    (mRaise "InvalidMachine")
    mSkip)
    (mSeq (mIfS (mOrT (mNotT (mTru (mCall (ck .u_is_number) (mCons (mVar 2) (mCons (mCall gLen (mCons (mVar 3) mNil)) mNil))))) (mB (mBin (gEqA true) (mBin gItem (mBin gItem (mVar 3) (mVar 2)) (mC (.int 0))) (mC (.int 0)))))
    (mRaise "InvalidMachine")
    mSkip)
    (mSeq (mAsg (mLc (mAnyI (mVar 3)) (ngTup 2 (ngCons (ngName 5) (ngCons (ngName 7) ngNil))) mYes (mVar 5) [7, 5]) (nName 4))
    (mFor (mAnyI (mVar 3)) (nTup 2 (nCons (nName 5) (nCons (nName 6) nNil)))
    (mDrop (mCall (ck .u_check_tree) (mCons (mVar 6) (mCons (mCall (gMake "Room" (ck .i_Room)) (mCons (mCall gLen (mCons (mVar 1) mNil)) (mCons (mVar 4) (mCons (mVar 5) mNil)))) (mCons (mTup mNil) (mCons (mC (.int 1)) mNil)))))))))))))))
noncomputable def f_check_machine (ck : Fnm → MF) : MF := fun ds m => endOf (b_check_machine ck (startM 11 ds) m)
theorem ok_check_machine {M : Mode} {P : Program} {w : World} {K : PySem.W.Frag} {mg : Str → Option Value} {base : Heap} {k : Nat} {f : Addr} {fd : FuncData} {ck : Fnm → MF} (Fu : Fun K "check_machine" "check_machine" s_check_machine f fd) (T : Txt K w mg) (I_u_check_tree : FnX M P w K mg base k "_check_tree" 4 (ck .u_check_tree)) (I_u_is_machine_state : FnX M P w K mg base k "_is_machine_state" 1 (ck .u_is_machine_state)) (I_u_is_number : FnX M P w K mg base k "_is_number" 2 (ck .u_is_number)) (I_is_name : FnX M P w K mg base k "is_name" 1 (ck .is_name)) (I_i_Room : MkX M P w K mg base k "Room" 3 (ck .i_Room)) :
    FnOk P w K mg base (M.CX P w) (k + 2) f fd ["machine"] (spM K 1 (f_check_machine ck)) :=
  have nd := sc_check_machine.nd
  fnx_ok (M := M) (g := b_check_machine ck) Fu sc_check_machine rfl (fun _ _ _ => rfl) fun cdv A outer s H E hr W tk hp =>
    (jb_cons (js_if (jw_or (jt_not (jt_tru (je_isi "tuple" (j_var 0) T.b_isinstance T.b_tuple (by decide +kernel)))) (jw_or1 (jt_cmp (op_neA (hu64 hr)) om_neA (je_callB cr_len cm_len T.b_len PySem.boot_len (ja_cons (j_var 0) ja_nil)) j_int))).jt
    (jb_one (jx_raise (M := M) T.x_InvalidMachine rfl tk))
    jb_nil)
    (jb_cons (js_asg (j_var 0) (jg_tup rfl (jgs_cons (jg_name 1 nd) (jgs_cons (jg_name 2 nd) (jgs_cons (jg_name 3 nd) jgs_nil)))))
    (jb_cons (js_if (jw_or (jt_not (jt_tru (je_isi "tuple" (j_var 1) T.b_isinstance T.b_tuple (by decide +kernel)))) (jw_or1 (jt_cmp op_gt om_gt (je_callB cr_len cm_len T.b_len PySem.boot_len (ja_cons (j_var 1) ja_nil)) (j_con T.c_MOST_PARAMETERS)))).jt
    (jb_one (jx_raise (M := M) T.x_InvalidMachine rfl tk))
    jb_nil)
    (jb_cons (js_if (jt_not (jt_tru (je_callB (cr_all rfl) cm_all T.b_all (by decide +kernel) (ja_cons (je_lc [("name", 9), ("at", 8)] rfl rfl nd (ji_enum T.b_enumerate (ja_cons (j_var 1) ja_nil)) (blkOk_by (N := ["machine", "parameters", "begin", "states", "places_of_states", "places", "tree", "_", "at", "name", "value"]) (sc := defScope s_check_machine) (by decide +kernel)) (fun _ _ _ _ _ => (jn_tup rfl (jn_cons (jn_name 8 nd) (jn_cons (jn_name 9 nd) jn_nil)))) (fun _ _ _ _ _ => jts_nil) (fun _ _ _ _ _ => (je_and (jx_call I_is_name hr (Nat.le_succ _) M.tk0 (ja_cons (j_var 9) ja_nil) (hlen := (mCons_len mNil_len))) (je_one (je_ninC (hu1 hr) (hu65 hr) (j_var 9) (je_sl (j_var 1) jo_no (jo_end (j_var 8))))))) (by (first | exact MI.wr_tup (MI.wr_cons (MI.wr_name (by decide)) (MI.wr_cons (MI.wr_name (by decide)) MI.wr_nil)) | exact MI.wr_tup (MI.wr_cons (MI.wr_name (by decide)) (MI.wr_cons (MI.wr_name (by decide)) (MI.wr_cons (MI.wr_name (by decide)) MI.wr_nil)))))) ja_nil))))
    (jb_one (jx_raise (M := M) T.x_InvalidMachine rfl tk))
    jb_nil)
    (jb_cons (js_if (jw_or (jt_not (jt_tru (je_isi "tuple" (j_var 3) T.b_isinstance T.b_tuple (by decide +kernel)))) (jw_or1 (jt_not (jt_chain op_leA op_leA om_leA om_leA j_int (je_callB cr_len cm_len T.b_len PySem.boot_len (ja_cons (j_var 3) ja_nil)) (j_con T.c_MOST_STATES))))).jt
    (jb_one (jx_raise (M := M) T.x_InvalidMachine rfl tk))
    jb_nil)
    (jb_cons (js_if (jt_not (jt_tru (je_callB (cr_all rfl) cm_all T.b_all (by decide +kernel) (ja_cons (je_lc [("value", 10)] rfl rfl nd (ji_any (j_var 3)) (blkOk_by (N := ["machine", "parameters", "begin", "states", "places_of_states", "places", "tree", "_", "at", "name", "value"]) (sc := defScope s_check_machine) (by decide +kernel)) (fun _ _ _ _ _ => (jn_name 10 nd)) (fun _ _ _ _ _ => jts_nil) (fun _ _ _ _ _ => (jx_call I_u_is_machine_state hr (Nat.le_succ _) M.tk0 (ja_cons (j_var 10) ja_nil) (hlen := (mCons_len mNil_len)))) (hgs_name)) ja_nil))))
    (jb_one (jx_raise (M := M) T.x_InvalidMachine rfl tk))
    jb_nil)
    (jb_cons (js_if (jw_or (jt_not (jt_tru (jx_call I_u_is_number hr (Nat.le_succ _) tk (ja_cons (j_var 2) (ja_cons (je_callB cr_len cm_len T.b_len PySem.boot_len (ja_cons (j_var 3) ja_nil)) ja_nil)) (hlen := (mCons_len (mCons_len mNil_len)))))) (jw_or1 (jt_cmp (op_neA (hu64 hr)) om_neA (je_item (hu1 hr) (je_item (hu1 hr) (j_var 3) (j_var 2)) j_int) j_int))).jt
    (jb_one (jx_raise (M := M) T.x_InvalidMachine rfl tk))
    jb_nil)
    (jb_cons (js_setLc 4 [("_", 7), ("places", 5)] rfl rfl nd (ji_any (j_var 3)) (blkOk_by (N := ["machine", "parameters", "begin", "states", "places_of_states", "places", "tree", "_", "at", "name", "value"]) (sc := defScope s_check_machine) (by decide +kernel)) (fun _ _ _ _ _ => (jn_tup rfl (jn_cons (jn_name 5 nd) (jn_cons (jn_name 7 nd) jn_nil)))) (fun _ _ _ _ _ => jts_nil) (fun _ _ _ _ _ => (j_var 5)) (by (first | exact MI.wr_tup (MI.wr_cons (MI.wr_name (by decide)) (MI.wr_cons (MI.wr_name (by decide)) MI.wr_nil)) | exact MI.wr_tup (MI.wr_cons (MI.wr_name (by decide)) (MI.wr_cons (MI.wr_name (by decide)) (MI.wr_cons (MI.wr_name (by decide)) MI.wr_nil))))))
    (jb_one (js_for hp rfl (ji_any (j_var 3)) (jg_tup rfl (jgs_cons (jg_name 5 nd) (jgs_cons (jg_name 6 nd) jgs_nil)))
    (jb_one (js_expr (jx_call I_u_check_tree hr (Nat.le_succ _) tk (ja_cons (j_var 6) (ja_cons (jx_make I_i_Room hr (Nat.le_refl _) (ja_cons (je_callB cr_len cm_len T.b_len PySem.boot_len (ja_cons (j_var 1) ja_nil)) (ja_cons (j_var 4) (ja_cons (j_var 5) ja_nil))) (hlen := (mCons_len (mCons_len (mCons_len mNil_len))))) (ja_cons (je_tup ja_nil) (ja_cons j_int ja_nil)))) (hlen := (mCons_len (mCons_len (mCons_len (mCons_len mNil_len))))))))))))))))))
abbrev s_u_is_machine_state : Stmt := topS 27
theorem sc_u_is_machine_state : FnScope ["value"] ["value"] (defScope s_u_is_machine_state) := ⟨rfl, rfl, rfl, by decide +kernel, rfl, by decide +kernel, by decide +kernel⟩
noncomputable def b_u_is_machine_state (ck : Fnm → MF) : MS := (mRet (mAnd (mIsi "tuple" (mVar 0)) (mAnd (mBin (gEqA false) (mCall gLen (mCons (mVar 0) mNil)) (mC (.int 2))) (mCall (ck .u_is_number) (mCons (mBin gItem (mVar 0) (mC (.int 0))) (mCons (mBin gAdd (mC c_MOST_HELD) (mC (.int 1))) mNil))))))
noncomputable def f_u_is_machine_state (ck : Fnm → MF) : MF := fun ds m => endOf (b_u_is_machine_state ck (startM 1 ds) m)
theorem ok_u_is_machine_state {M : Mode} {P : Program} {w : World} {K : PySem.W.Frag} {mg : Str → Option Value} {base : Heap} {k : Nat} {f : Addr} {fd : FuncData} {ck : Fnm → MF} (Fu : Fun K "_is_machine_state" "_is_machine_state" s_u_is_machine_state f fd) (T : Txt K w mg) (I_u_is_number : FnX M P w K mg base k "_is_number" 2 (ck .u_is_number)) :
    FnOk P w K mg base (M.CX P w) (k + 2) f fd ["value"] (spM K 1 (f_u_is_machine_state ck)) :=
  have nd := sc_u_is_machine_state.nd
  fnx_ok (M := M) (g := b_u_is_machine_state ck) Fu sc_u_is_machine_state rfl (fun _ _ _ => rfl) fun cdv A outer s H E hr W tk hp =>
    (jb_one (js_ret (je_and (je_isi "tuple" (j_var 0) T.b_isinstance T.b_tuple (by decide +kernel)) (je_and (j_cmp (op_eqA (hu64 hr)) om_eqA (je_callB cr_len cm_len T.b_len PySem.boot_len (ja_cons (j_var 0) ja_nil)) j_int) (je_one (jx_call I_u_is_number hr (Nat.le_succ _) tk (ja_cons (je_item (hu1 hr) (j_var 0) j_int) (ja_cons (j_op op_addA om_add (j_con T.c_MOST_HELD) j_int) ja_nil)) (hlen := (mCons_len (mCons_len mNil_len)))))))))
abbrev s_u_is_number : Stmt := topS 28
theorem sc_u_is_number : FnScope ["value", "many"] ["value", "many"] (defScope s_u_is_number) := ⟨rfl, rfl, rfl, by decide +kernel, rfl, by decide +kernel, by decide +kernel⟩
noncomputable def b_u_is_number (ck : Fnm → MF) : MS := (mRet (mAnd (mCall (ck .is_integer) (mCons (mVar 0) mNil)) (mChain gLeS gLt (mC (.int 0)) (mVar 0) (mVar 1))))
noncomputable def f_u_is_number (ck : Fnm → MF) : MF := fun ds m => endOf (b_u_is_number ck (startM 2 ds) m)
theorem ok_u_is_number {M : Mode} {P : Program} {w : World} {K : PySem.W.Frag} {mg : Str → Option Value} {base : Heap} {k : Nat} {f : Addr} {fd : FuncData} {ck : Fnm → MF} (Fu : Fun K "_is_number" "_is_number" s_u_is_number f fd) (T : Txt K w mg) (I_is_integer : FnX M P w K mg base k "is_integer" 1 (ck .is_integer)) :
    FnOk P w K mg base (M.CX P w) (k + 2) f fd ["value", "many"] (spM K 2 (f_u_is_number ck)) :=
  have nd := sc_u_is_number.nd
  fnx_ok (M := M) (g := b_u_is_number ck) Fu sc_u_is_number rfl (fun _ _ _ => rfl) fun cdv A outer s H E hr W tk hp =>
    (jb_one (js_ret (je_and (jx_call I_is_integer hr (Nat.le_succ _) tk (ja_cons (j_var 0) ja_nil) (hlen := (mCons_len mNil_len))) (je_one (je_chain op_leA op_lt om_leA om_lt j_int (j_var 0) (j_var 1))))))
abbrev s_u_check_tree : Stmt := topS 30
theorem sc_u_check_tree : FnScope ["tree", "room", "happened", "level", "behind", "_", "word", "operands"] ["tree", "room", "happened", "level"] (defScope s_u_check_tree) := ⟨rfl, rfl, rfl, by decide +kernel, rfl, by decide +kernel, by decide +kernel⟩
noncomputable def b_u_check_tree (ck : Fnm → MF) : MS := (mSeq (mIfS (mOrT (mB (mBin gGt (mVar 3) (mC c_MOST_TREE_LEVELS))) (mOrT (mNotT (mTru (mIsi "tuple" (mVar 0)))) (mB (mBin (gEqA false) (mCall gLen (mCons (mVar 0) mNil)) (mC (.int 0))))))
    (mRaise "InvalidMachine")
    mSkip)
    (mIfS (mAndT (mB (mBin (gEqA false) (mBin gItem (mVar 0) (mC (.int 0))) (mC (.str "end")))) (mB (mBin (gEqA false) (mCall gLen (mCons (mVar 0) mNil)) (mC (.int 4)))))
    (mDrop (mCall (ck .u_check_end) (mCons (mVar 0) (mCons (mVar 1) (mCons (mVar 2) mNil)))))
    (mIfS (mAndT (mB (mBin (gEqA false) (mBin gItem (mVar 0) (mC (.int 0))) (mC (.str "test")))) (mB (mBin (gEqA false) (mCall gLen (mCons (mVar 0) mNil)) (mC (.int 3)))))
    (mSeq (mIfS (mOrT (mNotT (mTru (mCall (ck .u_is_object) (mCons (mBin gItem (mVar 0) (mC (.int 1))) (mCons (mVar 1) (mCons (mVar 2) mNil)))))) (mNotT (mTru (mCall (ck .u_is_tuple_of) (mCons (mBin gItem (mVar 0) (mC (.int 2))) (mCons (mCall gLen (mCons (mC c_KINDS) mNil)) mNil))))))
    (mRaise "InvalidMachine")
    mSkip)
    (mFor (mAnyI (mBin gItem (mVar 0) (mC (.int 2)))) (nName 4)
    (mDrop (mCall (ck .u_check_tree) (mCons (mVar 4) (mCons (mVar 1) (mCons (mVar 2) (mCons (mBin gAdd (mVar 3) (mC (.int 1))) mNil))))))))
    (mIfS (mAndT (mB (mBin (gEqA false) (mBin gItem (mVar 0) (mC (.int 0))) (mC (.str "ask")))) (mB (mBin (gEqA false) (mCall gLen (mCons (mVar 0) mNil)) (mC (.int 4)))))
    (mSeq (mAsg (mVar 0) (nTup 4 (nCons (nName 5) (nCons (nName 6) (nCons (nName 7) (nCons (nName 4) nNil))))))
    (mSeq (mIfS (mOrT (mB (mBin (gEqA false) (mCall gLen (mCons (mVar 2) mNil)) (mC c_MOST_PLACES))) (mNotT (mTru (mCall (ck .u_are_operands) (mCons (mVar 6) (mCons (mVar 7) (mCons (mVar 1) (mCons (mVar 2) mNil))))))))
    (mRaise "InvalidMachine")
    mSkip)
    (mSeq (mIfS (mNotT (mTru (mCall (ck .u_is_tuple_of) (mCons (mVar 4) (mCons (mC (.int 2)) mNil)))))
    (mRaise "InvalidMachine")
    mSkip)
    (mSeq (mDrop (mCall (ck .u_check_tree) (mCons (mBin gItem (mVar 4) (mC (.int 0))) (mCons (mVar 1) (mCons (mTup (mStar (mVar 2) (mCons (mC (.bl false)) mNil))) (mCons (mBin gAdd (mVar 3) (mC (.int 1))) mNil))))))
    (mDrop (mCall (ck .u_check_tree) (mCons (mBin gItem (mVar 4) (mC (.int 1))) (mCons (mVar 1) (mCons (mTup (mStar (mVar 2) (mCons (mC (.bl true)) mNil))) (mCons (mBin gAdd (mVar 3) (mC (.int 1))) mNil))))))))))
    (mRaise "InvalidMachine")))))
noncomputable def f_u_check_tree (ck : Fnm → MF) : MF := fun ds m => endOf (b_u_check_tree ck (startM 8 ds) m)
theorem ok_u_check_tree {M : Mode} {P : Program} {w : World} {K : PySem.W.Frag} {mg : Str → Option Value} {base : Heap} {k : Nat} {f : Addr} {fd : FuncData} {ck : Fnm → MF} (Fu : Fun K "_check_tree" "_check_tree" s_u_check_tree f fd) (T : Txt K w mg) (I_u_are_operands : FnX M P w K mg base k "_are_operands" 4 (ck .u_are_operands)) (I_u_check_end : FnX M P w K mg base k "_check_end" 3 (ck .u_check_end)) (I_u_check_tree : FnX M P w K mg base k "_check_tree" 4 (ck .u_check_tree)) (I_u_is_object : FnX M P w K mg base k "_is_object" 3 (ck .u_is_object)) (I_u_is_tuple_of : FnX M P w K mg base k "_is_tuple_of" 2 (ck .u_is_tuple_of)) :
    FnOk P w K mg base (M.CX P w) (k + 2) f fd ["tree", "room", "happened", "level"] (spM K 4 (f_u_check_tree ck)) :=
  have nd := sc_u_check_tree.nd
  fnx_ok (M := M) (g := b_u_check_tree ck) Fu sc_u_check_tree rfl (fun _ _ _ => rfl) fun cdv A outer s H E hr W tk hp =>
    (jb_cons (js_if (jw_or (jt_cmp op_gt om_gt (j_var 3) (j_con T.c_MOST_TREE_LEVELS)) (jw_or (jt_not (jt_tru (je_isi "tuple" (j_var 0) T.b_isinstance T.b_tuple (by decide +kernel)))) (jw_or1 (jt_cmp (op_eqA (hu64 hr)) om_eqA (je_callB cr_len cm_len T.b_len PySem.boot_len (ja_cons (j_var 0) ja_nil)) j_int)))).jt
    (jb_one (jx_raise (M := M) T.x_InvalidMachine rfl tk))
    jb_nil)
    (jb_one (js_if (jw_and (jt_cmp (op_eqA (hu64 hr)) om_eqA (je_item (hu1 hr) (j_var 0) j_int) j_str) (jw_and1 (jt_cmp (op_eqA (hu64 hr)) om_eqA (je_callB cr_len cm_len T.b_len PySem.boot_len (ja_cons (j_var 0) ja_nil)) j_int))).jt
    (jb_one (js_expr (jx_call I_u_check_end hr (Nat.le_succ _) tk (ja_cons (j_var 0) (ja_cons (j_var 1) (ja_cons (j_var 2) ja_nil))) (hlen := (mCons_len (mCons_len (mCons_len mNil_len)))))))
    (jb_one (js_if (jw_and (jt_cmp (op_eqA (hu64 hr)) om_eqA (je_item (hu1 hr) (j_var 0) j_int) j_str) (jw_and1 (jt_cmp (op_eqA (hu64 hr)) om_eqA (je_callB cr_len cm_len T.b_len PySem.boot_len (ja_cons (j_var 0) ja_nil)) j_int))).jt
    (jb_cons (js_if (jw_or (jt_not (jt_tru (jx_call I_u_is_object hr (Nat.le_succ _) tk (ja_cons (je_item (hu1 hr) (j_var 0) j_int) (ja_cons (j_var 1) (ja_cons (j_var 2) ja_nil))) (hlen := (mCons_len (mCons_len (mCons_len mNil_len))))))) (jw_or1 (jt_not (jt_tru (jx_call I_u_is_tuple_of hr (Nat.le_succ _) tk (ja_cons (je_item (hu1 hr) (j_var 0) j_int) (ja_cons (je_callB cr_len cm_len T.b_len PySem.boot_len (ja_cons (j_con T.c_KINDS) ja_nil)) ja_nil)) (hlen := (mCons_len (mCons_len mNil_len)))))))).jt
    (jb_one (jx_raise (M := M) T.x_InvalidMachine rfl tk))
    jb_nil)
    (jb_one (js_for hp rfl (ji_any (je_item (hu1 hr) (j_var 0) j_int)) (jg_name 4 nd)
    (jb_one (js_expr (jx_call I_u_check_tree hr (Nat.le_succ _) tk (ja_cons (j_var 4) (ja_cons (j_var 1) (ja_cons (j_var 2) (ja_cons (j_op op_addA om_add (j_var 3) j_int) ja_nil)))) (hlen := (mCons_len (mCons_len (mCons_len (mCons_len mNil_len)))))))))))
    (jb_one (js_if (jw_and (jt_cmp (op_eqA (hu64 hr)) om_eqA (je_item (hu1 hr) (j_var 0) j_int) j_str) (jw_and1 (jt_cmp (op_eqA (hu64 hr)) om_eqA (je_callB cr_len cm_len T.b_len PySem.boot_len (ja_cons (j_var 0) ja_nil)) j_int))).jt
    (jb_cons (js_asg (j_var 0) (jg_tup rfl (jgs_cons (jg_name 5 nd) (jgs_cons (jg_name 6 nd) (jgs_cons (jg_name 7 nd) (jgs_cons (jg_name 4 nd) jgs_nil))))))
    (jb_cons (js_if (jw_or (jt_cmp (op_eqA (hu64 hr)) om_eqA (je_callB cr_len cm_len T.b_len PySem.boot_len (ja_cons (j_var 2) ja_nil)) (j_con T.c_MOST_PLACES)) (jw_or1 (jt_not (jt_tru (jx_call I_u_are_operands hr (Nat.le_succ _) tk (ja_cons (j_var 6) (ja_cons (j_var 7) (ja_cons (j_var 1) (ja_cons (j_var 2) ja_nil)))) (hlen := (mCons_len (mCons_len (mCons_len (mCons_len mNil_len)))))))))).jt
    (jb_one (jx_raise (M := M) T.x_InvalidMachine rfl tk))
    jb_nil)
    (jb_cons (js_if (jt_not (jt_tru (jx_call I_u_is_tuple_of hr (Nat.le_succ _) tk (ja_cons (j_var 4) (ja_cons j_int ja_nil)) (hlen := (mCons_len (mCons_len mNil_len))))))
    (jb_one (jx_raise (M := M) T.x_InvalidMachine rfl tk))
    jb_nil)
    (jb_cons (js_expr (jx_call I_u_check_tree hr (Nat.le_succ _) tk (ja_cons (je_item (hu1 hr) (j_var 4) j_int) (ja_cons (j_var 1) (ja_cons (je_tup (ja_star (j_var 2) (ja_cons j_bl ja_nil))) (ja_cons (j_op op_addA om_add (j_var 3) j_int) ja_nil)))) (hlen := (mCons_len (mCons_len (mCons_len (mCons_len mNil_len)))))))
    (jb_one (js_expr (jx_call I_u_check_tree hr (Nat.le_succ _) tk (ja_cons (je_item (hu1 hr) (j_var 4) j_int) (ja_cons (j_var 1) (ja_cons (je_tup (ja_star (j_var 2) (ja_cons j_bl ja_nil))) (ja_cons (j_op op_addA om_add (j_var 3) j_int) ja_nil)))) (hlen := (mCons_len (mCons_len (mCons_len (mCons_len mNil_len))))))))))))
    (jb_one (jx_raise (M := M) T.x_InvalidMachine rfl tk)))))))))
abbrev s_u_is_tuple_of : Stmt := topS 31
theorem sc_u_is_tuple_of : FnScope ["value", "many"] ["value", "many"] (defScope s_u_is_tuple_of) := ⟨rfl, rfl, rfl, by decide +kernel, rfl, by decide +kernel, by decide +kernel⟩
noncomputable def b_u_is_tuple_of (ck : Fnm → MF) : MS := (mRet (mAnd (mIsi "tuple" (mVar 0)) (mBin (gEqA false) (mCall gLen (mCons (mVar 0) mNil)) (mVar 1))))
noncomputable def f_u_is_tuple_of (ck : Fnm → MF) : MF := fun ds m => endOf (b_u_is_tuple_of ck (startM 2 ds) m)
theorem ok_u_is_tuple_of {M : Mode} {P : Program} {w : World} {K : PySem.W.Frag} {mg : Str → Option Value} {base : Heap} {k : Nat} {f : Addr} {fd : FuncData} {ck : Fnm → MF} (Fu : Fun K "_is_tuple_of" "_is_tuple_of" s_u_is_tuple_of f fd) (T : Txt K w mg) :
    FnOk P w K mg base (M.CX P w) (k + 2) f fd ["value", "many"] (spM K 2 (f_u_is_tuple_of ck)) :=
  have nd := sc_u_is_tuple_of.nd
  fnx_ok (M := M) (g := b_u_is_tuple_of ck) Fu sc_u_is_tuple_of rfl (fun _ _ _ => rfl) fun cdv A outer s H E hr W tk hp =>
    (jb_one (js_ret (je_and (je_isi "tuple" (j_var 0) T.b_isinstance T.b_tuple (by decide +kernel)) (je_one (j_cmp (op_eqA (hu64 hr)) om_eqA (je_callB cr_len cm_len T.b_len PySem.boot_len (ja_cons (j_var 0) ja_nil)) (j_var 1))))))
abbrev s_u_check_end : Stmt := topS 32
theorem sc_u_check_end : FnScope ["tree", "room", "happened", "_", "outcome", "following", "hold", "value"] ["tree", "room", "happened"] (defScope s_u_check_end) := ⟨rfl, rfl, rfl, by decide +kernel, rfl, by decide +kernel, by decide +kernel⟩
noncomputable def b_u_check_end (ck : Fnm → MF) : MS := (mSeq (mAsg (mVar 0) (nTup 4 (nCons (nName 3) (nCons (nName 4) (nCons (nName 5) (nCons (nName 6) nNil))))))
    (mSeq (mIfS (mOrT (mNotT (mTru (mCall (ck .u_is_tuple_of) (mCons (mVar 4) (mCons (mC (.int 2)) mNil))))) (mNotT (mTru (mCall (ck .u_is_outcome) (mCons (mVar 4) (mCons (mVar 1) (mCons (mVar 2) mNil)))))))
    (mRaise "InvalidMachine")
    mSkip)
    (mSeq (mIfS (mOrT (mNotT (mTru (mCall (ck .u_is_number) (mCons (mVar 5) (mCons (mCall gLen (mCons (mFld pf_states "states" (mVar 1)) mNil)) mNil))))) (mNotT (mTru (mCall (ck .u_is_tuple_of) (mCons (mVar 6) (mCons (mBin gItem (mFld pf_states "states" (mVar 1)) (mVar 5)) mNil))))))
    (mRaise "InvalidMachine")
    mSkip)
    (mIfS (mNotT (mTru (mCall gAll (mCons (mLc (mAnyI (mVar 6)) (ngName 7) mYes (mCall (ck .u_is_object) (mCons (mVar 7) (mCons (mVar 1) (mCons (mVar 2) mNil)))) [7]) mNil))))
    (mRaise "InvalidMachine")
    mSkip))))
noncomputable def f_u_check_end (ck : Fnm → MF) : MF := fun ds m => endOf (b_u_check_end ck (startM 8 ds) m)
theorem ok_u_check_end {M : Mode} {P : Program} {w : World} {K : PySem.W.Frag} {mg : Str → Option Value} {base : Heap} {k : Nat} {f : Addr} {fd : FuncData} {ck : Fnm → MF} (Fu : Fun K "_check_end" "_check_end" s_u_check_end f fd) (T : Txt K w mg) (I_u_is_number : FnX M P w K mg base k "_is_number" 2 (ck .u_is_number)) (I_u_is_object : FnX M P w K mg base k "_is_object" 3 (ck .u_is_object)) (I_u_is_outcome : FnX M P w K mg base k "_is_outcome" 3 (ck .u_is_outcome)) (I_u_is_tuple_of : FnX M P w K mg base k "_is_tuple_of" 2 (ck .u_is_tuple_of)) :
    FnOk P w K mg base (M.CX P w) (k + 2) f fd ["tree", "room", "happened"] (spM K 3 (f_u_check_end ck)) :=
  have nd := sc_u_check_end.nd
  fnx_ok (M := M) (g := b_u_check_end ck) Fu sc_u_check_end rfl (fun _ _ _ => rfl) fun cdv A outer s H E hr W tk hp =>
    (jb_cons (js_asg (j_var 0) (jg_tup rfl (jgs_cons (jg_name 3 nd) (jgs_cons (jg_name 4 nd) (jgs_cons (jg_name 5 nd) (jgs_cons (jg_name 6 nd) jgs_nil))))))
    (jb_cons (js_if (jw_or (jt_not (jt_tru (jx_call I_u_is_tuple_of hr (Nat.le_succ _) tk (ja_cons (j_var 4) (ja_cons j_int ja_nil)) (hlen := (mCons_len (mCons_len mNil_len)))))) (jw_or1 (jt_not (jt_tru (jx_call I_u_is_outcome hr (Nat.le_succ _) tk (ja_cons (j_var 4) (ja_cons (j_var 1) (ja_cons (j_var 2) ja_nil))) (hlen := (mCons_len (mCons_len (mCons_len mNil_len))))))))).jt
    (jb_one (jx_raise (M := M) T.x_InvalidMachine rfl tk))
    jb_nil)
    (jb_cons (js_if (jw_or (jt_not (jt_tru (jx_call I_u_is_number hr (Nat.le_succ _) tk (ja_cons (j_var 5) (ja_cons (je_callB cr_len cm_len T.b_len PySem.boot_len (ja_cons (je_fld (j_var 1) T.f_states) ja_nil)) ja_nil)) (hlen := (mCons_len (mCons_len mNil_len)))))) (jw_or1 (jt_not (jt_tru (jx_call I_u_is_tuple_of hr (Nat.le_succ _) tk (ja_cons (j_var 6) (ja_cons (je_item (hu1 hr) (je_fld (j_var 1) T.f_states) (j_var 5)) ja_nil)) (hlen := (mCons_len (mCons_len mNil_len)))))))).jt
    (jb_one (jx_raise (M := M) T.x_InvalidMachine rfl tk))
    jb_nil)
    (jb_one (js_if (jt_not (jt_tru (je_callB (cr_all rfl) cm_all T.b_all (by decide +kernel) (ja_cons (je_lc [("value", 7)] rfl rfl nd (ji_any (j_var 6)) (blkOk_by (N := ["tree", "room", "happened", "_", "outcome", "following", "hold", "value"]) (sc := defScope s_u_check_end) (by decide +kernel)) (fun _ _ _ _ _ => (jn_name 7 nd)) (fun _ _ _ _ _ => jts_nil) (fun _ _ _ _ _ => (jx_call I_u_is_object hr (Nat.le_succ _) M.tk0 (ja_cons (j_var 7) (ja_cons (j_var 1) (ja_cons (j_var 2) ja_nil))) (hlen := (mCons_len (mCons_len (mCons_len mNil_len)))))) (hgs_name)) ja_nil))))
    (jb_one (jx_raise (M := M) T.x_InvalidMachine rfl tk))
    jb_nil)))))
abbrev s_u_is_outcome : Stmt := topS 33
theorem sc_u_is_outcome : FnScope ["outcome", "room", "happened", "word", "value"] ["outcome", "room", "happened"] (defScope s_u_is_outcome) := ⟨rfl, rfl, rfl, by decide +kernel, rfl, by decide +kernel, by decide +kernel⟩
noncomputable def b_u_is_outcome (ck : Fnm → MF) : MS := (mSeq (mAsg (mVar 0) (nTup 2 (nCons (nName 3) (nCons (nName 4) nNil))))
    (mSeq (mIfS (mB (mBin (gEqA false) (mVar 3) (mC (.str "failed"))))
    (mRet (mAnd (mCall (ck .u_is_number) (mCons (mVar 4) (mCons (mCall gLen (mCons (mVar 2) mNil)) mNil))) (mBin gItem (mVar 2) (mVar 4))))
    mSkip)
    (mRet (mAnd (mBin (gEqA false) (mVar 3) (mC (.str "value"))) (mCall (ck .u_is_operand) (mCons (mVar 4) (mCons (mVar 1) (mCons (mVar 2) mNil))))))))
noncomputable def f_u_is_outcome (ck : Fnm → MF) : MF := fun ds m => endOf (b_u_is_outcome ck (startM 5 ds) m)
theorem ok_u_is_outcome {M : Mode} {P : Program} {w : World} {K : PySem.W.Frag} {mg : Str → Option Value} {base : Heap} {k : Nat} {f : Addr} {fd : FuncData} {ck : Fnm → MF} (Fu : Fun K "_is_outcome" "_is_outcome" s_u_is_outcome f fd) (T : Txt K w mg) (I_u_is_number : FnX M P w K mg base k "_is_number" 2 (ck .u_is_number)) (I_u_is_operand : FnX M P w K mg base k "_is_operand" 3 (ck .u_is_operand)) :
    FnOk P w K mg base (M.CX P w) (k + 2) f fd ["outcome", "room", "happened"] (spM K 3 (f_u_is_outcome ck)) :=
  have nd := sc_u_is_outcome.nd
  fnx_ok (M := M) (g := b_u_is_outcome ck) Fu sc_u_is_outcome rfl (fun _ _ _ => rfl) fun cdv A outer s H E hr W tk hp =>
    (jb_cons (js_asg (j_var 0) (jg_tup rfl (jgs_cons (jg_name 3 nd) (jgs_cons (jg_name 4 nd) jgs_nil))))
    (jb_cons (js_if (jt_cmp (op_eqA (hu64 hr)) om_eqA (j_var 3) j_str)
    (jb_one (js_ret (je_and (jx_call I_u_is_number hr (Nat.le_succ _) tk (ja_cons (j_var 4) (ja_cons (je_callB cr_len cm_len T.b_len PySem.boot_len (ja_cons (j_var 2) ja_nil)) ja_nil)) (hlen := (mCons_len (mCons_len mNil_len)))) (je_one (je_item (hu1 hr) (j_var 2) (j_var 4))))))
    jb_nil)
    (jb_one (js_ret (je_and (j_cmp (op_eqA (hu64 hr)) om_eqA (j_var 3) j_str) (je_one (jx_call I_u_is_operand hr (Nat.le_succ _) tk (ja_cons (j_var 4) (ja_cons (j_var 1) (ja_cons (j_var 2) ja_nil))) (hlen := (mCons_len (mCons_len (mCons_len mNil_len)))))))))))
abbrev s_u_are_operands : Stmt := topS 34
theorem sc_u_are_operands : FnScope ["word", "values", "room", "happened", "value"] ["word", "values", "room", "happened"] (defScope s_u_are_operands) := ⟨rfl, rfl, rfl, by decide +kernel, rfl, by decide +kernel, by decide +kernel⟩
noncomputable def b_u_are_operands (ck : Fnm → MF) : MS := (mSeq (mIfS (mOrT (mNotT (mTru (mIsi "tuple" (mVar 1)))) (mNotT (mTru (mCall gAll (mCons (mLc (mAnyI (mVar 1)) (ngName 4) mYes (mCall (ck .u_is_operand) (mCons (mVar 4) (mCons (mVar 2) (mCons (mVar 3) mNil)))) [4]) mNil)))))
    (mRet (mC (.bl false)))
    mSkip)
    (mSeq (mIfS (mTru (mCall (ck .is_name) (mCons (mVar 0) mNil)))
    (mRet (mBin gLeS (mCall gLen (mCons (mVar 1) mNil)) (mC c_MOST_OPERANDS)))
    mSkip)
    (mRet (mAnd (mBin (gInB false) (mVar 0) (mC c_SIGNS)) (mBin (gEqA false) (mCall gLen (mCons (mVar 1) mNil)) (mC (.int 2)))))))
noncomputable def f_u_are_operands (ck : Fnm → MF) : MF := fun ds m => endOf (b_u_are_operands ck (startM 5 ds) m)
theorem ok_u_are_operands {M : Mode} {P : Program} {w : World} {K : PySem.W.Frag} {mg : Str → Option Value} {base : Heap} {k : Nat} {f : Addr} {fd : FuncData} {ck : Fnm → MF} (Fu : Fun K "_are_operands" "_are_operands" s_u_are_operands f fd) (T : Txt K w mg) (I_u_is_operand : FnX M P w K mg base k "_is_operand" 3 (ck .u_is_operand)) (I_is_name : FnX M P w K mg base k "is_name" 1 (ck .is_name)) :
    FnOk P w K mg base (M.CX P w) (k + 2) f fd ["word", "values", "room", "happened"] (spM K 4 (f_u_are_operands ck)) :=
  have nd := sc_u_are_operands.nd
  fnx_ok (M := M) (g := b_u_are_operands ck) Fu sc_u_are_operands rfl (fun _ _ _ => rfl) fun cdv A outer s H E hr W tk hp =>
    (jb_cons (js_if (jw_or (jt_not (jt_tru (je_isi "tuple" (j_var 1) T.b_isinstance T.b_tuple (by decide +kernel)))) (jw_or1 (jt_not (jt_tru (je_callB (cr_all rfl) cm_all T.b_all (by decide +kernel) (ja_cons (je_lc [("value", 4)] rfl rfl nd (ji_any (j_var 1)) (blkOk_by (N := ["word", "values", "room", "happened", "value"]) (sc := defScope s_u_are_operands) (by decide +kernel)) (fun _ _ _ _ _ => (jn_name 4 nd)) (fun _ _ _ _ _ => jts_nil) (fun _ _ _ _ _ => (jx_call I_u_is_operand hr (Nat.le_succ _) M.tk0 (ja_cons (j_var 4) (ja_cons (j_var 2) (ja_cons (j_var 3) ja_nil))) (hlen := (mCons_len (mCons_len (mCons_len mNil_len)))))) (hgs_name)) ja_nil)))))).jt
    (jb_one (js_ret j_bl))
    jb_nil)
    (jb_cons (js_if (jt_tru (jx_call I_is_name hr (Nat.le_succ _) tk (ja_cons (j_var 0) ja_nil) (hlen := (mCons_len mNil_len))))
    (jb_one (js_ret (j_cmp op_leA om_leA (je_callB cr_len cm_len T.b_len PySem.boot_len (ja_cons (j_var 1) ja_nil)) (j_con T.c_MOST_OPERANDS))))
    jb_nil)
    (jb_one (js_ret (je_and (je_inB (hu1 hr) (hu65 hr) (j_var 0) (j_con T.c_SIGNS)) (je_one (j_cmp (op_eqA (hu64 hr)) om_eqA (je_callB cr_len cm_len T.b_len PySem.boot_len (ja_cons (j_var 1) ja_nil)) j_int)))))))
abbrev s_u_is_operand : Stmt := topS 35
theorem sc_u_is_operand : FnScope ["value", "room", "happened"] ["value", "room", "happened"] (defScope s_u_is_operand) := ⟨rfl, rfl, rfl, by decide +kernel, rfl, by decide +kernel, by decide +kernel⟩
noncomputable def b_u_is_operand (ck : Fnm → MF) : MS := (mSeq (mIfS (mTru (mCall (ck .u_is_tuple_of) (mCons (mVar 0) (mCons (mC (.int 1)) mNil))))
    (mRet (mBin (gInB false) (mBin gItem (mVar 0) (mC (.int 0))) (mC c_CONSTANTS)))
    mSkip)
    (mRet (mCall (ck .u_is_object) (mCons (mVar 0) (mCons (mVar 1) (mCons (mVar 2) mNil))))))
noncomputable def f_u_is_operand (ck : Fnm → MF) : MF := fun ds m => endOf (b_u_is_operand ck (startM 3 ds) m)
theorem ok_u_is_operand {M : Mode} {P : Program} {w : World} {K : PySem.W.Frag} {mg : Str → Option Value} {base : Heap} {k : Nat} {f : Addr} {fd : FuncData} {ck : Fnm → MF} (Fu : Fun K "_is_operand" "_is_operand" s_u_is_operand f fd) (T : Txt K w mg) (I_u_is_object : FnX M P w K mg base k "_is_object" 3 (ck .u_is_object)) (I_u_is_tuple_of : FnX M P w K mg base k "_is_tuple_of" 2 (ck .u_is_tuple_of)) :
    FnOk P w K mg base (M.CX P w) (k + 2) f fd ["value", "room", "happened"] (spM K 3 (f_u_is_operand ck)) :=
  have nd := sc_u_is_operand.nd
  fnx_ok (M := M) (g := b_u_is_operand ck) Fu sc_u_is_operand rfl (fun _ _ _ => rfl) fun cdv A outer s H E hr W tk hp =>
    (jb_cons (js_if (jt_tru (jx_call I_u_is_tuple_of hr (Nat.le_succ _) tk (ja_cons (j_var 0) (ja_cons j_int ja_nil)) (hlen := (mCons_len (mCons_len mNil_len)))))
    (jb_one (js_ret (je_inB (hu1 hr) (hu65 hr) (je_item (hu1 hr) (j_var 0) j_int) (j_con T.c_CONSTANTS))))
    jb_nil)
    (jb_one (js_ret (jx_call I_u_is_object hr (Nat.le_succ _) tk (ja_cons (j_var 0) (ja_cons (j_var 1) (ja_cons (j_var 2) ja_nil))) (hlen := (mCons_len (mCons_len (mCons_len mNil_len))))))))
abbrev s_u_is_object : Stmt := topS 36
theorem sc_u_is_object : FnScope ["value", "room", "happened", "word", "number"] ["value", "room", "happened"] (defScope s_u_is_object) := ⟨rfl, rfl, rfl, by decide +kernel, rfl, by decide +kernel, by decide +kernel⟩
noncomputable def b_u_is_object (ck : Fnm → MF) : MS := (mSeq (mIfS (mNotT (mTru (mCall (ck .u_is_tuple_of) (mCons (mVar 0) (mCons (mC (.int 2)) mNil)))))
    (mRet (mC (.bl false)))
    mSkip)
    (mSeq (mAsg (mVar 0) (nTup 2 (nCons (nName 3) (nCons (nName 4) nNil))))
    (mSeq (mIfS (mB (mBin (gEqA false) (mVar 3) (mC (.str "place"))))
    (mRet (mCall (ck .u_is_number) (mCons (mVar 4) (mCons (mFld pf_places "places" (mVar 1)) mNil))))
    mSkip)
    (mSeq (mIfS (mB (mBin (gEqA false) (mVar 3) (mC (.str "parameter"))))
    (mRet (mCall (ck .u_is_number) (mCons (mVar 4) (mCons (mFld pf_parameters "parameters" (mVar 1)) mNil))))
    mSkip)
    (mRet (mAnd (mBin (gEqA false) (mVar 3) (mC (.str "event"))) (mAnd (mCall (ck .u_is_number) (mCons (mVar 4) (mCons (mCall gLen (mCons (mVar 2) mNil)) mNil))) (mNot (mBin gItem (mVar 2) (mVar 4))))))))))
noncomputable def f_u_is_object (ck : Fnm → MF) : MF := fun ds m => endOf (b_u_is_object ck (startM 5 ds) m)
theorem ok_u_is_object {M : Mode} {P : Program} {w : World} {K : PySem.W.Frag} {mg : Str → Option Value} {base : Heap} {k : Nat} {f : Addr} {fd : FuncData} {ck : Fnm → MF} (Fu : Fun K "_is_object" "_is_object" s_u_is_object f fd) (T : Txt K w mg) (I_u_is_number : FnX M P w K mg base k "_is_number" 2 (ck .u_is_number)) (I_u_is_tuple_of : FnX M P w K mg base k "_is_tuple_of" 2 (ck .u_is_tuple_of)) :
    FnOk P w K mg base (M.CX P w) (k + 2) f fd ["value", "room", "happened"] (spM K 3 (f_u_is_object ck)) :=
  have nd := sc_u_is_object.nd
  fnx_ok (M := M) (g := b_u_is_object ck) Fu sc_u_is_object rfl (fun _ _ _ => rfl) fun cdv A outer s H E hr W tk hp =>
    (jb_cons (js_if (jt_not (jt_tru (jx_call I_u_is_tuple_of hr (Nat.le_succ _) tk (ja_cons (j_var 0) (ja_cons j_int ja_nil)) (hlen := (mCons_len (mCons_len mNil_len))))))
    (jb_one (js_ret j_bl))
    jb_nil)
    (jb_cons (js_asg (j_var 0) (jg_tup rfl (jgs_cons (jg_name 3 nd) (jgs_cons (jg_name 4 nd) jgs_nil))))
    (jb_cons (js_if (jt_cmp (op_eqA (hu64 hr)) om_eqA (j_var 3) j_str)
    (jb_one (js_ret (jx_call I_u_is_number hr (Nat.le_succ _) tk (ja_cons (j_var 4) (ja_cons (je_fld (j_var 1) T.f_places) ja_nil)) (hlen := (mCons_len (mCons_len mNil_len))))))
    jb_nil)
    (jb_cons (js_if (jt_cmp (op_eqA (hu64 hr)) om_eqA (j_var 3) j_str)
    (jb_one (js_ret (jx_call I_u_is_number hr (Nat.le_succ _) tk (ja_cons (j_var 4) (ja_cons (je_fld (j_var 1) T.f_parameters) ja_nil)) (hlen := (mCons_len (mCons_len mNil_len))))))
    jb_nil)
    (jb_one (js_ret (je_and (j_cmp (op_eqA (hu64 hr)) om_eqA (j_var 3) j_str) (je_and (jx_call I_u_is_number hr (Nat.le_succ _) tk (ja_cons (j_var 4) (ja_cons (je_callB cr_len cm_len T.b_len PySem.boot_len (ja_cons (j_var 2) ja_nil)) ja_nil)) (hlen := (mCons_len (mCons_len mNil_len)))) (je_one (je_not (je_item (hu1 hr) (j_var 2) (j_var 4))))))))))))
abbrev s_run_machine : Stmt := topS 38
theorem sc_run_machine : FnScope ["machine", "history", "state", "held", "told", "number", "call", "run", "end", "_", "outcome", "hold", "operand"] ["machine", "history"] (defScope s_run_machine) := ⟨rfl, rfl, rfl, by decide +kernel, rfl, by decide +kernel, by decide +kernel⟩
noncomputable def b_run_machine (ck : Fnm → MF) : MS := (mSeq (mDrop (mCall (ck .check_machine) (mCons (mVar 0) mNil)))
    (mSeq (mDrop (mCall (ck .check_history) (mCons (mVar 0) (mCons (mVar 1) mNil))))
    (mSeq (mAsg (mBin gItem (mVar 0) (mC (.int 1))) (nName 2))
    (mSeq (mAsg (mLst mNil) (nName 3))
    (mSeq (mAsg (mLst mNil) (nName 4))
    (mSeq (mFor (mEnum (mCons (mVar 1) mNil)) (nTup 2 (nCons (nName 5) (nCons (nName 6) nNil)))
    mStuck)
    (mRet (mVar 4))))))))
noncomputable def f_run_machine (ck : Fnm → MF) : MF := fun ds m => endOf (b_run_machine ck (startM 13 ds) m)
theorem ok_run_machine {M : Mode} {P : Program} {w : World} {K : PySem.W.Frag} {mg : Str → Option Value} {base : Heap} {k : Nat} {f : Addr} {fd : FuncData} {ck : Fnm → MF} (Fu : Fun K "run_machine" "run_machine" s_run_machine f fd) (T : Txt K w mg) (I_check_history : FnX M P w K mg base k "check_history" 2 (ck .check_history)) (I_check_machine : FnX M P w K mg base k "check_machine" 1 (ck .check_machine)) :
    FnOk P w K mg base (M.CX P w) (k + 2) f fd ["machine", "history"] (spM K 2 (f_run_machine ck)) :=
  have nd := sc_run_machine.nd
  fnx_ok (M := M) (g := b_run_machine ck) Fu sc_run_machine rfl (fun _ _ _ => rfl) fun cdv A outer s H E hr W tk hp =>
    (jb_cons (js_expr (jx_call I_check_machine hr (Nat.le_succ _) tk (ja_cons (j_var 0) ja_nil) (hlen := (mCons_len mNil_len))))
    (jb_cons (js_expr (jx_call I_check_history hr (Nat.le_succ _) tk (ja_cons (j_var 0) (ja_cons (j_var 1) ja_nil)) (hlen := (mCons_len (mCons_len mNil_len)))))
    (jb_cons (js_set 2 nd (je_item (hu1 hr) (j_var 0) j_int))
    (jb_cons (js_set 3 nd (je_lst ja_nil))
    (jb_cons (js_set 4 nd (je_lst ja_nil))
    (jb_cons (js_for hp rfl (ji_enum T.b_enumerate (ja_cons (j_var 1) ja_nil)) (jg_tup rfl (jgs_cons (jg_name 5 nd) (jgs_cons (jg_name 6 nd) jgs_nil)))
    jb_stuck)
    (jb_one (js_ret (j_var 4)))))))))
abbrev s_l_source : Stmt := topS 40
theorem sc_l_source : FnScope ["_law_script", "_law_cells", "_law_k"] ["_law_script"] (defScope s_l_source) := ⟨rfl, rfl, rfl, by decide +kernel, rfl, by decide +kernel, by decide +kernel⟩
noncomputable def b_l_source (ck : Fnm → MF) : MS := (mSeq (mAsg (mSl (mVar 0) mNo (mEnd (mC (.int 63)))) (nName 1))
    (mSeq (mFor (mRng (mCons (mCall gLen (mCons (mVar 1) mNil)) mNil)) (nName 2)
    (mIfS (mB (mBin gGe (mCall gAbs (mCons (mBin gItem (mVar 1) (mVar 2)) mNil)) (mBin gPow (mC (.int 10)) (mC (.int 18)))))
    (mStore (mVar 1) (mVar 2) (mBin gMod (mCall gInt (mCons (mBin gItem (mVar 1) (mVar 2)) mNil)) (mBin gPow (mBin gPow (mC (.int 10)) (mC (.int 60))) (mC (.int 20)))))
    mSkip))
    (mSeq (mIfS (mB (mBin gEqE (mVar 1) (mLst mNil)))
    (mAsg (mLst (mCons (mC (.int 0)) mNil)) (nName 1))
    mSkip)
    (mRet (mLst (mCons (mVar 1) (mCons (mC (.int 0)) mNil)))))))
noncomputable def f_l_source (ck : Fnm → MF) : MF := fun ds m => endOf (b_l_source ck (startM 3 ds) m)
theorem ok_l_source {M : Mode} {P : Program} {w : World} {K : PySem.W.Frag} {mg : Str → Option Value} {base : Heap} {k : Nat} {f : Addr} {fd : FuncData} {ck : Fnm → MF} (Fu : Fun K "_law_source" "_law_source" s_l_source f fd) (T : Txt K w mg) :
    FnOk P w K mg base (M.CX P w) (k + 2) f fd ["_law_script"] (spM K 1 (f_l_source ck)) :=
  have nd := sc_l_source.nd
  fnx_ok (M := M) (g := b_l_source ck) Fu sc_l_source rfl (fun _ _ _ => rfl) fun cdv A outer s H E hr W tk hp =>
    (jb_cons (js_set 1 nd (je_sl (j_var 0) jo_no (jo_end j_int)))
    (jb_cons (js_for hp rfl (ji_rng1 T.b_range (ja_cons (je_callB cr_len cm_len T.b_len PySem.boot_len (ja_cons (j_var 1) ja_nil)) ja_nil)) (jg_name 2 nd)
    (jb_one (js_if (jt_cmp op_ge om_ge (je_callB call_abs cm_abs T.b_abs (by decide +kernel) (ja_cons (je_item (hu1 hr) (j_var 1) (j_var 2)) ja_nil)) (j_op op_powW om_pow j_int j_int))
    (jb_one (js_store (hu1 hr) (j_var 1) (j_var 2) (j_var 1) (j_var 2) (j_op op_mod om_mod (je_callTy call_int1 cm_int T.b_int (by decide +kernel) (ja_cons (je_item (hu1 hr) (j_var 1) (j_var 2)) ja_nil)) (j_op op_powW om_pow (j_op op_powW om_pow j_int j_int) j_int))))
    jb_nil)))
    (jb_cons (js_if (jt_cmp (op_eqE (hu0 hr)) om_eqE (j_var 1) (je_lst ja_nil))
    (jb_one (js_set 1 nd (je_lst (ja_cons j_int ja_nil))))
    jb_nil)
    (jb_one (js_ret (je_lst (ja_cons (j_var 1) (ja_cons j_int ja_nil))))))))
abbrev s_l_draw : Stmt := topS 41
theorem sc_l_draw : FnScope ["_law_source_here", "_law_limit", "_law_cells", "_law_turn", "_law_place", "_law_cell", "_law_number"] ["_law_source_here", "_law_limit"] (defScope s_l_draw) := ⟨rfl, rfl, rfl, by decide +kernel, rfl, by decide +kernel, by decide +kernel⟩
noncomputable def b_l_draw (ck : Fnm → MF) : MS := (mSeq (mAsg (mVar 0) (nTup 2 (nCons (nName 2) (nCons (nName 3) nNil))))
    (mSeq (mAsg (mBin gMod (mCall gInt (mCons (mVar 3) mNil)) (mCall gLen (mCons (mVar 2) mNil))) (nName 4))
    (mSeq (mAsg (mBin gItem (mVar 2) (mVar 4)) (nName 5))
    (mSeq (mStore (mVar 0) (mC (.int 1)) (mBin gAdd (mVar 3) (mC (.int 1))))
    (mSeq (mIfS (mB (mBin gGe (mVar 5) (mBin gPow (mC (.int 10)) (mC (.int 18)))))
    (mSeq (mStore (mVar 2) (mVar 4) (mBin gDiv (mVar 5) (mVar 1)))
    (mRet (mBin gMod (mCall gInt (mCons (mVar 5) mNil)) (mVar 1))))
    mSkip)
    (mSeq (mAsg (mBin gMod (mCall gInt (mCons (mBin gAdd (mBin gAdd (mBin gMul (mBin gMod (mCall gInt (mCons (mVar 5) mNil)) (mC (.int 2147483629))) (mC (.int 48271))) (mBin gMul (mBin gMul (mVar 3) (mVar 3)) (mC (.int 69621)))) (mC (.int 11))) mNil)) (mC (.int 2147483647))) (nName 6))
    (mSeq (mAsg (mBin gMod (mCall gInt (mCons (mBin gMul (mVar 6) (mVar 6)) mNil)) (mC (.int 2147483629))) (nName 6))
    (mSeq (mAsg (mBin gMod (mCall gInt (mCons (mBin gMul (mVar 6) (mVar 6)) mNil)) (mC (.int 2147483587))) (nName 6))
    (mRet (mBin gMod (mCall gInt (mCons (mVar 6) mNil)) (mVar 1)))))))))))
noncomputable def f_l_draw (ck : Fnm → MF) : MF := fun ds m => endOf (b_l_draw ck (startM 7 ds) m)
theorem ok_l_draw {M : Mode} {P : Program} {w : World} {K : PySem.W.Frag} {mg : Str → Option Value} {base : Heap} {k : Nat} {f : Addr} {fd : FuncData} {ck : Fnm → MF} (Fu : Fun K "_law_draw" "_law_draw" s_l_draw f fd) (T : Txt K w mg) :
    FnOk P w K mg base (M.CX P w) (k + 2) f fd ["_law_source_here", "_law_limit"] (spM K 2 (f_l_draw ck)) :=
  have nd := sc_l_draw.nd
  fnx_ok (M := M) (g := b_l_draw ck) Fu sc_l_draw rfl (fun _ _ _ => rfl) fun cdv A outer s H E hr W tk hp =>
    (jb_cons (js_asg (j_var 0) (jg_tup rfl (jgs_cons (jg_name 2 nd) (jgs_cons (jg_name 3 nd) jgs_nil))))
    (jb_cons (js_set 4 nd (j_op op_mod om_mod (je_callTy call_int1 cm_int T.b_int (by decide +kernel) (ja_cons (j_var 3) ja_nil)) (je_callB cr_len cm_len T.b_len PySem.boot_len (ja_cons (j_var 2) ja_nil))))
    (jb_cons (js_set 5 nd (je_item (hu1 hr) (j_var 2) (j_var 4)))
    (jb_cons (js_store (hu1 hr) (j_var 0) j_int (j_var 0) j_int (j_op op_addA om_add (j_var 3) j_int))
    (jb_cons (js_if (jt_cmp op_ge om_ge (j_var 5) (j_op op_powW om_pow j_int j_int))
    (jb_cons (js_store (hu1 hr) (j_var 2) (j_var 4) (j_var 2) (j_var 4) (j_op op_fdivW om_div (j_var 5) (j_var 1)))
    (jb_one (js_ret (j_op op_mod om_mod (je_callTy call_int1 cm_int T.b_int (by decide +kernel) (ja_cons (j_var 5) ja_nil)) (j_var 1)))))
    jb_nil)
    (jb_cons (js_set 6 nd (j_op op_mod om_mod (je_callTy call_int1 cm_int T.b_int (by decide +kernel) (ja_cons (j_op op_addA om_add (j_op op_addA om_add (j_op op_mulA om_mul (j_op op_mod om_mod (je_callTy call_int1 cm_int T.b_int (by decide +kernel) (ja_cons (j_var 5) ja_nil)) j_int) j_int) (j_op op_mulA om_mul (j_op op_mulA om_mul (j_var 3) (j_var 3)) j_int)) j_int) ja_nil)) j_int))
    (jb_cons (js_set 6 nd (j_op op_mod om_mod (je_callTy call_int1 cm_int T.b_int (by decide +kernel) (ja_cons (j_op op_mulA om_mul (j_var 6) (j_var 6)) ja_nil)) j_int))
    (jb_cons (js_set 6 nd (j_op op_mod om_mod (je_callTy call_int1 cm_int T.b_int (by decide +kernel) (ja_cons (j_op op_mulA om_mul (j_var 6) (j_var 6)) ja_nil)) j_int))
    (jb_one (js_ret (j_op op_mod om_mod (je_callTy call_int1 cm_int T.b_int (by decide +kernel) (ja_cons (j_var 6) ja_nil)) (j_var 1))))))))))))
abbrev s_l_word : Stmt := topS 43
theorem sc_l_word : FnScope ["_law_made", "_law_caught", "e"] ["_law_made"] (defScope s_l_word) := ⟨rfl, rfl, rfl, by decide +kernel, rfl, by decide +kernel, by decide +kernel⟩
noncomputable def b_l_word (ck : Fnm → MF) : MS := (mSeq (mAsg (mC .non) (nName 1))
    (mSeq (mTryK p_OperandError 2 1 (mDrop (mCall (ck .run_machine) (mCons (mVar 0) (mCons (mLst mNil) mNil)))))
    (mSeq (mIfS (mB (mBin gIsN (mVar 1) (mC .non)))
    (mRet (mC (.str "good")))
    mSkip)
    (mSeq (mIfS (mOrT (mTru (mIsx p_InvalidHistory (mVar 1))) (mNotT (mTru (mIsx p_ValueError (mVar 1)))))
    (mRet (mC (.str "other")))
    mSkip)
    (mRet (mBin gItem (mLst (mCons (mC (.str "other")) (mCons (mC (.str "machine")) mNil))) (mCall gInt (mCons (mIsx p_InvalidMachine (mVar 1)) mNil))))))))
noncomputable def f_l_word (ck : Fnm → MF) : MF := fun ds m => endOf (b_l_word ck (startM 3 ds) m)
theorem ok_l_word {P : Program} {w : World} {K : PySem.W.Frag} {mg : Str → Option Value} {base : Heap} {k : Nat} {f : Addr} {fd : FuncData} {ck : Fnm → MF} (Fu : Fun K "_law_word" "_law_word" s_l_word f fd) (T : Txt K w mg) (I_run_machine : FnX M2 P w K mg base k "run_machine" 2 (ck .run_machine)) :
    FnOk P w K mg base (M2.CX P w) (k + 2) f fd ["_law_made"] (spM K 1 (f_l_word ck)) :=
  have nd := sc_l_word.nd
  fnx_ok (M := M2) (g := b_l_word ck) Fu sc_l_word rfl (fun _ _ _ => rfl) fun cdv A outer s H E hr W tk hp =>
    (jb_cons (js_set 1 nd j_non)
    (jb_cons (jx_tryKN 2 1 rfl rfl rfl nd T.h_OperandError tk (fun W tk_pn xe tk hp => (jb_one (js_expr (jx_call I_run_machine hr (Nat.le_succ _) tk (ja_cons (j_var 0) (ja_cons (je_lst ja_nil) ja_nil)) (hlen := (mCons_len (mCons_len mNil_len))))))))
    (jb_cons (js_if (jt_cmp op_isN om_isN (j_var 1) j_non)
    (jb_one (js_ret j_str))
    jb_nil)
    (jb_cons (js_if (jw_or (jt_tru (je_isxN (j_var 1) T.i_InvalidHistory T.b_isinstance)) (jw_or1 (jt_not (jt_tru (je_isxN (j_var 1) T.i_ValueError T.b_isinstance))))).jt
    (jb_one (js_ret j_str))
    jb_nil)
    (jb_one (js_ret (je_item (hu1 hr) (je_lst (ja_cons j_str (ja_cons j_str ja_nil))) (je_callTy call_int1 cm_int T.b_int (by decide +kernel) (ja_cons (je_isxN (j_var 1) T.i_InvalidMachine T.b_isinstance) ja_nil)))))))))
abbrev s_l_leaf : Stmt := topS 44
theorem sc_l_leaf : FnScope [] [] (defScope s_l_leaf) := ⟨rfl, rfl, rfl, by decide +kernel, rfl, by decide +kernel, by decide +kernel⟩
noncomputable def b_l_leaf (ck : Fnm → MF) : MS := (mRet (mTup (mCons (mC (.str "end")) (mCons (mTup (mCons (mC (.str "value")) (mCons (mTup (mCons (mC (.str "none")) mNil)) mNil))) (mCons (mC (.int 0)) (mCons (mTup mNil) mNil))))))
noncomputable def f_l_leaf (ck : Fnm → MF) : MF := fun ds m => endOf (b_l_leaf ck (startM 0 ds) m)
theorem ok_l_leaf {M : Mode} {P : Program} {w : World} {K : PySem.W.Frag} {mg : Str → Option Value} {base : Heap} {k : Nat} {f : Addr} {fd : FuncData} {ck : Fnm → MF} (Fu : Fun K "_law_leaf" "_law_leaf" s_l_leaf f fd) (T : Txt K w mg) :
    FnOk P w K mg base (M.CX P w) (k + 2) f fd [] (spM K 0 (f_l_leaf ck)) :=
  have nd := sc_l_leaf.nd
  fnx_ok (M := M) (g := b_l_leaf ck) Fu sc_l_leaf rfl (fun _ _ _ => rfl) fun cdv A outer s H E hr W tk hp =>
    (jb_one (js_ret (je_tup (ja_cons j_str (ja_cons (je_tup (ja_cons j_str (ja_cons (je_tup (ja_cons j_str ja_nil)) ja_nil))) (ja_cons j_int (ja_cons (je_tup ja_nil) ja_nil)))))))
abbrev s_l_with_tree : Stmt := topS 45
theorem sc_l_with_tree : FnScope ["_law_source_here", "_law_tree", "_law_end", "_law_turn", "_law_one", "_law_two", "_law_at", "_law_parts"] ["_law_source_here", "_law_tree"] (defScope s_l_with_tree) := ⟨rfl, rfl, rfl, by decide +kernel, rfl, by decide +kernel, by decide +kernel⟩
noncomputable def b_l_with_tree (ck : Fnm → MF) : MS := (mSeq (mAsg (mCall (ck .l_leaf) mNil) (nName 2))
    (mSeq (mFor (mRng (mCons (mCall (ck .l_draw) (mCons (mVar 0) (mCons (mC (.int 4)) mNil))) mNil)) (nName 3)
    (mSeq (mAsg (mCall (ck .l_draw) (mCons (mVar 0) (mCons (mC (.int 3)) mNil))) (nName 6))
    (mSeq (mAsg (mLst (mCons (mVar 2) (mCons (mVar 2) (mCons (mVar 2) mNil)))) (nName 7))
    (mSeq (mStore (mVar 7) (mVar 6) (mVar 1))
    (mAsg (mTup (mCons (mC (.str "test")) (mCons (mTup (mCons (mC (.str "parameter")) (mCons (mC (.int 0)) mNil))) (mCons (mCall gTuple (mCons (mVar 7) mNil)) mNil)))) (nName 1))))))
    (mSeq (mAsg (mTup (mCons (mTup (mCons (mC (.str "end")) (mCons (mTup (mCons (mC (.str "value")) (mCons (mTup (mCons (mC (.str "place")) (mCons (mC (.int 0)) mNil))) mNil))) (mCons (mC (.int 0)) (mCons (mTup mNil) mNil))))) (mCons (mTup (mCons (mC (.str "end")) (mCons (mTup (mCons (mC (.str "value")) (mCons (mTup (mCons (mC (.str "place")) (mCons (mC (.int 1)) mNil))) mNil))) (mCons (mC (.int 0)) (mCons (mTup mNil) mNil))))) mNil))) (nTup 2 (nCons (nName 4) (nCons (nName 5) nNil))))
    (mRet (mTup (mCons (mTup (mCons (mC (.str "p")) mNil)) (mCons (mC (.int 0)) (mCons (mTup (mCons (mTup (mCons (mC (.int 0)) (mCons (mVar 1) mNil))) (mCons (mTup (mCons (mC (.int 1)) (mCons (mVar 4) mNil))) (mCons (mTup (mCons (mC (.int 2)) (mCons (mVar 5) mNil))) mNil)))) mNil))))))))
noncomputable def f_l_with_tree (ck : Fnm → MF) : MF := fun ds m => endOf (b_l_with_tree ck (startM 8 ds) m)
theorem ok_l_with_tree {M : Mode} {P : Program} {w : World} {K : PySem.W.Frag} {mg : Str → Option Value} {base : Heap} {k : Nat} {f : Addr} {fd : FuncData} {ck : Fnm → MF} (Fu : Fun K "_law_with_tree" "_law_with_tree" s_l_with_tree f fd) (T : Txt K w mg) (I_l_draw : FnX M P w K mg base k "_law_draw" 2 (ck .l_draw)) (I_l_leaf : FnX M P w K mg base k "_law_leaf" 0 (ck .l_leaf)) :
    FnOk P w K mg base (M.CX P w) (k + 2) f fd ["_law_source_here", "_law_tree"] (spM K 2 (f_l_with_tree ck)) :=
  have nd := sc_l_with_tree.nd
  fnx_ok (M := M) (g := b_l_with_tree ck) Fu sc_l_with_tree rfl (fun _ _ _ => rfl) fun cdv A outer s H E hr W tk hp =>
    (jb_cons (js_set 2 nd (jx_call0 I_l_leaf hr (Nat.le_succ _) tk))
    (jb_cons (js_for hp rfl (ji_rng1 T.b_range (ja_cons (jx_call I_l_draw hr (Nat.le_succ _) tk (ja_cons (j_var 0) (ja_cons j_int ja_nil)) (hlen := (mCons_len (mCons_len mNil_len)))) ja_nil)) (jg_name 3 nd)
    (jb_cons (js_set 6 nd (jx_call I_l_draw hr (Nat.le_succ _) tk (ja_cons (j_var 0) (ja_cons j_int ja_nil)) (hlen := (mCons_len (mCons_len mNil_len)))))
    (jb_cons (js_set 7 nd (je_lst (ja_cons (j_var 2) (ja_cons (j_var 2) (ja_cons (j_var 2) ja_nil)))))
    (jb_cons (js_store (hu1 hr) (j_var 7) (j_var 6) (j_var 7) (j_var 6) (j_var 1))
    (jb_one (js_set 1 nd (je_tup (ja_cons j_str (ja_cons (je_tup (ja_cons j_str (ja_cons j_int ja_nil))) (ja_cons (je_callTy call_tuple_of cm_tuple T.b_tuple (by decide +kernel) (ja_cons (j_var 7) ja_nil)) ja_nil))))))))))
    (jb_cons (js_asg (je_tup (ja_cons (je_tup (ja_cons j_str (ja_cons (je_tup (ja_cons j_str (ja_cons (je_tup (ja_cons j_str (ja_cons j_int ja_nil))) ja_nil))) (ja_cons j_int (ja_cons (je_tup ja_nil) ja_nil))))) (ja_cons (je_tup (ja_cons j_str (ja_cons (je_tup (ja_cons j_str (ja_cons (je_tup (ja_cons j_str (ja_cons j_int ja_nil))) ja_nil))) (ja_cons j_int (ja_cons (je_tup ja_nil) ja_nil))))) ja_nil))) (jg_tup rfl (jgs_cons (jg_name 4 nd) (jgs_cons (jg_name 5 nd) jgs_nil))))
    (jb_one (js_ret (je_tup (ja_cons (je_tup (ja_cons j_str ja_nil)) (ja_cons j_int (ja_cons (je_tup (ja_cons (je_tup (ja_cons j_int (ja_cons (j_var 1) ja_nil))) (ja_cons (je_tup (ja_cons j_int (ja_cons (j_var 4) ja_nil))) (ja_cons (je_tup (ja_cons j_int (ja_cons (j_var 5) ja_nil))) ja_nil)))) ja_nil)))))))))
abbrev s_l_behind : Stmt := topS 46
theorem sc_l_behind : FnScope ["_law_tree"] ["_law_tree"] (defScope s_l_behind) := ⟨rfl, rfl, rfl, by decide +kernel, rfl, by decide +kernel, by decide +kernel⟩
noncomputable def b_l_behind (ck : Fnm → MF) : MS := (mRet (mTup (mCons (mC (.str "ask")) (mCons (mC (.str "f")) (mCons (mTup mNil) (mCons (mTup (mCons (mVar 0) (mCons (mCall (ck .l_leaf) mNil) mNil))) mNil))))))
noncomputable def f_l_behind (ck : Fnm → MF) : MF := fun ds m => endOf (b_l_behind ck (startM 1 ds) m)
theorem ok_l_behind {M : Mode} {P : Program} {w : World} {K : PySem.W.Frag} {mg : Str → Option Value} {base : Heap} {k : Nat} {f : Addr} {fd : FuncData} {ck : Fnm → MF} (Fu : Fun K "_law_behind" "_law_behind" s_l_behind f fd) (T : Txt K w mg) (I_l_leaf : FnX M P w K mg base k "_law_leaf" 0 (ck .l_leaf)) :
    FnOk P w K mg base (M.CX P w) (k + 2) f fd ["_law_tree"] (spM K 1 (f_l_behind ck)) :=
  have nd := sc_l_behind.nd
  fnx_ok (M := M) (g := b_l_behind ck) Fu sc_l_behind rfl (fun _ _ _ => rfl) fun cdv A outer s H E hr W tk hp =>
    (jb_one (js_ret (je_tup (ja_cons j_str (ja_cons j_str (ja_cons (je_tup ja_nil) (ja_cons (je_tup (ja_cons (j_var 0) (ja_cons (jx_call0 I_l_leaf hr (Nat.le_succ _) tk) ja_nil))) ja_nil)))))))
abbrev s_l_spots : Stmt := topS 47
theorem sc_l_spots : FnScope ["_law_operand", "_law_none", "_law_end", "_law_good", "_law_some", "_law_tree"] ["_law_operand"] (defScope s_l_spots) := ⟨rfl, rfl, rfl, by decide +kernel, rfl, by decide +kernel, by decide +kernel⟩
noncomputable def b_l_spots (ck : Fnm → MF) : MS := (mSeq (mPar3 1 2 3 (mCons (mTup (mCons (mC (.str "none")) mNil)) (mCons (mCall (ck .l_leaf) mNil) (mCons (mTup (mCons (mC (.str "event")) (mCons (mC (.int 0)) mNil))) mNil))))
    (mSeq (mAsg (mLst (mCons (mTup (mCons (mC (.str "end")) (mCons (mTup (mCons (mC (.str "value")) (mCons (mVar 0) mNil))) (mCons (mC (.int 0)) (mCons (mTup mNil) mNil))))) (mCons (mTup (mCons (mC (.str "ask")) (mCons (mC (.str "g")) (mCons (mTup (mCons (mVar 0) mNil)) (mCons (mTup (mCons (mVar 2) (mCons (mVar 2) mNil))) mNil))))) mNil))) (nName 4))
    (mSeq (mAsg (mBin gAdd (mVar 4) (mLst (mCons (mTup (mCons (mC (.str "ask")) (mCons (mC (.str "<")) (mCons (mTup (mCons (mVar 1) (mCons (mVar 0) mNil))) (mCons (mTup (mCons (mVar 2) (mCons (mVar 2) mNil))) mNil))))) (mCons (mTup (mCons (mC (.str "ask")) (mCons (mC (.str "h")) (mCons (mTup (mCons (mVar 1) (mCons (mVar 3) (mCons (mVar 0) mNil)))) (mCons (mTup (mCons (mVar 2) (mCons (mVar 2) mNil))) mNil))))) mNil)))) (nName 4))
    (mSeq (mAsg (mBin gAdd (mVar 4) (mLst (mCons (mTup (mCons (mC (.str "test")) (mCons (mVar 0) (mCons (mTup (mCons (mVar 2) (mCons (mVar 2) (mCons (mVar 2) mNil)))) mNil)))) (mCons (mTup (mCons (mC (.str "end")) (mCons (mTup (mCons (mC (.str "value")) (mCons (mVar 1) mNil))) (mCons (mC (.int 1)) (mCons (mTup (mCons (mVar 0) mNil)) mNil))))) mNil)))) (nName 4))
    (mSeq (mAsg (mBin gAdd (mVar 4) (mLst (mCons (mTup (mCons (mC (.str "end")) (mCons (mTup (mCons (mC (.str "value")) (mCons (mVar 1) mNil))) (mCons (mC (.int 2)) (mCons (mTup (mCons (mVar 0) (mCons (mVar 3) mNil))) mNil))))) (mCons (mTup (mCons (mC (.str "end")) (mCons (mTup (mCons (mC (.str "value")) (mCons (mVar 1) mNil))) (mCons (mC (.int 2)) (mCons (mTup (mCons (mVar 3) (mCons (mVar 0) mNil))) mNil))))) mNil)))) (nName 4))
    (mRet (mLc (mAnyI (mVar 4)) (ngName 5) mYes (mCall (ck .l_behind) (mCons (mVar 5) mNil)) [5])))))))
noncomputable def f_l_spots (ck : Fnm → MF) : MF := fun ds m => endOf (b_l_spots ck (startM 6 ds) m)
theorem ok_l_spots {M : Mode} {P : Program} {w : World} {K : PySem.W.Frag} {mg : Str → Option Value} {base : Heap} {k : Nat} {f : Addr} {fd : FuncData} {ck : Fnm → MF} (Fu : Fun K "_law_spots" "_law_spots" s_l_spots f fd) (T : Txt K w mg) (I_l_behind : FnX M P w K mg base k "_law_behind" 1 (ck .l_behind)) (I_l_leaf : FnX M P w K mg base k "_law_leaf" 0 (ck .l_leaf)) :
    FnOk P w K mg base (M.CX P w) (k + 2) f fd ["_law_operand"] (spM K 1 (f_l_spots ck)) :=
  have nd := sc_l_spots.nd
  fnx_ok (M := M) (g := b_l_spots ck) Fu sc_l_spots rfl (fun _ _ _ => rfl) fun cdv A outer s H E hr W tk hp =>
    (jb_cons (js_par3 1 2 3 rfl nd (ja_cons (je_tup (ja_cons j_str ja_nil)) (ja_cons (jx_call0 I_l_leaf hr (Nat.le_succ _) tk) (ja_cons (je_tup (ja_cons j_str (ja_cons j_int ja_nil))) ja_nil))))
    (jb_cons (js_set 4 nd (je_lst (ja_cons (je_tup (ja_cons j_str (ja_cons (je_tup (ja_cons j_str (ja_cons (j_var 0) ja_nil))) (ja_cons j_int (ja_cons (je_tup ja_nil) ja_nil))))) (ja_cons (je_tup (ja_cons j_str (ja_cons j_str (ja_cons (je_tup (ja_cons (j_var 0) ja_nil)) (ja_cons (je_tup (ja_cons (j_var 2) (ja_cons (j_var 2) ja_nil))) ja_nil))))) ja_nil))))
    (jb_cons (js_set 4 nd (j_op op_addA om_add (j_var 4) (je_lst (ja_cons (je_tup (ja_cons j_str (ja_cons j_str (ja_cons (je_tup (ja_cons (j_var 1) (ja_cons (j_var 0) ja_nil))) (ja_cons (je_tup (ja_cons (j_var 2) (ja_cons (j_var 2) ja_nil))) ja_nil))))) (ja_cons (je_tup (ja_cons j_str (ja_cons j_str (ja_cons (je_tup (ja_cons (j_var 1) (ja_cons (j_var 3) (ja_cons (j_var 0) ja_nil)))) (ja_cons (je_tup (ja_cons (j_var 2) (ja_cons (j_var 2) ja_nil))) ja_nil))))) ja_nil)))))
    (jb_cons (js_set 4 nd (j_op op_addA om_add (j_var 4) (je_lst (ja_cons (je_tup (ja_cons j_str (ja_cons (j_var 0) (ja_cons (je_tup (ja_cons (j_var 2) (ja_cons (j_var 2) (ja_cons (j_var 2) ja_nil)))) ja_nil)))) (ja_cons (je_tup (ja_cons j_str (ja_cons (je_tup (ja_cons j_str (ja_cons (j_var 1) ja_nil))) (ja_cons j_int (ja_cons (je_tup (ja_cons (j_var 0) ja_nil)) ja_nil))))) ja_nil)))))
    (jb_cons (js_set 4 nd (j_op op_addA om_add (j_var 4) (je_lst (ja_cons (je_tup (ja_cons j_str (ja_cons (je_tup (ja_cons j_str (ja_cons (j_var 1) ja_nil))) (ja_cons j_int (ja_cons (je_tup (ja_cons (j_var 0) (ja_cons (j_var 3) ja_nil))) ja_nil))))) (ja_cons (je_tup (ja_cons j_str (ja_cons (je_tup (ja_cons j_str (ja_cons (j_var 1) ja_nil))) (ja_cons j_int (ja_cons (je_tup (ja_cons (j_var 3) (ja_cons (j_var 0) ja_nil))) ja_nil))))) ja_nil)))))
    (jb_one (js_ret (je_lc [("_law_tree", 5)] rfl rfl nd (ji_any (j_var 4)) (blkOk_by (N := ["_law_operand", "_law_none", "_law_end", "_law_good", "_law_some", "_law_tree"]) (sc := defScope s_l_spots) (by decide +kernel)) (fun _ _ _ _ _ => (jn_name 5 nd)) (fun _ _ _ _ _ => jts_nil) (fun _ _ _ _ _ => (jx_call I_l_behind hr (Nat.le_succ _) M.tk0 (ja_cons (j_var 5) ja_nil) (hlen := (mCons_len mNil_len)))) (hgs_name)))))))))
abbrev s_l_operands : Stmt := topS 48
theorem sc_l_operands : FnScope ["_law_source_here", "_law_odd", "_law_word_here", "_law_operand", "_law_found", "_law_tree", "_law_number"] ["_law_source_here"] (defScope s_l_operands) := ⟨rfl, rfl, rfl, by decide +kernel, rfl, by decide +kernel, by decide +kernel⟩
noncomputable def b_l_operands (ck : Fnm → MF) : MS := (mSeq (mAsg (mLst (mCons (mTup (mCons (mC (.str "place")) (mCons (mC (.int 0)) mNil))) (mCons (mTup (mCons (mC (.str "place")) (mCons (mBin gPow (mC (.int 10)) (mC (.int 25))) mNil))) (mCons (mTup (mCons (mC (.str "parameter")) (mCons (mC (.int 1)) mNil))) (mCons (mTup (mCons (mC (.str "parameter")) (mCons (mC (.int 2)) mNil))) (mCons (mTup (mCons (mC (.str "parameter")) (mCons (mC (.int 0)) (mCons (mC (.int 0)) mNil)))) (mCons (mTup (mCons (mC (.str "event")) (mCons (mC (.int 1)) mNil))) mNil))))))) (nName 1))
    (mSeq (mFor (mAnyI (mLst (mCons (mC (.str "place")) (mCons (mC (.str "parameter")) (mCons (mC (.str "event")) mNil))))) (nName 2)
    (mAsg (mBin gAdd (mVar 1) (mLc (mAnyI (mLst (mCons (mC .non) (mCons (mC (.str "0")) (mCons (mC (.bl true)) (mCons (mC (.bl false)) (mCons (mNeg (mC (.int 1))) (mCons (mLst mNil) (mCons mDNew (mCons (mTup mNil) (mCons (mBin gPow (mC (.int 10)) (mC (.int 25))) mNil))))))))))) (ngName 6) mYes (mTup (mCons (mVar 2) (mCons (mVar 6) mNil))) [6])) (nName 1)))
    (mSeq (mAsg (mBin gAdd (mVar 1) (mLc (mAnyI (mLst (mCons (mC (.str "answer")) (mCons (mC (.str "name")) (mCons (mC (.str "none")) (mCons (mC (.str "")) (mCons (mC .non) (mCons (mC (.str "object")) mNil)))))))) (ngName 2) mYes (mTup (mCons (mVar 2) (mCons (mC (.int 0)) mNil))) [2])) (nName 1))
    (mSeq (mAsg (mBin gAdd (mVar 1) (mLc (mAnyI (mLst (mCons (mC (.str "None")) (mCons (mC (.str "object")) (mCons (mC (.str "place")) (mCons (mC (.str "t")) (mCons (mC (.str "")) (mCons (mC .non) (mCons (mC (.str "event")) mNil))))))))) (ngName 2) mYes (mTup (mCons (mVar 2) mNil)) [2])) (nName 1))
    (mSeq (mAsg (mBin gAdd (mVar 1) (mLst (mCons (mTup mNil) (mCons (mC .non) (mCons (mLst (mCons (mC (.str "none")) mNil)) (mCons (mC (.str "none")) (mCons (mTup (mCons (mC (.str "none")) (mCons (mTup (mCons (mC (.str "none")) mNil)) mNil))) (mCons (mLst (mCons (mC (.str "event")) (mCons (mC (.int 0)) mNil))) (mCons (mTup (mCons (mC (.str "event")) mNil)) (mCons (mC (.int 0)) mNil)))))))))) (nName 1))
    (mSeq (mFor (mAnyI (mVar 1)) (nName 3)
    (mIfS (mB (mBin (gEqA true) (mLc (mAnyI (mCall (ck .l_spots) (mCons (mVar 3) mNil))) (ngName 5) (mB (mBin (gEqA true) (mCall (ck .l_word) (mCons (mCall (ck .l_with_tree) (mCons (mVar 0) (mCons (mVar 5) mNil))) mNil)) (mC (.str "machine")))) (mVar 5) [5]) (mLst mNil)))
    (mRet (mC (.bl false)))
    mSkip))
    (mSeq (mFor (mAnyI (mLst (mCons (mTup (mCons (mC (.str "event")) (mCons (mC (.int 0)) mNil))) (mCons (mTup (mCons (mC (.str "parameter")) (mCons (mC (.int 0)) mNil))) mNil)))) (nName 3)
    (mIfS (mB (mBin (gEqA true) (mLc (mAnyI (mCall (ck .l_spots) (mCons (mVar 3) mNil))) (ngName 5) (mB (mBin (gEqA true) (mCall (ck .l_word) (mCons (mCall (ck .l_with_tree) (mCons (mVar 0) (mCons (mVar 5) mNil))) mNil)) (mC (.str "good")))) (mVar 5) [5]) (mLst mNil)))
    (mRet (mC (.bl false)))
    mSkip))
    (mSeq (mFor (mAnyI (mLst (mCons (mC (.str "none")) (mCons (mC (.str "true")) (mCons (mC (.str "false")) mNil))))) (nName 2)
    (mSeq (mAsg (mLc (mAnyI (mCall (ck .l_spots) (mCons (mTup (mCons (mVar 2) mNil)) mNil))) (ngName 5) mYes (mCall (ck .l_word) (mCons (mCall (ck .l_with_tree) (mCons (mVar 0) (mCons (mVar 5) mNil))) mNil)) [5]) (nName 4))
    (mIfS (mB (mBin (gEqA true) (mVar 4) (mBin gAdd (mBin gMul (mLst (mCons (mC (.str "good")) mNil)) (mC (.int 4))) (mBin gMul (mLst (mCons (mC (.str "machine")) mNil)) (mC (.int 4))))))
    (mRet (mC (.bl false)))
    mSkip)))
    (mRet (mC (.bl true)))))))))))
noncomputable def f_l_operands (ck : Fnm → MF) : MF := fun ds m => endOf (b_l_operands ck (startM 7 ds) m)
theorem ok_l_operands {M : Mode} {P : Program} {w : World} {K : PySem.W.Frag} {mg : Str → Option Value} {base : Heap} {k : Nat} {f : Addr} {fd : FuncData} {ck : Fnm → MF} (Fu : Fun K "_law_operands" "_law_operands" s_l_operands f fd) (T : Txt K w mg) (I_l_spots : FnX M P w K mg base k "_law_spots" 1 (ck .l_spots)) (I_l_with_tree : FnX M P w K mg base k "_law_with_tree" 2 (ck .l_with_tree)) (I_l_word : FnX M P w K mg base k "_law_word" 1 (ck .l_word)) :
    FnOk P w K mg base (M.CX P w) (k + 2) f fd ["_law_source_here"] (spM K 1 (f_l_operands ck)) :=
  have nd := sc_l_operands.nd
  fnx_ok (M := M) (g := b_l_operands ck) Fu sc_l_operands rfl (fun _ _ _ => rfl) fun cdv A outer s H E hr W tk hp =>
    (jb_cons (js_set 1 nd (je_lst (ja_cons (je_tup (ja_cons j_str (ja_cons j_int ja_nil))) (ja_cons (je_tup (ja_cons j_str (ja_cons (j_op op_powW om_pow j_int j_int) ja_nil))) (ja_cons (je_tup (ja_cons j_str (ja_cons j_int ja_nil))) (ja_cons (je_tup (ja_cons j_str (ja_cons j_int ja_nil))) (ja_cons (je_tup (ja_cons j_str (ja_cons j_int (ja_cons j_int ja_nil)))) (ja_cons (je_tup (ja_cons j_str (ja_cons j_int ja_nil))) ja_nil))))))))
    (jb_cons (js_for hp rfl (ji_any (je_lst (ja_cons j_str (ja_cons j_str (ja_cons j_str ja_nil))))) (jg_name 2 nd)
    (jb_one (js_set 1 nd (j_op op_addA om_add (j_var 1) (je_lc [("_law_number", 6)] rfl rfl nd (ji_any (je_lst (ja_cons j_non (ja_cons j_str (ja_cons j_bl (ja_cons j_bl (ja_cons (je_neg j_int) (ja_cons (je_lst ja_nil) (ja_cons je_dnew (ja_cons (je_tup ja_nil) (ja_cons (j_op op_powW om_pow j_int j_int) ja_nil))))))))))) (blkOk_by (N := ["_law_source_here", "_law_odd", "_law_word_here", "_law_operand", "_law_found", "_law_tree", "_law_number"]) (sc := defScope s_l_operands) (by decide +kernel)) (fun _ _ _ _ _ => (jn_name 6 nd)) (fun _ _ _ _ _ => jts_nil) (fun _ _ _ _ _ => (je_tup (ja_cons (j_var 2) (ja_cons (j_var 6) ja_nil)))) (hgs_name))))))
    (jb_cons (js_set 1 nd (j_op op_addA om_add (j_var 1) (je_lc [("_law_word_here", 2)] rfl rfl nd (ji_any (je_lst (ja_cons j_str (ja_cons j_str (ja_cons j_str (ja_cons j_str (ja_cons j_non (ja_cons j_str ja_nil)))))))) (blkOk_by (N := ["_law_source_here", "_law_odd", "_law_word_here", "_law_operand", "_law_found", "_law_tree", "_law_number"]) (sc := defScope s_l_operands) (by decide +kernel)) (fun _ _ _ _ _ => (jn_name 2 nd)) (fun _ _ _ _ _ => jts_nil) (fun _ _ _ _ _ => (je_tup (ja_cons (j_var 2) (ja_cons j_int ja_nil)))) (hgs_name))))
    (jb_cons (js_set 1 nd (j_op op_addA om_add (j_var 1) (je_lc [("_law_word_here", 2)] rfl rfl nd (ji_any (je_lst (ja_cons j_str (ja_cons j_str (ja_cons j_str (ja_cons j_str (ja_cons j_str (ja_cons j_non (ja_cons j_str ja_nil))))))))) (blkOk_by (N := ["_law_source_here", "_law_odd", "_law_word_here", "_law_operand", "_law_found", "_law_tree", "_law_number"]) (sc := defScope s_l_operands) (by decide +kernel)) (fun _ _ _ _ _ => (jn_name 2 nd)) (fun _ _ _ _ _ => jts_nil) (fun _ _ _ _ _ => (je_tup (ja_cons (j_var 2) ja_nil))) (hgs_name))))
    (jb_cons (js_set 1 nd (j_op op_addA om_add (j_var 1) (je_lst (ja_cons (je_tup ja_nil) (ja_cons j_non (ja_cons (je_lst (ja_cons j_str ja_nil)) (ja_cons j_str (ja_cons (je_tup (ja_cons j_str (ja_cons (je_tup (ja_cons j_str ja_nil)) ja_nil))) (ja_cons (je_lst (ja_cons j_str (ja_cons j_int ja_nil))) (ja_cons (je_tup (ja_cons j_str ja_nil)) (ja_cons j_int ja_nil)))))))))))
    (jb_cons (js_for hp rfl (ji_any (j_var 1)) (jg_name 3 nd)
    (jb_one (js_if (jt_cmp (op_neA (hu64 hr)) om_neA (je_lc [("_law_tree", 5)] rfl rfl nd (ji_any (jx_call I_l_spots hr (Nat.le_succ _) tk (ja_cons (j_var 3) ja_nil) (hlen := (mCons_len mNil_len)))) (blkOk_by (N := ["_law_source_here", "_law_odd", "_law_word_here", "_law_operand", "_law_found", "_law_tree", "_law_number"]) (sc := defScope s_l_operands) (by decide +kernel)) (fun _ _ _ _ _ => (jn_name 5 nd)) (fun _ _ _ _ _ => (jts_one (jt_cmp (op_neA (hu64 hr)) om_neA (jx_call I_l_word hr (Nat.le_succ _) M.tk0 (ja_cons (jx_call I_l_with_tree hr (Nat.le_succ _) M.tk0 (ja_cons (j_var 0) (ja_cons (j_var 5) ja_nil)) (hlen := (mCons_len (mCons_len mNil_len)))) ja_nil) (hlen := (mCons_len mNil_len))) j_str))) (fun _ _ _ _ _ => (j_var 5)) (hgs_name)) (je_lst ja_nil))
    (jb_one (js_ret j_bl))
    jb_nil)))
    (jb_cons (js_for hp rfl (ji_any (je_lst (ja_cons (je_tup (ja_cons j_str (ja_cons j_int ja_nil))) (ja_cons (je_tup (ja_cons j_str (ja_cons j_int ja_nil))) ja_nil)))) (jg_name 3 nd)
    (jb_one (js_if (jt_cmp (op_neA (hu64 hr)) om_neA (je_lc [("_law_tree", 5)] rfl rfl nd (ji_any (jx_call I_l_spots hr (Nat.le_succ _) tk (ja_cons (j_var 3) ja_nil) (hlen := (mCons_len mNil_len)))) (blkOk_by (N := ["_law_source_here", "_law_odd", "_law_word_here", "_law_operand", "_law_found", "_law_tree", "_law_number"]) (sc := defScope s_l_operands) (by decide +kernel)) (fun _ _ _ _ _ => (jn_name 5 nd)) (fun _ _ _ _ _ => (jts_one (jt_cmp (op_neA (hu64 hr)) om_neA (jx_call I_l_word hr (Nat.le_succ _) M.tk0 (ja_cons (jx_call I_l_with_tree hr (Nat.le_succ _) M.tk0 (ja_cons (j_var 0) (ja_cons (j_var 5) ja_nil)) (hlen := (mCons_len (mCons_len mNil_len)))) ja_nil) (hlen := (mCons_len mNil_len))) j_str))) (fun _ _ _ _ _ => (j_var 5)) (hgs_name)) (je_lst ja_nil))
    (jb_one (js_ret j_bl))
    jb_nil)))
    (jb_cons (js_for hp rfl (ji_any (je_lst (ja_cons j_str (ja_cons j_str (ja_cons j_str ja_nil))))) (jg_name 2 nd)
    (jb_cons (js_setLc 4 [("_law_tree", 5)] rfl rfl nd (ji_any (jx_call I_l_spots hr (Nat.le_succ _) tk (ja_cons (je_tup (ja_cons (j_var 2) ja_nil)) ja_nil) (hlen := (mCons_len mNil_len)))) (blkOk_by (N := ["_law_source_here", "_law_odd", "_law_word_here", "_law_operand", "_law_found", "_law_tree", "_law_number"]) (sc := defScope s_l_operands) (by decide +kernel)) (fun _ _ _ _ _ => (jn_name 5 nd)) (fun _ _ _ _ _ => jts_nil) (fun _ _ _ _ _ => (jx_call I_l_word hr (Nat.le_succ _) M.tk0 (ja_cons (jx_call I_l_with_tree hr (Nat.le_succ _) M.tk0 (ja_cons (j_var 0) (ja_cons (j_var 5) ja_nil)) (hlen := (mCons_len (mCons_len mNil_len)))) ja_nil) (hlen := (mCons_len mNil_len)))) (hgs_name))
    (jb_one (js_if (jt_cmp (op_neA (hu64 hr)) om_neA (j_var 4) (j_op op_addA om_add (j_op op_mulA om_mul (je_lst (ja_cons j_str ja_nil)) j_int) (j_op op_mulA om_mul (je_lst (ja_cons j_str ja_nil)) j_int)))
    (jb_one (js_ret j_bl))
    jb_nil))))
    (jb_one (js_ret j_bl))))))))))
abbrev s_l_ends : Stmt := topS 49
theorem sc_l_ends : FnScope ["_law_source_here", "_law_none", "_law_end", "_law_good", "_law_wrong", "_law_odd", "_law_outcome", "_law_number", "_law_hold", "_law_right", "_law_word_here", "_law_tree"] ["_law_source_here"] (defScope s_l_ends) := ⟨rfl, rfl, rfl, by decide +kernel, rfl, by decide +kernel, by decide +kernel⟩
noncomputable def b_l_ends (ck : Fnm → MF) : MS := (mSeq (mPar3 1 2 3 (mCons (mTup (mCons (mC (.str "value")) (mCons (mTup (mCons (mC (.str "none")) mNil)) mNil))) (mCons (mCall (ck .l_leaf) mNil) (mCons (mTup (mCons (mC (.str "event")) (mCons (mC (.int 0)) mNil))) mNil))))
    (mSeq (mAsg (mLst mNil) (nName 4))
    (mSeq (mAsg (mLc (mAnyI (mLst (mCons (mC (.bl false)) (mCons (mC .non) (mCons (mC (.str "0")) (mCons (mNeg (mC (.int 1))) (mCons (mC (.int 1)) (mCons (mLst mNil) (mCons (mBin gPow (mC (.int 10)) (mC (.int 25))) mNil))))))))) (ngName 7) mYes (mTup (mCons (mC (.str "failed")) (mCons (mVar 7) mNil))) [7]) (nName 5))
    (mSeq (mAsg (mBin gAdd (mVar 5) (mLc (mAnyI (mLst (mCons (mC (.str "raised")) (mCons (mC (.str "wanting")) (mCons (mC (.str "event")) (mCons (mC (.str "")) (mCons (mC .non) mNil))))))) (ngName 10) mYes (mTup (mCons (mVar 10) (mCons (mC (.int 0)) mNil))) [10])) (nName 5))
    (mSeq (mAsg (mBin gAdd (mVar 5) (mLst (mCons (mTup (mCons (mC (.str "failed")) mNil)) (mCons (mTup (mCons (mC (.str "failed")) (mCons (mC (.int 0)) (mCons (mC (.int 0)) mNil)))) (mCons (mTup (mCons (mC (.str "value")) mNil)) (mCons (mTup (mCons (mC (.str "value")) (mCons (mTup (mCons (mC (.str "none")) mNil)) (mCons (mC (.int 0)) mNil)))) (mCons (mTup mNil) (mCons (mC .non) (mCons (mLst (mCons (mC (.str "failed")) (mCons (mC (.int 0)) mNil))) mNil))))))))) (nName 5))
    (mSeq (mDrop (mBM gAppend (mVar 5) (mCons (mC (.str "failed")) mNil)))
    (mSeq (mFor (mAnyI (mVar 5)) (nName 6)
    (mDrop (mBM gAppend (mVar 4) (mCons (mTup (mCons (mC (.str "ask")) (mCons (mC (.str "f")) (mCons (mTup mNil) (mCons (mTup (mCons (mVar 2) (mCons (mTup (mCons (mC (.str "end")) (mCons (mVar 6) (mCons (mC (.int 0)) (mCons (mTup mNil) mNil))))) mNil))) mNil))))) mNil))))
    (mSeq (mAsg (mBin gAdd (mVar 4) (mLst (mCons (mCall (ck .l_behind) (mCons (mTup (mCons (mC (.str "end")) (mCons (mTup (mCons (mC (.str "failed")) (mCons (mC (.int 0)) mNil))) (mCons (mC (.int 0)) (mCons (mTup mNil) mNil))))) mNil)) (mCons (mTup (mCons (mC (.str "end")) (mCons (mTup (mCons (mC (.str "failed")) (mCons (mC (.int 0)) mNil))) (mCons (mC (.int 0)) (mCons (mTup mNil) mNil))))) mNil)))) (nName 4))
    (mSeq (mFor (mAnyI (mLst (mCons (mTup (mCons (mC (.int 0)) (mCons (mTup (mCons (mVar 3) mNil)) mNil))) (mCons (mTup (mCons (mC (.int 1)) (mCons (mTup mNil) mNil))) (mCons (mTup (mCons (mC (.int 1)) (mCons (mTup (mCons (mVar 3) (mCons (mVar 3) mNil))) mNil))) (mCons (mTup (mCons (mC (.int 2)) (mCons (mTup (mCons (mVar 3) mNil)) mNil))) (mCons (mTup (mCons (mC (.int 2)) (mCons (mTup (mCons (mVar 3) (mCons (mVar 3) (mCons (mVar 3) mNil)))) mNil))) (mCons (mTup (mCons (mC (.int 2)) (mCons (mTup mNil) mNil))) mNil)))))))) (nTup 2 (nCons (nName 7) (nCons (nName 8) nNil)))
    (mDrop (mBM gAppend (mVar 4) (mCons (mCall (ck .l_behind) (mCons (mTup (mCons (mC (.str "end")) (mCons (mVar 1) (mCons (mVar 7) (mCons (mVar 8) mNil))))) mNil)) mNil))))
    (mSeq (mFor (mAnyI (mLst (mCons (mLst mNil) (mCons (mC .non) (mCons (mC (.str "")) (mCons (mLst (mCons (mVar 3) mNil)) mNil)))))) (nName 8)
    (mAsg (mBin gAdd (mVar 4) (mLst (mCons (mCall (ck .l_behind) (mCons (mTup (mCons (mC (.str "end")) (mCons (mVar 1) (mCons (mC (.int 0)) (mCons (mVar 8) mNil))))) mNil)) (mCons (mCall (ck .l_behind) (mCons (mTup (mCons (mC (.str "end")) (mCons (mVar 1) (mCons (mC (.int 1)) (mCons (mVar 8) mNil))))) mNil)) mNil)))) (nName 4)))
    (mSeq (mFor (mAnyI (mLst (mCons (mC (.int 3)) (mCons (mNeg (mC (.int 1))) (mCons (mC (.bl true)) (mCons (mC (.bl false)) (mCons (mC .non) (mCons (mC (.str "0")) (mCons (mLst mNil) (mCons (mBin gPow (mC (.int 10)) (mC (.int 25))) mNil)))))))))) (nName 7)
    (mDrop (mBM gAppend (mVar 4) (mCons (mTup (mCons (mC (.str "end")) (mCons (mVar 1) (mCons (mVar 7) (mCons (mTup mNil) mNil))))) mNil))))
    (mSeq (mAsg (mBin gAdd (mVar 4) (mLst (mCons (mTup (mCons (mC (.str "end")) mNil)) (mCons (mSl (mVar 2) mNo (mEnd (mC (.int 3)))) (mCons (mBin gAdd (mVar 2) (mTup (mCons (mC (.int 0)) mNil))) (mCons (mCall gListA (mCons (mVar 2) mNil)) (mCons (mBin gAdd (mTup (mCons (mC (.str "stop")) mNil)) (mSl (mVar 2) (mEnd (mC (.int 1))) mNo)) (mCons (mC .non) (mCons (mTup mNil) (mCons (mC (.str "end")) (mCons (mC (.int 0)) mNil))))))))))) (nName 4))
    (mSeq (mIfS (mB (mBin (gEqA true) (mLc (mAnyI (mVar 4)) (ngName 11) (mB (mBin (gEqA true) (mCall (ck .l_word) (mCons (mCall (ck .l_with_tree) (mCons (mVar 0) (mCons (mVar 11) mNil))) mNil)) (mC (.str "machine")))) (mVar 11) [11]) (mLst mNil)))
    (mRet (mC (.bl false)))
    mSkip)
    (mSeq (mAsg (mLst (mCons (mTup (mCons (mC (.str "ask")) (mCons (mC (.str "f")) (mCons (mTup mNil) (mCons (mTup (mCons (mVar 2) (mCons (mTup (mCons (mC (.str "end")) (mCons (mTup (mCons (mC (.str "failed")) (mCons (mC (.int 0)) mNil))) (mCons (mC (.int 0)) (mCons (mTup mNil) mNil))))) mNil))) mNil))))) (mCons (mCall (ck .l_behind) (mCons (mTup (mCons (mC (.str "end")) (mCons (mVar 1) (mCons (mC (.int 1)) (mCons (mTup (mCons (mVar 3) mNil)) mNil))))) mNil)) mNil))) (nName 9))
    (mSeq (mAsg (mBin gAdd (mVar 9) (mLst (mCons (mCall (ck .l_behind) (mCons (mTup (mCons (mC (.str "end")) (mCons (mVar 1) (mCons (mC (.int 2)) (mCons (mTup (mCons (mVar 3) (mCons (mVar 3) mNil))) mNil))))) mNil)) (mCons (mVar 2) mNil)))) (nName 9))
    (mRet (mBin gEqE (mLc (mAnyI (mVar 9)) (ngName 11) (mB (mBin (gEqA true) (mCall (ck .l_word) (mCons (mCall (ck .l_with_tree) (mCons (mVar 0) (mCons (mVar 11) mNil))) mNil)) (mC (.str "good")))) (mVar 11) [11]) (mLst mNil))))))))))))))))))
noncomputable def f_l_ends (ck : Fnm → MF) : MF := fun ds m => endOf (b_l_ends ck (startM 12 ds) m)
theorem ok_l_ends {M : Mode} {P : Program} {w : World} {K : PySem.W.Frag} {mg : Str → Option Value} {base : Heap} {k : Nat} {f : Addr} {fd : FuncData} {ck : Fnm → MF} (Fu : Fun K "_law_ends" "_law_ends" s_l_ends f fd) (T : Txt K w mg) (I_l_behind : FnX M P w K mg base k "_law_behind" 1 (ck .l_behind)) (I_l_leaf : FnX M P w K mg base k "_law_leaf" 0 (ck .l_leaf)) (I_l_with_tree : FnX M P w K mg base k "_law_with_tree" 2 (ck .l_with_tree)) (I_l_word : FnX M P w K mg base k "_law_word" 1 (ck .l_word)) :
    FnOk P w K mg base (M.CX P w) (k + 2) f fd ["_law_source_here"] (spM K 1 (f_l_ends ck)) :=
  have nd := sc_l_ends.nd
  fnx_ok (M := M) (g := b_l_ends ck) Fu sc_l_ends rfl (fun _ _ _ => rfl) fun cdv A outer s H E hr W tk hp =>
    (jb_cons (js_par3 1 2 3 rfl nd (ja_cons (je_tup (ja_cons j_str (ja_cons (je_tup (ja_cons j_str ja_nil)) ja_nil))) (ja_cons (jx_call0 I_l_leaf hr (Nat.le_succ _) tk) (ja_cons (je_tup (ja_cons j_str (ja_cons j_int ja_nil))) ja_nil))))
    (jb_cons (js_set 4 nd (je_lst ja_nil))
    (jb_cons (js_setLc 5 [("_law_number", 7)] rfl rfl nd (ji_any (je_lst (ja_cons j_bl (ja_cons j_non (ja_cons j_str (ja_cons (je_neg j_int) (ja_cons j_int (ja_cons (je_lst ja_nil) (ja_cons (j_op op_powW om_pow j_int j_int) ja_nil))))))))) (blkOk_by (N := ["_law_source_here", "_law_none", "_law_end", "_law_good", "_law_wrong", "_law_odd", "_law_outcome", "_law_number", "_law_hold", "_law_right", "_law_word_here", "_law_tree"]) (sc := defScope s_l_ends) (by decide +kernel)) (fun _ _ _ _ _ => (jn_name 7 nd)) (fun _ _ _ _ _ => jts_nil) (fun _ _ _ _ _ => (je_tup (ja_cons j_str (ja_cons (j_var 7) ja_nil)))) (hgs_name))
    (jb_cons (js_set 5 nd (j_op op_addA om_add (j_var 5) (je_lc [("_law_word_here", 10)] rfl rfl nd (ji_any (je_lst (ja_cons j_str (ja_cons j_str (ja_cons j_str (ja_cons j_str (ja_cons j_non ja_nil))))))) (blkOk_by (N := ["_law_source_here", "_law_none", "_law_end", "_law_good", "_law_wrong", "_law_odd", "_law_outcome", "_law_number", "_law_hold", "_law_right", "_law_word_here", "_law_tree"]) (sc := defScope s_l_ends) (by decide +kernel)) (fun _ _ _ _ _ => (jn_name 10 nd)) (fun _ _ _ _ _ => jts_nil) (fun _ _ _ _ _ => (je_tup (ja_cons (j_var 10) (ja_cons j_int ja_nil)))) (hgs_name))))
    (jb_cons (js_set 5 nd (j_op op_addA om_add (j_var 5) (je_lst (ja_cons (je_tup (ja_cons j_str ja_nil)) (ja_cons (je_tup (ja_cons j_str (ja_cons j_int (ja_cons j_int ja_nil)))) (ja_cons (je_tup (ja_cons j_str ja_nil)) (ja_cons (je_tup (ja_cons j_str (ja_cons (je_tup (ja_cons j_str ja_nil)) (ja_cons j_int ja_nil)))) (ja_cons (je_tup ja_nil) (ja_cons j_non (ja_cons (je_lst (ja_cons j_str (ja_cons j_int ja_nil))) ja_nil))))))))))
    (jb_cons (js_expr (je_bmL PySem.F.slot_list_append PySem.F.type_list_append mt_append mm_append (j_var 5) (ja_cons j_str ja_nil)))
    (jb_cons (js_for hp rfl (ji_any (j_var 5)) (jg_name 6 nd)
    (jb_one (js_expr (je_bmL PySem.F.slot_list_append PySem.F.type_list_append mt_append mm_append (j_var 4) (ja_cons (je_tup (ja_cons j_str (ja_cons j_str (ja_cons (je_tup ja_nil) (ja_cons (je_tup (ja_cons (j_var 2) (ja_cons (je_tup (ja_cons j_str (ja_cons (j_var 6) (ja_cons j_int (ja_cons (je_tup ja_nil) ja_nil))))) ja_nil))) ja_nil))))) ja_nil)))))
    (jb_cons (js_set 4 nd (j_op op_addA om_add (j_var 4) (je_lst (ja_cons (jx_call I_l_behind hr (Nat.le_succ _) tk (ja_cons (je_tup (ja_cons j_str (ja_cons (je_tup (ja_cons j_str (ja_cons j_int ja_nil))) (ja_cons j_int (ja_cons (je_tup ja_nil) ja_nil))))) ja_nil) (hlen := (mCons_len mNil_len))) (ja_cons (je_tup (ja_cons j_str (ja_cons (je_tup (ja_cons j_str (ja_cons j_int ja_nil))) (ja_cons j_int (ja_cons (je_tup ja_nil) ja_nil))))) ja_nil)))))
    (jb_cons (js_for hp rfl (ji_any (je_lst (ja_cons (je_tup (ja_cons j_int (ja_cons (je_tup (ja_cons (j_var 3) ja_nil)) ja_nil))) (ja_cons (je_tup (ja_cons j_int (ja_cons (je_tup ja_nil) ja_nil))) (ja_cons (je_tup (ja_cons j_int (ja_cons (je_tup (ja_cons (j_var 3) (ja_cons (j_var 3) ja_nil))) ja_nil))) (ja_cons (je_tup (ja_cons j_int (ja_cons (je_tup (ja_cons (j_var 3) ja_nil)) ja_nil))) (ja_cons (je_tup (ja_cons j_int (ja_cons (je_tup (ja_cons (j_var 3) (ja_cons (j_var 3) (ja_cons (j_var 3) ja_nil)))) ja_nil))) (ja_cons (je_tup (ja_cons j_int (ja_cons (je_tup ja_nil) ja_nil))) ja_nil)))))))) (jg_tup rfl (jgs_cons (jg_name 7 nd) (jgs_cons (jg_name 8 nd) jgs_nil)))
    (jb_one (js_expr (je_bmL PySem.F.slot_list_append PySem.F.type_list_append mt_append mm_append (j_var 4) (ja_cons (jx_call I_l_behind hr (Nat.le_succ _) tk (ja_cons (je_tup (ja_cons j_str (ja_cons (j_var 1) (ja_cons (j_var 7) (ja_cons (j_var 8) ja_nil))))) ja_nil) (hlen := (mCons_len mNil_len))) ja_nil)))))
    (jb_cons (js_for hp rfl (ji_any (je_lst (ja_cons (je_lst ja_nil) (ja_cons j_non (ja_cons j_str (ja_cons (je_lst (ja_cons (j_var 3) ja_nil)) ja_nil)))))) (jg_name 8 nd)
    (jb_one (js_set 4 nd (j_op op_addA om_add (j_var 4) (je_lst (ja_cons (jx_call I_l_behind hr (Nat.le_succ _) tk (ja_cons (je_tup (ja_cons j_str (ja_cons (j_var 1) (ja_cons j_int (ja_cons (j_var 8) ja_nil))))) ja_nil) (hlen := (mCons_len mNil_len))) (ja_cons (jx_call I_l_behind hr (Nat.le_succ _) tk (ja_cons (je_tup (ja_cons j_str (ja_cons (j_var 1) (ja_cons j_int (ja_cons (j_var 8) ja_nil))))) ja_nil) (hlen := (mCons_len mNil_len))) ja_nil)))))))
    (jb_cons (js_for hp rfl (ji_any (je_lst (ja_cons j_int (ja_cons (je_neg j_int) (ja_cons j_bl (ja_cons j_bl (ja_cons j_non (ja_cons j_str (ja_cons (je_lst ja_nil) (ja_cons (j_op op_powW om_pow j_int j_int) ja_nil)))))))))) (jg_name 7 nd)
    (jb_one (js_expr (je_bmL PySem.F.slot_list_append PySem.F.type_list_append mt_append mm_append (j_var 4) (ja_cons (je_tup (ja_cons j_str (ja_cons (j_var 1) (ja_cons (j_var 7) (ja_cons (je_tup ja_nil) ja_nil))))) ja_nil)))))
    (jb_cons (js_set 4 nd (j_op op_addA om_add (j_var 4) (je_lst (ja_cons (je_tup (ja_cons j_str ja_nil)) (ja_cons (je_sl (j_var 2) jo_no (jo_end j_int)) (ja_cons (j_op op_addA om_add (j_var 2) (je_tup (ja_cons j_int ja_nil))) (ja_cons (je_callTy (cr_listA rfl) cm_listA T.b_list (by decide +kernel) (ja_cons (j_var 2) ja_nil)) (ja_cons (j_op op_addA om_add (je_tup (ja_cons j_str ja_nil)) (je_sl (j_var 2) (jo_end j_int) jo_no)) (ja_cons j_non (ja_cons (je_tup ja_nil) (ja_cons j_str (ja_cons j_int ja_nil))))))))))))
    (jb_cons (js_if (jt_cmp (op_neA (hu64 hr)) om_neA (je_lc [("_law_tree", 11)] rfl rfl nd (ji_any (j_var 4)) (blkOk_by (N := ["_law_source_here", "_law_none", "_law_end", "_law_good", "_law_wrong", "_law_odd", "_law_outcome", "_law_number", "_law_hold", "_law_right", "_law_word_here", "_law_tree"]) (sc := defScope s_l_ends) (by decide +kernel)) (fun _ _ _ _ _ => (jn_name 11 nd)) (fun _ _ _ _ _ => (jts_one (jt_cmp (op_neA (hu64 hr)) om_neA (jx_call I_l_word hr (Nat.le_succ _) M.tk0 (ja_cons (jx_call I_l_with_tree hr (Nat.le_succ _) M.tk0 (ja_cons (j_var 0) (ja_cons (j_var 11) ja_nil)) (hlen := (mCons_len (mCons_len mNil_len)))) ja_nil) (hlen := (mCons_len mNil_len))) j_str))) (fun _ _ _ _ _ => (j_var 11)) (hgs_name)) (je_lst ja_nil))
    (jb_one (js_ret j_bl))
    jb_nil)
    (jb_cons (js_set 9 nd (je_lst (ja_cons (je_tup (ja_cons j_str (ja_cons j_str (ja_cons (je_tup ja_nil) (ja_cons (je_tup (ja_cons (j_var 2) (ja_cons (je_tup (ja_cons j_str (ja_cons (je_tup (ja_cons j_str (ja_cons j_int ja_nil))) (ja_cons j_int (ja_cons (je_tup ja_nil) ja_nil))))) ja_nil))) ja_nil))))) (ja_cons (jx_call I_l_behind hr (Nat.le_succ _) tk (ja_cons (je_tup (ja_cons j_str (ja_cons (j_var 1) (ja_cons j_int (ja_cons (je_tup (ja_cons (j_var 3) ja_nil)) ja_nil))))) ja_nil) (hlen := (mCons_len mNil_len))) ja_nil))))
    (jb_cons (js_set 9 nd (j_op op_addA om_add (j_var 9) (je_lst (ja_cons (jx_call I_l_behind hr (Nat.le_succ _) tk (ja_cons (je_tup (ja_cons j_str (ja_cons (j_var 1) (ja_cons j_int (ja_cons (je_tup (ja_cons (j_var 3) (ja_cons (j_var 3) ja_nil))) ja_nil))))) ja_nil) (hlen := (mCons_len mNil_len))) (ja_cons (j_var 2) ja_nil)))))
    (jb_one (js_ret (j_cmp (op_eqE (hu0 hr)) om_eqE (je_lc [("_law_tree", 11)] rfl rfl nd (ji_any (j_var 9)) (blkOk_by (N := ["_law_source_here", "_law_none", "_law_end", "_law_good", "_law_wrong", "_law_odd", "_law_outcome", "_law_number", "_law_hold", "_law_right", "_law_word_here", "_law_tree"]) (sc := defScope s_l_ends) (by decide +kernel)) (fun _ _ _ _ _ => (jn_name 11 nd)) (fun _ _ _ _ _ => (jts_one (jt_cmp (op_neA (hu64 hr)) om_neA (jx_call I_l_word hr (Nat.le_succ _) M.tk0 (ja_cons (jx_call I_l_with_tree hr (Nat.le_succ _) M.tk0 (ja_cons (j_var 0) (ja_cons (j_var 11) ja_nil)) (hlen := (mCons_len (mCons_len mNil_len)))) ja_nil) (hlen := (mCons_len mNil_len))) j_str))) (fun _ _ _ _ _ => (j_var 11)) (hgs_name)) (je_lst ja_nil)))))))))))))))))))
abbrev s_l_asks : Stmt := topS 50
theorem sc_l_asks : FnScope ["_law_source_here", "_law_end", "_law_none", "_law_three", "_law_wrong", "_law_word_here", "_law_many", "_law_parts", "_law_right", "_law_tree"] ["_law_source_here"] (defScope s_l_asks) := ⟨rfl, rfl, rfl, by decide +kernel, rfl, by decide +kernel, by decide +kernel⟩
noncomputable def b_l_asks (ck : Fnm → MF) : MS := (mSeq (mAsg (mTup (mCons (mCall (ck .l_leaf) mNil) (mCons (mTup (mCons (mC (.str "none")) mNil)) mNil))) (nTup 2 (nCons (nName 1) (nCons (nName 2) nNil))))
    (mSeq (mAsg (mTup (mCons (mVar 1) (mCons (mVar 1) (mCons (mVar 1) mNil)))) (nName 3))
    (mSeq (mAsg (mLst mNil) (nName 4))
    (mSeq (mFor (mAnyI (mLst (mCons (mTup (mCons (mC (.str "if")) (mCons (mC (.int 0)) mNil))) (mCons (mTup (mCons (mC (.str "abcdefghi")) (mCons (mC (.int 1)) mNil))) (mCons (mTup (mCons (mC (.str "self")) (mCons (mC (.int 0)) mNil))) (mCons (mTup (mCons (mC (.str "<")) (mCons (mC (.int 3)) mNil))) (mCons (mTup (mCons (mC (.str "<")) (mCons (mC (.int 1)) mNil))) (mCons (mTup (mCons (mC (.str "<")) (mCons (mC (.int 0)) mNil))) (mCons (mTup (mCons (mC (.str "=")) (mCons (mC (.int 2)) mNil))) (mCons (mTup (mCons (mC .non) (mCons (mC (.int 0)) mNil))) mNil)))))))))) (nTup 2 (nCons (nName 5) (nCons (nName 6) nNil)))
    (mDrop (mBM gAppend (mVar 4) (mCons (mTup (mCons (mC (.str "ask")) (mCons (mVar 5) (mCons (mBin gMulB (mTup (mCons (mVar 2) mNil)) (mVar 6)) (mCons (mTup (mCons (mVar 1) (mCons (mVar 1) mNil))) mNil))))) mNil))))
    (mSeq (mFor (mAnyI (mLst (mCons (mTup (mCons (mC (.str "")) (mCons (mC (.int 0)) mNil))) (mCons (mTup (mCons (mLst (mCons (mC (.str "f")) mNil)) (mCons (mC (.int 0)) mNil))) (mCons (mTup (mCons (mC (.str "F")) (mCons (mC (.int 0)) mNil))) (mCons (mTup (mCons (mC (.str "f
")) (mCons (mC (.int 0)) mNil))) (mCons (mTup (mCons (mC (.str "f")) (mCons (mC (.int 4)) mNil))) (mCons (mTup (mCons (mC (.int 7)) (mCons (mC (.int 0)) mNil))) mNil)))))))) (nTup 2 (nCons (nName 5) (nCons (nName 6) nNil)))
    (mDrop (mBM gAppend (mVar 4) (mCons (mTup (mCons (mC (.str "ask")) (mCons (mVar 5) (mCons (mBin gMulB (mTup (mCons (mVar 2) mNil)) (mVar 6)) (mCons (mTup (mCons (mVar 1) (mCons (mVar 1) mNil))) mNil))))) mNil))))
    (mSeq (mFor (mAnyI (mLst (mCons (mLst (mCons (mVar 1) (mCons (mVar 1) mNil))) (mCons (mTup (mCons (mVar 1) mNil)) (mCons (mVar 3) (mCons (mTup (mCons (mVar 1) (mCons (mC .non) mNil))) (mCons (mTup (mCons (mC .non) (mCons (mVar 1) mNil))) (mCons (mTup mNil) (mCons (mC .non) mNil))))))))) (nName 7)
    (mDrop (mBM gAppend (mVar 4) (mCons (mTup (mCons (mC (.str "ask")) (mCons (mC (.str "f")) (mCons (mTup mNil) (mCons (mVar 7) mNil))))) mNil))))
    (mSeq (mFor (mAnyI (mLst (mCons (mCall gListA (mCons (mVar 3) mNil)) (mCons (mTup (mCons (mVar 1) (mCons (mVar 1) mNil))) (mCons (mBin gAdd (mVar 3) (mTup (mCons (mVar 1) mNil))) (mCons (mTup (mCons (mVar 1) (mCons (mC .non) (mCons (mVar 1) mNil)))) (mCons (mTup (mCons (mVar 1) (mCons (mVar 1) (mCons (mTup mNil) mNil)))) (mCons (mTup mNil) (mCons (mC .non) mNil))))))))) (nName 7)
    (mDrop (mBM gAppend (mVar 4) (mCons (mTup (mCons (mC (.str "test")) (mCons (mTup (mCons (mC (.str "parameter")) (mCons (mC (.int 0)) mNil))) (mCons (mVar 7) mNil)))) mNil))))
    (mSeq (mAsg (mBin gAdd (mVar 4) (mLst (mCons (mTup (mCons (mC (.str "ask")) (mCons (mC (.str "f")) (mCons (mLst mNil) (mCons (mTup (mCons (mVar 1) (mCons (mVar 1) mNil))) mNil))))) (mCons (mTup (mCons (mC (.str "ask")) (mCons (mC (.str "f")) (mCons (mC .non) (mCons (mTup (mCons (mVar 1) (mCons (mVar 1) mNil))) mNil))))) (mCons (mTup (mCons (mC (.str "ask")) (mCons (mC (.str "f")) (mCons (mTup mNil) mNil)))) (mCons (mTup (mCons (mC (.str "test")) (mCons (mVar 3) mNil))) mNil)))))) (nName 4))
    (mSeq (mAsg (mBin gAdd (mVar 4) (mLst (mCons (mTup (mCons (mC (.str "ask")) (mCons (mC (.str "f")) (mCons (mTup mNil) (mCons (mTup (mCons (mVar 1) (mCons (mVar 1) mNil))) (mCons (mC (.int 0)) mNil)))))) (mCons (mTup (mCons (mC (.str "test")) (mCons (mTup (mCons (mC (.str "parameter")) (mCons (mC (.int 0)) mNil))) (mCons (mVar 3) (mCons (mC (.int 0)) mNil))))) mNil)))) (nName 4))
    (mSeq (mDrop (mBM gAppend (mVar 4) (mCons (mLst (mCons (mC (.str "test")) (mCons (mTup (mCons (mC (.str "parameter")) (mCons (mC (.int 0)) mNil))) (mCons (mVar 3) mNil)))) mNil)))
    (mSeq (mDrop (mBM gAppend (mVar 4) (mCons (mTup (mCons (mC (.str "ask")) (mCons (mC (.str "f")) (mCons (mTup mNil) (mCons (mTup (mCons (mVar 1) (mCons (mTup (mCons (mC (.str "test")) (mCons (mTup (mCons (mC (.str "event")) (mCons (mC (.int 0)) mNil))) (mCons (mVar 3) mNil)))) mNil))) mNil))))) mNil)))
    (mSeq (mDrop (mBM gAppend (mVar 4) (mCons (mTup (mCons (mC (.str "ask")) (mCons (mC (.str "f")) (mCons (mTup mNil) (mCons (mTup (mCons (mVar 1) (mCons (mTup (mCons (mC (.str "ask")) (mCons (mC (.str "g")) (mCons (mTup (mCons (mTup (mCons (mC (.str "event")) (mCons (mC (.int 0)) mNil))) mNil)) (mCons (mTup (mCons (mVar 1) (mCons (mVar 1) mNil))) mNil))))) mNil))) mNil))))) mNil)))
    (mSeq (mDrop (mBM gAppend (mVar 4) (mCons (mCall (ck .l_behind) (mCons (mTup (mCons (mC (.str "ask")) (mCons (mC (.str "<")) (mCons (mTup (mCons (mTup (mCons (mC (.str "event")) (mCons (mC (.int 0)) mNil))) (mCons (mTup (mCons (mC (.str "event")) (mCons (mC (.int 1)) mNil))) mNil))) (mCons (mTup (mCons (mVar 1) (mCons (mVar 1) mNil))) mNil))))) mNil)) mNil)))
    (mSeq (mIfS (mB (mBin (gEqA true) (mLc (mAnyI (mVar 4)) (ngName 9) (mB (mBin (gEqA true) (mCall (ck .l_word) (mCons (mCall (ck .l_with_tree) (mCons (mVar 0) (mCons (mVar 9) mNil))) mNil)) (mC (.str "machine")))) (mVar 9) [9]) (mLst mNil)))
    (mRet (mC (.bl false)))
    mSkip)
    (mSeq (mAsg (mLc (mRng (mCons (mC (.int 4)) mNil)) (ngName 6) mYes (mTup (mCons (mC (.str "ask")) (mCons (mC (.str "f")) (mCons (mBin gMulB (mTup (mCons (mVar 2) mNil)) (mVar 6)) (mCons (mTup (mCons (mVar 1) (mCons (mVar 1) mNil))) mNil))))) [6]) (nName 8))
    (mSeq (mAsg (mBin gAdd (mVar 8) (mLst (mCons (mTup (mCons (mC (.str "ask")) (mCons (mC (.str "!=")) (mCons (mTup (mCons (mVar 2) (mCons (mVar 2) mNil))) (mCons (mTup (mCons (mVar 1) (mCons (mVar 1) mNil))) mNil))))) (mCons (mTup (mCons (mC (.str "test")) (mCons (mTup (mCons (mC (.str "parameter")) (mCons (mC (.int 0)) mNil))) (mCons (mVar 3) mNil)))) mNil)))) (nName 8))
    (mRet (mBin gEqE (mLc (mAnyI (mVar 8)) (ngName 9) (mB (mBin (gEqA true) (mCall (ck .l_word) (mCons (mCall (ck .l_with_tree) (mCons (mVar 0) (mCons (mVar 9) mNil))) mNil)) (mC (.str "good")))) (mVar 9) [9]) (mLst mNil)))))))))))))))))))
noncomputable def f_l_asks (ck : Fnm → MF) : MF := fun ds m => endOf (b_l_asks ck (startM 10 ds) m)
theorem ok_l_asks {M : Mode} {P : Program} {w : World} {K : PySem.W.Frag} {mg : Str → Option Value} {base : Heap} {k : Nat} {f : Addr} {fd : FuncData} {ck : Fnm → MF} (Fu : Fun K "_law_asks" "_law_asks" s_l_asks f fd) (T : Txt K w mg) (I_l_behind : FnX M P w K mg base k "_law_behind" 1 (ck .l_behind)) (I_l_leaf : FnX M P w K mg base k "_law_leaf" 0 (ck .l_leaf)) (I_l_with_tree : FnX M P w K mg base k "_law_with_tree" 2 (ck .l_with_tree)) (I_l_word : FnX M P w K mg base k "_law_word" 1 (ck .l_word)) :
    FnOk P w K mg base (M.CX P w) (k + 2) f fd ["_law_source_here"] (spM K 1 (f_l_asks ck)) :=
  have nd := sc_l_asks.nd
  fnx_ok (M := M) (g := b_l_asks ck) Fu sc_l_asks rfl (fun _ _ _ => rfl) fun cdv A outer s H E hr W tk hp =>
    (jb_cons (js_asg (je_tup (ja_cons (jx_call0 I_l_leaf hr (Nat.le_succ _) tk) (ja_cons (je_tup (ja_cons j_str ja_nil)) ja_nil))) (jg_tup rfl (jgs_cons (jg_name 1 nd) (jgs_cons (jg_name 2 nd) jgs_nil))))
    (jb_cons (js_set 3 nd (je_tup (ja_cons (j_var 1) (ja_cons (j_var 1) (ja_cons (j_var 1) ja_nil)))))
    (jb_cons (js_set 4 nd (je_lst ja_nil))
    (jb_cons (js_for hp rfl (ji_any (je_lst (ja_cons (je_tup (ja_cons j_str (ja_cons j_int ja_nil))) (ja_cons (je_tup (ja_cons j_str (ja_cons j_int ja_nil))) (ja_cons (je_tup (ja_cons j_str (ja_cons j_int ja_nil))) (ja_cons (je_tup (ja_cons j_str (ja_cons j_int ja_nil))) (ja_cons (je_tup (ja_cons j_str (ja_cons j_int ja_nil))) (ja_cons (je_tup (ja_cons j_str (ja_cons j_int ja_nil))) (ja_cons (je_tup (ja_cons j_str (ja_cons j_int ja_nil))) (ja_cons (je_tup (ja_cons j_non (ja_cons j_int ja_nil))) ja_nil)))))))))) (jg_tup rfl (jgs_cons (jg_name 5 nd) (jgs_cons (jg_name 6 nd) jgs_nil)))
    (jb_one (js_expr (je_bmL PySem.F.slot_list_append PySem.F.type_list_append mt_append mm_append (j_var 4) (ja_cons (je_tup (ja_cons j_str (ja_cons (j_var 5) (ja_cons (j_op op_mulB om_mulB (je_tup (ja_cons (j_var 2) ja_nil)) (j_var 6)) (ja_cons (je_tup (ja_cons (j_var 1) (ja_cons (j_var 1) ja_nil))) ja_nil))))) ja_nil)))))
    (jb_cons (js_for hp rfl (ji_any (je_lst (ja_cons (je_tup (ja_cons j_str (ja_cons j_int ja_nil))) (ja_cons (je_tup (ja_cons (je_lst (ja_cons j_str ja_nil)) (ja_cons j_int ja_nil))) (ja_cons (je_tup (ja_cons j_str (ja_cons j_int ja_nil))) (ja_cons (je_tup (ja_cons j_str (ja_cons j_int ja_nil))) (ja_cons (je_tup (ja_cons j_str (ja_cons j_int ja_nil))) (ja_cons (je_tup (ja_cons j_int (ja_cons j_int ja_nil))) ja_nil)))))))) (jg_tup rfl (jgs_cons (jg_name 5 nd) (jgs_cons (jg_name 6 nd) jgs_nil)))
    (jb_one (js_expr (je_bmL PySem.F.slot_list_append PySem.F.type_list_append mt_append mm_append (j_var 4) (ja_cons (je_tup (ja_cons j_str (ja_cons (j_var 5) (ja_cons (j_op op_mulB om_mulB (je_tup (ja_cons (j_var 2) ja_nil)) (j_var 6)) (ja_cons (je_tup (ja_cons (j_var 1) (ja_cons (j_var 1) ja_nil))) ja_nil))))) ja_nil)))))
    (jb_cons (js_for hp rfl (ji_any (je_lst (ja_cons (je_lst (ja_cons (j_var 1) (ja_cons (j_var 1) ja_nil))) (ja_cons (je_tup (ja_cons (j_var 1) ja_nil)) (ja_cons (j_var 3) (ja_cons (je_tup (ja_cons (j_var 1) (ja_cons j_non ja_nil))) (ja_cons (je_tup (ja_cons j_non (ja_cons (j_var 1) ja_nil))) (ja_cons (je_tup ja_nil) (ja_cons j_non ja_nil))))))))) (jg_name 7 nd)
    (jb_one (js_expr (je_bmL PySem.F.slot_list_append PySem.F.type_list_append mt_append mm_append (j_var 4) (ja_cons (je_tup (ja_cons j_str (ja_cons j_str (ja_cons (je_tup ja_nil) (ja_cons (j_var 7) ja_nil))))) ja_nil)))))
    (jb_cons (js_for hp rfl (ji_any (je_lst (ja_cons (je_callTy (cr_listA rfl) cm_listA T.b_list (by decide +kernel) (ja_cons (j_var 3) ja_nil)) (ja_cons (je_tup (ja_cons (j_var 1) (ja_cons (j_var 1) ja_nil))) (ja_cons (j_op op_addA om_add (j_var 3) (je_tup (ja_cons (j_var 1) ja_nil))) (ja_cons (je_tup (ja_cons (j_var 1) (ja_cons j_non (ja_cons (j_var 1) ja_nil)))) (ja_cons (je_tup (ja_cons (j_var 1) (ja_cons (j_var 1) (ja_cons (je_tup ja_nil) ja_nil)))) (ja_cons (je_tup ja_nil) (ja_cons j_non ja_nil))))))))) (jg_name 7 nd)
    (jb_one (js_expr (je_bmL PySem.F.slot_list_append PySem.F.type_list_append mt_append mm_append (j_var 4) (ja_cons (je_tup (ja_cons j_str (ja_cons (je_tup (ja_cons j_str (ja_cons j_int ja_nil))) (ja_cons (j_var 7) ja_nil)))) ja_nil)))))
    (jb_cons (js_set 4 nd (j_op op_addA om_add (j_var 4) (je_lst (ja_cons (je_tup (ja_cons j_str (ja_cons j_str (ja_cons (je_lst ja_nil) (ja_cons (je_tup (ja_cons (j_var 1) (ja_cons (j_var 1) ja_nil))) ja_nil))))) (ja_cons (je_tup (ja_cons j_str (ja_cons j_str (ja_cons j_non (ja_cons (je_tup (ja_cons (j_var 1) (ja_cons (j_var 1) ja_nil))) ja_nil))))) (ja_cons (je_tup (ja_cons j_str (ja_cons j_str (ja_cons (je_tup ja_nil) ja_nil)))) (ja_cons (je_tup (ja_cons j_str (ja_cons (j_var 3) ja_nil))) ja_nil)))))))
    (jb_cons (js_set 4 nd (j_op op_addA om_add (j_var 4) (je_lst (ja_cons (je_tup (ja_cons j_str (ja_cons j_str (ja_cons (je_tup ja_nil) (ja_cons (je_tup (ja_cons (j_var 1) (ja_cons (j_var 1) ja_nil))) (ja_cons j_int ja_nil)))))) (ja_cons (je_tup (ja_cons j_str (ja_cons (je_tup (ja_cons j_str (ja_cons j_int ja_nil))) (ja_cons (j_var 3) (ja_cons j_int ja_nil))))) ja_nil)))))
    (jb_cons (js_expr (je_bmL PySem.F.slot_list_append PySem.F.type_list_append mt_append mm_append (j_var 4) (ja_cons (je_lst (ja_cons j_str (ja_cons (je_tup (ja_cons j_str (ja_cons j_int ja_nil))) (ja_cons (j_var 3) ja_nil)))) ja_nil)))
    (jb_cons (js_expr (je_bmL PySem.F.slot_list_append PySem.F.type_list_append mt_append mm_append (j_var 4) (ja_cons (je_tup (ja_cons j_str (ja_cons j_str (ja_cons (je_tup ja_nil) (ja_cons (je_tup (ja_cons (j_var 1) (ja_cons (je_tup (ja_cons j_str (ja_cons (je_tup (ja_cons j_str (ja_cons j_int ja_nil))) (ja_cons (j_var 3) ja_nil)))) ja_nil))) ja_nil))))) ja_nil)))
    (jb_cons (js_expr (je_bmL PySem.F.slot_list_append PySem.F.type_list_append mt_append mm_append (j_var 4) (ja_cons (je_tup (ja_cons j_str (ja_cons j_str (ja_cons (je_tup ja_nil) (ja_cons (je_tup (ja_cons (j_var 1) (ja_cons (je_tup (ja_cons j_str (ja_cons j_str (ja_cons (je_tup (ja_cons (je_tup (ja_cons j_str (ja_cons j_int ja_nil))) ja_nil)) (ja_cons (je_tup (ja_cons (j_var 1) (ja_cons (j_var 1) ja_nil))) ja_nil))))) ja_nil))) ja_nil))))) ja_nil)))
    (jb_cons (js_expr (je_bmL PySem.F.slot_list_append PySem.F.type_list_append mt_append mm_append (j_var 4) (ja_cons (jx_call I_l_behind hr (Nat.le_succ _) tk (ja_cons (je_tup (ja_cons j_str (ja_cons j_str (ja_cons (je_tup (ja_cons (je_tup (ja_cons j_str (ja_cons j_int ja_nil))) (ja_cons (je_tup (ja_cons j_str (ja_cons j_int ja_nil))) ja_nil))) (ja_cons (je_tup (ja_cons (j_var 1) (ja_cons (j_var 1) ja_nil))) ja_nil))))) ja_nil) (hlen := (mCons_len mNil_len))) ja_nil)))
    (jb_cons (js_if (jt_cmp (op_neA (hu64 hr)) om_neA (je_lc [("_law_tree", 9)] rfl rfl nd (ji_any (j_var 4)) (blkOk_by (N := ["_law_source_here", "_law_end", "_law_none", "_law_three", "_law_wrong", "_law_word_here", "_law_many", "_law_parts", "_law_right", "_law_tree"]) (sc := defScope s_l_asks) (by decide +kernel)) (fun _ _ _ _ _ => (jn_name 9 nd)) (fun _ _ _ _ _ => (jts_one (jt_cmp (op_neA (hu64 hr)) om_neA (jx_call I_l_word hr (Nat.le_succ _) M.tk0 (ja_cons (jx_call I_l_with_tree hr (Nat.le_succ _) M.tk0 (ja_cons (j_var 0) (ja_cons (j_var 9) ja_nil)) (hlen := (mCons_len (mCons_len mNil_len)))) ja_nil) (hlen := (mCons_len mNil_len))) j_str))) (fun _ _ _ _ _ => (j_var 9)) (hgs_name)) (je_lst ja_nil))
    (jb_one (js_ret j_bl))
    jb_nil)
    (jb_cons (js_setLc 8 [("_law_many", 6)] rfl rfl nd (ji_rng1 T.b_range (ja_cons j_int ja_nil)) (blkOk_by (N := ["_law_source_here", "_law_end", "_law_none", "_law_three", "_law_wrong", "_law_word_here", "_law_many", "_law_parts", "_law_right", "_law_tree"]) (sc := defScope s_l_asks) (by decide +kernel)) (fun _ _ _ _ _ => (jn_name 6 nd)) (fun _ _ _ _ _ => jts_nil) (fun _ _ _ _ _ => (je_tup (ja_cons j_str (ja_cons j_str (ja_cons (j_op op_mulB om_mulB (je_tup (ja_cons (j_var 2) ja_nil)) (j_var 6)) (ja_cons (je_tup (ja_cons (j_var 1) (ja_cons (j_var 1) ja_nil))) ja_nil)))))) (hgs_name))
    (jb_cons (js_set 8 nd (j_op op_addA om_add (j_var 8) (je_lst (ja_cons (je_tup (ja_cons j_str (ja_cons j_str (ja_cons (je_tup (ja_cons (j_var 2) (ja_cons (j_var 2) ja_nil))) (ja_cons (je_tup (ja_cons (j_var 1) (ja_cons (j_var 1) ja_nil))) ja_nil))))) (ja_cons (je_tup (ja_cons j_str (ja_cons (je_tup (ja_cons j_str (ja_cons j_int ja_nil))) (ja_cons (j_var 3) ja_nil)))) ja_nil)))))
    (jb_one (js_ret (j_cmp (op_eqE (hu0 hr)) om_eqE (je_lc [("_law_tree", 9)] rfl rfl nd (ji_any (j_var 8)) (blkOk_by (N := ["_law_source_here", "_law_end", "_law_none", "_law_three", "_law_wrong", "_law_word_here", "_law_many", "_law_parts", "_law_right", "_law_tree"]) (sc := defScope s_l_asks) (by decide +kernel)) (fun _ _ _ _ _ => (jn_name 9 nd)) (fun _ _ _ _ _ => (jts_one (jt_cmp (op_neA (hu64 hr)) om_neA (jx_call I_l_word hr (Nat.le_succ _) M.tk0 (ja_cons (jx_call I_l_with_tree hr (Nat.le_succ _) M.tk0 (ja_cons (j_var 0) (ja_cons (j_var 9) ja_nil)) (hlen := (mCons_len (mCons_len mNil_len)))) ja_nil) (hlen := (mCons_len mNil_len))) j_str))) (fun _ _ _ _ _ => (j_var 9)) (hgs_name)) (je_lst ja_nil))))))))))))))))))))
abbrev s_l_long : Stmt := topS 51
theorem sc_l_long : FnScope ["_law_source_here", "_law_end", "_law_tree", "_law_turn", "_law_deep", "_law_events", "_law_level", "_law_way", "_law_parts"] ["_law_source_here"] (defScope s_l_long) := ⟨rfl, rfl, rfl, by decide +kernel, rfl, by decide +kernel, by decide +kernel⟩
noncomputable def b_l_long (ck : Fnm → MF) : MS := (mSeq (mAsg (mCall (ck .l_leaf) mNil) (nName 1))
    (mSeq (mAsg (mVar 1) (nName 2))
    (mSeq (mFor (mRng (mCons (mC (.int 7)) mNil)) (nName 3)
    (mSeq (mIfS (mAndT (mB (mBin (gEqA false) (mVar 3) (mC (.int 6)))) (mB (mBin (gEqA true) (mCall (ck .l_word) (mCons (mTup (mCons (mTup (mCons (mC (.str "p")) mNil)) (mCons (mC (.int 0)) (mCons (mTup (mCons (mTup (mCons (mC (.int 0)) (mCons (mVar 2) mNil))) mNil)) mNil)))) mNil)) (mC (.str "good")))))
    (mRet (mC (.bl false)))
    mSkip)
    (mAsg (mTup (mCons (mC (.str "ask")) (mCons (mC (.str "f")) (mCons (mTup mNil) (mCons (mBin gItem (mLst (mCons (mTup (mCons (mVar 2) (mCons (mVar 1) mNil))) (mCons (mTup (mCons (mVar 1) (mCons (mVar 2) mNil))) mNil))) (mCall (ck .l_draw) (mCons (mVar 0) (mCons (mC (.int 2)) mNil)))) mNil))))) (nName 2))))
    (mSeq (mIfS (mB (mBin (gEqA true) (mCall (ck .l_word) (mCons (mTup (mCons (mTup (mCons (mC (.str "p")) mNil)) (mCons (mC (.int 0)) (mCons (mTup (mCons (mTup (mCons (mC (.int 0)) (mCons (mVar 2) mNil))) mNil)) mNil)))) mNil)) (mC (.str "machine"))))
    (mRet (mC (.bl false)))
    mSkip)
    (mSeq (mAsg (mVar 1) (nName 4))
    (mSeq (mAsg (mC (.int 0)) (nName 5))
    (mSeq (mFor (mRng2 (mCons (mC (.int 2)) (mCons (mC (.int 32)) mNil))) (nName 6)
    (mSeq (mAsg (mCall (ck .l_draw) (mCons (mVar 0) (mCons (mC (.int 5)) mNil))) (nName 7))
    (mSeq (mIfS (mAndT (mB (mBin gLt (mVar 7) (mC (.int 2)))) (mB (mBin gLt (mVar 5) (mC (.int 6)))))
    (mSeq (mAsg (mBin gAdd (mVar 5) (mC (.int 1))) (nName 5))
    (mAsg (mTup (mCons (mC (.str "ask")) (mCons (mC (.str "f")) (mCons (mTup mNil) (mCons (mBin gItem (mLst (mCons (mTup (mCons (mVar 4) (mCons (mVar 1) mNil))) (mCons (mTup (mCons (mVar 1) (mCons (mVar 4) mNil))) mNil))) (mVar 7)) mNil))))) (nName 4)))
    (mSeq (mAsg (mLst (mCons (mVar 1) (mCons (mVar 1) (mCons (mVar 1) mNil)))) (nName 8))
    (mSeq (mStore (mVar 8) (mBin gMod (mVar 7) (mC (.int 3))) (mVar 4))
    (mAsg (mTup (mCons (mC (.str "test")) (mCons (mTup (mCons (mC (.str "parameter")) (mCons (mC (.int 0)) mNil))) (mCons (mCall gTuple (mCons (mVar 8) mNil)) mNil)))) (nName 4)))))
    (mIfS (mB (mBin (gEqA true) (mCall (ck .l_word) (mCons (mTup (mCons (mTup (mCons (mC (.str "p")) mNil)) (mCons (mC (.int 0)) (mCons (mTup (mCons (mTup (mCons (mC (.int 0)) (mCons (mVar 4) mNil))) mNil)) mNil)))) mNil)) (mBin gItem (mLst (mCons (mC (.str "good")) (mCons (mC (.str "machine")) mNil))) (mCall gInt (mCons (mBin (gEqA false) (mVar 6) (mC (.int 31))) mNil)))))
    (mRet (mC (.bl false)))
    mSkip))))
    (mRet (mC (.bl true))))))))))
noncomputable def f_l_long (ck : Fnm → MF) : MF := fun ds m => endOf (b_l_long ck (startM 9 ds) m)
theorem ok_l_long {M : Mode} {P : Program} {w : World} {K : PySem.W.Frag} {mg : Str → Option Value} {base : Heap} {k : Nat} {f : Addr} {fd : FuncData} {ck : Fnm → MF} (Fu : Fun K "_law_long" "_law_long" s_l_long f fd) (T : Txt K w mg) (I_l_draw : FnX M P w K mg base k "_law_draw" 2 (ck .l_draw)) (I_l_leaf : FnX M P w K mg base k "_law_leaf" 0 (ck .l_leaf)) (I_l_word : FnX M P w K mg base k "_law_word" 1 (ck .l_word)) :
    FnOk P w K mg base (M.CX P w) (k + 2) f fd ["_law_source_here"] (spM K 1 (f_l_long ck)) :=
  have nd := sc_l_long.nd
  fnx_ok (M := M) (g := b_l_long ck) Fu sc_l_long rfl (fun _ _ _ => rfl) fun cdv A outer s H E hr W tk hp =>
    (jb_cons (js_set 1 nd (jx_call0 I_l_leaf hr (Nat.le_succ _) tk))
    (jb_cons (js_set 2 nd (j_var 1))
    (jb_cons (js_for hp rfl (ji_rng1 T.b_range (ja_cons j_int ja_nil)) (jg_name 3 nd)
    (jb_cons (js_if (jw_and (jt_cmp (op_eqA (hu64 hr)) om_eqA (j_var 3) j_int) (jw_and1 (jt_cmp (op_neA (hu64 hr)) om_neA (jx_call I_l_word hr (Nat.le_succ _) tk (ja_cons (je_tup (ja_cons (je_tup (ja_cons j_str ja_nil)) (ja_cons j_int (ja_cons (je_tup (ja_cons (je_tup (ja_cons j_int (ja_cons (j_var 2) ja_nil))) ja_nil)) ja_nil)))) ja_nil) (hlen := (mCons_len mNil_len))) j_str))).jt
    (jb_one (js_ret j_bl))
    jb_nil)
    (jb_one (js_set 2 nd (je_tup (ja_cons j_str (ja_cons j_str (ja_cons (je_tup ja_nil) (ja_cons (je_item (hu1 hr) (je_lst (ja_cons (je_tup (ja_cons (j_var 2) (ja_cons (j_var 1) ja_nil))) (ja_cons (je_tup (ja_cons (j_var 1) (ja_cons (j_var 2) ja_nil))) ja_nil))) (jx_call I_l_draw hr (Nat.le_succ _) tk (ja_cons (j_var 0) (ja_cons j_int ja_nil)) (hlen := (mCons_len (mCons_len mNil_len))))) ja_nil)))))))))
    (jb_cons (js_if (jt_cmp (op_neA (hu64 hr)) om_neA (jx_call I_l_word hr (Nat.le_succ _) tk (ja_cons (je_tup (ja_cons (je_tup (ja_cons j_str ja_nil)) (ja_cons j_int (ja_cons (je_tup (ja_cons (je_tup (ja_cons j_int (ja_cons (j_var 2) ja_nil))) ja_nil)) ja_nil)))) ja_nil) (hlen := (mCons_len mNil_len))) j_str)
    (jb_one (js_ret j_bl))
    jb_nil)
    (jb_cons (js_set 4 nd (j_var 1))
    (jb_cons (js_set 5 nd j_int)
    (jb_cons (js_for hp rfl (ji_rng2 T.b_range (ja_cons j_int (ja_cons j_int ja_nil))) (jg_name 6 nd)
    (jb_cons (js_set 7 nd (jx_call I_l_draw hr (Nat.le_succ _) tk (ja_cons (j_var 0) (ja_cons j_int ja_nil)) (hlen := (mCons_len (mCons_len mNil_len)))))
    (jb_cons (js_if (jw_and (jt_cmp op_lt om_lt (j_var 7) j_int) (jw_and1 (jt_cmp op_lt om_lt (j_var 5) j_int))).jt
    (jb_cons (js_set 5 nd (j_op op_addA om_add (j_var 5) j_int))
    (jb_one (js_set 4 nd (je_tup (ja_cons j_str (ja_cons j_str (ja_cons (je_tup ja_nil) (ja_cons (je_item (hu1 hr) (je_lst (ja_cons (je_tup (ja_cons (j_var 4) (ja_cons (j_var 1) ja_nil))) (ja_cons (je_tup (ja_cons (j_var 1) (ja_cons (j_var 4) ja_nil))) ja_nil))) (j_var 7)) ja_nil))))))))
    (jb_cons (js_set 8 nd (je_lst (ja_cons (j_var 1) (ja_cons (j_var 1) (ja_cons (j_var 1) ja_nil)))))
    (jb_cons (js_store (hu1 hr) (j_var 8) (j_op op_mod om_mod (j_var 7) j_int) (j_var 8) (j_op op_mod om_mod (j_var 7) j_int) (j_var 4))
    (jb_one (js_set 4 nd (je_tup (ja_cons j_str (ja_cons (je_tup (ja_cons j_str (ja_cons j_int ja_nil))) (ja_cons (je_callTy call_tuple_of cm_tuple T.b_tuple (by decide +kernel) (ja_cons (j_var 8) ja_nil)) ja_nil)))))))))
    (jb_one (js_if (jt_cmp (op_neA (hu64 hr)) om_neA (jx_call I_l_word hr (Nat.le_succ _) tk (ja_cons (je_tup (ja_cons (je_tup (ja_cons j_str ja_nil)) (ja_cons j_int (ja_cons (je_tup (ja_cons (je_tup (ja_cons j_int (ja_cons (j_var 4) ja_nil))) ja_nil)) ja_nil)))) ja_nil) (hlen := (mCons_len mNil_len))) (je_item (hu1 hr) (je_lst (ja_cons j_str (ja_cons j_str ja_nil))) (je_callTy call_int1 cm_int T.b_int (by decide +kernel) (ja_cons (j_cmp (op_eqA (hu64 hr)) om_eqA (j_var 6) j_int) ja_nil))))
    (jb_one (js_ret j_bl))
    jb_nil)))))
    (jb_one (js_ret j_bl)))))))))
abbrev s_l_wholes : Stmt := topS 52
theorem sc_l_wholes : FnScope ["_law_source_here", "_law_end", "_law_parameters", "_law_begin", "_law_states", "_law_made", "_law_kept", "_law_turned", "_law_some", "_law_value", "_law_name", "_law_places", "_law_state", "_law_right", "_law_number"] ["_law_source_here"] (defScope s_l_wholes) := ⟨rfl, rfl, rfl, by decide +kernel, rfl, by decide +kernel, by decide +kernel⟩
noncomputable def b_l_wholes (ck : Fnm → MF) : MS := (mSeq (mAsg (mCall (ck .l_leaf) mNil) (nName 1))
    (mSeq (mAsg (mCall (ck .l_with_tree) (mCons (mVar 0) (mCons (mVar 1) mNil))) (nTup 3 (nCons (nName 2) (nCons (nName 3) (nCons (nName 4) nNil)))))
    (mSeq (mAsg (mTup (mCons (mVar 2) (mCons (mVar 3) (mCons (mVar 4) mNil)))) (nName 5))
    (mSeq (mAsg (mTup (mCons (mC (.str "end")) (mCons (mTup (mCons (mC (.str "value")) (mCons (mTup (mCons (mC (.str "place")) (mCons (mC (.int 0)) mNil))) mNil))) (mCons (mC (.int 0)) (mCons (mTup (mCons (mTup (mCons (mC (.str "place")) (mCons (mC (.int 0)) mNil))) mNil)) mNil))))) (nName 6))
    (mSeq (mAsg (mTup (mCons (mTup (mCons (mC (.int 1)) (mCons (mVar 6) mNil))) (mCons (mTup (mCons (mC (.int 0)) (mCons (mTup (mCons (mC (.str "end")) (mCons (mTup (mCons (mC (.str "value")) (mCons (mTup (mCons (mC (.str "none")) mNil)) mNil))) (mCons (mC (.int 1)) (mCons (mTup mNil) mNil))))) mNil))) mNil))) (nName 7))
    (mSeq (mAsg (mLst (mCons (mC .non) (mCons (mLst mNil) (mCons (mTup mNil) (mCons (mCall gListA (mCons (mVar 5) mNil)) (mCons (mSl (mVar 5) mNo (mEnd (mC (.int 2)))) (mCons (mBin gAdd (mVar 5) (mTup (mCons (mC (.int 0)) mNil))) (mCons (mTup (mCons (mVar 2) (mCons (mVar 3) (mCons (mTup mNil) mNil)))) mNil)))))))) (nName 8))
    (mSeq (mAsg (mBin gAdd (mVar 8) (mLst (mCons (mTup (mCons (mVar 2) (mCons (mVar 3) (mCons (mCall gListA (mCons (mVar 4) mNil)) mNil)))) (mCons (mTup (mCons (mVar 2) (mCons (mC (.int 0)) (mCons (mVar 7) mNil)))) mNil)))) (nName 8))
    (mSeq (mFor (mAnyI (mLst (mCons (mLst (mCons (mC (.str "p")) mNil)) (mCons (mTup (mCons (mC (.str "p")) (mCons (mC (.str "p")) mNil))) (mCons (mTup (mCons (mC (.str "if")) mNil)) (mCons (mTup (mCons (mC (.str "p")) (mCons (mC (.str "q")) (mCons (mC (.str "x")) mNil)))) (mCons (mTup (mCons (mLst (mCons (mC (.str "p")) mNil)) mNil)) (mCons (mTup (mCons (mC .non) mNil)) (mCons (mTup (mCons mDNew mNil)) (mCons (mTup (mCons (mC (.int 1)) mNil)) (mCons (mTup (mCons (mTup (mCons (mC (.str "p")) mNil)) mNil)) (mCons (mC (.int 1)) (mCons (mC .non) mNil))))))))))))) (nName 9)
    (mDrop (mBM gAppend (mVar 8) (mCons (mTup (mCons (mVar 9) (mCons (mVar 3) (mCons (mVar 4) mNil)))) mNil))))
    (mSeq (mFor (mAnyI (mLst (mCons (mC (.str "if")) (mCons (mC (.str "Q")) (mCons (mC .non) (mCons (mLst (mCons (mC (.str "q")) mNil)) (mCons (mC (.str "abcdefghi")) (mCons (mC (.str "")) (mCons (mC (.str "q
")) (mCons (mC (.int 0)) mNil)))))))))) (nName 10)
    (mAsg (mBin gAdd (mVar 8) (mLst (mCons (mTup (mCons (mTup (mCons (mC (.str "p")) (mCons (mVar 10) mNil))) (mCons (mVar 3) (mCons (mVar 4) mNil)))) (mCons (mTup (mCons (mTup (mCons (mVar 10) (mCons (mC (.str "p")) mNil))) (mCons (mVar 3) (mCons (mVar 4) mNil)))) mNil)))) (nName 8)))
    (mSeq (mAsg (mBin gAdd (mVar 8) (mLc (mAnyI (mLst (mCons (mC (.int 1)) (mCons (mC (.int 2)) (mCons (mC (.int 3)) (mCons (mNeg (mC (.int 1))) (mCons (mC (.bl true)) (mCons (mC (.bl false)) (mCons (mC .non) (mCons (mC (.str "0")) (mCons (mLst mNil) (mCons (mBin gPow (mC (.int 10)) (mC (.int 25))) mNil)))))))))))) (ngName 14) mYes (mTup (mCons (mVar 2) (mCons (mVar 14) (mCons (mVar 4) mNil)))) [14])) (nName 8))
    (mSeq (mFor (mAnyI (mLst (mCons (mC (.int 9)) (mCons (mNeg (mC (.int 1))) (mCons (mC (.bl true)) (mCons (mC .non) (mCons (mC (.str "0")) (mCons (mLst mNil) (mCons (mTup mNil) (mCons (mBin gPow (mC (.int 10)) (mC (.int 25))) mNil)))))))))) (nName 11)
    (mDrop (mBM gAppend (mVar 8) (mCons (mTup (mCons (mVar 2) (mCons (mVar 3) (mCons (mBin gAdd (mVar 4) (mTup (mCons (mTup (mCons (mVar 11) (mCons (mVar 1) mNil))) mNil))) mNil)))) mNil))))
    (mSeq (mFor (mAnyI (mLst (mCons (mC .non) (mCons (mTup mNil) (mCons (mTup (mCons (mC (.int 0)) mNil)) (mCons (mLst (mCons (mC (.int 0)) (mCons (mVar 1) mNil))) (mCons (mTup (mCons (mC (.int 0)) (mCons (mVar 1) (mCons (mC (.int 0)) mNil)))) (mCons (mTup (mCons (mC (.int 0)) (mCons (mC .non) mNil))) (mCons (mTup (mCons (mC (.int 0)) (mCons (mTup mNil) mNil))) (mCons (mVar 1) (mCons (mC (.int 0)) mNil))))))))))) (nName 12)
    (mDrop (mBM gAppend (mVar 8) (mCons (mTup (mCons (mVar 2) (mCons (mVar 3) (mCons (mBin gAdd (mVar 4) (mTup (mCons (mVar 12) mNil))) mNil)))) mNil))))
    (mSeq (mIfS (mB (mBin (gEqA true) (mLc (mAnyI (mVar 8)) (ngName 9) (mB (mBin (gEqA true) (mCall (ck .l_word) (mCons (mVar 9) mNil)) (mC (.str "machine")))) (mVar 9) [9]) (mLst mNil)))
    (mRet (mC (.bl false)))
    mSkip)
    (mSeq (mAsg (mLst (mCons (mVar 5) (mCons (mTup (mCons (mTup (mCons (mC (.str "q")) mNil)) (mCons (mVar 3) (mCons (mVar 4) mNil)))) (mCons (mTup (mCons (mTup (mCons (mC (.str "p")) (mCons (mC (.str "q")) mNil))) (mCons (mVar 3) (mCons (mVar 4) mNil)))) (mCons (mTup (mCons (mVar 2) (mCons (mC (.int 1)) (mCons (mVar 7) mNil)))) mNil))))) (nName 13))
    (mSeq (mDrop (mBM gAppend (mVar 13) (mCons (mTup (mCons (mVar 2) (mCons (mVar 3) (mCons (mBin gAdd (mVar 4) (mTup (mCons (mTup (mCons (mC (.int 8)) (mCons (mVar 1) mNil))) mNil))) mNil)))) mNil)))
    (mRet (mBin gEqE (mLc (mAnyI (mVar 13)) (ngName 9) (mB (mBin (gEqA true) (mCall (ck .l_word) (mCons (mVar 9) mNil)) (mC (.str "good")))) (mVar 9) [9]) (mLst mNil))))))))))))))))))
noncomputable def f_l_wholes (ck : Fnm → MF) : MF := fun ds m => endOf (b_l_wholes ck (startM 15 ds) m)
theorem ok_l_wholes {M : Mode} {P : Program} {w : World} {K : PySem.W.Frag} {mg : Str → Option Value} {base : Heap} {k : Nat} {f : Addr} {fd : FuncData} {ck : Fnm → MF} (Fu : Fun K "_law_wholes" "_law_wholes" s_l_wholes f fd) (T : Txt K w mg) (I_l_leaf : FnX M P w K mg base k "_law_leaf" 0 (ck .l_leaf)) (I_l_with_tree : FnX M P w K mg base k "_law_with_tree" 2 (ck .l_with_tree)) (I_l_word : FnX M P w K mg base k "_law_word" 1 (ck .l_word)) :
    FnOk P w K mg base (M.CX P w) (k + 2) f fd ["_law_source_here"] (spM K 1 (f_l_wholes ck)) :=
  have nd := sc_l_wholes.nd
  fnx_ok (M := M) (g := b_l_wholes ck) Fu sc_l_wholes rfl (fun _ _ _ => rfl) fun cdv A outer s H E hr W tk hp =>
    (jb_cons (js_set 1 nd (jx_call0 I_l_leaf hr (Nat.le_succ _) tk))
    (jb_cons (js_asg (jx_call I_l_with_tree hr (Nat.le_succ _) tk (ja_cons (j_var 0) (ja_cons (j_var 1) ja_nil)) (hlen := (mCons_len (mCons_len mNil_len)))) (jg_tup rfl (jgs_cons (jg_name 2 nd) (jgs_cons (jg_name 3 nd) (jgs_cons (jg_name 4 nd) jgs_nil)))))
    (jb_cons (js_set 5 nd (je_tup (ja_cons (j_var 2) (ja_cons (j_var 3) (ja_cons (j_var 4) ja_nil)))))
    (jb_cons (js_set 6 nd (je_tup (ja_cons j_str (ja_cons (je_tup (ja_cons j_str (ja_cons (je_tup (ja_cons j_str (ja_cons j_int ja_nil))) ja_nil))) (ja_cons j_int (ja_cons (je_tup (ja_cons (je_tup (ja_cons j_str (ja_cons j_int ja_nil))) ja_nil)) ja_nil))))))
    (jb_cons (js_set 7 nd (je_tup (ja_cons (je_tup (ja_cons j_int (ja_cons (j_var 6) ja_nil))) (ja_cons (je_tup (ja_cons j_int (ja_cons (je_tup (ja_cons j_str (ja_cons (je_tup (ja_cons j_str (ja_cons (je_tup (ja_cons j_str ja_nil)) ja_nil))) (ja_cons j_int (ja_cons (je_tup ja_nil) ja_nil))))) ja_nil))) ja_nil))))
    (jb_cons (js_set 8 nd (je_lst (ja_cons j_non (ja_cons (je_lst ja_nil) (ja_cons (je_tup ja_nil) (ja_cons (je_callTy (cr_listA rfl) cm_listA T.b_list (by decide +kernel) (ja_cons (j_var 5) ja_nil)) (ja_cons (je_sl (j_var 5) jo_no (jo_end j_int)) (ja_cons (j_op op_addA om_add (j_var 5) (je_tup (ja_cons j_int ja_nil))) (ja_cons (je_tup (ja_cons (j_var 2) (ja_cons (j_var 3) (ja_cons (je_tup ja_nil) ja_nil)))) ja_nil)))))))))
    (jb_cons (js_set 8 nd (j_op op_addA om_add (j_var 8) (je_lst (ja_cons (je_tup (ja_cons (j_var 2) (ja_cons (j_var 3) (ja_cons (je_callTy (cr_listA rfl) cm_listA T.b_list (by decide +kernel) (ja_cons (j_var 4) ja_nil)) ja_nil)))) (ja_cons (je_tup (ja_cons (j_var 2) (ja_cons j_int (ja_cons (j_var 7) ja_nil)))) ja_nil)))))
    (jb_cons (js_for hp rfl (ji_any (je_lst (ja_cons (je_lst (ja_cons j_str ja_nil)) (ja_cons (je_tup (ja_cons j_str (ja_cons j_str ja_nil))) (ja_cons (je_tup (ja_cons j_str ja_nil)) (ja_cons (je_tup (ja_cons j_str (ja_cons j_str (ja_cons j_str ja_nil)))) (ja_cons (je_tup (ja_cons (je_lst (ja_cons j_str ja_nil)) ja_nil)) (ja_cons (je_tup (ja_cons j_non ja_nil)) (ja_cons (je_tup (ja_cons je_dnew ja_nil)) (ja_cons (je_tup (ja_cons j_int ja_nil)) (ja_cons (je_tup (ja_cons (je_tup (ja_cons j_str ja_nil)) ja_nil)) (ja_cons j_int (ja_cons j_non ja_nil))))))))))))) (jg_name 9 nd)
    (jb_one (js_expr (je_bmL PySem.F.slot_list_append PySem.F.type_list_append mt_append mm_append (j_var 8) (ja_cons (je_tup (ja_cons (j_var 9) (ja_cons (j_var 3) (ja_cons (j_var 4) ja_nil)))) ja_nil)))))
    (jb_cons (js_for hp rfl (ji_any (je_lst (ja_cons j_str (ja_cons j_str (ja_cons j_non (ja_cons (je_lst (ja_cons j_str ja_nil)) (ja_cons j_str (ja_cons j_str (ja_cons j_str (ja_cons j_int ja_nil)))))))))) (jg_name 10 nd)
    (jb_one (js_set 8 nd (j_op op_addA om_add (j_var 8) (je_lst (ja_cons (je_tup (ja_cons (je_tup (ja_cons j_str (ja_cons (j_var 10) ja_nil))) (ja_cons (j_var 3) (ja_cons (j_var 4) ja_nil)))) (ja_cons (je_tup (ja_cons (je_tup (ja_cons (j_var 10) (ja_cons j_str ja_nil))) (ja_cons (j_var 3) (ja_cons (j_var 4) ja_nil)))) ja_nil)))))))
    (jb_cons (js_set 8 nd (j_op op_addA om_add (j_var 8) (je_lc [("_law_number", 14)] rfl rfl nd (ji_any (je_lst (ja_cons j_int (ja_cons j_int (ja_cons j_int (ja_cons (je_neg j_int) (ja_cons j_bl (ja_cons j_bl (ja_cons j_non (ja_cons j_str (ja_cons (je_lst ja_nil) (ja_cons (j_op op_powW om_pow j_int j_int) ja_nil)))))))))))) (blkOk_by (N := ["_law_source_here", "_law_end", "_law_parameters", "_law_begin", "_law_states", "_law_made", "_law_kept", "_law_turned", "_law_some", "_law_value", "_law_name", "_law_places", "_law_state", "_law_right", "_law_number"]) (sc := defScope s_l_wholes) (by decide +kernel)) (fun _ _ _ _ _ => (jn_name 14 nd)) (fun _ _ _ _ _ => jts_nil) (fun _ _ _ _ _ => (je_tup (ja_cons (j_var 2) (ja_cons (j_var 14) (ja_cons (j_var 4) ja_nil))))) (hgs_name))))
    (jb_cons (js_for hp rfl (ji_any (je_lst (ja_cons j_int (ja_cons (je_neg j_int) (ja_cons j_bl (ja_cons j_non (ja_cons j_str (ja_cons (je_lst ja_nil) (ja_cons (je_tup ja_nil) (ja_cons (j_op op_powW om_pow j_int j_int) ja_nil)))))))))) (jg_name 11 nd)
    (jb_one (js_expr (je_bmL PySem.F.slot_list_append PySem.F.type_list_append mt_append mm_append (j_var 8) (ja_cons (je_tup (ja_cons (j_var 2) (ja_cons (j_var 3) (ja_cons (j_op op_addA om_add (j_var 4) (je_tup (ja_cons (je_tup (ja_cons (j_var 11) (ja_cons (j_var 1) ja_nil))) ja_nil))) ja_nil)))) ja_nil)))))
    (jb_cons (js_for hp rfl (ji_any (je_lst (ja_cons j_non (ja_cons (je_tup ja_nil) (ja_cons (je_tup (ja_cons j_int ja_nil)) (ja_cons (je_lst (ja_cons j_int (ja_cons (j_var 1) ja_nil))) (ja_cons (je_tup (ja_cons j_int (ja_cons (j_var 1) (ja_cons j_int ja_nil)))) (ja_cons (je_tup (ja_cons j_int (ja_cons j_non ja_nil))) (ja_cons (je_tup (ja_cons j_int (ja_cons (je_tup ja_nil) ja_nil))) (ja_cons (j_var 1) (ja_cons j_int ja_nil))))))))))) (jg_name 12 nd)
    (jb_one (js_expr (je_bmL PySem.F.slot_list_append PySem.F.type_list_append mt_append mm_append (j_var 8) (ja_cons (je_tup (ja_cons (j_var 2) (ja_cons (j_var 3) (ja_cons (j_op op_addA om_add (j_var 4) (je_tup (ja_cons (j_var 12) ja_nil))) ja_nil)))) ja_nil)))))
    (jb_cons (js_if (jt_cmp (op_neA (hu64 hr)) om_neA (je_lc [("_law_value", 9)] rfl rfl nd (ji_any (j_var 8)) (blkOk_by (N := ["_law_source_here", "_law_end", "_law_parameters", "_law_begin", "_law_states", "_law_made", "_law_kept", "_law_turned", "_law_some", "_law_value", "_law_name", "_law_places", "_law_state", "_law_right", "_law_number"]) (sc := defScope s_l_wholes) (by decide +kernel)) (fun _ _ _ _ _ => (jn_name 9 nd)) (fun _ _ _ _ _ => (jts_one (jt_cmp (op_neA (hu64 hr)) om_neA (jx_call I_l_word hr (Nat.le_succ _) M.tk0 (ja_cons (j_var 9) ja_nil) (hlen := (mCons_len mNil_len))) j_str))) (fun _ _ _ _ _ => (j_var 9)) (hgs_name)) (je_lst ja_nil))
    (jb_one (js_ret j_bl))
    jb_nil)
    (jb_cons (js_set 13 nd (je_lst (ja_cons (j_var 5) (ja_cons (je_tup (ja_cons (je_tup (ja_cons j_str ja_nil)) (ja_cons (j_var 3) (ja_cons (j_var 4) ja_nil)))) (ja_cons (je_tup (ja_cons (je_tup (ja_cons j_str (ja_cons j_str ja_nil))) (ja_cons (j_var 3) (ja_cons (j_var 4) ja_nil)))) (ja_cons (je_tup (ja_cons (j_var 2) (ja_cons j_int (ja_cons (j_var 7) ja_nil)))) ja_nil))))))
    (jb_cons (js_expr (je_bmL PySem.F.slot_list_append PySem.F.type_list_append mt_append mm_append (j_var 13) (ja_cons (je_tup (ja_cons (j_var 2) (ja_cons (j_var 3) (ja_cons (j_op op_addA om_add (j_var 4) (je_tup (ja_cons (je_tup (ja_cons j_int (ja_cons (j_var 1) ja_nil))) ja_nil))) ja_nil)))) ja_nil)))
    (jb_one (js_ret (j_cmp (op_eqE (hu0 hr)) om_eqE (je_lc [("_law_value", 9)] rfl rfl nd (ji_any (j_var 13)) (blkOk_by (N := ["_law_source_here", "_law_end", "_law_parameters", "_law_begin", "_law_states", "_law_made", "_law_kept", "_law_turned", "_law_some", "_law_value", "_law_name", "_law_places", "_law_state", "_law_right", "_law_number"]) (sc := defScope s_l_wholes) (by decide +kernel)) (fun _ _ _ _ _ => (jn_name 9 nd)) (fun _ _ _ _ _ => (jts_one (jt_cmp (op_neA (hu64 hr)) om_neA (jx_call I_l_word hr (Nat.le_succ _) M.tk0 (ja_cons (j_var 9) ja_nil) (hlen := (mCons_len mNil_len))) j_str))) (fun _ _ _ _ _ => (j_var 9)) (hgs_name)) (je_lst ja_nil)))))))))))))))))))
abbrev s_law : Stmt := topS 53
theorem sc_law : FnScope ["_law_script", "_law_source_here"] ["_law_script"] (defScope s_law) := ⟨rfl, rfl, rfl, by decide +kernel, rfl, by decide +kernel, by decide +kernel⟩
noncomputable def b_law (ck : Fnm → MF) : MS := (mSeq (mAsg (mCall (ck .l_source) (mCons (mVar 0) mNil)) (nName 1))
    (mSeq (mIfS (mOrT (mNotT (mTru (mCall (ck .l_operands) (mCons (mVar 1) mNil)))) (mOrT (mNotT (mTru (mCall (ck .l_ends) (mCons (mVar 1) mNil)))) (mNotT (mTru (mCall (ck .l_asks) (mCons (mVar 1) mNil))))))
    (mRet (mC (.bl false)))
    mSkip)
    (mRet (mAnd (mCall (ck .l_long) (mCons (mVar 1) mNil)) (mCall (ck .l_wholes) (mCons (mVar 1) mNil))))))
noncomputable def f_law (ck : Fnm → MF) : MF := fun ds m => endOf (b_law ck (startM 2 ds) m)
theorem ok_law {M : Mode} {P : Program} {w : World} {K : PySem.W.Frag} {mg : Str → Option Value} {base : Heap} {k : Nat} {f : Addr} {fd : FuncData} {ck : Fnm → MF} (Fu : Fun K "law" "law" s_law f fd) (T : Txt K w mg) (I_l_asks : FnX M P w K mg base k "_law_asks" 1 (ck .l_asks)) (I_l_ends : FnX M P w K mg base k "_law_ends" 1 (ck .l_ends)) (I_l_long : FnX M P w K mg base k "_law_long" 1 (ck .l_long)) (I_l_operands : FnX M P w K mg base k "_law_operands" 1 (ck .l_operands)) (I_l_source : FnX M P w K mg base k "_law_source" 1 (ck .l_source)) (I_l_wholes : FnX M P w K mg base k "_law_wholes" 1 (ck .l_wholes)) :
    FnOk P w K mg base (M.CX P w) (k + 2) f fd ["_law_script"] (spM K 1 (f_law ck)) :=
  have nd := sc_law.nd
  fnx_ok (M := M) (g := b_law ck) Fu sc_law rfl (fun _ _ _ => rfl) fun cdv A outer s H E hr W tk hp =>
    (jb_cons (js_set 1 nd (jx_call I_l_source hr (Nat.le_succ _) tk (ja_cons (j_var 0) ja_nil) (hlen := (mCons_len mNil_len))))
    (jb_cons (js_if (jw_or (jt_not (jt_tru (jx_call I_l_operands hr (Nat.le_succ _) tk (ja_cons (j_var 1) ja_nil) (hlen := (mCons_len mNil_len))))) (jw_or (jt_not (jt_tru (jx_call I_l_ends hr (Nat.le_succ _) tk (ja_cons (j_var 1) ja_nil) (hlen := (mCons_len mNil_len))))) (jw_or1 (jt_not (jt_tru (jx_call I_l_asks hr (Nat.le_succ _) tk (ja_cons (j_var 1) ja_nil) (hlen := (mCons_len mNil_len)))))))).jt
    (jb_one (js_ret j_bl))
    jb_nil)
    (jb_one (js_ret (je_and (jx_call I_l_long hr (Nat.le_succ _) tk (ja_cons (j_var 1) ja_nil) (hlen := (mCons_len mNil_len))) (je_one (jx_call I_l_wholes hr (Nat.le_succ _) tk (ja_cons (j_var 1) ja_nil) (hlen := (mCons_len mNil_len)))))))))
abbrev s_i_Room : Stmt := clsS (topS 29) 0
theorem sc_i_Room : FnScope ["self", "parameters", "states", "places"] ["self", "parameters", "states", "places"] (defScope s_i_Room) := ⟨rfl, rfl, rfl, by decide +kernel, rfl, by decide +kernel, by decide +kernel⟩
noncomputable def b_i_Room (ck : Fnm → MF) : MS := (mSeq (mFldS pf_parameters "parameters" (mVar 0) (mVar 1))
    (mSeq (mFldS pf_states "states" (mVar 0) (mVar 2))
    (mFldS pf_places "places" (mVar 0) (mVar 3))))
noncomputable def f_i_Room (ck : Fnm → MF) : MF := fun ds m => endOf (b_i_Room ck (startM 4 ds) m)
theorem ok_i_Room {M : Mode} {P : Program} {w : World} {K : PySem.W.Frag} {mg : Str → Option Value} {base : Heap} {k : Nat} {f : Addr} {fd : FuncData} {ck : Fnm → MF} (Fu : Fun K "__init__" "Room.__init__" s_i_Room f fd) (T : Txt K w mg) :
    FnOk P w K mg base (M.CX P w) (k + 2) f fd ["self", "parameters", "states", "places"] (spM K 4 (f_i_Room ck)) :=
  have nd := sc_i_Room.nd
  fnx_ok (M := M) (g := b_i_Room ck) Fu sc_i_Room rfl (fun _ _ _ => rfl) fun cdv A outer s H E hr W tk hp =>
    (jb_cons (js_fld (j_var 0) (j_var 1) T.f_parameters)
    (jb_cons (js_fld (j_var 0) (j_var 2) T.f_states)
    (jb_one (js_fld (j_var 0) (j_var 3) T.f_places))))
structure Defs (K : PySem.W.Frag) (mg : Str → Option Value) : Prop where
  is_integer : DefAt K mg "is_integer" s_is_integer ["value"]
  is_name : DefAt K mg "is_name" s_is_name ["value"]
  held_object : DefAt K mg "held_object" s_held_object ["source", "kind"]
  is_call : DefAt K mg "is_call" s_is_call ["value", "program"]
  is_history : DefAt K mg "is_history" s_is_history ["program", "value"]
  check_history : DefAt K mg "check_history" s_check_history ["program", "history"]
  check_machine : DefAt K mg "check_machine" s_check_machine ["machine"]
  u_is_machine_state : DefAt K mg "_is_machine_state" s_u_is_machine_state ["value"]
  u_is_number : DefAt K mg "_is_number" s_u_is_number ["value", "many"]
  u_check_tree : DefAt K mg "_check_tree" s_u_check_tree ["tree", "room", "happened", "level"]
  u_is_tuple_of : DefAt K mg "_is_tuple_of" s_u_is_tuple_of ["value", "many"]
  u_check_end : DefAt K mg "_check_end" s_u_check_end ["tree", "room", "happened"]
  u_is_outcome : DefAt K mg "_is_outcome" s_u_is_outcome ["outcome", "room", "happened"]
  u_are_operands : DefAt K mg "_are_operands" s_u_are_operands ["word", "values", "room", "happened"]
  u_is_operand : DefAt K mg "_is_operand" s_u_is_operand ["value", "room", "happened"]
  u_is_object : DefAt K mg "_is_object" s_u_is_object ["value", "room", "happened"]
  run_machine : DefAt K mg "run_machine" s_run_machine ["machine", "history"]
  l_source : DefAt K mg "_law_source" s_l_source ["_law_script"]
  l_draw : DefAt K mg "_law_draw" s_l_draw ["_law_source_here", "_law_limit"]
  l_word : DefAt K mg "_law_word" s_l_word ["_law_made"]
  l_leaf : DefAt K mg "_law_leaf" s_l_leaf []
  l_with_tree : DefAt K mg "_law_with_tree" s_l_with_tree ["_law_source_here", "_law_tree"]
  l_behind : DefAt K mg "_law_behind" s_l_behind ["_law_tree"]
  l_spots : DefAt K mg "_law_spots" s_l_spots ["_law_operand"]
  l_operands : DefAt K mg "_law_operands" s_l_operands ["_law_source_here"]
  l_ends : DefAt K mg "_law_ends" s_l_ends ["_law_source_here"]
  l_asks : DefAt K mg "_law_asks" s_l_asks ["_law_source_here"]
  l_long : DefAt K mg "_law_long" s_l_long ["_law_source_here"]
  l_wholes : DefAt K mg "_law_wholes" s_l_wholes ["_law_source_here"]
  law : DefAt K mg "law" s_law ["_law_script"]
  i_Room : IniAt K mg "Room" "Room.__init__" s_i_Room ["self", "parameters", "states", "places"]
noncomputable def bodyOf (ck : Fnm → MF) : Fnm → MF
  | .is_integer => f_is_integer ck
  | .is_name => f_is_name ck
  | .held_object => f_held_object ck
  | .is_call => f_is_call ck
  | .is_history => f_is_history ck
  | .check_history => f_check_history ck
  | .check_machine => f_check_machine ck
  | .u_is_machine_state => f_u_is_machine_state ck
  | .u_is_number => f_u_is_number ck
  | .u_check_tree => f_u_check_tree ck
  | .u_is_tuple_of => f_u_is_tuple_of ck
  | .u_check_end => f_u_check_end ck
  | .u_is_outcome => f_u_is_outcome ck
  | .u_are_operands => f_u_are_operands ck
  | .u_is_operand => f_u_is_operand ck
  | .u_is_object => f_u_is_object ck
  | .run_machine => f_run_machine ck
  | .l_source => f_l_source ck
  | .l_draw => f_l_draw ck
  | .l_word => f_l_word ck
  | .l_leaf => f_l_leaf ck
  | .l_with_tree => f_l_with_tree ck
  | .l_behind => f_l_behind ck
  | .l_spots => f_l_spots ck
  | .l_operands => f_l_operands ck
  | .l_ends => f_l_ends ck
  | .l_asks => f_l_asks ck
  | .l_long => f_l_long ck
  | .l_wholes => f_l_wholes ck
  | .law => f_law ck
  | .i_Room => f_i_Room ck
  | _ => fun _ _ => .stuck
noncomputable def Tab : Nat → Fnm → MF := fun k => Nat.rec (fun _ _ _ => .stuck) (fun _ ih => bodyOf ih) k
structure OkN (M : Mode) (P : Program) (w : World) (K : PySem.W.Frag) (mg : Str → Option Value) (base : Heap) (k : Nat) : Prop where
  is_integer : FnX M P w K mg base (lv k) "is_integer" 1 (Tab k .is_integer)
  is_name : FnX M P w K mg base (lv k) "is_name" 1 (Tab k .is_name)
  held_object : FnX M P w K mg base (lv k) "held_object" 2 (Tab k .held_object)
  is_call : FnX M P w K mg base (lv k) "is_call" 2 (Tab k .is_call)
  is_history : FnX M P w K mg base (lv k) "is_history" 2 (Tab k .is_history)
  check_history : FnX M P w K mg base (lv k) "check_history" 2 (Tab k .check_history)
  check_machine : FnX M P w K mg base (lv k) "check_machine" 1 (Tab k .check_machine)
  u_is_machine_state : FnX M P w K mg base (lv k) "_is_machine_state" 1 (Tab k .u_is_machine_state)
  u_is_number : FnX M P w K mg base (lv k) "_is_number" 2 (Tab k .u_is_number)
  u_check_tree : FnX M P w K mg base (lv k) "_check_tree" 4 (Tab k .u_check_tree)
  u_is_tuple_of : FnX M P w K mg base (lv k) "_is_tuple_of" 2 (Tab k .u_is_tuple_of)
  u_check_end : FnX M P w K mg base (lv k) "_check_end" 3 (Tab k .u_check_end)
  u_is_outcome : FnX M P w K mg base (lv k) "_is_outcome" 3 (Tab k .u_is_outcome)
  u_are_operands : FnX M P w K mg base (lv k) "_are_operands" 4 (Tab k .u_are_operands)
  u_is_operand : FnX M P w K mg base (lv k) "_is_operand" 3 (Tab k .u_is_operand)
  u_is_object : FnX M P w K mg base (lv k) "_is_object" 3 (Tab k .u_is_object)
  run_machine : FnX M P w K mg base (lv k) "run_machine" 2 (Tab k .run_machine)
  l_source : FnX M P w K mg base (lv k) "_law_source" 1 (Tab k .l_source)
  l_draw : FnX M P w K mg base (lv k) "_law_draw" 2 (Tab k .l_draw)
  l_leaf : FnX M P w K mg base (lv k) "_law_leaf" 0 (Tab k .l_leaf)
  l_with_tree : FnX M P w K mg base (lv k) "_law_with_tree" 2 (Tab k .l_with_tree)
  l_behind : FnX M P w K mg base (lv k) "_law_behind" 1 (Tab k .l_behind)
  l_spots : FnX M P w K mg base (lv k) "_law_spots" 1 (Tab k .l_spots)
  i_Room : MkX M P w K mg base (lv k) "Room" 3 (Tab k .i_Room)
theorem okN (M : Mode) {P : Program} {w : World} {K : PySem.W.Frag} {mg : Str → Option Value} {base : Heap} (D : Defs K mg) (T : Txt K w mg) : ∀ k, OkN M P w K mg base k
  | 0 => ⟨D.is_integer.fn0 rfl, D.is_name.fn0 rfl, D.held_object.fn0 rfl, D.is_call.fn0 rfl, D.is_history.fn0 rfl, D.check_history.fn0 rfl, D.check_machine.fn0 rfl, D.u_is_machine_state.fn0 rfl, D.u_is_number.fn0 rfl, D.u_check_tree.fn0 rfl, D.u_is_tuple_of.fn0 rfl, D.u_check_end.fn0 rfl, D.u_is_outcome.fn0 rfl, D.u_are_operands.fn0 rfl, D.u_is_operand.fn0 rfl, D.u_is_object.fn0 rfl, D.run_machine.fn0 rfl, D.l_source.fn0 rfl, D.l_draw.fn0 rfl, D.l_leaf.fn0 rfl, D.l_with_tree.fn0 rfl, D.l_behind.fn0 rfl, D.l_spots.fn0 rfl, D.i_Room.mk0 rfl⟩
  | k + 1 =>
    have h := okN M D T k
    ⟨D.is_integer.fnx fun f fd Fu => ok_is_integer (ck := Tab k) Fu T,
     D.is_name.fnx fun f fd Fu => ok_is_name (ck := Tab k) Fu T,
     D.held_object.fnx fun f fd Fu => ok_held_object (ck := Tab k) Fu T,
     D.is_call.fnx fun f fd Fu => ok_is_call (ck := Tab k) Fu T,
     D.is_history.fnx fun f fd Fu => ok_is_history (ck := Tab k) Fu T h.is_call,
     D.check_history.fnx fun f fd Fu => ok_check_history (ck := Tab k) Fu T h.is_history,
     D.check_machine.fnx fun f fd Fu => ok_check_machine (ck := Tab k) Fu T h.u_check_tree h.u_is_machine_state h.u_is_number h.is_name h.i_Room,
     D.u_is_machine_state.fnx fun f fd Fu => ok_u_is_machine_state (ck := Tab k) Fu T h.u_is_number,
     D.u_is_number.fnx fun f fd Fu => ok_u_is_number (ck := Tab k) Fu T h.is_integer,
     D.u_check_tree.fnx fun f fd Fu => ok_u_check_tree (ck := Tab k) Fu T h.u_are_operands h.u_check_end h.u_check_tree h.u_is_object h.u_is_tuple_of,
     D.u_is_tuple_of.fnx fun f fd Fu => ok_u_is_tuple_of (ck := Tab k) Fu T,
     D.u_check_end.fnx fun f fd Fu => ok_u_check_end (ck := Tab k) Fu T h.u_is_number h.u_is_object h.u_is_outcome h.u_is_tuple_of,
     D.u_is_outcome.fnx fun f fd Fu => ok_u_is_outcome (ck := Tab k) Fu T h.u_is_number h.u_is_operand,
     D.u_are_operands.fnx fun f fd Fu => ok_u_are_operands (ck := Tab k) Fu T h.u_is_operand h.is_name,
     D.u_is_operand.fnx fun f fd Fu => ok_u_is_operand (ck := Tab k) Fu T h.u_is_object h.u_is_tuple_of,
     D.u_is_object.fnx fun f fd Fu => ok_u_is_object (ck := Tab k) Fu T h.u_is_number h.u_is_tuple_of,
     D.run_machine.fnx fun f fd Fu => ok_run_machine (ck := Tab k) Fu T h.check_history h.check_machine,
     D.l_source.fnx fun f fd Fu => ok_l_source (ck := Tab k) Fu T,
     D.l_draw.fnx fun f fd Fu => ok_l_draw (ck := Tab k) Fu T,
     D.l_leaf.fnx fun f fd Fu => ok_l_leaf (ck := Tab k) Fu T,
     D.l_with_tree.fnx fun f fd Fu => ok_l_with_tree (ck := Tab k) Fu T h.l_draw h.l_leaf,
     D.l_behind.fnx fun f fd Fu => ok_l_behind (ck := Tab k) Fu T h.l_leaf,
     D.l_spots.fnx fun f fd Fu => ok_l_spots (ck := Tab k) Fu T h.l_behind h.l_leaf,
     D.i_Room.mkx fun f fd Fu => ok_i_Room (ck := Tab k) Fu T⟩
structure Ok2 (P : Program) (w : World) (K : PySem.W.Frag) (mg : Str → Option Value) (base : Heap) (k : Nat) : Prop where
  l_word : FnX M2 P w K mg base (lv k) "_law_word" 1 (Tab k .l_word)
  l_operands : FnX M2 P w K mg base (lv k) "_law_operands" 1 (Tab k .l_operands)
  l_ends : FnX M2 P w K mg base (lv k) "_law_ends" 1 (Tab k .l_ends)
  l_asks : FnX M2 P w K mg base (lv k) "_law_asks" 1 (Tab k .l_asks)
  l_long : FnX M2 P w K mg base (lv k) "_law_long" 1 (Tab k .l_long)
  l_wholes : FnX M2 P w K mg base (lv k) "_law_wholes" 1 (Tab k .l_wholes)
  law : FnX M2 P w K mg base (lv k) "law" 1 (Tab k .law)
theorem ok2 {P : Program} {w : World} {K : PySem.W.Frag} {mg : Str → Option Value} {base : Heap} (D : Defs K mg) (T : Txt K w mg) : ∀ k, Ok2 P w K mg base k
  | 0 => ⟨D.l_word.fn0 rfl, D.l_operands.fn0 rfl, D.l_ends.fn0 rfl, D.l_asks.fn0 rfl, D.l_long.fn0 rfl, D.l_wholes.fn0 rfl, D.law.fn0 rfl⟩
  | k + 1 =>
    have h := ok2 D T k
    have g : OkN M2 P w K mg base k := okN M2 D T k
    have gN : OkN MN P w K mg base k := okN MN D T k
    ⟨D.l_word.fnx fun f fd Fu => ok_l_word  (ck := Tab k) Fu T g.run_machine,
     D.l_operands.fnx fun f fd Fu => ok_l_operands (M := M2) (ck := Tab k) Fu T g.l_spots g.l_with_tree h.l_word,
     D.l_ends.fnx fun f fd Fu => ok_l_ends (M := M2) (ck := Tab k) Fu T g.l_behind g.l_leaf g.l_with_tree h.l_word,
     D.l_asks.fnx fun f fd Fu => ok_l_asks (M := M2) (ck := Tab k) Fu T g.l_behind g.l_leaf g.l_with_tree h.l_word,
     D.l_long.fnx fun f fd Fu => ok_l_long (M := M2) (ck := Tab k) Fu T g.l_draw g.l_leaf h.l_word,
     D.l_wholes.fnx fun f fd Fu => ok_l_wholes (M := M2) (ck := Tab k) Fu T g.l_leaf g.l_with_tree h.l_word,
     D.law.fnx fun f fd Fu => ok_law (M := M2) (ck := Tab k) Fu T h.l_asks h.l_ends h.l_long h.l_operands g.l_source h.l_wholes⟩
theorem law_at {P : Program} {w : World} {K : PySem.W.Frag} {mg : Str → Option Value} (D : Defs K mg) (T : Txt K w mg) (k : Nat) {fa : Addr} (h : mg "law" = some (.ref fa)) : ∃ fd : FuncData, (∀ (s : Shared) (u : Value), BindsTo s fd ⟨[u], []⟩ [("_law_script", u)]) ∧ ∀ base : Heap, FnOk P w K mg base (L2.CX P w) (lv k + 2) fa fd ["_law_script"] (spM K 1 (Tab (k + 1) .law)) := by
  obtain ⟨f, fd, Fu, h2, _, _⟩ := D.law.ex
  rw [h] at h2
  cases h2
  refine ⟨fd, fun s u => ?_, fun base => ok_law (M := M2) Fu T (ok2 D T k).l_asks (ok2 D T k).l_ends (ok2 D T k).l_long (ok2 D T k).l_operands (okN M2 D T k).l_source (ok2 D T k).l_wholes⟩
  obtain ⟨oc, od, kV, doc, pm, an, cdv, ct, osl, rfl, lk, hcd⟩ := Fu.ex
  exact .of_eq rfl
end K57
namespace K57
open PySem L2 MI
/-- all but those at S is as it was -/
def Kp (S : List Nat) (m m' : Mem) : Prop := m.length ≤ m'.length ∧ ∀ n, n < m.length → n ∉ S → m'[n]? = m[n]?
theorem Kp.refl {S : List Nat} {m : Mem} : Kp S m m := ⟨Nat.le_refl _, fun _ _ _ => rfl⟩
theorem Kp.trans {S : List Nat} {m m' m'' : Mem} (a : Kp S m m') (b : Kp S m' m'') : Kp S m m'' := ⟨Nat.le_trans a.1 b.1, fun n h1 h2 => (b.2 n (Nat.lt_of_lt_of_le h1 a.1) h2).trans (a.2 n h1 h2)⟩
theorem Kp.get {S : List Nat} {m m' : Mem} (a : Kp S m m') {n : Nat} {o : MO} (h : m[n]? = some o) (hn : n ∉ S) : m'[n]? = some o := (a.2 n (List.getElem?_eq_some_iff.mp h).1 hn).trans h
theorem Kp.push {S : List Nat} {m : Mem} {o : MO} : Kp S m (m ++ [o]) := ⟨by simp, fun n h _ => List.getElem?_append_left h⟩
theorem Kp.wr {S : List Nat} {m : Mem} {n : Nat} {o : MO} (h : n ∈ S) : Kp S m (m.set n o) := ⟨by simp, fun i _ hi => by rw [List.getElem?_set_ne (fun e => hi (by rw [← e]; exact h))]⟩
theorem Kp.mono {S S' : List Nat} {m m' : Mem} (a : Kp S m m') (h : ∀ n ∈ S, n ∈ S') : Kp S' m m' := ⟨a.1, fun n h1 h2 => a.2 n h1 fun z => h2 (h n z)⟩
theorem at_lst {m : Mem} {n : Nat} {l : List MV} (h : m[n]? = some (.lst l)) : lstOf m (.ref n) = some l ∧ dctOf m (.ref n) = none ∧ mutOf m (.ref n) = some (n, l) ∧ seqOf m (.ref n) = some l := by
  simp [lstOf, dctOf, mutOf, seqOf, h]
/-- the source of draws: its list at s, the cells at c, t draws so far -/
structure Src (m : Mem) (s c : Nat) (t : Int) : Prop where
  ex : ∃ cells : List Int, cells ≠ [] ∧ m[s]? = some (.lst [.ref c, .int t]) ∧ m[c]? = some (.lst (cells.map .int))
  ne : s ≠ c
  lo : 0 ≤ t
theorem Src.kp {m m' : Mem} {s c : Nat} {t : Int} {S : List Nat} (a : Src m s c t) (k : Kp S m m') (h1 : s ∉ S) (h2 : c ∉ S) : Src m' s c t :=
  let ⟨cells, e1, e2, e3⟩ := a.ex; ⟨⟨cells, e1, k.get e2 h1, k.get e3 h2⟩, a.ne, a.lo⟩
theorem tab_succ {k : Nat} {x : Fnm} : Tab (k + 1) x = bodyOf (Tab k) x := rfl
theorem draw_ok {k : Nat} {m : Mem} {s c : Nat} {t lim : Int} (a : Src m s c t) (h0 : 0 < lim) (h1 : lim < 2 ^ 60) (ht : t < 2 ^ 60) :
    MI.W (Tab (k + 1) .l_draw [.ref s, .int lim] m) (fun d m' => ∃ v : Int, d = .int v ∧ 0 ≤ v ∧ v < lim ∧ Src m' s c (t + 1) ∧ Kp [s, c] m m' ∧ m'.length = m.length) E0 := by
  obtain ⟨cells, e1, e2, e3⟩ := a.ex
  have ne := a.ne
  have lo := a.lo
  have ls : s < m.length := (List.getElem?_eq_some_iff.mp e2).1
  have lc : c < m.length := (List.getElem?_eq_some_iff.mp e3).1
  have n0 : 0 < (cells.length : Int) := by
    cases cells with
    | nil => exact absurd rfl e1
    | cons _ _ => simp only [List.length_cons]; omega
  -- the place
  have p0 := Int.emod_nonneg t (Int.ne_of_gt n0)
  have p1 := Int.emod_lt_of_pos t n0
  have hp : (t % (cells.length : Int)).toNat < cells.length := by omega
  obtain ⟨cell, at1⟩ : ∃ cell : Int, atM (cells.map MV.int) (t % (cells.length : Int)) = some (.int cell) := by
    refine ⟨cells[(t % (cells.length : Int)).toNat], ?_⟩
    unfold atM ixN
    rw [if_pos p0, List.length_map, if_pos p1]
    simp [hp]
  obtain ⟨j, ix1⟩ : ∃ j, ixN cells.length (t % (cells.length : Int)) = some j := by
    refine ⟨(t % (cells.length : Int)).toNat, ?_⟩
    unfold ixN
    rw [if_pos p0, if_pos p1]
  have d2 : (m.set s (.lst [.ref c, .int (t + 1)]))[c]? = some (.lst (cells.map .int)) := by rw [List.getElem?_set_ne ne]; exact e3
  have ds : (m.set s (.lst [.ref c, .int (t + 1)]))[s]? = some (.lst [.ref c, .int (t + 1)]) := by rw [List.getElem?_set_self ls]
  have kp1 : Kp [s, c] m (m.set s (.lst [.ref c, .int (t + 1)])) := Kp.wr (by simp)
  have src1 : Src (m.set s (.lst [.ref c, .int (t + 1)])) s c (t + 1) := ⟨⟨cells, e1, ds, d2⟩, ne, by omega⟩
  have src2 : ∀ v : Int, Src ((m.set s (.lst [.ref c, .int (t + 1)])).set c (.lst ((cells.set j v).map .int))) s c (t + 1) := fun v => by
    refine ⟨⟨cells.set j v, ?_, ?_, ?_⟩, ne, by omega⟩
    · intro z
      have := congrArg List.length z
      simp at this
      exact e1 this
    · rw [List.getElem?_set_ne (Ne.symm ne)]; exact ds
    · rw [List.getElem?_set_self (by simpa using lc)]
  have kp2 : ∀ v : Int, Kp [s, c] m ((m.set s (.lst [.ref c, .int (t + 1)])).set c (.lst ((cells.set j v).map .int))) := fun v => kp1.trans (Kp.wr (by simp))
  have dv : CDivW cell lim := by
    refine ⟨h0, ?_⟩
    have : lim.natAbs < 2 ^ 60 := by omega
    have := (Nat.log2_lt (n := lim.natAbs) (k := 60) (by omega)).mpr this
    omega
  have pw : CPowW 10 18 := by decide
  have ans : ∀ x : Int, 0 ≤ x % lim ∧ x % lim < lim := fun x => ⟨Int.emod_nonneg _ (Int.ne_of_gt h0), Int.emod_lt_of_pos _ h0⟩
  show MI.W (f_l_draw (Tab k) [.ref s, .int lim] m) _ _
  unfold f_l_draw b_l_draw
  simp [startM, W_asgT, nCons, nName, nNil, e2, e3, at1, n0, d2, ds, dv, pw, h0, ix1, show ixN 2 1 = some 1 from rfl]
  refine ⟨by omega, ?_⟩
  have md : ∀ x : Int, -18446744073709551616 < x % 2147483647 ∧ x % 2147483647 < 18446744073709551616 := fun x => by omega
  have md2 : ∀ x : Int, -18446744073709551616 < x % 2147483629 ∧ x % 2147483629 < 18446744073709551616 := fun x => by omega
  split
  · have q1 := src2 (cell / lim)
    have q2 := kp2 (cell / lim)
    rw [List.map_set] at q1 q2
    exact ⟨(ans _).1, (ans _).2, q1, q2⟩
  · exact ⟨⟨by omega, by omega⟩, md _, md2 _, (ans _).1, (ans _).2, src1, kp1⟩

/-- a name by the words of the document -/
def IsName (s : Str) : Prop := 1 ≤ s.length ∧ s.length ≤ 8 ∧ (∀ c ∈ s.cps.toList, 97 ≤ c ∧ c ≤ 122) ∧ s ∉ (["and", "or", "not", "if", "else", "is", "none", "true", "false", "set", "give", "try", "except", "end", "then", "program", "keep", "self"] : List Str)
instance (s : Str) : Decidable (IsName s) := by unfold IsName; exact inferInstance
theorem atM_of {l : List MV} {v : Int} (h0 : 0 ≤ v) (h1 : v < l.length) : ∃ d, d ∈ l ∧ atM l v = some d := by
  refine ⟨l[v.toNat]'(by omega), List.getElem_mem _, ?_⟩
  unfold atM ixN
  rw [if_pos h0, if_pos h1]
  show l[v.toNat]? = _
  rw [List.getElem?_eq_getElem]
theorem new_ne {m : Mem} {n : Nat} {o : MO} (h : m[n]? = some o) : m.length ≠ n := fun e => by
  have := (List.getElem?_eq_some_iff.mp h).1
  omega
/-- what came of a draw of an expression -/
theorem Kp.app {S : List Nat} {m r : Mem} : Kp S m (m ++ r) := ⟨by simp, fun n h _ => List.getElem?_append_left h⟩
theorem at_app {m r : Mem} {i : Nat} : (m ++ r)[m.length + i]? = r[i]? := by rw [List.getElem?_append_right (by omega), show m.length + i - m.length = i by omega]
theorem Kp.wrNew {S : List Nat} {m m' : Mem} {f : Nat} {o : MO} (a : Kp S m m') (h : m.length ≤ f) : Kp S m (m'.set f o) :=
  ⟨by simpa using a.1, fun n h1 h2 => by rw [List.getElem?_set_ne (by omega)]; exact a.2 n h1 h2⟩
theorem ix30 : ixN 2 0 = some 0 := rfl
theorem ix31 : ixN 2 1 = some 1 := rfl
def NewL (m : Mem) (l : List MV) (d : MV) (m' : Mem) : Prop := ∃ n, d = .ref n ∧ m'[n]? = some (.lst l) ∧ m.length ≤ n ∧ Kp [] m m'
theorem rngL_length {lo : Int} {n : Nat} : (rngL lo n).length = n := by simp [rngL]
@[simp] theorem at0 {a : MV} {l : List MV} : atM (a :: l) 0 = some a := by
  unfold atM ixN
  rw [if_pos (by decide), if_pos (by simp)]
  rfl
@[simp] theorem at1 {a b : MV} {l : List MV} : atM (a :: b :: l) 1 = some b := by
  unfold atM ixN
  rw [if_pos (by decide), if_pos (by simp; omega)]
  rfl
@[simp] theorem at2 {a b c : MV} {l : List MV} : atM (a :: b :: c :: l) 2 = some c := by
  unfold atM ixN
  rw [if_pos (by decide), if_pos (by simp; omega)]
  rfl
theorem W_eq {α : Type} {r : Re α} {x : α} {m : Mem} (h : MI.W r (fun d m' => d = x ∧ m' = m) E0) : r = .ok x m := by
  cases r with
  | ok a m1 => obtain ⟨h1, h2⟩ := h; rw [h1, h2]
  | ex x m1 => exact h.elim
  | stuck => exact h.elim
end K57
namespace K57
open PySem L2 MI
theorem inV_str {s : Str} : ∀ {l : List Str}, inV (.str s) (l.map V.str) = decide (s ∈ l)
  | [] => rfl
  | x :: r => by
    have ih := inV_str (s := s) (l := r)
    unfold inV at ih ⊢
    rw [List.map_cons, List.any_cons, ih]
    show ((x == s) || decide (s ∈ r)) = _
    by_cases h : x = s
    · subst h; simp
    · rw [beq_eq_false_iff_ne.mpr h]
      simp [Ne.symm h]
theorem W_in_strs {s : Str} {l : List Str} {neg : Bool} {m : Mem} {Q : MV → Mem → Prop} {E : Exn → Mem → Prop} : MI.W (gInA neg (.str s) (.tup (l.map .str)) m) Q E = Q (.bl (if neg = true then !decide (s ∈ l) else decide (s ∈ l))) m := by
  classical
  unfold gInA
  have al : (l.map MV.str).all flat = true := by simp [flat]
  rw [if_neg (by rintro ⟨z, h⟩; cases h), if_neg (by simp), if_pos ⟨_, rfl, rfl, al⟩]
  show MI.W (if flat (.str s) = true ∧ (l.map MV.str).all flat = true then .ok (.bl (if neg then !inV (toV (.str s)) ((l.map MV.str).map toV) else inV (toV (.str s)) ((l.map MV.str).map toV))) m else .stuck) Q E = _
  rw [if_pos ⟨rfl, al⟩]
  have e : (l.map MV.str).map toV = l.map V.str := by rw [List.map_map]; rfl
  rw [e]
  show Q (.bl (if neg then !inV (.str s) (l.map V.str) else inV (.str s) (l.map V.str))) m = _
  rw [inV_str]
theorem bls_map : ∀ bs : List Bool, blsOf (bs.map .bl) = some bs
  | [] => rfl
  | b :: r => by
    show (blsOf (r.map .bl)).map (b :: ·) = _
    rw [bls_map r]; rfl
theorem W_all {n : Nat} {bs : List Bool} {m : Mem} {Q : MV → Mem → Prop} {E : Exn → Mem → Prop} (h : m[n]? = some (.lst (bs.map .bl))) : MI.W (gAll [.ref n] m) Q E = Q (.bl (bs.all id)) m := by
  show MI.W (match (lstOf m (.ref n)).bind blsOf with | some bs => .ok (.bl (bs.all id)) m | none => .stuck) Q E = _
  simp only [lstOf_ref, h, Option.bind_some, bls_map]
  rfl
theorem kit_ss : kitB "str" "str" = some true := rfl
theorem kit_ts : kitB "tuple" "str" = some false := rfl
theorem kit_tt : kitB "tuple" "tuple" = some true := rfl
theorem kit_st : kitB "str" "tuple" = some false := rfl
theorem kit_lt : kitB "list" "tuple" = some false := rfl
theorem kit_nt : kitB "NoneType" "tuple" = some false := rfl
@[simp] theorem ty_str {m : Mem} {s : Str} : tyM m (.str s) = some "str" := rfl
@[simp] theorem ty_tup {m : Mem} {s : List MV} : tyM m (.tup s) = some "tuple" := rfl
@[simp] theorem ty_int {m : Mem} {s : Int} : tyM m (.int s) = some "int" := rfl
@[simp] theorem ty_bl {m : Mem} {s : Bool} : tyM m (.bl s) = some "bool" := rfl
@[simp] theorem ty_non {m : Mem} : tyM m .non = some "NoneType" := rfl
def isLow (d : MV) : MV := match d with
  | .str z => .bl (!decide (z.cps.toList < ("a" : Str).cps.toList) && !decide (("z" : Str).cps.toList < z.cps.toList))
  | _ => .non
theorem low_c {c : Nat} : isLow (.str ⟨#[c]⟩) = .bl (decide (97 ≤ c ∧ c ≤ 122)) := by
  have e1 : ("a" : Str).cps.toList = [97] := by decide
  have e2 : ("z" : Str).cps.toList = [122] := by decide
  unfold isLow
  simp only [e1, e2]
  have l1 : ([c] < [97]) ↔ c < 97 := by simp [List.cons_lt_cons_iff]
  have l2 : ([122] < [c]) ↔ 122 < c := by simp [List.cons_lt_cons_iff]
  simp only [l1, l2]
  congr 1
  by_cases h1 : c < 97 <;> by_cases h2 : 122 < c <;> simp [h1, h2] <;> omega
abbrev barred : List Str := ["and", "or", "not", "if", "else", "is", "none", "true", "false", "set", "give", "try", "except", "end", "then", "program", "keep", "self"]
theorem isname_ok {k : Nat} {m : Mem} {s : Str} (hs : s.length ≤ 1000) : MI.W (Tab (k + 1) .is_name [.str s] m) (fun d m' => d = .bl (decide (IsName s)) ∧ Kp [] m m') E0 := by
  have key : ∀ (m : Mem) (Q : MV → Mem → Prop) (E : Exn → Mem → Prop), MI.W (gInA true (.str s) c_BARRED m) Q E = Q (.bl (!decide (s ∈ barred))) m := fun m Q E => W_in_strs (l := barred) (neg := true)
  show MI.W (f_is_name (Tab k) [.str s] m) _ _
  unfold f_is_name b_is_name
  by_cases h1 : (1 : Int) ≤ s.length
  · by_cases h2 : (s.length : Int) ≤ 8
    · by_cases h3 : s ∈ barred
      · have hn : ¬ IsName s := fun h => h.2.2.2 h3
        simp [startM, kit_ss, szl hs, h1, h2]
        erw [key]
        simp only [h3, decide_true, Bool.not_true, tru_bl]
        exact ⟨by rw [decide_eq_false hn], Kp.refl⟩
      · simp [startM, kit_ss, szl hs, h1, h2]
        erw [key]
        simp only [h3, decide_false, Bool.not_false, tru_bl]
        refine W_pure isLow (fun _ => true) trivial (fun d hd => ⟨rfl, fun _ => ?_⟩) (by simpa using (show s.cps.size ≤ 1000 from hs)) ?_
        · obtain ⟨c, hc, rfl⟩ := List.mem_map.mp hd
          show (Re.bind (Re.ok (MV.bl (!decide ((⟨#[c]⟩ : Str).cps.toList < ("a" : Str).cps.toList))) m) fun r m3 => match r with
            | .bl true => Re.bind (Re.ok (MV.str ("z" : Str)) m3) (fun c' m4 => gLeS (.str ⟨#[c]⟩) c' m4)
            | .bl false => .ok (.bl false) m3
            | _ => .stuck) = Re.ok (MV.bl (!decide ((⟨#[c]⟩ : Str).cps.toList < ("a" : Str).cps.toList) && !decide (("z" : Str).cps.toList < (⟨#[c]⟩ : Str).cps.toList))) m
          cases decide ((⟨#[c]⟩ : Str).cps.toList < ("a" : Str).cps.toList) <;> rfl
        · rw [filter_all]
          have e : (s.cps.toList.map fun c => MV.str ⟨#[c]⟩).map isLow = (s.cps.toList.map fun c => decide (97 ≤ c ∧ c ≤ 122)).map .bl := by
            rw [List.map_map, List.map_map]
            exact List.map_congr_left fun c _ => low_c
          rw [e, W_all List.getElem?_concat_length]
          refine ⟨?_, Kp.push⟩
          congr 1
          rw [Bool.eq_iff_iff, List.all_eq_true, decide_eq_true_eq]
          unfold IsName
          constructor
          · intro h
            refine ⟨by omega, by omega, fun c hc => ?_, h3⟩
            simpa using h (decide (97 ≤ c ∧ c ≤ 122)) (List.mem_map_of_mem hc)
          · rintro ⟨_, _, h, _⟩ b hb
            obtain ⟨c, hc, rfl⟩ := List.mem_map.mp hb
            simpa using h c hc
    · have hn : ¬ IsName s := fun h => h2 (by have := h.2.1; omega)
      simp [startM, kit_ss, szl hs, h1, h2, hn]
      exact Kp.refl
  · have hn : ¬ IsName s := fun h => h1 (by have := h.1; omega)
    simp [startM, kit_ss, szl hs, h1, hn]
    exact Kp.refl
/-! ### values of any kind -/
def kinds7 : List String := ["NoneType", "bool", "int", "str", "tuple", "list", "dict"]
theorem kit_all : ∀ t ∈ ["NoneType", "bool", "int", "str", "tuple", "list", "dict"], kitB t "str" = some (decide (t = "str")) ∧ kitB t "tuple" = some (decide (t = "tuple")) ∧ kitB t "dict" = some (decide (t = "dict")) ∧ kitB t "bool" = some (decide (t = "bool")) := by decide
def isStr : MV → Bool
  | .str _ => true
  | _ => false
def isTup : MV → Bool
  | .tup _ => true
  | _ => false
/-- its type is known -/
def Typed (m : Mem) (d : MV) : Prop := ∃ t, tyM m d = some t ∧ t ∈ ["NoneType", "bool", "int", "str", "tuple", "list", "dict"]
theorem ty_isStr {m : Mem} {d : MV} {t : String} (h : tyM m d = some t) : (decide (t = "str")) = isStr d := by
  cases d with
  | int i => cases h; rfl
  | non => cases h; rfl
  | bl b => cases h; rfl
  | str s => cases h; rfl
  | tup l => cases h; rfl
  | kl l => cases h
  | ref n =>
    have h : tyO m[n]? = some t := h
    cases q : m[n]? with
    | none => rw [q] at h; cases h
    | some o => rw [q] at h; cases o <;> cases h <;> rfl
theorem ty_isTup {m : Mem} {d : MV} {t : String} (h : tyM m d = some t) : (decide (t = "tuple")) = isTup d := by
  cases d with
  | int i => cases h; rfl
  | non => cases h; rfl
  | bl b => cases h; rfl
  | str s => cases h; rfl
  | tup l => cases h; rfl
  | kl l => cases h
  | ref n =>
    have h : tyO m[n]? = some t := h
    cases q : m[n]? with
    | none => rw [q] at h; cases h
    | some o => rw [q] at h; cases o <;> cases h <;> rfl
theorem isi_str {m : Mem} {d : MV} (h : Typed m d) : ((tyM m d).bind fun t => kitB t "str") = some (isStr d) := by
  obtain ⟨t, h1, h2⟩ := h
  rw [h1, Option.bind_some, (kit_all t h2).1, ty_isStr h1]
theorem isi_tup {m : Mem} {d : MV} (h : Typed m d) : ((tyM m d).bind fun t => kitB t "tuple") = some (isTup d) := by
  obtain ⟨t, h1, h2⟩ := h
  rw [h1, Option.bind_some, (kit_all t h2).2.1, ty_isTup h1]
def nameB : MV → Bool
  | .str s => decide (IsName s)
  | _ => false
theorem isnameV_ok {k : Nat} {m : Mem} {v : MV} (h : Typed m v) (hs : ∀ s, v = .str s → s.length ≤ 1000) : MI.W (Tab (k + 1) .is_name [v] m) (fun d m' => d = .bl (nameB v) ∧ Kp [] m m') E0 := by
  by_cases c : isStr v = true
  · cases v with
    | str s => exact isname_ok (hs s rfl)
    | _ => cases c
  · have e := isi_str h
    rw [show isStr v = false by simpa using c] at e
    show MI.W (f_is_name (Tab k) [v] m) _ _
    unfold f_is_name b_is_name
    simp [startM, e]
    refine ⟨?_, Kp.refl⟩
    cases v with
    | str s => exact absurd rfl c
    | _ => rfl
end K57
namespace K57
open PySem L2 MI
/-! ### machines: what the document says of a value, as far as it is looked at here (none: not looked at) -/
structure Rm where
  params : Nat
  states : List Nat
  places : Nat
abbrev signs : List Str := ["<", "<=", ">", ">=", "==", "!="]
abbrev consts : List Str := ["none", "true", "false"]
def numB (v : MV) (many : Nat) : Bool := match v with
  | .int i => decide (0 ≤ i) && decide (i < many)
  | _ => false
def hapB (hap : List Bool) (v : MV) : Bool := match v with
  | .int i => hap.getD i.toNat false
  | _ => false
def sgB (w : MV) : Bool := match w with
  | .str s => decide (s ∈ signs)
  | _ => false
def objB (R : Rm) (hap : List Bool) (v : MV) : Option Bool := match v with
  | .tup [w, n] => match w with
    | .str w => if w = "place" then some (numB n R.places) else if w = "parameter" then some (numB n R.params) else if w = "event" then some (numB n hap.length && !hapB hap n) else some false
    | .non => some false
    | _ => none
  | _ => some false
def opB (R : Rm) (hap : List Bool) (v : MV) : Option Bool := match v with
  | .tup [x] => match x with
    | .str s => some (decide (s ∈ consts))
    | .non => some false
    | _ => none
  | v => objB R hap v
def allO (f : MV → Option Bool) : List MV → Option Bool
  | [] => some true
  | x :: r => match f x, allO f r with
    | some a, some b => some (a && b)
    | _, _ => none
def opsB (R : Rm) (hap : List Bool) (w vals : MV) : Option Bool := match vals with
  | .tup l => match allO (opB R hap) l with
    | some true => if nameB w = true then some (decide (l.length ≤ 3)) else some (sgB w && decide (l.length = 2))
    | r => r
  | _ => some false
def outB (R : Rm) (hap : List Bool) (o : MV) : Option Bool := match o with
  | .tup [w, v] => match w with
    | .str w => if w = "failed" then some (numB v hap.length && hapB hap v) else if w = "value" then opB R hap v else some false
    | .non => some false
    | _ => none
  | _ => some false
def isT (v : MV) (n : Nat) : Bool := match v with
  | .tup l => decide (l.length = n)
  | _ => false
def endB (R : Rm) (hap : List Bool) (o fo h : MV) : Option Bool := match outB R hap o with
  | some true => if numB fo R.states.length = true then (match fo with
    | .int i => match h with
      | .tup l => if l.length = R.states.getD i.toNat 0 then allO (objB R hap) l else some false
      | _ => some false
    | _ => some false) else some false
  | r => r
def andO (a b : Option Bool) : Option Bool := match a with
  | some true => b
  | r => r
def treeB (R : Rm) : Nat → List Bool → Nat → MV → Option Bool
  | 0, _, _, _ => none
  | f + 1, hap, lv, t => if 30 < lv then some false else match t with
    | .tup (h :: r) => match h with
      | .str w =>
        if w = "end" ∧ r.length = 3 then (match r with
          | [o, fo, h] => endB R hap o fo h
          | _ => none)
        else if w = "test" ∧ r.length = 2 then (match r with
          | [o, b] => andO (objB R hap o) (match b with
            | .tup [x, y, z] => andO (treeB R f hap (lv + 1) x) (andO (treeB R f hap (lv + 1) y) (treeB R f hap (lv + 1) z))
            | _ => some false)
          | _ => none)
        else if w = "ask" ∧ r.length = 3 then (match r with
          | [w', ops, b] => if hap.length = 6 then some false else andO (opsB R hap w' ops) (match b with
            | .tup [x, y] => andO (treeB R f (hap ++ [false]) (lv + 1) x) (treeB R f (hap ++ [true]) (lv + 1) y)
            | _ => some false)
          | _ => none)
        else some false
      | _ => none
    | _ => some false
def statesOf : List MV → List Nat
  | [] => []
  | .tup [.int i, _] :: r => i.toNat :: statesOf r
  | _ :: r => 0 :: statesOf r
def stB (v : MV) : Bool := match v with
  | .tup [n, _] => numB n 9
  | _ => false
def treesB (p : Nat) (sts : List Nat) (f : Nat) : List MV → Option Bool
  | [] => some true
  | .tup [.int i, t] :: r => andO (treeB ⟨p, sts, i.toNat⟩ f [] 1 t) (treesB p sts f r)
  | _ :: _ => none
/-- parameters: names, no name twice (some: it is known) -/
def parB (l : List MV) : Option Bool := match l with
  | [] => some true
  | [a] => some (nameB a)
  | [a, b] => if nameB b = true then (match a, b with
    | .str x, .str y => some (nameB (.str x) && !decide (x = y))
    | a, _ => some (nameB a)) else some false
  | _ => some false
def stsB (f p : Nat) (b sts : MV) : Option Bool := match sts with
  | .tup l => if 1 ≤ l.length ∧ l.length ≤ 2000 then (if l.all stB = true then (if numB b l.length = true then (match b with
      | .int i => if (statesOf l).getD i.toNat 1 = 0 then treesB p (statesOf l) f l else some false
      | _ => some false) else some false) else some false) else some false
  | _ => some false
def machB (f : Nat) (v : MV) : Option Bool := match v with
  | .tup [ps, b, sts] => match ps with
    | .tup p => andO (if p.length ≤ 2 then parB p else some false) (stsB f p.length b sts)
    | _ => some false
  | _ => some false
end K57
namespace K57
open PySem L2 MI
/-! ### values -/
def WdOk (m : Mem) (w : MV) : Prop := (∃ s, w = .str s) ∨ w = .non ∨ (∃ i, w = .int i) ∨ ∃ n l, w = .ref n ∧ m[n]? = some (.lst l) ∧ Das l
mutual
def TyV (m : Mem) : MV → Prop
  | .tup l => TyVs m l ∧ l.length ≤ 1000 ∧ ∀ w a b, l = [.str "ask", w, a, b] → WdOk m w
  | .str s => s.length ≤ 1000
  | .ref n => (∃ l, m[n]? = some (.lst l) ∧ Das l) ∨ ∃ l, m[n]? = some (.dct l)
  | .kl _ => False
  | .int _ => True
  | .bl _ => True
  | .non => True
def TyVs (m : Mem) : List MV → Prop
  | [] => True
  | d :: l => TyV m d ∧ TyVs m l
end
theorem TyVs.mem {m : Mem} : ∀ {l : List MV} {d : MV}, TyVs m l → d ∈ l → TyV m d
  | x :: r, d, h, hd => by
    unfold TyVs at h
    rcases List.mem_cons.mp hd with rfl | hd
    · exact h.1
    · exact TyVs.mem h.2 hd
theorem TyVs.of {m : Mem} : ∀ {l : List MV}, (∀ d ∈ l, TyV m d) → TyVs m l
  | [], _ => by unfold TyVs; trivial
  | x :: r, h => by unfold TyVs; exact ⟨h x List.mem_cons_self, TyVs.of fun d hd => h d (List.mem_cons_of_mem _ hd)⟩
theorem TyV.typed {m : Mem} {d : MV} (h : TyV m d) : Typed m d := by
  cases d with
  | non => exact ⟨_, rfl, by decide⟩
  | bl b => exact ⟨_, rfl, by decide⟩
  | int i => exact ⟨_, rfl, by decide⟩
  | str s => exact ⟨_, rfl, by decide⟩
  | tup l => exact ⟨_, rfl, by decide⟩
  | kl l => unfold TyV at h; exact h.elim
  | ref n =>
    unfold TyV at h
    rcases h with ⟨l, h, _⟩ | ⟨l, h⟩
    · exact ⟨"list", by show tyO m[n]? = _; rw [h]; rfl, by decide⟩
    · exact ⟨"dict", by show tyO m[n]? = _; rw [h]; rfl, by decide⟩
theorem TyV.str {m : Mem} {d : MV} (h : TyV m d) : ∀ s, d = .str s → s.length ≤ 1000 := by
  rintro s rfl
  unfold TyV at h
  exact h
theorem TyV.items {m : Mem} {l : List MV} (h : TyV m (.tup l)) : (∀ d ∈ l, TyV m d) ∧ l.length ≤ 1000 := by
  unfold TyV at h
  exact ⟨fun d hd => h.1.mem hd, h.2.1⟩
theorem WdOk.kp {m m' : Mem} {x : MV} (h : WdOk m x) (k : Kp [] m m') : WdOk m' x := by
  rcases h with h | h | h | ⟨n, l, h1, h2, h3⟩
  · exact .inl h
  · exact .inr (.inl h)
  · exact .inr (.inr (.inl h))
  · exact .inr (.inr (.inr ⟨n, l, h1, k.get h2 (by simp), h3⟩))
mutual
theorem TyV.kp {m m' : Mem} (k : Kp [] m m') : ∀ (d : MV), TyV m d → TyV m' d
  | .tup l, h => by
    unfold TyV at h ⊢
    exact ⟨TyVs.kp k l h.1, h.2.1, fun w a b e => (h.2.2 w a b e).kp k⟩
  | .str s, h => by unfold TyV at h ⊢; exact h
  | .ref n, h => by
    unfold TyV at h ⊢
    rcases h with ⟨l, a, b⟩ | ⟨l, a⟩
    · exact .inl ⟨l, k.get a (by simp), b⟩
    · exact .inr ⟨l, k.get a (by simp)⟩
  | .kl _, h => by unfold TyV at h; exact h.elim
  | .int _, _ => by unfold TyV; trivial
  | .bl _, _ => by unfold TyV; trivial
  | .non, _ => by unfold TyV; trivial
theorem TyVs.kp {m m' : Mem} (k : Kp [] m m') : ∀ (l : List MV), TyVs m l → TyVs m' l
  | [], _ => by unfold TyVs; trivial
  | d :: r, h => by unfold TyVs at h ⊢; exact ⟨TyV.kp k d h.1, TyVs.kp k r h.2⟩
end
/-! ### the small looks -/
def isInt (v : MV) : Bool := match v with
  | .int _ => true
  | _ => false
theorem kit_ib : ∀ t ∈ ["NoneType", "bool", "int", "str", "tuple", "list", "dict"], kitB t "int" = some (decide (t = "int") || decide (t = "bool")) ∧ kitB t "bool" = some (decide (t = "bool")) ∧ kitB t "list" = some (decide (t = "list")) := by decide +kernel
theorem isint_ok {k : Nat} {m : Mem} {v : MV} (h : Typed m v) : MI.W (Tab (k + 1) .is_integer [v] m) (fun d m' => d = .bl (isInt v) ∧ m' = m) E0 := by
  show MI.W (f_is_integer (Tab k) [v] m) _ _
  unfold f_is_integer b_is_integer
  obtain ⟨t, h1, h2⟩ := h
  obtain ⟨k1, k2, _⟩ := kit_ib t h2
  have key : (decide (t = "int") || decide (t = "bool")) = true → (!decide (t = "bool")) = isInt v := by
    intro hh
    cases v with
    | int i => cases h1; rfl
    | bl b => cases h1; rfl
    | non => cases h1; cases hh
    | str s => cases h1; cases hh
    | tup l => cases h1; cases hh
    | kl l => cases h1
    | ref n =>
      have h : tyO m[n]? = some t := h1
      cases q : m[n]? with
      | none => rw [q] at h; cases h
      | some o => rw [q] at h; cases o <;> cases h <;> cases hh
  have key2 : (decide (t = "int") || decide (t = "bool")) = false → isInt v = false := by
    intro hh
    cases v with
    | int i => cases h1; cases hh
    | _ => rfl
  simp only [startM, W_end, W_ret, W_and, W_isi, W_vr, W_not]
  simp [h1, k1, k2]
  cases e : (decide (t = "int") || decide (t = "bool")) with
  | true => simp [← key e]
  | false => simp [key2 e]
theorem num_ok {k : Nat} {m : Mem} {v : MV} {i : Int} (many : Nat) (h : Typed m v) (hi : i = (many : Int) := by rfl) : MI.W (Tab (k + 2) .u_is_number [v, .int i] m) (fun d m' => d = .bl (numB v many) ∧ m' = m) E0 := by
  subst hi
  show MI.W (f_u_is_number (Tab (k + 1)) [v, .int many] m) _ _
  unfold f_u_is_number b_u_is_number
  simp [startM]
  refine (isint_ok (k := k) h).mono ?_
  rintro d m' ⟨rfl, rfl⟩
  cases v with
  | int i =>
    simp [isInt, numB]
    by_cases h0 : 0 ≤ i
    · simp [h0]
    · simp [h0]
  | _ => simp [isInt, numB]
theorem ist_ok {k : Nat} {m : Mem} {v : MV} {i : Int} (n : Nat) (h : Typed m v) (hi : i = (n : Int) := by rfl) : MI.W (Tab (k + 1) .u_is_tuple_of [v, .int i] m) (fun d m' => d = .bl (isT v n) ∧ m' = m) E0 := by
  subst hi
  show MI.W (f_u_is_tuple_of (Tab k) [v, .int n] m) _ _
  unfold f_u_is_tuple_of b_u_is_tuple_of
  have e := isi_tup h
  by_cases c : isTup v = true
  · cases v with
    | tup l => simp [startM, kit_tt, isT]; omega
    | _ => cases c
  · rw [show isTup v = false by simpa using c] at e
    simp [startM, e]
    cases v with
    | tup s => exact absurd rfl c
    | _ => rfl
/-- what stands at the room -/
structure RoomAt (R : Rm) (r : Nat) (m : Mem) : Prop where
  ex : ∃ sl, m[r]? = some (.own "Room" [("parameters", .int R.params), ("states", .ref sl), ("places", .int R.places)]) ∧ m[sl]? = some (.lst (R.states.map fun (n : Nat) => .int n))
theorem RoomAt.kp {R : Rm} {r : Nat} {m m' : Mem} (h : RoomAt R r m) (k : Kp [] m m') : RoomAt R r m' :=
  let ⟨sl, a, b⟩ := h.ex; ⟨sl, k.get a (by simp), k.get b (by simp)⟩
theorem RoomAt.par {R : Rm} {r : Nat} {m : Mem} (h : RoomAt R r m) {Q : MV → Mem → Prop} {E : Exn → Mem → Prop} (q : Q (.int R.params) m) : MI.W (gFld pf_parameters "parameters" (.ref r) m) Q E := by
  obtain ⟨sl, a, b⟩ := h.ex
  exact W_gFld a rfl rfl q
theorem RoomAt.pla {R : Rm} {r : Nat} {m : Mem} (h : RoomAt R r m) {Q : MV → Mem → Prop} {E : Exn → Mem → Prop} (q : Q (.int R.places) m) : MI.W (gFld pf_places "places" (.ref r) m) Q E := by
  obtain ⟨sl, a, b⟩ := h.ex
  exact W_gFld a rfl rfl q
def hapM (hap : List Bool) : MV := .tup (hap.map .bl)
theorem hap_at {hap : List Bool} {i : Int} (h0 : 0 ≤ i) (h1 : i < hap.length) : atM (hap.map MV.bl) i = some (.bl (hap.getD i.toNat false)) := by
  have h2 : i.toNat < hap.length := by omega
  unfold atM ixN
  rw [if_pos h0, List.length_map, if_pos h1]
  simp [h2]
end K57
namespace K57
open PySem L2 MI
theorem len2 {r : List MV} (h : r.length = 2) : ∃ y z, r = [y, z] := by
  match r, h with
  | [x, y], _ => exact ⟨x, y, rfl⟩
theorem len1 {r : List MV} (h : r.length = 1) : ∃ y, r = [y] := by
  match r, h with
  | [x], _ => exact ⟨x, rfl⟩
theorem len3 {r : List MV} (h : r.length = 3) : ∃ x y z, r = [x, y, z] := by
  match r, h with
  | [x, y, z], _ => exact ⟨x, y, z, rfl⟩
theorem isT_no {l : List MV} {n : Nat} (h : ¬ l.length = n) : isT (.tup l) n = false := by unfold isT; simpa using h
theorem isT_yes {l : List MV} {n : Nat} (h : l.length = n) : isT (.tup l) n = true := by unfold isT; simpa using h
theorem isT_off {v : MV} {n : Nat} (h : isTup v = false) : isT v n = false := by
  cases v <;> first | rfl | cases h
theorem objB_no {R : Rm} {hap : List Bool} {v : MV} (h : isT v 2 = false) : objB R hap v = some false := by
  unfold objB
  split
  · rename_i w n
    simp [isT] at h
  · rfl
theorem W_eq_ns {m : Mem} {s : Str} {neg : Bool} {Q : MV → Mem → Prop} {E : Exn → Mem → Prop} : MI.W (gEqA neg .non (.str s) m) Q E = Q (.bl neg) m := by
  unfold gEqA
  cases neg <;> rfl
theorem obj_ok {k : Nat} {R : Rm} {r : Nat} {m : Mem} {v : MV} {hap : List Bool} {b : Bool} (RA : RoomAt R r m) (tv : TyV m v) (h : objB R hap v = some b) :
    MI.W (Tab (k + 3) .u_is_object [v, .ref r, hapM hap] m) (fun d m' => d = .bl b ∧ m' = m) E0 := by
  show MI.W (f_u_is_object (Tab (k + 2)) [v, .ref r, hapM hap] m) _ _
  unfold f_u_is_object b_u_is_object
  simp [startM]
  refine (ist_ok (k := k + 1) 2 tv.typed).mono ?_
  rintro d m' ⟨rfl, rfl⟩
  cases h2 : isT v 2 with
  | false =>
    rw [objB_no h2] at h
    cases h
    simp
  | true =>
    obtain ⟨w, n, rfl⟩ : ∃ w n, v = .tup [w, n] := by
      cases v with
      | tup l => obtain ⟨w, n, e⟩ := len2 (r := l) (by simpa [isT] using h2); exact ⟨w, n, by rw [e]⟩
      | _ => cases h2
    have tn := (tv.items.1 n (by simp)).typed
    simp [W_asgT, nCons, nName, nNil]
    cases w with
    | str s =>
      simp [objB] at h
      by_cases s1 : s = "place"
      · subst s1
        simp at h ⊢
        refine RA.pla ?_
        refine (num_ok (k := k) R.places tn).mono ?_
        rintro d m'' ⟨rfl, rfl⟩
        simp [h]
      · by_cases s2 : s = "parameter"
        · subst s2
          simp [s1] at h ⊢
          refine RA.par ?_
          refine (num_ok (k := k) R.params tn).mono ?_
          rintro d m'' ⟨rfl, rfl⟩
          simp [h]
        · by_cases s3 : s = "event"
          · subst s3
            simp [s1, s2] at h ⊢
            simp [hapM]
            refine (num_ok (k := k) hap.length tn).mono ?_
            rintro d m'' ⟨rfl, rfl⟩
            cases e : numB n hap.length with
            | false =>
              simp [e] at h
              simp [h]
            | true =>
              simp [e] at h
              cases n with
              | int i =>
                simp [numB] at e
                simp [hap_at e.1 e.2, ← h, hapB]
              | _ => cases e
          · simp [s1, s2, s3] at h ⊢
            exact h
    | non =>
      simp [objB] at h
      simp [W_eq_ns, h]
    | _ => simp [objB] at h
theorem W_in_flat {d : MV} {l : List Str} {m : Mem} {Q : MV → Mem → Prop} {E : Exn → Mem → Prop} (hd : d = .non ∨ ∃ i, d = .int i) : MI.W (gInB false d (.tup (l.map .str)) m) Q E = Q (.bl false) m := by
  have hf : flat d = true := by rcases hd with rfl | ⟨i, rfl⟩ <;> rfl
  have al : (l.map MV.str).all flat = true := by simp [flat]
  have e : (l.map MV.str).map toV = l.map V.str := by rw [List.map_map]; rfl
  have z : inV (toV d) ((l.map MV.str).map toV) = false := by
    rw [e]
    unfold inV
    rw [List.any_map, List.any_eq_false]
    intro s _
    rcases hd with rfl | ⟨i, rfl⟩ <;> exact Bool.false_ne_true
  have g : gInB false d (.tup (l.map .str)) m = Re.ok (MV.bl (inV (toV d) ((l.map MV.str).map toV))) m := by
    unfold gInB
    rw [if_neg (fun h => by rw [hf] at h; cases h.2)]
    unfold gInA
    rw [if_neg (by rintro ⟨z, h⟩; cases h), if_neg (by simp), if_pos ⟨_, rfl, hf, al⟩]
    unfold gInF
    show (if flat d = true ∧ (l.map MV.str).all flat = true then Re.ok (MV.bl (if false = true then !inV (toV d) ((l.map MV.str).map toV) else inV (toV d) ((l.map MV.str).map toV))) m else .stuck) = _
    rw [if_pos ⟨hf, al⟩]
    rfl
  rw [g, z]; rfl
theorem op_ok {k : Nat} {R : Rm} {r : Nat} {m : Mem} {v : MV} {hap : List Bool} {b : Bool} (RA : RoomAt R r m) (tv : TyV m v) (h : opB R hap v = some b) :
    MI.W (Tab (k + 4) .u_is_operand [v, .ref r, hapM hap] m) (fun d m' => d = .bl b ∧ m' = m) E0 := by
  show MI.W (f_u_is_operand (Tab (k + 3)) [v, .ref r, hapM hap] m) _ _
  unfold f_u_is_operand b_u_is_operand
  simp [startM]
  refine (ist_ok (k := k + 2) 1 tv.typed).mono ?_
  rintro d m' ⟨rfl, rfl⟩
  have go : ∀ (e : opB R hap v = objB R hap v), MI.W (Tab (k + 3) .u_is_object [v, .ref r, hapM hap] m') (fun d m'' => d = .bl b ∧ m'' = m') E0 := fun e => obj_ok (k := k) RA tv (by rw [← e]; exact h)
  cases h2 : isT v 1 with
  | false =>
    simp
    refine go ?_
    unfold opB
    split
    · simp [isT] at h2
    · rfl
  | true =>
    obtain ⟨x, rfl⟩ : ∃ x, v = .tup [x] := by
      cases v with
      | tup l => obtain ⟨w, e⟩ := len1 (r := l) (by simpa [isT] using h2); exact ⟨w, by rw [e]⟩
      | _ => cases h2
    cases x with
    | str s =>
      simp [opB] at h
      have key : ∀ (m : Mem) (Q : MV → Mem → Prop) (E : Exn → Mem → Prop), MI.W (gInA false (.str s) c_CONSTANTS m) Q E = Q (.bl (decide (s ∈ consts))) m := fun m Q E => W_in_strs (l := consts) (neg := false)
      simp
      erw [key]
      simp [← h]
    | non =>
      simp [opB] at h
      have key : ∀ (m : Mem) (Q : MV → Mem → Prop) (E : Exn → Mem → Prop), MI.W (gInB false .non c_CONSTANTS m) Q E = Q (.bl false) m := fun m Q E => W_in_flat (l := consts) (.inl rfl)
      simp
      erw [key]
      simp [h]
    | _ => simp [opB] at h
end K57
namespace K57
open PySem L2 MI
theorem any_strs {l : List PyData} : ∀ ss : List Str, (pds (ss.map .str)).any (fun z => PyData.eqv z (.list l)) = false
  | [] => rfl
  | s :: r => by
    simp only [List.map_cons, pds, List.any_cons, any_strs r, Bool.or_false]
    simp [pd, PyData.eqv]
theorem W_inB_ref {n : Nat} {l : List MV} {ss : List Str} {m : Mem} {Q : MV → Mem → Prop} {E : Exn → Mem → Prop} (hn : m[n]? = some (.lst l)) (hl : Das l) (ds : Da (.tup (ss.map .str))) (q : Q (.bl false) m) : MI.W (gInB false (.ref n) (.tup (ss.map .str)) m) Q E := by
  unfold gInB
  rw [if_pos ⟨⟨_, rfl⟩, rfl⟩]
  unfold gInT
  rw [dat_l hn hl, dat_pu m _ fuel ds.pu (Nat.le_trans ds.fl (by decide))]
  have sh := shaped_pu ds.pu (by have := ds.dp; omega)
  simp only [pd] at sh ⊢
  rw [if_pos ⟨shaped_pus hl.pu (by have := hl.dp; omega), sh⟩]
  show Q (.bl ((pds (ss.map .str)).any fun z => PyData.eqv z (.list (pds l)))) m
  rw [any_strs]
  exact q
theorem sg_ok {m : Mem} {w : MV} {Q : MV → Mem → Prop} {E : Exn → Mem → Prop} (h : WdOk m w) (q : Q (.bl (sgB w)) m) : MI.W (gInB false w c_SIGNS m) Q E := by
  rcases h with ⟨s, rfl⟩ | rfl | ⟨i, rfl⟩ | ⟨n, l, rfl, h1, h2⟩
  · have key : MI.W (gInA false (.str s) c_SIGNS m) Q E = Q (.bl (decide (s ∈ signs))) m := W_in_strs (l := signs) (neg := false)
    rw [gInB_s, key]
    exact q
  · have key : MI.W (gInB false .non c_SIGNS m) Q E = Q (.bl false) m := W_in_flat (l := signs) (.inl rfl)
    rw [key]; exact q
  · have key : MI.W (gInB false (.int i) c_SIGNS m) Q E = Q (.bl false) m := W_in_flat (l := signs) (.inr ⟨i, rfl⟩)
    rw [key]; exact q
  · exact W_inB_ref (ss := signs) h1 h2 ⟨by decide +kernel, by decide +kernel, by decide +kernel⟩ q
theorem allO_some {f : MV → Option Bool} : ∀ {l : List MV} {b : Bool}, allO f l = some b → (∀ d ∈ l, ∃ c, f d = some c) ∧ b = l.all fun d => (f d).getD false
  | [], b, h => by cases h; exact ⟨by simp, rfl⟩
  | x :: r, b, h => by
    unfold allO at h
    split at h
    · rename_i a c e1 e2
      cases h
      obtain ⟨h1, h2⟩ := allO_some e2
      refine ⟨fun d hd => ?_, ?_⟩
      · rcases List.mem_cons.mp hd with rfl | hd
        · exact ⟨a, e1⟩
        · exact h1 d hd
      · rw [List.all_cons, e1, ← h2]; rfl
    · cases h
theorem ops_ok {k : Nat} {R : Rm} {r : Nat} {m : Mem} {w vals : MV} {hap : List Bool} {b : Bool} (RA : RoomAt R r m) (tw : TyV m w) (wd : WdOk m w) (tv : TyV m vals) (h : opsB R hap w vals = some b) :
    MI.W (Tab (k + 5) .u_are_operands [w, vals, .ref r, hapM hap] m) (fun d m' => d = .bl b ∧ Kp [] m m') E0 := by
  show MI.W (f_u_are_operands (Tab (k + 4)) [w, vals, .ref r, hapM hap] m) _ _
  unfold f_u_are_operands b_u_are_operands
  have e := isi_tup tv.typed
  cases c : isTup vals with
  | false =>
    rw [c] at e
    simp [startM, e]
    refine ⟨?_, Kp.refl⟩
    cases vals with
    | tup l => cases c
    | _ => simp [opsB] at h; exact h
  | true =>
    obtain ⟨l, rfl⟩ : ∃ l, vals = .tup l := by
      cases vals with
      | tup l => exact ⟨l, rfl⟩
      | _ => cases c
    obtain ⟨h1, h2⟩ := tv.items
    have h : (match allO (opB R hap) l with
      | some true => if nameB w = true then some (decide (l.length ≤ 3)) else some (sgB w && decide (l.length = 2))
      | r => r) = some b := h
    simp [startM, kit_tt]
    obtain ⟨c, hc⟩ : ∃ c, allO (opB R hap) l = some c := by
      cases e1 : allO (opB R hap) l with
      | none => rw [e1] at h; cases h
      | some c => exact ⟨c, rfl⟩
    obtain ⟨q1, q2⟩ := allO_some hc
    refine W_pure (fun d => .bl ((opB R hap d).getD false)) (fun _ => true) trivial (fun d hd => ⟨rfl, fun _ => ?_⟩) (by omega) ?_
    · obtain ⟨cd, hcd⟩ := q1 d hd
      refine W_eq ?_
      simp [wipeM, hcd]
      exact op_ok (k := k) RA (h1 d hd) hcd
    · rw [filter_all, W_all (bs := l.map fun d => (opB R hap d).getD false) (by rw [List.map_map]; exact List.getElem?_concat_length)]
      have e3 : (l.map fun d => (opB R hap d).getD false).all id = c := by rw [List.all_map, q2]; rfl
      rw [e3]
      rw [hc] at h
      cases c with
      | false => simp at h ⊢; exact ⟨h, Kp.push⟩
      | true =>
        simp at h ⊢
        refine (isnameV_ok (k := k + 3) (TyV.kp Kp.push _ tw).typed tw.str).mono ?_
        rintro d m2 ⟨rfl, k2⟩
        cases hn : nameB w with
        | true =>
          simp [hn] at h ⊢
          exact ⟨by rw [← h, Bool.eq_iff_iff]; simp; omega, Kp.push.trans k2⟩
        | false =>
          simp [hn] at h ⊢
          refine sg_ok (wd.kp (Kp.push.trans k2)) ?_
          cases hs : sgB w with
          | false => simp [hs] at h ⊢; exact ⟨h, Kp.push.trans k2⟩
          | true =>
            simp [hs] at h ⊢
            exact ⟨by rw [← h, Bool.eq_iff_iff]; simp; omega, Kp.push.trans k2⟩
theorem out_ok {k : Nat} {R : Rm} {r : Nat} {m : Mem} {w v : MV} {hap : List Bool} {b : Bool} (RA : RoomAt R r m) (tv : TyV m v) (h : outB R hap (.tup [w, v]) = some b) :
    MI.W (Tab (k + 5) .u_is_outcome [.tup [w, v], .ref r, hapM hap] m) (fun d m' => d = .bl b ∧ m' = m) E0 := by
  show MI.W (f_u_is_outcome (Tab (k + 4)) [.tup [w, v], .ref r, hapM hap] m) _ _
  unfold f_u_is_outcome b_u_is_outcome
  simp [startM, W_asgT, nCons, nName, nNil]
  unfold outB at h
  cases w with
  | str s =>
    simp at h
    by_cases s1 : s = "failed"
    · subst s1
      simp at h ⊢
      simp [hapM]
      refine (num_ok (k := k + 2) hap.length tv.typed).mono ?_
      rintro d m' ⟨rfl, rfl⟩
      cases e : numB v hap.length with
      | false => simp [e] at h ⊢; exact h
      | true =>
        simp [e] at h
        cases v with
        | int i =>
          simp [numB] at e
          simp [hap_at e.1 e.2, ← h, hapB]
        | _ => cases e
    · by_cases s2 : s = "value"
      · subst s2
        simp [s1] at h ⊢
        exact op_ok (k := k) RA tv h
      · simp [s1, s2] at h ⊢
        exact h
  | non => simp at h; simp [W_eq_ns, h]
  | _ => simp at h
end K57
namespace K57
open PySem L2 MI
/-- how a look at a part of a machine ends -/
abbrev QOk (b : Bool) (m : Mem) : MV → Mem → Prop := fun v m' => v = .non ∧ b = true ∧ Kp [] m m'
abbrev QEx (b : Bool) (m : Mem) : Exn → Mem → Prop := fun x m' => x = ⟨"InvalidMachine"⟩ ∧ b = false ∧ Kp [] m m'
theorem nat_at {l : List Nat} {i : Int} (h0 : 0 ≤ i) (h1 : i < l.length) : atM (l.map fun (n : Nat) => MV.int n) i = some (.int (l.getD i.toNat 0 : Nat)) := by
  have h2 : i.toNat < l.length := by omega
  unfold atM ixN
  rw [if_pos h0, List.length_map, if_pos h1]
  simp [h2]
theorem end_ok {k : Nat} {R : Rm} {r : Nat} {m : Mem} {e o fo h : MV} {hap : List Bool} {b : Bool} (RA : RoomAt R r m) (to : TyV m o) (tf : TyV m fo) (th : TyV m h) (hb : endB R hap o fo h = some b) :
    MI.W (Tab (k + 6) .u_check_end [.tup [e, o, fo, h], .ref r, hapM hap] m) (QOk b m) (QEx b m) := by
  show MI.W (f_u_check_end (Tab (k + 5)) [.tup [e, o, fo, h], .ref r, hapM hap] m) _ _
  unfold f_u_check_end b_u_check_end
  simp [startM, W_asgT, nCons, nName, nNil]
  refine (ist_ok (k := k + 4) 2 to.typed).mono ?_
  rintro d m' ⟨rfl, rfl⟩
  unfold endB at hb
  cases h2 : isT o 2 with
  | false =>
    have e1 : outB R hap o = some false := by
      unfold outB
      split
      · simp [isT] at h2
      · rfl
    rw [e1] at hb
    cases hb
    simp
    exact ⟨rfl, rfl, Kp.refl⟩
  | true =>
    obtain ⟨w, n, rfl⟩ : ∃ w n, o = .tup [w, n] := by
      cases o with
      | tup l => obtain ⟨w, n, e⟩ := len2 (r := l) (by simpa [isT] using h2); exact ⟨w, n, by rw [e]⟩
      | _ => cases h2
    have tn := to.items.1 n (by simp)
    obtain ⟨c, hc⟩ : ∃ c, outB R hap (.tup [w, n]) = some c := by
      cases e1 : outB R hap (.tup [w, n]) with
      | none => rw [e1] at hb; cases hb
      | some c => exact ⟨c, rfl⟩
    rw [hc] at hb
    simp
    refine (out_ok (k := k) RA tn hc).mono ?_
    rintro d m'' ⟨rfl, rfl⟩
    cases c with
    | false =>
      cases hb
      simp
      exact ⟨rfl, rfl, Kp.refl⟩
    | true =>
      simp at hb ⊢
      obtain ⟨sl, a1, a2⟩ := RA.ex
      refine W_gFld a1 rfl rfl ?_
      simp [a2]
      refine (num_ok (k := k + 3) R.states.length tf.typed).mono ?_
      rintro d m1 ⟨rfl, rfl⟩
      cases hn : numB fo R.states.length with
      | false =>
        simp [hn] at hb ⊢
        exact ⟨rfl, hb, Kp.refl⟩
      | true =>
        simp [hn] at hb ⊢
        cases fo with
        | int i =>
          simp [numB] at hn
          refine W_gFld a1 rfl rfl ?_
          simp [a2, nat_at hn.1 hn.2]
          refine (ist_ok (k := k + 4) (R.states.getD i.toNat 0) th.typed (by simp)).mono ?_
          rintro d m2 ⟨rfl, rfl⟩
          cases ht : isT h (R.states.getD i.toNat 0) with
          | false =>
            simp
            refine ⟨rfl, ?_, Kp.refl⟩
            cases h with
            | tup l =>
              simp [isT] at ht
              simp [ht] at hb
              exact hb
            | _ => simp at hb; exact hb
          | true =>
            cases h with
            | tup l =>
              simp [isT] at ht
              simp [ht] at hb
              obtain ⟨q1, q2⟩ := allO_some hb
              obtain ⟨i1, i2⟩ := th.items
              simp
              refine W_pure (fun d => .bl ((objB R hap d).getD false)) (fun _ => true) trivial (fun d hd => ⟨rfl, fun _ => ?_⟩) (by omega) ?_
              · obtain ⟨cd, hcd⟩ := q1 d hd
                refine W_eq ?_
                simp [wipeM, hcd]
                exact obj_ok (k := k + 2) RA (i1 d hd) hcd
              · rw [filter_all, W_all (bs := l.map fun d => (objB R hap d).getD false) (by rw [List.map_map]; exact List.getElem?_concat_length)]
                have e3 : (l.map fun d => (objB R hap d).getD false).all id = b := by rw [List.all_map, q2]; rfl
                rw [e3]
                cases b with
                | true => simp; exact ⟨rfl, rfl, Kp.push⟩
                | false => simp; exact ⟨rfl, rfl, Kp.push⟩
            | _ => cases ht
        | _ => cases hn
end K57
namespace K57
open PySem L2 MI
theorem qex {b : Bool} {m m' : Mem} (h : b = false) (k : Kp [] m m') : QEx b m ⟨"InvalidMachine"⟩ m' := ⟨rfl, h, k⟩
theorem andO_some {a b : Option Bool} {c : Bool} (h : andO a b = some c) : (a = some false ∧ c = false) ∨ (a = some true ∧ b = some c) := by
  unfold andO at h
  cases a with
  | none => cases h
  | some x =>
    cases x with
    | false => cases h; exact .inl ⟨rfl, rfl⟩
    | true => exact .inr ⟨rfl, h⟩
theorem hap_snoc {hap : List Bool} {b : Bool} : MV.tup (hap.map MV.bl ++ [.bl b]) = hapM (hap ++ [b]) := by simp [hapM]
/-- a run whose end is that of a look, behind others that went well -/
theorem look {b : Bool} {m m1 : Mem} {r : Re MV} (k : Kp [] m m1) (h : MI.W r (QOk b m1) (QEx b m1)) {Q : MV → Mem → Prop} {E : Exn → Mem → Prop} (q : ∀ v m', b = true → Kp [] m m' → Q v m') (e : ∀ m', b = false → Kp [] m m' → E ⟨"InvalidMachine"⟩ m') : MI.W r Q E := by
  cases r with
  | ok v m' => exact q v m' h.2.1 (k.trans h.2.2)
  | ex x m' => obtain ⟨rfl, h2, h3⟩ := h; exact e m' h2 (k.trans h3)
  | stuck => exact h
theorem tree_ok {R : Rm} {r : Nat} : ∀ (f k : Nat) (hap : List Bool) (lv : Nat) (t : MV) (b : Bool) (m : Mem), treeB R f hap lv t = some b → RoomAt R r m → TyV m t → hap.length ≤ 6 →
    MI.W (Tab (k + 7 + f) .u_check_tree [t, .ref r, hapM hap, .int lv] m) (QOk b m) (QEx b m)
  | 0, k, hap, lv, t, b, m, h, _, _, _ => by cases h
  | f + 1, k, hap, lv, t, b, m, h, RA, tt, hl => by
    have ih := fun hap lv t b m => tree_ok (R := R) (r := r) f k hap lv t b m
    show MI.W (f_u_check_tree (Tab (k + 7 + f)) [t, .ref r, hapM hap, .int lv] m) _ _
    obtain ⟨n, hn⟩ : ∃ n, k + 7 + f = n + 6 := ⟨k + 1 + f, by omega⟩
    rw [hn] at ih ⊢
    unfold f_u_check_tree b_u_check_tree
    unfold treeB at h
    by_cases l30 : 30 < lv
    · simp only [l30, if_true] at h
      cases h
      have : (30 : Int) < lv := by omega
      simp [startM, this]
      exact qex rfl Kp.refl
    · simp only [l30, if_false] at h
      have n30 : ¬ (30 : Int) < lv := by omega
      have e := isi_tup tt.typed
      cases c : isTup t with
      | false =>
        rw [c] at e
        simp [startM, n30, e]
        refine qex ?_ Kp.refl
        cases t with
        | tup l => cases c
        | _ => cases h; rfl
      | true =>
        obtain ⟨l, rfl⟩ : ∃ l, t = .tup l := by
          cases t with
          | tup l => exact ⟨l, rfl⟩
          | _ => cases c
        cases l with
        | nil =>
          cases h
          simp [startM, n30, kit_tt]
          exact qex rfl Kp.refl
        | cons w rest =>
          have l0 : ¬ ((rest.length : Int) + 1 = 0) := by omega
          cases w with
          | str w =>
            obtain ⟨i1, i2⟩ := tt.items
            simp only at h
            by_cases w1 : w = "end" ∧ rest.length = 3
            · simp only [w1.1, w1.2, and_self, if_true] at h
              obtain ⟨rfl, l3⟩ := w1
              obtain ⟨o, fo, h0, rfl⟩ := len3 l3
              simp [startM, n30, kit_tt]
              exact look Kp.refl (end_ok (k := n) RA (i1 o (by simp)) (i1 fo (by simp)) (i1 h0 (by simp)) h) (fun v m' q k => ⟨rfl, q, k⟩) (fun m' q k => ⟨rfl, q, k⟩)
            · rw [if_neg w1] at h
              by_cases w2 : w = "test" ∧ rest.length = 2
              · rw [if_pos w2] at h
                obtain ⟨rfl, l3⟩ := w2
                obtain ⟨o, bb, rfl⟩ := len2 l3
                have to := i1 o (by simp)
                have tb := i1 bb (by simp)
                simp [startM, n30, kit_tt, show ¬ (("test" : Str) = "end") by decide]
                rcases andO_some h with ⟨h1, rfl⟩ | ⟨h1, h2⟩
                · refine (obj_ok (k := n + 3) RA to h1).mono ?_
                  rintro d m' ⟨rfl, rfl⟩
                  simp
                  exact qex rfl Kp.refl
                · refine (obj_ok (k := n + 3) RA to h1).mono ?_
                  rintro d m' ⟨rfl, rfl⟩
                  simp
                  refine (ist_ok (k := n + 5) 3 tb.typed).mono ?_
                  rintro d m'' ⟨rfl, rfl⟩
                  cases hT : isT bb 3 with
                  | false =>
                    simp
                    refine qex ?_ Kp.refl
                    split at h2
                    · simp [isT] at hT
                    · cases h2; rfl
                  | true =>
                    obtain ⟨x, y, z, rfl⟩ : ∃ x y z, bb = .tup [x, y, z] := by
                      cases bb with
                      | tup l => obtain ⟨x, y, z, e⟩ := len3 (r := l) (by simpa [isT] using hT); exact ⟨x, y, z, by rw [e]⟩
                      | _ => cases hT
                    obtain ⟨j1, _⟩ := tb.items
                    simp
                    have lv1 : ((lv : Int) + 1) = ((lv + 1 : Nat) : Int) := by omega
                    refine W_lp_cons trivial rfl ?_
                    simp
                    rw [lv1]
                    rcases andO_some h2 with ⟨h3, rfl⟩ | ⟨h3, h4⟩
                    · exact look Kp.refl (ih hap (lv + 1) x _ m'' h3 RA (j1 x (by simp)) hl) (fun v m' q k => by cases q) (fun m' q k => ⟨rfl, q, k⟩)
                    · refine look Kp.refl (ih hap (lv + 1) x _ m'' h3 RA (j1 x (by simp)) hl) (fun v m1 q k1 => ?_) (fun m' q k => by cases q)
                      refine W_lp_cons trivial rfl ?_
                      simp
                      rw [lv1]
                      rcases andO_some h4 with ⟨h5, rfl⟩ | ⟨h5, h6⟩
                      · exact look k1 (ih hap (lv + 1) y _ m1 h5 (RA.kp k1) (TyV.kp k1 _ (j1 y (by simp))) hl) (fun v m' q k => by cases q) (fun m' q k => ⟨rfl, q, k⟩)
                      · refine look k1 (ih hap (lv + 1) y _ m1 h5 (RA.kp k1) (TyV.kp k1 _ (j1 y (by simp))) hl) (fun v m2 q k2 => ?_) (fun m' q k => by cases q)
                        refine W_lp_cons trivial rfl ?_
                        simp
                        rw [lv1]
                        refine look k2 (ih hap (lv + 1) z _ m2 h6 (RA.kp k2) (TyV.kp k2 _ (j1 z (by simp))) hl) (fun v m3 q k3 => ?_) (fun m' q k => ⟨rfl, q, k⟩)
                        exact W_lp_nil trivial ⟨rfl, q, k3⟩
              · rw [if_neg w2] at h
                by_cases w3 : w = "ask" ∧ rest.length = 3
                · rw [if_pos w3] at h
                  obtain ⟨rfl, l3⟩ := w3
                  obtain ⟨w', ops, bb, rfl⟩ := len3 l3
                  have tw := i1 w' (by simp)
                  have to := i1 ops (by simp)
                  have tb := i1 bb (by simp)
                  have wd : WdOk m w' := by unfold TyV at tt; exact tt.2.2 w' ops bb rfl
                  simp only at h
                  simp [startM, n30, kit_tt, W_asgT, nCons, nName, nNil, show ¬ (("ask" : Str) = "end") by decide, show ¬ (("ask" : Str) = "test") by decide]
                  simp [hapM]
                  by_cases h6 : hap.length = 6
                  · rw [if_pos h6] at h
                    cases h
                    simp [h6]
                    exact qex rfl Kp.refl
                  · rw [if_neg h6] at h
                    have h6' : ¬ ((hap.length : Int) = 6) := by omega
                    simp [h6']
                    have key : ∀ (v : Bool), opsB R hap w' ops = some v → MI.W (Tab (n + 6) .u_are_operands [w', ops, .ref r, .tup (hap.map .bl)] m) (fun d m' => d = .bl v ∧ Kp [] m m') E0 := fun v hv => ops_ok (k := n + 1) RA tw wd to hv
                    rcases andO_some h with ⟨h1, rfl⟩ | ⟨h1, h2⟩
                    · refine (key _ h1).mono ?_
                      rintro d m1 ⟨rfl, k1⟩
                      simp
                      exact qex rfl k1
                    · refine (key _ h1).mono ?_
                      rintro d m1 ⟨rfl, k1⟩
                      simp
                      refine (ist_ok (k := n + 5) 2 (TyV.kp k1 _ tb).typed).mono ?_
                      rintro d m'' ⟨rfl, rfl⟩
                      cases hT : isT bb 2 with
                      | false =>
                        simp
                        refine qex ?_ k1
                        split at h2
                        · simp [isT] at hT
                        · cases h2; rfl
                      | true =>
                        obtain ⟨x, y, rfl⟩ : ∃ x y, bb = .tup [x, y] := by
                          cases bb with
                          | tup l => obtain ⟨x, y, e⟩ := len2 (r := l) (by simpa [isT] using hT); exact ⟨x, y, by rw [e]⟩
                          | _ => cases hT
                        obtain ⟨j1, _⟩ := tb.items
                        simp
                        have lv1 : ((lv : Int) + 1) = ((lv + 1 : Nat) : Int) := by omega
                        have hl1 : ∀ b : Bool, (hap ++ [b]).length ≤ 6 := fun b => by simp; omega
                        refine ⟨szl (by omega), ?_⟩
                        rw [lv1, hap_snoc]
                        rcases andO_some h2 with ⟨h3, rfl⟩ | ⟨h3, h4⟩
                        · exact look k1 (ih (hap ++ [false]) (lv + 1) x _ m'' h3 (RA.kp k1) (TyV.kp k1 _ (j1 x (by simp))) (hl1 _)) (fun v m' q k => by cases q) (fun m' q k => ⟨rfl, q, k⟩)
                        · refine look k1 (ih (hap ++ [false]) (lv + 1) x _ m'' h3 (RA.kp k1) (TyV.kp k1 _ (j1 x (by simp))) (hl1 _)) (fun v m2 q k2 => ?_) (fun m' q k => by cases q)
                          simp
                          refine ⟨szl (by omega), ?_⟩
                          rw [lv1, hap_snoc]
                          exact look k2 (ih (hap ++ [true]) (lv + 1) y _ m2 h4 (RA.kp k2) (TyV.kp k2 _ (j1 y (by simp))) (hl1 _)) (fun v m' q k => ⟨rfl, q, k⟩) (fun m' q k => ⟨rfl, q, k⟩)
                · rw [if_neg w3] at h
                  cases h
                  have s1 : w = "end" → ¬ ((rest.length : Int) + 1 = 4) := fun e z => w1 ⟨e, by omega⟩
                  have s2 : w = "test" → ¬ ((rest.length : Int) + 1 = 3) := fun e z => w2 ⟨e, by omega⟩
                  have s3 : w = "ask" → ¬ ((rest.length : Int) + 1 = 4) := fun e z => w3 ⟨e, by omega⟩
                  by_cases c1 : w = "end"
                  · subst c1
                    simp [startM, n30, kit_tt, l0, s1 rfl, show ¬ (("end" : Str) = "test") by decide, show ¬ (("end" : Str) = "ask") by decide]
                    exact qex rfl Kp.refl
                  · by_cases c2 : w = "test"
                    · subst c2
                      simp [startM, n30, kit_tt, l0, s2 rfl, show ¬ (("test" : Str) = "end") by decide, show ¬ (("test" : Str) = "ask") by decide]
                      exact qex rfl Kp.refl
                    · by_cases c3 : w = "ask"
                      · subst c3
                        simp [startM, n30, kit_tt, l0, s3 rfl, show ¬ (("ask" : Str) = "end") by decide, show ¬ (("ask" : Str) = "test") by decide]
                        exact qex rfl Kp.refl
                      · simp [startM, n30, kit_tt, l0, c1, c2, c3]
                        exact qex rfl Kp.refl
          | _ => simp at h
end K57
namespace K57
open PySem L2 MI
/-! ### check_machine -/
theorem strOk_name {y : Str} (h : nameB (.str y) = true) : PyData.strOk y = true := by
  have h : IsName y := by simpa [nameB] using h
  unfold PyData.strOk
  rw [← Array.all_toList, List.all_eq_true]
  intro c hc
  have := h.2.2.1 c hc
  simp
  omega
def notin (y : Str) (a : MV) : Bool := match a with
  | .str x => !decide (y = x)
  | _ => true
theorem nin_ok {m : Mem} {y : Str} {a : MV} (hy : nameB (.str y) = true) (wd : WdOk m a) : gInC true (.str y) (.tup [a]) m = .ok (.bl (notin y a)) m := by
  rcases wd with ⟨x, rfl⟩ | rfl | ⟨i, rfl⟩ | ⟨n, l, rfl, h1, h2⟩
  · rw [gInC_flat rfl rfl]
    have e : inV (toV (.str y)) ([MV.str x].map toV) = decide (y = x) := by
      show inV (V.str y) [V.str x] = _
      rw [show [V.str x] = [x].map V.str from rfl, inV_str]
      simp
    rw [e]
    rfl
  · rw [gInC_flat rfl rfl]; rfl
  · rw [gInC_flat rfl rfl]; rfl
  · exact gInC_ref (strOk_name hy) h1 h2
noncomputable def parLc (ck : Fnm → MF) : ME := (mLc (mEnum (mCons (mVar 1) mNil)) (ngTup 2 (ngCons (ngName 8) (ngCons (ngName 9) ngNil))) mYes (mAnd (mCall (ck .is_name) (mCons (mVar 9) mNil)) (mBin (gInC true) (mVar 9) (mSl (mVar 1) mNo (mEnd (mVar 8))))) [9, 8])
structure AllAt (b : Bool) (m : Mem) (v : MV) (m' : Mem) : Prop where
  ex : ∃ (n : Nat) (bs : List Bool), v = .ref n ∧ m'[n]? = some (.lst (bs.map .bl)) ∧ bs.all id = b
  kp : Kp [] m m'
theorem AllAt.mk' {bs : List Bool} {b : Bool} {m m' : Mem} {l : List MV} (k : Kp [] m m') (h : l = bs.map .bl) (e : bs.all id = b) : AllAt b m (.ref m'.length) (m' ++ [.lst l]) :=
  ⟨⟨_, bs, rfl, by subst h; exact List.getElem?_concat_length, e⟩, k.trans Kp.push⟩
theorem par_ok {k : Nat} {m : Mem} {p : List MV} {b : Bool} {e0 e2 e3 e4 e5 e6 e7 e8 e9 e10 : Option MV} (tp : ∀ d ∈ p, TyV m d) (hl : p.length ≤ 2) (wd : ∀ a c, p = [a, c] → WdOk m a) (h : parB p = some b) :
    MI.W (parLc (Tab (k + 1)) [e0, some (.tup p), e2, e3, e4, e5, e6, e7, e8, e9, e10] m) (AllAt b m) E0 := by
  have s0 : 0 < sizeLine := Nat.lt_of_lt_of_le (by decide : 0 < 1000) (szl (Nat.le_refl _))
  have s1 : 1 < sizeLine := Nat.lt_of_lt_of_le (by decide : 1 < 1000) (szl (Nat.le_refl _))
  unfold parLc
  simp [wipeM]
  match p, hl, wd, h, tp with
  | [], _, _, h, tp =>
    cases h
    exact W_lc_nil trivial (AllAt.mk' (bs := []) Kp.refl rfl rfl)
  | [a], _, _, h, tp =>
    cases h
    have ta := tp a (by simp)
    refine W_lc_cons (as := [(8, .int 0), (9, a)]) trivial rfl ?_
    simp [setE, mYes]
    refine (isnameV_ok (k := k) ta.typed ta.str).mono ?_
    rintro d m1 ⟨rfl, k1⟩
    cases hn : nameB a with
    | false =>
      simp
      exact ⟨s0, W_lc_nil trivial (AllAt.mk' (bs := [false]) k1 rfl rfl)⟩
    | true =>
      cases a with
      | str x =>
        simp
        rw [show cutM [MV.str x] none (some 0) = [] from rfl, gInC_flat rfl rfl]
        simp
        exact ⟨s0, W_lc_nil trivial (AllAt.mk' (bs := [true]) k1 rfl rfl)⟩
      | _ => cases hn
  | [a, c], _, wd, h, tp =>
    have ta := tp a (by simp)
    have tc := tp c (by simp)
    have wa := wd a c rfl
    refine W_lc_cons (as := [(8, .int 0), (9, a)]) trivial rfl ?_
    simp [setE, mYes]
    refine (isnameV_ok (k := k) ta.typed ta.str).mono ?_
    rintro d m1 ⟨rfl, k1⟩
    have second : ∀ b1 : Bool, (nameB a = b1) → MI.W (lcM (fun _ => True) (ngTup 2 (ngCons (ngName 8) (ngCons (ngName 9) ngNil))) mYes (mAnd (mCall (Tab (k + 1) .is_name) (mCons (mVar 9) mNil)) (mBin (gInC true) (mVar 9) (mSl (mVar 1) mNo (mEnd (mVar 8))))) [e0, some (.tup [a, c]), e2, e3, e4, e5, e6, e7, none, none, e10] [.tup [.int 1, c]] [.bl b1] m1) (fun l m' => AllAt b m (.ref m'.length) (m' ++ [.lst l])) E0 := by
      intro b1 hb1
      refine W_lc_cons (as := [(8, .int 1), (9, c)]) trivial rfl ?_
      simp [setE, mYes]
      refine (isnameV_ok (k := k) (TyV.kp k1 _ tc).typed tc.str).mono ?_
      rintro d m2 ⟨rfl, k2⟩
      unfold parB at h
      cases hc : nameB c with
      | false =>
        simp [hc] at h
        simp
        exact ⟨s1, W_lc_nil trivial (AllAt.mk' (bs := [b1, false]) (k1.trans k2) rfl (by simp [h]))⟩
      | true =>
        cases c with
        | str y =>
          simp [hc] at h
          simp
          rw [show cutM [a, MV.str y] none (some 1) = [a] from rfl, nin_ok hc (wa.kp (k1.trans k2))]
          simp
          refine ⟨s1, W_lc_nil trivial (AllAt.mk' (bs := [b1, notin y a]) (k1.trans k2) rfl ?_)⟩
          rw [← hb1]
          cases a with
          | str x =>
            simp at h
            rw [← h]
            simp [notin]
            by_cases e : x = y
            · subst e; simp
            · simp [e, Ne.symm e]
          | _ => simp [nameB] at h ⊢; exact h
        | _ => cases hc
    cases hn : nameB a with
    | false =>
      simp
      exact ⟨s0, second false hn⟩
    | true =>
      cases a with
      | str x =>
        simp
        rw [show cutM [MV.str x, c] none (some 0) = [] from rfl, gInC_flat rfl rfl]
        simp
        exact ⟨s0, second true hn⟩
      | _ => cases hn
theorem mst_ok {k : Nat} {m : Mem} {v : MV} (tv : TyV m v) : MI.W (Tab (k + 3) .u_is_machine_state [v] m) (fun d m' => d = .bl (stB v) ∧ m' = m) E0 := by
  show MI.W (f_u_is_machine_state (Tab (k + 2)) [v] m) _ _
  unfold f_u_is_machine_state b_u_is_machine_state
  have e := isi_tup tv.typed
  cases c : isTup v with
  | false =>
    rw [c] at e
    simp [startM, e]
    cases v with
    | tup l => cases c
    | _ => rfl
  | true =>
    obtain ⟨l, rfl⟩ : ∃ l, v = .tup l := by
      cases v with
      | tup l => exact ⟨l, rfl⟩
      | _ => cases c
    by_cases l2 : l.length = 2
    · obtain ⟨n, t, rfl⟩ := len2 l2
      simp [startM, kit_tt]
      refine (num_ok (k := k) 9 (tv.items.1 n (by simp)).typed).mono ?_
      rintro d m' ⟨rfl, rfl⟩
      exact ⟨rfl, rfl⟩
    · have l2' : ¬ ((l.length : Int) = 2) := by omega
      simp [startM, kit_tt, l2']
      unfold stB
      split
      · rename_i h; cases h; simp at l2
      · rfl
end K57
namespace K57
open PySem L2 MI
noncomputable def plcLc : ME := (mLc (mAnyI (mVar 3)) (ngTup 2 (ngCons (ngName 5) (ngCons (ngName 7) ngNil))) mYes (mVar 5) [7, 5])
noncomputable def stBody (ck : Fnm → MF) : MS := (mDrop (mCall (ck .u_check_tree) (mCons (mVar 6) (mCons (mCall (gMake "Room" (ck .i_Room)) (mCons (mCall gLen (mCons (mVar 1) mNil)) (mCons (mVar 4) (mCons (mVar 5) mNil)))) (mCons (mTup mNil) (mCons (mC (.int 1)) mNil))))))
noncomputable def stLoop (ck : Fnm → MF) : MS := (mFor (mAnyI (mVar 3)) (nTup 2 (nCons (nName 5) (nCons (nName 6) nNil))) (stBody ck))
theorem b_cm (ck : Fnm → MF) : b_check_machine ck = (mSeq (mIfS (mOrT (mNotT (mTru (mIsi "tuple" (mVar 0)))) (mB (mBin (gEqA true) (mCall gLen (mCons (mVar 0) mNil)) (mC (.int 3)))))
    (mRaise "InvalidMachine")
    mSkip)
    (mSeq (mAsg (mVar 0) (nTup 3 (nCons (nName 1) (nCons (nName 2) (nCons (nName 3) nNil)))))
    (mSeq (mIfS (mOrT (mNotT (mTru (mIsi "tuple" (mVar 1)))) (mB (mBin gGt (mCall gLen (mCons (mVar 1) mNil)) (mC c_MOST_PARAMETERS))))
    (mRaise "InvalidMachine")
    mSkip)
    (mSeq (mIfS (mNotT (mTru (mCall gAll (mCons (parLc ck) mNil))))
    (mRaise "InvalidMachine")
    mSkip)
    (mSeq (mIfS (mOrT (mNotT (mTru (mIsi "tuple" (mVar 3)))) (mNotT (mB (mChain gLeS gLeS (mC (.int 1)) (mCall gLen (mCons (mVar 3) mNil)) (mC c_MOST_STATES)))))
    (mRaise "InvalidMachine")
    mSkip)
    (mSeq (mIfS (mNotT (mTru (mCall gAll (mCons (mLc (mAnyI (mVar 3)) (ngName 10) mYes (mCall (ck .u_is_machine_state) (mCons (mVar 10) mNil)) [10]) mNil))))
    (mRaise "InvalidMachine")
    mSkip)
    (mSeq (mIfS (mOrT (mNotT (mTru (mCall (ck .u_is_number) (mCons (mVar 2) (mCons (mCall gLen (mCons (mVar 3) mNil)) mNil))))) (mB (mBin (gEqA true) (mBin gItem (mBin gItem (mVar 3) (mVar 2)) (mC (.int 0))) (mC (.int 0)))))
    (mRaise "InvalidMachine")
    mSkip)
    (mSeq (mAsg plcLc (nName 4))
    (stLoop ck))))))))) := rfl
theorem set_end {m : Mem} {x y : MO} : (m ++ [x]).set m.length y = m ++ [y] := by simp
theorem own_end {m : Mem} {c : Str} {l : List (Str × MV)} : ownOf (m ++ [.own c l]) (.ref m.length) = some (m.length, c, l) := ownOf_at (by simp)
theorem room_mk {k : Nat} {m : Mem} {p pl : Int} {sl : Nat} {Q : MV → Mem → Prop} {E : Exn → Mem → Prop} (q : Q (.ref m.length) (m ++ [.own "Room" [("parameters", .int p), ("states", .ref sl), ("places", .int pl)]])) :
    MI.W (gMake "Room" (Tab (k + 1) .i_Room) [.int p, .ref sl, .int pl] m) Q E := by
  have e : Tab (k + 1) .i_Room [.ref m.length, .int p, .ref sl, .int pl] (m ++ [.own "Room" []]) = Re.ok .non (m ++ [.own "Room" [("parameters", .int p), ("states", .ref sl), ("places", .int pl)]]) := W_eq (by
    show MI.W (f_i_Room (Tab k) [.ref m.length, .int p, .ref sl, .int pl] (m ++ [.own "Room" []])) _ _
    unfold f_i_Room b_i_Room
    simp [startM, own_end, set_end, putFM, pf_parameters, pf_states, pf_places, show ¬ (("parameters" : Str) = "states") by decide, show ¬ (("parameters" : Str) = "places") by decide, show ¬ (("states" : Str) = "places") by decide])
  unfold gMake
  rw [e]
  exact q
theorem sts_cast : ∀ {l : List MV}, l.all stB = true → (l.map fun d => match d with | .tup [n, _] => n | _ => .non) = (statesOf l).map fun (n : Nat) => MV.int n
  | [], _ => rfl
  | d :: r, h => by
    rw [List.all_cons, Bool.and_eq_true] at h
    have ih := sts_cast h.2
    have hd := h.1
    unfold stB at hd
    split at hd
    · rename_i n t
      cases n with
      | int i =>
        simp [numB] at hd
        rw [List.map_cons, ih]
        show MV.int i :: _ = MV.int ((i.toNat : Nat) : Int) :: _
        rw [Int.toNat_of_nonneg hd.1]
      | _ => cases hd
    · cases hd
theorem sts_len : ∀ {l : List MV}, (statesOf l).length = l.length
  | [] => rfl
  | d :: r => by
    unfold statesOf
    split <;> rename_i h
    · cases h
    · cases h; simp [sts_len]
    · cases h; simp [sts_len]
theorem plc_lp {chk : Mem → Prop} {ρ : MI.Env} {m : Mem} {Q : List MV → Mem → Prop} {E : Exn → Mem → Prop} (hc : chk m) (hρ : ρ.length = 11) : ∀ (l acc : List MV), l.all stB = true → acc.length + l.length ≤ 1000 → Q (acc ++ l.map fun d => match d with | .tup [n, _] => n | _ => .non) m →
    MI.W (lcM chk (ngTup 2 (ngCons (ngName 5) (ngCons (ngName 7) ngNil))) mYes (mVar 5) ρ l acc m) Q E
  | [], acc, _, _, q => W_lc_nil hc (by simpa using q)
  | d :: r, acc, h, hl, q => by
    rw [List.all_cons, Bool.and_eq_true] at h
    have hd := h.1
    unfold stB at hd
    split at hd
    · rename_i n t
      refine W_lc_cons (as := [(5, n), (7, t)]) hc rfl ?_
      simp at hl
      have : acc.length < sizeLine := szl (n := 1000) (Nat.le_refl _) |> Nat.lt_of_lt_of_le (by omega)
      simp [mYes, setE, hρ]
      exact ⟨this, plc_lp hc hρ r (acc ++ [n]) h.2 (by simp; omega) (by simpa using q)⟩
    · cases hd
end K57
namespace K57
open PySem L2 MI
theorem atM_nat {l : List MV} {i : Nat} {d : MV} (h : l[i]? = some d) : atM l (i : Int) = some d := by
  have hl : i < l.length := (List.getElem?_eq_some_iff.mp h).1
  unfold atM ixN
  rw [if_pos (by omega), if_pos (by omega)]
  simpa using h
theorem st_get : ∀ (l : List MV) (j : Nat), j < l.length → l.all stB = true → ∃ (n : Int) (t : MV), l[j]? = some (.tup [.int n, t]) ∧ 0 ≤ n ∧ (statesOf l)[j]? = some n.toNat
  | d :: r, j, h, hs => by
    rw [List.all_cons, Bool.and_eq_true] at hs
    have hd := hs.1
    unfold stB at hd
    split at hd
    · rename_i n t
      cases n with
      | int i =>
        simp [numB] at hd
        cases j with
        | zero => exact ⟨i, t, rfl, hd.1, rfl⟩
        | succ j =>
          obtain ⟨n, t', h1, h2, h3⟩ := st_get r j (by simpa using h) hs.2
          exact ⟨n, t', by simpa using h1, h2, by simpa [statesOf] using h3⟩
      | _ => cases hd
    · cases hd
theorem st_lp {f k pl : Nat} {p l : List MV} {b : Bool} {m : Mem} {e0 bg : Option MV} {Q : Fl → Mem → Prop} {E : Exn → Mem → Prop} (yes : ∀ ρ m', b = true → Kp [] m m' → Q (.nx ρ) m') (no : ∀ ρ m', b = false → Kp [] m m' → Q (.ex ⟨"InvalidMachine"⟩ ρ) m') :
    ∀ (rest : List MV) (e5 e6 e7 e8 e9 e10 : Option MV) (m1 : Mem), Kp [] m m1 → m1[pl]? = some (.lst ((statesOf l).map fun (n : Nat) => .int n)) → (∀ d ∈ rest, TyV m1 d) → rest.all stB = true → treesB p.length (statesOf l) f rest = some b →
      MI.W (loopM (fun _ => True) (nTup 2 (nCons (nName 5) (nCons (nName 6) nNil))) (stBody (Tab (k + 7 + f))) rest [e0, some (.tup p), bg, some (.tup l), some (.ref pl), e5, e6, e7, e8, e9, e10] m1) Q E
  | [], _, _, _, _, _, _, m1, k1, _, _, _, h => by
    cases h
    exact W_lp_nil trivial (yes _ _ rfl k1)
  | d :: r, e5, e6, e7, e8, e9, e10, m1, k1, hp, ht, hs, h => by
    rw [List.all_cons, Bool.and_eq_true] at hs
    have hd := hs.1
    unfold stB at hd
    split at hd
    · rename_i n t
      cases n with
      | int i =>
        simp [numB] at hd
        have h : andO (treeB ⟨p.length, statesOf l, i.toNat⟩ f [] 1 t) (treesB p.length (statesOf l) f r) = some b := h
        have tt : TyV m1 t := (ht _ List.mem_cons_self).items.1 t (by simp)
        refine W_lp_cons (ρ1 := [e0, some (.tup p), bg, some (.tup l), some (.ref pl), some (.int i), some t, e7, e8, e9, e10]) trivial rfl ?_
        unfold stBody
        simp
        obtain ⟨n, hn⟩ : ∃ n, k + 7 + f = n + 1 := ⟨k + 6 + f, by omega⟩
        have go : ∀ c : Bool, treeB ⟨p.length, statesOf l, i.toNat⟩ f [] 1 t = some c → MI.W (Tab (k + 7 + f) .u_check_tree [t, .ref m1.length, .tup [], .int 1] (m1 ++ [.own "Room" [("parameters", .int p.length), ("states", .ref pl), ("places", .int i)]])) (QOk c (m1 ++ [.own "Room" [("parameters", .int p.length), ("states", .ref pl), ("places", .int i)]])) (QEx c (m1 ++ [.own "Room" [("parameters", .int p.length), ("states", .ref pl), ("places", .int i)]])) := fun c hc => by
          refine tree_ok (R := ⟨p.length, statesOf l, i.toNat⟩) f k [] 1 t c _ hc ⟨pl, ?_, Kp.get (S := []) Kp.push hp (by simp)⟩ (TyV.kp Kp.push _ tt) (by simp)
          show (m1 ++ [_])[m1.length]? = some (.own "Room" [("parameters", .int p.length), ("states", .ref pl), ("places", .int ((i.toNat : Nat) : Int))])
          rw [Int.toNat_of_nonneg hd.1]
          simp
        revert go
        rw [hn]
        intro go
        refine room_mk ?_
        rcases andO_some h with ⟨h1, rfl⟩ | ⟨h1, h2⟩
        · exact look Kp.push (go _ h1) (fun v m' q k => by cases q) (fun m' q k => no _ _ rfl (k1.trans k))
        · refine look Kp.push (go _ h1) (fun v m' q k2 => ?_) (fun m' q k => by cases q)
          rw [← hn]
          exact st_lp yes no r _ _ _ _ _ _ m' (k1.trans k2) (k2.get hp (by simp)) (fun d hd => TyV.kp k2 _ (ht d (by simp [hd]))) hs.2 h2
      | _ => cases hd
    · cases hd
theorem mach_ok {f k : Nat} {m : Mem} {v : MV} {b : Bool} (tv : TyV m v) (wd : ∀ a c x y, v = .tup [.tup [a, c], x, y] → WdOk m a) (h : machB f v = some b) :
    MI.W (Tab (k + 7 + f + 1) .check_machine [v] m) (QOk b m) (QEx b m) := by
  show MI.W (f_check_machine (Tab (k + 7 + f)) [v] m) _ _
  unfold f_check_machine
  rw [b_cm]
  obtain ⟨n, hn⟩ : ∃ n, k + 7 + f = n + 6 := ⟨k + 1 + f, by omega⟩
  have e := isi_tup tv.typed
  cases c : isTup v with
  | false =>
    rw [c] at e
    simp [startM, e]
    refine qex ?_ Kp.refl
    cases v with
    | tup l => cases c
    | _ => cases h; rfl
  | true =>
    obtain ⟨l0, rfl⟩ : ∃ l, v = .tup l := by
      cases v with
      | tup l => exact ⟨l, rfl⟩
      | _ => cases c
    by_cases l3 : l0.length = 3
    · obtain ⟨ps, bg, sts, rfl⟩ := len3 l3
      obtain ⟨i1, _⟩ := tv.items
      have tps := i1 ps (by simp)
      have tbg := i1 bg (by simp)
      have tst := i1 sts (by simp)
      simp [startM, kit_tt, W_asgT, nCons, nName, nNil]
      have ep := isi_tup tps.typed
      cases cp : isTup ps with
      | false =>
        rw [cp] at ep
        simp [ep]
        refine qex ?_ Kp.refl
        cases ps with
        | tup l => cases cp
        | _ => cases h; rfl
      | true =>
        obtain ⟨p, rfl⟩ : ∃ l, ps = .tup l := by
          cases ps with
          | tup l => exact ⟨l, rfl⟩
          | _ => cases cp
        have h : andO (if p.length ≤ 2 then parB p else some false) (stsB f p.length bg sts) = some b := h
        by_cases p2 : p.length ≤ 2
        · rw [if_pos p2] at h
          have p2' : ¬ (2 : Int) < p.length := by omega
          simp [kit_tt, p2']
          obtain ⟨c, hc⟩ : ∃ c, parB p = some c := by
            cases e1 : parB p with
            | none => rw [e1] at h; cases h
            | some c => exact ⟨c, rfl⟩
          rw [hn]
          refine (par_ok (k := n + 5) (fun d hd => tps.items.1 d hd) p2 (fun a c e => wd a c bg sts (by rw [e])) hc).mono ?_
          rintro d m1 ⟨⟨q, bs, rfl, q1, q2⟩, k1⟩
          rw [W_all q1, q2]
          rw [hc] at h
          cases c with
          | false =>
            cases h
            simp
            exact qex rfl k1
          | true =>
            have h : stsB f p.length bg sts = some b := h
            unfold stsB at h
            simp
            have es := isi_tup (TyV.kp k1 _ tst).typed
            cases cs : isTup sts with
            | false =>
              rw [cs] at es
              simp [es]
              refine qex ?_ k1
              cases sts with
              | tup l => cases cs
              | _ => cases h; rfl
            | true =>
              obtain ⟨l, rfl⟩ : ∃ l, sts = .tup l := by
                cases sts with
                | tup l => exact ⟨l, rfl⟩
                | _ => cases cs
              obtain ⟨j1, j2⟩ := tst.items
              simp only at h
              simp [kit_tt]
              by_cases l1 : 1 ≤ l.length
              · rw [if_pos ⟨l1, by omega⟩] at h
                have l1' : (1 : Int) ≤ l.length := by omega
                have l2' : (l.length : Int) ≤ 2000 := by omega
                simp [l1', l2']
                refine W_pure (fun d => .bl (stB d)) (fun _ => true) trivial (fun d hd => ⟨rfl, fun _ => ?_⟩) (by omega) ?_
                · refine W_eq ?_
                  simp [wipeM]
                  exact mst_ok (k := n + 3) (TyV.kp k1 _ (j1 d hd))
                · rw [filter_all, W_all (bs := l.map stB) (by rw [List.map_map]; exact List.getElem?_concat_length)]
                  have e3 : (l.map stB).all id = l.all stB := by rw [List.all_map]; rfl
                  rw [e3]
                  have k2 : Kp [] m (m1 ++ [.lst (l.map fun d => MV.bl (stB d))]) := k1.trans Kp.push
                  generalize (m1 ++ [MO.lst (l.map fun d => MV.bl (stB d))]) = m2 at k2
                  cases hs : l.all stB with
                  | false =>
                    simp only [hs, Bool.false_eq_true, if_false] at h
                    cases h
                    simp
                    exact qex rfl k2
                  | true =>
                    simp only [hs, if_true] at h
                    simp
                    refine (num_ok (k := n + 4) l.length (TyV.kp k2 _ tbg).typed).mono ?_
                    rintro d m3 ⟨rfl, rfl⟩
                    cases hb : numB bg l.length with
                    | false =>
                      simp only [hb, Bool.false_eq_true, if_false] at h
                      cases h
                      simp
                      exact qex rfl k2
                    | true =>
                      simp only [hb, if_true] at h
                      cases bg with
                      | int i =>
                        simp [numB] at hb
                        obtain ⟨n0, t, a1, a2, a3⟩ := st_get l i.toNat (by omega) hs
                        have a1' : atM l i = some (.tup [.int n0, t]) := by
                          have := atM_nat a1
                          rwa [Int.toNat_of_nonneg hb.1] at this
                        simp only at h
                        have ge : (statesOf l).getD i.toNat 1 = n0.toNat := by rw [List.getD_eq_getElem?_getD, a3]; rfl
                        rw [ge] at h
                        simp [a1']
                        by_cases z : n0 = 0
                        · subst z
                          simp at h
                          simp
                          unfold plcLc
                          simp [wipeM]
                          refine plc_lp trivial (by simp) l [] hs (by simp; omega) ?_
                          rw [List.nil_append, sts_cast hs]
                          unfold stLoop
                          simp
                          have k3 : Kp [] m (m3 ++ [.lst ((statesOf l).map fun (n : Nat) => MV.int n)]) := k2.trans Kp.push
                          have g3 : (m3 ++ [MO.lst ((statesOf l).map fun (n : Nat) => MV.int n)])[m3.length]? = some (.lst ((statesOf l).map fun (n : Nat) => MV.int n)) := by simp
                          rw [← hn]
                          exact st_lp (p := p) (l := l) (m := m) (b := b) (fun ρ m' q k => ⟨rfl, q, k⟩) (fun ρ m' q k => ⟨rfl, q, k⟩) l _ _ _ _ _ _ _ k3 g3 (fun d hd => TyV.kp k3 _ (j1 d hd)) hs h
                        · have z' : ¬ n0.toNat = 0 := by omega
                          rw [if_neg z'] at h
                          cases h
                          simp [z]
                          exact qex rfl k2
                      | _ => cases hb
              · rw [if_neg (fun q => l1 q.1)] at h
                cases h
                have l1' : ¬ (1 : Int) ≤ l.length := by omega
                simp [l1']
                exact qex rfl k1
        · rw [if_neg p2] at h
          cases h
          have p2' : (2 : Int) < p.length := by omega
          simp [kit_tt, p2']
          exact qex rfl Kp.refl
    · have l3' : ¬ ((l0.length : Int) = 3) := by omega
      simp [startM, kit_tt, l3']
      refine qex ?_ Kp.refl
      unfold machB at h
      split at h
      · rename_i h0; cases h0; simp at l3
      · cases h; rfl
end K57
namespace K57
open PySem L2 MI
/-! ### run_machine with no call, and the word of it -/
theorem mach_tup {f : Nat} {v : MV} (h : machB f v = some true) : ∃ a b c, v = .tup [a, b, c] := by
  unfold machB at h
  split at h
  · rename_i ps b sts
    exact ⟨ps, b, sts, rfl⟩
  · cases h
theorem ishist_ok {k h : Nat} {m : Mem} {v : MV} (hh : m[h]? = some (.lst [])) : MI.W (Tab (k + 1) .is_history [v, .ref h] m) (fun d m' => d = .bl true ∧ Kp [] m m') E0 := by
  show MI.W (f_is_history (Tab k) [v, .ref h] m) _ _
  unfold f_is_history b_is_history
  have e : tyM m (.ref h) = some "list" := by show tyO m[h]? = _; rw [hh]; rfl
  simp [startM, e, show kitB "list" "list" = some true from rfl, hh]
  refine W_lc_nil (by simp [hh]) ?_
  rw [W_all (bs := []) (by simp)]
  exact ⟨rfl, Kp.push⟩
theorem run_ok {f k h : Nat} {m : Mem} {v : MV} {b : Bool} (tv : TyV m v) (wd : ∀ a c x y, v = .tup [.tup [a, c], x, y] → WdOk m a) (hb : machB f v = some b) (hh : m[h]? = some (.lst [])) :
    MI.W (Tab (k + 7 + f + 2) .run_machine [v, .ref h] m) (fun _ m' => b = true ∧ Kp [] m m') (QEx b m) := by
  show MI.W (f_run_machine (Tab (k + 7 + f + 1)) [v, .ref h] m) _ _
  unfold f_run_machine b_run_machine
  simp [startM]
  refine look Kp.refl (mach_ok (k := k) tv wd hb) (fun u m1 q k1 => ?_) (fun m' q k => qex q k)
  subst q
  obtain ⟨a, c, d, rfl⟩ := mach_tup hb
  have hh1 := k1.get hh (by simp)
  have ck : MI.W (Tab (k + 7 + f + 1) .check_history [.tup [a, c, d], .ref h] m1) (fun _ m' => Kp [] m1 m') E0 := by
    show MI.W (f_check_history (Tab (k + 7 + f)) [.tup [a, c, d], .ref h] m1) _ _
    unfold f_check_history b_check_history
    obtain ⟨n, hn⟩ : ∃ n, k + 7 + f = n + 1 := ⟨k + 6 + f, by omega⟩
    rw [hn]
    simp [startM]
    refine (ishist_ok (k := n) hh1).mono ?_
    rintro u m2 ⟨rfl, k2⟩
    simp
    exact k2
  refine ck.mono (fun u m2 k2 => ?_)
  simp
  have hh2 := (k1.trans k2).get hh (by simp)
  have hh3 : (m2 ++ [MO.lst [], MO.lst []])[h]? = some (.lst []) := (Kp.app (S := []) (m := m2) (r := [MO.lst [], MO.lst []])).get hh2 (by simp)
  simp [enumOf, hh3]
  have kk : ∀ r : List MO, Kp [] m (m2 ++ r) := fun r => (k1.trans k2).trans Kp.app
  refine W_lp_nil ?_ ?_
  · simp [hh3]
  · simp
    exact kk _
/-- what _law_word says -/
def wordOf (b : Bool) : Str := if b = true then "good" else "machine"
theorem word_ok {f k : Nat} {m : Mem} {v : MV} {b : Bool} (tv : TyV m v) (wd : ∀ a c x y, v = .tup [.tup [a, c], x, y] → WdOk m a) (hb : machB f v = some b) :
    MI.W (Tab (k + 7 + f + 3) .l_word [v] m) (fun d m' => d = .str (wordOf b) ∧ Kp [] m m') E0 := by
  show MI.W (f_l_word (Tab (k + 7 + f + 2)) [v] m) _ _
  unfold f_l_word b_l_word
  simp [startM]
  have k0 : Kp [] m (m ++ [.lst []]) := Kp.push
  have r := run_ok (k := k) (h := m.length) (TyV.kp k0 _ tv) (fun a c x y e => (wd a c x y e).kp k0) hb (by simp)
  cases hr : Tab (k + 7 + f + 2) .run_machine [v, .ref m.length] (m ++ [.lst []]) with
  | stuck => rw [hr] at r; exact r.elim
  | ok d m1 =>
    rw [hr] at r
    obtain ⟨rfl, k1⟩ := r
    simp
    exact ⟨rfl, k0.trans k1⟩
  | ex x m1 =>
    rw [hr] at r
    obtain ⟨rfl, rfl, k1⟩ := r
    simp
    rw [show p_OperandError "InvalidMachine" = some true by decide]
    simp [isxV, exnOf, show p_InvalidHistory "InvalidMachine" = some false by decide, show p_ValueError "InvalidMachine" = some true by decide, show p_InvalidMachine "InvalidMachine" = some true by decide]
    have s2 : 2 ≤ sizeLine := szl (n := 2) (by decide)
    refine ⟨s2, ?_⟩
    have g : ((m1 ++ [MO.exn ⟨"InvalidMachine"⟩]) ++ [.lst [.str "other", .str "machine"]])[(m1 ++ [MO.exn ⟨"InvalidMachine"⟩]).length]? = some (.lst [.str "other", .str "machine"]) := by simp
    simp at g
    exact ⟨rfl, (k0.trans k1).trans Kp.app⟩
end K57
namespace K57
open PySem L2 MI
/-! ### the machines that the law makes of a tree -/
abbrev leaf : MV := .tup [.str "end", .tup [.str "value", .tup [.str "none"]], .int 0, .tup []]
abbrev endP (i : Int) : MV := .tup [.str "end", .tup [.str "value", .tup [.str "place", .int i]], .int 0, .tup []]
def wrap1 (i : Nat) (t : MV) : MV := .tup [.str "test", .tup [.str "parameter", .int 0], .tup ([leaf, leaf, leaf].set i t)]
def wrapL : List Nat → MV → MV
  | [], t => t
  | i :: ws, t => wrap1 i (wrapL ws t)
def statesV (t : MV) : MV := .tup [.tup [.int 0, t], .tup [.int 1, endP 0], .tup [.int 2, endP 1]]
def mkV (t : MV) : MV := .tup [.tup [.str "p"], .int 0, statesV t]
abbrev R0 : Rm := ⟨1, [0, 1, 2], 0⟩
/-- at any of the levels at which it may stand -/
def TreeIs (b : Bool) (t : MV) : Prop := ∀ n, n ≤ 3 → treeB R0 (40 - n) [] (1 + n) t = some b
theorem leaf_tree {f lv : Nat} (h : lv ≤ 30) : treeB R0 (f + 1) [] lv leaf = some true := by
  unfold treeB
  rw [if_neg (by omega)]
  rfl
theorem andO_t {a : Option Bool} : andO a (some true) = a := by
  cases a with
  | none => rfl
  | some b => cases b <;> rfl
theorem wrap_tree {f lv i : Nat} {t : MV} (h : lv < 30) (hi : i < 3) : treeB R0 (f + 2) [] lv (wrap1 i t) = treeB R0 (f + 1) [] (lv + 1) t := by
  have e := leaf_tree (f := f) (lv := lv + 1) (by omega)
  conv => lhs; unfold treeB
  rw [if_neg (by omega)]
  have q : ∀ x y z : MV, (andO (objB R0 [] (.tup [.str "parameter", .int 0])) (andO (treeB R0 (f + 1) [] (lv + 1) x) (andO (treeB R0 (f + 1) [] (lv + 1) y) (treeB R0 (f + 1) [] (lv + 1) z)))) = andO (treeB R0 (f + 1) [] (lv + 1) x) (andO (treeB R0 (f + 1) [] (lv + 1) y) (treeB R0 (f + 1) [] (lv + 1) z)) := fun x y z => rfl
  match i, hi with
  | 0, _ =>
    show andO (objB R0 [] (.tup [.str "parameter", .int 0])) (andO (treeB R0 (f + 1) [] (lv + 1) t) (andO (treeB R0 (f + 1) [] (lv + 1) leaf) (treeB R0 (f + 1) [] (lv + 1) leaf))) = _
    rw [q, e]
    exact andO_t
  | 1, _ =>
    show andO (objB R0 [] (.tup [.str "parameter", .int 0])) (andO (treeB R0 (f + 1) [] (lv + 1) leaf) (andO (treeB R0 (f + 1) [] (lv + 1) t) (treeB R0 (f + 1) [] (lv + 1) leaf))) = _
    rw [q, e, andO_t]
    rfl
  | 2, _ =>
    show andO (objB R0 [] (.tup [.str "parameter", .int 0])) (andO (treeB R0 (f + 1) [] (lv + 1) leaf) (andO (treeB R0 (f + 1) [] (lv + 1) leaf) (treeB R0 (f + 1) [] (lv + 1) t))) = _
    rw [q, e]
    rfl
theorem wrapL_tree : ∀ (ws : List Nat) (t : MV) (f lv : Nat), (∀ i ∈ ws, i < 3) → lv + ws.length ≤ 30 → treeB R0 (f + 1 + ws.length) [] lv (wrapL ws t) = treeB R0 (f + 1) [] (lv + ws.length) t
  | [], _, _, _, _, _ => rfl
  | i :: ws, t, f, lv, h, hl => by
    simp at hl
    have e : f + 1 + (i :: ws).length = (f + ws.length) + 2 := by simp; omega
    rw [e]
    show treeB R0 (f + ws.length + 2) [] lv (wrap1 i (wrapL ws t)) = _
    rw [wrap_tree (by omega) (h i (by simp)), show f + ws.length + 1 = f + 1 + ws.length by omega, wrapL_tree ws t f (lv + 1) (fun j hj => h j (by simp [hj])) (by omega)]
    simp
    rw [show lv + 1 + ws.length = lv + (ws.length + 1) by omega]
theorem mk_mach {b : Bool} {t : MV} {ws : List Nat} (h : TreeIs b t) (hw : ∀ i ∈ ws, i < 3) (hl : ws.length ≤ 3) : machB 40 (mkV (wrapL ws t)) = some b := by
  have q := wrapL_tree ws t (39 - ws.length) 1 hw (by omega)
  rw [show 39 - ws.length + 1 + ws.length = 40 by omega, show 39 - ws.length + 1 = 40 - ws.length by omega, h ws.length hl] at q
  have e : machB 40 (mkV (wrapL ws t)) = andO (treeB R0 40 [] 1 (wrapL ws t)) (andO (treeB ⟨1, [0, 1, 2], 1⟩ 40 [] 1 (endP 0)) (andO (treeB ⟨1, [0, 1, 2], 2⟩ 40 [] 1 (endP 1)) (some true))) := rfl
  rw [e, q, show treeB ⟨1, [0, 1, 2], 1⟩ 40 [] 1 (endP 0) = some true from rfl, show treeB ⟨1, [0, 1, 2], 2⟩ 40 [] 1 (endP 1) = some true from rfl]
  cases b <;> rfl
/-! ### values that are not the source -/
mutual
def Off (S : List Nat) : MV → Prop
  | .tup l => Offs S l
  | .ref n => n ∉ S
  | _ => True
def Offs (S : List Nat) : List MV → Prop
  | [] => True
  | d :: l => Off S d ∧ Offs S l
end
theorem Offs.of {S : List Nat} : ∀ {l : List MV}, (∀ d ∈ l, Off S d) → Offs S l
  | [], _ => by unfold Offs; trivial
  | d :: r, h => by unfold Offs; exact ⟨h d List.mem_cons_self, Offs.of fun x hx => h x (List.mem_cons_of_mem _ hx)⟩
theorem Offs.mem {S : List Nat} : ∀ {l : List MV} {d : MV}, Offs S l → d ∈ l → Off S d
  | x :: r, d, h, hd => by
    unfold Offs at h
    rcases List.mem_cons.mp hd with rfl | hd
    · exact h.1
    · exact Offs.mem h.2 hd
theorem WdOk.kpS {S : List Nat} {m m' : Mem} {x : MV} (k : Kp S m m') (h : WdOk m x) (o : Off S x) : WdOk m' x := by
  rcases h with h | h | h | ⟨n, l, rfl, h2, h3⟩
  · exact .inl h
  · exact .inr (.inl h)
  · exact .inr (.inr (.inl h))
  · unfold Off at o
    exact .inr (.inr (.inr ⟨n, l, rfl, k.get h2 o, h3⟩))
mutual
theorem TyV.kpS {S : List Nat} {m m' : Mem} (k : Kp S m m') : ∀ (d : MV), TyV m d → Off S d → TyV m' d
  | .tup l, h, o => by
    unfold TyV at h ⊢
    unfold Off at o
    exact ⟨TyVs.kpS k l h.1 o, h.2.1, fun w a b e => WdOk.kpS k (h.2.2 w a b e) (o.mem (by rw [e]; simp))⟩
  | .str s, h, _ => by unfold TyV at h ⊢; exact h
  | .ref n, h, o => by
    unfold TyV at h ⊢
    unfold Off at o
    rcases h with ⟨l, a, b⟩ | ⟨l, a⟩
    · exact .inl ⟨l, k.get a o, b⟩
    · exact .inr ⟨l, k.get a o⟩
  | .kl _, h, _ => by unfold TyV at h; exact h.elim
  | .int _, _, _ => by unfold TyV; trivial
  | .bl _, _, _ => by unfold TyV; trivial
  | .non, _, _ => by unfold TyV; trivial
theorem TyVs.kpS {S : List Nat} {m m' : Mem} (k : Kp S m m') : ∀ (l : List MV), TyVs m l → Offs S l → TyVs m' l
  | [], _, _ => by unfold TyVs; trivial
  | d :: r, h, o => by unfold TyVs at h ⊢; unfold Offs at o; exact ⟨TyV.kpS k d h.1 o.1, TyVs.kpS k r h.2 o.2⟩
end
/-- it may be looked at while draws are made -/
structure VOk (S : List Nat) (m : Mem) (d : MV) : Prop where
  ty : TyV m d
  off : Off S d
theorem VOk.kp {S : List Nat} {m m' : Mem} {d : MV} (h : VOk S m d) (k : Kp S m m') : VOk S m' d := ⟨TyV.kpS k d h.ty h.off, h.off⟩
theorem VOk.tup {S : List Nat} {m : Mem} {l : List MV} (h : ∀ d ∈ l, VOk S m d) (hl : l.length ≤ 1000) (ha : ∀ w a b, l = [.str "ask", w, a, b] → WdOk m w) : VOk S m (.tup l) :=
  ⟨by unfold TyV; exact ⟨TyVs.of fun d hd => (h d hd).ty, hl, ha⟩, by unfold Off; exact Offs.of fun d hd => (h d hd).off⟩
end K57
namespace K57
open PySem L2 MI
/-- the source may be drawn from n more times -/
structure Bud (m : Mem) (s c n : Nat) : Prop where
  ex : ∃ t : Int, Src m s c t ∧ t + n ≤ 2 ^ 50
theorem Bud.kp {m m' : Mem} {s c n : Nat} {S : List Nat} (a : Bud m s c n) (k : Kp S m m') (h1 : s ∉ S) (h2 : c ∉ S) : Bud m' s c n :=
  let ⟨t, h, hl⟩ := a.ex; ⟨t, h.kp k h1 h2, hl⟩
theorem Bud.less {m : Mem} {s c n n' : Nat} (a : Bud m s c n) (h : n' ≤ n) : Bud m s c n' :=
  let ⟨t, h1, hl⟩ := a.ex; ⟨t, h1, by omega⟩
theorem Bud.lt {m : Mem} {s c n : Nat} (a : Bud m s c n) : s < m.length ∧ c < m.length :=
  let ⟨t, h, hl⟩ := a.ex
  let ⟨cells, e1, e2, e3⟩ := h.ex
  ⟨(List.getElem?_eq_some_iff.mp e2).1, (List.getElem?_eq_some_iff.mp e3).1⟩
theorem Bud.new {m : Mem} {s c n : Nat} (a : Bud m s c n) {j : Nat} (h : m.length ≤ j) : j ∉ [s, c] := by
  obtain ⟨h1, h2⟩ := a.lt
  simp
  omega
theorem Bud.any {m m' : Mem} {s c n : Nat} (a : Bud m s c n) (k : Kp [] m m') : Bud m' s c n := a.kp k (by simp) (by simp)
theorem kps {S : List Nat} {m m' : Mem} (k : Kp [] m m') : Kp S m m' := k.mono (by simp)
theorem dr_ok {k : Nat} {m : Mem} {s c n : Nat} {lim : Int} (a : Bud m s c (n + 1)) (h0 : 0 < lim) (h1 : lim < 2 ^ 60) :
    MI.W (Tab (k + 1) .l_draw [.ref s, .int lim] m) (fun d m' => ∃ v : Int, d = .int v ∧ 0 ≤ v ∧ v < lim ∧ Bud m' s c n ∧ Kp [s, c] m m') E0 := by
  obtain ⟨t, h, hl⟩ := a.ex
  refine (draw_ok (k := k) h h0 h1 (by omega)).mono ?_
  rintro d m' ⟨v, rfl, v0, v1, h', k', _⟩
  exact ⟨v, rfl, v0, v1, ⟨t + 1, h', by omega⟩, k'⟩
theorem leaf_ok {k : Nat} {m : Mem} {Q : MV → Mem → Prop} {E : Exn → Mem → Prop} (q : Q leaf m) : MI.W (Tab (k + 1) .l_leaf [] m) Q E := by
  have e : Tab (k + 1) .l_leaf [] m = Re.ok leaf m := W_eq (by
    show MI.W (f_l_leaf (Tab k) [] m) _ _
    unfold f_l_leaf b_l_leaf
    have : ∀ n, n ≤ 1000 → n ≤ sizeLine := fun n h => szl h
    simp [startM, this])
  rw [e]
  exact q
theorem wrap_set {i : Nat} {t : MV} : MV.tup [.str "test", .tup [.str "parameter", .int 0], .tup ([leaf, leaf, leaf].set i t)] = wrap1 i t := rfl
theorem with_ok {k : Nat} {m : Mem} {s c n : Nat} {t : MV} (a : Bud m s c (n + 4)) :
    MI.W (Tab (k + 2) .l_with_tree [.ref s, t] m) (fun d m' => ∃ ws : List Nat, ws.length ≤ 3 ∧ (∀ i ∈ ws, i < 3) ∧ d = mkV (wrapL ws t) ∧ Bud m' s c n ∧ Kp [s, c] m m') E0 := by
  have sz : ∀ n, n ≤ 1000 → n ≤ sizeLine := fun n h => szl h
  show MI.W (f_l_with_tree (Tab (k + 1)) [.ref s, t] m) _ _
  unfold f_l_with_tree b_l_with_tree
  simp [startM]
  refine leaf_ok ?_
  refine (dr_ok (k := k) a (by omega) (by omega)).mono ?_
  rintro d m1 ⟨v, rfl, v0, v1, b1, k1⟩
  simp
  refine ⟨by omega, ?_⟩
  refine W_loop (fun l ρ m' => ∃ (ws : List Nat) (x3 x6 x7 : Option MV), ws.length + l.length ≤ 3 ∧ (∀ i ∈ ws, i < 3) ∧ ρ = [some (.ref s), some (wrapL ws t), some leaf, x3, none, none, x6, x7] ∧ Bud m' s c (n + l.length) ∧ Kp [s, c] m m') _ _ _ ?_ ?_ ?_ ?_
  · exact ⟨[], none, none, none, by simp [rngL]; omega, by simp, rfl, b1.less (by simp [rngL]; omega), k1⟩
  · intros; trivial
  · rintro d l ρ m2 ⟨ws, x3, x6, x7, h1, h2, rfl, b2, k2⟩
    simp
    refine (dr_ok (k := k) (b2.less (n' := n + l.length + 1) (by simp; omega)) (by omega) (by omega)).mono ?_
    rintro d m3 ⟨v, rfl, v0, v1, b3, k3⟩
    have ix : ixN 3 v = some v.toNat := by unfold ixN; rw [if_pos v0, if_pos (by omega)]
    simp [sz, ix]
    refine ⟨v.toNat :: ws, by simp at h1 ⊢; omega, ?_, rfl, ?_, ?_⟩
    · intro i hi
      rcases List.mem_cons.mp hi with rfl | hi
      · omega
      · exact h2 i hi
    · exact b3.any Kp.push
    · exact (k2.trans k3).trans Kp.push
  · rintro ρ m2 ⟨ws, x3, x6, x7, h1, h2, rfl, b2, k2⟩
    simp [W_asgT, nCons, nName, nNil, sz]
    exact ⟨ws, by simpa using h1, h2, rfl, b2.less (by simp), k2⟩
end K57
namespace K57
open PySem L2 MI
section
variable {S : List Nat} {m : Mem}
@[simp] theorem vok_str {s : Str} : VOk S m (.str s) ↔ s.length ≤ 1000 := ⟨fun h => by have := h.ty; unfold TyV at this; exact this, fun h => ⟨by unfold TyV; exact h, by unfold Off; trivial⟩⟩
@[simp] theorem vok_int {i : Int} : VOk S m (.int i) ↔ True := ⟨fun _ => trivial, fun _ => ⟨by unfold TyV; trivial, by unfold Off; trivial⟩⟩
@[simp] theorem vok_bl {i : Bool} : VOk S m (.bl i) ↔ True := ⟨fun _ => trivial, fun _ => ⟨by unfold TyV; trivial, by unfold Off; trivial⟩⟩
@[simp] theorem vok_non : VOk S m .non ↔ True := ⟨fun _ => trivial, fun _ => ⟨by unfold TyV; trivial, by unfold Off; trivial⟩⟩
theorem vok_tup {l : List MV} : VOk S m (.tup l) ↔ (∀ d ∈ l, VOk S m d) ∧ l.length ≤ 1000 ∧ ∀ w a b, l = [.str "ask", w, a, b] → WdOk m w := by
  constructor
  · intro h
    have t := h.ty
    have o := h.off
    unfold TyV at t
    unfold Off at o
    exact ⟨fun d hd => ⟨t.1.mem hd, o.mem hd⟩, t.2.1, t.2.2⟩
  · rintro ⟨h1, h2, h3⟩
    exact VOk.tup h1 h2 h3
end
/-- no ask ahead of three others -/
theorem no_ask {w : Str} {r : List MV} {m : Mem} (h : w ≠ "ask") : ∀ x a b, MV.str w :: r = [.str "ask", x, a, b] → WdOk m x := fun x a b e => by
  injection e with e _
  injection e with e
  exact absurd e h
theorem leaf_v {S : List Nat} {m : Mem} : VOk S m leaf := by
  rw [vok_tup]
  refine ⟨?_, by decide, no_ask (by decide)⟩
  simp
  refine ⟨by decide, ?_, ?_⟩
  · rw [vok_tup]
    refine ⟨?_, by decide, no_ask (by decide)⟩
    simp
    refine ⟨by decide, ?_⟩
    rw [vok_tup]
    exact ⟨by simp; decide, by decide, no_ask (by decide)⟩
  · rw [vok_tup]
    exact ⟨by simp, by simp, fun x a b e => by cases e⟩
/-- a text, and parts that are fine -/
theorem vt {S : List Nat} {m : Mem} {w : Str} {r : List MV} (hw : w ≠ "ask") (hl : w.length ≤ 1000) (hr : r.length ≤ 900) (h : ∀ d ∈ r, VOk S m d) : VOk S m (.tup (.str w :: r)) := by
  rw [vok_tup]
  refine ⟨fun d hd => ?_, by simp; omega, no_ask hw⟩
  rcases List.mem_cons.mp hd with rfl | hd
  · simpa using hl
  · exact h d hd
/-- parts that are fine, a tuple or a number first -/
theorem vn {S : List Nat} {m : Mem} {l : List MV} (hl : l.length ≤ 1000) (h : ∀ d ∈ l, VOk S m d) (h0 : ∀ w r, l ≠ .str w :: r) : VOk S m (.tup l) := by
  rw [vok_tup]
  exact ⟨h, hl, fun x a b e => absurd e (h0 _ _)⟩
/-- an event, with a word that is fine -/
theorem va {S : List Nat} {m : Mem} {w a b : MV} (hw : VOk S m w) (hd : WdOk m w) (ha : VOk S m a) (hb : VOk S m b) : VOk S m (.tup [.str "ask", w, a, b]) := by
  rw [vok_tup]
  refine ⟨fun d hd => ?_, by simp, fun x y z e => ?_⟩
  · simp at hd
    rcases hd with rfl | rfl | rfl | rfl
    · simp; decide
    · exact hw
    · exact ha
    · exact hb
  · cases e; exact hd
theorem vp {S : List Nat} {m : Mem} {a b : MV} (ha : VOk S m a) (hb : VOk S m b) : VOk S m (.tup [a, b]) := by
  rw [vok_tup]
  exact ⟨by simp; exact ⟨ha, hb⟩, by simp, fun x y z e => by cases e⟩
theorem v1 {S : List Nat} {m : Mem} {a : MV} (ha : VOk S m a) : VOk S m (.tup [a]) := by
  rw [vok_tup]
  exact ⟨by simp; exact ha, by simp, fun x y z e => by cases e⟩
theorem v3 {S : List Nat} {m : Mem} {a b c : MV} (ha : VOk S m a) (hb : VOk S m b) (hc : VOk S m c) : VOk S m (.tup [a, b, c]) := by
  rw [vok_tup]
  exact ⟨by simp; exact ⟨ha, hb, hc⟩, by simp, fun x y z e => by cases e⟩
theorem v0 {S : List Nat} {m : Mem} : VOk S m (.tup []) := by
  rw [vok_tup]
  exact ⟨by simp, by simp, fun x y z e => by cases e⟩
theorem vs {S : List Nat} {m : Mem} {s : Str} (h : s.length ≤ 1000 := by decide) : VOk S m (.str s) := by simpa using h
theorem vi {S : List Nat} {m : Mem} {i : Int} : VOk S m (.int i) := by simp
theorem endP_v {S : List Nat} {m : Mem} {i : Int} : VOk S m (endP i) := by
  refine vt (by decide) (by decide) (by simp) ?_
  simp
  exact ⟨vp vs (vp vs vi), v0⟩
theorem wrap_v {S : List Nat} {m : Mem} {i : Nat} {t : MV} (h : VOk S m t) : VOk S m (wrap1 i t) := by
  unfold wrap1
  refine v3 vs (vp vs vi) ?_
  rw [vok_tup]
  refine ⟨fun d hd => ?_, by simp, fun x y z e => ?_⟩
  · rcases List.mem_or_eq_of_mem_set hd with hd | rfl
    · simp at hd; subst hd; exact leaf_v
    · exact h
  · have := congrArg List.length e
    simp at this
theorem wrapL_v {S : List Nat} {m : Mem} {t : MV} (h : VOk S m t) : ∀ ws, VOk S m (wrapL ws t)
  | [] => h
  | i :: ws => wrap_v (wrapL_v h ws)
theorem mk_v {S : List Nat} {m : Mem} {t : MV} (h : VOk S m t) : VOk S m (mkV t) :=
  v3 (v1 vs) vi (v3 (vp vi h) (vp vi endP_v) (vp vi endP_v))
/-- the word of a machine with that tree -/
theorem wt_ok {k : Nat} {m : Mem} {s c n : Nat} {t : MV} {b : Bool} (a : Bud m s c (n + 4)) (tv : VOk [s, c] m t) (ht : TreeIs b t) :
    MI.W (Tab (k + 50) .l_with_tree [.ref s, t] m) (fun d m' => MI.W (Tab (k + 50) .l_word [d] m') (fun w m'' => w = .str (wordOf b) ∧ Bud m'' s c n ∧ Kp [s, c] m m'') E0) E0 := by
  refine (with_ok (k := k + 48) a).mono ?_
  rintro d m1 ⟨ws, h1, h2, rfl, b1, k1⟩
  refine (word_ok (f := 40) (k := k) (mk_v (wrapL_v (tv.kp k1) ws)).ty (fun x y z u e => by cases e) (mk_mach ht h2 h1)).mono ?_
  rintro w m2 ⟨rfl, k2⟩
  exact ⟨rfl, b1.any k2, k1.trans (kps k2)⟩
/-- the trees of a list whose word is another one: none -/
theorem comp_ok {k : Nat} {s c n j : Nat} {w : Str} (b : Bool) (hw : w = wordOf b) {ρ : MI.Env} {L : List MV} {m : Mem} {chk : Mem → Prop} {Q : List MV → Mem → Prop} {E : Exn → Mem → Prop} (h0 : ρ[0]? = some (some (.ref s))) (hj : j ≠ 0) (hl : j < ρ.length) (a : Bud m s c (n + 4 * L.length)) (hv : ∀ t ∈ L, VOk [s, c] m t) (ht : ∀ t ∈ L, TreeIs b t)
    (hc : ∀ m', Kp [s, c] m m' → chk m') (q : ∀ m', Bud m' s c n → Kp [s, c] m m' → Q [] m') :
    MI.W (lcM chk (ngName j) (mB (mBin (gEqA true) (mCall (Tab (k + 50) .l_word) (mCons (mCall (Tab (k + 50) .l_with_tree) (mCons (mVar 0) (mCons (mVar j) mNil))) mNil)) (mC (.str w)))) (mVar j) ρ L [] m) Q E := by
  subst hw
  refine W_lcs (fun l acc m' => acc = [] ∧ (∀ t ∈ l, t ∈ L) ∧ Bud m' s c (n + 4 * l.length) ∧ Kp [s, c] m m') _ _ _ ⟨rfl, fun _ h => h, a, Kp.refl⟩ (fun l acc m' h => hc m' h.2.2.2) ?_ ?_
  · rintro d l acc m1 ⟨rfl, h1, h2, h3⟩
    refine ⟨[(j, d)], rfl, ?_⟩
    have e0 : (ρ.set j (some d))[0]? = some (some (.ref s)) := by rw [List.getElem?_set_ne hj]; exact h0
    have ej : (ρ.set j (some d))[j]? = some (some d) := List.getElem?_set_self hl
    simp only [setE, W_B, W_bin, W_call, W_cons, W_nil, W_vr, W_C, List.foldl_cons, List.foldl_nil]
    simp [e0, ej]
    have hd := h1 d (by simp)
    refine (wt_ok (k := k) (n := n + 4 * l.length) (h2.less (by simp; omega)) ((hv d hd).kp h3) (ht d hd)).mono ?_
    rintro u m2 r
    refine r.mono ?_
    rintro w m3 ⟨rfl, b3, k3⟩
    simp
    exact ⟨fun t ht => h1 t (by simp [ht]), b3, h3.trans k3⟩
  · rintro acc m1 ⟨rfl, h1, h2, h3⟩
    exact q m1 (h2.less (by simp)) h3
end K57
namespace K57
open PySem L2 MI
@[simp] theorem W_add_r {a b : Nat} {m : Mem} {Q : MV → Mem → Prop} {E : Exn → Mem → Prop} : MI.W (gAdd (.ref a) (.ref b) m) Q E = match m[a]?, m[b]? with
    | some (.lst xs), some (.lst ys) => xs.length + ys.length ≤ sizeLine ∧ Q (.ref m.length) (m ++ [.lst (xs ++ ys)])
    | _, _ => False := by
  cases ha : m[a]? with
  | none => unfold gAdd; simp [mutOf_ref, ha]
  | some o =>
    cases o with
    | lst xs =>
      cases hb : m[b]? with
      | none => unfold gAdd; simp [mutOf_ref, ha, hb]
      | some o' =>
        cases o' with
        | lst ys => rw [W_add_l ha hb]
        | _ => unfold gAdd; simp [mutOf_ref, ha, hb]
    | _ => unfold gAdd; simp [mutOf_ref, ha]
def behind (t : MV) : MV := .tup [.str "ask", .str "f", .tup [], .tup [t, leaf]]
theorem behind_ok {k : Nat} {m : Mem} {t : MV} {Q : MV → Mem → Prop} {E : Exn → Mem → Prop} (q : Q (behind t) m) : MI.W (Tab (k + 2) .l_behind [t] m) Q E := by
  have sz : ∀ n, n ≤ 1000 → n ≤ sizeLine := fun n h => szl h
  have e : Tab (k + 2) .l_behind [t] m = Re.ok (behind t) m := W_eq (by
    show MI.W (f_l_behind (Tab (k + 1)) [t] m) _ _
    unfold f_l_behind b_l_behind
    simp [startM, sz]
    refine leaf_ok ?_
    simp [sz, behind])
  rw [e]
  exact q
theorem behind_v {S : List Nat} {m : Mem} {t : MV} (h : VOk S m t) : VOk S m (behind t) := va vs (.inl ⟨_, rfl⟩) v0 (vp h leaf_v)
abbrev good : MV := .tup [.str "event", .int 0]
abbrev noneV : MV := .tup [.str "none"]
def spotT (o : MV) : List MV := [.tup [.str "end", .tup [.str "value", o], .int 0, .tup []], .tup [.str "ask", .str "g", .tup [o], .tup [leaf, leaf]],
  .tup [.str "ask", .str "<", .tup [noneV, o], .tup [leaf, leaf]], .tup [.str "ask", .str "h", .tup [noneV, good, o], .tup [leaf, leaf]],
  .tup [.str "test", o, .tup [leaf, leaf, leaf]], .tup [.str "end", .tup [.str "value", noneV], .int 1, .tup [o]],
  .tup [.str "end", .tup [.str "value", noneV], .int 2, .tup [o, good]], .tup [.str "end", .tup [.str "value", noneV], .int 2, .tup [good, o]]]
def spotsV (o : MV) : List MV := (spotT o).map behind
theorem spots_ok {k : Nat} {m : Mem} {o : MV} : MI.W (Tab (k + 3) .l_spots [o] m) (NewL m (spotsV o)) E0 := by
  have sz : ∀ n, n ≤ 1000 → n ≤ sizeLine := fun n h => szl h
  show MI.W (f_l_spots (Tab (k + 2)) [o] m) _ _
  unfold f_l_spots b_l_spots
  simp [startM, sz]
  refine leaf_ok ?_
  refine W_pure behind (fun _ => true) (by simp) (fun d _ => ⟨rfl, fun _ => W_eq ?_⟩) (by simp) ?_
  · simp [wipeM]
    exact behind_ok ⟨rfl, rfl⟩
  · rw [filter_all]
    exact ⟨_, rfl, List.getElem?_concat_length, by simp, Kp.app.trans Kp.push⟩
/-! ### what the spots say -/
theorem behind_tree {f lv : Nat} {t : MV} (h : lv < 30) : treeB R0 (f + 2) [] lv (behind t) = treeB R0 (f + 1) [false] (lv + 1) t := by
  have e : treeB R0 (f + 1) [true] (lv + 1) leaf = some true := by
    unfold treeB
    rw [if_neg (by omega)]
    rfl
  conv => lhs; unfold treeB
  rw [if_neg (by omega)]
  show andO (treeB R0 (f + 1) [false] (lv + 1) t) (treeB R0 (f + 1) [true] (lv + 1) leaf) = _
  rw [e]
  exact andO_t
theorem leafF {f lv : Nat} {hap : List Bool} (h : lv ≤ 30) : treeB R0 (f + 1) hap lv leaf = some true := by
  unfold treeB
  rw [if_neg (by omega)]
  rfl
/-- the spots of an operand of which is known what it is, at any level -/
theorem spot_trees {o : MV} {a b : Bool} (h1 : opB R0 [false] o = some a) (h2 : objB R0 [false] o = some b) (f lv : Nat) (hl : lv < 29) :
    (spotT o).map (treeB R0 (f + 2) [false] lv) = [some a, some a, some a, some a, some b, some b, some b, some b] := by
  have l1 : ∀ hap, treeB R0 (f + 1) hap (lv + 1) leaf = some true := fun hap => leafF (by omega)
  have nl : ¬ 30 < lv := by omega
  have g : objB R0 [false] good = some true := rfl
  have n1 : opB R0 [false] noneV = some true := rfl
  have g1 : opB R0 [false] good = some true := rfl
  have out1 : outB R0 [false] (.tup [.str "value", o]) = some a := by rw [← h1]; rfl
  have out2 : outB R0 [false] (.tup [.str "value", noneV]) = some true := rfl
  have x1 : treeB R0 (f + 2) [false] lv (.tup [.str "end", .tup [.str "value", o], .int 0, .tup []]) = some a := by
    unfold treeB
    rw [if_neg nl]
    show endB R0 [false] (.tup [.str "value", o]) (.int 0) (.tup []) = some a
    unfold endB
    rw [out1]
    cases a <;> rfl
  have ask : ∀ (w ops : MV) (c : Bool), opsB R0 [false] w ops = some c → treeB R0 (f + 2) [false] lv (.tup [.str "ask", w, ops, .tup [leaf, leaf]]) = some c := fun w ops c h => by
    unfold treeB
    rw [if_neg nl]
    show andO (opsB R0 [false] w ops) (andO (treeB R0 (f + 1) ([false] ++ [false]) (lv + 1) leaf) (treeB R0 (f + 1) ([false] ++ [true]) (lv + 1) leaf)) = some c
    rw [h, l1, l1]
    exact andO_t
  have x2 := ask (.str "g") (.tup [o]) a (by
    show (match allO (opB R0 [false]) [o] with | some true => if nameB (.str "g") = true then some (decide ((1 : Nat) ≤ 3)) else some (sgB (.str "g") && decide ((1 : Nat) = 2)) | r => r) = some a
    unfold allO allO
    rw [h1]
    cases a <;> rfl)
  have x3 := ask (.str "<") (.tup [noneV, o]) a (by
    show (match allO (opB R0 [false]) [noneV, o] with | some true => if nameB (.str "<") = true then some (decide ((2 : Nat) ≤ 3)) else some (sgB (.str "<") && decide ((2 : Nat) = 2)) | r => r) = some a
    unfold allO allO allO
    rw [h1, n1]
    cases a <;> rfl)
  have x4 := ask (.str "h") (.tup [noneV, good, o]) a (by
    show (match allO (opB R0 [false]) [noneV, good, o] with | some true => if nameB (.str "h") = true then some (decide ((3 : Nat) ≤ 3)) else some (sgB (.str "h") && decide ((3 : Nat) = 2)) | r => r) = some a
    unfold allO allO allO allO
    rw [h1, n1, g1]
    cases a <;> rfl)
  have x5 : treeB R0 (f + 2) [false] lv (.tup [.str "test", o, .tup [leaf, leaf, leaf]]) = some b := by
    unfold treeB
    rw [if_neg nl]
    show andO (objB R0 [false] o) (andO (treeB R0 (f + 1) [false] (lv + 1) leaf) (andO (treeB R0 (f + 1) [false] (lv + 1) leaf) (treeB R0 (f + 1) [false] (lv + 1) leaf))) = some b
    rw [h2, l1]
    exact andO_t
  have en : ∀ (i : Nat) (l : List MV) (c : Bool), i < 3 → l.length = i → allO (objB R0 [false]) l = some c → treeB R0 (f + 2) [false] lv (.tup [.str "end", .tup [.str "value", noneV], .int i, .tup l]) = some c := fun i l c hi hl h => by
    unfold treeB
    rw [if_neg nl]
    show endB R0 [false] (.tup [.str "value", noneV]) (.int i) (.tup l) = some c
    unfold endB
    rw [out2]
    match i, hi with
    | 0, _ => show (if l.length = 0 then allO (objB R0 [false]) l else some false) = some c; rw [if_pos hl, h]
    | 1, _ => show (if l.length = 1 then allO (objB R0 [false]) l else some false) = some c; rw [if_pos hl, h]
    | 2, _ => show (if l.length = 2 then allO (objB R0 [false]) l else some false) = some c; rw [if_pos hl, h]
  have x6 := en 1 [o] b (by omega) rfl (by unfold allO allO; rw [h2]; cases b <;> rfl)
  have x7 := en 2 [o, good] b (by omega) rfl (by unfold allO allO allO; rw [h2, g]; cases b <;> rfl)
  have x8 := en 2 [good, o] b (by omega) rfl (by unfold allO allO allO; rw [h2, g]; cases b <;> rfl)
  simp only [spotT, List.map_cons, List.map_nil]
  rw [x1, x2, x3, x4, x5]
  rw [show (MV.int 1) = .int ((1 : Nat) : Int) from rfl, show (MV.int 2) = .int ((2 : Nat) : Int) from rfl, x6, x7, x8]
/-- each of them, where the operand is wrong, or right for all -/
theorem spots_tree {o : MV} {a : Bool} (h1 : opB R0 [false] o = some a) (h2 : objB R0 [false] o = some a) : ∀ t ∈ spotsV o, TreeIs a t := by
  intro t ht n hn
  obtain ⟨u, hu, rfl⟩ := List.mem_map.mp ht
  rw [show 40 - n = (38 - n) + 2 by omega, behind_tree (by omega), show 38 - n + 1 = (37 - n) + 2 by omega]
  have q := spot_trees h1 h2 (37 - n) (1 + n + 1) (by omega)
  have : treeB R0 (37 - n + 2) [false] (1 + n + 1) u ∈ (spotT o).map (treeB R0 (37 - n + 2) [false] (1 + n + 1)) := List.mem_map_of_mem hu
  rw [q] at this
  simpa using this
theorem spots_v {S : List Nat} {m : Mem} {o : MV} (h : VOk S m o) : ∀ t ∈ spotsV o, VOk S m t := by
  intro t ht
  obtain ⟨u, hu, rfl⟩ := List.mem_map.mp ht
  refine behind_v ?_
  have gv : VOk S m good := vp vs vi
  have nv : VOk S m noneV := v1 vs
  have l2 : VOk S m (.tup [leaf, leaf]) := vp leaf_v leaf_v
  have e4 : ∀ a b c : MV, VOk S m a → VOk S m b → VOk S m c → VOk S m (.tup [.str "end", a, b, c]) := fun a b c ha hb hc => vt (by decide) (by decide) (by simp) (by simp; exact ⟨ha, hb, hc⟩)
  simp [spotT] at hu
  rcases hu with rfl | rfl | rfl | rfl | rfl | rfl | rfl | rfl
  · exact e4 _ _ _ (vp vs h) vi v0
  · exact va vs (.inl ⟨_, rfl⟩) (v1 h) l2
  · exact va vs (.inl ⟨_, rfl⟩) (vp nv h) l2
  · exact va vs (.inl ⟨_, rfl⟩) (v3 nv gv h) l2
  · exact v3 vs h (v3 leaf_v leaf_v leaf_v)
  · exact e4 _ _ _ (vp vs nv) vi (v1 h)
  · exact e4 _ _ _ (vp vs nv) vi (vp h gv)
  · exact e4 _ _ _ (vp vs nv) vi (vp gv h)
end K57
namespace K57
open PySem L2 MI
theorem das_nil : Das [] := ⟨rfl, by decide, by decide⟩
theorem empty_ne {m : Mem} {Q : MV → Mem → Prop} {E : Exn → Mem → Prop} (q : Q (.bl false) (m ++ [.lst [], .lst []])) : MI.W (gEqA true (.ref m.length) (.ref (m.length + 1)) (m ++ [.lst [], .lst []])) Q E := by
  refine W_eqL (l := []) (k := []) (by simp) (by simp) das_nil das_nil fun z hz => ?_
  rw [hz.mpr rfl]
  exact q
/-- the check of an operand's spots -/
noncomputable def chkO (ck : Fnm → MF) (w : Str) : MS := (mIfS (mB (mBin (gEqA true) (mLc (mAnyI (mCall (ck .l_spots) (mCons (mVar 3) mNil))) (ngName 5) (mB (mBin (gEqA true) (mCall (ck .l_word) (mCons (mCall (ck .l_with_tree) (mCons (mVar 0) (mCons (mVar 5) mNil))) mNil)) (mC (.str w)))) (mVar 5) [5]) (mLst mNil)))
    (mRet (mC (.bl false)))
    mSkip)
theorem chkO_ok {k : Nat} {s c n : Nat} {m : Mem} {w : Str} (b : Bool) (hw : w = wordOf b) {o : MV} {x1 x2 x4 x5 x6 : Option MV} {Q : Fl → Mem → Prop} {E : Exn → Mem → Prop} (a : Bud m s c (n + 32)) (v : VOk [s, c] m o) (h1 : opB R0 [false] o = some b) (h2 : objB R0 [false] o = some b)
    (q : ∀ m', Bud m' s c n → Kp [s, c] m m' → Q (.nx [some (.ref s), x1, x2, some o, x4, x5, x6]) m') :
    MI.W (chkO (Tab (k + 50)) w [some (.ref s), x1, x2, some o, x4, x5, x6] m) Q E := by
  have sz : ∀ n, n ≤ 1000 → n ≤ sizeLine := fun n h => szl h
  unfold chkO
  simp
  refine (spots_ok (k := k + 47)).mono ?_
  rintro d m1 ⟨n1, rfl, g1, g2, k1⟩
  simp [g1, wipeM]
  have hn := a.new g2
  refine comp_ok (k := k) (n := n) b hw rfl (by decide) (by simp) ((a.any k1).less (by simp [spotsV, spotT])) (fun t ht => spots_v (v.kp (kps k1)) t ht) (spots_tree h1 h2) (fun m' km => ?_) (fun m' bm km => ?_)
  · simp [km.get g1 hn]
  · refine empty_ne ?_
    simp
    exact q _ (bm.any Kp.app) (((kps k1).trans km).trans Kp.app)
/-- an operand that is none anywhere -/
structure Odd (S : List Nat) (m : Mem) (o : MV) : Prop where
  v : VOk S m o
  op : opB R0 [false] o = some false
  ob : objB R0 [false] o = some false
theorem Odd.kp {S : List Nat} {m m' : Mem} {o : MV} (h : Odd S m o) (k : Kp S m m') : Odd S m' o := ⟨h.v.kp k, h.op, h.ob⟩
theorem pw25 : CPowW 10 25 := by decide
theorem num0 {v : MV} : numB v 0 = false := by
  cases v with
  | int i => simp [numB]
  | _ => rfl
theorem odd_pair {S : List Nat} {m : Mem} {w : Str} {v : MV} (hw : w ∈ (["place", "parameter", "event"] : List Str)) (hv : VOk S m v) (h : numB v 1 = false) : Odd S m (.tup [.str w, v]) := by
  have key : objB R0 [false] (.tup [.str w, v]) = some false := by
    simp at hw
    unfold objB
    rcases hw with rfl | rfl | rfl
    · show some (numB v 0) = some false
      rw [num0]
    · show some (numB v 1) = some false
      rw [h]
    · show some (numB v 1 && !hapB [false] v) = some false
      rw [h]; rfl
  refine ⟨vp (vs ?_) hv, key, key⟩
  simp at hw
  rcases hw with rfl | rfl | rfl <;> decide
theorem odd_word {S : List Nat} {m : Mem} {w : MV} (hv : VOk S m w) (h : (∃ s, w = .str s ∧ s ≠ "place" ∧ s ≠ "parameter" ∧ s ≠ "event") ∨ w = .non) : Odd S m (.tup [w, .int 0]) := by
  have key : objB R0 [false] (.tup [w, .int 0]) = some false := by
    unfold objB
    rcases h with ⟨s, rfl, h1, h2, h3⟩ | rfl
    · simp [h1, h2, h3]
    · rfl
  exact ⟨vp hv vi, key, key⟩
theorem odd_one {S : List Nat} {m : Mem} {w : MV} (hv : VOk S m w) (h : (∃ s, w = .str s ∧ s ∉ consts) ∨ w = .non) : Odd S m (.tup [w]) := by
  refine ⟨v1 hv, ?_, rfl⟩
  unfold opB
  rcases h with ⟨s, rfl, h1⟩ | rfl
  · simp only [h1, decide_false]
  · rfl
theorem vref {S : List Nat} {m : Mem} {n : Nat} {l : List MV} (h : m[n]? = some (.lst l)) (hl : Das l) (hn : n ∉ S) : VOk S m (.ref n) := ⟨by unfold TyV; exact .inl ⟨l, h, hl⟩, by unfold Off; exact hn⟩
theorem vdct {S : List Nat} {m : Mem} {n : Nat} {l : List (Key × MV)} (h : m[n]? = some (.dct l)) (hn : n ∉ S) : VOk S m (.ref n) := ⟨by unfold TyV; exact .inr ⟨l, h⟩, by unfold Off; exact hn⟩
end K57
namespace K57
open PySem L2 MI
noncomputable def chkC (ck : Fnm → MF) : MS := (mSeq (mAsg (mLc (mAnyI (mCall (ck .l_spots) (mCons (mTup (mCons (mVar 2) mNil)) mNil))) (ngName 5) mYes (mCall (ck .l_word) (mCons (mCall (ck .l_with_tree) (mCons (mVar 0) (mCons (mVar 5) mNil))) mNil)) [5]) (nName 4))
    (mIfS (mB (mBin (gEqA true) (mVar 4) (mBin gAdd (mBin gMul (mLst (mCons (mC (.str "good")) mNil)) (mC (.int 4))) (mBin gMul (mLst (mCons (mC (.str "machine")) mNil)) (mC (.int 4))))))
    (mRet (mC (.bl false)))
    mSkip))
noncomputable def add9 : MS := (mAsg (mBin gAdd (mVar 1) (mLc (mAnyI (mLst (mCons (mC .non) (mCons (mC (.str "0")) (mCons (mC (.bl true)) (mCons (mC (.bl false)) (mCons (mNeg (mC (.int 1))) (mCons (mLst mNil) (mCons mDNew (mCons (mTup mNil) (mCons (mBin gPow (mC (.int 10)) (mC (.int 25))) mNil))))))))))) (ngName 6) mYes (mTup (mCons (mVar 2) (mCons (mVar 6) mNil))) [6])) (nName 1))
noncomputable def opnT (ck : Fnm → MF) : MS := (mSeq (mFor (mAnyI (mVar 1)) (nName 3)
    (chkO ck "machine"))
    (mSeq (mFor (mAnyI (mLst (mCons (mTup (mCons (mC (.str "event")) (mCons (mC (.int 0)) mNil))) (mCons (mTup (mCons (mC (.str "parameter")) (mCons (mC (.int 0)) mNil))) mNil)))) (nName 3)
    (chkO ck "good"))
    (mSeq (mFor (mAnyI (mLst (mCons (mC (.str "none")) (mCons (mC (.str "true")) (mCons (mC (.str "false")) mNil))))) (nName 2)
    (chkC ck))
    (mRet (mC (.bl true))))))
theorem b_opn (ck : Fnm → MF) : b_l_operands ck = (mSeq (mAsg (mLst (mCons (mTup (mCons (mC (.str "place")) (mCons (mC (.int 0)) mNil))) (mCons (mTup (mCons (mC (.str "place")) (mCons (mBin gPow (mC (.int 10)) (mC (.int 25))) mNil))) (mCons (mTup (mCons (mC (.str "parameter")) (mCons (mC (.int 1)) mNil))) (mCons (mTup (mCons (mC (.str "parameter")) (mCons (mC (.int 2)) mNil))) (mCons (mTup (mCons (mC (.str "parameter")) (mCons (mC (.int 0)) (mCons (mC (.int 0)) mNil)))) (mCons (mTup (mCons (mC (.str "event")) (mCons (mC (.int 1)) mNil))) mNil))))))) (nName 1))
    (mSeq (mFor (mAnyI (mLst (mCons (mC (.str "place")) (mCons (mC (.str "parameter")) (mCons (mC (.str "event")) mNil))))) (nName 2)
    add9)
    (mSeq (mAsg (mBin gAdd (mVar 1) (mLc (mAnyI (mLst (mCons (mC (.str "answer")) (mCons (mC (.str "name")) (mCons (mC (.str "none")) (mCons (mC (.str "")) (mCons (mC .non) (mCons (mC (.str "object")) mNil)))))))) (ngName 2) mYes (mTup (mCons (mVar 2) (mCons (mC (.int 0)) mNil))) [2])) (nName 1))
    (mSeq (mAsg (mBin gAdd (mVar 1) (mLc (mAnyI (mLst (mCons (mC (.str "None")) (mCons (mC (.str "object")) (mCons (mC (.str "place")) (mCons (mC (.str "t")) (mCons (mC (.str "")) (mCons (mC .non) (mCons (mC (.str "event")) mNil))))))))) (ngName 2) mYes (mTup (mCons (mVar 2) mNil)) [2])) (nName 1))
    (mSeq (mAsg (mBin gAdd (mVar 1) (mLst (mCons (mTup mNil) (mCons (mC .non) (mCons (mLst (mCons (mC (.str "none")) mNil)) (mCons (mC (.str "none")) (mCons (mTup (mCons (mC (.str "none")) (mCons (mTup (mCons (mC (.str "none")) mNil)) mNil))) (mCons (mLst (mCons (mC (.str "event")) (mCons (mC (.int 0)) mNil))) (mCons (mTup (mCons (mC (.str "event")) mNil)) (mCons (mC (.int 0)) mNil)))))))))) (nName 1))
    (opnT ck)))))) := rfl
structure OddAt (m0 : Mem) (s c N x : Nat) (m' : Mem) : Prop where
  ex : ∃ L, m'[x]? = some (.lst L) ∧ L.length ≤ N ∧ ∀ o ∈ L, Odd [s, c] m' o
  kp : Kp [] m0 m'
theorem add_step {m0 m1 m2 : Mem} {s c N x y : Nat} {L2 : List MV} {Q : MV → Mem → Prop} {E : Exn → Mem → Prop} (O : OddAt m0 s c N x m1) (k : Kp [] m1 m2) (hy : m2[y]? = some (.lst L2)) (h2 : ∀ o ∈ L2, Odd [s, c] m2 o) (hN : N + L2.length ≤ 1000)
    (q : ∀ L, OddAt m0 s c (N + L2.length) m2.length (m2 ++ [.lst L]) → Q (.ref m2.length) (m2 ++ [.lst L])) : MI.W (gAdd (.ref x) (.ref y) m2) Q E := by
  obtain ⟨⟨L, h1, hl, ho⟩, k0⟩ := O
  rw [W_add_l (k.get h1 (by simp)) hy]
  refine ⟨szl (by omega), q _ ⟨⟨L ++ L2, by simp, by simp; omega, fun o h => ?_⟩, (k0.trans k).trans Kp.push⟩⟩
  rcases List.mem_append.mp h with h | h
  · exact (ho o h).kp (kps (k.trans Kp.push))
  · exact (h2 o h).kp (kps Kp.push)
theorem add9_ok {m0 m1 : Mem} {s c n N x : Nat} {w : Str} {x3 x4 x5 x6 : Option MV} {Q : Fl → Mem → Prop} {E : Exn → Mem → Prop} (a : Bud m1 s c n) (hw : w ∈ (["place", "parameter", "event"] : List Str)) (O : OddAt m0 s c N x m1) (hN : N ≤ 100)
    (q : ∀ x' m', OddAt m0 s c (N + 9) x' m' → Q (.nx [some (.ref s), some (.ref x'), some (.str w), x3, x4, x5, x6]) m') : MI.W (add9 [some (.ref s), some (.ref x), some (.str w), x3, x4, x5, x6] m1) Q E := by
  have sz : ∀ n, n ≤ 1000 → n ≤ sizeLine := fun n h => szl h
  unfold add9
  simp [sz, pw25, -W_add_r]
  refine W_pure (fun d => .tup [.str w, d]) (fun _ => true) (by show (match (m1 ++ _)[m1.length + 1 + 1]? with | some (MO.lst l) => some l | some (MO.frz l) => some l | _ => none) = _; rw [Nat.add_assoc, at_app]; rfl) (fun d hd => ⟨rfl, fun _ => ?_⟩) (by simp) ?_
  · simp [mTup, mCons, mVar, mNil, Re.bind, wipeM, sz]
  · rw [filter_all]
    refine add_step O (Kp.app.trans Kp.push) List.getElem?_concat_length ?_ (by simp; omega) (fun L OL => q _ _ (by simpa using OL))
    intro o ho
    obtain ⟨d, hd, rfl⟩ := List.mem_map.mp ho
    refine Odd.kp ?_ (kps Kp.push)
    have j0 := a.new (j := m1.length) (Nat.le_refl _)
    have j1 := a.new (j := m1.length + 1) (by omega)
    simp at hd
    rcases hd with rfl | rfl | rfl | rfl | rfl | rfl | rfl | rfl | rfl
    · exact odd_pair hw (by simp) rfl
    · exact odd_pair hw vs rfl
    · exact odd_pair hw (by simp) rfl
    · exact odd_pair hw (by simp) rfl
    · exact odd_pair hw (by simp) rfl
    · exact odd_pair hw (vref (l := []) (by simp) das_nil j0) rfl
    · exact odd_pair hw (vdct (l := []) (by simp) j1) rfl
    · exact odd_pair hw v0 rfl
    · exact odd_pair hw (by simp) rfl
theorem zip_flags {α : Type} {f : α → Option Bool} : ∀ {l : List α} {g : List Bool}, l.map f = g.map some → ∀ p ∈ l.zip g, f p.1 = some p.2
  | [], _, _, p, hp => by simp at hp
  | a :: l, [], _, p, hp => by simp at hp
  | a :: l, b :: g, h, p, hp => by
    simp at h
    simp at hp
    rcases hp with rfl | hp
    · exact h.1
    · exact zip_flags h.2 p hp
/-- the words of a list of trees -/
theorem words_ok {k : Nat} {s c n j : Nat} {ρ : MI.Env} {P : List (MV × Bool)} {m : Mem} {chk : Mem → Prop} {Q : List MV → Mem → Prop} {E : Exn → Mem → Prop} (h0 : ρ[0]? = some (some (.ref s))) (hj : j ≠ 0) (hl : j < ρ.length) (a : Bud m s c (n + 4 * P.length)) (hP : P.length ≤ 500) (hv : ∀ p ∈ P, VOk [s, c] m p.1) (ht : ∀ p ∈ P, TreeIs p.2 p.1)
    (hc : ∀ m', Kp [s, c] m m' → chk m') (q : ∀ m', Bud m' s c n → Kp [s, c] m m' → Q (P.map fun p => .str (wordOf p.2)) m') :
    MI.W (lcM chk (ngName j) mYes (mCall (Tab (k + 50) .l_word) (mCons (mCall (Tab (k + 50) .l_with_tree) (mCons (mVar 0) (mCons (mVar j) mNil))) mNil)) ρ (P.map (·.1)) [] m) Q E := by
  refine W_lcs (fun l acc m' => ∃ P1 P2, P = P1 ++ P2 ∧ l = P2.map (·.1) ∧ acc = (P1.map fun p => .str (wordOf p.2)) ∧ Bud m' s c (n + 4 * l.length) ∧ Kp [s, c] m m') _ _ _ ⟨[], P, rfl, rfl, rfl, a.less (by simp), Kp.refl⟩ (fun l acc m' ⟨P1, P2, _, _, _, _, h⟩ => hc m' h) ?_ ?_
  · rintro d l acc m1 ⟨P1, P2, rfl, e, rfl, h2, h3⟩
    cases P2 with
    | nil => cases e
    | cons p P2 =>
      injection e with e1 e2
      subst e1; subst e2
      refine ⟨[(j, p.1)], rfl, ?_⟩
      have e0 : (ρ.set j (some p.1))[0]? = some (some (.ref s)) := by rw [List.getElem?_set_ne hj]; exact h0
      have ej : (ρ.set j (some p.1))[j]? = some (some p.1) := List.getElem?_set_self hl
      simp only [setE, List.foldl_cons, List.foldl_nil]
      simp [mYes, e0, ej]
      refine (wt_ok (k := k) (n := n + 4 * (P2.map (·.1)).length) (b := p.2) (h2.less (by simp; omega)) ((hv p (by simp)).kp h3) (ht p (by simp))).mono ?_
      rintro u m2 r
      refine r.mono ?_
      rintro w m3 ⟨rfl, b3, k3⟩
      refine ⟨Nat.lt_of_lt_of_le (by simp at hP ⊢; omega : _ < 1000) (szl (Nat.le_refl _)), P1 ++ [p], P2, by simp, rfl, by simp, by simpa using b3, h3.trans k3⟩
  · rintro acc m1 ⟨P1, P2, rfl, e, rfl, h2, h3⟩
    cases P2 with
    | nil => simpa using q m1 (h2.less (by simp)) h3
    | cons p P2 => cases e
end K57
namespace K57
open PySem L2 MI
theorem odd_c {S : List Nat} {m : Mem} {o : MV} (v : VOk S m o) (h1 : opB R0 [false] o = some false := by rfl) (h2 : objB R0 [false] o = some false := by rfl) : Odd S m o := ⟨v, h1, h2⟩
@[simp] theorem W_mul_r {a : Nat} {j : Int} {m : Mem} {Q : MV → Mem → Prop} {E : Exn → Mem → Prop} : MI.W (gMul (.ref a) (.int j) m) Q E = match m[a]? with
    | some (.lst xs) => if 0 ≤ j ∧ j ≤ 1000 ∧ xs.length ≤ 1000 then Q (.ref m.length) (m ++ [.lst (List.replicate j.toNat xs).flatten]) else False
    | _ => False := by
  cases ha : m[a]? with
  | none => unfold gMul; simp [mutOf_ref, ha]
  | some o =>
    cases o with
    | lst xs =>
      unfold gMul
      simp only [mutOf_ref, ha]
      split <;> rfl
    | _ => unfold gMul; simp [mutOf_ref, ha]
abbrev gWords : List MV := [.str "good", .str "good", .str "good", .str "good", .str "machine", .str "machine", .str "machine", .str "machine"]
theorem das_words : Das gWords := ⟨by decide +kernel, by decide +kernel, by decide +kernel⟩
abbrev flags : List Bool := [true, true, true, true, false, false, false, false]
theorem chkC_ok {k : Nat} {s c n : Nat} {m : Mem} {w : Str} {x1 x3 x4 x5 x6 : Option MV} {Q : Fl → Mem → Prop} {E : Exn → Mem → Prop} (a : Bud m s c (n + 32)) (hw : w ∈ consts)
    (q : ∀ x m', Bud m' s c n → Kp [s, c] m m' → Q (.nx [some (.ref s), x1, some (.str w), x3, x, x5, x6]) m') : MI.W (chkC (Tab (k + 50)) [some (.ref s), x1, some (.str w), x3, x4, x5, x6] m) Q E := by
  have sz : ∀ n, n ≤ 1000 → n ≤ sizeLine := fun n h => szl h
  unfold chkC
  simp [sz, Nat.add_assoc]
  refine (spots_ok (k := k + 47)).mono ?_
  rintro d m1 ⟨n1, rfl, g1, g2, k1⟩
  simp [g1, wipeM, Nat.add_assoc]
  have hn := a.new g2
  have v : VOk [s, c] m (.tup [.str w]) := v1 (vs (by simp at hw; rcases hw with rfl | rfl | rfl <;> decide))
  have h1 : opB R0 [false] (.tup [.str w]) = some true := by unfold opB; simp only [hw, decide_true]
  have h2 : objB R0 [false] (.tup [.str w]) = some false := rfl
  have hz : ∀ p ∈ (spotT (.tup [.str w])).zip flags, TreeIs p.2 (behind p.1) := by
    intro p hp n hn
    rw [show 40 - n = (38 - n) + 2 by omega, behind_tree (by omega), show 38 - n + 1 = (37 - n) + 2 by omega]
    exact zip_flags (g := flags) (spot_trees h1 h2 (37 - n) (1 + n + 1) (by omega)) p hp
  have eL : spotsV (.tup [.str w]) = (((spotT (.tup [.str w])).zip flags).map fun p => (behind p.1, p.2)).map (·.1) := rfl
  rw [eL] at g1 ⊢
  refine words_ok (k := k) (n := n) (j := 5) (ρ := [some (.ref s), x1, some (.str w), x3, x4, none, x6]) (P := ((spotT (.tup [.str w])).zip flags).map fun p => (behind p.1, p.2)) rfl (by decide) (by simp) ((a.any k1).less (by simp [spotT])) (by simp [spotT]) (fun p hp => ?_) (fun p hp => ?_) (fun m' km => ?_) (fun m' bm km => ?_)
  · obtain ⟨u, hu, rfl⟩ := List.mem_map.mp hp
    exact spots_v (v.kp (kps k1)) _ (List.mem_map_of_mem (List.of_mem_zip hu).1)
  · obtain ⟨u, hu, rfl⟩ := List.mem_map.mp hp
    exact hz u hu
  · simp [km.get g1 hn]
  · have ew : ((((spotT (.tup [.str w])).zip flags).map fun p => (behind p.1, p.2)).map fun p => MV.str (wordOf p.2)) = gWords := rfl
    rw [ew]
    refine W_eqL (l := gWords) (k := gWords) (by simp) (by rw [at_app]; rfl) das_words das_words fun z hz => ?_
    rw [hz.mpr rfl]
    simp
    exact q _ _ (bm.any Kp.app) (((kps k1).trans km).trans Kp.app)
theorem opnT_ok {k : Nat} {M0 m : Mem} {s c n N x : Nat} {x2 x6 : Option MV} (a : Bud M0 s c (n + 2600)) (O : OddAt M0 s c N x m) (nx : x ∉ [s, c]) (hN : N ≤ 60) :
    MI.W (opnT (Tab (k + 50)) [some (.ref s), some (.ref x), x2, none, none, none, x6] m) (fin (fun d m' => d = .bl true ∧ Bud m' s c n ∧ Kp [s, c] M0 m') E0) E0 := by
  have sz : ∀ n, n ≤ 1000 → n ≤ sizeLine := fun n h => szl h
  obtain ⟨⟨L, h1, h2, h3⟩, k0⟩ := O
  unfold opnT
  simp [h1]
  refine W_loop (fun l ρ m' => (∃ x3, ρ = [some (.ref s), some (.ref x), x2, x3, none, none, x6]) ∧ (∀ o ∈ l, Odd [s, c] m' o) ∧ Bud m' s c (n + 200 + 32 * l.length) ∧ Kp [s, c] m m') _ _ _ ⟨⟨_, rfl⟩, h3, (a.any k0).less (by omega), Kp.refl⟩ ?_ ?_ ?_
  · rintro l ρ m' ⟨_, _, _, km⟩
    simp [km.get h1 nx]
  · rintro o l ρ m' ⟨⟨x3, rfl⟩, hl, hb, km⟩
    have ho := hl o (by simp)
    refine chkO_ok (k := k) (n := n + 200 + 32 * l.length) false rfl (hb.less (by simp; omega)) ho.v ho.op ho.ob (fun m2 b2 k2 => ?_)
    exact ⟨⟨_, rfl⟩, fun o' h' => (hl o' (by simp [h'])).kp k2, b2, km.trans k2⟩
  · rintro ρ m1 ⟨⟨x3, rfl⟩, _, b1, k1⟩
    simp [sz, Nat.add_assoc]
    have r1 : ∀ r : List MO, Kp [] m1 (m1 ++ r) := fun r => Kp.app
    refine W_loop (fun l ρ m' => (∃ x3, ρ = [some (.ref s), some (.ref x), x2, x3, none, none, x6]) ∧ (∀ o ∈ l, o = good ∨ o = .tup [.str "parameter", .int 0]) ∧ Bud m' s c (n + 100 + 32 * l.length) ∧ Kp [s, c] (m1 ++ [.lst [good, .tup [.str "parameter", .int 0]]]) m') _ _ _ ⟨⟨_, rfl⟩, by simp, (b1.any Kp.push).less (by simp), Kp.refl⟩ ?_ ?_ ?_
    · rintro l ρ m' ⟨_, _, _, km⟩
      have nm := b1.new (Nat.le_refl m1.length)
      have := km.get (n := m1.length) (o := .lst [good, .tup [.str "parameter", .int 0]]) (by simp) nm
      simp [this]
    · rintro o l ρ m' ⟨⟨x3, rfl⟩, hl, hb, km⟩
      have ho : opB R0 [false] o = some true ∧ objB R0 [false] o = some true ∧ VOk [s, c] m' o := by
        rcases hl o (by simp) with rfl | rfl
        · exact ⟨rfl, rfl, vp vs vi⟩
        · exact ⟨rfl, rfl, vp vs vi⟩
      refine chkO_ok (k := k) (n := n + 100 + 32 * l.length) true rfl (hb.less (by simp; omega)) ho.2.2 ho.1 ho.2.1 (fun m2 b2 k2 => ?_)
      exact ⟨⟨_, rfl⟩, fun o' h' => hl o' (by simp [h']), b2, km.trans k2⟩
    · rintro ρ m2 ⟨⟨x3, rfl⟩, _, b2, k2⟩
      simp [sz, Nat.add_assoc]
      refine W_loop (fun l ρ m' => (∃ x2 x3 x4, ρ = [some (.ref s), some (.ref x), x2, x3, x4, none, x6]) ∧ (∀ o ∈ l, ∃ w, o = .str w ∧ w ∈ consts) ∧ Bud m' s c (n + 32 * l.length) ∧ Kp [s, c] (m2 ++ [.lst [.str "none", .str "true", .str "false"]]) m') _ _ _ ⟨⟨_, _, _, rfl⟩, by simp, (b2.any Kp.push).less (by simp), Kp.refl⟩ ?_ ?_ ?_
      · rintro l ρ m' ⟨_, _, _, km⟩
        have nm := b2.new (Nat.le_refl m2.length)
        have := km.get (n := m2.length) (o := .lst [.str "none", .str "true", .str "false"]) (by simp) nm
        simp [this]
      · rintro o l ρ m' ⟨⟨x2, x3, x4, rfl⟩, hl, hb, km⟩
        obtain ⟨w, rfl, hw⟩ := hl o (by simp)
        refine chkC_ok (k := k) (n := n + 32 * l.length) (hb.less (by simp; omega)) hw (fun x' m3 b3 k3 => ?_)
        exact ⟨⟨_, _, _, rfl⟩, fun o' h' => hl o' (by simp [h']), b3, km.trans k3⟩
      · rintro ρ m3 ⟨⟨x2, x3, x4, rfl⟩, _, b3, k3⟩
        simp
        exact ⟨b3.less (by simp), ((((kps k0).trans k1).trans (kps Kp.push)).trans k2).trans ((kps Kp.push).trans k3)⟩
theorem opnds_ok {k : Nat} {m : Mem} {s c n : Nat} (a : Bud m s c (n + 3000)) : MI.W (Tab (k + 51) .l_operands [.ref s] m) (fun d m' => d = .bl true ∧ Bud m' s c n ∧ Kp [s, c] m m') E0 := by
  have sz : ∀ n, n ≤ 1000 → n ≤ sizeLine := fun n h => szl h
  show MI.W (f_l_operands (Tab (k + 50)) [.ref s] m) _ _
  unfold f_l_operands
  rw [b_opn]
  simp [startM, sz, pw25, -W_add_r]
  have g0 : ∀ a b : MO, (m ++ [a, b])[m.length]? = some a := by intro a b; simp
  have g1 : ∀ a b : MO, (m ++ [a, b])[m.length + 1]? = some b := fun a b => by rw [at_app]; rfl
  have kM : ∀ a b : MO, Kp [] m (m ++ [a, b]) := fun a b => Kp.app
  have e0 := g0 (MO.lst [MV.tup [MV.str "place", MV.int 0], MV.tup [MV.str "place", MV.int 10000000000000000000000000], MV.tup [MV.str "parameter", MV.int 1], MV.tup [MV.str "parameter", MV.int 2], MV.tup [MV.str "parameter", MV.int 0, MV.int 0], MV.tup [MV.str "event", MV.int 1]]) (MO.lst [MV.str "place", MV.str "parameter", MV.str "event"])
  have e1 := g1 (MO.lst [MV.tup [MV.str "place", MV.int 0], MV.tup [MV.str "place", MV.int 10000000000000000000000000], MV.tup [MV.str "parameter", MV.int 1], MV.tup [MV.str "parameter", MV.int 2], MV.tup [MV.str "parameter", MV.int 0, MV.int 0], MV.tup [MV.str "event", MV.int 1]]) (MO.lst [MV.str "place", MV.str "parameter", MV.str "event"])
  have k0 := kM (MO.lst [MV.tup [MV.str "place", MV.int 0], MV.tup [MV.str "place", MV.int 10000000000000000000000000], MV.tup [MV.str "parameter", MV.int 1], MV.tup [MV.str "parameter", MV.int 2], MV.tup [MV.str "parameter", MV.int 0, MV.int 0], MV.tup [MV.str "event", MV.int 1]]) (MO.lst [MV.str "place", MV.str "parameter", MV.str "event"])
  generalize (m ++ [MO.lst [MV.tup [MV.str "place", MV.int 0], MV.tup [MV.str "place", MV.int 10000000000000000000000000], MV.tup [MV.str "parameter", MV.int 1], MV.tup [MV.str "parameter", MV.int 2], MV.tup [MV.str "parameter", MV.int 0, MV.int 0], MV.tup [MV.str "event", MV.int 1]], MO.lst [MV.str "place", MV.str "parameter", MV.str "event"]]) = M0 at e0 e1 k0 ⊢
  have a0 := a.any k0
  refine W_loop (fun l ρ m' => ∃ x N x2 x6, ρ = [some (.ref s), some (.ref x), x2, none, none, none, x6] ∧ OddAt M0 s c N x m' ∧ N + 9 * l.length ≤ 33 ∧ ∀ w ∈ l, ∃ w', w = .str w' ∧ w' ∈ (["place", "parameter", "event"] : List Str)) _ _ _ ?_ ?_ ?_ ?_
  · refine ⟨_, 6, _, _, rfl, ⟨⟨_, e0, by simp, ?_⟩, Kp.refl⟩, by simp, by simp⟩
    intro o ho
    simp at ho
    rcases ho with rfl | rfl | rfl | rfl | rfl | rfl
    · exact odd_c (vp vs vi)
    · exact odd_c (vp vs vi)
    · exact odd_c (vp vs vi)
    · exact odd_c (vp vs vi)
    · exact odd_c (v3 vs vi vi)
    · exact odd_c (vp vs vi)
  · rintro l ρ m' ⟨x, N, x2, x6, rfl, O, _, _⟩
    simp [O.kp.get e1 (by simp)]
  · rintro d l ρ m' ⟨x, N, x2, x6, rfl, O, hN, hw⟩
    obtain ⟨w, rfl, h1⟩ := hw d (by simp)
    simp at hN
    refine add9_ok (n := n) ((a0.any O.kp).less (by omega)) h1 O (by omega) (fun x' m2 O2 => ?_)
    exact ⟨_, _, _, _, rfl, O2, by omega, fun w hw' => hw w (by simp [hw'])⟩
  · rintro ρ m' ⟨x, N, x2, x6, rfl, O, hN, _⟩
    simp [sz, -W_add_r]
    refine W_pure (fun d => .tup [d, .int 0]) (fun _ => true) (by simp) (fun d hd => ⟨rfl, fun _ => by simp [mTup, mCons, mVar, mNil, mC, Re.bind, wipeM, sz]⟩) (by simp) ?_
    rw [filter_all]
    refine add_step O (Kp.push.trans Kp.push) List.getElem?_concat_length ?_ (by simp at hN ⊢; omega) (fun L1 O1 => ?_)
    · intro o ho
      obtain ⟨d, hd, rfl⟩ := List.mem_map.mp ho
      simp at hd
      rcases hd with rfl | rfl | rfl | rfl | rfl | rfl
      · exact odd_word vs (.inl ⟨_, rfl, by decide, by decide, by decide⟩)
      · exact odd_word vs (.inl ⟨_, rfl, by decide, by decide, by decide⟩)
      · exact odd_word vs (.inl ⟨_, rfl, by decide, by decide, by decide⟩)
      · exact odd_word vs (.inl ⟨_, rfl, by decide, by decide, by decide⟩)
      · exact odd_word (by simp) (.inr rfl)
      · exact odd_word vs (.inl ⟨_, rfl, by decide, by decide, by decide⟩)
    refine W_pure (fun d => .tup [d]) (fun _ => true) (by simp) (fun d hd => ⟨rfl, fun _ => by simp [mTup, mCons, mVar, mNil, mC, Re.bind, wipeM, sz]⟩) (by simp) ?_
    rw [filter_all]
    refine add_step O1 (Kp.push.trans Kp.push) List.getElem?_concat_length ?_ (by simp at hN ⊢; omega) (fun L2 O2 => ?_)
    · intro o ho
      obtain ⟨d, hd, rfl⟩ := List.mem_map.mp ho
      simp at hd
      rcases hd with rfl | rfl | rfl | rfl | rfl | rfl | rfl
      · exact odd_one vs (.inl ⟨_, rfl, by decide⟩)
      · exact odd_one vs (.inl ⟨_, rfl, by decide⟩)
      · exact odd_one vs (.inl ⟨_, rfl, by decide⟩)
      · exact odd_one vs (.inl ⟨_, rfl, by decide⟩)
      · exact odd_one vs (.inl ⟨_, rfl, by decide⟩)
      · exact odd_one (by simp) (.inr rfl)
      · exact odd_one vs (.inl ⟨_, rfl, by decide⟩)
    have b2 := a0.any O2.kp
    have j0 := b2.new (Nat.le_refl _)
    have j1 := b2.new (Nat.le_succ _)
    refine add_step O2 Kp.app (by rw [Nat.add_assoc, at_app]; rfl) ?_ (by simp at hN ⊢; omega) (fun L3 O3 => ?_)
    · intro o ho
      have q0 : Das [MV.str "none"] := ⟨by decide +kernel, by decide +kernel, by decide +kernel⟩
      have q1 : Das [MV.str "event", MV.int 0] := ⟨by decide +kernel, by decide +kernel, by decide +kernel⟩
      rcases List.mem_cons.mp ho with rfl | ho
      · exact odd_c v0
      rcases List.mem_cons.mp ho with rfl | ho
      · exact odd_c (by simp)
      rcases List.mem_cons.mp ho with rfl | ho
      · exact odd_c (vref (l := [MV.str "none"]) (by rw [← Nat.add_zero (List.length _), at_app]; rfl) q0 j0)
      rcases List.mem_cons.mp ho with rfl | ho
      · exact odd_c vs
      rcases List.mem_cons.mp ho with rfl | ho
      · exact odd_c (vp vs (v1 vs))
      rcases List.mem_cons.mp ho with rfl | ho
      · exact odd_c (vref (l := [MV.str "event", MV.int 0]) (by rw [at_app]; rfl) q1 j1)
      rcases List.mem_cons.mp ho with rfl | ho
      · exact odd_c (v1 vs)
      rcases List.mem_cons.mp ho with rfl | ho
      · exact odd_c vi
      · cases ho
    refine (opnT_ok (k := k) (n := n) (a0.less (by omega)) O3 ((a0.any (O2.kp.trans Kp.app)).new (Nat.le_refl _)) (by simp at hN ⊢; omega)).mono ?_
    intro a m3 q
    cases a with
    | nx ρ => obtain ⟨h1, _⟩ := q; cases h1
    | rt d => exact ⟨q.1, q.2.1, (kps k0).trans q.2.2⟩
    | bk ρ => exact q
    | ct ρ => exact q
    | ex x ρ => exact q
end K57
namespace K57
open PySem L2 MI
mutual
theorem Off.cons {S : List Nat} {m : Mem} {j : Nat} (hj : m.length ≤ j) : ∀ (d : MV), TyV m d → Off S d → Off (j :: S) d
  | .tup l, h, o => by
    unfold TyV at h
    unfold Off at o ⊢
    exact Offs.cons hj l h.1 o
  | .ref n, h, o => by
    unfold TyV at h
    unfold Off at o ⊢
    have : n < m.length := by
      rcases h with ⟨l, a, b⟩ | ⟨l, a⟩
      · exact (List.getElem?_eq_some_iff.mp a).1
      · exact (List.getElem?_eq_some_iff.mp a).1
    simp
    exact ⟨by omega, o⟩
  | .str _, _, _ => by unfold Off; trivial
  | .kl _, _, _ => by unfold Off; trivial
  | .int _, _, _ => by unfold Off; trivial
  | .bl _, _, _ => by unfold Off; trivial
  | .non, _, _ => by unfold Off; trivial
theorem Offs.cons {S : List Nat} {m : Mem} {j : Nat} (hj : m.length ≤ j) : ∀ (l : List MV), TyVs m l → Offs S l → Offs (j :: S) l
  | [], _, _ => by unfold Offs; trivial
  | d :: r, h, o => by
    unfold TyVs at h
    unfold Offs at o ⊢
    exact ⟨Off.cons hj d h.1 o.1, Offs.cons hj r h.2 o.2⟩
end
mutual
theorem Off.tail {S : List Nat} {j : Nat} : ∀ (d : MV), Off (j :: S) d → Off S d
  | .tup l, o => by
    unfold Off at o ⊢
    exact Offs.tail l o
  | .ref n, o => by
    unfold Off at o ⊢
    simp at o
    exact o.2
  | .str _, _ => by unfold Off; trivial
  | .kl _, _ => by unfold Off; trivial
  | .int _, _ => by unfold Off; trivial
  | .bl _, _ => by unfold Off; trivial
  | .non, _ => by unfold Off; trivial
theorem Offs.tail {S : List Nat} {j : Nat} : ∀ (l : List MV), Offs (j :: S) l → Offs S l
  | [], _ => by unfold Offs; trivial
  | d :: r, o => by
    unfold Offs at o ⊢
    exact ⟨Off.tail d o.1, Offs.tail r o.2⟩
end
theorem VOk.cons {S : List Nat} {m : Mem} {d : MV} {j : Nat} (h : VOk S m d) (hj : m.length ≤ j) : VOk (j :: S) m d := ⟨h.ty, Off.cons hj d h.ty h.off⟩
theorem VOk.tail {S : List Nat} {m : Mem} {d : MV} {j : Nat} (h : VOk (j :: S) m d) : VOk S m d := ⟨h.ty, Off.tail d h.off⟩
/-- a list at x, behind M0, of things that are P; nothing else is written -/
structure LsAt (P : MV → Prop) (S : List Nat) (M0 : Mem) (N x : Nat) (m' : Mem) : Prop where
  ex : ∃ L, m'[x]? = some (.lst L) ∧ L.length ≤ N ∧ (∀ t ∈ L, VOk (x :: S) m' t) ∧ ∀ t ∈ L, P t
  nw : M0.length ≤ x
  kp : Kp [] M0 m'
section
variable {P : MV → Prop} {S : List Nat} {M0 m m' : Mem} {N x : Nat}
theorem LsAt.more (O : LsAt P S M0 N x m) (k : Kp [] m m') : LsAt P S M0 N x m' := by
  obtain ⟨⟨L, h1, h2, h3, h4⟩, h5, h6⟩ := O
  exact ⟨⟨L, k.get h1 (by simp), h2, fun t ht => (h3 t ht).kp (kps k), h4⟩, h5, h6.trans k⟩
theorem LsAt.app {L : List MV} {t : MV} (O : LsAt P S M0 N x m) (h : m[x]? = some (.lst L)) (hv : VOk (x :: S) m t) (hp : P t) : LsAt P S M0 (N + 1) x (m.set x (.lst (L ++ [t]))) := by
  obtain ⟨⟨L', h1, h2, h3, h4⟩, h5, h6⟩ := O
  rw [h] at h1
  cases h1
  have lx : x < m.length := (List.getElem?_eq_some_iff.mp h).1
  have k : Kp (x :: S) m (m.set x (.lst (L ++ [t]))) := Kp.wr (by simp)
  refine ⟨⟨L ++ [t], List.getElem?_set_self lx, by simp; omega, fun u hu => ?_, fun u hu => ?_⟩, h5, h6.wrNew h5⟩
  · rcases List.mem_append.mp hu with hu | hu
    · exact (h3 u hu).kp k
    · simp at hu; subst hu; exact hv.kp k
  · rcases List.mem_append.mp hu with hu | hu
    · exact h4 u hu
    · simp at hu; subst hu; exact hp
theorem LsAt.new {L : List MV} (k : Kp [] M0 m) (hv : ∀ t ∈ L, VOk S m t) (hp : ∀ t ∈ L, P t) : LsAt P S M0 L.length m.length (m ++ [.lst L]) := by
  refine ⟨⟨L, by simp, Nat.le_refl _, fun t ht => ((hv t ht).cons (Nat.le_refl _)).kp (kps Kp.push), hp⟩, k.1, k.trans Kp.push⟩
theorem LsAt.less {N' : Nat} (O : LsAt P S M0 N x m) (h : N ≤ N') : LsAt P S M0 N' x m := by
  obtain ⟨⟨L, h1, h2, h3, h4⟩, h5, h6⟩ := O
  exact ⟨⟨L, h1, by omega, h3, h4⟩, h5, h6⟩
theorem ls_add {m2 : Mem} {y : Nat} {L2 : List MV} {Q : MV → Mem → Prop} {E : Exn → Mem → Prop} (O : LsAt P S M0 N x m) (k : Kp [] m m2) (hy : m2[y]? = some (.lst L2)) (hv : ∀ t ∈ L2, VOk S m2 t) (hp : ∀ t ∈ L2, P t) (hN : N + L2.length ≤ 1000)
    (q : ∀ L, LsAt P S M0 (N + L2.length) m2.length (m2 ++ [.lst L]) → Q (.ref m2.length) (m2 ++ [.lst L])) : MI.W (gAdd (.ref x) (.ref y) m2) Q E := by
  obtain ⟨⟨L, h1, hl, h3, h4⟩, h5, h6⟩ := O.more k
  rw [W_add_l h1 hy]
  refine ⟨szl (by omega), q _ ?_⟩
  have r := LsAt.new (P := P) (S := S) (M0 := M0) (L := L ++ L2) h6 (fun t ht => by
    rcases List.mem_append.mp ht with ht | ht
    · exact (h3 t ht).tail
    · exact hv t ht) (fun t ht => by
    rcases List.mem_append.mp ht with ht | ht
    · exact h4 t ht
    · exact hp t ht)
  exact r.less (by simp; omega)
/-- for d in l: list.append(F d) -/
theorem app_loop {l : List MV} {i : Nat} {e : ME} {F : MV → MV} {ρ : MI.Env} {chk : Mem → Prop} {j : Nat} {Q : Fl → Mem → Prop} {E : Exn → Mem → Prop} (O : LsAt P S M0 N x m) (hj : ρ[j]? = some (some (.ref x))) (hij : i ≠ j) (hN : N + l.length ≤ 1000) (hv : ∀ d ∈ l, VOk (x :: S) m d)
    (hF : ∀ d m', d ∈ l → VOk (x :: S) m' d → VOk (x :: S) m' (F d)) (hP : ∀ d ∈ l, P (F d)) (he : ∀ d m', d ∈ l → e (ρ.set i (some d)) m' = .ok (F d) m') (hc : ∀ m', Kp (x :: S) m m' → chk m')
    (q : ∀ y m', LsAt P S M0 (N + l.length) x m' → Kp (x :: S) m m' → Q (.nx (ρ.set i y)) m') : MI.W (loopM chk (nName i) (mDrop (mBM gAppend (mVar j) (mCons e mNil))) l ρ m) Q E := by
  refine W_loop (fun r ρ' m' => (∃ y, ρ' = ρ.set i y) ∧ (∃ n, n + r.length = N + l.length ∧ LsAt P S M0 n x m') ∧ (∀ d ∈ r, d ∈ l) ∧ Kp (x :: S) m m') _ _ _ ?_ ?_ ?_ ?_
  · refine ⟨⟨(ρ[i]?).getD none, ?_⟩, ⟨N, rfl, O⟩, fun d h => h, Kp.refl⟩
    refine List.ext_getElem? fun n => ?_
    by_cases hn : i = n
    · subst hn
      by_cases hl : i < ρ.length
      · rw [List.getElem?_set_self hl]; simp [hl]
      · rw [List.getElem?_eq_none (by omega), List.getElem?_eq_none (by simp; omega)]
    · rw [List.getElem?_set_ne hn]
  · rintro r ρ' m' ⟨_, _, _, k⟩
    exact hc m' k
  · rintro d r ρ' m' ⟨⟨y, rfl⟩, ⟨n, hn, O'⟩, hr, k⟩
    have hd := hr d (by simp)
    obtain ⟨L, g1, g2, g3, g4⟩ := O'.ex
    have e1 : ((ρ.set i y).set i (some d)) = ρ.set i (some d) := by simp
    have e2 : (ρ.set i (some d))[j]? = some (some (.ref x)) := by rw [List.getElem?_set_ne hij]; exact hj
    rw [e1]
    simp at hn
    simp [e2, he d _ hd, g1]
    refine ⟨Nat.lt_of_lt_of_le (by omega : L.length < 1000) (szl (Nat.le_refl _)), ⟨_, rfl⟩, ⟨n + 1, by omega, O'.app g1 (hF d _ hd ((hv d hd).kp k)) (hP d hd)⟩, fun d' h => hr d' (by simp [h]), k.trans (Kp.wr (by simp))⟩
  · rintro ρ' m' ⟨⟨y, rfl⟩, ⟨n, hn, O'⟩, _, k⟩
    simp at hn
    exact q y m' (hn ▸ O') k
end
end K57
namespace K57
open PySem L2 MI
noncomputable def chkL (ck : Fnm → MF) (a j : Nat) (w : Str) : MS := (mIfS (mB (mBin (gEqA true) (mLc (mAnyI (mVar a)) (ngName j) (mB (mBin (gEqA true) (mCall (ck .l_word) (mCons (mCall (ck .l_with_tree) (mCons (mVar 0) (mCons (mVar j) mNil))) mNil)) (mC (.str w)))) (mVar j) [j]) (mLst mNil)))
    (mRet (mC (.bl false)))
    mSkip)
noncomputable def retL (ck : Fnm → MF) (a j : Nat) (w : Str) : MS := (mRet (mBin gEqE (mLc (mAnyI (mVar a)) (ngName j) (mB (mBin (gEqA true) (mCall (ck .l_word) (mCons (mCall (ck .l_with_tree) (mCons (mVar 0) (mCons (mVar j) mNil))) mNil)) (mC (.str w)))) (mVar j) [j]) (mLst mNil)))
theorem wipe1 {ρ : MI.Env} {j : Nat} : wipeM ρ [j] = ρ.set j none := rfl
section
variable {k : Nat} {s c n a j N x : Nat} {w : Str} {b : Bool} {ρ : MI.Env} {M0 m : Mem}
theorem chkL_ok {Q : Fl → Mem → Prop} {E : Exn → Mem → Prop} (hw : w = wordOf b) (h0 : ρ[0]? = some (some (.ref s))) (ha : ρ[a]? = some (some (.ref x))) (hj : j ≠ 0) (hl : j < ρ.length) (O : LsAt (TreeIs b) [s, c] M0 N x m) (nx : x ∉ [s, c]) (B : Bud m s c (n + 4 * N))
    (q : ∀ m', Bud m' s c n → Kp [s, c] m m' → Q (.nx ρ) m') : MI.W (chkL (Tab (k + 50)) a j w ρ m) Q E := by
  obtain ⟨⟨L, h1, h2, h3, h4⟩, h5, h6⟩ := O
  unfold chkL
  simp [ha, h1, wipe1]
  refine comp_ok (k := k) (n := n) (ρ := ρ.set j none) b hw (by rw [List.getElem?_set_ne hj]; exact h0) hj (by simpa using hl) (B.less (by omega)) (fun t ht => (h3 t ht).tail) h4 (fun m' km => ?_) (fun m' bm km => ?_)
  · simp [km.get h1 nx]
  · refine empty_ne ?_
    simp
    exact q _ (bm.any Kp.app) (km.trans Kp.app)
theorem retL_ok {Q : Fl → Mem → Prop} {E : Exn → Mem → Prop} (hw : w = wordOf b) (h0 : ρ[0]? = some (some (.ref s))) (ha : ρ[a]? = some (some (.ref x))) (hj : j ≠ 0) (hl : j < ρ.length) (O : LsAt (TreeIs b) [s, c] M0 N x m) (nx : x ∉ [s, c]) (B : Bud m s c (n + 4 * N))
    (q : ∀ m', Bud m' s c n → Kp [s, c] m m' → Q (.rt (.bl true)) m') : MI.W (retL (Tab (k + 50)) a j w ρ m) Q E := by
  obtain ⟨⟨L, h1, h2, h3, h4⟩, h5, h6⟩ := O
  unfold retL
  simp [ha, h1, wipe1]
  refine comp_ok (k := k) (n := n) (ρ := ρ.set j none) b hw (by rw [List.getElem?_set_ne hj]; exact h0) hj (by simpa using hl) (B.less (by omega)) (fun t ht => (h3 t ht).tail) h4 (fun m' km => ?_) (fun m' bm km => ?_)
  · simp [km.get h1 nx]
  · simp
    exact q _ (bm.any Kp.app) (km.trans Kp.app)
end
theorem fail_tree {o : MV} {b : Bool} (h : outB R0 [true] o = some b) : TreeIs b (.tup [.str "ask", .str "f", .tup [], .tup [leaf, .tup [.str "end", o, .int 0, .tup []]]]) := by
  intro n hn
  rw [show 40 - n = (38 - n) + 1 + 1 by omega]
  have nl : ¬ 30 < 1 + n := by omega
  have nl2 : ¬ 30 < 1 + n + 1 := by omega
  conv => lhs; unfold treeB
  rw [if_neg nl]
  show andO (treeB R0 (38 - n + 1) [false] (1 + n + 1) leaf) (treeB R0 (38 - n + 1) [true] (1 + n + 1) (.tup [.str "end", o, .int 0, .tup []])) = some b
  rw [leafF (by omega)]
  show treeB R0 (38 - n + 1) [true] (1 + n + 1) (.tup [.str "end", o, .int 0, .tup []]) = some b
  unfold treeB
  rw [if_neg nl2]
  show endB R0 [true] o (.int 0) (.tup []) = some b
  unfold endB
  rw [h]
  cases b <;> rfl
theorem outP {w : Str} {v : MV} (h : w = "failed" → (numB v 1 && hapB [true] v) = false) (h2 : w ≠ "value") : outB R0 [true] (.tup [.str w, v]) = some false := by
  unfold outB
  by_cases e : w = "failed"
  · subst e
    show some (numB v 1 && hapB [true] v) = some false
    rw [h rfl]
  · simp [e, h2]
abbrev noneO : MV := .tup [.str "value", noneV]
theorem good_v {S : List Nat} {m : Mem} : VOk S m good := vp vs vi
theorem noneO_v {S : List Nat} {m : Mem} : VOk S m noneO := vp vs (v1 vs)
theorem end_v {S : List Nat} {m : Mem} {a b c : MV} (ha : VOk S m a) (hb : VOk S m b) (hc : VOk S m c) : VOk S m (.tup [.str "end", a, b, c]) := vt (by decide) (by decide) (by simp) (by simp; exact ⟨ha, hb, hc⟩)
end K57
namespace K57
open PySem L2 MI
noncomputable def endsD (ck : Fnm → MF) : MS := (mSeq (mAsg (mBin gAdd (mVar 4) (mLst (mCons (mTup (mCons (mC (.str "end")) mNil)) (mCons (mSl (mVar 2) mNo (mEnd (mC (.int 3)))) (mCons (mBin gAdd (mVar 2) (mTup (mCons (mC (.int 0)) mNil))) (mCons (mCall gListA (mCons (mVar 2) mNil)) (mCons (mBin gAdd (mTup (mCons (mC (.str "stop")) mNil)) (mSl (mVar 2) (mEnd (mC (.int 1))) mNo)) (mCons (mC .non) (mCons (mTup mNil) (mCons (mC (.str "end")) (mCons (mC (.int 0)) mNil))))))))))) (nName 4))
    (mSeq (chkL ck 4 11 "machine")
    (mSeq (mAsg (mLst (mCons (mTup (mCons (mC (.str "ask")) (mCons (mC (.str "f")) (mCons (mTup mNil) (mCons (mTup (mCons (mVar 2) (mCons (mTup (mCons (mC (.str "end")) (mCons (mTup (mCons (mC (.str "failed")) (mCons (mC (.int 0)) mNil))) (mCons (mC (.int 0)) (mCons (mTup mNil) mNil))))) mNil))) mNil))))) (mCons (mCall (ck .l_behind) (mCons (mTup (mCons (mC (.str "end")) (mCons (mVar 1) (mCons (mC (.int 1)) (mCons (mTup (mCons (mVar 3) mNil)) mNil))))) mNil)) mNil))) (nName 9))
    (mSeq (mAsg (mBin gAdd (mVar 9) (mLst (mCons (mCall (ck .l_behind) (mCons (mTup (mCons (mC (.str "end")) (mCons (mVar 1) (mCons (mC (.int 2)) (mCons (mTup (mCons (mVar 3) (mCons (mVar 3) mNil))) mNil))))) mNil)) (mCons (mVar 2) mNil)))) (nName 9))
    (retL ck 9 11 "good")))))
noncomputable def endsC3 (ck : Fnm → MF) : MS := (mSeq (mFor (mAnyI (mLst (mCons (mC (.int 3)) (mCons (mNeg (mC (.int 1))) (mCons (mC (.bl true)) (mCons (mC (.bl false)) (mCons (mC .non) (mCons (mC (.str "0")) (mCons (mLst mNil) (mCons (mBin gPow (mC (.int 10)) (mC (.int 25))) mNil)))))))))) (nName 7)
    (mDrop (mBM gAppend (mVar 4) (mCons (mTup (mCons (mC (.str "end")) (mCons (mVar 1) (mCons (mVar 7) (mCons (mTup mNil) mNil))))) mNil))))
    (endsD ck))
noncomputable def endsC2 (ck : Fnm → MF) : MS := (mSeq (mFor (mAnyI (mLst (mCons (mLst mNil) (mCons (mC .non) (mCons (mC (.str "")) (mCons (mLst (mCons (mVar 3) mNil)) mNil)))))) (nName 8)
    (mAsg (mBin gAdd (mVar 4) (mLst (mCons (mCall (ck .l_behind) (mCons (mTup (mCons (mC (.str "end")) (mCons (mVar 1) (mCons (mC (.int 0)) (mCons (mVar 8) mNil))))) mNil)) (mCons (mCall (ck .l_behind) (mCons (mTup (mCons (mC (.str "end")) (mCons (mVar 1) (mCons (mC (.int 1)) (mCons (mVar 8) mNil))))) mNil)) mNil)))) (nName 4)))
    (endsC3 ck))
noncomputable def endsB (ck : Fnm → MF) : MS := (mSeq (mAsg (mBin gAdd (mVar 4) (mLst (mCons (mCall (ck .l_behind) (mCons (mTup (mCons (mC (.str "end")) (mCons (mTup (mCons (mC (.str "failed")) (mCons (mC (.int 0)) mNil))) (mCons (mC (.int 0)) (mCons (mTup mNil) mNil))))) mNil)) (mCons (mTup (mCons (mC (.str "end")) (mCons (mTup (mCons (mC (.str "failed")) (mCons (mC (.int 0)) mNil))) (mCons (mC (.int 0)) (mCons (mTup mNil) mNil))))) mNil)))) (nName 4))
    (mSeq (mFor (mAnyI (mLst (mCons (mTup (mCons (mC (.int 0)) (mCons (mTup (mCons (mVar 3) mNil)) mNil))) (mCons (mTup (mCons (mC (.int 1)) (mCons (mTup mNil) mNil))) (mCons (mTup (mCons (mC (.int 1)) (mCons (mTup (mCons (mVar 3) (mCons (mVar 3) mNil))) mNil))) (mCons (mTup (mCons (mC (.int 2)) (mCons (mTup (mCons (mVar 3) mNil)) mNil))) (mCons (mTup (mCons (mC (.int 2)) (mCons (mTup (mCons (mVar 3) (mCons (mVar 3) (mCons (mVar 3) mNil)))) mNil))) (mCons (mTup (mCons (mC (.int 2)) (mCons (mTup mNil) mNil))) mNil)))))))) (nTup 2 (nCons (nName 7) (nCons (nName 8) nNil)))
    (mDrop (mBM gAppend (mVar 4) (mCons (mCall (ck .l_behind) (mCons (mTup (mCons (mC (.str "end")) (mCons (mVar 1) (mCons (mVar 7) (mCons (mVar 8) mNil))))) mNil)) mNil))))
    (endsC2 ck)))
noncomputable def endsF (ck : Fnm → MF) : MS := (mSeq (mFor (mAnyI (mVar 5)) (nName 6)
    (mDrop (mBM gAppend (mVar 4) (mCons (mTup (mCons (mC (.str "ask")) (mCons (mC (.str "f")) (mCons (mTup mNil) (mCons (mTup (mCons (mVar 2) (mCons (mTup (mCons (mC (.str "end")) (mCons (mVar 6) (mCons (mC (.int 0)) (mCons (mTup mNil) mNil))))) mNil))) mNil))))) mNil))))
    (endsB ck))
theorem b_ends (ck : Fnm → MF) : b_l_ends ck = (mSeq (mPar3 1 2 3 (mCons (mTup (mCons (mC (.str "value")) (mCons (mTup (mCons (mC (.str "none")) mNil)) mNil))) (mCons (mCall (ck .l_leaf) mNil) (mCons (mTup (mCons (mC (.str "event")) (mCons (mC (.int 0)) mNil))) mNil))))
    (mSeq (mAsg (mLst mNil) (nName 4))
    (mSeq (mAsg (mLc (mAnyI (mLst (mCons (mC (.bl false)) (mCons (mC .non) (mCons (mC (.str "0")) (mCons (mNeg (mC (.int 1))) (mCons (mC (.int 1)) (mCons (mLst mNil) (mCons (mBin gPow (mC (.int 10)) (mC (.int 25))) mNil))))))))) (ngName 7) mYes (mTup (mCons (mC (.str "failed")) (mCons (mVar 7) mNil))) [7]) (nName 5))
    (mSeq (mAsg (mBin gAdd (mVar 5) (mLc (mAnyI (mLst (mCons (mC (.str "raised")) (mCons (mC (.str "wanting")) (mCons (mC (.str "event")) (mCons (mC (.str "")) (mCons (mC .non) mNil))))))) (ngName 10) mYes (mTup (mCons (mVar 10) (mCons (mC (.int 0)) mNil))) [10])) (nName 5))
    (mSeq (mAsg (mBin gAdd (mVar 5) (mLst (mCons (mTup (mCons (mC (.str "failed")) mNil)) (mCons (mTup (mCons (mC (.str "failed")) (mCons (mC (.int 0)) (mCons (mC (.int 0)) mNil)))) (mCons (mTup (mCons (mC (.str "value")) mNil)) (mCons (mTup (mCons (mC (.str "value")) (mCons (mTup (mCons (mC (.str "none")) mNil)) (mCons (mC (.int 0)) mNil)))) (mCons (mTup mNil) (mCons (mC .non) (mCons (mLst (mCons (mC (.str "failed")) (mCons (mC (.int 0)) mNil))) mNil))))))))) (nName 5))
    (mSeq (mDrop (mBM gAppend (mVar 5) (mCons (mC (.str "failed")) mNil)))
    (endsF ck))))))) := rfl
abbrev Fin (s c n : Nat) (m0 : Mem) : Fl → Mem → Prop := fin (fun d m' => d = .bl true ∧ Bud m' s c n ∧ Kp [s, c] m0 m') E0
theorem das_leaf : Das [MV.str "end", .tup [.str "value", .tup [.str "none"]], .int 0, .tup []] := ⟨by decide +kernel, by decide +kernel, by decide +kernel⟩
theorem endsD_ok {k : Nat} {s c n N x : Nat} {M0 m : Mem} {e5 e6 e7 e8 e9 e10 e11 : Option MV} (O : LsAt (TreeIs false) [s, c] M0 N x m) (hN : N ≤ 100) (B : Bud M0 s c (n + 600)) :
    MI.W (endsD (Tab (k + 50)) [some (.ref s), some noneO, some leaf, some good, some (.ref x), e5, e6, e7, e8, e9, e10, e11] m) (Fin s c n M0) E0 := by
  have sz : ∀ n, n ≤ 1000 → n ≤ sizeLine := fun n h => szl h
  have b1 := B.any O.kp
  have c1 : cutM [MV.str "end", MV.tup [MV.str "value", MV.tup [MV.str "none"]], MV.int 0, MV.tup []] (some 1) none = [MV.tup [MV.str "value", MV.tup [MV.str "none"]], MV.int 0, MV.tup []] := rfl
  have c3 : cutM [MV.str "end", MV.tup [MV.str "value", MV.tup [MV.str "none"]], MV.int 0, MV.tup []] none (some 3) = [MV.str "end", MV.tup [MV.str "value", MV.tup [MV.str "none"]], MV.int 0] := rfl
  unfold endsD
  simp [sz, Nat.add_assoc, -W_add_r, c1, c3]
  have j0 := b1.new (Nat.le_refl _)
  refine ls_add O Kp.app (by rw [at_app]; rfl) ?_ ?_ (by simp; omega) (fun L O1 => ?_)
  · intro t ht
    rcases List.mem_cons.mp ht with rfl | ht
    · exact v1 vs
    rcases List.mem_cons.mp ht with rfl | ht
    · exact v3 vs noneO_v vi
    rcases List.mem_cons.mp ht with rfl | ht
    · exact vt (by decide) (by decide) (by simp) (by simp; exact ⟨noneO_v, v0⟩)
    rcases List.mem_cons.mp ht with rfl | ht
    · exact vref (l := [MV.str "end", .tup [.str "value", .tup [.str "none"]], .int 0, .tup []]) (by rw [← Nat.add_zero (List.length _), at_app]; rfl) das_leaf j0
    rcases List.mem_cons.mp ht with rfl | ht
    · exact vt (by decide) (by decide) (by simp) (by simp; exact ⟨noneO_v, v0⟩)
    rcases List.mem_cons.mp ht with rfl | ht
    · simp
    rcases List.mem_cons.mp ht with rfl | ht
    · exact v0
    rcases List.mem_cons.mp ht with rfl | ht
    · exact vs
    rcases List.mem_cons.mp ht with rfl | ht
    · exact vi
    · cases ht
  · intro t ht
    rcases List.mem_cons.mp ht with rfl | ht
    · (intro n hn; match n, hn with | 0, _ => kernel_rfl | 1, _ => kernel_rfl | 2, _ => kernel_rfl | 3, _ => kernel_rfl)
    rcases List.mem_cons.mp ht with rfl | ht
    · (intro n hn; match n, hn with | 0, _ => kernel_rfl | 1, _ => kernel_rfl | 2, _ => kernel_rfl | 3, _ => kernel_rfl)
    rcases List.mem_cons.mp ht with rfl | ht
    · (intro n hn; match n, hn with | 0, _ => kernel_rfl | 1, _ => kernel_rfl | 2, _ => kernel_rfl | 3, _ => kernel_rfl)
    rcases List.mem_cons.mp ht with rfl | ht
    · (intro n hn; match n, hn with | 0, _ => kernel_rfl | 1, _ => kernel_rfl | 2, _ => kernel_rfl | 3, _ => kernel_rfl)
    rcases List.mem_cons.mp ht with rfl | ht
    · (intro n hn; match n, hn with | 0, _ => kernel_rfl | 1, _ => kernel_rfl | 2, _ => kernel_rfl | 3, _ => kernel_rfl)
    rcases List.mem_cons.mp ht with rfl | ht
    · (intro n hn; match n, hn with | 0, _ => kernel_rfl | 1, _ => kernel_rfl | 2, _ => kernel_rfl | 3, _ => kernel_rfl)
    rcases List.mem_cons.mp ht with rfl | ht
    · (intro n hn; match n, hn with | 0, _ => kernel_rfl | 1, _ => kernel_rfl | 2, _ => kernel_rfl | 3, _ => kernel_rfl)
    rcases List.mem_cons.mp ht with rfl | ht
    · (intro n hn; match n, hn with | 0, _ => kernel_rfl | 1, _ => kernel_rfl | 2, _ => kernel_rfl | 3, _ => kernel_rfl)
    rcases List.mem_cons.mp ht with rfl | ht
    · (intro n hn; match n, hn with | 0, _ => kernel_rfl | 1, _ => kernel_rfl | 2, _ => kernel_rfl | 3, _ => kernel_rfl)
    · cases ht
  have nx1 := B.new O1.nw
  refine chkL_ok (n := n + 100) (b := false) rfl rfl rfl (by decide) (by simp) O1 nx1 ((B.any O1.kp).less (by simp; omega)) (fun m2 b2 k2 => ?_)
  simp [sz, Nat.add_assoc, -W_add_r]
  refine behind_ok (k := k + 48) ?_
  try simp [sz, Nat.add_assoc, -W_add_r]
  refine behind_ok (k := k + 48) ?_
  try simp [sz, Nat.add_assoc, -W_add_r]
  have two : ∀ (m : Mem) (a b : MO), m ++ [a, b] = (m ++ [a]) ++ [b] := fun m a b => by simp
  have e2 : VOk [s, c] m2 (MV.tup [MV.str "end", noneO, MV.int 1, MV.tup [good]]) := end_v noneO_v vi (v1 good_v)
  refine ls_add (P := TreeIs true) (S := [s, c]) (M0 := m2) (x := m2.length) (LsAt.new (L := [.tup [.str "ask", .str "f", .tup [], .tup [leaf, .tup [.str "end", .tup [.str "failed", .int 0], .int 0, .tup []]]], behind (.tup [.str "end", noneO, .int 1, .tup [good]])]) Kp.refl ?_ ?_) (by rw [two]; exact Kp.push) (by rw [at_app]; rfl) ?_ ?_ (by simp) (fun R OR => ?_)
  · intro t ht
    rcases List.mem_cons.mp ht with rfl | ht
    · exact va vs (.inl ⟨_, rfl⟩) v0 (vp leaf_v (end_v (vp vs vi) vi v0))
    rcases List.mem_cons.mp ht with rfl | ht
    · exact behind_v (end_v noneO_v vi (v1 good_v))
    · cases ht
  · intro t ht
    rcases List.mem_cons.mp ht with rfl | ht
    · (intro n hn; match n, hn with | 0, _ => kernel_rfl | 1, _ => kernel_rfl | 2, _ => kernel_rfl | 3, _ => kernel_rfl)
    rcases List.mem_cons.mp ht with rfl | ht
    · (intro n hn; match n, hn with | 0, _ => kernel_rfl | 1, _ => kernel_rfl | 2, _ => kernel_rfl | 3, _ => kernel_rfl)
    · cases ht
  · intro t ht
    rcases List.mem_cons.mp ht with rfl | ht
    · exact behind_v (end_v noneO_v vi (vp good_v good_v))
    rcases List.mem_cons.mp ht with rfl | ht
    · exact leaf_v
    · cases ht
  · intro t ht
    rcases List.mem_cons.mp ht with rfl | ht
    · (intro n hn; match n, hn with | 0, _ => kernel_rfl | 1, _ => kernel_rfl | 2, _ => kernel_rfl | 3, _ => kernel_rfl)
    rcases List.mem_cons.mp ht with rfl | ht
    · (intro n hn; match n, hn with | 0, _ => kernel_rfl | 1, _ => kernel_rfl | 2, _ => kernel_rfl | 3, _ => kernel_rfl)
    · cases ht
  refine retL_ok (n := n) (b := true) rfl rfl rfl (by decide) (by simp) OR (b2.new OR.nw) ((b2.any OR.kp).less (by simp)) (fun m3 b3 k3 => ?_)
  exact ⟨rfl, b3, ((kps O1.kp).trans k2).trans ((kps OR.kp).trans k3)⟩
theorem endsC3_ok {k : Nat} {s c n N x : Nat} {M0 m : Mem} {e5 e6 e7 e8 e9 e10 e11 : Option MV} (O : LsAt (TreeIs false) [s, c] M0 N x m) (hN : N ≤ 80) (B : Bud M0 s c (n + 600)) :
    MI.W (endsC3 (Tab (k + 50)) [some (.ref s), some noneO, some leaf, some good, some (.ref x), e5, e6, e7, e8, e9, e10, e11] m) (Fin s c n M0) E0 := by
  have sz : ∀ n, n ≤ 1000 → n ≤ sizeLine := fun n h => szl h
  have b1 := B.any O.kp
  have j0 := b1.new (Nat.le_refl _)
  have lx : x < m.length := (List.getElem?_eq_some_iff.mp O.ex.choose_spec.1).1
  unfold endsC3
  simp [sz, Nat.add_assoc, pw25]
  have two : ∀ (m : Mem) (a b : MO), m ++ [a, b] = (m ++ [a]) ++ [b] := fun m a b => by simp
  refine app_loop (F := fun d => .tup [.str "end", noneO, d, .tup []]) (O.more Kp.app) rfl (by decide) (by simp; omega) ?_ (fun d m' _ hd => end_v noneO_v hd v0) ?_ (fun d m' _ => ?_) (fun m' km => ?_) (fun y m' O' km => ?_)
  · intro d hd
    simp at hd
    rcases hd with rfl | rfl | rfl | rfl | rfl | rfl | rfl | rfl
    · simp
    · simp
    · simp
    · simp
    · simp
    · exact vs
    · exact vref (l := []) (by simp) das_nil (by simp at j0 ⊢; omega)
    · simp
  · intro d hd
    simp at hd
    rcases hd with rfl | rfl | rfl | rfl | rfl | rfl | rfl | rfl <;> (intro n hn; match n, hn with | 0, _ => kernel_rfl | 1, _ => kernel_rfl | 2, _ => kernel_rfl | 3, _ => kernel_rfl)
  · simp [mTup, mCons, mVar, mNil, mC, Re.bind, sz]
  · have := km.get (n := m.length + 1) (o := .lst [.int 3, .int (-1), .bl true, .bl false, .non, .str "0", .ref m.length, .int 10000000000000000000000000]) (by rw [at_app]; rfl) (by have := b1.new (Nat.le_succ m.length); simp at this ⊢; omega)
    simp [this]
  · refine (endsD_ok (k := k) (n := n) (O'.less (Nat.le_refl _)) (by simp; omega) B)
end K57
namespace K57
open PySem L2 MI
theorem behind_eq {k : Nat} {m : Mem} {t : MV} : Tab (k + 2) .l_behind [t] m = Re.ok (behind t) m := W_eq (behind_ok ⟨rfl, rfl⟩)
theorem lsLt {P : MV → Prop} {S : List Nat} {M0 m : Mem} {N x : Nat} (O : LsAt P S M0 N x m) : x < m.length := (List.getElem?_eq_some_iff.mp O.ex.choose_spec.1).1
structure C2I (s c N q : Nat) (M0 m1 : Mem) (e5 e6 e7 e9 e10 e11 : Option MV) (l : List MV) (ρ : MI.Env) (m' : Mem) : Prop where
  ex : ∃ x' y N', ρ = [some (.ref s), some noneO, some leaf, some good, some (.ref x'), e5, e6, e7, y, e9, e10, e11] ∧ LsAt (TreeIs false) [s, c] M0 N' x' m' ∧ N' + 2 * l.length = N + 8 ∧ (∀ d ∈ l, VOk [s, c] m' d ∧ (d = .ref q ∨ d = .non ∨ d = .str "" ∨ d = .ref (q + 1))) ∧ Kp [] m1 m'
theorem endsC2_ok {k : Nat} {s c n N x : Nat} {M0 m : Mem} {e5 e6 e7 e8 e9 e10 e11 : Option MV} (O : LsAt (TreeIs false) [s, c] M0 N x m) (hN : N ≤ 60) (B : Bud M0 s c (n + 600)) :
    MI.W (endsC2 (Tab (k + 50)) [some (.ref s), some noneO, some leaf, some good, some (.ref x), e5, e6, e7, e8, e9, e10, e11] m) (Fin s c n M0) E0 := by
  have sz : ∀ n, n ≤ 1000 → n ≤ sizeLine := fun n h => szl h
  have b1 := B.any O.kp
  have j0 := b1.new (Nat.le_refl _)
  have j1 := b1.new (Nat.le_succ m.length)
  have j2 := b1.new (j := m.length + 2) (by omega)
  unfold endsC2
  simp [sz, Nat.add_assoc]
  have gd : Das [good] := ⟨by decide +kernel, by decide +kernel, by decide +kernel⟩
  refine W_loop (C2I s c N m.length M0 (m ++ [.lst [], .lst [good], .lst [.ref m.length, .non, .str "", .ref (m.length + 1)]]) e5 e6 e7 e9 e10 e11) _ _ _ ?_ ?_ ?_ ?_
  · refine ⟨x, e8, N, rfl, O.more Kp.app, by simp, ?_, Kp.refl⟩
    intro d hd
    simp at hd
    rcases hd with rfl | rfl | rfl | rfl
    · exact ⟨vref (l := []) (by simp) das_nil j0, .inl rfl⟩
    · exact ⟨by simp, .inr (.inl rfl)⟩
    · exact ⟨vs, .inr (.inr (.inl rfl))⟩
    · exact ⟨vref (l := [good]) (by rw [at_app]; rfl) gd j1, .inr (.inr (.inr rfl))⟩
  · rintro l ρ m' ⟨x', y, N', rfl, O', _, _, km⟩
    have := km.get (n := m.length + 2) (o := .lst [.ref m.length, .non, .str "", .ref (m.length + 1)]) (by rw [at_app]; rfl) (by simp)
    simp [this]
  · rintro d l ρ m' ⟨x', y, N', rfl, O', hn, hl, km⟩
    obtain ⟨vd, hd⟩ := hl d (by simp)
    simp at hn
    simp [sz, Nat.add_assoc, -W_add_r]
    rw [behind_eq (k := k + 48)]
    simp [sz, Nat.add_assoc, -W_add_r]
    rw [behind_eq (k := k + 48)]
    simp [sz, Nat.add_assoc, -W_add_r]
    refine ls_add O' Kp.push (by simp; rfl) ?_ ?_ (by simp; omega) (fun L O2 => ?_)
    · intro t ht
      have vd' : VOk [s, c] (m' ++ [MO.lst [behind (.tup [.str "end", noneO, .int 0, d]), behind (.tup [.str "end", noneO, .int 1, d])]]) d := vd.kp (kps Kp.push)
      rcases List.mem_cons.mp ht with rfl | ht
      · exact behind_v (end_v noneO_v vi vd')
      rcases List.mem_cons.mp ht with rfl | ht
      · exact behind_v (end_v noneO_v vi vd')
      · cases ht
    · intro t ht
      rcases List.mem_cons.mp ht with rfl | ht
      · rcases hd with rfl | rfl | rfl | rfl <;> (intro n hn; match n, hn with | 0, _ => kernel_rfl | 1, _ => kernel_rfl | 2, _ => kernel_rfl | 3, _ => kernel_rfl)
      rcases List.mem_cons.mp ht with rfl | ht
      · rcases hd with rfl | rfl | rfl | rfl <;> (intro n hn; match n, hn with | 0, _ => kernel_rfl | 1, _ => kernel_rfl | 2, _ => kernel_rfl | 3, _ => kernel_rfl)
      · cases ht
    · have kk : ∀ a b : MO, Kp [] m' (m' ++ [a] ++ [b]) := fun a b => Kp.push.trans Kp.push
      exact ⟨_, _, N' + 2, rfl, O2, by omega, fun d' h' => ⟨(hl d' (by simp [h'])).1.kp (kps (kk _ _)), (hl d' (by simp [h'])).2⟩, km.trans (kk _ _)⟩
  · rintro ρ m' ⟨x', y, N', rfl, O', hn, _, _⟩
    simp
    exact endsC3_ok (k := k) (n := n) O' (by simp at hn; omega) B
end K57
namespace K57
open PySem L2 MI
structure BI (s c T : Nat) (x : Nat) (M0 : Mem) (e5 e6 e9 e10 e11 : Option MV) (J : List MV) (m1 : Mem) (l : List MV) (ρ : MI.Env) (m' : Mem) : Prop where
  ex : ∃ y z N', ρ = [some (.ref s), some noneO, some leaf, some good, some (.ref x), e5, e6, y, z, e9, e10, e11] ∧ LsAt (TreeIs false) [s, c] M0 N' x m' ∧ N' + l.length = T ∧ (∀ d ∈ l, d ∈ J) ∧ Kp [x] m1 m'
abbrev pairsE : List MV := [.tup [.int 0, .tup [good]], .tup [.int 1, .tup []], .tup [.int 1, .tup [good, good]], .tup [.int 2, .tup [good]], .tup [.int 2, .tup [good, good, good]], .tup [.int 2, .tup []]]
theorem endsB_ok {k : Nat} {s c n N x : Nat} {M0 m : Mem} {e5 e6 e7 e8 e9 e10 e11 : Option MV} (O : LsAt (TreeIs false) [s, c] M0 N x m) (hN : N ≤ 40) (B : Bud M0 s c (n + 600)) :
    MI.W (endsB (Tab (k + 50)) [some (.ref s), some noneO, some leaf, some good, some (.ref x), e5, e6, e7, e8, e9, e10, e11] m) (Fin s c n M0) E0 := by
  have sz : ∀ n, n ≤ 1000 → n ≤ sizeLine := fun n h => szl h
  unfold endsB
  simp [sz, Nat.add_assoc, -W_add_r]
  rw [behind_eq (k := k + 48)]
  simp [sz, Nat.add_assoc, -W_add_r]
  refine ls_add O Kp.push (by simp; rfl) ?_ ?_ (by simp; omega) (fun L O2 => ?_)
  · intro t ht
    rcases List.mem_cons.mp ht with rfl | ht
    · exact behind_v (end_v (vp vs vi) vi v0)
    rcases List.mem_cons.mp ht with rfl | ht
    · exact end_v (vp vs vi) vi v0
    · cases ht
  · intro t ht
    rcases List.mem_cons.mp ht with rfl | ht
    · (intro n hn; match n, hn with | 0, _ => kernel_rfl | 1, _ => kernel_rfl | 2, _ => kernel_rfl | 3, _ => kernel_rfl)
    rcases List.mem_cons.mp ht with rfl | ht
    · (intro n hn; match n, hn with | 0, _ => kernel_rfl | 1, _ => kernel_rfl | 2, _ => kernel_rfl | 3, _ => kernel_rfl)
    · cases ht
  have nx := B.new O2.nw
  have l2 := lsLt O2
  revert O2 nx l2
  generalize (m ++ [MO.lst [behind (MV.tup [MV.str "end", MV.tup [MV.str "failed", MV.int 0], MV.int 0, MV.tup []]), MV.tup [MV.str "end", MV.tup [MV.str "failed", MV.int 0], MV.int 0, MV.tup []]]]) = m2
  intro O2 nx l2
  simp [sz, Nat.add_assoc]
  refine W_loopG (BI s c (N + 8) m2.length M0 e5 e6 e9 e10 e11 pairsE (m2 ++ [.lst L, .lst pairsE])) _ _ _ ?_ ?_ ?_ ?_
  · refine ⟨e7, e8, N + 2, rfl, ?_, by simp, fun d h => h, Kp.refl⟩
    have := O2.more (m' := (m2 ++ [.lst L]) ++ [.lst pairsE]) Kp.push
    simpa using this
  · rintro l ρ m' ⟨y, z, N', rfl, _, _, _, km⟩
    have := km.get (n := m2.length + 1) (o := .lst pairsE) (by rw [at_app]; rfl) (by simp)
    simp [this]
  · rintro d l ρ m' ⟨y, z, N', rfl, O', hn, hl, km⟩
    have hd := hl d (by simp)
    obtain ⟨L', g1, g2, g3, g4⟩ := O'.ex
    simp at hn
    have fin' : ∀ (a h : MV), VOk [m2.length, s, c] m' a → VOk [m2.length, s, c] m' h → TreeIs false (behind (.tup [.str "end", noneO, a, h])) → BI s c (N + 8) m2.length M0 e5 e6 e9 e10 e11 pairsE (m2 ++ [.lst L, .lst pairsE]) l [some (.ref s), some noneO, some leaf, some good, some (.ref m2.length), e5, e6, some a, some h, e9, e10, e11] (m'.set m2.length (.lst (L' ++ [behind (.tup [.str "end", noneO, a, h])]))) := fun a h va vh ht =>
      ⟨_, _, N' + 1, rfl, O'.app g1 (behind_v (end_v noneO_v va vh)) ht, by omega, fun d' h' => hl d' (by simp [h']), km.trans (Kp.wr (by simp))⟩
    have hlt : L'.length < sizeLine := Nat.lt_of_lt_of_le (by omega : L'.length < 1000) (szl (Nat.le_refl _))
    have go : ∀ (a h : MV), VOk [m2.length, s, c] m' a → VOk [m2.length, s, c] m' h → TreeIs false (behind (.tup [.str "end", noneO, a, h])) → ∃ ρ1, (nTup 2 (nCons (nName 7) (nCons (nName 8) nNil))) (.tup [a, h]) [some (.ref s), some noneO, some leaf, some good, some (.ref m2.length), e5, e6, y, z, e9, e10, e11] m' = .ok ρ1 m' ∧
        MI.W ((mDrop (mBM gAppend (mVar 4) (mCons (mCall (Tab (k + 50) .l_behind) (mCons (mTup (mCons (mC (.str "end")) (mCons (mVar 1) (mCons (mVar 7) (mCons (mVar 8) mNil))))) mNil)) mNil))) ρ1 m') (fun a m' => match a with | .nx ρ' => BI s c (N + 8) m2.length M0 e5 e6 e9 e10 e11 pairsE (m2 ++ [.lst L, .lst pairsE]) l ρ' m' | .ct ρ' => BI s c (N + 8) m2.length M0 e5 e6 e9 e10 e11 pairsE (m2 ++ [.lst L, .lst pairsE]) l ρ' m' | .bk ρ' => False | a => False) E0 := fun a h va vh ht => by
      refine ⟨_, rfl, ?_⟩
      simp [sz, g1]
      rw [behind_eq (k := k + 48)]
      simp [g1]
      exact ⟨hlt, fin' a h va vh ht⟩
    simp at hd
    obtain ⟨a, h, rfl, va, vh, ht⟩ : ∃ a h, d = .tup [a, h] ∧ VOk [m2.length, s, c] m' a ∧ VOk [m2.length, s, c] m' h ∧ TreeIs false (behind (.tup [.str "end", noneO, a, h])) := by
      rcases hd with rfl | rfl | rfl | rfl | rfl | rfl
      · exact ⟨_, _, rfl, vi, v1 good_v, by (intro n hn; match n, hn with | 0, _ => kernel_rfl | 1, _ => kernel_rfl | 2, _ => kernel_rfl | 3, _ => kernel_rfl)⟩
      · exact ⟨_, _, rfl, vi, v0, by (intro n hn; match n, hn with | 0, _ => kernel_rfl | 1, _ => kernel_rfl | 2, _ => kernel_rfl | 3, _ => kernel_rfl)⟩
      · exact ⟨_, _, rfl, vi, vp good_v good_v, by (intro n hn; match n, hn with | 0, _ => kernel_rfl | 1, _ => kernel_rfl | 2, _ => kernel_rfl | 3, _ => kernel_rfl)⟩
      · exact ⟨_, _, rfl, vi, v1 good_v, by (intro n hn; match n, hn with | 0, _ => kernel_rfl | 1, _ => kernel_rfl | 2, _ => kernel_rfl | 3, _ => kernel_rfl)⟩
      · exact ⟨_, _, rfl, vi, v3 good_v good_v good_v, by (intro n hn; match n, hn with | 0, _ => kernel_rfl | 1, _ => kernel_rfl | 2, _ => kernel_rfl | 3, _ => kernel_rfl)⟩
      · exact ⟨_, _, rfl, vi, v0, by (intro n hn; match n, hn with | 0, _ => kernel_rfl | 1, _ => kernel_rfl | 2, _ => kernel_rfl | 3, _ => kernel_rfl)⟩
    obtain ⟨ρ1, q1, q2⟩ := go a h va vh ht
    · refine ⟨ρ1, q1, q2.mono ?_⟩
      intro a m3 r
      cases a with
      | nx ρ => exact r
      | ct ρ => exact r
      | bk ρ => exact r.elim
      | rt d => exact r.elim
      | ex x ρ => exact r.elim
  · rintro ρ m' ⟨y, z, N', rfl, O', hn, _, _⟩
    simp
    exact endsC2_ok (k := k) (n := n) O' (by simp at hn; omega) B
end K57
namespace K57
open PySem L2 MI
theorem at_app0 {m r : Mem} {a : MO} : (m ++ (a :: r))[m.length]? = some a := by rw [List.getElem?_append_right (Nat.le_refl _)]; simp
abbrev OutBad (o : MV) : Prop := outB R0 [true] o = some false
theorem endsF_ok {k : Nat} {s c n N N' x y : Nat} {M0 M1 m : Mem} {e6 e7 e8 e9 e10 e11 : Option MV} (O : LsAt (TreeIs false) [s, c] M0 N x m) (P : LsAt OutBad [x, s, c] M1 N' y m) (hxy : x ≠ y) (hN : N + N' ≤ 40) (B : Bud M0 s c (n + 600)) (hy : M0.length ≤ y) :
    MI.W (endsF (Tab (k + 50)) [some (.ref s), some noneO, some leaf, some good, some (.ref x), some (.ref y), e6, e7, e8, e9, e10, e11] m) (Fin s c n M0) E0 := by
  have sz : ∀ n, n ≤ 1000 → n ≤ sizeLine := fun n h => szl h
  have ny := (B.any O.kp)
  obtain ⟨⟨L, g1, g2, g3, g4⟩, g5, g6⟩ := P
  have yo : y ∉ [s, c] := B.new hy
  unfold endsF
  simp [sz, Nat.add_assoc, g1]
  refine app_loop (F := fun o => .tup [.str "ask", .str "f", .tup [], .tup [leaf, .tup [.str "end", o, .int 0, .tup []]]]) O rfl (by decide) (by omega) (fun d hd => (g3 d hd).tail) (fun d m' _ hd => va vs (.inl ⟨_, rfl⟩) v0 (vp leaf_v (end_v hd vi v0))) (fun d hd => fail_tree (g4 d hd)) (fun d m' _ => ?_) (fun m' km => ?_) (fun z m' O' km => ?_)
  · simp [mTup, mCons, mVar, mNil, mC, Re.bind, sz]
  · have := km.get g1 (by simp at yo ⊢; omega)
    simp [this]
  · simp
    exact endsB_ok (k := k) (n := n) O' (by omega) B
theorem ends_ok {k : Nat} {s c n : Nat} {m : Mem} (B : Bud m s c (n + 600)) : MI.W (Tab (k + 51) .l_ends [.ref s] m) (fun d m' => d = .bl true ∧ Bud m' s c n ∧ Kp [s, c] m m') E0 := by
  have sz : ∀ n, n ≤ 1000 → n ≤ sizeLine := fun n h => szl h
  show MI.W (f_l_ends (Tab (k + 50)) [.ref s] m) _ _
  unfold f_l_ends
  rw [b_ends]
  simp [startM, sz, Nat.add_assoc, pw25, -W_add_r]
  refine leaf_ok ?_
  try simp [sz, Nat.add_assoc, pw25, -W_add_r]
  have two : ∀ (m : Mem) (a b : MO), m ++ [a, b] = (m ++ [a]) ++ [b] := fun m a b => by simp
  have j1 := B.new (Nat.le_succ m.length)
  have B1 : ∀ {m'}, Kp [] m m' → Bud m' s c (n + 600) := fun k => B.any k
  have nS : ∀ {m' : Mem} {j : Nat}, Kp [] (m ++ [.lst []]) m' → m'.length ≤ j → j ∉ [m.length, s, c] := fun {m' j} k h => by
    have h1 := B.new (Nat.le_trans (Nat.le_trans (by simp) k.1) h)
    have h2 := k.1
    simp at h1 h2 ⊢
    omega
  refine W_pure (fun d => .tup [.str "failed", d]) (fun _ => true) (by rw [at_app]; rfl) (fun d hd => ⟨rfl, fun _ => by simp [mTup, mCons, mVar, mNil, mC, Re.bind, wipeM, sz]⟩) (by simp) ?_
  rw [filter_all]
  obtain ⟨A, hA⟩ : ∃ A : Mem, A = m ++ [MO.lst [], MO.lst [], MO.lst [MV.bl false, MV.non, MV.str "0", MV.int (-1), MV.int 1, MV.ref (List.length m + 1), MV.int 10000000000000000000000000]] := ⟨_, rfl⟩
  rw [← hA]
  have kA : Kp [] (m ++ [.lst []]) A := by
    have : A = (m ++ [.lst []]) ++ [MO.lst [], MO.lst [MV.bl false, MV.non, MV.str "0", MV.int (-1), MV.int 1, MV.ref (List.length m + 1), MV.int 10000000000000000000000000]] := by rw [hA]; simp
    rw [this]
    exact Kp.app
  have a1 : A[m.length + 1]? = some (.lst []) := by rw [hA, at_app]; rfl
  have O1 : LsAt OutBad [m.length, s, c] (m ++ [.lst []]) 7 A.length (A ++ [.lst ([MV.bl false, MV.non, MV.str "0", MV.int (-1), MV.int 1, MV.ref (List.length m + 1), MV.int 10000000000000000000000000].map fun d => .tup [.str "failed", d])]) := by
    refine LsAt.less (LsAt.new kA ?_ ?_) (by simp)
    · intro t ht
      obtain ⟨d, hd, rfl⟩ := List.mem_map.mp ht
      refine vp vs ?_
      simp at hd
      rcases hd with rfl | rfl | rfl | rfl | rfl | rfl | rfl
      · simp
      · simp
      · exact vs
      · simp
      · simp
      · exact vref (l := []) a1 das_nil (by simp at j1 ⊢; omega)
      · simp
    · intro t ht
      obtain ⟨d, hd, rfl⟩ := List.mem_map.mp ht
      simp at hd
      rcases hd with rfl | rfl | rfl | rfl | rfl | rfl | rfl <;> kernel_rfl
  clear hA a1
  refine W_pure (fun d => .tup [d, .int 0]) (fun _ => true) (by rw [at_app]; rfl) (fun d hd => ⟨rfl, fun _ => by simp [mTup, mCons, mVar, mNil, mC, Re.bind, wipeM, sz]⟩) (by simp) ?_
  rw [filter_all]
  rw [two A]
  refine ls_add O1 (Kp.push.trans Kp.push) List.getElem?_concat_length ?_ ?_ (by simp) (fun L O2 => ?_)
  · intro t ht
    obtain ⟨d, hd, rfl⟩ := List.mem_map.mp ht
    simp at hd
    rcases hd with rfl | rfl | rfl | rfl | rfl
    · exact vp vs vi
    · exact vp vs vi
    · exact vp vs vi
    · exact vp vs vi
    · exact vp (by simp) vi
  · intro t ht
    obtain ⟨d, hd, rfl⟩ := List.mem_map.mp ht
    simp at hd
    rcases hd with rfl | rfl | rfl | rfl | rfl <;> kernel_rfl
  have fd : Das [MV.str "failed", MV.int 0] := ⟨by decide +kernel, by decide +kernel, by decide +kernel⟩
  have jz := nS O2.kp (Nat.le_refl _)
  refine ls_add O2 Kp.app (by rw [at_app]; rfl) ?_ ?_ (by simp) (fun L3 O3 => ?_)
  · intro t ht
    rcases List.mem_cons.mp ht with rfl | ht
    · exact v1 vs
    rcases List.mem_cons.mp ht with rfl | ht
    · exact v3 vs vi vi
    rcases List.mem_cons.mp ht with rfl | ht
    · exact v1 vs
    rcases List.mem_cons.mp ht with rfl | ht
    · exact v3 vs (v1 vs) vi
    rcases List.mem_cons.mp ht with rfl | ht
    · exact v0
    rcases List.mem_cons.mp ht with rfl | ht
    · simp
    rcases List.mem_cons.mp ht with rfl | ht
    · exact vref (l := [MV.str "failed", MV.int 0]) at_app0 fd jz
    · cases ht
  · intro t ht
    rcases List.mem_cons.mp ht with rfl | ht
    · kernel_rfl
    rcases List.mem_cons.mp ht with rfl | ht
    · kernel_rfl
    rcases List.mem_cons.mp ht with rfl | ht
    · kernel_rfl
    rcases List.mem_cons.mp ht with rfl | ht
    · kernel_rfl
    rcases List.mem_cons.mp ht with rfl | ht
    · kernel_rfl
    rcases List.mem_cons.mp ht with rfl | ht
    · kernel_rfl
    rcases List.mem_cons.mp ht with rfl | ht
    · kernel_rfl
    · cases ht
  obtain ⟨L4, g1, g2, g3, g4⟩ := O3.ex
  have ll : L4.length < sizeLine := Nat.lt_of_lt_of_le (by simp at g2; omega : L4.length < 1000) (szl (Nat.le_refl _))
  have O4 := O3.app (t := .str "failed") g1 vs (by kernel_rfl)
  have nw := O4.nw
  rw [W_append, lstOf_ref, g1]
  refine ⟨rfl, ll, ?_⟩
  have O0 : LsAt (TreeIs false) [s, c] m 0 m.length (m ++ [.lst []]) := LsAt.new (L := []) Kp.refl (by simp) (by simp)
  refine endsF_ok (k := k) (n := n) (N := 0) (O0.more O4.kp) O4 (fun e => absurd nw (by rw [← e]; simp)) (by simp) B (Nat.le_trans (Nat.le_succ _) (by simpa using nw))
end K57
namespace K57
open PySem L2 MI
noncomputable def asksE (ck : Fnm → MF) : MS := (mSeq (mAsg (mLc (mRng (mCons (mC (.int 4)) mNil)) (ngName 6) mYes (mTup (mCons (mC (.str "ask")) (mCons (mC (.str "f")) (mCons (mBin gMulB (mTup (mCons (mVar 2) mNil)) (mVar 6)) (mCons (mTup (mCons (mVar 1) (mCons (mVar 1) mNil))) mNil))))) [6]) (nName 8))
    (mSeq (mAsg (mBin gAdd (mVar 8) (mLst (mCons (mTup (mCons (mC (.str "ask")) (mCons (mC (.str "!=")) (mCons (mTup (mCons (mVar 2) (mCons (mVar 2) mNil))) (mCons (mTup (mCons (mVar 1) (mCons (mVar 1) mNil))) mNil))))) (mCons (mTup (mCons (mC (.str "test")) (mCons (mTup (mCons (mC (.str "parameter")) (mCons (mC (.int 0)) mNil))) (mCons (mVar 3) mNil)))) mNil)))) (nName 8))
    (retL ck 8 9 "good")))
noncomputable def asksD (ck : Fnm → MF) : MS := (mSeq (mDrop (mBM gAppend (mVar 4) (mCons (mLst (mCons (mC (.str "test")) (mCons (mTup (mCons (mC (.str "parameter")) (mCons (mC (.int 0)) mNil))) (mCons (mVar 3) mNil)))) mNil)))
    (mSeq (mDrop (mBM gAppend (mVar 4) (mCons (mTup (mCons (mC (.str "ask")) (mCons (mC (.str "f")) (mCons (mTup mNil) (mCons (mTup (mCons (mVar 1) (mCons (mTup (mCons (mC (.str "test")) (mCons (mTup (mCons (mC (.str "event")) (mCons (mC (.int 0)) mNil))) (mCons (mVar 3) mNil)))) mNil))) mNil))))) mNil)))
    (mSeq (mDrop (mBM gAppend (mVar 4) (mCons (mTup (mCons (mC (.str "ask")) (mCons (mC (.str "f")) (mCons (mTup mNil) (mCons (mTup (mCons (mVar 1) (mCons (mTup (mCons (mC (.str "ask")) (mCons (mC (.str "g")) (mCons (mTup (mCons (mTup (mCons (mC (.str "event")) (mCons (mC (.int 0)) mNil))) mNil)) (mCons (mTup (mCons (mVar 1) (mCons (mVar 1) mNil))) mNil))))) mNil))) mNil))))) mNil)))
    (mSeq (mDrop (mBM gAppend (mVar 4) (mCons (mCall (ck .l_behind) (mCons (mTup (mCons (mC (.str "ask")) (mCons (mC (.str "<")) (mCons (mTup (mCons (mTup (mCons (mC (.str "event")) (mCons (mC (.int 0)) mNil))) (mCons (mTup (mCons (mC (.str "event")) (mCons (mC (.int 1)) mNil))) mNil))) (mCons (mTup (mCons (mVar 1) (mCons (mVar 1) mNil))) mNil))))) mNil)) mNil)))
    (mSeq (chkL ck 4 9 "machine")
    (asksE ck))))))
noncomputable def asksC (ck : Fnm → MF) : MS := (mSeq (mAsg (mBin gAdd (mVar 4) (mLst (mCons (mTup (mCons (mC (.str "ask")) (mCons (mC (.str "f")) (mCons (mLst mNil) (mCons (mTup (mCons (mVar 1) (mCons (mVar 1) mNil))) mNil))))) (mCons (mTup (mCons (mC (.str "ask")) (mCons (mC (.str "f")) (mCons (mC .non) (mCons (mTup (mCons (mVar 1) (mCons (mVar 1) mNil))) mNil))))) (mCons (mTup (mCons (mC (.str "ask")) (mCons (mC (.str "f")) (mCons (mTup mNil) mNil)))) (mCons (mTup (mCons (mC (.str "test")) (mCons (mVar 3) mNil))) mNil)))))) (nName 4))
    (mSeq (mAsg (mBin gAdd (mVar 4) (mLst (mCons (mTup (mCons (mC (.str "ask")) (mCons (mC (.str "f")) (mCons (mTup mNil) (mCons (mTup (mCons (mVar 1) (mCons (mVar 1) mNil))) (mCons (mC (.int 0)) mNil)))))) (mCons (mTup (mCons (mC (.str "test")) (mCons (mTup (mCons (mC (.str "parameter")) (mCons (mC (.int 0)) mNil))) (mCons (mVar 3) (mCons (mC (.int 0)) mNil))))) mNil)))) (nName 4))
    (asksD ck)))
noncomputable def asks4 (ck : Fnm → MF) : MS := (mSeq (mFor (mAnyI (mLst (mCons (mCall gListA (mCons (mVar 3) mNil)) (mCons (mTup (mCons (mVar 1) (mCons (mVar 1) mNil))) (mCons (mBin gAdd (mVar 3) (mTup (mCons (mVar 1) mNil))) (mCons (mTup (mCons (mVar 1) (mCons (mC .non) (mCons (mVar 1) mNil)))) (mCons (mTup (mCons (mVar 1) (mCons (mVar 1) (mCons (mTup mNil) mNil)))) (mCons (mTup mNil) (mCons (mC .non) mNil))))))))) (nName 7)
    (mDrop (mBM gAppend (mVar 4) (mCons (mTup (mCons (mC (.str "test")) (mCons (mTup (mCons (mC (.str "parameter")) (mCons (mC (.int 0)) mNil))) (mCons (mVar 7) mNil)))) mNil))))
    (asksC ck))
noncomputable def asks3 (ck : Fnm → MF) : MS := (mSeq (mFor (mAnyI (mLst (mCons (mLst (mCons (mVar 1) (mCons (mVar 1) mNil))) (mCons (mTup (mCons (mVar 1) mNil)) (mCons (mVar 3) (mCons (mTup (mCons (mVar 1) (mCons (mC .non) mNil))) (mCons (mTup (mCons (mC .non) (mCons (mVar 1) mNil))) (mCons (mTup mNil) (mCons (mC .non) mNil))))))))) (nName 7)
    (mDrop (mBM gAppend (mVar 4) (mCons (mTup (mCons (mC (.str "ask")) (mCons (mC (.str "f")) (mCons (mTup mNil) (mCons (mVar 7) mNil))))) mNil))))
    (asks4 ck))
noncomputable def asks2 (ck : Fnm → MF) : MS := (mSeq (mFor (mAnyI (mLst (mCons (mTup (mCons (mC (.str "")) (mCons (mC (.int 0)) mNil))) (mCons (mTup (mCons (mLst (mCons (mC (.str "f")) mNil)) (mCons (mC (.int 0)) mNil))) (mCons (mTup (mCons (mC (.str "F")) (mCons (mC (.int 0)) mNil))) (mCons (mTup (mCons (mC (.str "f
")) (mCons (mC (.int 0)) mNil))) (mCons (mTup (mCons (mC (.str "f")) (mCons (mC (.int 4)) mNil))) (mCons (mTup (mCons (mC (.int 7)) (mCons (mC (.int 0)) mNil))) mNil)))))))) (nTup 2 (nCons (nName 5) (nCons (nName 6) nNil)))
    (mDrop (mBM gAppend (mVar 4) (mCons (mTup (mCons (mC (.str "ask")) (mCons (mVar 5) (mCons (mBin gMulB (mTup (mCons (mVar 2) mNil)) (mVar 6)) (mCons (mTup (mCons (mVar 1) (mCons (mVar 1) mNil))) mNil))))) mNil))))
    (asks3 ck))
noncomputable def asks1 (ck : Fnm → MF) : MS := (mSeq (mFor (mAnyI (mLst (mCons (mTup (mCons (mC (.str "if")) (mCons (mC (.int 0)) mNil))) (mCons (mTup (mCons (mC (.str "abcdefghi")) (mCons (mC (.int 1)) mNil))) (mCons (mTup (mCons (mC (.str "self")) (mCons (mC (.int 0)) mNil))) (mCons (mTup (mCons (mC (.str "<")) (mCons (mC (.int 3)) mNil))) (mCons (mTup (mCons (mC (.str "<")) (mCons (mC (.int 1)) mNil))) (mCons (mTup (mCons (mC (.str "<")) (mCons (mC (.int 0)) mNil))) (mCons (mTup (mCons (mC (.str "=")) (mCons (mC (.int 2)) mNil))) (mCons (mTup (mCons (mC .non) (mCons (mC (.int 0)) mNil))) mNil)))))))))) (nTup 2 (nCons (nName 5) (nCons (nName 6) nNil)))
    (mDrop (mBM gAppend (mVar 4) (mCons (mTup (mCons (mC (.str "ask")) (mCons (mVar 5) (mCons (mBin gMulB (mTup (mCons (mVar 2) mNil)) (mVar 6)) (mCons (mTup (mCons (mVar 1) (mCons (mVar 1) mNil))) mNil))))) mNil))))
    (asks2 ck))
theorem b_asks (ck : Fnm → MF) : b_l_asks ck = (mSeq (mAsg (mTup (mCons (mCall (ck .l_leaf) mNil) (mCons (mTup (mCons (mC (.str "none")) mNil)) mNil))) (nTup 2 (nCons (nName 1) (nCons (nName 2) nNil))))
    (mSeq (mAsg (mTup (mCons (mVar 1) (mCons (mVar 1) (mCons (mVar 1) mNil)))) (nName 3))
    (mSeq (mAsg (mLst mNil) (nName 4))
    (asks1 ck)))) := rfl
abbrev three : MV := .tup [leaf, leaf, leaf]
abbrev two2 : MV := .tup [leaf, leaf]
abbrev par0 : MV := .tup [.str "parameter", .int 0]
abbrev askF (w : MV) (many : Nat) : MV := .tup [.str "ask", w, .tup (List.replicate many noneV), two2]
theorem three_v {S : List Nat} {m : Mem} : VOk S m three := v3 leaf_v leaf_v leaf_v
theorem two_v {S : List Nat} {m : Mem} : VOk S m two2 := vp leaf_v leaf_v
theorem par0_v {S : List Nat} {m : Mem} : VOk S m par0 := vp vs vi
theorem reps_v {S : List Nat} {m : Mem} {n : Nat} (h : n ≤ 10) : VOk S m (.tup (List.replicate n noneV)) := by
  rw [vok_tup]
  refine ⟨fun d hd => ?_, by simp; omega, fun w a b e => ?_⟩
  · rw [List.eq_of_mem_replicate hd]; exact v1 vs
  · have : MV.str "ask" ∈ List.replicate n noneV := by rw [e]; simp
    cases List.eq_of_mem_replicate this
theorem askF_v {S : List Nat} {m : Mem} {w : MV} {n : Nat} (h : n ≤ 10) (hw : VOk S m w) (wd : WdOk m w) : VOk S m (askF w n) := va hw wd (reps_v h) two_v
theorem mulB_eq {m : Mem} {a : MV} : ∀ {k : Nat}, k ≤ 10 → gMulB (.tup [a]) (.int k) m = Re.ok (.tup (List.replicate k a)) m
  | 0, _ => by unfold gMulB; rfl
  | 1, _ => by unfold gMulB; rfl
  | k + 2, h => by
    unfold gMulB
    show (if 0 < 1 ∧ ((k + 2 : Nat) : Int) = 1 then _ else if 0 < 1 ∧ ((k + 2 : Nat) : Int) = 0 then _ else gMul (.tup [a]) (.int ((k + 2 : Nat) : Int)) m) = _
    rw [if_neg (by omega), if_neg (by omega)]
    show (if 0 < 1 ∧ 2 ≤ ((k + 2 : Nat) : Int) ∧ ((k + 2 : Nat) : Int) ≤ 1000 ∧ 1 ≤ 1000 then Re.ok (MV.tup (List.replicate ((k + 2 : Nat) : Int).toNat [a]).flatten) m else .stuck) = _
    rw [if_pos (by omega)]
    congr 2
    simp
    omega
theorem mulB0 {m : Mem} {a : MV} : gMulB (.tup [a]) (.int 0) m = Re.ok (.tup []) m := mulB_eq (k := 0) (by decide)
theorem mulB1 {m : Mem} {a : MV} : gMulB (.tup [a]) (.int 1) m = Re.ok (.tup [a]) m := mulB_eq (k := 1) (by decide)
theorem mulB2 {m : Mem} {a : MV} : gMulB (.tup [a]) (.int 2) m = Re.ok (.tup [a, a]) m := mulB_eq (k := 2) (by decide)
theorem mulB3 {m : Mem} {a : MV} : gMulB (.tup [a]) (.int 3) m = Re.ok (.tup [a, a, a]) m := mulB_eq (k := 3) (by decide)
theorem mulB4 {m : Mem} {a : MV} : gMulB (.tup [a]) (.int 4) m = Re.ok (.tup [a, a, a, a]) m := mulB_eq (k := 4) (by decide)
section
variable {P : MV → Prop} {S : List Nat} {M0 m : Mem} {N x : Nat}
/-- for a, b in l: list.append(F a b) -/
theorem app_loopP {l : List MV} {i1 i2 : Nat} {e : ME} {F : MV → MV} {ρ : MI.Env} {chk : Mem → Prop} {j : Nat} {Q : Fl → Mem → Prop} {E : Exn → Mem → Prop} (O : LsAt P S M0 N x m) (hj : ρ[j]? = some (some (.ref x))) (h12 : i1 ≠ i2) (h1 : i1 ≠ j) (h2 : i2 ≠ j) (hN : N + l.length ≤ 1000) 
    (hF : ∀ d m', d ∈ l → Kp (x :: S) m m' → VOk (x :: S) m' (F d)) (hP : ∀ d ∈ l, P (F d)) (he : ∀ d m', d ∈ l → ∃ a b, d = .tup [a, b] ∧ e ((ρ.set i1 (some a)).set i2 (some b)) m' = .ok (F d) m') (hc : ∀ m', Kp (x :: S) m m' → chk m')
    (q : ∀ y z m', LsAt P S M0 (N + l.length) x m' → Kp (x :: S) m m' → Q (.nx ((ρ.set i1 y).set i2 z)) m') : MI.W (loopM chk (nTup 2 (nCons (nName i1) (nCons (nName i2) nNil))) (mDrop (mBM gAppend (mVar j) (mCons e mNil))) l ρ m) Q E := by
  have gs : ∀ (i : Nat), ρ = ρ.set i ((ρ[i]?).getD none) := fun i => by
    refine List.ext_getElem? fun n => ?_
    by_cases hn : i = n
    · subst hn
      by_cases hl : i < ρ.length
      · rw [List.getElem?_set_self hl]; simp [hl]
      · rw [List.getElem?_eq_none (by omega), List.getElem?_eq_none (by simp; omega)]
    · rw [List.getElem?_set_ne hn]
  refine W_loopG (fun r ρ' m' => (∃ y z, ρ' = (ρ.set i1 y).set i2 z) ∧ (∃ n, n + r.length = N + l.length ∧ LsAt P S M0 n x m') ∧ (∀ d ∈ r, d ∈ l) ∧ Kp (x :: S) m m') _ _ _ ?_ ?_ ?_ ?_
  · refine ⟨⟨(ρ[i1]?).getD none, (ρ[i2]?).getD none, ?_⟩, ⟨N, rfl, O⟩, fun d h => h, Kp.refl⟩
    rw [← gs i1, ← gs i2]
  · rintro r ρ' m' ⟨_, _, _, k⟩
    exact hc m' k
  · rintro d r ρ' m' ⟨⟨y, z, rfl⟩, ⟨n, hn, O'⟩, hr, k⟩
    have hd := hr d (by simp)
    obtain ⟨L, g1, g2, g3, g4⟩ := O'.ex
    obtain ⟨a, b, rfl, ev⟩ := he d m' hd
    refine ⟨(((ρ.set i1 y).set i2 z).set i1 (some a)).set i2 (some b), rfl, ?_⟩
    have e1 : ((((ρ.set i1 y).set i2 z).set i1 (some a)).set i2 (some b)) = (ρ.set i1 (some a)).set i2 (some b) := by
      rw [List.set_comm _ _ h12.symm]
      simp
    have e2 : ((ρ.set i1 (some a)).set i2 (some b))[j]? = some (some (.ref x)) := by rw [List.getElem?_set_ne h2, List.getElem?_set_ne h1]; exact hj
    rw [e1]
    simp at hn
    simp [e2, ev, g1]
    refine ⟨Nat.lt_of_lt_of_le (by omega : L.length < 1000) (szl (Nat.le_refl _)), ⟨_, _, rfl⟩, ⟨n + 1, by omega, O'.app g1 (hF _ _ hd k) (hP _ hd)⟩, fun d' h => hr d' (by simp [h]), k.trans (Kp.wr (by simp))⟩
  · rintro ρ' m' ⟨⟨y, z, rfl⟩, ⟨n, hn, O'⟩, _, k⟩
    simp at hn
    exact q y z m' (hn ▸ O') k
end
end K57
namespace K57
open PySem L2 MI
theorem two {m : Mem} {a b : MO} : m ++ [a, b] = (m ++ [a]) ++ [b] := by simp
theorem askF_tree {b : Bool} {w : MV} {n : Nat} (h : ∀ i, i ≤ 3 → treeB R0 (40 - i) [] (1 + i) (askF w n) = some b) : TreeIs b (askF w n) := h
theorem asksE_ok {k : Nat} {s c n : Nat} {M0 m : Mem} {e4 e5 e6 e7 e8 e9 : Option MV} (kp : Kp [s, c] M0 m) (B : Bud m s c (n + 60)) :
    MI.W (asksE (Tab (k + 50)) [some (.ref s), some leaf, some noneV, some three, e4, e5, e6, e7, e8, e9] m) (Fin s c n M0) E0 := by
  have sz : ∀ n, n ≤ 1000 → n ≤ sizeLine := fun n h => szl h
  unfold asksE
  simp [sz, Nat.add_assoc, -W_add_r]
  have e4 : rngL 0 4 = [.int 0, .int 1, .int 2, .int 3] := rfl
  refine W_pure (fun d => match d with | .int i => askF (.str "f") i.toNat | _ => .non) (fun _ => true) trivial (fun d hd => ⟨rfl, fun _ => ?_⟩) (by simp [rngL]) ?_
  · have hd : d ∈ rngL 0 4 := hd
    rw [e4] at hd
    simp at hd
    rcases hd with rfl | rfl | rfl | rfl
    all_goals
      refine W_eq ?_
      simp [wipeM, sz, mulB0, mulB1, mulB2, mulB3, -W_mulB_0, -W_mulB_1]
      try rfl
  · rw [filter_all]
    have eR : (List.map (fun d => match d with | .int i => askF (.str "f") i.toNat | _ => .non) (rngL 0 4)) = [askF (.str "f") 0, askF (.str "f") 1, askF (.str "f") 2, askF (.str "f") 3] := rfl
    rw [eR]
    refine ls_add (P := TreeIs true) (S := [s, c]) (M0 := m) (x := m.length) (LsAt.new (L := [askF (.str "f") 0, askF (.str "f") 1, askF (.str "f") 2, askF (.str "f") 3]) Kp.refl ?_ ?_) (by rw [two]; exact Kp.push) (by rw [at_app]; rfl) ?_ ?_ (by simp) (fun R OR => ?_)
    · intro t ht
      simp only [List.mem_cons, List.not_mem_nil, or_false] at ht
      rcases ht with rfl | rfl | rfl | rfl <;> exact askF_v (by decide) vs (.inl ⟨_, rfl⟩)
    · intro t ht
      simp only [List.mem_cons, List.not_mem_nil, or_false] at ht
      rcases ht with rfl | rfl | rfl | rfl <;> (intro n hn; match n, hn with | 0, _ => kernel_rfl | 1, _ => kernel_rfl | 2, _ => kernel_rfl | 3, _ => kernel_rfl)
    · intro t ht
      rcases List.mem_cons.mp ht with rfl | ht
      · exact va vs (.inl ⟨_, rfl⟩) (vp (v1 vs) (v1 vs)) two_v
      rcases List.mem_cons.mp ht with rfl | ht
      · exact v3 vs par0_v three_v
      · cases ht
    · intro t ht
      rcases List.mem_cons.mp ht with rfl | ht
      · (intro n hn; match n, hn with | 0, _ => kernel_rfl | 1, _ => kernel_rfl | 2, _ => kernel_rfl | 3, _ => kernel_rfl)
      rcases List.mem_cons.mp ht with rfl | ht
      · (intro n hn; match n, hn with | 0, _ => kernel_rfl | 1, _ => kernel_rfl | 2, _ => kernel_rfl | 3, _ => kernel_rfl)
      · cases ht
    refine retL_ok (n := n) (b := true) rfl rfl rfl (by decide) (by simp) OR (B.new OR.nw) ((B.any OR.kp).less (by simp)) (fun m3 b3 k3 => ?_)
    exact ⟨rfl, b3, kp.trans ((kps OR.kp).trans k3)⟩
theorem app_one {P : MV → Prop} {S : List Nat} {M0 m : Mem} {N x j : Nat} {e : ME} {ρ : MI.Env} {Q : Fl → Mem → Prop} {E : Exn → Mem → Prop} (O : LsAt P S M0 N x m) (hj : ρ[j]? = some (some (.ref x))) (hN : N ≤ 900) (he : MI.W (e ρ m) (fun d m' => Kp [] m m' ∧ VOk (x :: S) m' d ∧ P d) E0)
    (q : ∀ m', LsAt P S M0 (N + 1) x m' → Q (.nx ρ) m') : MI.W (mDrop (mBM gAppend (mVar j) (mCons e mNil)) ρ m) Q E := by
  obtain ⟨L0, z1, _, _, _⟩ := O.ex
  simp [hj, z1]
  refine he.mono ?_
  rintro d m1 ⟨k1, v, p⟩
  obtain ⟨L, g1, g2, g3, g4⟩ := (O.more k1).ex
  simp [g1]
  exact ⟨Nat.lt_of_lt_of_le (by omega : L.length < 1000) (szl (Nat.le_refl _)), q _ ((O.more k1).app g1 v p)⟩
theorem asksD_ok {k : Nat} {s c n N x : Nat} {M0 m : Mem} {e5 e6 e7 e8 e9 : Option MV} (O : LsAt (TreeIs false) [s, c] M0 N x m) (hN : N ≤ 60) (B : Bud M0 s c (n + 400)) :
    MI.W (asksD (Tab (k + 50)) [some (.ref s), some leaf, some noneV, some three, some (.ref x), e5, e6, e7, e8, e9] m) (Fin s c n M0) E0 := by
  have sz : ∀ n, n ≤ 1000 → n ≤ sizeLine := fun n h => szl h
  have j0 := (B.any O.kp).new (Nat.le_refl _)
  have lx := lsLt O
  have dl : Das [.str "test", par0, three] := ⟨by decide +kernel, by decide +kernel, by decide +kernel⟩
  unfold asksD
  rw [W_seq]
  refine app_one O rfl (by omega) ?_ (fun m1 O1 => ?_)
  · simp [sz]
    exact ⟨Kp.push, vref (l := [.str "test", par0, three]) (by simp) dl (by simp at j0 ⊢; omega), by (intro n hn; match n, hn with | 0, _ => kernel_rfl | 1, _ => kernel_rfl | 2, _ => kernel_rfl | 3, _ => kernel_rfl)⟩
  rw [nxt_nx, W_seq]
  refine app_one O1 rfl (by omega) ?_ (fun m2 O2 => ?_)
  · simp [sz]
    exact ⟨Kp.refl, va vs (.inl ⟨_, rfl⟩) v0 (vp leaf_v (v3 vs good_v three_v)), by (intro n hn; match n, hn with | 0, _ => kernel_rfl | 1, _ => kernel_rfl | 2, _ => kernel_rfl | 3, _ => kernel_rfl)⟩
  rw [nxt_nx, W_seq]
  refine app_one O2 rfl (by omega) ?_ (fun m3 O3 => ?_)
  · simp [sz]
    exact ⟨Kp.refl, va vs (.inl ⟨_, rfl⟩) v0 (vp leaf_v (va vs (.inl ⟨_, rfl⟩) (v1 good_v) two_v)), by (intro n hn; match n, hn with | 0, _ => kernel_rfl | 1, _ => kernel_rfl | 2, _ => kernel_rfl | 3, _ => kernel_rfl)⟩
  rw [nxt_nx, W_seq]
  refine app_one O3 rfl (by omega) ?_ (fun m4 O4 => ?_)
  · simp [sz]
    rw [behind_eq (k := k + 48)]
    exact ⟨Kp.refl, behind_v (va vs (.inl ⟨_, rfl⟩) (vp good_v (vp vs vi)) two_v), by (intro n hn; match n, hn with | 0, _ => kernel_rfl | 1, _ => kernel_rfl | 2, _ => kernel_rfl | 3, _ => kernel_rfl)⟩
  rw [nxt_nx, W_seq]
  refine chkL_ok (n := n + 60) (b := false) rfl rfl rfl (by decide) (by simp) O4 (B.new O4.nw) ((B.any O4.kp).less (by omega)) (fun m5 b5 k5 => ?_)
  rw [nxt_nx]
  exact asksE_ok (k := k) (n := n) ((kps O4.kp).trans k5) b5
theorem asksC_ok {k : Nat} {s c n N x : Nat} {M0 m : Mem} {e5 e6 e7 e8 e9 : Option MV} (O : LsAt (TreeIs false) [s, c] M0 N x m) (hN : N ≤ 50) (B : Bud M0 s c (n + 400)) :
    MI.W (asksC (Tab (k + 50)) [some (.ref s), some leaf, some noneV, some three, some (.ref x), e5, e6, e7, e8, e9] m) (Fin s c n M0) E0 := by
  have sz : ∀ n, n ≤ 1000 → n ≤ sizeLine := fun n h => szl h
  have j0 := (B.any O.kp).new (Nat.le_refl _)
  unfold asksC
  simp [sz, Nat.add_assoc, -W_add_r]
  refine ls_add O Kp.app (by rw [at_app]; rfl) ?_ ?_ (by simp; omega) (fun L O1 => ?_)
  · intro t ht
    rcases List.mem_cons.mp ht with rfl | ht
    · exact va vs (.inl ⟨_, rfl⟩) (vref (l := []) at_app0 das_nil j0) two_v
    rcases List.mem_cons.mp ht with rfl | ht
    · exact va vs (.inl ⟨_, rfl⟩) (by simp) two_v
    rcases List.mem_cons.mp ht with rfl | ht
    · exact v3 vs vs v0
    rcases List.mem_cons.mp ht with rfl | ht
    · exact vp vs three_v
    · cases ht
  · intro t ht
    rcases List.mem_cons.mp ht with rfl | ht
    · (intro n hn; match n, hn with | 0, _ => kernel_rfl | 1, _ => kernel_rfl | 2, _ => kernel_rfl | 3, _ => kernel_rfl)
    rcases List.mem_cons.mp ht with rfl | ht
    · (intro n hn; match n, hn with | 0, _ => kernel_rfl | 1, _ => kernel_rfl | 2, _ => kernel_rfl | 3, _ => kernel_rfl)
    rcases List.mem_cons.mp ht with rfl | ht
    · (intro n hn; match n, hn with | 0, _ => kernel_rfl | 1, _ => kernel_rfl | 2, _ => kernel_rfl | 3, _ => kernel_rfl)
    rcases List.mem_cons.mp ht with rfl | ht
    · (intro n hn; match n, hn with | 0, _ => kernel_rfl | 1, _ => kernel_rfl | 2, _ => kernel_rfl | 3, _ => kernel_rfl)
    · cases ht
  refine ls_add O1 Kp.push (by simp; rfl) ?_ ?_ (by simp; omega) (fun L2 O2 => ?_)
  · intro t ht
    rcases List.mem_cons.mp ht with rfl | ht
    · rw [vok_tup]
      exact ⟨by simp; exact ⟨by decide, by decide, v0, two_v⟩, by simp, fun w a b e => by cases e⟩
    rcases List.mem_cons.mp ht with rfl | ht
    · exact vt (by decide) (by decide) (by simp) (by simp; exact ⟨par0_v, three_v⟩)
    · cases ht
  · intro t ht
    rcases List.mem_cons.mp ht with rfl | ht
    · (intro n hn; match n, hn with | 0, _ => kernel_rfl | 1, _ => kernel_rfl | 2, _ => kernel_rfl | 3, _ => kernel_rfl)
    rcases List.mem_cons.mp ht with rfl | ht
    · (intro n hn; match n, hn with | 0, _ => kernel_rfl | 1, _ => kernel_rfl | 2, _ => kernel_rfl | 3, _ => kernel_rfl)
    · cases ht
  exact asksD_ok (k := k) (n := n) O2 (by simp; omega) B
end K57
namespace K57
open PySem L2 MI
theorem asks4_ok {k : Nat} {s c n N x : Nat} {M0 m : Mem} {e5 e6 e7 e8 e9 : Option MV} (O : LsAt (TreeIs false) [s, c] M0 N x m) (hN : N ≤ 40) (B : Bud M0 s c (n + 400)) :
    MI.W (asks4 (Tab (k + 50)) [some (.ref s), some leaf, some noneV, some three, some (.ref x), e5, e6, e7, e8, e9] m) (Fin s c n M0) E0 := by
  have sz : ∀ n, n ≤ 1000 → n ≤ sizeLine := fun n h => szl h
  have b1 := B.any O.kp
  have j0 := b1.new (Nat.le_refl _)
  have j1 := b1.new (Nat.le_succ m.length)
  have lx := lsLt O
  have d3 : Das [leaf, leaf, leaf] := ⟨by decide +kernel, by decide +kernel, by decide +kernel⟩
  unfold asks4
  simp [sz, Nat.add_assoc]
  refine app_loop (F := fun d => .tup [.str "test", par0, d]) (O.more Kp.app) rfl (by decide) (by simp; omega) ?_ (fun d m' _ hd => v3 vs par0_v hd) ?_ (fun d m' _ => ?_) (fun m' km => ?_) (fun y m' O' km => ?_)
  · intro d hd
    rcases List.mem_cons.mp hd with rfl | hd
    · exact vref (l := [leaf, leaf, leaf]) at_app0 d3 (by simp at j0 ⊢; omega)
    rcases List.mem_cons.mp hd with rfl | hd
    · exact two_v
    rcases List.mem_cons.mp hd with rfl | hd
    · exact vn (by simp) (by intro d hd; simp at hd; subst hd; exact leaf_v) (fun w r e => by cases e)
    rcases List.mem_cons.mp hd with rfl | hd
    · exact v3 leaf_v (by simp) leaf_v
    rcases List.mem_cons.mp hd with rfl | hd
    · exact v3 leaf_v leaf_v v0
    rcases List.mem_cons.mp hd with rfl | hd
    · exact v0
    rcases List.mem_cons.mp hd with rfl | hd
    · simp
    · cases hd
  · intro d hd
    rcases List.mem_cons.mp hd with rfl | hd
    · (intro n hn; match n, hn with | 0, _ => kernel_rfl | 1, _ => kernel_rfl | 2, _ => kernel_rfl | 3, _ => kernel_rfl)
    rcases List.mem_cons.mp hd with rfl | hd
    · (intro n hn; match n, hn with | 0, _ => kernel_rfl | 1, _ => kernel_rfl | 2, _ => kernel_rfl | 3, _ => kernel_rfl)
    rcases List.mem_cons.mp hd with rfl | hd
    · (intro n hn; match n, hn with | 0, _ => kernel_rfl | 1, _ => kernel_rfl | 2, _ => kernel_rfl | 3, _ => kernel_rfl)
    rcases List.mem_cons.mp hd with rfl | hd
    · (intro n hn; match n, hn with | 0, _ => kernel_rfl | 1, _ => kernel_rfl | 2, _ => kernel_rfl | 3, _ => kernel_rfl)
    rcases List.mem_cons.mp hd with rfl | hd
    · (intro n hn; match n, hn with | 0, _ => kernel_rfl | 1, _ => kernel_rfl | 2, _ => kernel_rfl | 3, _ => kernel_rfl)
    rcases List.mem_cons.mp hd with rfl | hd
    · (intro n hn; match n, hn with | 0, _ => kernel_rfl | 1, _ => kernel_rfl | 2, _ => kernel_rfl | 3, _ => kernel_rfl)
    rcases List.mem_cons.mp hd with rfl | hd
    · (intro n hn; match n, hn with | 0, _ => kernel_rfl | 1, _ => kernel_rfl | 2, _ => kernel_rfl | 3, _ => kernel_rfl)
    · cases hd
  · simp [mTup, mCons, mVar, mNil, mC, Re.bind, sz]
  · have := km.2 (m.length + 1) (by simp) (by simp at j1 ⊢; omega)
    simp at this
    simp [this]
  · simp
    exact asksC_ok (k := k) (n := n) O' (by simp; omega) B
theorem asks3_ok {k : Nat} {s c n N x : Nat} {M0 m : Mem} {e5 e6 e7 e8 e9 : Option MV} (O : LsAt (TreeIs false) [s, c] M0 N x m) (hN : N ≤ 30) (B : Bud M0 s c (n + 400)) :
    MI.W (asks3 (Tab (k + 50)) [some (.ref s), some leaf, some noneV, some three, some (.ref x), e5, e6, e7, e8, e9] m) (Fin s c n M0) E0 := by
  have sz : ∀ n, n ≤ 1000 → n ≤ sizeLine := fun n h => szl h
  have b1 := B.any O.kp
  have j0 := b1.new (Nat.le_refl _)
  have j1 := b1.new (Nat.le_succ m.length)
  have lx := lsLt O
  have d2 : Das [leaf, leaf] := ⟨by decide +kernel, by decide +kernel, by decide +kernel⟩
  unfold asks3
  simp [sz, Nat.add_assoc]
  refine app_loop (F := fun d => .tup [.str "ask", .str "f", .tup [], d]) (O.more Kp.app) rfl (by decide) (by simp; omega) ?_ (fun d m' _ hd => va vs (.inl ⟨_, rfl⟩) v0 hd) ?_ (fun d m' _ => ?_) (fun m' km => ?_) (fun y m' O' km => ?_)
  · intro d hd
    rcases List.mem_cons.mp hd with rfl | hd
    · exact vref (l := [leaf, leaf]) at_app0 d2 (by simp at j0 ⊢; omega)
    rcases List.mem_cons.mp hd with rfl | hd
    · exact v1 leaf_v
    rcases List.mem_cons.mp hd with rfl | hd
    · exact three_v
    rcases List.mem_cons.mp hd with rfl | hd
    · exact vp leaf_v (by simp)
    rcases List.mem_cons.mp hd with rfl | hd
    · exact vp (by simp) leaf_v
    rcases List.mem_cons.mp hd with rfl | hd
    · exact v0
    rcases List.mem_cons.mp hd with rfl | hd
    · simp
    · cases hd
  · intro d hd
    rcases List.mem_cons.mp hd with rfl | hd
    · (intro n hn; match n, hn with | 0, _ => kernel_rfl | 1, _ => kernel_rfl | 2, _ => kernel_rfl | 3, _ => kernel_rfl)
    rcases List.mem_cons.mp hd with rfl | hd
    · (intro n hn; match n, hn with | 0, _ => kernel_rfl | 1, _ => kernel_rfl | 2, _ => kernel_rfl | 3, _ => kernel_rfl)
    rcases List.mem_cons.mp hd with rfl | hd
    · (intro n hn; match n, hn with | 0, _ => kernel_rfl | 1, _ => kernel_rfl | 2, _ => kernel_rfl | 3, _ => kernel_rfl)
    rcases List.mem_cons.mp hd with rfl | hd
    · (intro n hn; match n, hn with | 0, _ => kernel_rfl | 1, _ => kernel_rfl | 2, _ => kernel_rfl | 3, _ => kernel_rfl)
    rcases List.mem_cons.mp hd with rfl | hd
    · (intro n hn; match n, hn with | 0, _ => kernel_rfl | 1, _ => kernel_rfl | 2, _ => kernel_rfl | 3, _ => kernel_rfl)
    rcases List.mem_cons.mp hd with rfl | hd
    · (intro n hn; match n, hn with | 0, _ => kernel_rfl | 1, _ => kernel_rfl | 2, _ => kernel_rfl | 3, _ => kernel_rfl)
    rcases List.mem_cons.mp hd with rfl | hd
    · (intro n hn; match n, hn with | 0, _ => kernel_rfl | 1, _ => kernel_rfl | 2, _ => kernel_rfl | 3, _ => kernel_rfl)
    · cases hd
  · simp [mTup, mCons, mVar, mNil, mC, Re.bind, sz]
  · have := km.2 (m.length + 1) (by simp) (by simp at j1 ⊢; omega)
    simp at this
    simp [this]
  · simp
    exact asks4_ok (k := k) (n := n) O' (by simp; omega) B
def askFd (d : MV) : MV := match d with
  | .tup [w, .int i] => askF w i.toNat
  | _ => .non
theorem askFd_eq {w : MV} {i : Int} : askFd (.tup [w, .int i]) = askF w i.toNat := rfl
theorem asks2_ok {k : Nat} {s c n N x : Nat} {M0 m : Mem} {e5 e6 e7 e8 e9 : Option MV} (O : LsAt (TreeIs false) [s, c] M0 N x m) (hN : N ≤ 20) (B : Bud M0 s c (n + 400)) :
    MI.W (asks2 (Tab (k + 50)) [some (.ref s), some leaf, some noneV, some three, some (.ref x), e5, e6, e7, e8, e9] m) (Fin s c n M0) E0 := by
  have sz : ∀ n, n ≤ 1000 → n ≤ sizeLine := fun n h => szl h
  have b1 := B.any O.kp
  have j0 := b1.new (Nat.le_refl _)
  have j1 := b1.new (Nat.le_succ m.length)
  have lx := lsLt O
  have df : Das [MV.str "f"] := ⟨by decide +kernel, by decide +kernel, by decide +kernel⟩
  unfold asks2
  simp [sz, Nat.add_assoc]
  refine app_loopP (F := askFd) (O.more Kp.app) rfl (by decide) (by decide) (by decide) (by simp; omega) ?_ ?_ ?_ (fun m' km => ?_) (fun y z m' O' km => ?_)
  · intro d m' hd km
    have g := km.2 m.length (by simp) (by simp at j0 ⊢; omega)
    rw [at_app0] at g
    rcases List.mem_cons.mp hd with rfl | hd
    · exact askF_v (by decide) vs (.inl ⟨_, rfl⟩)
    rcases List.mem_cons.mp hd with rfl | hd
    · exact askF_v (by decide) (vref g df (by simp at j0 ⊢; omega)) (.inr (.inr (.inr ⟨_, _, rfl, g, df⟩)))
    rcases List.mem_cons.mp hd with rfl | hd
    · exact askF_v (by decide) vs (.inl ⟨_, rfl⟩)
    rcases List.mem_cons.mp hd with rfl | hd
    · exact askF_v (by decide) vs (.inl ⟨_, rfl⟩)
    rcases List.mem_cons.mp hd with rfl | hd
    · exact askF_v (by decide) vs (.inl ⟨_, rfl⟩)
    rcases List.mem_cons.mp hd with rfl | hd
    · exact askF_v (by decide) vi (.inr (.inr (.inl ⟨_, rfl⟩)))
    · cases hd
  · intro d hd
    rcases List.mem_cons.mp hd with rfl | hd
    · (intro n hn; match n, hn with | 0, _ => kernel_rfl | 1, _ => kernel_rfl | 2, _ => kernel_rfl | 3, _ => kernel_rfl)
    rcases List.mem_cons.mp hd with rfl | hd
    · (intro n hn; match n, hn with | 0, _ => kernel_rfl | 1, _ => kernel_rfl | 2, _ => kernel_rfl | 3, _ => kernel_rfl)
    rcases List.mem_cons.mp hd with rfl | hd
    · (intro n hn; match n, hn with | 0, _ => kernel_rfl | 1, _ => kernel_rfl | 2, _ => kernel_rfl | 3, _ => kernel_rfl)
    rcases List.mem_cons.mp hd with rfl | hd
    · (intro n hn; match n, hn with | 0, _ => kernel_rfl | 1, _ => kernel_rfl | 2, _ => kernel_rfl | 3, _ => kernel_rfl)
    rcases List.mem_cons.mp hd with rfl | hd
    · (intro n hn; match n, hn with | 0, _ => kernel_rfl | 1, _ => kernel_rfl | 2, _ => kernel_rfl | 3, _ => kernel_rfl)
    rcases List.mem_cons.mp hd with rfl | hd
    · (intro n hn; match n, hn with | 0, _ => kernel_rfl | 1, _ => kernel_rfl | 2, _ => kernel_rfl | 3, _ => kernel_rfl)
    · cases hd
  · intro d m' hd
    have key : ∀ (w : MV) (i : Int) (r : MV), gMulB (.tup [noneV]) (.int i) m' = .ok r m' → askFd (.tup [w, .int i]) = .tup [.str "ask", w, r, two2] → ∃ a b, MV.tup [w, .int i] = .tup [a, b] ∧ (mTup (mCons (mC (.str "ask")) (mCons (mVar 5) (mCons (mBin gMulB (mTup (mCons (mVar 2) mNil)) (mVar 6)) (mCons (mTup (mCons (mVar 1) (mCons (mVar 1) mNil))) mNil))))) (([some (.ref s), some leaf, some noneV, some three, some (.ref x), e5, e6, e7, e8, e9].set 5 (some a)).set 6 (some b)) m' = Re.ok (askFd (.tup [w, .int i])) m' := fun w i r h1 h2 => by
      refine ⟨_, _, rfl, W_eq ?_⟩
      rw [h2]
      simp [sz, h1]
    rcases List.mem_cons.mp hd with rfl | hd
    · exact key _ _ _ mulB0 rfl
    rcases List.mem_cons.mp hd with rfl | hd
    · exact key _ _ _ mulB0 rfl
    rcases List.mem_cons.mp hd with rfl | hd
    · exact key _ _ _ mulB0 rfl
    rcases List.mem_cons.mp hd with rfl | hd
    · exact key _ _ _ mulB0 rfl
    rcases List.mem_cons.mp hd with rfl | hd
    · exact key _ _ _ mulB4 rfl
    rcases List.mem_cons.mp hd with rfl | hd
    · exact key _ _ _ mulB0 rfl
    · cases hd
  · have := km.2 (m.length + 1) (by simp) (by simp at j1 ⊢; omega)
    simp at this
    simp [this]
  · simp
    exact asks3_ok (k := k) (n := n) O' (by simp; omega) B
theorem asks1_ok {k : Nat} {s c n N x : Nat} {M0 m : Mem} {e5 e6 e7 e8 e9 : Option MV} (O : LsAt (TreeIs false) [s, c] M0 N x m) (hN : N ≤ 5) (B : Bud M0 s c (n + 400)) :
    MI.W (asks1 (Tab (k + 50)) [some (.ref s), some leaf, some noneV, some three, some (.ref x), e5, e6, e7, e8, e9] m) (Fin s c n M0) E0 := by
  have sz : ∀ n, n ≤ 1000 → n ≤ sizeLine := fun n h => szl h
  have b1 := B.any O.kp
  have j0 := b1.new (Nat.le_refl _)
  have lx := lsLt O
  unfold asks1
  simp [sz, Nat.add_assoc]
  refine app_loopP (F := askFd) (O.more Kp.app) rfl (by decide) (by decide) (by decide) (by simp; omega) ?_ ?_ ?_ (fun m' km => ?_) (fun y z m' O' km => ?_)
  · intro d m' hd km
    rcases List.mem_cons.mp hd with rfl | hd
    · exact askF_v (by decide) vs (.inl ⟨_, rfl⟩)
    rcases List.mem_cons.mp hd with rfl | hd
    · exact askF_v (by decide) vs (.inl ⟨_, rfl⟩)
    rcases List.mem_cons.mp hd with rfl | hd
    · exact askF_v (by decide) vs (.inl ⟨_, rfl⟩)
    rcases List.mem_cons.mp hd with rfl | hd
    · exact askF_v (by decide) vs (.inl ⟨_, rfl⟩)
    rcases List.mem_cons.mp hd with rfl | hd
    · exact askF_v (by decide) vs (.inl ⟨_, rfl⟩)
    rcases List.mem_cons.mp hd with rfl | hd
    · exact askF_v (by decide) vs (.inl ⟨_, rfl⟩)
    rcases List.mem_cons.mp hd with rfl | hd
    · exact askF_v (by decide) vs (.inl ⟨_, rfl⟩)
    rcases List.mem_cons.mp hd with rfl | hd
    · exact askF_v (by decide) (by simp) (.inr (.inl rfl))
    · cases hd
  · intro d hd
    rcases List.mem_cons.mp hd with rfl | hd
    · (intro n hn; match n, hn with | 0, _ => kernel_rfl | 1, _ => kernel_rfl | 2, _ => kernel_rfl | 3, _ => kernel_rfl)
    rcases List.mem_cons.mp hd with rfl | hd
    · (intro n hn; match n, hn with | 0, _ => kernel_rfl | 1, _ => kernel_rfl | 2, _ => kernel_rfl | 3, _ => kernel_rfl)
    rcases List.mem_cons.mp hd with rfl | hd
    · (intro n hn; match n, hn with | 0, _ => kernel_rfl | 1, _ => kernel_rfl | 2, _ => kernel_rfl | 3, _ => kernel_rfl)
    rcases List.mem_cons.mp hd with rfl | hd
    · (intro n hn; match n, hn with | 0, _ => kernel_rfl | 1, _ => kernel_rfl | 2, _ => kernel_rfl | 3, _ => kernel_rfl)
    rcases List.mem_cons.mp hd with rfl | hd
    · (intro n hn; match n, hn with | 0, _ => kernel_rfl | 1, _ => kernel_rfl | 2, _ => kernel_rfl | 3, _ => kernel_rfl)
    rcases List.mem_cons.mp hd with rfl | hd
    · (intro n hn; match n, hn with | 0, _ => kernel_rfl | 1, _ => kernel_rfl | 2, _ => kernel_rfl | 3, _ => kernel_rfl)
    rcases List.mem_cons.mp hd with rfl | hd
    · (intro n hn; match n, hn with | 0, _ => kernel_rfl | 1, _ => kernel_rfl | 2, _ => kernel_rfl | 3, _ => kernel_rfl)
    rcases List.mem_cons.mp hd with rfl | hd
    · (intro n hn; match n, hn with | 0, _ => kernel_rfl | 1, _ => kernel_rfl | 2, _ => kernel_rfl | 3, _ => kernel_rfl)
    · cases hd
  · intro d m' hd
    have key : ∀ (w : MV) (i : Int) (r : MV), gMulB (.tup [noneV]) (.int i) m' = .ok r m' → askFd (.tup [w, .int i]) = .tup [.str "ask", w, r, two2] → ∃ a b, MV.tup [w, .int i] = .tup [a, b] ∧ (mTup (mCons (mC (.str "ask")) (mCons (mVar 5) (mCons (mBin gMulB (mTup (mCons (mVar 2) mNil)) (mVar 6)) (mCons (mTup (mCons (mVar 1) (mCons (mVar 1) mNil))) mNil))))) (([some (.ref s), some leaf, some noneV, some three, some (.ref x), e5, e6, e7, e8, e9].set 5 (some a)).set 6 (some b)) m' = Re.ok (askFd (.tup [w, .int i])) m' := fun w i r h1 h2 => by
      refine ⟨_, _, rfl, W_eq ?_⟩
      rw [h2]
      simp [sz, h1]
    rcases List.mem_cons.mp hd with rfl | hd
    · exact key _ _ _ mulB0 rfl
    rcases List.mem_cons.mp hd with rfl | hd
    · exact key _ _ _ mulB1 rfl
    rcases List.mem_cons.mp hd with rfl | hd
    · exact key _ _ _ mulB0 rfl
    rcases List.mem_cons.mp hd with rfl | hd
    · exact key _ _ _ mulB3 rfl
    rcases List.mem_cons.mp hd with rfl | hd
    · exact key _ _ _ mulB1 rfl
    rcases List.mem_cons.mp hd with rfl | hd
    · exact key _ _ _ mulB0 rfl
    rcases List.mem_cons.mp hd with rfl | hd
    · exact key _ _ _ mulB2 rfl
    rcases List.mem_cons.mp hd with rfl | hd
    · exact key _ _ _ mulB0 rfl
    · cases hd
  · have := km.2 m.length (by simp) (by simp at j0 ⊢; omega)
    simp at this
    simp [this]
  · simp
    exact asks2_ok (k := k) (n := n) O' (by simp; omega) B
theorem asks_ok {k : Nat} {s c n : Nat} {m : Mem} (B : Bud m s c (n + 400)) : MI.W (Tab (k + 51) .l_asks [.ref s] m) (fun d m' => d = .bl true ∧ Bud m' s c n ∧ Kp [s, c] m m') E0 := by
  have sz : ∀ n, n ≤ 1000 → n ≤ sizeLine := fun n h => szl h
  show MI.W (f_l_asks (Tab (k + 50)) [.ref s] m) _ _
  unfold f_l_asks
  rw [b_asks]
  simp [startM, sz, Nat.add_assoc, W_asgT, nCons, nName, nNil]
  refine leaf_ok ?_
  have O0 : LsAt (TreeIs false) [s, c] m 0 m.length (m ++ [.lst []]) := LsAt.new (L := []) Kp.refl (by simp) (by simp)
  exact asks1_ok (k := k) (n := n) O0 (by omega) B
end K57
namespace K57
open PySem L2 MI
/-! ### deep trees -/
inductive Op where
  | ask (i : Nat) | tst (i : Nat)
def opT : Op → MV → MV
  | .ask i, t => .tup [.str "ask", .str "f", .tup [], .tup (if i = 0 then [t, leaf] else [leaf, t])]
  | .tst i, t => .tup [.str "test", par0, .tup ([leaf, leaf, leaf].set i t)]
def mixT : List Op → MV
  | [] => leaf
  | o :: r => opT o (mixT r)
def asksN : List Op → Nat
  | [] => 0
  | .ask _ :: r => asksN r + 1
  | .tst _ :: r => asksN r
def OpOk : Op → Prop
  | .ask i => i < 2
  | .tst i => i < 3
abbrev R1 : Rm := ⟨1, [0], 0⟩
def mk1 (t : MV) : MV := .tup [.tup [.str "p"], .int 0, .tup [.tup [.int 0, t]]]
theorem leaf1 {f lv : Nat} {hap : List Bool} : treeB R1 (f + 1) hap lv leaf = some (decide (lv ≤ 30)) := by
  unfold treeB
  by_cases h : 30 < lv
  · rw [if_pos h]
    simp
    omega
  · rw [if_neg h]
    have : decide (lv ≤ 30) = true := by simp; omega
    rw [this]
    rfl
theorem andO_some' {a b : Bool} : andO (some a) (some b) = some (a && b) := by cases a <;> rfl
theorem mix_tree : ∀ (ops : List Op) (f lv : Nat) (hap : List Bool), (∀ o ∈ ops, OpOk o) → lv + ops.length ≤ 31 → ops.length < f → hap.length ≤ 6 → treeB R1 f hap lv (mixT ops) = some (decide (lv + ops.length ≤ 30) && decide (hap.length + asksN ops ≤ 6))
  | [], f + 1, lv, hap, _, h1, h2, h3 => by
    show treeB R1 (f + 1) hap lv leaf = _
    rw [leaf1]
    simp [asksN, h3]
  | o :: r, f + 1, lv, hap, ho, h1, h2, h3 => by
    simp at h1 h2
    obtain ⟨f, rfl⟩ : ∃ f', f = f' + 1 := ⟨f - 1, by omega⟩
    have nl : ¬ 30 < lv := by omega
    have hr : ∀ o ∈ r, OpOk o := fun o h => ho o (by simp [h])
    have ih := fun hap (h : hap.length ≤ 6) => mix_tree r (f + 1) (lv + 1) hap hr (by omega) (by omega) h
    have o1 := ho o (by simp)
    show treeB R1 (f + 1 + 1) hap lv (opT o (mixT r)) = _
    cases o with
    | ask i =>
      have o1 : i < 2 := o1
      have e : ∀ x y : MV, treeB R1 (f + 1 + 1) hap lv (.tup [.str "ask", .str "f", .tup [], .tup [x, y]]) = if hap.length = 6 then some false else andO (treeB R1 (f + 1) (hap ++ [false]) (lv + 1) x) (treeB R1 (f + 1) (hap ++ [true]) (lv + 1) y) := fun x y => by
        conv => lhs; unfold treeB
        rw [if_neg nl]
        rfl
      have q : treeB R1 (f + 1 + 1) hap lv (opT (.ask i) (mixT r)) = if hap.length = 6 then some false else some (decide (lv + 1 + r.length ≤ 30) && decide (hap.length + 1 + asksN r ≤ 6) && decide (lv + 1 ≤ 30)) := by
        match i, o1 with
        | 0, _ =>
          show treeB R1 (f + 1 + 1) hap lv (.tup [.str "ask", .str "f", .tup [], .tup [mixT r, leaf]]) = _
          rw [e]
          split
          · rfl
          · rw [ih _ (by simp; omega), leaf1, andO_some']
            simp
        | 1, _ =>
          show treeB R1 (f + 1 + 1) hap lv (.tup [.str "ask", .str "f", .tup [], .tup [leaf, mixT r]]) = _
          rw [e]
          split
          · rfl
          · rw [ih _ (by simp; omega), leaf1, andO_some', Bool.and_comm]
            simp
      rw [q]
      split
      · rename_i h6
        congr 1
        symm
        rw [Bool.and_eq_false_iff]
        right
        rw [decide_eq_false_iff_not]
        simp only [asksN]
        omega
      · refine congrArg some ?_
        rw [Bool.eq_iff_iff]
        simp only [Bool.and_eq_true, decide_eq_true_eq, List.length_cons]
        show _ ↔ _ ∧ _ + asksN (_ :: _) ≤ 6
        simp only [asksN]
        clear ih e q ho hr
        constructor
        · rintro ⟨⟨_, _⟩, _⟩
          constructor <;> omega
        · rintro ⟨_, _⟩
          refine ⟨⟨?_, ?_⟩, ?_⟩ <;> omega
    | tst i =>
      have o1 : i < 3 := o1
      have e : ∀ x y z : MV, treeB R1 (f + 1 + 1) hap lv (.tup [.str "test", par0, .tup [x, y, z]]) = andO (treeB R1 (f + 1) hap (lv + 1) x) (andO (treeB R1 (f + 1) hap (lv + 1) y) (treeB R1 (f + 1) hap (lv + 1) z)) := fun x y z => by
        conv => lhs; unfold treeB
        rw [if_neg nl]
        rfl
      have q : treeB R1 (f + 1 + 1) hap lv (opT (.tst i) (mixT r)) = some (decide (lv + 1 + r.length ≤ 30) && decide (hap.length + asksN r ≤ 6) && decide (lv + 1 ≤ 30)) := by
        match i, o1 with
        | 0, _ =>
          show treeB R1 (f + 1 + 1) hap lv (.tup [.str "test", par0, .tup [mixT r, leaf, leaf]]) = _
          rw [e, ih _ h3, leaf1, andO_some', andO_some']
          congr 1
          cases decide (lv + 1 ≤ 30) <;> simp
        | 1, _ =>
          show treeB R1 (f + 1 + 1) hap lv (.tup [.str "test", par0, .tup [leaf, mixT r, leaf]]) = _
          rw [e, ih _ h3, leaf1, andO_some', andO_some']
          congr 1
          cases decide (lv + 1 ≤ 30) <;> simp
        | 2, _ =>
          show treeB R1 (f + 1 + 1) hap lv (.tup [.str "test", par0, .tup [leaf, leaf, mixT r]]) = _
          rw [e, ih _ h3, leaf1, andO_some', andO_some']
          congr 1
          cases decide (lv + 1 ≤ 30) <;> simp
      rw [q]
      refine congrArg some ?_
      rw [Bool.eq_iff_iff]
      simp only [Bool.and_eq_true, decide_eq_true_eq, List.length_cons]
      show _ ↔ _ ∧ _ + asksN (_ :: _) ≤ 6
      simp only [asksN]
      constructor
      · rintro ⟨⟨_, _⟩, _⟩
        constructor <;> omega
      · rintro ⟨_, _⟩
        refine ⟨⟨?_, ?_⟩, ?_⟩ <;> omega
theorem mix_v {S : List Nat} {m : Mem} : ∀ ops : List Op, VOk S m (mixT ops)
  | [] => leaf_v
  | .ask i :: r => by
    show VOk S m (.tup [.str "ask", .str "f", .tup [], .tup (if i = 0 then [mixT r, leaf] else [leaf, mixT r])])
    refine va vs (.inl ⟨_, rfl⟩) v0 ?_
    split
    · exact vp (mix_v r) leaf_v
    · exact vp leaf_v (mix_v r)
  | .tst i :: r => wrap_v (mix_v r)
theorem mk1_mach {ops : List Op} (ho : ∀ o ∈ ops, OpOk o) (h : ops.length ≤ 30) : machB 40 (mk1 (mixT ops)) = some (decide (ops.length ≤ 29) && decide (asksN ops ≤ 6)) := by
  have e : machB 40 (mk1 (mixT ops)) = andO (treeB R1 40 [] 1 (mixT ops)) (some true) := rfl
  rw [e, andO_t, mix_tree ops 40 1 [] ho (by omega) (by omega) (by decide)]
  congr 1
  rw [Bool.eq_iff_iff]
  simp
  omega
theorem word1_ok {k : Nat} {m : Mem} {ops : List Op} (ho : ∀ o ∈ ops, OpOk o) (h : ops.length ≤ 30) :
    MI.W (Tab (k + 50) .l_word [mk1 (mixT ops)] m) (fun d m' => d = .str (wordOf (decide (ops.length ≤ 29) && decide (asksN ops ≤ 6))) ∧ Kp [] m m') E0 :=
  word_ok (f := 40) (k := k) (v3 (S := []) (v1 vs) vi (v1 (vp vi (mix_v ops)))).ty (fun x y z u e => by cases e) (mk1_mach ho h)
end K57
namespace K57
open PySem L2 MI
noncomputable def longB2 (ck : Fnm → MF) : MS := (mSeq (mAsg (mCall (ck .l_draw) (mCons (mVar 0) (mCons (mC (.int 5)) mNil))) (nName 7))
    (mSeq (mIfS (mAndT (mB (mBin gLt (mVar 7) (mC (.int 2)))) (mB (mBin gLt (mVar 5) (mC (.int 6)))))
    (mSeq (mAsg (mBin gAdd (mVar 5) (mC (.int 1))) (nName 5))
    (mAsg (mTup (mCons (mC (.str "ask")) (mCons (mC (.str "f")) (mCons (mTup mNil) (mCons (mBin gItem (mLst (mCons (mTup (mCons (mVar 4) (mCons (mVar 1) mNil))) (mCons (mTup (mCons (mVar 1) (mCons (mVar 4) mNil))) mNil))) (mVar 7)) mNil))))) (nName 4)))
    (mSeq (mAsg (mLst (mCons (mVar 1) (mCons (mVar 1) (mCons (mVar 1) mNil)))) (nName 8))
    (mSeq (mStore (mVar 8) (mBin gMod (mVar 7) (mC (.int 3))) (mVar 4))
    (mAsg (mTup (mCons (mC (.str "test")) (mCons (mTup (mCons (mC (.str "parameter")) (mCons (mC (.int 0)) mNil))) (mCons (mCall gTuple (mCons (mVar 8) mNil)) mNil)))) (nName 4)))))
    (mIfS (mB (mBin (gEqA true) (mCall (ck .l_word) (mCons (mTup (mCons (mTup (mCons (mC (.str "p")) mNil)) (mCons (mC (.int 0)) (mCons (mTup (mCons (mTup (mCons (mC (.int 0)) (mCons (mVar 4) mNil))) mNil)) mNil)))) mNil)) (mBin gItem (mLst (mCons (mC (.str "good")) (mCons (mC (.str "machine")) mNil))) (mCall gInt (mCons (mBin (gEqA false) (mVar 6) (mC (.int 31))) mNil)))))
    (mRet (mC (.bl false)))
    mSkip)))
noncomputable def longB1 (ck : Fnm → MF) : MS := (mSeq (mIfS (mAndT (mB (mBin (gEqA false) (mVar 3) (mC (.int 6)))) (mB (mBin (gEqA true) (mCall (ck .l_word) (mCons (mTup (mCons (mTup (mCons (mC (.str "p")) mNil)) (mCons (mC (.int 0)) (mCons (mTup (mCons (mTup (mCons (mC (.int 0)) (mCons (mVar 2) mNil))) mNil)) mNil)))) mNil)) (mC (.str "good")))))
    (mRet (mC (.bl false)))
    mSkip)
    (mAsg (mTup (mCons (mC (.str "ask")) (mCons (mC (.str "f")) (mCons (mTup mNil) (mCons (mBin gItem (mLst (mCons (mTup (mCons (mVar 2) (mCons (mVar 1) mNil))) (mCons (mTup (mCons (mVar 1) (mCons (mVar 2) mNil))) mNil))) (mCall (ck .l_draw) (mCons (mVar 0) (mCons (mC (.int 2)) mNil)))) mNil))))) (nName 2)))
noncomputable def longT (ck : Fnm → MF) : MS := (mSeq (mIfS (mB (mBin (gEqA true) (mCall (ck .l_word) (mCons (mTup (mCons (mTup (mCons (mC (.str "p")) mNil)) (mCons (mC (.int 0)) (mCons (mTup (mCons (mTup (mCons (mC (.int 0)) (mCons (mVar 2) mNil))) mNil)) mNil)))) mNil)) (mC (.str "machine"))))
    (mRet (mC (.bl false)))
    mSkip)
    (mSeq (mAsg (mVar 1) (nName 4))
    (mSeq (mAsg (mC (.int 0)) (nName 5))
    (mSeq (mFor (mRng2 (mCons (mC (.int 2)) (mCons (mC (.int 32)) mNil))) (nName 6)
    (longB2 ck))
    (mRet (mC (.bl true)))))))
theorem b_long (ck : Fnm → MF) : b_l_long ck = (mSeq (mAsg (mCall (ck .l_leaf) mNil) (nName 1))
    (mSeq (mAsg (mVar 1) (nName 2))
    (mSeq (mFor (mRng (mCons (mC (.int 7)) mNil)) (nName 3)
    (longB1 ck))
    (longT ck)))) := rfl
theorem rngL_cons {lo : Int} {n : Nat} : rngL lo (n + 1) = .int lo :: rngL (lo + 1) n := by
  unfold rngL
  rw [List.range_succ_eq_map, List.map_cons, List.map_map]
  congr 1
  · simp
  · refine List.map_congr_left fun i _ => ?_
    simp
    omega
theorem askEq {i : Nat} {ops : List Op} (h : i < 2) : (if i = 0 then [mixT ops, leaf] else [leaf, mixT ops]) = if i = 0 then [mixT ops, leaf] else [leaf, mixT ops] := rfl
theorem long_ask {k : Nat} {s c n : Nat} {m : Mem} {ops : List Op} (ho : ∀ o ∈ ops, OpOk o) (B : Bud m s c (n + 1)) {Q : MV → Mem → Prop} {E E1 : Exn → Mem → Prop} (q : ∀ i m', i < 2 → Bud m' s c n → Kp [s, c] m m' → Q (.tup (if i = 0 then [mixT ops, leaf] else [leaf, mixT ops])) m') :
    MI.W (Tab (k + 50) .l_draw [.ref s, .int 2] (m ++ [.lst [.tup [mixT ops, leaf], .tup [leaf, mixT ops]]])) (fun b m3 => MI.W (gItem (.ref (List.length m)) b m3) Q E) E1 := by
  refine (dr_ok (k := k + 49) (n := n) (B.any Kp.push) (by omega) (by omega)).mono ?_
  rintro d m3 ⟨v, rfl, v0, v1, b3, k3⟩
  have nw := B.new (Nat.le_refl m.length)
  have h3 : m3[m.length]? = some (.lst [.tup [mixT ops, leaf], .tup [leaf, mixT ops]]) := k3.get (by simp) nw
  obtain rfl | rfl : v = 0 ∨ v = 1 := by omega
  · simp [h3]
    exact q 0 m3 (by decide) b3 ((kps Kp.push).trans k3)
  · simp [h3]
    exact q 1 m3 (by decide) b3 ((kps Kp.push).trans k3)
theorem longB1_ok {k : Nat} {s c n : Nat} {m : Mem} {ops : List Op} {e4 e5 e6 e7 e8 : Option MV} (ho : ∀ o ∈ ops, OpOk o) (ha : asksN ops = ops.length) (hl : ops.length ≤ 6) (B : Bud m s c (n + 1)) {Q : Fl → Mem → Prop} {E : Exn → Mem → Prop}
    (q : ∀ i m', i < 2 → Bud m' s c n → Kp [s, c] m m' → Q (.nx [some (.ref s), some leaf, some (mixT (.ask i :: ops)), some (.int ops.length), e4, e5, e6, e7, e8]) m') :
    MI.W (longB1 (Tab (k + 50)) [some (.ref s), some leaf, some (mixT ops), some (.int ops.length), e4, e5, e6, e7, e8] m) Q E := by
  have sz : ∀ n, n ≤ 1000 → n ≤ sizeLine := fun n h => szl h
  unfold longB1
  simp [sz]
  split
  · refine (word1_ok (k := k) ho (by omega)).mono ?_
    rintro d m1 ⟨rfl, k1⟩
    rw [show wordOf (decide (ops.length ≤ 29) && decide (asksN ops ≤ 6)) = "good" by rw [ha, decide_eq_true (by omega), decide_eq_true (by omega)]; rfl]
    simp
    refine long_ask (k := k) ho (B.any k1) (fun i m' hi b' k' => ?_)
    exact q i m' hi b' ((kps k1).trans k')
  · exact long_ask (k := k) ho B (fun i m' hi b' k' => q i m' hi b' k')
theorem long_word {k : Nat} {m : Mem} {ops : List Op} (ho : ∀ o ∈ ops, OpOk o) (h0 : 0 < ops.length) (hl : ops.length ≤ 30) (ha : asksN ops ≤ 6) {Q : MV → Mem → Prop} {E E1 : Exn → Mem → Prop} (q : ∀ m', Kp [] m m' → Q (.bl false) m') {u : Int} (hu : u = ops.length + 1) :
    MI.W (Tab (k + 50) .l_word [mk1 (mixT ops)] m) (fun a m' => match atM [.str "good", .str "machine"] (if u = 31 then 1 else 0) with | some e => MI.W (gEqA true a e (m' ++ [.lst [.str "good", .str "machine"]])) Q E | none => False) E1 := by
  refine (word1_ok (k := k) ho hl).mono ?_
  rintro d m1 ⟨rfl, k1⟩
  by_cases h : ops.length = 30
  · rw [show wordOf (decide (ops.length ≤ 29) && decide (asksN ops ≤ 6)) = "machine" by rw [decide_eq_false (by omega : ¬ ops.length ≤ 29)]; rfl, if_pos (by omega)]
    simp
    exact q _ (k1.trans Kp.push)
  · rw [show wordOf (decide (ops.length ≤ 29) && decide (asksN ops ≤ 6)) = "good" by rw [decide_eq_true (by omega), decide_eq_true (by omega)]; rfl, if_neg (by omega)]
    simp
    exact q _ (k1.trans Kp.push)
theorem longB2_ok {k : Nat} {s c n : Nat} {m : Mem} {ops : List Op} {e2 e3 e7 e8 : Option MV} (ho : ∀ o ∈ ops, OpOk o) (ha : asksN ops ≤ 6) (hl : ops.length ≤ 29) (B : Bud m s c (n + 1)) {Q : Fl → Mem → Prop} {E : Exn → Mem → Prop}
    (q : ∀ o e7 e8 m', OpOk o → asksN (o :: ops) ≤ 6 → Bud m' s c n → Kp [s, c] m m' → Q (.nx [some (.ref s), some leaf, e2, e3, some (mixT (o :: ops)), some (.int (asksN (o :: ops))), some (.int (ops.length + 2 : Nat)), e7, e8]) m') :
    MI.W (longB2 (Tab (k + 50)) [some (.ref s), some leaf, e2, e3, some (mixT ops), some (.int (asksN ops)), some (.int (ops.length + 2 : Nat)), e7, e8] m) Q E := by
  have sz : ∀ n, n ≤ 1000 → n ≤ sizeLine := fun n h => szl h
  unfold longB2
  simp [sz, -W_add_r]
  refine (dr_ok (k := k + 49) (n := n) B (by omega) (by omega)).mono ?_
  rintro d m1 ⟨v, rfl, v0, v1, b1, k1⟩
  simp [sz, -W_add_r]
  have tst : ∀ (i : Nat) (e7 e8 : Option MV) (m2 m3 : Mem), i < 3 → Kp [] m1 m2 → Kp [] m2 m3 → Q (.nx [some (.ref s), some leaf, e2, e3, some (.tup [.str "test", .tup [.str "parameter", .int 0], .tup ([leaf, leaf, leaf].set i (mixT ops))]), some (.int (asksN ops)), some (.int (ops.length + 2)), e7, e8]) m3 := fun i e7 e8 m2 m3 hi k2 k3 =>
    q (.tst i) e7 e8 m3 hi ha ((b1.any k2).any k3) ((k1.trans (kps k2)).trans (kps k3))
  have hol : ∀ o, OpOk o → ∀ o' ∈ o :: ops, OpOk o' := fun o h o' h' => by
    rcases List.mem_cons.mp h' with rfl | h'
    · exact h
    · exact ho _ h'
  by_cases h2 : v < 2
  · rw [if_pos h2]
    split
    · obtain rfl | rfl : v = 0 ∨ v = 1 := by omega
      · rw [at0]
        refine long_word (k := k) (ops := .ask 0 :: ops) (hol _ (show 0 < 2 by decide)) (by simp) (by simp; omega) (by simp only [asksN]; omega) (fun m' k' => ?_) (by simp; omega)
        simp
        exact q (.ask 0) _ _ m' (show 0 < 2 by decide) (by simp only [asksN]; omega) (b1.any (Kp.push.trans k')) (k1.trans (kps (Kp.push.trans k')))
      · rw [at1]
        refine long_word (k := k) (ops := .ask 1 :: ops) (hol _ (show 1 < 2 by decide)) (by simp) (by simp; omega) (by simp only [asksN]; omega) (fun m' k' => ?_) (by simp; omega)
        simp
        exact q (.ask 1) _ _ m' (show 1 < 2 by decide) (by simp only [asksN]; omega) (b1.any (Kp.push.trans k')) (k1.trans (kps (Kp.push.trans k')))
    · have ix : ixN 3 (v % 3) = some (v % 3).toNat := by unfold ixN; rw [if_pos (by omega), if_pos (by omega)]
      rw [ix]
      have hi : (v % 3).toNat < 3 := by omega
      refine long_word (k := k) (ops := .tst (v % 3).toNat :: ops) (hol _ hi) (by simp) (by simp; omega) (by simp only [asksN]; omega) (fun m' k' => ?_) (by simp; omega)
      simp
      exact tst _ _ _ _ _ hi Kp.push k'
  · rw [if_neg h2]
    have ix : ixN 3 (v % 3) = some (v % 3).toNat := by unfold ixN; rw [if_pos (by omega), if_pos (by omega)]
    rw [ix]
    have hi : (v % 3).toNat < 3 := by omega
    refine long_word (k := k) (ops := .tst (v % 3).toNat :: ops) (hol _ hi) (by simp) (by simp; omega) (by simp only [asksN]; omega) (fun m' k' => ?_) (by simp; omega)
    simp
    exact tst _ _ _ _ _ hi Kp.push k'
end K57
namespace K57
open PySem L2 MI
@[simp] theorem W_rngB {ρ : MI.Env} {g : MA} {m : Mem} {Q : IterM → Mem → Prop} {E : Exn → Mem → Prop} : MI.W (mRng2 g ρ m) Q E = MI.W (g ρ m) (fun ds m => MI.W (rngOf2 ds m) Q E) E := by
  unfold mRng2
  rw [W_bind]
@[simp] theorem W_rngB1 {i j : Int} {m : Mem} {Q : IterM → Mem → Prop} {E : Exn → Mem → Prop} : MI.W (rngOf2 [.int i, .int j] m) Q E = ((-(2 ^ 62) ≤ i ∧ i < 2 ^ 62 ∧ -(2 ^ 62) ≤ j ∧ j < 2 ^ 62) ∧ Q ⟨rngL i (j - i).toNat, fun _ => True⟩ m) := by
  show MI.W (if -(2 ^ 62) ≤ i ∧ i < 2 ^ 62 ∧ -(2 ^ 62) ≤ j ∧ j < 2 ^ 62 then .ok ⟨rngL i (j - i).toNat, fun _ => True⟩ m else .stuck) Q E = _
  by_cases h : -(2 ^ 62) ≤ i ∧ i < 2 ^ 62 ∧ -(2 ^ 62) ≤ j ∧ j < 2 ^ 62
  · rw [if_pos h]; simp only [W_ok, eq_iff_iff]; exact ⟨fun q => ⟨h, q⟩, fun q => q.2⟩
  · rw [if_neg h]; simp only [W_stuck, eq_iff_iff]; exact ⟨fun q => q.elim, fun q => h q.1⟩
theorem longT_ok {k : Nat} {s c n : Nat} {m : Mem} {ops0 : List Op} {e3 e4 e5 e6 e7 e8 : Option MV} (ho : ∀ o ∈ ops0, OpOk o) (ha : asksN ops0 = ops0.length) (hl : ops0.length = 7) (B : Bud m s c (n + 30)) {Q : Fl → Mem → Prop} {E : Exn → Mem → Prop}
    (q : ∀ m', Bud m' s c n → Kp [s, c] m m' → Q (.rt (.bl true)) m') :
    MI.W (longT (Tab (k + 50)) [some (.ref s), some leaf, some (mixT ops0), e3, e4, e5, e6, e7, e8] m) Q E := by
  have sz : ∀ n, n ≤ 1000 → n ≤ sizeLine := fun n h => szl h
  unfold longT
  simp [sz]
  refine (word1_ok (k := k) ho (by omega)).mono ?_
  rintro d m1 ⟨rfl, k1⟩
  rw [show wordOf (decide (ops0.length ≤ 29) && decide (asksN ops0 ≤ 6)) = "machine" by rw [ha, decide_eq_false (by omega : ¬ ops0.length ≤ 6), Bool.and_false]; rfl]
  simp
  refine W_loop (fun l ρ m' => ∃ (ops : List Op) (e6 e7 e8 : Option MV), l = rngL (ops.length + 2) l.length ∧ ops.length + l.length = 30 ∧ (∀ o ∈ ops, OpOk o) ∧ asksN ops ≤ 6 ∧ ρ = [some (.ref s), some leaf, some (mixT ops0), e3, some (mixT ops), some (.int (asksN ops)), e6, e7, e8] ∧ Bud m' s c (n + l.length) ∧ Kp [s, c] m m') _ _ _ ?_ ?_ ?_ ?_
  · exact ⟨[], e6, e7, e8, by rw [rngL_length]; rfl, by rw [rngL_length]; rfl, by simp, by decide, rfl, (B.any k1).less (by rw [rngL_length]; omega), kps k1⟩
  · intros; trivial
  · rintro d l ρ m2 ⟨ops, e6, e7, e8, h1, h2, ho, ha, rfl, b2, k2⟩
    simp at h2
    rw [List.length_cons, rngL_cons] at h1
    obtain ⟨rfl, h9⟩ := List.cons_eq_cons.mp h1
    refine (longB2_ok (k := k) (n := n + l.length) ho ha (by omega) (b2.less (by simp; omega)) (fun o e7 e8 m' ho' ha' b' k' => ?_))
    exact ⟨o :: ops, _, _, _, by rw [List.length_cons, show (((ops.length + 1 : Nat) : Int) + 2) = (ops.length : Int) + 2 + 1 by omega]; exact h9, by simp; omega, fun o' h' => by
      rcases List.mem_cons.mp h' with rfl | h'
      · exact ho'
      · exact ho _ h', ha', rfl, b', k2.trans k'⟩
  · rintro ρ m2 ⟨ops, e6, e7, e8, h1, h2, ho, ha, rfl, b2, k2⟩
    simp
    exact q _ (b2.less (by simp)) k2
theorem long_ok {k : Nat} {s c n : Nat} {m : Mem} (B : Bud m s c (n + 40)) : MI.W (Tab (k + 51) .l_long [.ref s] m) (fun d m' => d = .bl true ∧ Bud m' s c n ∧ Kp [s, c] m m') E0 := by
  have sz : ∀ n, n ≤ 1000 → n ≤ sizeLine := fun n h => szl h
  show MI.W (f_l_long (Tab (k + 50)) [.ref s] m) _ _
  unfold f_l_long
  rw [b_long]
  simp [startM, sz]
  refine leaf_ok ?_
  refine W_loop (fun l ρ m' => ∃ (ops : List Op) (e3 e4 e5 e6 e7 e8 : Option MV), l = rngL ops.length l.length ∧ ops.length + l.length = 7 ∧ (∀ o ∈ ops, OpOk o) ∧ asksN ops = ops.length ∧ ρ = [some (.ref s), some leaf, some (mixT ops), e3, e4, e5, e6, e7, e8] ∧ Bud m' s c (n + 30 + l.length) ∧ Kp [s, c] m m') _ _ _ ?_ ?_ ?_ ?_
  · exact ⟨[], _, _, _, _, _, _, by rw [rngL_length]; rfl, by rw [rngL_length]; rfl, by simp, by decide, rfl, B.less (by rw [rngL_length]; omega), Kp.refl⟩
  · intros; trivial
  · rintro d l ρ m2 ⟨ops, e3, e4, e5, e6, e7, e8, h1, h2, ho, ha, rfl, b2, k2⟩
    simp at h2
    rw [List.length_cons, rngL_cons] at h1
    obtain ⟨rfl, h9⟩ := List.cons_eq_cons.mp h1
    refine (longB1_ok (k := k) (n := n + 30 + l.length) ho ha (by omega) (b2.less (by simp; omega)) (fun i m' hi b' k' => ?_))
    exact ⟨.ask i :: ops, _, _, _, _, _, _, by rw [List.length_cons]; exact h9, by simp; omega, fun o' h' => by
      rcases List.mem_cons.mp h' with rfl | h'
      · exact hi
      · exact ho _ h', by simp only [asksN, List.length_cons]; omega, rfl, b', k2.trans k'⟩
  · rintro ρ m2 ⟨ops, e3, e4, e5, e6, e7, e8, h1, h2, ho, ha, rfl, b2, k2⟩
    simp at h2
    simp
    refine longT_ok (k := k) (n := n) ho ha h2 (b2.less (by simp)) (fun m' b' k' => ?_)
    exact ⟨rfl, b', k2.trans k'⟩
end K57
namespace K57
open PySem L2 MI
/-! ### whole machines -/
def allWs : List (List Nat) :=
  [[]] ++ [[0], [1], [2]] ++ [[0, 0], [0, 1], [0, 2], [1, 0], [1, 1], [1, 2], [2, 0], [2, 1], [2, 2]] ++
  [[0, 0, 0], [0, 0, 1], [0, 0, 2], [0, 1, 0], [0, 1, 1], [0, 1, 2], [0, 2, 0], [0, 2, 1], [0, 2, 2],
   [1, 0, 0], [1, 0, 1], [1, 0, 2], [1, 1, 0], [1, 1, 1], [1, 1, 2], [1, 2, 0], [1, 2, 1], [1, 2, 2],
   [2, 0, 0], [2, 0, 1], [2, 0, 2], [2, 1, 0], [2, 1, 1], [2, 1, 2], [2, 2, 0], [2, 2, 1], [2, 2, 2]]
theorem ws_mem {ws : List Nat} (h : ws.length ≤ 3) (hi : ∀ i ∈ ws, i < 3) : ws ∈ allWs := by
  have t : ∀ a : Nat, a < 3 → a = 0 ∨ a = 1 ∨ a = 2 := fun a h => by omega
  match ws, h, hi with
  | [], _, _ => decide
  | [a], _, hi =>
    rcases t a (hi a (by simp)) with rfl | rfl | rfl <;> decide
  | [a, b], _, hi =>
    rcases t a (hi a (by simp)) with rfl | rfl | rfl <;> rcases t b (hi b (by simp)) with rfl | rfl | rfl <;> decide
  | [a, b, c], _, hi =>
    rcases t a (hi a (by simp)) with rfl | rfl | rfl <;> rcases t b (hi b (by simp)) with rfl | rfl | rfl <;> rcases t c (hi c (by simp)) with rfl | rfl | rfl <;> decide
theorem ws_all {P : List Nat → Bool} (h : allWs.all P = true) {ws : List Nat} (hm : ws ∈ allWs) : P ws = true := List.all_eq_true.mp h ws hm
abbrev pls (ws : List Nat) : List MV := [.tup [.int 0, wrapL ws leaf], .tup [.int 1, endP 0], .tup [.int 2, endP 1]]
theorem dSb {l : List MV} (h : (pus l && decide (fls l ≤ 1900) && decide (dps l ≤ 60)) = true) : Das l := by
  simp only [Bool.and_eq_true, decide_eq_true_eq] at h
  exact ⟨h.1.1, h.1.2, h.2⟩
theorem das_pls {ws : List Nat} (h : ws ∈ allWs) : Das (pls ws) := dSb (ws_all (P := fun ws => pus (pls ws) && decide (fls (pls ws) ≤ 1900) && decide (dps (pls ws) ≤ 60)) (by decide +kernel) h)
theorem das_mk {ws : List Nat} (h : ws ∈ allWs) : Das [.tup [.str "p"], .int 0, .tup (pls ws)] := dSb (ws_all (P := fun ws => pus [.tup [.str "p"], .int 0, .tup (pls ws)] && decide (fls [.tup [.str "p"], .int 0, .tup (pls ws)] ≤ 1900) && decide (dps [.tup [.str "p"], .int 0, .tup (pls ws)] ≤ 60)) (by decide +kernel) h)
def isO (b : Bool) (o : Option Bool) : Bool := o == some b
theorem isO_eq {b : Bool} {o : Option Bool} (h : isO b o = true) : o = some b := eq_of_beq h
theorem m_five {ws : List Nat} (h : ws ∈ allWs) : machB 40 (.tup [.tup [.str "p"], .int 0, .tup (pls ws)]) = some true := isO_eq (ws_all (P := fun ws => isO true (machB 40 (.tup [.tup [.str "p"], .int 0, .tup (pls ws)]))) (by decide +kernel) h)
theorem m_q {ws : List Nat} (h : ws ∈ allWs) : machB 40 (.tup [.tup [.str "q"], .int 0, .tup (pls ws)]) = some true := isO_eq (ws_all (P := fun ws => isO true (machB 40 (.tup [.tup [.str "q"], .int 0, .tup (pls ws)]))) (by decide +kernel) h)
theorem m_pq {ws : List Nat} (h : ws ∈ allWs) : machB 40 (.tup [.tup [.str "p", .str "q"], .int 0, .tup (pls ws)]) = some true := isO_eq (ws_all (P := fun ws => isO true (machB 40 (.tup [.tup [.str "p", .str "q"], .int 0, .tup (pls ws)]))) (by decide +kernel) h)
theorem m_8 {ws : List Nat} (h : ws ∈ allWs) : machB 40 (.tup [.tup [.str "p"], .int 0, .tup (pls ws ++ [.tup [.int 8, leaf]])]) = some true := isO_eq (ws_all (P := fun ws => isO true (machB 40 (.tup [.tup [.str "p"], .int 0, .tup (pls ws ++ [.tup [.int 8, leaf]])]))) (by decide +kernel) h)
theorem m_0n {ws : List Nat} (h : ws ∈ allWs) : machB 40 (.tup [.tup [.str "p"], .int 0, .tup (pls ws ++ [.tup [.int 0, .non]])]) = some false := isO_eq (ws_all (P := fun ws => isO false (machB 40 (.tup [.tup [.str "p"], .int 0, .tup (pls ws ++ [.tup [.int 0, .non]])]))) (by decide +kernel) h)
theorem m_0t {ws : List Nat} (h : ws ∈ allWs) : machB 40 (.tup [.tup [.str "p"], .int 0, .tup (pls ws ++ [.tup [.int 0, .tup []]])]) = some false := isO_eq (ws_all (P := fun ws => isO false (machB 40 (.tup [.tup [.str "p"], .int 0, .tup (pls ws ++ [.tup [.int 0, .tup []]])]))) (by decide +kernel) h)
/-- the words that may head two parameters; r: where a list of theirs lies -/
def WdA (r : Option Nat) (a : MV) : Prop := (∃ s, a = .str s) ∨ a = .non ∨ (∃ i, a = .int i) ∨ ∃ n, r = some n ∧ a = .ref n
def Wh (b : Bool) (r : Option Nat) (t : MV) : Prop := machB 40 t = some b ∧ ∀ a c x y, t = .tup [.tup [a, c], x, y] → WdA r a
theorem Wh.mk' {b : Bool} {r : Option Nat} {t : MV} (h : machB 40 t = some b) (w : ∀ a c x y, t = .tup [.tup [a, c], x, y] → WdA r a) : Wh b r t := ⟨h, w⟩
theorem Wh.some {b : Bool} {r : Option Nat} {t : MV} (h : Wh b none t) : Wh b r t := ⟨h.1, fun a c x y e => by
  rcases h.2 a c x y e with h | h | h | ⟨n, h, _⟩
  · exact .inl h
  · exact .inr (.inl h)
  · exact .inr (.inr (.inl h))
  · cases h⟩
/-- at r, if anywhere: a list of plain things -/
def ROk (r : Option Nat) (m : Mem) : Prop := ∀ n, r = some n → ∃ l, m[n]? = some (.lst l) ∧ Das l
theorem ROk.kp {r : Option Nat} {m m' : Mem} (h : ROk r m) (k : Kp [] m m') : ROk r m' := fun n hn => let ⟨l, h1, h2⟩ := h n hn; ⟨l, k.get h1 (by simp), h2⟩
theorem WdA.ok {r : Option Nat} {m : Mem} {a : MV} (h : WdA r a) (hr : ROk r m) : WdOk m a := by
  rcases h with h | h | h | ⟨n, e, rfl⟩
  · exact .inl h
  · exact .inr (.inl h)
  · exact .inr (.inr (.inl h))
  · obtain ⟨l, h1, h2⟩ := hr n e
    exact .inr (.inr (.inr ⟨n, l, rfl, h1, h2⟩))
/-- the values of a list whose word is another one: none -/
theorem compW_ok {k : Nat} {j : Nat} {S : List Nat} {w : Str} (b : Bool) (hw : w = wordOf b) {r : Option Nat} {ρ : MI.Env} {L : List MV} {m : Mem} {chk : Mem → Prop} {Q : List MV → Mem → Prop} {E : Exn → Mem → Prop} (hl : j < ρ.length) (hr : ROk r m) (hv : ∀ t ∈ L, VOk S m t) (ht : ∀ t ∈ L, Wh b r t)
    (hc : ∀ m', Kp [] m m' → chk m') (q : ∀ m', Kp [] m m' → Q [] m') :
    MI.W (lcM chk (ngName j) (mB (mBin (gEqA true) (mCall (Tab (k + 50) .l_word) (mCons (mVar j) mNil)) (mC (.str w)))) (mVar j) ρ L [] m) Q E := by
  subst hw
  refine W_lcs (fun l acc m' => acc = [] ∧ (∀ t ∈ l, t ∈ L) ∧ Kp [] m m') _ _ _ ⟨rfl, fun _ h => h, Kp.refl⟩ (fun l acc m' h => hc m' h.2.2) ?_ ?_
  · rintro d l acc m1 ⟨rfl, h1, h3⟩
    refine ⟨[(j, d)], rfl, ?_⟩
    have ej : (ρ.set j (some d))[j]? = some (some d) := List.getElem?_set_self hl
    simp only [setE, W_B, W_bin, W_call, W_cons, W_nil, W_vr, W_C, List.foldl_cons, List.foldl_nil]
    simp [ej]
    have hd := h1 d (by simp)
    have hw := ht d hd
    refine (word_ok (f := 40) (k := k) ((hv d hd).kp (kps h3)).ty (fun a c x y e => (hw.2 a c x y e).ok (hr.kp h3)) hw.1).mono ?_
    rintro w m3 ⟨rfl, k3⟩
    simp
    exact ⟨fun t ht => h1 t (by simp [ht]), h3.trans k3⟩
  · rintro acc m1 ⟨rfl, h1, h3⟩
    exact q m1 h3
end K57
namespace K57
open PySem L2 MI
noncomputable def whR (ck : Fnm → MF) : MS := (mSeq (mAsg (mLst (mCons (mVar 5) (mCons (mTup (mCons (mTup (mCons (mC (.str "q")) mNil)) (mCons (mVar 3) (mCons (mVar 4) mNil)))) (mCons (mTup (mCons (mTup (mCons (mC (.str "p")) (mCons (mC (.str "q")) mNil))) (mCons (mVar 3) (mCons (mVar 4) mNil)))) (mCons (mTup (mCons (mVar 2) (mCons (mC (.int 1)) (mCons (mVar 7) mNil)))) mNil))))) (nName 13))
    (mSeq (mDrop (mBM gAppend (mVar 13) (mCons (mTup (mCons (mVar 2) (mCons (mVar 3) (mCons (mBin gAdd (mVar 4) (mTup (mCons (mTup (mCons (mC (.int 8)) (mCons (mVar 1) mNil))) mNil))) mNil)))) mNil)))
    (mRet (mBin gEqE (mLc (mAnyI (mVar 13)) (ngName 9) (mB (mBin (gEqA true) (mCall (ck .l_word) (mCons (mVar 9) mNil)) (mC (.str "good")))) (mVar 9) [9]) (mLst mNil)))))
noncomputable def whA (ck : Fnm → MF) : MS := (mSeq (mIfS (mB (mBin (gEqA true) (mLc (mAnyI (mVar 8)) (ngName 9) (mB (mBin (gEqA true) (mCall (ck .l_word) (mCons (mVar 9) mNil)) (mC (.str "machine")))) (mVar 9) [9]) (mLst mNil)))
    (mRet (mC (.bl false)))
    mSkip)
    (whR ck))
noncomputable def wh12 (ck : Fnm → MF) : MS := (mSeq (mFor (mAnyI (mLst (mCons (mC .non) (mCons (mTup mNil) (mCons (mTup (mCons (mC (.int 0)) mNil)) (mCons (mLst (mCons (mC (.int 0)) (mCons (mVar 1) mNil))) (mCons (mTup (mCons (mC (.int 0)) (mCons (mVar 1) (mCons (mC (.int 0)) mNil)))) (mCons (mTup (mCons (mC (.int 0)) (mCons (mC .non) mNil))) (mCons (mTup (mCons (mC (.int 0)) (mCons (mTup mNil) mNil))) (mCons (mVar 1) (mCons (mC (.int 0)) mNil))))))))))) (nName 12)
    (mDrop (mBM gAppend (mVar 8) (mCons (mTup (mCons (mVar 2) (mCons (mVar 3) (mCons (mBin gAdd (mVar 4) (mTup (mCons (mVar 12) mNil))) mNil)))) mNil))))
    (whA ck))
noncomputable def wh11 (ck : Fnm → MF) : MS := (mSeq (mFor (mAnyI (mLst (mCons (mC (.int 9)) (mCons (mNeg (mC (.int 1))) (mCons (mC (.bl true)) (mCons (mC .non) (mCons (mC (.str "0")) (mCons (mLst mNil) (mCons (mTup mNil) (mCons (mBin gPow (mC (.int 10)) (mC (.int 25))) mNil)))))))))) (nName 11)
    (mDrop (mBM gAppend (mVar 8) (mCons (mTup (mCons (mVar 2) (mCons (mVar 3) (mCons (mBin gAdd (mVar 4) (mTup (mCons (mTup (mCons (mVar 11) (mCons (mVar 1) mNil))) mNil))) mNil)))) mNil))))
    (wh12 ck))
noncomputable def wh14 (ck : Fnm → MF) : MS := (mSeq (mAsg (mBin gAdd (mVar 8) (mLc (mAnyI (mLst (mCons (mC (.int 1)) (mCons (mC (.int 2)) (mCons (mC (.int 3)) (mCons (mNeg (mC (.int 1))) (mCons (mC (.bl true)) (mCons (mC (.bl false)) (mCons (mC .non) (mCons (mC (.str "0")) (mCons (mLst mNil) (mCons (mBin gPow (mC (.int 10)) (mC (.int 25))) mNil)))))))))))) (ngName 14) mYes (mTup (mCons (mVar 2) (mCons (mVar 14) (mCons (mVar 4) mNil)))) [14])) (nName 8))
    (wh11 ck))
noncomputable def wh10 (ck : Fnm → MF) : MS := (mSeq (mFor (mAnyI (mLst (mCons (mC (.str "if")) (mCons (mC (.str "Q")) (mCons (mC .non) (mCons (mLst (mCons (mC (.str "q")) mNil)) (mCons (mC (.str "abcdefghi")) (mCons (mC (.str "")) (mCons (mC (.str "q
")) (mCons (mC (.int 0)) mNil)))))))))) (nName 10)
    (mAsg (mBin gAdd (mVar 8) (mLst (mCons (mTup (mCons (mTup (mCons (mC (.str "p")) (mCons (mVar 10) mNil))) (mCons (mVar 3) (mCons (mVar 4) mNil)))) (mCons (mTup (mCons (mTup (mCons (mVar 10) (mCons (mC (.str "p")) mNil))) (mCons (mVar 3) (mCons (mVar 4) mNil)))) mNil)))) (nName 8)))
    (wh14 ck))
noncomputable def wh9 (ck : Fnm → MF) : MS := (mSeq (mFor (mAnyI (mLst (mCons (mLst (mCons (mC (.str "p")) mNil)) (mCons (mTup (mCons (mC (.str "p")) (mCons (mC (.str "p")) mNil))) (mCons (mTup (mCons (mC (.str "if")) mNil)) (mCons (mTup (mCons (mC (.str "p")) (mCons (mC (.str "q")) (mCons (mC (.str "x")) mNil)))) (mCons (mTup (mCons (mLst (mCons (mC (.str "p")) mNil)) mNil)) (mCons (mTup (mCons (mC .non) mNil)) (mCons (mTup (mCons mDNew mNil)) (mCons (mTup (mCons (mC (.int 1)) mNil)) (mCons (mTup (mCons (mTup (mCons (mC (.str "p")) mNil)) mNil)) (mCons (mC (.int 1)) (mCons (mC .non) mNil))))))))))))) (nName 9)
    (mDrop (mBM gAppend (mVar 8) (mCons (mTup (mCons (mVar 9) (mCons (mVar 3) (mCons (mVar 4) mNil)))) mNil))))
    (wh10 ck))
noncomputable def wh8 (ck : Fnm → MF) : MS := (mSeq (mAsg (mBin gAdd (mVar 8) (mLst (mCons (mTup (mCons (mVar 2) (mCons (mVar 3) (mCons (mCall gListA (mCons (mVar 4) mNil)) mNil)))) (mCons (mTup (mCons (mVar 2) (mCons (mC (.int 0)) (mCons (mVar 7) mNil)))) mNil)))) (nName 8))
    (wh9 ck))
noncomputable def wh7 (ck : Fnm → MF) : MS := (mSeq (mAsg (mLst (mCons (mC .non) (mCons (mLst mNil) (mCons (mTup mNil) (mCons (mCall gListA (mCons (mVar 5) mNil)) (mCons (mSl (mVar 5) mNo (mEnd (mC (.int 2)))) (mCons (mBin gAdd (mVar 5) (mTup (mCons (mC (.int 0)) mNil))) (mCons (mTup (mCons (mVar 2) (mCons (mVar 3) (mCons (mTup mNil) mNil)))) mNil)))))))) (nName 8))
    (wh8 ck))
theorem b_wholes (ck : Fnm → MF) : b_l_wholes ck = (mSeq (mAsg (mCall (ck .l_leaf) mNil) (nName 1))
    (mSeq (mAsg (mCall (ck .l_with_tree) (mCons (mVar 0) (mCons (mVar 1) mNil))) (nTup 3 (nCons (nName 2) (nCons (nName 3) (nCons (nName 4) nNil)))))
    (mSeq (mAsg (mTup (mCons (mVar 2) (mCons (mVar 3) (mCons (mVar 4) mNil)))) (nName 5))
    (mSeq (mAsg (mTup (mCons (mC (.str "end")) (mCons (mTup (mCons (mC (.str "value")) (mCons (mTup (mCons (mC (.str "place")) (mCons (mC (.int 0)) mNil))) mNil))) (mCons (mC (.int 0)) (mCons (mTup (mCons (mTup (mCons (mC (.str "place")) (mCons (mC (.int 0)) mNil))) mNil)) mNil))))) (nName 6))
    (mSeq (mAsg (mTup (mCons (mTup (mCons (mC (.int 1)) (mCons (mVar 6) mNil))) (mCons (mTup (mCons (mC (.int 0)) (mCons (mTup (mCons (mC (.str "end")) (mCons (mTup (mCons (mC (.str "value")) (mCons (mTup (mCons (mC (.str "none")) mNil)) mNil))) (mCons (mC (.int 1)) (mCons (mTup mNil) mNil))))) mNil))) mNil))) (nName 7))
    (wh7 ck)))))) := rfl
abbrev pP : MV := .tup [.str "p"]
abbrev wv5 (ws : List Nat) : MV := .tup [pP, .int 0, .tup (pls ws)]
abbrev wv6 : MV := .tup [.str "end", .tup [.str "value", .tup [.str "place", .int 0]], .int 0, .tup [.tup [.str "place", .int 0]]]
abbrev wv7 : MV := .tup [.tup [.int 1, wv6], .tup [.int 0, .tup [.str "end", .tup [.str "value", .tup [.str "none"]], .int 1, .tup []]]]
theorem pls_v {S : List Nat} {m : Mem} {ws : List Nat} : VOk S m (.tup (pls ws)) := v3 (vp vi (wrapL_v leaf_v ws)) (vp vi endP_v) (vp vi endP_v)
theorem pP_v {S : List Nat} {m : Mem} : VOk S m pP := v1 vs
theorem end3_v {S : List Nat} {m : Mem} {a b c : MV} (ha : VOk S m a) (hb : VOk S m b) (hc : VOk S m c) : VOk S m (.tup [.str "end", a, b, c]) := vt (by decide) (by decide) (by simp) (by simp; exact ⟨ha, hb, hc⟩)
theorem wv6_v {S : List Nat} {m : Mem} : VOk S m wv6 := end3_v (vp vs (vp vs vi)) vi (v1 (vp vs vi))
theorem wv7_v {S : List Nat} {m : Mem} : VOk S m wv7 := vp (vp vi wv6_v) (vp vi (end3_v (vp vs (v1 vs)) vi v0))
theorem m_1 : machB 40 (.tup [pP, .int 1, wv7]) = some true := isO_eq (by decide +kernel)
abbrev wEn (s : Nat) (ws : List Nat) (e8 e9 e10 e11 e12 e13 e14 : Option MV) : MI.Env := [some (.ref s), some leaf, some pP, some (.int 0), some (.tup (pls ws)), some (wv5 ws), some wv6, some wv7, e8, e9, e10, e11, e12, e13, e14]
theorem pls8_v {S : List Nat} {m : Mem} {ws : List Nat} {x : MV} (h : VOk S m x) : VOk S m (.tup (pls ws ++ [x])) := by
  refine vn (by simp) (fun d hd => ?_) (fun w r e => by cases e)
  simp at hd
  rcases hd with rfl | rfl | rfl | rfl
  · exact vp vi (wrapL_v leaf_v ws)
  · exact vp vi endP_v
  · exact vp vi endP_v
  · exact h
theorem whR_ok {k s : Nat} {ws : List Nat} {m : Mem} {e8 e9 e10 e11 e12 e13 e14 : Option MV} (hw : ws ∈ allWs) {Q : Fl → Mem → Prop} {E : Exn → Mem → Prop} (q : ∀ m', Kp [] m m' → Q (.rt (.bl true)) m') :
    MI.W (whR (Tab (k + 50)) (wEn s ws e8 e9 e10 e11 e12 e13 e14) m) Q E := by
  have sz : ∀ n, n ≤ 1000 → n ≤ sizeLine := fun n h => szl h
  have s4 : 4 < sizeLine := Nat.lt_of_lt_of_le (by decide : 4 < 1000) (szl (Nat.le_refl _))
  unfold whR
  simp [sz, s4, wipe1]
  refine compW_ok (k := k) (S := []) true rfl (r := none) (by simp) (fun n h => by cases h) ?_ ?_ (fun m' km => ?_) (fun m' km => ?_)
  · intro t ht
    simp only [List.mem_cons, List.not_mem_nil, or_false] at ht
    rcases ht with rfl | rfl | rfl | rfl | rfl
    · exact v3 pP_v vi pls_v
    · exact v3 (v1 vs) vi pls_v
    · exact v3 (vp vs vs) vi pls_v
    · exact v3 pP_v vi wv7_v
    · exact v3 pP_v vi (pls8_v (vp vi leaf_v))
  · intro t ht
    simp only [List.mem_cons, List.not_mem_nil, or_false] at ht
    rcases ht with rfl | rfl | rfl | rfl | rfl
    · exact ⟨m_five hw, fun a c x y e => by cases e⟩
    · exact ⟨m_q hw, fun a c x y e => by cases e⟩
    · exact ⟨m_pq hw, fun a c x y e => by cases e; exact .inl ⟨_, rfl⟩⟩
    · exact ⟨m_1, fun a c x y e => by cases e⟩
    · exact ⟨m_8 hw, fun a c x y e => by cases e⟩
  · have := km.get (n := m.length) List.getElem?_concat_length (by simp)
    simp [this]
  · simp
    exact q _ ((Kp.push.trans km).trans Kp.app)
theorem LsAt.some {m0 m : Mem} {b : Bool} {r : Option Nat} {S : List Nat} {N x : Nat} (O : LsAt (Wh b none) S m0 N x m) : LsAt (Wh b r) S m0 N x m := by
  obtain ⟨⟨L, h1, h2, h3, h4⟩, h5, h6⟩ := O
  exact ⟨⟨L, h1, h2, h3, fun t ht => (h4 t ht).some⟩, h5, h6⟩
theorem whA_ok {k s x N : Nat} {ws : List Nat} {r : Option Nat} {M0 m : Mem} {e9 e10 e11 e12 e13 e14 : Option MV} (hw : ws ∈ allWs) (O : LsAt (Wh false r) [] M0 N x m) (hr : ROk r m) {Q : Fl → Mem → Prop} {E : Exn → Mem → Prop} (q : ∀ m', Kp [] M0 m' → Q (.rt (.bl true)) m') :
    MI.W (whA (Tab (k + 50)) (wEn s ws (some (.ref x)) e9 e10 e11 e12 e13 e14) m) Q E := by
  obtain ⟨⟨L, h1, h2, h3, h4⟩, h5, h6⟩ := O
  unfold whA
  simp [h1, wipe1]
  refine compW_ok (k := k) (S := []) false rfl (r := r) (by simp) hr (fun t ht => (h3 t ht).tail) h4 (fun m' km => ?_) (fun m' km => ?_)
  · simp [km.get h1 (by simp)]
  · refine empty_ne ?_
    simp
    exact whR_ok (k := k) hw (fun m'' k'' => q m'' (((h6.trans km).trans Kp.app).trans k''))
end K57
namespace K57
open PySem L2 MI
theorem ROk.kpx {r : Option Nat} {m m' : Mem} {x : Nat} (h : ROk r m) (k : Kp [x] m m') (hx : r ≠ some x) : ROk r m' := fun n hn => let ⟨l, h1, h2⟩ := h n hn; ⟨l, k.get h1 (by simp; rintro rfl; exact hx hn), h2⟩
theorem das_0leaf : Das [.int 0, leaf] := ⟨by decide +kernel, by decide +kernel, by decide +kernel⟩
abbrev plsF (ws : List Nat) (d : MV) : MV := .tup [pP, .int 0, .tup (pls ws ++ [d])]
theorem wh12_ok {k s x N : Nat} {ws : List Nat} {r : Option Nat} {M0 m : Mem} {e9 e10 e11 e12 e13 e14 : Option MV} (hw : ws ∈ allWs) (hN : N ≤ 900) (O : LsAt (Wh false r) [] M0 N x m) (hr : ROk r m) (hx : r ≠ some x) {Q : Fl → Mem → Prop} {E : Exn → Mem → Prop} (q : ∀ m', Kp [] M0 m' → Q (.rt (.bl true)) m') :
    MI.W (wh12 (Tab (k + 50)) (wEn s ws (some (.ref x)) e9 e10 e11 e12 e13 e14) m) Q E := by
  have sz : ∀ n, n ≤ 1000 → n ≤ sizeLine := fun n h => szl h
  have lx : x < m.length := let ⟨_, h, _⟩ := O.ex; (List.getElem?_eq_some_iff.mp h).1
  unfold wh12
  simp [sz, Nat.add_assoc]
  have rv : VOk [x] (m ++ [.lst [.int 0, leaf], .lst [.non, .tup [], .tup [.int 0], .ref m.length, .tup [.int 0, leaf, .int 0], .tup [.int 0, .non], .tup [.int 0, .tup []], leaf, .int 0]]) (.ref m.length) := vref at_app0 das_0leaf (by simp; omega)
  refine app_loop (F := plsF ws) (O.more Kp.app) rfl (by decide) (by simp; omega) (fun d hd => ?_) (fun d m' _ hd => v3 pP_v vi (pls8_v hd)) (fun d hd => ?_) (fun d m' _ => ?_) (fun m' km => ?_) (fun z m' O' km => ?_)
  · simp only [List.mem_cons, List.not_mem_nil, or_false] at hd
    rcases hd with rfl | rfl | rfl | rfl | rfl | rfl | rfl | rfl | rfl
    · simp
    · exact v0
    · exact v1 vi
    · exact rv
    · exact v3 vi leaf_v vi
    · exact vp vi (by simp)
    · exact vp vi v0
    · exact leaf_v
    · exact vi
  · simp only [List.mem_cons, List.not_mem_nil, or_false] at hd
    rcases hd with rfl | rfl | rfl | rfl | rfl | rfl | rfl | rfl | rfl
    · exact ⟨by kernel_rfl, fun a c x y e => by cases e⟩
    · exact ⟨by kernel_rfl, fun a c x y e => by cases e⟩
    · exact ⟨by kernel_rfl, fun a c x y e => by cases e⟩
    · exact ⟨by kernel_rfl, fun a c x y e => by cases e⟩
    · exact ⟨by kernel_rfl, fun a c x y e => by cases e⟩
    · exact ⟨m_0n hw, fun a c x y e => by cases e⟩
    · exact ⟨m_0t hw, fun a c x y e => by cases e⟩
    · exact ⟨by kernel_rfl, fun a c x y e => by cases e⟩
    · exact ⟨by kernel_rfl, fun a c x y e => by cases e⟩
  · exact W_eq (by simp [sz])
  · have := km.2 (m.length + 1) (by simp) (by simp; omega)
    rw [at_app] at this
    simp at this
    simp [this]
  · simp
    exact whA_ok (k := k) hw O' ((hr.kp Kp.app).kpx km hx) q
theorem wh11_ok {k s x N : Nat} {ws : List Nat} {r : Option Nat} {M0 m : Mem} {e9 e10 e11 e12 e13 e14 : Option MV} (hw : ws ∈ allWs) (hN : N ≤ 890) (O : LsAt (Wh false r) [] M0 N x m) (hr : ROk r m) (hx : r ≠ some x) {Q : Fl → Mem → Prop} {E : Exn → Mem → Prop} (q : ∀ m', Kp [] M0 m' → Q (.rt (.bl true)) m') :
    MI.W (wh11 (Tab (k + 50)) (wEn s ws (some (.ref x)) e9 e10 e11 e12 e13 e14) m) Q E := by
  have sz : ∀ n, n ≤ 1000 → n ≤ sizeLine := fun n h => szl h
  have lx : x < m.length := let ⟨_, h, _⟩ := O.ex; (List.getElem?_eq_some_iff.mp h).1
  unfold wh11
  simp [sz, Nat.add_assoc, pw25]
  have rv : VOk [x] (m ++ [.lst [], .lst [.int 9, .int (-1), .bl true, .non, .str "0", .ref m.length, .tup [], .int 10000000000000000000000000]]) (.ref m.length) := vref at_app0 das_nil (by simp; omega)
  refine app_loop (F := fun d => plsF ws (.tup [d, leaf])) (O.more Kp.app) rfl (by decide) (by simp; omega) (fun d hd => ?_) (fun d m' _ hd => v3 pP_v vi (pls8_v (vp hd leaf_v))) (fun d hd => ?_) (fun d m' _ => ?_) (fun m' km => ?_) (fun z m' O' km => ?_)
  · simp only [List.mem_cons, List.not_mem_nil, or_false] at hd
    rcases hd with rfl | rfl | rfl | rfl | rfl | rfl | rfl | rfl
    · exact vi
    · exact vi
    · simp
    · simp
    · exact vs
    · exact rv
    · exact v0
    · exact vi
  · simp only [List.mem_cons, List.not_mem_nil, or_false] at hd
    rcases hd with rfl | rfl | rfl | rfl | rfl | rfl | rfl | rfl
    all_goals exact ⟨by kernel_rfl, fun a c x y e => by cases e⟩
  · exact W_eq (by simp [sz])
  · have := km.2 (m.length + 1) (by simp) (by simp; omega)
    rw [at_app] at this
    simp at this
    simp [this]
  · simp
    exact wh12_ok (k := k) hw (by simp; omega) O' ((hr.kp Kp.app).kpx km hx) hx q
theorem wh14_ok {k s x N : Nat} {ws : List Nat} {r : Option Nat} {M0 m : Mem} {e9 e10 e11 e12 e13 e14 : Option MV} (hw : ws ∈ allWs) (hN : N ≤ 800) (O : LsAt (Wh false r) [] M0 N x m) (hr : ROk r m) {Q : Fl → Mem → Prop} {E : Exn → Mem → Prop} (q : ∀ m', Kp [] M0 m' → Q (.rt (.bl true)) m') :
    MI.W (wh14 (Tab (k + 50)) (wEn s ws (some (.ref x)) e9 e10 e11 e12 e13 e14) m) Q E := by
  have sz : ∀ n, n ≤ 1000 → n ≤ sizeLine := fun n h => szl h
  have lx : x < m.length := let ⟨_, h, _⟩ := O.ex; (List.getElem?_eq_some_iff.mp h).1
  unfold wh14
  simp [sz, Nat.add_assoc, pw25, -W_add_r]
  refine W_pure (fun d => .tup [pP, d, .tup (pls ws)]) (fun _ => true) (by rw [at_app]; rfl) (fun d hd => ⟨rfl, fun _ => by simp [mTup, mCons, mVar, mNil, mC, Re.bind, wipeM, sz]⟩) (by simp) ?_
  rw [filter_all]
  refine ls_add O (Kp.app.trans Kp.push) List.getElem?_concat_length ?_ ?_ (by simp; omega) (fun L O2 => ?_)
  · intro t ht
    obtain ⟨d, hd, rfl⟩ := List.mem_map.mp ht
    simp only [List.mem_cons, List.not_mem_nil, or_false] at hd
    refine v3 pP_v ?_ pls_v
    rcases hd with rfl | rfl | rfl | rfl | rfl | rfl | rfl | rfl | rfl | rfl
    · exact vi
    · exact vi
    · exact vi
    · exact vi
    · simp
    · simp
    · simp
    · exact vs
    · exact vref (l := []) (by rw [List.append_assoc]; exact at_app0) das_nil (by simp)
    · exact vi
  · intro t ht
    obtain ⟨d, hd, rfl⟩ := List.mem_map.mp ht
    simp only [List.mem_cons, List.not_mem_nil, or_false] at hd
    rcases hd with rfl | rfl | rfl | rfl | rfl | rfl | rfl | rfl | rfl | rfl
    all_goals exact ⟨by kernel_rfl, fun a c x y e => by cases e⟩
  · refine wh11_ok (k := k) hw (by simp; omega) O2 (hr.kp ((Kp.app.trans Kp.push).trans Kp.push)) ?_ q
    rintro rfl
    obtain ⟨l, h1, h2⟩ := hr _ rfl
    have := (List.getElem?_eq_some_iff.mp h1).1
    rw [List.length_append, List.length_append] at this
    omega
end K57
namespace K57
open PySem L2 MI
abbrev w2L (m : Mem) : List MV := [.str "if", .str "Q", .non, .ref m.length, .str "abcdefghi", .str "", .str "q\n", .int 0]
theorem das_q : Das [.str "q"] := ⟨by decide +kernel, by decide +kernel, by decide +kernel⟩
theorem das_p : Das [.str "p"] := ⟨by decide +kernel, by decide +kernel, by decide +kernel⟩
theorem w2_a {ws : List Nat} {m : Mem} {d : MV} (hd : d ∈ w2L m) : Wh false (some m.length) (.tup [.tup [.str "p", d], .int 0, .tup (pls ws)]) := by
  simp only [List.mem_cons, List.not_mem_nil, or_false] at hd
  refine ⟨?_, fun a c x y e => by cases e; exact .inl ⟨_, rfl⟩⟩
  rcases hd with rfl | rfl | rfl | rfl | rfl | rfl | rfl | rfl <;> kernel_rfl
theorem w2_b {ws : List Nat} {m : Mem} {d : MV} (hd : d ∈ w2L m) : Wh false (some m.length) (.tup [.tup [d, .str "p"], .int 0, .tup (pls ws)]) := by
  simp only [List.mem_cons, List.not_mem_nil, or_false] at hd
  refine ⟨?_, fun a c x y e => ?_⟩
  · rcases hd with rfl | rfl | rfl | rfl | rfl | rfl | rfl | rfl <;> kernel_rfl
  · cases e
    rcases hd with rfl | rfl | rfl | rfl | rfl | rfl | rfl | rfl
    · exact .inl ⟨_, rfl⟩
    · exact .inl ⟨_, rfl⟩
    · exact .inr (.inl rfl)
    · exact .inr (.inr (.inr ⟨_, rfl, rfl⟩))
    · exact .inl ⟨_, rfl⟩
    · exact .inl ⟨_, rfl⟩
    · exact .inl ⟨_, rfl⟩
    · exact .inr (.inr (.inl ⟨_, rfl⟩))
theorem w2_v {m m' : Mem} {d : MV} (hd : d ∈ w2L m) (k : Kp [] (m ++ [.lst [.str "q"], .lst (w2L m)]) m') : VOk [] m' d := by
  simp only [List.mem_cons, List.not_mem_nil, or_false] at hd
  rcases hd with rfl | rfl | rfl | rfl | rfl | rfl | rfl | rfl
  · exact vs
  · exact vs
  · simp
  · exact vref (l := [.str "q"]) (k.get at_app0 (by simp)) das_q (by simp)
  · exact vs
  · exact vs
  · exact vs
  · exact vi
def W10 (s : Nat) (ws : List Nat) (M0 m : Mem) (N : Nat) (e9 e11 e12 e13 e14 : Option MV) (l : List MV) (ρ : MI.Env) (m' : Mem) : Prop :=
  ∃ (n y : Nat) (e10 : Option MV), ρ = wEn s ws (some (.ref y)) e9 e10 e11 e12 e13 e14 ∧ n + 2 * l.length = N + 16 ∧ LsAt (Wh false (some m.length)) [] M0 n y m' ∧ (∀ d ∈ l, d ∈ w2L m) ∧ Kp [] (m ++ [.lst [.str "q"], .lst (w2L m)]) m'
theorem wh10_ok {k s x N : Nat} {ws : List Nat} {M0 m : Mem} {e9 e10 e11 e12 e13 e14 : Option MV} (hw : ws ∈ allWs) (hN : N ≤ 100) (O : LsAt (Wh false none) [] M0 N x m) {Q : Fl → Mem → Prop} {E : Exn → Mem → Prop} (q : ∀ m', Kp [] M0 m' → Q (.rt (.bl true)) m') :
    MI.W (wh10 (Tab (k + 50)) (wEn s ws (some (.ref x)) e9 e10 e11 e12 e13 e14) m) Q E := by
  have sz : ∀ n, n ≤ 1000 → n ≤ sizeLine := fun n h => szl h
  unfold wh10
  simp [sz, Nat.add_assoc]
  refine W_loop (W10 s ws M0 m N e9 e11 e12 e13 e14) _ _ _ ?_ ?_ ?_ ?_
  · exact ⟨N, x, e10, rfl, rfl, (O.more Kp.app).some, fun d h => h, Kp.refl⟩
  · rintro l ρ m' ⟨n, y, e10, rfl, hn, O', hl, km⟩
    have := km.get (n := m.length + 1) (by rw [at_app]; rfl) (by simp)
    simp [this]
  · rintro d l ρ m' ⟨n, y, e10, rfl, hn, O', hl, km⟩
    have hd := hl d (by simp)
    have hv := w2_v hd km
    simp [sz, -W_add_r]
    simp at hn
    refine ls_add O' Kp.push List.getElem?_concat_length ?_ ?_ (by simp; omega) (fun L O2 => ?_)
    · intro t ht
      simp only [List.mem_cons, List.not_mem_nil, or_false] at ht
      rcases ht with rfl | rfl
      · exact v3 (vp vs (hv.kp Kp.push)) vi pls_v
      · exact v3 (vp (hv.kp Kp.push) vs) vi pls_v
    · intro t ht
      simp only [List.mem_cons, List.not_mem_nil, or_false] at ht
      rcases ht with rfl | rfl
      · exact w2_a hd
      · exact w2_b hd
    exact ⟨_, _, _, rfl, by simp; omega, O2, fun d h => hl d (by simp [h]), (km.trans Kp.push).trans Kp.push⟩
  · rintro ρ m' ⟨n, y, e10, rfl, hn, O', hl, km⟩
    simp at hn
    simp
    exact wh14_ok (k := k) (r := some m.length) hw (by omega) O' (fun n hn => by cases hn; exact ⟨_, km.get at_app0 (by simp), das_q⟩) q
theorem wh9_ok {k s x N : Nat} {ws : List Nat} {M0 m : Mem} {e9 e10 e11 e12 e13 e14 : Option MV} (hw : ws ∈ allWs) (hN : N ≤ 50) (O : LsAt (Wh false none) [] M0 N x m) {Q : Fl → Mem → Prop} {E : Exn → Mem → Prop} (q : ∀ m', Kp [] M0 m' → Q (.rt (.bl true)) m') :
    MI.W (wh9 (Tab (k + 50)) (wEn s ws (some (.ref x)) e9 e10 e11 e12 e13 e14) m) Q E := by
  have sz : ∀ n, n ≤ 1000 → n ≤ sizeLine := fun n h => szl h
  have lx : x < m.length := let ⟨_, h, _⟩ := O.ex; (List.getElem?_eq_some_iff.mp h).1
  unfold wh9
  simp [sz, Nat.add_assoc]
  have pv : ∀ i r, r[i]? = some (MO.lst [.str "p"]) → VOk [x] (m ++ r) (.ref (m.length + i)) := fun i r h => vref (l := [.str "p"]) (by rw [at_app]; exact h) das_p (by simp; omega)
  refine app_loop (F := fun d => .tup [d, .int 0, .tup (pls ws)]) (O.more Kp.app) rfl (by decide) (by simp; omega) (fun d hd => ?_) (fun d m' _ hd => v3 hd vi pls_v) (fun d hd => ?_) (fun d m' _ => ?_) (fun m' km => ?_) (fun z m' O' km => ?_)
  · simp only [List.mem_cons, List.not_mem_nil, or_false] at hd
    rcases hd with rfl | rfl | rfl | rfl | rfl | rfl | rfl | rfl | rfl | rfl | rfl
    · exact pv 0 _ rfl
    · exact vp vs vs
    · exact v1 vs
    · exact v3 vs vs vs
    · exact v1 (pv 1 _ rfl)
    · exact v1 (by simp)
    · exact v1 (vdct (l := []) (by rw [at_app]; rfl) (by simp; omega))
    · exact v1 vi
    · exact v1 (v1 vs)
    · exact vi
    · simp
  · simp only [List.mem_cons, List.not_mem_nil, or_false] at hd
    rcases hd with rfl | rfl | rfl | rfl | rfl | rfl | rfl | rfl | rfl | rfl | rfl
    · exact ⟨by kernel_rfl, fun a c x y e => by cases e⟩
    · exact ⟨by kernel_rfl, fun a c x y e => by cases e; exact .inl ⟨_, rfl⟩⟩
    all_goals exact ⟨by kernel_rfl, fun a c x y e => by cases e⟩
  · exact W_eq (by simp [sz])
  · have := km.2 (m.length + 3) (by simp) (by simp; omega)
    rw [at_app] at this
    simp at this
    simp [this]
  · simp
    exact wh10_ok (k := k) hw (by simp; omega) O' q
end K57
namespace K57
open PySem L2 MI
theorem wh8_ok {k s x N : Nat} {ws : List Nat} {M0 m : Mem} {e9 e10 e11 e12 e13 e14 : Option MV} (hw : ws ∈ allWs) (hN : N ≤ 40) (O : LsAt (Wh false none) [] M0 N x m) {Q : Fl → Mem → Prop} {E : Exn → Mem → Prop} (q : ∀ m', Kp [] M0 m' → Q (.rt (.bl true)) m') :
    MI.W (wh8 (Tab (k + 50)) (wEn s ws (some (.ref x)) e9 e10 e11 e12 e13 e14) m) Q E := by
  have sz : ∀ n, n ≤ 1000 → n ≤ sizeLine := fun n h => szl h
  unfold wh8
  simp [sz, Nat.add_assoc, -W_add_r]
  refine ls_add (L2 := [.tup [pP, .int 0, .ref m.length], .tup [pP, .int 0, wv7]]) O Kp.app (by rw [at_app]; rfl) ?_ ?_ (by simp; omega) (fun L O2 => ?_)
  · intro t ht
    simp only [List.mem_cons, List.not_mem_nil, or_false] at ht
    rcases ht with rfl | rfl
    · exact v3 pP_v vi (vref at_app0 (das_pls hw) (by simp))
    · exact v3 pP_v vi wv7_v
  · intro t ht
    simp only [List.mem_cons, List.not_mem_nil, or_false] at ht
    rcases ht with rfl | rfl
    · exact ⟨by kernel_rfl, fun a c x y e => by cases e⟩
    · exact ⟨by kernel_rfl, fun a c x y e => by cases e⟩
  · exact wh9_ok (k := k) hw (by simp; omega) O2 q
theorem wh7_ok {k s : Nat} {ws : List Nat} {M0 : Mem} {e8 e9 e10 e11 e12 e13 e14 : Option MV} (hw : ws ∈ allWs) {Q : Fl → Mem → Prop} {E : Exn → Mem → Prop} (q : ∀ m', Kp [] M0 m' → Q (.rt (.bl true)) m') :
    MI.W (wh7 (Tab (k + 50)) (wEn s ws e8 e9 e10 e11 e12 e13 e14) M0) Q E := by
  have sz : ∀ n, n ≤ 1000 → n ≤ sizeLine := fun n h => szl h
  unfold wh7
  simp [sz, Nat.add_assoc]
  rw [show cutM [pP, MV.int 0, MV.tup (pls ws)] none (some 2) = [pP, .int 0] from rfl]
  have kp : Kp [] M0 (M0 ++ [MO.lst [], MO.lst [pP, .int 0, .tup (pls ws)]]) := Kp.app
  have O : LsAt (Wh false none) [] M0 7 (M0 ++ [MO.lst [], MO.lst [pP, .int 0, .tup (pls ws)]]).length ((M0 ++ [MO.lst [], MO.lst [pP, .int 0, .tup (pls ws)]]) ++ [.lst [.non, .ref M0.length, .tup [], .ref (M0.length + 1), .tup [pP, .int 0], .tup [pP, .int 0, .tup (pls ws), .int 0], .tup [pP, .int 0, .tup []]]]) := by
    refine LsAt.new (L := [.non, .ref M0.length, .tup [], .ref (M0.length + 1), .tup [pP, .int 0], .tup [pP, .int 0, .tup (pls ws), .int 0], .tup [pP, .int 0, .tup []]]) kp ?_ ?_
    · intro t ht
      simp only [List.mem_cons, List.not_mem_nil, or_false] at ht
      rcases ht with rfl | rfl | rfl | rfl | rfl | rfl | rfl
      · simp
      · exact vref at_app0 das_nil (by simp)
      · exact v0
      · exact vref (l := [pP, .int 0, .tup (pls ws)]) (by rw [at_app]; rfl) (das_mk hw) (by simp)
      · exact vp pP_v vi
      · refine vn (by simp) (fun d hd => ?_) (fun w r e => by cases e)
        simp only [List.mem_cons, List.not_mem_nil, or_false] at hd
        rcases hd with rfl | rfl | rfl | rfl
        · exact pP_v
        · exact vi
        · exact pls_v
        · exact vi
      · exact v3 pP_v vi v0
    · intro t ht
      simp only [List.mem_cons, List.not_mem_nil, or_false] at ht
      rcases ht with rfl | rfl | rfl | rfl | rfl | rfl | rfl
      all_goals exact ⟨by kernel_rfl, fun a c x y e => by cases e⟩
  have z := wh8_ok (k := k) (s := s) (e9 := e9) (e10 := e10) (e11 := e11) (e12 := e12) (e13 := e13) (e14 := e14) hw (by omega) O q (E := E)
  simpa using z
theorem wholes_ok {k : Nat} {s c n : Nat} {m : Mem} (B : Bud m s c (n + 10)) : MI.W (Tab (k + 51) .l_wholes [.ref s] m) (fun d m' => d = .bl true ∧ Bud m' s c n ∧ Kp [s, c] m m') E0 := by
  have sz : ∀ n, n ≤ 1000 → n ≤ sizeLine := fun n h => szl h
  show MI.W (f_l_wholes (Tab (k + 50)) [.ref s] m) _ _
  unfold f_l_wholes
  rw [b_wholes]
  simp [startM, sz, W_asgT, nCons, nName, nNil]
  refine leaf_ok ?_
  refine (with_ok (k := k + 48) (n := n) (t := leaf) (B.less (by omega))).mono ?_
  rintro d m1 ⟨ws, h1, h2, rfl, b1, k1⟩
  have hw := ws_mem h1 h2
  simp [W_asgT, nCons, nName, nNil, mkV, statesV, sz]
  exact wh7_ok (k := k) (s := s) hw (fun m' k' => ⟨rfl, b1.any k', k1.trans (kps k')⟩)
end K57
namespace K57
open PySem L2 MI
theorem drop_rng {lo : Int} {n i : Nat} (h : i < n) : (rngL lo n).drop i = .int (lo + i) :: (rngL lo n).drop (i + 1) := by
  rw [List.drop_eq_getElem_cons (by rw [rngL_length]; exact h)]
  simp [rngL]
theorem ixN_nat {n i : Nat} (h : i < n) : ixN n (i : Int) = some i := by
  unfold ixN
  rw [if_pos (by omega), if_pos (by omega)]
  simp
theorem at_set {m : Mem} {n : Nat} {o o' : MO} (h : m[n]? = some o) : (m.set n o')[n]? = some o' := List.getElem?_set_self (List.getElem?_eq_some_iff.mp h).1
/-! ### the source -/
structure SoI (m : Mem) (e0 : MV) (rem : List MV) (ρ : MI.Env) (m' : Mem) : Prop where
  ex : ∃ (i c N : Nat) (cs : List Int) (x2 : Option MV), rem = (rngL 0 N).drop i ∧ ρ = [some e0, some (.ref c), x2] ∧ m'[c]? = some (.lst (cs.map .int)) ∧ cs.length = N ∧ m.length ≤ c ∧ Kp [] m m'
theorem source_ok {k : Nat} {m : Mem} {ns : List Int} : MI.W (Tab (k + 1) .l_source [.kl (ns.map .int)] m) (fun d m' => ∃ s c, d = .ref s ∧ Src m' s c 0 ∧ m.length ≤ s ∧ m.length ≤ c ∧ Kp [] m m') E0 := by
  show MI.W (f_l_source (Tab k) [.kl (ns.map .int)] m) _ _
  unfold f_l_source b_l_source
  simp [startM]
  have hcut : ∃ cs : List Int, cutM (ns.map MV.int) none (some 63) = cs.map .int ∧ cs.length ≤ 63 := ⟨cutM ns none (some 63), by unfold cutM; simp [List.map_take, List.map_drop], by unfold cutM HT.sIx; simp; omega⟩
  obtain ⟨cs, e1, e2⟩ := hcut
  rw [e1]
  simp
  refine ⟨by omega, ?_⟩
  refine W_loop (SoI m (.kl (ns.map .int))) _ _ _ ⟨0, _, _, cs, none, rfl, rfl, List.getElem?_concat_length, by simp, Nat.le_refl _, Kp.push⟩ (fun _ _ _ _ => trivial) ?_ ?_
  · rintro d rem ρ m1 ⟨i, c, N, cs, x2, q1, rfl, q3, q4, q5, q6⟩
    by_cases hi : i < N
    · rw [drop_rng hi] at q1
      cases q1
      have ea : atM (cs.map MV.int) (i : Nat) = some (.int cs[i]) := atM_nat (by simp [q4, hi])
      have pw1 : CPowW 10 18 := by decide
      have pw2 : CPowW 10 60 := by decide
      have pw3 : CPowW 1000000000000000000000000000000000000000000000000000000000000 20 := by decide
      have st : ∀ v : Int, SoI m (.kl (ns.map .int)) ((rngL 0 N).drop (i + 1)) [some (.kl (ns.map .int)), some (.ref c), some (.int (i : Nat))] (m1.set c (.lst ((cs.map MV.int).set i (.int v)))) := fun v =>
        ⟨i + 1, c, N, cs.set i v, _, rfl, rfl, by rw [at_set q3, List.map_set], by simpa using q4, q5, q6.wrNew q5⟩
      have nx : SoI m (.kl (ns.map .int)) ((rngL 0 N).drop (i + 1)) [some (.kl (ns.map .int)), some (.ref c), some (.int (i : Nat))] m1 := ⟨i + 1, c, N, cs, _, rfl, rfl, q3, q4, q5, q6⟩
      simp [q3, ea, pw1, pw2, pw3, ixN_nat, q4, hi]
      split
      · split
        · exact st _
        · exact nx
      · split
        · exact st _
        · exact nx
    · rw [List.drop_of_length_le (by rw [rngL_length]; omega)] at q1
      cases q1
  · rintro ρ m1 ⟨i, c, N, cs, x2, q1, rfl, q3, q4, q5, q6⟩
    simp
    have lc : c < m1.length := (List.getElem?_eq_some_iff.mp q3).1
    have q3' : (m1 ++ [MO.lst []])[c]? = some (.lst (cs.map .int)) := (Kp.push (S := [])).get q3 (by simp)
    rw [q3']
    simp
    have lm := q6.1
    split
    · refine ⟨szl (by decide), szl (by decide), m1.length + 1, ⟨⟨[0], by simp, ?_, ?_⟩, by omega, by omega⟩, by omega, by omega, q6.trans Kp.app⟩
      · rw [show m1.length + 1 + 1 = m1.length + 2 by omega, at_app]; rfl
      · rw [at_app]; rfl
    · refine ⟨szl (by decide), c, ⟨⟨cs, by assumption, ?_, ?_⟩, by omega, by omega⟩, by omega, by omega, q6.trans Kp.app⟩
      · rw [at_app]; rfl
      · exact (Kp.app (S := [])).get q3 (by simp)
theorem law_ok {ns : List Int} : MI.W (Tab 60 .law [.kl (ns.map .int)] []) (fun d m' => d = .bl true) E0 := by
  have e : Tab 60 .law = f_law (Tab 59) := rfl
  rw [e]
  unfold f_law b_law
  simp [startM]
  refine (source_ok (k := 58)).mono ?_
  rintro d m1 ⟨s, c, rfl, a1, l1, l2, k1⟩
  have B : Bud m1 s c (100 + 10 + 40 + 400 + 600 + 3000) := ⟨0, a1, by omega⟩
  refine (opnds_ok (k := 8) B).mono ?_
  rintro d m2 ⟨rfl, B, k2⟩
  simp
  refine (ends_ok (k := 8) B).mono ?_
  rintro d m3 ⟨rfl, B, k3⟩
  simp
  refine (asks_ok (k := 8) B).mono ?_
  rintro d m4 ⟨rfl, B, k4⟩
  simp
  refine (long_ok (k := 8) B).mono ?_
  rintro d m5 ⟨rfl, B, k5⟩
  simp
  refine (wholes_ok (k := 8) B).mono ?_
  rintro d m6 ⟨rfl, B, k6⟩
  rfl
end K57
namespace K57
open PySem L2 MI
theorem of_W {r : Re MV} (h : MI.W r (fun d _ => d = .bl true) E0) : ∃ m', r = .ok (.bl true) m' := by
  cases r with
  | ok d m => exact ⟨m, by rw [show d = .bl true from h]⟩
  | ex x m => exact h.elim
  | stuck => exact h.elim
theorem law_all {ns : List Int} (j : Nat) (hj : j = 60) : MI.W (Tab j .law [.kl (ns.map .int)] []) (fun d m' => d = .bl true) E0 := by
  subst hj
  with_reducible exact law_ok (ns := ns)
theorem law_true : ∀ ns : List Int, ns.length ≤ 63 → (∀ z ∈ ns, Builtin.Int.intBits z ≤ 1048576) → ∃ m', Tab 60 .law [.kl (ns.map .int)] [] = .ok (.bl true) m' := by
  intro ns _ _
  apply of_W
  with_reducible exact law_all (ns := ns) 60 rfl
end K57
open PySem PySem.W PyProof.Rows
set_option maxRecDepth 100000 in
set_option maxHeartbeats 0 in
theorem PySem.Challenge.cw_keptops_k57_wrong_machines_holds : PySem.Challenge.rw_keptops_k57_wrong_machines.Holds := by
  w_on; o_law; k_head; (case hw => w_witness2)
  k_fill
  refine MI.walkM (l := PySem.Challenge.rw_keptops_k57_wrong_machines) (k := MI.lv 60) (x := "_law_script") (F := K57.Tab 60 .law) rfl rfl ⟨rfl, by decide, by decide⟩ (fun w h Y => by first | exact PySem.W.kIn_of Y | exact PySem.W.km_in_of Y) ?G K57.law_true
  case G =>
    intro w mg fa h KX G hmg
    refine K57.law_at ?D ?T 59 hmg
    case D =>
      refine ⟨?d0, ?d1, ?d2, ?d3, ?d4, ?d5, ?d6, ?d7, ?d8, ?d9, ?d10, ?d11, ?d12, ?d13, ?d14, ?d15, ?d16, ?d17, ?d18, ?d19, ?d20, ?d21, ?d22, ?d23, ?d24, ?d25, ?d26, ?d27, ?d28, ?d29, ?d30⟩
      (case d0 => refine' MI.def_mk KX G ?a ?l ?c ?k (fun _ _ _ _ _ _ us hl => match us, hl with | [_], _ => rfl); (case a => k_is); (case l => k_is); (case c => k_is); (case k => k_is))
      (case d1 => refine' MI.def_mk KX G ?a ?l ?c ?k (fun _ _ _ _ _ _ us hl => match us, hl with | [_], _ => rfl); (case a => k_is); (case l => k_is); (case c => k_is); (case k => k_is))
      (case d2 => refine' MI.def_mk KX G ?a ?l ?c ?k (fun _ _ _ _ _ _ us hl => match us, hl with | [_, _], _ => rfl); (case a => k_is); (case l => k_is); (case c => k_is); (case k => k_is))
      (case d3 => refine' MI.def_mk KX G ?a ?l ?c ?k (fun _ _ _ _ _ _ us hl => match us, hl with | [_, _], _ => rfl); (case a => k_is); (case l => k_is); (case c => k_is); (case k => k_is))
      (case d4 => refine' MI.def_mk KX G ?a ?l ?c ?k (fun _ _ _ _ _ _ us hl => match us, hl with | [_, _], _ => rfl); (case a => k_is); (case l => k_is); (case c => k_is); (case k => k_is))
      (case d5 => refine' MI.def_mk KX G ?a ?l ?c ?k (fun _ _ _ _ _ _ us hl => match us, hl with | [_, _], _ => rfl); (case a => k_is); (case l => k_is); (case c => k_is); (case k => k_is))
      (case d6 => refine' MI.def_mk KX G ?a ?l ?c ?k (fun _ _ _ _ _ _ us hl => match us, hl with | [_], _ => rfl); (case a => k_is); (case l => k_is); (case c => k_is); (case k => k_is))
      (case d7 => refine' MI.def_mk KX G ?a ?l ?c ?k (fun _ _ _ _ _ _ us hl => match us, hl with | [_], _ => rfl); (case a => k_is); (case l => k_is); (case c => k_is); (case k => k_is))
      (case d8 => refine' MI.def_mk KX G ?a ?l ?c ?k (fun _ _ _ _ _ _ us hl => match us, hl with | [_, _], _ => rfl); (case a => k_is); (case l => k_is); (case c => k_is); (case k => k_is))
      (case d9 => refine' MI.def_mk KX G ?a ?l ?c ?k (fun _ _ _ _ _ _ us hl => match us, hl with | [_, _, _, _], _ => rfl); (case a => k_is); (case l => k_is); (case c => k_is); (case k => k_is))
      (case d10 => refine' MI.def_mk KX G ?a ?l ?c ?k (fun _ _ _ _ _ _ us hl => match us, hl with | [_, _], _ => rfl); (case a => k_is); (case l => k_is); (case c => k_is); (case k => k_is))
      (case d11 => refine' MI.def_mk KX G ?a ?l ?c ?k (fun _ _ _ _ _ _ us hl => match us, hl with | [_, _, _], _ => rfl); (case a => k_is); (case l => k_is); (case c => k_is); (case k => k_is))
      (case d12 => refine' MI.def_mk KX G ?a ?l ?c ?k (fun _ _ _ _ _ _ us hl => match us, hl with | [_, _, _], _ => rfl); (case a => k_is); (case l => k_is); (case c => k_is); (case k => k_is))
      (case d13 => refine' MI.def_mk KX G ?a ?l ?c ?k (fun _ _ _ _ _ _ us hl => match us, hl with | [_, _, _, _], _ => rfl); (case a => k_is); (case l => k_is); (case c => k_is); (case k => k_is))
      (case d14 => refine' MI.def_mk KX G ?a ?l ?c ?k (fun _ _ _ _ _ _ us hl => match us, hl with | [_, _, _], _ => rfl); (case a => k_is); (case l => k_is); (case c => k_is); (case k => k_is))
      (case d15 => refine' MI.def_mk KX G ?a ?l ?c ?k (fun _ _ _ _ _ _ us hl => match us, hl with | [_, _, _], _ => rfl); (case a => k_is); (case l => k_is); (case c => k_is); (case k => k_is))
      (case d16 => refine' MI.def_mk KX G ?a ?l ?c ?k (fun _ _ _ _ _ _ us hl => match us, hl with | [_, _], _ => rfl); (case a => k_is); (case l => k_is); (case c => k_is); (case k => k_is))
      (case d17 => refine' MI.def_mk KX G ?a ?l ?c ?k (fun _ _ _ _ _ _ us hl => match us, hl with | [_], _ => rfl); (case a => k_is); (case l => k_is); (case c => k_is); (case k => k_is))
      (case d18 => refine' MI.def_mk KX G ?a ?l ?c ?k (fun _ _ _ _ _ _ us hl => match us, hl with | [_, _], _ => rfl); (case a => k_is); (case l => k_is); (case c => k_is); (case k => k_is))
      (case d19 => refine' MI.def_mk KX G ?a ?l ?c ?k (fun _ _ _ _ _ _ us hl => match us, hl with | [_], _ => rfl); (case a => k_is); (case l => k_is); (case c => k_is); (case k => k_is))
      (case d20 => refine' MI.def_mk KX G ?a ?l ?c ?k (fun _ _ _ _ _ _ us hl => match us, hl with | [], _ => rfl); (case a => k_is); (case l => k_is); (case c => k_is); (case k => k_is))
      (case d21 => refine' MI.def_mk KX G ?a ?l ?c ?k (fun _ _ _ _ _ _ us hl => match us, hl with | [_, _], _ => rfl); (case a => k_is); (case l => k_is); (case c => k_is); (case k => k_is))
      (case d22 => refine' MI.def_mk KX G ?a ?l ?c ?k (fun _ _ _ _ _ _ us hl => match us, hl with | [_], _ => rfl); (case a => k_is); (case l => k_is); (case c => k_is); (case k => k_is))
      (case d23 => refine' MI.def_mk KX G ?a ?l ?c ?k (fun _ _ _ _ _ _ us hl => match us, hl with | [_], _ => rfl); (case a => k_is); (case l => k_is); (case c => k_is); (case k => k_is))
      (case d24 => refine' MI.def_mk KX G ?a ?l ?c ?k (fun _ _ _ _ _ _ us hl => match us, hl with | [_], _ => rfl); (case a => k_is); (case l => k_is); (case c => k_is); (case k => k_is))
      (case d25 => refine' MI.def_mk KX G ?a ?l ?c ?k (fun _ _ _ _ _ _ us hl => match us, hl with | [_], _ => rfl); (case a => k_is); (case l => k_is); (case c => k_is); (case k => k_is))
      (case d26 => refine' MI.def_mk KX G ?a ?l ?c ?k (fun _ _ _ _ _ _ us hl => match us, hl with | [_], _ => rfl); (case a => k_is); (case l => k_is); (case c => k_is); (case k => k_is))
      (case d27 => refine' MI.def_mk KX G ?a ?l ?c ?k (fun _ _ _ _ _ _ us hl => match us, hl with | [_], _ => rfl); (case a => k_is); (case l => k_is); (case c => k_is); (case k => k_is))
      (case d28 => refine' MI.def_mk KX G ?a ?l ?c ?k (fun _ _ _ _ _ _ us hl => match us, hl with | [_], _ => rfl); (case a => k_is); (case l => k_is); (case c => k_is); (case k => k_is))
      (case d29 => refine' MI.def_mk KX G ?a ?l ?c ?k (fun _ _ _ _ _ _ us hl => match us, hl with | [_], _ => rfl); (case a => k_is); (case l => k_is); (case c => k_is); (case k => k_is))
      (case d30 => refine' MI.ini_mk KX G ?a ?i ?fn ?mk ?kp ?l ?c ?k (fun _ _ _ _ _ _ us hl => match us, hl with | [_, _, _, _], _ => rfl); (case a => k_is); (case i => k_is); (case fn => k_is); (case mk => k_is); (case kp => k_is); (case l => k_is); (case c => k_is); (case k => k_is))
    case T =>
      refine ⟨?t0, ?t1, ?t2, ?t3, ?t4, ?t5, ?t6, ?t7, ?t8, ?t9, ?t10, ?t11, ?t12, ?t13, ?t14, ?t15, ?t16, ?t17, ?t18, ?t19, ?t20, ?t21, ?t22, ?t23, ?t24, ?t25, ?t26, ?t27, ?t28, ?t29, ?t30, ?t31⟩
      (case t0 => (refine' PySem.W.mg_none_of KX G ?a; (case a => k_is)))
      (case t1 => (refine' PySem.W.mg_none_of KX G ?a; (case a => k_is)))
      (case t2 => (refine' PySem.W.mg_none_of KX G ?a; (case a => k_is)))
      (case t3 => (refine' PySem.W.mg_none_of KX G ?a; (case a => k_is)))
      (case t4 => (refine' PySem.W.mg_none_of KX G ?a; (case a => k_is)))
      (case t5 => (refine' PySem.W.mg_none_of KX G ?a; (case a => k_is)))
      (case t6 => (refine' PySem.W.mg_none_of KX G ?a; (case a => k_is)))
      (case t7 => (refine' PySem.W.mg_none_of KX G ?a; (case a => k_is)))
      (case t8 => (refine' PySem.W.mg_none_of KX G ?a; (case a => k_is)))
      (case t9 => (refine' PySem.W.mg_none_of KX G ?a; (case a => k_is)))
      (case t10 => (refine' PySem.W.mg_none_of KX G ?a; (case a => k_is)))
      (case t11 => (refine' MI.con_any 3 KX G ?a ?e; (case a => k_is); (case e => rfl)))
      (case t12 => (refine' MI.con_any 3 KX G ?a ?e; (case a => k_is); (case e => rfl)))
      (case t13 => (refine' MI.con_any 3 KX G ?a ?e; (case a => k_is); (case e => rfl)))
      (case t14 => (refine' MI.con_any 3 KX G ?a ?e; (case a => k_is); (case e => rfl)))
      (case t15 => (refine' MI.con_any 3 KX G ?a ?e; (case a => k_is); (case e => rfl)))
      (case t16 => (refine' MI.con_any 3 KX G ?a ?e; (case a => k_is); (case e => rfl)))
      (case t17 => (refine' MI.con_any 3 KX G ?a ?e; (case a => k_is); (case e => rfl)))
      (case t18 => (refine' MI.con_any 3 KX G ?a ?e; (case a => k_is); (case e => rfl)))
      (case t19 => (refine' MI.con_any 3 KX G ?a ?e; (case a => k_is); (case e => rfl)))
      (case t20 => (refine' MI.con_any 3 KX G ?a ?e; (case a => k_is); (case e => rfl)))
      (case t21 => (refine' MI.con_any 3 KX G ?a ?e; (case a => k_is); (case e => rfl)))
      (case t22 => (refine' MI.con_any 3 KX G ?a ?e; (case a => k_is); (case e => rfl)))
      (case t23 => (refine' MI.exf_mk KX G ?a ?b ?c ?d ?e; (case a => k_is); (case b => k_exc); (case c => k_is); (case d => k_is); (case e => k_is)))
      (case t24 => (refine' MI.exf_mk KX G ?a ?b ?c ?d ?e; (case a => k_is); (case b => k_exc); (case c => k_is); (case d => k_is); (case e => k_is)))
      (case t25 => (refine' MI.hnd_mk KX G ?a ?e; (case a => k_is); (case e => rfl)))
      (case t26 => (refine' MI.isx_own KX G ?a ?e; (case a => k_is); (case e => rfl)))
      (case t27 => (refine' MI.isx_own KX G ?a ?e; (case a => k_is); (case e => rfl)))
      (case t28 => (refine' MI.isx_blt (T := "ValueError") KX G ?a (by decide +kernel) ?e; (case a => k_is); (case e => rfl)))
      (case t29 => (refine' MI.fld_mk ?a ?pg ?hd ?po ?sa ?n; (case a => k_is); (case pg => k_is); (case hd => k_is); (case po => k_is); (case sa => k_is); (case n => k_is)))
      (case t30 => (refine' MI.fld_mk ?a ?pg ?hd ?po ?sa ?n; (case a => k_is); (case pg => k_is); (case hd => k_is); (case po => k_is); (case sa => k_is); (case n => k_is)))
      (case t31 => (refine' MI.fld_mk ?a ?pg ?hd ?po ?sa ?n; (case a => k_is); (case pg => k_is); (case hd => k_is); (case po => k_is); (case sa => k_is); (case n => k_is)))
