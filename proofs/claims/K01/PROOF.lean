import PyProof.Rows.All
import Wide.All
import OpenK.AllK
import Wide.FinOn
import HandS.ForMost
import HandS.ForExc
import HandS.Flow
import HandS.Wide
import HandS.NoneIn
import HandS.Conv
import HandS.Star
import HandS.IsInst
import HandS.TupAny
import HandS.TupMul
import HandS.Deep
import HandS.Text
import HandS.CallSlots
import HandS.Walk
import HandS.Flt
import HandS.More
import HandS.Iter
import HandS.ExcOwn
import HandS.TryOnly
import HandS.ExcCtx
import HandS.SuiteRaise
import HandS.RaiseFrom
import HandS.ExcIs
import KE.GoesEnum
import KE.KDictZip
import HandS.Zip
import HandS.SetFor
import HandS.EndBits
import HandS.Words
import PySem.Challenge.RW_keptops_k01_expressions
set_option Elab.async false
set_option linter.all false
set_option maxRecDepth 100000
/-! MI: a small world of values and objects in which a def's work is a plain function; each rule says that the machine does what the function says. -/
namespace MI
open PySem L2

/-- values: tuples are told by what they hold, mutable objects by their number -/
inductive MV where
  | non | bl (b : Bool) | int (i : Int) | str (s : Str) | tup (l : List MV) | ref (n : Nat) | kl (l : List MV)
/-- an exception: its class's name -/
structure Exn where
  cls : Str
/-- objects -/
inductive MO where
  | lst (l : List MV) | frz (l : List MV) | dct (l : List (Key × MV)) | exn (x : Exn)
abbrev Mem := List MO
abbrev Env := List (Option MV)
inductive Re (α : Type) where
  | ok (a : α) (m : Mem) | ex (x : Exn) (m : Mem) | stuck
/-- how a statement ends -/
inductive Fl where
  | nx (ρ : Env) | rt (d : MV) | bk (ρ : Env) | ct (ρ : Env) | ex (x : Exn) (ρ : Env)
abbrev ME := Env → Mem → Re MV
abbrev MT := Env → Mem → Re Bool
abbrev MA := Env → Mem → Re (List MV)
abbrev MS := Env → Mem → Re Fl
abbrev MF := List MV → Mem → Re MV

def Re.bind {α γ : Type} : Re α → (α → Mem → Re γ) → Re γ
  | .ok a m, f => f a m
  | .ex x m, _ => .ex x m
  | .stuck, _ => .stuck

/-! ### how the two worlds lie to one another -/
/-- a list that nobody writes: the script, or one of the module -/
def KL (K : PySem.W.Frag) (β : List Addr) (H : Hp) (a : Addr) (vs : List V) : Prop :=
  (a ∉ β ∧ ∃ ob, H a = some (.frz ob (.lst vs))) ∨ ∃ (o : Obj) (its : Array Value) (n : Nat), K.lookup a = some o ∧ o.cls = .type "list" ∧ o.dict = none ∧ o.data = .seq its n ∧ its.size ≤ sizeLine ∧ Vals vs its.toList
mutual
inductive RV (K : PySem.W.Frag) (β : List Addr) (H : Hp) : MV → V → Prop
  | non : RV K β H .non .non
  | bl (b : Bool) : RV K β H (.bl b) (.bl b)
  | int (i : Int) : RV K β H (.int i) (.int i)
  | str (x : Str) : RV K β H (.str x) (.str x)
  | tup {a : Addr} {ds : List MV} {vs : List V} : SqT K H a vs → RVs K β H ds vs → RV K β H (.tup ds) (.ref a)
  | ref {n : Nat} {a : Addr} : β[n]? = some a → RV K β H (.ref n) (.ref a)
  | kl {a : Addr} {ds : List MV} {vs : List V} : KL K β H a vs → RVs K β H ds vs → RV K β H (.kl ds) (.ref a)
inductive RVs (K : PySem.W.Frag) (β : List Addr) (H : Hp) : List MV → List V → Prop
  | nil : RVs K β H [] []
  | cons {d : MV} {v : V} {ds : List MV} {vs : List V} : RV K β H d v → RVs K β H ds vs → RVs K β H (d :: ds) (v :: vs)
end
/-- pairs of a dict -/
inductive RKs (K : PySem.W.Frag) (β : List Addr) (H : Hp) : List (Key × MV) → List (Key × V) → Prop
  | nil : RKs K β H [] []
  | cons {k : Key} {d : MV} {v : V} {ds : List (Key × MV)} {vs : List (Key × V)} : RV K β H d v → RKs K β H ds vs → RKs K β H ((k, d) :: ds) ((k, v) :: vs)
/-- the class of that name -/
def ClsN (K : PySem.W.Frag) (x : Str) (C : Addr) : Prop := PySem.W.nsIn K mainGlobals x = some (some (.ref C))
/-- an exception object that is kept -/
def ExH (cls : Value) (a : Addr) : HO := .ext fun h => ∃ (oe : Obj) (vs : Array Value), h.get? a = some oe ∧ oe.cls = cls ∧ oe.dict = none ∧ oe.data = .fields vs
def RO (K : PySem.W.Frag) (β : List Addr) (H : Hp) (o : MO) (a : Addr) : Prop :=
  match o with
  | .lst l => ∃ vs, H a = some (.lst vs) ∧ RVs K β H l vs
  | .frz l => ∃ vs ob, H a = some (.frz ob (.lst vs)) ∧ RVs K β H l vs
  | .dct l => ∃ vs, H a = some (.dK vs) ∧ RKs K β H l vs
  | .exn x => ∃ C, ClsN K x.cls C ∧ H a = some (ExH (.ref C) a)
structure RM (K : PySem.W.Frag) (β : List Addr) (H : Hp) (m : Mem) : Prop where
  len : β.length = m.length
  nd : β.Nodup
  ob : ∀ (n : Nat) (o : MO) (a : Addr), m[n]? = some o → β[n]? = some a → RO K β H o a
structure RE (K : PySem.W.Frag) (β : List Addr) (H : Hp) (ρ : Env) (σ : L2.St) : Prop where
  len : ρ.length = σ.length
  at_ : ∀ (i : Nat) (d : MV), ρ[i]? = some (some d) → ∃ v, σ[i]? = some (some v) ∧ RV K β H d v
structure Ext (β : List Addr) (H : Hp) (β' : List Addr) (H' : Hp) : Prop where
  pre : ∃ r, β' = β ++ r
  old : ∀ a o, H a = some o → a ∉ β → H' a = some o
  new : ∀ a, a ∈ β' → a ∈ β ∨ H a = none

section
variable {K : PySem.W.Frag} {β β' β'' : List Addr} {H H' H'' : Hp} {m m' : Mem}
theorem Ext.refl : Ext β H β H := ⟨⟨[], by simp⟩, fun _ _ h _ => h, fun _ h => .inl h⟩
theorem Ext.get (e : Ext β H β' H') {n : Nat} {a : Addr} (h : β[n]? = some a) : β'[n]? = some a := by
  obtain ⟨r, rfl⟩ := e.pre
  have hl : n < β.length := (List.getElem?_eq_some_iff.mp h).1
  rw [List.getElem?_append_left hl]; exact h
theorem Ext.mem (e : Ext β H β' H') {a : Addr} (h : a ∈ β) : a ∈ β' := by
  obtain ⟨r, rfl⟩ := e.pre
  exact List.mem_append_left _ h
theorem Ext.trans (e : Ext β H β' H') (f : Ext β' H' β'' H'') : Ext β H β'' H'' := by
  refine ⟨?_, fun a o h n => ?_, fun a h => ?_⟩
  · obtain ⟨r, rfl⟩ := e.pre
    obtain ⟨q, rfl⟩ := f.pre
    exact ⟨r ++ q, by simp⟩
  · refine f.old a o (e.old a o h n) fun z => ?_
    rcases e.new a z with z | z
    · exact n z
    · rw [h] at z; cases z
  · rcases f.new a h with z | z
    · exact e.new a z
    · by_cases q : a ∈ β
      · exact .inl q
      · refine .inr ?_
        cases w : H a with
        | none => rfl
        | some o => rw [e.old a o w q] at z; cases z
theorem RM.at_ (R : RM K β H m) {a : Addr} (h : a ∈ β) : ∃ (n : Nat) (o : MO), m[n]? = some o ∧ β[n]? = some a ∧ RO K β H o a := by
  obtain ⟨n, hn⟩ := List.mem_iff_getElem?.mp h
  have hl : n < m.length := by rw [← R.len]; exact (List.getElem?_eq_some_iff.mp hn).1
  exact ⟨n, m[n], by simp [hl], hn, R.ob n _ a (by simp [hl]) hn⟩
theorem RM.notup (R : RM K β H m) {a : Addr} {xs : List V} (h : Rd H a (.tup xs)) : a ∉ β := fun z => by
  obtain ⟨n, o, _, _, r⟩ := R.at_ z
  rcases h with h | ⟨ob, h⟩
  · cases o with
    | lst l => obtain ⟨vs, e, _⟩ := r; rw [h] at e; cases e
    | frz l => obtain ⟨vs, ob, e, _⟩ := r; rw [h] at e; cases e
    | dct l => obtain ⟨vs, e, _⟩ := r; rw [h] at e; cases e
    | exn x => obtain ⟨C, _, e⟩ := r; rw [h] at e; unfold ExH at e; cases e
  · cases o with
    | lst l => obtain ⟨vs, e, _⟩ := r; rw [h] at e; cases e
    | frz l => obtain ⟨vs, ob, e, _⟩ := r; rw [h] at e; cases e
    | dct l => obtain ⟨vs, e, _⟩ := r; rw [h] at e; cases e
    | exn x => obtain ⟨C, _, e⟩ := r; rw [h] at e; unfold ExH at e; cases e
theorem RM.sqt (R : RM K β H m) (e : Ext β H β' H') {a : Addr} {xs : List V} (h : SqT K H a xs) : SqT K H' a xs := by
  rcases h with h | h
  · have n := R.notup h
    rcases h with h | ⟨o, h⟩
    · exact .inl (.inl (e.old _ _ h n))
    · exact .inl (.inr ⟨o, e.old _ _ h n⟩)
  · exact .inr h
theorem KL.ext (e : Ext β H β' H') {a : Addr} {vs : List V} (h : KL K β H a vs) : KL K β' H' a vs := by
  rcases h with ⟨n, ob, h⟩ | h
  · refine .inl ⟨fun z => ?_, ob, e.old _ _ h n⟩
    rcases e.new a z with z | z
    · exact n z
    · rw [h] at z; cases z
  · exact .inr h
mutual
theorem RV.ext (R : RM K β H m) (e : Ext β H β' H') : ∀ {d : MV} {v : V}, RV K β H d v → RV K β' H' d v
  | _, _, .non => .non
  | _, _, .bl b => .bl b
  | _, _, .int i => .int i
  | _, _, .str x => .str x
  | _, _, .tup h r => .tup (R.sqt e h) (RVs.ext R e r)
  | _, _, .ref h => .ref (e.get h)
  | _, _, .kl h r => .kl (KL.ext e h) (RVs.ext R e r)
theorem RVs.ext (R : RM K β H m) (e : Ext β H β' H') : ∀ {d : List MV} {v : List V}, RVs K β H d v → RVs K β' H' d v
  | _, _, .nil => .nil
  | _, _, .cons h r => .cons (RV.ext R e h) (RVs.ext R e r)
end
theorem RKs.ext (R : RM K β H m) (e : Ext β H β' H') : ∀ {d : List (Key × MV)} {v : List (Key × V)}, RKs K β H d v → RKs K β' H' d v
  | _, _, .nil => .nil
  | _, _, .cons h r => .cons (RV.ext R e h) (RKs.ext R e r)
theorem RE.ext {ρ : Env} {σ : L2.St} (R : RM K β H m) (e : Ext β H β' H') (r : RE K β H ρ σ) : RE K β' H' ρ σ :=
  ⟨r.len, fun i d h => let ⟨v, h1, h2⟩ := r.at_ i d h; ⟨v, h1, h2.ext R e⟩⟩
theorem RE.set {ρ : Env} {σ : L2.St} {i : Nat} {d : MV} {v : V} (r : RE K β H ρ σ) (h : RV K β H d v) : RE K β H (ρ.set i (some d)) (σ.set i (some v)) := by
  refine ⟨by simp [r.len], fun j e q => ?_⟩
  by_cases hj : i = j
  · subst hj
    by_cases hl : i < ρ.length
    · rw [List.getElem?_set_self hl] at q
      cases q
      exact ⟨v, List.getElem?_set_self (by rw [← r.len]; exact hl), h⟩
    · rw [List.getElem?_eq_none (by simp; omega)] at q; cases q
  · rw [List.getElem?_set_ne hj] at q
    obtain ⟨u, h1, h2⟩ := r.at_ j e q
    exact ⟨u, by rw [List.getElem?_set_ne hj]; exact h1, h2⟩
theorem RVs.length : ∀ {ds : List MV} {vs : List V}, RVs K β H ds vs → ds.length = vs.length
  | _, _, .nil => rfl
  | _, _, .cons _ r => by simp [RVs.length r]
theorem RVs.get : ∀ {ds : List MV} {vs : List V} {i : Nat} {d : MV}, RVs K β H ds vs → ds[i]? = some d → ∃ v, vs[i]? = some v ∧ RV K β H d v
  | _, _, _, _, .nil, e => by simp at e
  | _, _, 0, _, .cons h r, e => by simp at e; subst e; exact ⟨_, rfl, h⟩
  | _, _, i + 1, d, .cons h r, e => by
    obtain ⟨v, h1, h2⟩ := RVs.get (i := i) r (by simpa using e)
    exact ⟨v, by simpa using h1, h2⟩
theorem RVs.app : ∀ {ds es : List MV} {vs us : List V}, RVs K β H ds vs → RVs K β H es us → RVs K β H (ds ++ es) (vs ++ us)
  | _, _, _, _, .nil, q => q
  | _, _, _, _, .cons h r, q => .cons h (RVs.app r q)
theorem RVs.take : ∀ {ds : List MV} {vs : List V} (n : Nat), RVs K β H ds vs → RVs K β H (ds.take n) (vs.take n)
  | _, _, 0, _ => by simp; exact .nil
  | _, _, n + 1, .nil => by simp; exact .nil
  | _, _, n + 1, .cons h r => .cons h (RVs.take n r)
theorem RVs.drop : ∀ {ds : List MV} {vs : List V} (n : Nat), RVs K β H ds vs → RVs K β H (ds.drop n) (vs.drop n)
  | _, _, 0, r => r
  | _, _, n + 1, .nil => .nil
  | _, _, n + 1, .cons h r => RVs.drop n r
theorem RVs.set : ∀ {ds : List MV} {vs : List V} {d : MV} {v : V} (n : Nat), RVs K β H ds vs → RV K β H d v → RVs K β H (ds.set n d) (vs.set n v)
  | _, _, _, _, _, .nil, _ => .nil
  | _, _, _, _, 0, .cons h r, q => .cons q r
  | _, _, _, _, n + 1, .cons h r, q => .cons h (RVs.set n r q)
/-- a new object is laid -/
theorem RM.fresh (R : RM K β H m) {p : Addr} (hp : H p = none) : p ∉ β := fun z => by
  obtain ⟨n, o, _, _, r⟩ := R.at_ z
  cases o with
  | lst l => obtain ⟨vs, e, _⟩ := r; rw [hp] at e; cases e
  | frz l => obtain ⟨vs, ob, e, _⟩ := r; rw [hp] at e; cases e
  | dct l => obtain ⟨vs, e, _⟩ := r; rw [hp] at e; cases e
  | exn x => obtain ⟨C, _, e⟩ := r; rw [hp] at e; cases e
theorem Ext.tup {p : Addr} {o : HO} (hp : H p = none) : Ext β H β (upd H p o) :=
  ⟨⟨[], by simp⟩, fun a u h _ => by rw [upd_ne (ne_of_none h hp)]; exact h, fun _ h => .inl h⟩
theorem Ext.push {p : Addr} {o : HO} (hp : H p = none) : Ext β H (β ++ [p]) (upd H p o) :=
  ⟨⟨[p], rfl⟩, fun a u h _ => by rw [upd_ne (ne_of_none h hp)]; exact h, fun a h => by
    rcases List.mem_append.mp h with z | z
    · exact .inl z
    · simp at z; subst z; exact .inr hp⟩
theorem RO.ext (R : RM K β H m) (e : Ext β H β' H') {o : MO} {a : Addr} (ha : H' a = H a) (r : RO K β H o a) : RO K β' H' o a := by
  cases o with
  | lst l => obtain ⟨vs, h, q⟩ := r; exact ⟨vs, by rw [ha]; exact h, q.ext R e⟩
  | frz l => obtain ⟨vs, ob, h, q⟩ := r; exact ⟨vs, ob, by rw [ha]; exact h, q.ext R e⟩
  | dct l => obtain ⟨vs, h, q⟩ := r; exact ⟨vs, by rw [ha]; exact h, q.ext R e⟩
  | exn x => obtain ⟨C, h1, h2⟩ := r; exact ⟨C, h1, by rw [ha]; exact h2⟩
/-- a thing that the small world does not number: the objects stay -/
theorem RM.tup (R : RM K β H m) {p : Addr} {o : HO} (hp : H p = none) : RM K β (upd H p o) m :=
  ⟨R.len, R.nd, fun n ob a h1 h2 => (R.ob n ob a h1 h2).ext R (Ext.tup hp) (upd_ne fun z => R.fresh hp (z ▸ List.mem_of_getElem? h2))⟩
theorem RM.push (R : RM K β H m) {p : Addr} {o : HO} {mo : MO} (hp : H p = none) (h : RO K (β ++ [p]) (upd H p o) mo p) : RM K (β ++ [p]) (upd H p o) (m ++ [mo]) := by
  refine ⟨by simp [R.len], ?_, fun n ob a h1 h2 => ?_⟩
  · have := R.fresh hp
    have nd := R.nd
    rw [List.nodup_append]
    refine ⟨nd, by simp, fun a ha b hb => ?_⟩
    simp at hb
    subst hb
    intro z
    subst z
    exact this ha
  · by_cases hn : n < m.length
    · rw [List.getElem?_append_left hn] at h1
      rw [List.getElem?_append_left (by rw [R.len]; exact hn)] at h2
      exact (R.ob n ob a h1 h2).ext R (Ext.push hp) (upd_ne fun z => R.fresh hp (z ▸ List.mem_of_getElem? h2))
    · rw [List.getElem?_append_right (by omega)] at h1
      rw [List.getElem?_append_right (by rw [R.len]; omega), R.len] at h2
      cases hk : n - m.length with
      | zero =>
        rw [hk] at h1 h2
        simp at h1 h2
        subst h1; subst h2
        exact h
      | succ k => rw [hk] at h1; simp at h1
/-- an object is written -/
theorem Ext.wr {p : Addr} {o : HO} (hp : p ∈ β) : Ext β H β (upd H p o) :=
  ⟨⟨[], by simp⟩, fun a u h n => by rw [upd_ne (show a ≠ p from fun z => n (by rw [z]; exact hp))]; exact h, fun _ h => .inl h⟩
theorem RM.wr (R : RM K β H m) {n : Nat} {p : Addr} {o : HO} {mo : MO} (hb : β[n]? = some p) (h : RO K β (upd H p o) mo p) : RM K β (upd H p o) (m.set n mo) := by
  refine ⟨by simp [R.len], R.nd, fun i ob a h1 h2 => ?_⟩
  have hp : p ∈ β := List.mem_of_getElem? hb
  by_cases hi : n = i
  · subst hi
    rw [hb] at h2; cases h2
    have hl : n < m.length := by rw [← R.len]; exact (List.getElem?_eq_some_iff.mp hb).1
    rw [List.getElem?_set_self hl] at h1
    cases h1
    exact h
  · rw [List.getElem?_set_ne hi] at h1
    refine (R.ob i ob a h1 h2).ext R (Ext.wr hp) (upd_ne fun z => hi ?_)
    subst z
    obtain ⟨l1, e1⟩ := List.getElem?_eq_some_iff.mp hb
    obtain ⟨l2, e2⟩ := List.getElem?_eq_some_iff.mp h2
    exact (List.getElem_inj R.nd).mp (e1.trans e2.symm)
end

/-! ### readings -/
/-- an exception's class and own values, as the machine has them -/
def XR (K : PySem.W.Frag) (x : Exn) (cls : Value) (d : Option Addr) : Prop := ∃ C : Addr, cls = .ref C ∧ ClsN K x.cls C ∧ d = none
section
variable (X : Cx) (W : WX)
def Post {α γ : Type} (r : Re α) (β : List Addr) (H : Hp) (σ : L2.St) (R : List Addr → Hp → α → γ → Prop) (Q : γ → Hp → Prop) : Prop :=
  match r with
  | .ok d m' => ∀ v H' β', Ext β H β' H' → RM X.K β' H' m' → R β' H' d v → Q v H'
  | .ex x m' => ∀ cls dd H' β', Ext β H β' H' → RM X.K β' H' m' → XR X.K x cls dd → W cls dd σ H'
  | .stuck => False
def tE (f : ME) : TE := fun σ H Q => ∃ ρ m β, RE X.K β H ρ σ ∧ RM X.K β H m ∧ Post X W (f ρ m) β H σ (fun β' H' d v => RV X.K β' H' d v) Q
def tT (f : MT) : TT := fun σ H Q => ∃ ρ m β, RE X.K β H ρ σ ∧ RM X.K β H m ∧ Post X W (f ρ m) β H σ (fun _ _ d v => d = v) Q
def tA (f : MA) : TA := fun σ H Q => ∃ ρ m β, RE X.K β H ρ σ ∧ RM X.K β H m ∧ Post X W (f ρ m) β H σ (fun β' H' d v => RVs X.K β' H' d v) Q
def tS (f : MS) : TS := fun D σ H => ∃ ρ m β, RE X.K β H ρ σ ∧ RM X.K β H m ∧
  match f ρ m with
  | .ok (.nx ρ') m' => ∀ σ' H' β', Ext β H β' H' → RM X.K β' H' m' → RE X.K β' H' ρ' σ' → D.nx σ' H'
  | .ok (.bk ρ') m' => ∀ σ' H' β', Ext β H β' H' → RM X.K β' H' m' → RE X.K β' H' ρ' σ' → D.bk σ' H'
  | .ok (.ct ρ') m' => ∀ σ' H' β', Ext β H β' H' → RM X.K β' H' m' → RE X.K β' H' ρ' σ' → D.ct σ' H'
  | .ok (.rt d) m' => ∀ v H' β', Ext β H β' H' → RM X.K β' H' m' → RV X.K β' H' d v → D.rt v H'
  | .ok (.ex x ρ') m' => ∀ cls dd σ' H' β', Ext β H β' H' → RM X.K β' H' m' → RE X.K β' H' ρ' σ' → XR X.K x cls dd → W cls dd σ' H'
  | .ex _ _ => False
  | .stuck => False
end
structure JE (X : Cx) (W : WX) (e : Expr) (f : ME) : Prop where
  run : PE X e (tE X W f)
structure JT (X : Cx) (W : WX) (e : Expr) (f : MT) : Prop where
  run : PT X e (tT X W f)
structure JA (X : Cx) (W : WX) (es : List Expr) (f : MA) : Prop where
  run : PA X es (tA X W f)
structure JS (X : Cx) (W : WX) (st : Stmt) (f : MS) : Prop where
  run : PS X st (tS X W f)
structure JB (X : Cx) (W : WX) (st : List Stmt) (f : MS) : Prop where
  run : PSs X st (tS X W f)
/-- a stronger reading does -/
theorem pe_imp {X : Cx} {e : Expr} {t t' : TE} (h : PE X e t) (i : ∀ σ H Q, t' σ H Q → t σ H Q) : PE X e t' := ⟨fun pins s σ H Q I q => h.run pins s σ H Q I (i σ H Q q)⟩
theorem pt_imp {X : Cx} {e : Expr} {t t' : TT} (h : PT X e t) (i : ∀ σ H Q, t' σ H Q → t σ H Q) : PT X e t' := ⟨fun pins s σ H Q I q => h.run pins s σ H Q I (i σ H Q q)⟩
theorem pa_imp {X : Cx} {e : List Expr} {t t' : TA} (h : PA X e t) (i : ∀ σ H Q, t' σ H Q → t σ H Q) : PA X e t' := ⟨fun p pins s σ H Q I q => h.run p pins s σ H Q I (i σ H Q q)⟩
theorem ps_imp {X : Cx} {e : Stmt} {t t' : TS} (h : PS X e t) (i : ∀ D σ H, t' D σ H → t D σ H) : PS X e t' := ⟨fun pins s σ H D I q => h.run pins s σ H D I (i D σ H q)⟩
theorem pss_imp {X : Cx} {e : List Stmt} {t t' : TS} (h : PSs X e t) (i : ∀ D σ H, t' D σ H → t D σ H) : PSs X e t' := ⟨fun pins s σ H D I q => h.run pins s σ H D I (i D σ H q)⟩

/-! ### composing -/
section
variable {X : Cx} {W : WX} {α γ δ ε : Type} {r : Re α} {β β1 : List Addr} {H H1 : Hp} {σ : L2.St}
theorem Post.later {R : List Addr → Hp → α → γ → Prop} {Q : γ → Hp → Prop} (p : Post X W r β H σ R Q) (e : Ext β H β1 H1) : Post X W r β1 H1 σ R Q := by
  cases r with
  | ok d m => exact fun v H' β' e' => p v H' β' (e.trans e')
  | ex x m => exact fun c d H' β' e' => p c d H' β' (e.trans e')
  | stuck => exact p
theorem Post.bind {k : α → Mem → Re δ} {R : List Addr → Hp → δ → ε → Prop} {R1 : List Addr → Hp → α → γ → Prop} {Q : ε → Hp → Prop} {Q1 : γ → Hp → Prop} (p : Post X W (r.bind k) β H σ R Q)
    (h : ∀ d m1 v H1 β1, r = .ok d m1 → Ext β H β1 H1 → RM X.K β1 H1 m1 → R1 β1 H1 d v → Post X W (k d m1) β1 H1 σ R Q → Q1 v H1) : Post X W r β H σ R1 Q1 := by
  cases r with
  | ok d m => exact fun v H' β' e M V => h d m v H' β' rfl e M V (Post.later (r := k d m) p e)
  | ex x m => exact p
  | stuck => exact p
theorem Post.ok {d : α} {m : Mem} {R : List Addr → Hp → α → γ → Prop} {Q : γ → Hp → Prop} (p : Post X W (.ok d m) β H σ R Q) {v : γ} (M : RM X.K β H m) (h : R β H d v) : Q v H := p v H β Ext.refl M h
theorem Post.not_stuck {R : List Addr → Hp → α → γ → Prop} {Q : γ → Hp → Prop} {Z : Prop} (p : Post X W (.stuck : Re α) β H σ R Q) : Z := p.elim
end

/-! ### names and constants -/
section
variable {X : Cx} {W : WX} {pos : Pos}
def mVar (i : Nat) : ME := fun ρ m => match ρ[i]? with
  | some (some d) => .ok d m
  | _ => .stuck
theorem j_var (i : Nat) {x : Str} (hN : X.N[i]? = some x := by rfl) (hv : Vis X.env.scope x := by first | exact Or.inl rfl | exact Or.inr (Or.inl rfl) | exact Or.inr (Or.inr rfl)) (hd : (x == ("__debug__" : Str)) = false := by decide)
    (hcd : (x == ("__classdict__" : Str)) = false := by decide) : JE X W (.Name x pos) (mVar i) := by
  refine ⟨pe_imp (pe_var hN hv hd hcd) fun σ H Q ⟨ρ, m, β, hE, hM, p⟩ => ?_⟩
  unfold mVar at p
  split at p
  · rename_i d e
    obtain ⟨v, h1, h2⟩ := hE.at_ i d e
    exact ⟨v, h1, p.ok hM h2⟩
  · exact p.not_stuck
def mC (d : MV) : ME := fun _ m => .ok d m
theorem j_int {i : Int} {j : Nat} : JE X W (.Constant (.int i) j pos) (mC (.int i)) := ⟨pe_imp pe_int fun _ _ _ ⟨_, _, _, _, hM, p⟩ => p.ok hM (.int i)⟩
theorem j_bl {b : Bool} {j : Nat} : JE X W (.Constant (.bool b) j pos) (mC (.bl b)) := ⟨pe_imp pe_bl fun _ _ _ ⟨_, _, _, _, hM, p⟩ => p.ok hM (.bl b)⟩
theorem j_non {j : Nat} : JE X W (.Constant .none j pos) (mC .non) := ⟨pe_imp pe_non fun _ _ _ ⟨_, _, _, _, hM, p⟩ => p.ok hM .non⟩
theorem j_str {x : Str} {j : Nat} : JE X W (.Constant (.str x) j pos) (mC (.str x)) := ⟨pe_imp pe_str fun _ _ _ ⟨_, _, _, _, hM, p⟩ => p.ok hM (.str x)⟩
/-- a constant of the module -/
structure Con (K : PySem.W.Frag) (mg : Str → Option Value) (x : Str) (d : MV) : Prop where
  ex : ∃ (u : Value) (v : V), mg x = some u ∧ RelV v u ∧ ∀ β H, RV K β H d v
theorem j_con {x : Str} {d : MV} (c : Con X.K X.mg x d) (hg : Gl X x := by rfl) (hd : (x == ("__debug__" : Str)) = false := by decide) : JE X W (.Name x pos) (mC d) := by
  obtain ⟨u, v, h1, h2, h3⟩ := c.ex
  exact ⟨pe_imp (pe_glob hg h1 h2 hd) fun _ H _ ⟨_, _, β, _, hM, p⟩ => p.ok hM (h3 β H)⟩

/-! ### operators -/
def mBin (g : MV → MV → Mem → Re MV) (fa fb : ME) : ME := fun ρ m => (fa ρ m).bind fun a m1 => (fb ρ m1).bind fun b m2 => g a b m2
/-- an operator's rule does what g says -/
def OpM (X : Cx) (r : R2) (g : MV → MV → Mem → Re MV) : Prop := ∀ (W : WX) (σ : L2.St) (d e : MV) (m : Mem) (β : List Addr) (H : Hp) (x y : V) (Q : VK), RM X.K β H m → RV X.K β H d x → RV X.K β H e y →
  Post X W (g d e m) β H σ (fun β' H' d v => RV X.K β' H' d v) Q → r x y H Q
theorem j_op {op : Operator} {r : R2} {g : MV → MV → Mem → Re MV} {a b : Expr} {fa fb : ME} (ho : OpR X (binaryOp op) r) (hm : OpM X r g) (ha : JE X W a fa) (hb : JE X W b fb) : JE X W (.BinOp a op b pos) (mBin g fa fb) :=
  ⟨pe_imp (pe_op ho ha.run hb.run) fun σ H Q ⟨ρ, m, β, hE, hM, p⟩ => ⟨ρ, m, β, hE, hM, p.bind fun d m1 x H1 β1 _ e1 M1 V1 p1 => ⟨ρ, m1, β1, hE.ext hM e1, M1, p1.bind fun d2 m2 y H2 β2 _ e2 M2 V2 p2 =>
    hm W σ d d2 m2 β2 H2 x y Q M2 (V1.ext M1 e2) V2 p2⟩⟩⟩
theorem j_cmp {op : CmpOp} {r : R2} {g : MV → MV → Mem → Re MV} {a b : Expr} {fa fb : ME} (ho : OpR X (compareOp op) r) (hm : OpM X r g) (ha : JE X W a fa) (hb : JE X W b fb) (hk : behindInMarks op b = false := by first | exact nobehind _ (by decide) (by decide) | rfl) :
    JE X W (.Compare a [op] [b] pos) (mBin g fa fb) :=
  ⟨pe_imp (pe_cmpR ho ha.run hb.run hk) fun σ H Q ⟨ρ, m, β, hE, hM, p⟩ => ⟨ρ, m, β, hE, hM, p.bind fun d m1 x H1 β1 _ e1 M1 V1 p1 => ⟨ρ, m1, β1, hE.ext hM e1, M1, p1.bind fun d2 m2 y H2 β2 _ e2 M2 V2 p2 =>
    hm W σ d d2 m2 β2 H2 x y Q M2 (V1.ext M1 e2) V2 p2⟩⟩⟩
/-- a new object -/
def alloc (o : MO) (m : Mem) : Re MV := .ok (.ref m.length) (m ++ [o])
theorem Post.alloc {β : List Addr} {H : Hp} {σ : L2.St} {o : MO} {m : Mem} {Q : VK} (M : RM X.K β H m) (p : Post X W (alloc o m) β H σ (fun β' H' d v => RV X.K β' H' d v) Q) {a : Addr} {ho : HO} (na : H a = none) (h : RO X.K (β ++ [a]) (upd H a ho) o a) : Q (.ref a) (upd H a ho) :=
  p (.ref a) _ (β ++ [a]) (Ext.push na) (M.push na h) (.ref (by rw [← M.len]; simp))
theorem Post.newtup {β : List Addr} {H : Hp} {σ : L2.St} {ds : List MV} {m : Mem} {vs : List V} {Q : VK} (M : RM X.K β H m) (p : Post X W (.ok (.tup ds) m) β H σ (fun β' H' d v => RV X.K β' H' d v) Q) {a : Addr} (na : H a = none) (h : RVs X.K β H ds vs) : Q (.ref a) (upd H a (.tup vs)) :=
  p (.ref a) _ β (Ext.tup na) (M.tup na) (.tup (SqT.of upd_same) (h.ext M (Ext.tup na)))
/-- ints alone -/
def gII (C : Int → Int → Prop) [∀ i j, Decidable (C i j)] (f : Int → Int → MV) : MV → MV → Mem → Re MV
  | .int i, .int j, m => if C i j then .ok (f i j) m else .stuck
  | _, _, _ => .stuck
theorem om_I {C : Int → Int → Prop} [∀ i j, Decidable (C i j)] {f : Int → Int → MV} {g : Int → Int → V} (h : ∀ K β H i j, RV K β H (f i j) (g i j)) : OpM X (rI C g) (gII C f) := by
  intro W σ d e m β H x y Q M rx ry p
  unfold gII at p
  split at p
  · cases rx; cases ry
    split at p
    · rename_i i j hc
      exact ⟨i, j, rfl, rfl, hc, p.ok M (h _ _ _ i j)⟩
    · exact p.not_stuck
  · exact p.not_stuck
def gI0 (f : Int → Int → MV) : MV → MV → Mem → Re MV
  | .int i, .int j, m => .ok (f i j) m
  | _, _, _ => .stuck
theorem om_I0 {f : Int → Int → MV} {g : Int → Int → V} (h : ∀ K β H i j, RV K β H (f i j) (g i j)) : OpM X (rI0 g) (gI0 f) := by
  intro W σ d e m β H x y Q M rx ry p
  unfold gI0 at p
  split at p
  · cases rx; cases ry
    exact ⟨_, _, rfl, rfl, p.ok M (h _ _ _ _ _)⟩
  · exact p.not_stuck
end
end MI
namespace MI
open PySem L2
section
variable {X : Cx} {W : WX} {pos : Pos} {K : PySem.W.Frag} {β : List Addr} {H : Hp} {m : Mem}
/-! ### what a number's list, a tuple is -/
def lstOf (m : Mem) (d : MV) : Option (List MV) := match d with
  | .ref n => match m[n]? with
    | some (.lst l) => some l
    | some (.frz l) => some l
    | _ => none
  | .kl l => some l
  | _ => none
/-- a list or a tuple -/
def seqOf (m : Mem) (d : MV) : Option (List MV) := match d with
  | .tup l => some l
  | d => lstOf m d
theorem RM.lst (R : RM K β H m) {d : MV} {v : V} {l : List MV} (r : RV K β H d v) (h : lstOf m d = some l) : ∃ a vs, v = .ref a ∧ SqL K H a vs ∧ RVs K β H l vs := by
  unfold lstOf at h
  split at h
  · rename_i n
    cases r with
    | ref hb =>
      split at h
      · rename_i l' e
        cases h
        obtain ⟨vs, q1, q2⟩ := R.ob n _ _ e hb
        exact ⟨_, vs, rfl, SqL.of q1, q2⟩
      · rename_i l' e
        cases h
        obtain ⟨vs, ob, q1, q2⟩ := R.ob n _ _ e hb
        exact ⟨_, vs, rfl, .inl (.inr ⟨ob, q1⟩), q2⟩
      · cases h
  · cases h
    cases r with
    | kl h1 h2 =>
      refine ⟨_, _, rfl, ?_, h2⟩
      rcases h1 with ⟨_, ob, h1⟩ | h1
      · exact .inl (.inr ⟨ob, h1⟩)
      · exact .inr h1
  · cases h
theorem RM.seq (R : RM K β H m) {d : MV} {v : V} {l : List MV} (r : RV K β H d v) (h : seqOf m d = some l) : ∃ a vs, v = .ref a ∧ (SqL K H a vs ∨ SqT K H a vs) ∧ RVs K β H l vs := by
  unfold seqOf at h
  split at h
  · rename_i l'
    cases h
    cases r with
    | tup h1 h2 => exact ⟨_, _, rfl, .inr h1, h2⟩
  · obtain ⟨a, vs, h1, h2, h3⟩ := R.lst r h
    exact ⟨a, vs, h1, .inl h2, h3⟩
/-- a list that may be written -/
def mutOf (m : Mem) (d : MV) : Option (Nat × List MV) := match d with
  | .ref n => match m[n]? with
    | some (.lst l) => some (n, l)
    | _ => none
  | _ => none
theorem mutOf_some {d : MV} {n : Nat} {l : List MV} (h : mutOf m d = some (n, l)) : d = .ref n ∧ m[n]? = some (.lst l) := by
  unfold mutOf at h
  split at h
  · split at h
    · rename_i e
      cases h
      exact ⟨rfl, e⟩
    · cases h
  · cases h
theorem RM.mut (R : RM K β H m) {d : MV} {v : V} {n : Nat} {l : List MV} (r : RV K β H d v) (h : mutOf m d = some (n, l)) : ∃ a vs, v = .ref a ∧ β[n]? = some a ∧ H a = some (.lst vs) ∧ RVs K β H l vs := by
  obtain ⟨rfl, e⟩ := mutOf_some h
  cases r with
  | ref hb =>
    obtain ⟨vs, q1, q2⟩ := R.ob n _ _ e hb
    exact ⟨_, vs, rfl, hb, q1, q2⟩
/-! ### + -/
def gAdd : MV → MV → Mem → Re MV
  | .int i, .int j, m => .ok (.int (i + j)) m
  | .str a, .str b, m => if a.length + b.length ≤ sizeLine then .ok (.str (a ++ b)) m else .stuck
  | .tup a, .tup b, m => if a.length + b.length ≤ sizeLine then .ok (.tup (a ++ b)) m else .stuck
  | .ref a, .ref b, m => match mutOf m (.ref a), mutOf m (.ref b) with
    | some (_, xs), some (_, ys) => if xs.length + ys.length ≤ sizeLine then alloc (.lst (xs ++ ys)) m else .stuck
    | _, _ => .stuck
  | _, _, _ => .stuck
abbrev rAddA (K : PySem.W.Frag) : R2 := fun x y H Q => (rI0 (fun i j => V.int (i + j))) x y H Q ∨ (∃ i j, x = V.str i ∧ y = V.str j ∧ i.length + j.length ≤ sizeLine ∧ Q (V.str (i ++ j)) H) ∨ rCatA K x y H Q ∨ rCat x y H Q
theorem op_addA : OpR X (binaryOp .Add) (rAddA X.K) := OpR.or op_add (OpR.or op_add_str (OpR.or op_catA op_cat))
theorem om_add : OpM X (rAddA X.K) gAdd := by
  intro W σ d e m β H x y Q M rx ry p
  unfold gAdd at p
  split at p
  · cases rx; cases ry
    exact .inl ⟨_, _, rfl, rfl, p.ok M (.int _)⟩
  · cases rx; cases ry
    split at p
    · rename_i h
      exact .inr (.inl ⟨_, _, rfl, rfl, h, p.ok M (.str _)⟩)
    · exact p.not_stuck
  · cases rx with
    | tup h1 r1 =>
      cases ry with
      | tup h2 r2 =>
        split at p
        · rename_i h
          refine .inr (.inr (.inl ⟨_, _, _, _, rfl, rfl, h1, h2, by rw [← r1.length, ← r2.length]; exact h, fun z => ?_, fun _ z => ?_, fun _ _ q hq => ?_⟩))
          · subst z
            cases r1
            exact p.ok M (.tup h2 r2)
          · subst z
            cases r2
            rw [List.append_nil] at p
            exact p.ok M (.tup h1 r1)
          · exact p.newtup M hq (r1.app r2)
        · exact p.not_stuck
  · split at p
    · rename_i n1 xs n2 ys e1 e2
      split at p
      · rename_i h
        obtain ⟨a1, vs1, rfl, hb1, q1, r1⟩ := M.mut rx e1
        obtain ⟨a2, vs2, rfl, hb2, q2, r2⟩ := M.mut ry e2
        exact .inr (.inr (.inr ⟨_, _, _, _, rfl, rfl, q1, q2, by rw [← r1.length, ← r2.length]; exact h, fun q hq => p.alloc M hq ⟨_, upd_same, (r1.app r2).ext M (Ext.push hq)⟩⟩))
      · exact p.not_stuck
    · exact p.not_stuck
  · exact p.not_stuck
/-! ### the other arithmetic -/
def gMul : MV → MV → Mem → Re MV
  | .int i, .int j, m => if (-(2 ^ 64) < i ∧ i < 2 ^ 64) ∨ (-(2 ^ 64) < j ∧ j < 2 ^ 64) then .ok (.int (i * j)) m else .stuck
  | .ref a, .int k, m => match mutOf m (.ref a) with
    | some (_, xs) => if 0 ≤ k ∧ k ≤ 1000 ∧ xs.length ≤ 1000 then alloc (.lst (List.replicate k.toNat xs).flatten) m else .stuck
    | _ => .stuck
  | .tup xs, .int k, m => if 0 < xs.length ∧ 2 ≤ k ∧ k ≤ 1000 ∧ xs.length ≤ 1000 then .ok (.tup (List.replicate k.toNat xs).flatten) m else .stuck
  | _, _, _ => .stuck
theorem RVs.rep {ds : List MV} {vs : List V} (h : RVs K β H ds vs) : ∀ k : Nat, RVs K β H (List.replicate k ds).flatten (List.replicate k vs).flatten
  | 0 => .nil
  | k + 1 => by rw [List.replicate_succ, List.replicate_succ, List.flatten_cons, List.flatten_cons]; exact h.app (RVs.rep h k)
abbrev rMulA (K : PySem.W.Frag) : R2 := fun x y H Q => (rI CMul (fun i j => V.int (i * j))) x y H Q ∨ rRep x y H Q ∨ rRepT K x y H Q
theorem op_mulA : OpR X (binaryOp .Mult) (rMulA X.K) := OpR.or op_mul (OpR.or op_rep op_repT)
theorem om_mul : OpM X (rMulA X.K) gMul := by
  intro W σ d e m β H x y Q M rx ry p
  unfold gMul at p
  split at p
  · cases rx; cases ry
    split at p
    · rename_i h
      exact .inl ⟨_, _, rfl, rfl, h, p.ok M (.int _)⟩
    · exact p.not_stuck
  · cases ry
    split at p
    · rename_i n1 xs e1
      split at p
      · rename_i h
        obtain ⟨a1, vs1, rfl, hb1, q1, r1⟩ := M.mut rx e1
        have hl := r1.length
        have hb : xs.length * (Int.toNat ‹Int›) ≤ 1000 * 1000 := Nat.mul_le_mul h.2.2 (by omega)
        exact .inr (.inl ⟨_, _, _, rfl, rfl, q1, by omega, by omega, by rw [← hl]; exact Nat.le_trans hb (by decide), fun q hq => p.alloc M hq ⟨_, upd_same, (r1.rep _).ext M (Ext.push hq)⟩⟩)
      · exact p.not_stuck
    · exact p.not_stuck
  · cases ry
    cases rx with
    | tup h1 r1 =>
      split at p
      · rename_i h
        have hl := r1.length
        exact .inr (.inr ⟨_, _, _, rfl, rfl, h1, fun z => by rw [z] at hl; simp at hl; rw [hl] at h; simp at h, h.2.1, h.2.2.1, by rw [← hl]; exact h.2.2.2, fun q hq => p.newtup M hq (r1.rep _)⟩)
      · exact p.not_stuck
  · exact p.not_stuck
theorem om_sub : OpM X (rI0 fun i j => V.int (i - j)) (gI0 fun i j => .int (i - j)) := om_I0 fun _ _ _ _ _ => .int _
theorem om_mod : OpM X (rI (fun _ j => 0 < j) fun i j => V.int (i % j)) (gII (fun _ j => 0 < j) fun i j => .int (i % j)) := om_I fun _ _ _ _ _ => .int _
instance (i j : Int) : Decidable (CDivW i j) := by unfold CDivW; exact inferInstance
theorem om_div : OpM X (rI CDivW fun i j => V.int (i / j)) (gII CDivW fun i j => .int (i / j)) := om_I fun _ _ _ _ _ => .int _
/-- a power, by its size in bits -/
def CPowW (i j : Int) : Prop := 0 ≤ j ∧ (Builtin.Int.intBits i : Int) * j ≤ 2 ^ 27
instance (i j : Int) : Decidable (CPowW i j) := by unfold CPowW; exact inferInstance
theorem op_powW : OpR X (binaryOp .Pow) (rI CPowW fun i j => V.int (i ^ j.toNat)) := by
  intro pins s σ H x y v u Q I rx ry h
  obtain ⟨i, j, rfl, rfl, ⟨h1, h2⟩, q⟩ := h
  obtain ⟨t, rfl⟩ := rx
  obtain ⟨t', rfl⟩ := ry
  exact PyProof.Rows.pow_int h1 h2 ⟨.int _, H, I.tok _, ⟨_, rfl⟩, q⟩
theorem om_pow : OpM X (rI CPowW fun i j => V.int (i ^ j.toNat)) (gII CPowW fun i j => .int (i ^ j.toNat)) := om_I fun _ _ _ _ _ => .int _
theorem om_lt : OpM X (rI0 fun i j => V.bl (decide (i < j))) (gI0 fun i j => .bl (decide (i < j))) := om_I0 fun _ _ _ _ _ => .bl _
theorem om_le : OpM X (rI0 fun i j => V.bl (decide (i ≤ j))) (gI0 fun i j => .bl (decide (i ≤ j))) := om_I0 fun _ _ _ _ _ => .bl _
theorem om_gt : OpM X (rI0 fun i j => V.bl (decide (j < i))) (gI0 fun i j => .bl (decide (j < i))) := om_I0 fun _ _ _ _ _ => .bl _
theorem om_ge : OpM X (rI0 fun i j => V.bl (decide (j ≤ i))) (gI0 fun i j => .bl (decide (j ≤ i))) := om_I0 fun _ _ _ _ _ => .bl _
/-- texts in their order -/
def gLeS : MV → MV → Mem → Re MV
  | .str a, .str b, m => .ok (.bl (!decide (b.cps.toList < a.cps.toList))) m
  | .int i, .int j, m => .ok (.bl (decide (i ≤ j))) m
  | _, _, _ => .stuck
abbrev rLeA : R2 := fun x y H Q => (rI0 (fun i j => V.bl (decide (i ≤ j)))) x y H Q ∨ (∃ i j, x = V.str i ∧ y = V.str j ∧ Q (V.bl (!decide (j.cps.toList < i.cps.toList))) H)
theorem op_leA : OpR X (compareOp .LtE) rLeA := OpR.or op_le op_le_str
theorem om_leA : OpM X rLeA gLeS := by
  intro W σ d e m β H x y Q M rx ry p
  unfold gLeS at p
  split at p
  · cases rx; cases ry
    exact .inr ⟨_, _, rfl, rfl, p.ok M (.bl _)⟩
  · cases rx; cases ry
    exact .inl ⟨_, _, rfl, rfl, p.ok M (.bl _)⟩
  · exact p.not_stuck
/-- is None -/
def gIsN : MV → MV → Mem → Re MV
  | d, .non, m => .ok (.bl (match d with | .non => true | _ => false)) m
  | _, _, _ => .stuck
def gNotN : MV → MV → Mem → Re MV
  | d, .non, m => .ok (.bl (match d with | .non => false | _ => true)) m
  | _, _, _ => .stuck
theorem om_isN : OpM X (fun x y H Q => y = V.non ∧ Q (V.bl (decide (x = V.non))) H) gIsN := by
  intro W σ d e m β H x y Q M rx ry p
  unfold gIsN at p
  split at p
  · cases ry
    refine ⟨rfl, p.ok M ?_⟩
    cases rx <;> exact .bl _
  · exact p.not_stuck
theorem om_notN : OpM X (fun x y H Q => y = V.non ∧ Q (V.bl (!decide (x = V.non))) H) gNotN := by
  intro W σ d e m β H x y Q M rx ry p
  unfold gNotN at p
  split at p
  · cases ry
    refine ⟨rfl, p.ok M ?_⟩
    cases rx <;> exact .bl _
  · exact p.not_stuck

/-! ### data, == -/

mutual
def dat (m : Mem) : Nat → MV → Option PyData
  | _, .non => some .none
  | _, .bl b => some (.bool b)
  | _, .int i => some (.int i)
  | _, .str s => some (.str s)
  | _, .kl _ => none
  | 0, _ => none
  | n + 1, .tup l => (dats m n l).map .tuple
  | n + 1, .ref r => match lstOf m (.ref r) with
    | some l => (dats m n l).map .list
    | none => none
def dats (m : Mem) : Nat → List MV → Option (List PyData)
  | _, [] => some []
  | 0, _ :: _ => none
  | n + 1, d :: ds => match dat m n d, dats m n ds with
    | some a, some b => some (a :: b)
    | _, _ => none
end
mutual
theorem RM.dat1 (R : RM K β H m) : ∀ {n : Nat} {d : MV} {v : V} {e : PyData}, RV K β H d v → dat m n d = some e → Dp K H v e
  | _, .non, _, _, .non, h => by unfold MI.dat at h; cases h; exact .non
  | _, .bl b, _, _, .bl _, h => by unfold MI.dat at h; cases h; exact .bl b
  | _, .int i, _, _, .int _, h => by unfold MI.dat at h; cases h; exact .int i
  | _, .str s, _, _, .str _, h => by unfold MI.dat at h; cases h; exact .str s
  | 0, .tup l, _, _, _, h => by unfold MI.dat at h; cases h
  | 0, .ref l, _, _, _, h => by unfold MI.dat at h; cases h
  | _, .kl l, _, _, _, h => by unfold MI.dat at h; cases h
  | n + 1, .tup l, _, _, .tup h1 h2, h => by
    unfold MI.dat at h
    cases e : dats m n l with
    | none => rw [e] at h; cases h
    | some es => rw [e] at h; cases h; exact .tup h1 (RM.dats1 R h2 e)
  | n + 1, .ref r, v, _, hr, h => by
    unfold MI.dat at h
    split at h
    · rename_i l e
      obtain ⟨a, vs, rfl, h1, h2⟩ := R.lst hr e
      cases e : dats m n l with
      | none => rw [e] at h; cases h
      | some es => rw [e] at h; cases h; exact .lst h1 (RM.dats1 R h2 e)
    · cases h
theorem RM.dats1 (R : RM K β H m) : ∀ {n : Nat} {d : List MV} {v : List V} {e : List PyData}, RVs K β H d v → dats m n d = some e → DpAll K H v e
  | _, [], _, _, .nil, h => by unfold MI.dats at h; cases h; exact .nil
  | 0, _ :: _, _, _, _, h => by unfold MI.dats at h; cases h
  | n + 1, d :: ds, _, _, .cons h1 h2, h => by
    unfold MI.dats at h
    split at h
    · rename_i a b e1 e2
      cases h
      exact .cons (RM.dat1 R h1 e1) (RM.dats1 R h2 e2)
    · cases h
end
def fuel : Nat := 2000
def gEq (neg : Bool) (d e : MV) (m : Mem) : Re MV := match dat m fuel d, dat m fuel e with
  | some a, some b => if SeqAt.shaped a = true ∧ SeqAt.shaped b = true then .ok (.bl (if neg then !a.eqv b else a.eqv b)) m else .stuck
  | _, _ => .stuck
theorem om_eq : OpM X (rEqD X.K) (gEq false) := by
  intro W σ d e m β H x y Q M rx ry p
  unfold gEq at p
  split at p
  · rename_i a b e1 e2
    split at p
    · rename_i h
      exact ⟨a, b, M.dat1 rx e1, M.dat1 ry e2, h.1, h.2, p.ok M (.bl _)⟩
    · exact p.not_stuck
  · exact p.not_stuck
theorem om_ne : OpM X (rNeD X.K) (gEq true) := by
  intro W σ d e m β H x y Q M rx ry p
  unfold gEq at p
  split at p
  · rename_i a b e1 e2
    split at p
    · rename_i h
      exact ⟨a, b, M.dat1 rx e1, M.dat1 ry e2, h.1, h.2, p.ok M (.bl _)⟩
    · exact p.not_stuck
  · exact p.not_stuck
end
end MI
namespace MI
open PySem L2
section
variable {X : Cx} {W : WX} {pos : Pos} {K : PySem.W.Frag} {β : List Addr} {H : Hp} {m : Mem}
/-! ### truth -/
def truO : Option MO → Option Bool
  | some (.lst l) => some (!l.isEmpty)
  | some (.frz l) => some (!l.isEmpty)
  | some (.dct l) => some (!l.isEmpty)
  | _ => none
def tru (m : Mem) : MV → Option Bool
  | .non => some false
  | .bl b => some b
  | .int i => some (i != 0)
  | .str y => if y.length ≤ sizeLine then some ((y.length : Int) != 0) else none
  | .tup l => some (!l.isEmpty)
  | .ref n => truO m[n]?
  | .kl _ => none
theorem RVs.isEmpty {ds : List MV} {vs : List V} (h : RVs K β H ds vs) : ds.isEmpty = vs.isEmpty := by
  cases h <;> rfl
theorem RKs.isEmpty {ds : List (Key × MV)} {vs : List (Key × V)} (h : RKs K β H ds vs) : ds.isEmpty = vs.isEmpty := by
  cases h <;> rfl
theorem RM.tru (R : RM K β H m) {d : MV} {v : V} {b : Bool} (r : RV K β H d v) (h : tru m d = some b) : TruV K v H b := by
  cases r with
  | non => cases h; rfl
  | bl k => cases h; rfl
  | int i => cases h; rfl
  | str x =>
    have h' : (if x.length ≤ sizeLine then some ((x.length : Int) != 0) else none) = some b := h
    by_cases q : x.length ≤ sizeLine
    · rw [if_pos q] at h'; cases h'; exact ⟨q, rfl⟩
    · rw [if_neg q] at h'; cases h'
  | tup h1 h2 => cases h; exact .inr (.inl ⟨_, h1, by rw [h2.isEmpty]⟩)
  | @ref n a hb =>
    have h' : truO m[n]? = some b := h
    cases e : m[n]? with
    | none => rw [e] at h'; cases h'
    | some o =>
      rw [e] at h'
      have q := R.ob n o a e hb
      cases o with
      | lst l => cases h'; obtain ⟨vs, q1, q2⟩ := q; exact .inl ⟨_, SqL.of q1, by rw [q2.isEmpty]⟩
      | frz l => cases h'; obtain ⟨vs, ob, q1, q2⟩ := q; exact .inl ⟨_, .inl (.inr ⟨ob, q1⟩), by rw [q2.isEmpty]⟩
      | dct l => cases h'; obtain ⟨vs, q1, q2⟩ := q; exact .inr (.inr ⟨_, q1, by rw [q2.isEmpty]⟩)
      | exn x => cases h'
  | kl h1 h2 => cases h
def mTru (f : ME) : MT := fun ρ m => (f ρ m).bind fun d m1 => match tru m1 d with
  | some b => .ok b m1
  | none => .stuck
theorem jt_tru {a : Expr} {f : ME} (h : JE X W a f) (he : ∀ whole, PySem.isTrue a X.env whole = (do let v ← whole; standAt a.pos; holding [v] (truthy v)) := by intro _; rfl) : JT X W a (mTru f) :=
  ⟨pt_imp (pt_truth h.run he) fun σ H Q ⟨ρ, m, β, hE, hM, p⟩ => ⟨ρ, m, β, hE, hM, p.bind fun d m1 x H1 β1 _ e1 M1 V1 p1 => by
    split at p1
    · rename_i b e; exact ⟨b, M1.tru V1 e, p1.ok M1 rfl⟩
    · exact p1.not_stuck⟩⟩
/-- a value that is a bool, as a test -/
def mB (f : ME) : MT := fun ρ m => (f ρ m).bind fun d m1 => match d with
  | .bl b => .ok b m1
  | _ => .stuck
theorem jt_cmp {op : CmpOp} {r : R2} {g : MV → MV → Mem → Re MV} {a b : Expr} {fa fb : ME} (ho : OpR X (compareOp op) r) (hm : OpM X r g) (ha : JE X W a fa) (hb : JE X W b fb) (hk : behindInMarks op b = false := by first | exact nobehind _ (by decide) (by decide) | rfl) :
    JT X W (.Compare a [op] [b] pos) (mB (mBin g fa fb)) := by
  refine ⟨pt_imp (pt_cmpR ho ha.run hb.run hk) fun σ H Q ⟨ρ, m, β, hE, hM, p⟩ => ⟨ρ, m, β, hE, hM, ?_⟩⟩
  unfold mB mBin at p
  have p' : Post X W ((fa ρ m).bind fun a m1 => ((fb ρ m1).bind fun b m2 => g a b m2).bind fun d m1 => match d with | .bl b => .ok b m1 | _ => .stuck) β H σ (fun _ _ d v => d = v) Q := by
    cases hh : fa ρ m with
    | ok d m1 => rw [hh] at p; exact p
    | ex x m1 => rw [hh] at p; exact p
    | stuck => rw [hh] at p; exact p
  refine p'.bind fun d m1 x H1 β1 _ e1 M1 V1 p1 => ⟨ρ, m1, β1, hE.ext hM e1, M1, ?_⟩
  have p1' : Post X W ((fb ρ m1).bind fun b m2 => (g d b m2).bind fun d m1 => match d with | .bl b => .ok b m1 | _ => .stuck) β1 H1 σ (fun _ _ d v => d = v) Q := by
    cases hh : fb ρ m1 with
    | ok d m1 => rw [hh] at p1; exact p1
    | ex x m1 => rw [hh] at p1; exact p1
    | stuck => rw [hh] at p1; exact p1
  refine p1'.bind fun d2 m2 y H2 β2 _ e2 M2 V2 p2 => hm W σ d d2 m2 β2 H2 x y _ M2 (V1.ext M1 e2) V2 (p2.bind fun d3 m3 z H3 β3 _ e3 M3 V3 p3 => ?_)
  split at p3
  · cases V3; exact ⟨_, rfl, p3.ok M3 rfl⟩
  · exact p3.not_stuck
/-- an expression whose value is a bool -/
theorem jt_val {a : Expr} {f : ME} (h : JE X W a f) (he : ∀ whole, PySem.isTrue a X.env whole = (do let v ← whole; standAt a.pos; holding [v] (truthy v)) := by intro _; rfl) : JT X W a (mB f) :=
  ⟨pt_imp (pt_val h.run he) fun σ H Q ⟨ρ, m, β, hE, hM, p⟩ => ⟨ρ, m, β, hE, hM, p.bind fun d m1 x H1 β1 _ e1 M1 V1 p1 => by
    split at p1
    · cases V1; exact ⟨_, rfl, p1.ok M1 rfl⟩
    · exact p1.not_stuck⟩⟩
/-! ### not, and, or -/
structure JW (X : Cx) (W : WX) (e : Expr) (f : MT) : Prop where
  run : PW X e (tT X W f)
theorem pw_imp {X : Cx} {e : Expr} {t t' : TT} (h : PW X e t) (i : ∀ σ H Q, t' σ H Q → t σ H Q) : PW X e t' := ⟨fun wh pins s σ H Q I q => h.run wh pins s σ H Q I (i σ H Q q)⟩
def mNotT (f : MT) : MT := fun ρ m => (f ρ m).bind fun b m1 => .ok (!b) m1
def mAndT (f g : MT) : MT := fun ρ m => (f ρ m).bind fun b m1 => if b = true then g ρ m1 else .ok false m1
def mOrT (f g : MT) : MT := fun ρ m => (f ρ m).bind fun b m1 => if b = true then .ok true m1 else g ρ m1
theorem jt_not {a : Expr} {f : MT} (h : JT X W a f) : JT X W (.UnaryOp .Not a pos) (mNotT f) :=
  ⟨pt_imp (pt_not h.run) fun σ H Q ⟨ρ, m, β, hE, hM, p⟩ => ⟨ρ, m, β, hE, hM, p.bind fun d m1 x H1 β1 _ e1 M1 V1 p1 => by cases V1; exact p1.ok M1 rfl⟩⟩
theorem jw_and1 {a : Expr} {f : MT} (h : JT X W a f) : JW X W (.BoolOp .And [a] pos) f := ⟨pw_and1 h.run⟩
theorem jw_or1 {a : Expr} {f : MT} (h : JT X W a f) : JW X W (.BoolOp .Or [a] pos) f := ⟨pw_or1 h.run⟩
theorem jw_and {a b : Expr} {rest : List Expr} {f g : MT} (h : JT X W a f) (h2 : JW X W (.BoolOp .And (b :: rest) pos) g) : JW X W (.BoolOp .And (a :: b :: rest) pos) (mAndT f g) :=
  ⟨pw_imp (pw_and h.run h2.run) fun σ H Q ⟨ρ, m, β, hE, hM, p⟩ => ⟨ρ, m, β, hE, hM, p.bind fun d m1 x H1 β1 _ e1 M1 V1 p1 => by
    cases V1
    cases d with
    | true => exact ⟨ρ, m1, β1, hE.ext hM e1, M1, p1⟩
    | false => exact p1.ok M1 rfl⟩⟩
theorem jw_or {a b : Expr} {rest : List Expr} {f g : MT} (h : JT X W a f) (h2 : JW X W (.BoolOp .Or (b :: rest) pos) g) : JW X W (.BoolOp .Or (a :: b :: rest) pos) (mOrT f g) :=
  ⟨pw_imp (pw_or h.run h2.run) fun σ H Q ⟨ρ, m, β, hE, hM, p⟩ => ⟨ρ, m, β, hE, hM, p.bind fun d m1 x H1 β1 _ e1 M1 V1 p1 => by
    cases V1
    cases d with
    | false => exact ⟨ρ, m1, β1, hE.ext hM e1, M1, p1⟩
    | true => exact p1.ok M1 rfl⟩⟩
theorem JW.jt {e : Expr} {f : MT} (h : JW X W e f) : JT X W e f := ⟨h.run.pt⟩
/-- .. as values -/
def mAnd (f g : ME) : ME := fun ρ m => (f ρ m).bind fun d m1 => match tru m1 d with
  | some true => g ρ m1
  | some false => .ok d m1
  | none => .stuck
def mOr (f g : ME) : ME := fun ρ m => (f ρ m).bind fun d m1 => match tru m1 d with
  | some true => .ok d m1
  | some false => g ρ m1
  | none => .stuck
def mNot (f : ME) : ME := fun ρ m => (f ρ m).bind fun d m1 => match tru m1 d with
  | some b => .ok (.bl (!b)) m1
  | none => .stuck
theorem je_one {op : BoolOp} {a : Expr} {f : ME} (h : JE X W a f) : JE X W (.BoolOp op [a] pos) f := ⟨pe_one h.run⟩
theorem je_and {a b : Expr} {rest : List Expr} {f g : ME} (h : JE X W a f) (h2 : JE X W (.BoolOp .And (b :: rest) pos) g) : JE X W (.BoolOp .And (a :: b :: rest) pos) (mAnd f g) :=
  ⟨pe_imp (pe_andT h.run h2.run) fun σ H Q ⟨ρ, m, β, hE, hM, p⟩ => ⟨ρ, m, β, hE, hM, p.bind fun d m1 x H1 β1 _ e1 M1 V1 p1 => by
    split at p1
    · rename_i e; exact ⟨true, M1.tru V1 e, ⟨ρ, m1, β1, hE.ext hM e1, M1, p1⟩⟩
    · rename_i e; exact ⟨false, M1.tru V1 e, p1.ok M1 V1⟩
    · exact p1.not_stuck⟩⟩
theorem je_or {a b : Expr} {rest : List Expr} {f g : ME} (h : JE X W a f) (h2 : JE X W (.BoolOp .Or (b :: rest) pos) g) : JE X W (.BoolOp .Or (a :: b :: rest) pos) (mOr f g) :=
  ⟨pe_imp (pe_orT h.run h2.run) fun σ H Q ⟨ρ, m, β, hE, hM, p⟩ => ⟨ρ, m, β, hE, hM, p.bind fun d m1 x H1 β1 _ e1 M1 V1 p1 => by
    split at p1
    · rename_i e; exact ⟨true, M1.tru V1 e, p1.ok M1 V1⟩
    · rename_i e; exact ⟨false, M1.tru V1 e, ⟨ρ, m1, β1, hE.ext hM e1, M1, p1⟩⟩
    · exact p1.not_stuck⟩⟩
theorem je_not {a : Expr} {f : ME} (h : JE X W a f) : JE X W (.UnaryOp .Not a pos) (mNot f) :=
  ⟨pe_imp (pe_notT h.run) fun σ H Q ⟨ρ, m, β, hE, hM, p⟩ => ⟨ρ, m, β, hE, hM, p.bind fun d m1 x H1 β1 _ e1 M1 V1 p1 => by
    split at p1
    · rename_i b e; exact ⟨b, M1.tru V1 e, p1.ok M1 (.bl _)⟩
    · exact p1.not_stuck⟩⟩
def mIf (c : MT) (f g : ME) : ME := fun ρ m => (c ρ m).bind fun b m1 => if b = true then f ρ m1 else g ρ m1
theorem je_if {c a b : Expr} {fc : MT} {f g : ME} (hc : JT X W c fc) (ha : JE X W a f) (hb : JE X W b g) : JE X W (.IfExp c a b pos) (mIf fc f g) :=
  ⟨pe_imp (pe_ifExp hc.run ha.run hb.run) fun σ H Q ⟨ρ, m, β, hE, hM, p⟩ => ⟨ρ, m, β, hE, hM, p.bind fun d m1 x H1 β1 _ e1 M1 V1 p1 => by
    cases V1
    cases d with
    | true => exact ⟨ρ, m1, β1, hE.ext hM e1, M1, p1⟩
    | false => exact ⟨ρ, m1, β1, hE.ext hM e1, M1, p1⟩⟩⟩
/-! ### argument lists, displays -/
def mNil : MA := fun _ m => .ok [] m
def mCons (f : ME) (g : MA) : MA := fun ρ m => (f ρ m).bind fun d m1 => (g ρ m1).bind fun ds m2 => .ok (d :: ds) m2
theorem ja_nil : JA X W [] mNil := ⟨pa_imp pa_nil fun _ _ _ ⟨_, _, _, _, hM, p⟩ => p.ok hM .nil⟩
theorem ja_cons {e : Expr} {es : List Expr} {f : ME} {g : MA} (h : JE X W e f) (h2 : JA X W es g) (he : starEach (e :: es) X.env = (false, eval e X.env) :: starEach es X.env := by rfl) : JA X W (e :: es) (mCons f g) :=
  ⟨pa_imp (pa_cons h.run h2.run he) fun σ H Q ⟨ρ, m, β, hE, hM, p⟩ => ⟨ρ, m, β, hE, hM, p.bind fun d m1 x H1 β1 _ e1 M1 V1 p1 => ⟨ρ, m1, β1, hE.ext hM e1, M1, p1.bind fun d2 m2 y H2 β2 _ e2 M2 V2 p2 =>
    p2.ok M2 (.cons (V1.ext M1 e2) V2)⟩⟩⟩
/-- *e within a display or a call -/
def mStar (f : ME) (g : MA) : MA := fun ρ m => (f ρ m).bind fun d m1 => match seqOf m1 d with
  | some l => (g ρ m1).bind fun ds m2 => .ok (l ++ ds) m2
  | none => .stuck
def mTup (g : MA) : ME := fun ρ m => (g ρ m).bind fun ds m1 => if ds.length ≤ sizeLine then .ok (.tup ds) m1 else .stuck
def mLst (g : MA) : ME := fun ρ m => (g ρ m).bind fun ds m1 => if ds.length ≤ sizeLine then alloc (.lst ds) m1 else .stuck
theorem je_tup {es : List Expr} {k : Nat} {g : MA} (h : JA X W es g) : JE X W (.Tuple es k pos) (mTup g) :=
  ⟨pe_imp (pe_tup h.run) fun σ H Q ⟨ρ, m, β, hE, hM, p⟩ => ⟨ρ, m, β, hE, hM, p.bind fun d m1 x H1 β1 _ e1 M1 V1 p1 => by
    split at p1
    · rename_i q; exact ⟨by rw [← V1.length]; exact q, fun a ha => p1.newtup M1 ha V1⟩
    · exact p1.not_stuck⟩⟩
theorem je_lst {es : List Expr} {g : MA} (h : JA X W es g) : JE X W (.List es pos) (mLst g) :=
  ⟨pe_imp (pe_lst h.run) fun σ H Q ⟨ρ, m, β, hE, hM, p⟩ => ⟨ρ, m, β, hE, hM, p.bind fun d m1 x H1 β1 _ e1 M1 V1 p1 => by
    split at p1
    · rename_i q; exact ⟨by rw [← V1.length]; exact q, fun a ha => p1.alloc M1 ha ⟨_, upd_same, V1.ext M1 (Ext.push ha)⟩⟩
    · exact p1.not_stuck⟩⟩
end
end MI
namespace MI
open PySem L2
section
variable {X : Cx} {W : WX} {pos : Pos} {K : PySem.W.Frag} {β : List Addr} {H : Hp} {m : Mem}
theorem ja_star {e : Expr} {es : List Expr} {f : ME} {g : MA} {p : Pos} (h : JE X W e f) (h2 : JA X W es g) (hs : starEach (.Starred e p :: es) X.env = (true, eval e X.env) :: starEach es X.env := by rfl) : JA X W (.Starred e p :: es) (mStar f g) :=
  ⟨pa_imp (StX.pa_star h.run h2.run hs) fun σ H Q ⟨ρ, m, β, hE, hM, p⟩ => ⟨ρ, m, β, hE, hM, p.bind fun d m1 x H1 β1 _ e1 M1 V1 p1 => by
    split at p1
    · rename_i l q
      obtain ⟨a, vs, rfl, hs, hr⟩ := M1.seq V1 q
      refine ⟨a, vs, rfl, hs.symm, ⟨ρ, m1, β1, hE.ext hM e1, M1, p1.bind fun d2 m2 y H2 β2 _ e2 M2 V2 p2 => p2.ok M2 ((hr.ext M1 e2).app V2)⟩⟩
    · exact p1.not_stuck⟩⟩
/-! ### items and slices -/
def atM (l : List MV) (i : Int) : Option MV := (ixN l.length i).bind fun j => l[j]?
theorem RVs.at_ {ds : List MV} {vs : List V} {i : Int} {d : MV} (h : RVs K β H ds vs) (e : atM ds i = some d) : ∃ v, atI vs i = some v ∧ RV K β H d v := by
  unfold atM at e
  unfold atI
  rw [← h.length]
  cases q : ixN ds.length i with
  | none => rw [q] at e; cases e
  | some j =>
    rw [q] at e
    obtain ⟨v, h1, h2⟩ := h.get (show ds[j]? = some d from e)
    exact ⟨v, h1, h2⟩
/-- x[i] by values: a list, a tuple, a text -/
def gIx : MV → MV → Mem → Re MV
  | .str z, .int i, m => if z.length ≤ sizeLine then match atI z.cps.toList i with
      | some c => .ok (.str ⟨#[c]⟩) m
      | none => .stuck
    else .stuck
  | d, .int i, m => match seqOf m d with
    | some l => match atM l i with
      | some e => .ok e m
      | none => .stuck
    | none => .stuck
  | _, _, _ => .stuck
theorem om_ix : OpM X (rIx X.K) gIx := by
  intro W σ d e m β H x y Q M rx ry p
  unfold gIx at p
  split at p
  · cases rx; cases ry
    split at p
    · rename_i h
      split at p
      · rename_i c hc
        exact .inr (.inr ⟨_, _, c, rfl, rfl, h, hc, p.ok M (.str _)⟩)
      · exact p.not_stuck
    · exact p.not_stuck
  · cases ry
    split at p
    · rename_i l hl
      split at p
      · rename_i e he
        obtain ⟨a, vs, rfl, hs, hr⟩ := M.seq rx hl
        obtain ⟨v, h1, h2⟩ := hr.at_ he
        rcases hs with hs | hs
        · exact .inl ⟨a, vs, _, v, rfl, rfl, hs, h1, p.ok M h2⟩
        · exact .inr (.inl ⟨a, vs, _, v, rfl, rfl, hs, h1, p.ok M h2⟩)
      · exact p.not_stuck
    · exact p.not_stuck
  · exact p.not_stuck
theorem je_ix {a b : Expr} {fa fb : ME} (ha : JE X W a fa) (hb : JE X W b fb) (hs : PlainIx b := by intro _ _; rfl) : JE X W (.Subscript a b pos) (mBin gIx fa fb) :=
  ⟨pe_imp (pe_ix ix_seq ha.run hb.run hs) fun σ H Q ⟨ρ, m, β, hE, hM, p⟩ => ⟨ρ, m, β, hE, hM, p.bind fun d m1 x H1 β1 _ e1 M1 V1 p1 => ⟨ρ, m1, β1, hE.ext hM e1, M1, p1.bind fun d2 m2 y H2 β2 _ e2 M2 V2 p2 =>
    om_ix W σ d d2 m2 β2 H2 x y Q M2 (V1.ext M1 e2) V2 p2⟩⟩⟩
/-- d[k], d a dict with ints and texts for keys -/
def keyOf : MV → Option Key
  | .int i => some (.inl i)
  | .str x => some (.inr x)
  | _ => none
def dctOf (m : Mem) : MV → Option (Nat × List (Key × MV))
  | .ref n => match m[n]? with
    | some (.dct l) => some (n, l)
    | _ => none
  | _ => none

def valM (l : List (Key × MV)) (k : Key) : Option MV := Option.map (fun x => x.snd) (List.find? (fun kv => decide (kv.fst = k)) l)
def putM (l : List (Key × MV)) (k : Key) (d : MV) : List (Key × MV) :=
  if (l.any fun kv => decide (kv.fst = k)) = true then List.map (fun kv => if kv.fst = k then (kv.fst, d) else kv) l else l ++ [(k, d)]
theorem dctOf_some {d : MV} {n : Nat} {l : List (Key × MV)} (h : dctOf m d = some (n, l)) : d = .ref n ∧ m[n]? = some (.dct l) := by
  unfold dctOf at h
  split at h
  · split at h
    · rename_i e
      cases h
      exact ⟨rfl, e⟩
    · cases h
  · cases h
theorem RM.dct (R : RM K β H m) {d : MV} {v : V} {n : Nat} {l : List (Key × MV)} (r : RV K β H d v) (h : dctOf m d = some (n, l)) : ∃ a vs, v = .ref a ∧ β[n]? = some a ∧ H a = some (.dK vs) ∧ RKs K β H l vs := by
  obtain ⟨rfl, e⟩ := dctOf_some h
  cases r with
  | ref hb =>
    obtain ⟨vs, q1, q2⟩ := R.ob n _ _ e hb
    exact ⟨_, vs, rfl, hb, q1, q2⟩
theorem keyOf_some {d : MV} {v : V} {k : Key} (r : RV K β H d v) (h : keyOf d = some k) : v = kV k := by
  cases r <;> cases h <;> rfl
theorem RKs.val : ∀ {l : List (Key × MV)} {vs : List (Key × V)} {k : Key}, RKs K β H l vs → (∀ d, valM l k = some d → ∃ v, valV vs k = some v ∧ RV K β H d v) ∧ (valM l k = none → valV vs k = none)
  | _, _, k, .nil => ⟨fun d h => (by cases h), fun _ => rfl⟩
  | _, _, k, .cons (k := q) (ds := ds) (vs := vs) h r => by
    obtain ⟨i1, i2⟩ := RKs.val (k := k) r
    unfold valM valV at *
    rw [List.find?_cons, List.find?_cons]
    by_cases e : q = k
    · simp only [e, decide_true]
      exact ⟨fun d z => (by cases z; exact ⟨_, rfl, h⟩), fun z => (by cases z)⟩
    · simp only [e, decide_false]
      exact ⟨i1, i2⟩
theorem RKs.length : ∀ {l : List (Key × MV)} {vs : List (Key × V)}, RKs K β H l vs → l.length = vs.length
  | _, _, .nil => rfl
  | _, _, .cons _ r => by simp [RKs.length r]
theorem RKs.any : ∀ {l : List (Key × MV)} {vs : List (Key × V)} {k : Key}, RKs K β H l vs → (l.any fun kv => decide (kv.fst = k)) = (vs.any fun kv => decide (kv.fst = k))
  | _, _, _, .nil => rfl
  | _, _, k, .cons _ r => by simp only [List.any_cons, RKs.any (k := k) r]
theorem RKs.map : ∀ {l : List (Key × MV)} {vs : List (Key × V)} {k : Key} {d : MV} {v : V}, RKs K β H l vs → RV K β H d v →
    RKs K β H (l.map fun kv => if kv.fst = k then (kv.fst, d) else kv) (vs.map fun kv => if kv.fst = k then (kv.fst, v) else kv)
  | _, _, _, _, _, .nil, _ => .nil
  | _, _, k, _, _, .cons (k := q) h r, z => by
    simp only [List.map_cons]
    by_cases e : q = k
    · simp only [e, if_true]; exact .cons z (RKs.map r z)
    · simp only [e, if_false]; exact .cons h (RKs.map r z)
theorem RKs.app : ∀ {l l2 : List (Key × MV)} {vs v2 : List (Key × V)}, RKs K β H l vs → RKs K β H l2 v2 → RKs K β H (l ++ l2) (vs ++ v2)
  | _, _, _, _, .nil, q => q
  | _, _, _, _, .cons h r, q => .cons h (RKs.app r q)
theorem RKs.put {l : List (Key × MV)} {vs : List (Key × V)} {k : Key} {d : MV} {v : V} (r : RKs K β H l vs) (h : RV K β H d v) : RKs K β H (putM l k d) (putK vs k v) := by
  unfold putM putK
  rw [r.any (k := k)]
  split
  · exact r.map h
  · exact r.app (.cons h .nil)
/-- d[k] -/
def gDGet (d k : MV) (m : Mem) : Re MV := match dctOf m d, keyOf k with
  | some (_, l), some q => match valM l q with
    | some e => .ok e m
    | none => .stuck
  | _, _ => .stuck
theorem je_dget {a b : Expr} {fa fb : ME} (hu : X.A.units + 1 < cLine) (ha : JE X W a fa) (hb : JE X W b fb) (hs : NoSl b := by intro _ _; rfl) : JE X W (.Subscript a b pos) (mBin gDGet fa fb) :=
  ⟨pe_imp (pe_dget hu ha.run hb.run hs) fun σ H Q ⟨ρ, m, β, hE, hM, p⟩ => ⟨ρ, m, β, hE, hM, p.bind fun d m1 x H1 β1 _ e1 M1 V1 p1 => ⟨ρ, m1, β1, hE.ext hM e1, M1, p1.bind fun d2 m2 y H2 β2 _ e2 M2 V2 p2 => by
    unfold gDGet at p2
    split at p2
    · rename_i n l q h1 h2
      split at p2
      · rename_i e he
        obtain ⟨a, vs, rfl, hb, hH, hr⟩ := M2.dct (V1.ext M1 e2) h1
        have hy := keyOf_some V2 h2
        subst hy
        obtain ⟨v, z1, z2⟩ := hr.val.1 e he
        exact ⟨a, v, rfl, .inl ⟨vs, q, .inl hH, rfl, z1.symm⟩, p2.ok M2 z2⟩
      · exact p2.not_stuck
    · exact p2.not_stuck⟩⟩⟩
/-- k in d, k not in d -/
def gDIn (neg : Bool) (k d : MV) (m : Mem) : Re MV := match dctOf m d, keyOf k with
  | some (_, l), some q => .ok (.bl (if neg then !(valM l q).isSome else (valM l q).isSome)) m
  | _, _ => .stuck
theorem RKs.isSome {l : List (Key × MV)} {vs : List (Key × V)} {k : Key} (r : RKs K β H l vs) : (valV vs k).isSome = (valM l k).isSome := by
  obtain ⟨h1, h2⟩ := r.val (k := k)
  cases e : valM l k with
  | none => rw [h2 e] <;> rfl
  | some d => obtain ⟨v, z, _⟩ := h1 d e; rw [z] <;> rfl
theorem je_din {a b : Expr} {fa fb : ME} (hu : X.A.units + 1 < cLine) (ha : JE X W a fa) (hb : JE X W b fb) (hk : behindInMarks .In b = false := by rfl) : JE X W (.Compare a [.In] [b] pos) (mBin (gDIn false) fa fb) :=
  ⟨pe_imp (pe_cmp (pc_din hu ha.run hb.run) hk) fun σ H Q ⟨ρ, m, β, hE, hM, p⟩ => ⟨ρ, m, β, hE, hM, p.bind fun d m1 x H1 β1 _ e1 M1 V1 p1 => ⟨ρ, m1, β1, hE.ext hM e1, M1, p1.bind fun d2 m2 y H2 β2 _ e2 M2 V2 p2 => by
    unfold gDIn at p2
    split at p2
    · rename_i n l q h1 h2
      obtain ⟨a, vs, rfl, hb, hH, hr⟩ := M2.dct V2 h1
      have hy := keyOf_some (V1.ext M1 e2) h2
      subst hy
      exact ⟨a, valV vs q, rfl, .inl ⟨vs, q, .inl hH, rfl, rfl⟩, p2.ok M2 (by rw [hr.isSome]; exact .bl _)⟩
    · exact p2.not_stuck⟩⟩⟩
theorem je_dnotin {a b : Expr} {fa fb : ME} (hu : X.A.units + 1 < cLine) (ha : JE X W a fa) (hb : JE X W b fb) (hk : behindInMarks .NotIn b = false := by rfl) : JE X W (.Compare a [.NotIn] [b] pos) (mBin (gDIn true) fa fb) :=
  ⟨pe_imp (pe_cmp (pc_dnotin hu ha.run hb.run) hk) fun σ H Q ⟨ρ, m, β, hE, hM, p⟩ => ⟨ρ, m, β, hE, hM, p.bind fun d m1 x H1 β1 _ e1 M1 V1 p1 => ⟨ρ, m1, β1, hE.ext hM e1, M1, p1.bind fun d2 m2 y H2 β2 _ e2 M2 V2 p2 => by
    unfold gDIn at p2
    split at p2
    · rename_i n l q h1 h2
      obtain ⟨a, vs, rfl, hb, hH, hr⟩ := M2.dct V2 h1
      have hy := keyOf_some (V1.ext M1 e2) h2
      subst hy
      exact ⟨a, valV vs q, rfl, .inl ⟨vs, q, .inl hH, rfl, rfl⟩, p2.ok M2 (by rw [hr.isSome]; exact .bl _)⟩
    · exact p2.not_stuck⟩⟩⟩
def mDNew : ME := fun _ m => alloc (.dct []) m
theorem je_dnew : JE X W (.Dict [] [] pos) mDNew :=
  ⟨pe_imp pe_dnewK fun σ H Q ⟨ρ, m, β, hE, hM, p⟩ => fun a ha => p.alloc hM ha ⟨[], upd_same, .nil⟩⟩
/-! ### slices -/
def cutM {α : Type} (xs : List α) (lo hi : Option Int) : List α := (xs.drop (HT.sIx xs.length 0 lo)).take (HT.sIx xs.length xs.length hi - HT.sIx xs.length 0 lo)
theorem RVs.cut {ds : List MV} {vs : List V} (h : RVs K β H ds vs) (lo hi : Option Int) : RVs K β H (cutM ds lo hi) (cutV vs lo hi) := by
  unfold cutM cutV
  rw [h.length]
  exact (h.drop _).take _
def gSl (d : MV) (lo hi : Option Int) (m : Mem) : Re MV := match d with
  | .str z => if z.length ≤ sizeLine then .ok (.str ⟨(cutM z.cps.toList lo hi).toArray⟩) m else .stuck
  | .tup l => .ok (.tup (cutM l lo hi)) m
  | d => match lstOf m d with
    | some l => alloc (.lst (cutM l lo hi)) m
    | none => .stuck
abbrev rSlAll (K : PySem.W.Frag) : V → Option Int → Option Int → Hp → VK → Prop := fun x lo hi H Q => rSlL K x lo hi H Q ∨ rSlA K x lo hi H Q ∨ rSlS x lo hi H Q
theorem sl_all : SlR X (rSlAll X.K) := SlR.or sl_list (SlR.or sl_tupA sl_str)
theorem cut_all {α : Type} {xs : List α} {lo hi : Option Int} (h : HT.sIx xs.length 0 lo = 0 ∧ HT.sIx xs.length xs.length hi = xs.length) : cutM xs lo hi = xs := by
  unfold cutM
  rw [h.1, h.2]; simp
theorem om_sl {σ : L2.St} {d : MV} {lo hi : Option Int} {m : Mem} {β : List Addr} {H : Hp} {x : V} {Q : VK} (M : RM X.K β H m) (rx : RV X.K β H d x) (p : Post X W (gSl d lo hi m) β H σ (fun β' H' d v => RV X.K β' H' d v) Q) : rSlAll X.K x lo hi H Q := by
  unfold gSl at p
  split at p
  · rename_i z
    cases rx
    split at p
    · rename_i h
      refine .inr (.inr ⟨_, rfl, h, ?_⟩)
      have e : cutS z lo hi = ⟨(cutM z.cps.toList lo hi).toArray⟩ := by
        unfold cutS cutM
        rw [show z.cps.toList.length = z.length from by simp [Str.length]]
      rw [e]
      exact p.ok M (.str _)
    · exact p.not_stuck
  · cases rx with
    | tup h1 r1 =>
      refine .inr (.inl ⟨_, _, rfl, h1, fun q => ?_, fun q a ha => p.newtup M ha (r1.cut lo hi)⟩)
      rw [← r1.length] at q
      rw [cut_all q] at p
      exact p.ok M (.tup h1 r1)
  · split at p
    · rename_i l hl
      obtain ⟨a, vs, rfl, hs, hr⟩ := M.lst rx hl
      exact .inl ⟨a, vs, rfl, hs, fun q hq => p.alloc M hq ⟨_, upd_same, (hr.cut lo hi).ext M (Ext.push hq)⟩⟩
    · exact p.not_stuck
/-- an end of a slice -/
abbrev MO' := Env → Mem → Re (Option Int)
structure JO (X : Cx) (W : WX) (e : Option Expr) (f : MO') : Prop where
  run : PO X e (fun σ H Q => ∃ ρ m β, RE X.K β H ρ σ ∧ RM X.K β H m ∧ Post X W (f ρ m) β H σ (fun _ _ d v => d = v) Q)
def mNo : MO' := fun _ m => .ok none m
def mEnd (f : ME) : MO' := fun ρ m => (f ρ m).bind fun d m1 => match d with
  | .int i => .ok (some i) m1
  | _ => .stuck
theorem po_imp {e : Option Expr} {t t' : TO} (h : PO X e t) (i : ∀ σ H Q, t' σ H Q → t σ H Q) : PO X e t' := ⟨fun pins s σ H Q I q => h.run pins s σ H Q I (i σ H Q q)⟩
theorem jo_no : JO X W none mNo := ⟨po_imp po_none fun σ H Q ⟨ρ, m, β, hE, hM, p⟩ => p.ok hM rfl⟩
theorem jo_end {e : Expr} {f : ME} (h : JE X W e f) : JO X W (some e) (mEnd f) :=
  ⟨po_imp (po_some h.run) fun σ H Q ⟨ρ, m, β, hE, hM, p⟩ => ⟨ρ, m, β, hE, hM, p.bind fun d m1 x H1 β1 _ e1 M1 V1 p1 => by
    split at p1
    · cases V1; exact ⟨_, rfl, p1.ok M1 rfl⟩
    · exact p1.not_stuck⟩⟩
def mSl (f : ME) (l h : MO') : ME := fun ρ m => (f ρ m).bind fun d m1 => (l ρ m1).bind fun lo m2 => (h ρ m2).bind fun hi m3 => gSl d lo hi m3
theorem je_sl {e : Expr} {lo hi : Option Expr} {p2 : Pos} {f : ME} {l h : MO'} (he : JE X W e f) (hl : JO X W lo l) (hh : JO X W hi h) : JE X W (.Subscript e (.Slice lo hi none p2) pos) (mSl f l h) :=
  ⟨pe_imp (pe_slice sl_all he.run hl.run hh.run) fun σ H Q ⟨ρ, m, β, hE, hM, p⟩ => ⟨ρ, m, β, hE, hM, p.bind fun d m1 x H1 β1 _ e1 M1 V1 p1 => ⟨ρ, m1, β1, hE.ext hM e1, M1, p1.bind fun o m2 o' H2 β2 _ e2 M2 V2 p2 => by
    subst V2
    exact ⟨ρ, m2, β2, (hE.ext hM e1).ext M1 e2, M2, p2.bind fun u m3 u' H3 β3 _ e3 M3 V3 p3 => by
      subst V3
      exact om_sl M3 ((V1.ext M1 e2).ext M2 e3) p3⟩⟩⟩⟩
end
end MI
namespace MI
open PySem L2
/-! ### statements -/
section
variable {X : Cx} {W : WX} {pos : Pos} {K : PySem.W.Frag} {β : List Addr} {H : Hp} {m : Mem}
def PostS (X : Cx) (W : WX) (r : Re Fl) (β : List Addr) (H : Hp) (D : Ends) : Prop :=
  match r with
  | .ok (.nx ρ') m' => ∀ σ' H' β', Ext β H β' H' → RM X.K β' H' m' → RE X.K β' H' ρ' σ' → D.nx σ' H'
  | .ok (.bk ρ') m' => ∀ σ' H' β', Ext β H β' H' → RM X.K β' H' m' → RE X.K β' H' ρ' σ' → D.bk σ' H'
  | .ok (.ct ρ') m' => ∀ σ' H' β', Ext β H β' H' → RM X.K β' H' m' → RE X.K β' H' ρ' σ' → D.ct σ' H'
  | .ok (.rt d) m' => ∀ v H' β', Ext β H β' H' → RM X.K β' H' m' → RV X.K β' H' d v → D.rt v H'
  | .ok (.ex x ρ') m' => ∀ cls dd σ' H' β', Ext β H β' H' → RM X.K β' H' m' → RE X.K β' H' ρ' σ' → XR X.K x cls dd → W cls dd σ' H'
  | .ex _ _ => False
  | .stuck => False
theorem tS_of {f : MS} {D : Ends} {σ : L2.St} {H : Hp} (h : tS X W f D σ H) : ∃ ρ m β, RE X.K β H ρ σ ∧ RM X.K β H m ∧ PostS X W (f ρ m) β H D := h
theorem PostS.later {r : Re Fl} {β β1 : List Addr} {H H1 : Hp} {D : Ends} (p : PostS X W r β H D) (e : Ext β H β1 H1) : PostS X W r β1 H1 D := by
  cases r with
  | ok a m =>
    cases a with
    | nx ρ => exact fun σ' H' β' e' => p σ' H' β' (e.trans e')
    | bk ρ => exact fun σ' H' β' e' => p σ' H' β' (e.trans e')
    | ct ρ => exact fun σ' H' β' e' => p σ' H' β' (e.trans e')
    | rt d => exact fun σ' H' β' e' => p σ' H' β' (e.trans e')
    | ex x ρ => exact fun c d σ' H' β' e' => p c d σ' H' β' (e.trans e')
  | ex x m => exact p
  | stuck => exact p
/-- an expression within a statement -/
def onE {α : Type} (ρ : Env) (r : Re α) (k : α → Mem → Re Fl) : Re Fl := match r with
  | .ok a m => k a m
  | .ex x m => .ok (.ex x ρ) m
  | .stuck => .stuck
theorem PostS.on {α γ : Type} {r : Re α} {k : α → Mem → Re Fl} {β : List Addr} {H : Hp} {σ : L2.St} {ρ : Env} {D : Ends} {R : List Addr → Hp → α → γ → Prop} {Q : γ → Hp → Prop} (hE : RE X.K β H ρ σ) (hM : RM X.K β H m) (p : PostS X W (onE ρ r k) β H D)
    (h : ∀ d m1 v H1 β1, r = .ok d m1 → Ext β H β1 H1 → RM X.K β1 H1 m1 → R β1 H1 d v → PostS X W (k d m1) β1 H1 D → Q v H1) : Post X W r β H σ R Q := by
  cases r with
  | ok d m => exact fun v H' β' e M V => h d m v H' β' rfl e M V (PostS.later (r := k d m) p e)
  | ex x m => exact fun c d H' β' e M z => p c d σ H' β' e M (hE.ext hM e) z
  | stuck => exact p
/-- another end for what follows: the same but nx -/
theorem PostS.seq {r : Re Fl} {k : Env → Mem → Re Fl} {β : List Addr} {H : Hp} {D : Ends} {N : L2.St → Hp → Prop} (p : PostS X W (match r with | .ok (.nx ρ) m => k ρ m | r => r) β H D)
    (h : ∀ ρ' m' σ' H' β', r = .ok (.nx ρ') m' → Ext β H β' H' → RM X.K β' H' m' → RE X.K β' H' ρ' σ' → PostS X W (k ρ' m') β' H' D → N σ' H') : PostS X W r β H { D with nx := N } := by
  cases r with
  | ok a m =>
    cases a with
    | nx ρ => exact fun σ' H' β' e M E => h ρ m σ' H' β' rfl e M E (PostS.later (r := k ρ m) p e)
    | bk ρ => exact p
    | ct ρ => exact p
    | rt d => exact p
    | ex x ρ => exact p
  | ex x m => exact p
  | stuck => exact p
def mSkip : MS := fun ρ m => .ok (.nx ρ) m
def mSeq (f g : MS) : MS := fun ρ m => match f ρ m with
  | .ok (.nx ρ') m' => g ρ' m'
  | r => r
theorem jb_nil : JB X W [] mSkip := ⟨pss_imp pss_nil fun D σ H ⟨ρ, m, β, hE, hM, p⟩ => p σ H β Ext.refl hM hE⟩
theorem jb_cons {st : Stmt} {rest : List Stmt} {f g : MS} (h : JS X W st f) (h2 : JB X W rest g) : JB X W (st :: rest) (mSeq f g) :=
  ⟨pss_imp (pss_cons h.run h2.run) fun D σ H ⟨ρ, m, β, hE, hM, p⟩ => ⟨ρ, m, β, hE, hM, PostS.seq (k := g) (r := f ρ m) (D := D) p fun ρ' m' σ' H' β' _ e M E q => ⟨ρ', m', β', E, M, q⟩⟩⟩
theorem jb_one {st : Stmt} {f : MS} (h : JS X W st f) : JB X W [st] f := ⟨pss_one h.run⟩
theorem js_pass : JS X W (.Pass pos) mSkip := ⟨ps_imp ps_pass fun D σ H ⟨ρ, m, β, hE, hM, p⟩ => p σ H β Ext.refl hM hE⟩
theorem js_break : JS X W (.Break pos) (fun ρ m => .ok (.bk ρ) m) := ⟨ps_imp ps_break fun D σ H ⟨ρ, m, β, hE, hM, p⟩ => p σ H β Ext.refl hM hE⟩
theorem js_continue : JS X W (.Continue pos) (fun ρ m => .ok (.ct ρ) m) := ⟨ps_imp ps_continue fun D σ H ⟨ρ, m, β, hE, hM, p⟩ => p σ H β Ext.refl hM hE⟩
def mRet (f : ME) : MS := fun ρ m => onE ρ (f ρ m) fun d m1 => .ok (.rt d) m1
theorem js_ret {e : Expr} {f : ME} (h : JE X W e f) : JS X W (.Return (some e) pos) (mRet f) :=
  ⟨ps_imp (ps_ret h.run) fun D σ H ⟨ρ, m, β, hE, hM, p⟩ => ⟨ρ, m, β, hE, hM, PostS.on (D := D) (k := fun d m1 => .ok (.rt d) m1) hE hM p fun d m1 v H1 β1 _ e M V q => q v H1 β1 Ext.refl M V⟩⟩
def mDrop (f : ME) : MS := fun ρ m => onE ρ (f ρ m) fun _ m1 => .ok (.nx ρ) m1
theorem js_expr {e : Expr} {f : ME} (h : JE X W e f) (hs : swapsWith e none pos.line X.env = pure false := by rfl) : JS X W (.Expr e pos) (mDrop f) :=
  ⟨ps_imp (ps_expr h.run hs) fun D σ H ⟨ρ, m, β, hE, hM, p⟩ => ⟨ρ, m, β, hE, hM, PostS.on (D := D) (k := fun _ m1 => .ok (.nx ρ) m1) (R := fun β' H' d v => RV X.K β' H' d v) hE hM p fun d m1 v H1 β1 _ e M V q => q σ H1 β1 Ext.refl M (hE.ext hM e)⟩⟩
def mIfS (c : MT) (f g : MS) : MS := fun ρ m => onE ρ (c ρ m) fun b m1 => if b = true then f ρ m1 else g ρ m1
theorem js_if {c : Expr} {a b : List Stmt} {fc : MT} {f g : MS} (hc : JT X W c fc) (ha : JB X W a f) (hb : JB X W b g) : JS X W (.If c a b pos) (mIfS fc f g) :=
  ⟨ps_imp (ps_if hc.run ha.run hb.run) fun D σ H ⟨ρ, m, β, hE, hM, p⟩ => ⟨ρ, m, β, hE, hM, PostS.on (D := D) (k := fun b m1 => if b = true then f ρ m1 else g ρ m1) (R := fun _ _ d v => d = v) hE hM p fun d m1 v H1 β1 _ e M V q => by
    subst V
    cases d with
    | true => exact ⟨ρ, m1, β1, hE.ext hM e, M, q⟩
    | false => exact ⟨ρ, m1, β1, hE.ext hM e, M, q⟩⟩⟩
/-! ### targets -/
abbrev MG := MV → Env → Mem → Re Env
def tG (X : Cx) (g : MG) : TG := fun v σ H Q => ∃ d ρ m β, RV X.K β H d v ∧ RE X.K β H ρ σ ∧ RM X.K β H m ∧
  match g d ρ m with
  | .ok ρ' m' => ∀ σ' H' β', Ext β H β' H' → RM X.K β' H' m' → RE X.K β' H' ρ' σ' → Q σ' H'
  | _ => False
abbrev MGs := List MV → Env → Mem → Re Env
def tGs (X : Cx) (g : MGs) : TGs := fun vs σ H Q => ∃ ds ρ m β, RVs X.K β H ds vs ∧ RE X.K β H ρ σ ∧ RM X.K β H m ∧
  match g ds ρ m with
  | .ok ρ' m' => ∀ σ' H' β', Ext β H β' H' → RM X.K β' H' m' → RE X.K β' H' ρ' σ' → Q σ' H'
  | _ => False
structure JG (X : Cx) (tg : Expr) (g : MG) : Prop where
  run : PG X tg (tG X g)
structure JGs (X : Cx) (tg : List Expr) (g : MGs) : Prop where
  run : PGs X tg (tGs X g)
theorem pg_imp {e : Expr} {t t' : TG} (h : PG X e t) (i : ∀ v σ H Q, t' v σ H Q → t v σ H Q) : PG X e t' := ⟨fun pins s σ H v u Q I r q => h.run pins s σ H v u Q I r (i v σ H Q q)⟩
theorem pgs_imp {e : List Expr} {t t' : TGs} (h : PGs X e t) (i : ∀ v σ H Q, t' v σ H Q → t v σ H Q) : PGs X e t' := ⟨fun pins s σ H v u Q I r q => h.run pins s σ H v u Q I r (i v σ H Q q)⟩
def nName (i : Nat) : MG := fun d ρ m => .ok (ρ.set i (some d)) m
theorem jg_name (i : Nat) {x : Str} (hN : X.N.Nodup) (hi : X.N[i]? = some x := by rfl) (hx : Loc X.env.scope x := by first | exact Or.inl rfl | exact Or.inr rfl) (hf : X.fn x = true ∨ X.env.scope.names.lookup x = some .local := by first | exact .inl rfl | exact .inr rfl | assumption) : JG X (.Name x pos) (nName i) :=
  ⟨pg_imp (pg_name hN hi hx hf) fun v σ H Q ⟨d, ρ, m, β, V, hE, hM, p⟩ => p _ H β Ext.refl hM (hE.set V)⟩
def nNil : MGs := fun ds ρ m => match ds with
  | [] => .ok ρ m
  | _ => .stuck
def nCons (g : MG) (k : MGs) : MGs := fun ds ρ m => match ds with
  | d :: r => match g d ρ m with
    | .ok ρ' m' => k r ρ' m'
    | _ => .stuck
  | _ => .stuck
theorem jgs_nil : JGs X [] nNil := ⟨pgs_imp pgs_nil fun v σ H Q ⟨ds, ρ, m, β, V, hE, hM, p⟩ => by
  cases V with
  | nil => exact ⟨rfl, p σ H β Ext.refl hM hE⟩
  | cons _ _ => exact p.elim⟩
theorem jgs_cons {e : Expr} {es : List Expr} {g : MG} {k : MGs} (h1 : JG X e g) (h2 : JGs X es k) (hs : (assignEach (e :: es) X.env).map (·.2) = assign e X.env :: (assignEach es X.env).map (·.2) := by rfl) : JGs X (e :: es) (nCons g k) :=
  ⟨pgs_imp (pgs_cons h1.run h2.run hs) fun v σ H Q ⟨ds, ρ, m, β, V, hE, hM, p⟩ => by
    cases V with
    | nil => exact p.elim
    | @cons d v ds vs h r =>
      refine ⟨v, vs, rfl, d, ρ, m, β, h, hE, hM, ?_⟩
      have p' : match (match g d ρ m with | .ok ρ' m' => k ds ρ' m' | _ => .stuck : Re Env) with
        | .ok ρ' m' => ∀ σ' H' β', Ext β H β' H' → RM X.K β' H' m' → RE X.K β' H' ρ' σ' → Q σ' H'
        | _ => False := p
      cases e1 : g d ρ m with
      | ok ρ1 m1 =>
        rw [e1] at p'
        intro σ1 H1 β1 x1 M1 E1
        refine ⟨ds, ρ1, m1, β1, r.ext hM x1, E1, M1, ?_⟩
        have p2 : match k ds ρ1 m1 with
          | .ok ρ' m' => ∀ σ' H' β', Ext β H β' H' → RM X.K β' H' m' → RE X.K β' H' ρ' σ' → Q σ' H'
          | _ => False := p'
        cases e2 : k ds ρ1 m1 with
        | ok ρ2 m2 => rw [e2] at p2; exact fun σ2 H2 β2 x2 => p2 σ2 H2 β2 (x1.trans x2)
        | ex x m => rw [e2] at p2; exact p2
        | stuck => rw [e2] at p2; exact p2
      | ex x m => rw [e1] at p'; exact p'.elim
      | stuck => rw [e1] at p'; exact p'.elim⟩
/-- (a, b, ..) = a list or a tuple of that length -/
def nTup (n : Nat) (k : MGs) : MG := fun d ρ m => match seqOf m d with
  | some l => if l.length = n then k l ρ m else .stuck
  | none => .stuck
theorem pg_or {e : Expr} {t t' : TG} (h : PG X e t) (h' : PG X e t') : PG X e (fun v σ H Q => t v σ H Q ∨ t' v σ H Q) := ⟨fun pins s σ H v u Q I r q => q.elim (h.run pins s σ H v u Q I r) (h'.run pins s σ H v u Q I r)⟩
theorem jg_tup {es : List Expr} {k : Nat} {g : MGs} {n : Nat} (hc : X.calm = true) (h : JGs X es g) (hn : (assignEach es X.env).length = n := by rfl) (hst : (assignEach es X.env).findIdx? (·.1) = none := by rfl) : JG X (.Tuple es k pos) (nTup n g) :=
  ⟨pg_imp (pg_or (pg_tup hc h.run hn hst) (pg_unl hc h.run hn hst)) fun v σ H Q ⟨d, ρ, m, β, V, hE, hM, p⟩ => by
    unfold nTup at p
    cases e : seqOf m d with
    | none => rw [e] at p; exact p.elim
    | some l =>
      rw [e] at p
      obtain ⟨a, vs, rfl, hs, hr⟩ := hM.seq V e
      by_cases q : l.length = n
      · simp only [q, if_true] at p
        rcases hs with hs | hs
        · exact .inr ⟨a, vs, rfl, hs, by rw [← hr.length]; exact q, l, ρ, m, β, hr, hE, hM, p⟩
        · exact .inl ⟨a, vs, rfl, hs, by rw [← hr.length]; exact q, l, ρ, m, β, hr, hE, hM, p⟩
      · simp only [q, if_false] at p⟩
def mAsg (f : ME) (g : MG) : MS := fun ρ m => onE ρ (f ρ m) fun d m1 => match g d ρ m1 with
  | .ok ρ' m' => .ok (.nx ρ') m'
  | _ => .stuck
theorem js_asg {tg e : Expr} {f : ME} {g : MG} (he : JE X W e f) (hg : JG X tg g) (hs : swapsWithSole [tg] e pos.line X.env = pure false := by rfl) (hw : swappedStores [tg] e X.env = pure none := by rfl)
    (h1 : (assignEach [tg] X.env).map (·.2) = [assign tg X.env] := by rfl) : JS X W (.Assign [tg] e pos) (mAsg f g) :=
  ⟨ps_imp (ps_asg he.run hg.run hs hw h1) fun D σ H ⟨ρ, m, β, hE, hM, p⟩ => ⟨ρ, m, β, hE, hM, PostS.on (D := D) (R := fun β' H' d v => RV X.K β' H' d v) hE hM p fun d m1 v H1 β1 _ e M V q => ⟨d, ρ, m1, β1, V, hE.ext hM e, M, by
    split at q
    · rename_i ρ' m' e1; exact q
    · exact q.elim⟩⟩⟩
theorem js_set (i : Nat) {x : Str} {e : Expr} {f : ME} {pos' : Pos} (hN : X.N.Nodup) (he : JE X W e f) (hi : X.N[i]? = some x := by rfl) (hx : Loc X.env.scope x := by first | exact Or.inl rfl | exact Or.inr rfl) (hs : swapsWith e (some (.Name x pos')) pos.line X.env = pure false := by rfl)
    (hf : X.fn x = true ∨ X.env.scope.names.lookup x = some .local := by first | exact .inl rfl | exact .inr rfl | assumption) : JS X W (.Assign [.Name x pos'] e pos) (mAsg f (nName i)) :=
  ⟨ps_imp (ps_set hN hi hx he.run hs hf) fun D σ H ⟨ρ, m, β, hE, hM, p⟩ => ⟨ρ, m, β, hE, hM, PostS.on (D := D) (R := fun β' H' d v => RV X.K β' H' d v) hE hM p fun d m1 v H1 β1 _ e M V q => q _ H1 β1 Ext.refl M ((hE.ext hM e).set V)⟩⟩
/-- o[i] = .. in a list -/
def nSubL (fo fi : ME) : MG := fun d ρ m => match fo ρ m with
  | .ok o m1 => match fi ρ m1 with
    | .ok (.int k) m2 => match mutOf m2 o with
      | some (n, l) => match ixN l.length k with
        | some j => .ok ρ (m2.set n (.lst (l.set j d)))
        | none => .stuck
      | none => .stuck
    | _ => .stuck
  | _ => .stuck
end
/-! ### a def's promise -/
def spM (K : PySem.W.Frag) (n : Nat) (F : MF) : Sp := fun vs H Q E => vs.length = n ∧ ∃ ds m β, RVs K β H ds vs ∧ RM K β H m ∧
  match F ds m with
  | .ok d m' => ∀ v H' β', Ext β H β' H' → RM K β' H' m' → RV K β' H' d v → Q v H'
  | .ex x m' => ∀ cls dd H' β', Ext β H β' H' → RM K β' H' m' → XR K x cls dd → E cls dd H'
  | .stuck => False
/-- a global def that does F, at level k, with n parameters -/
structure Fn (P : Program) (w : World) (K : PySem.W.Frag) (mg : Str → Option Value) (base : Heap) (k : Nat) (x : Str) (n : Nat) (F : MF) : Prop where
  ex : ∃ (f : Addr) (fd : FuncData) (ps : List Str), FnOk P w K mg base (CX P w) k f fd ps (spM K n F) ∧ mg x = some (.ref f) ∧ PySem.W.keepIn K (.ref f) = true ∧ Binds K fd ps []
/-- a body's end as a call's -/
def endOf (r : Re Fl) : Re MV := match r with
  | .ok (.nx _) m => .ok .non m
  | .ok (.rt d) m => .ok d m
  | .ok (.ex x _) m => .ex x m
  | _ => .stuck
def startM (n : Nat) (ds : List MV) : Env := ds.map some ++ List.replicate (n - ds.length) none
theorem RE.start {K : PySem.W.Frag} {β : List Addr} {H : Hp} {N : List Str} {ds : List MV} {vs : List V} (h : RVs K β H ds vs) : RE K β H (startM N.length ds) (L2.start N vs) := by
  unfold startM L2.start
  refine ⟨by simp [h.length], fun i d e => ?_⟩
  by_cases hi : i < ds.length
  · rw [List.getElem?_append_left (by simpa using hi), List.getElem?_map] at e
    cases q : ds[i]? with
    | none => rw [q] at e; cases e
    | some d' =>
      rw [q] at e
      cases e
      obtain ⟨v, h1, h2⟩ := h.get q
      refine ⟨v, ?_, h2⟩
      rw [List.getElem?_append_left (by rw [List.length_map, ← h.length]; exact hi), List.getElem?_map, h1] <;> rfl
  · rw [List.getElem?_append_right (by simpa using hi), List.getElem?_replicate] at e
    split at e <;> cases e
section
variable {P : Program} {w : World} {K : PySem.W.Frag} {mg : Str → Option Value} {base : Heap}
/-- THE RULE for a def -/
theorem fn_ok {x qual : Str} {st : Stmt} {f : Addr} {fd : FuncData} {N ps : List Str} {k n : Nat} {g : MS} {F : MF} (Fu : Fun K x qual st f fd) (S : FnScope N ps (defScope st)) (hn : ps.length = n)
    (hF : ∀ ds m, ds.length = n → F ds m = endOf (g (startM N.length ds) m))
    (hb : ∀ (X : Cx), X.prog = P → X.w = w → X.K = K → X.mg = mg → X.base = base → X.N = N → X.env.scope = defScope st → X.calm = true → (∀ x, X.fn x = true) → Room k X.A → (X.stack = X.env :: X.outer) → (X.env.frame = some X.env.locals) → X.ex = [] →
      ∀ W, Takes X W → PassesOwn (model X.prog X.w) X.A X.env X.xe → JB X W (defBody st) g) :
    FnOk P w K mg base (CX P w) (k + 1) f fd ps (spM K n F) := by
  refine Fu.okX S (fun vs H Q E h => by rw [hn]; exact h.1) fun cdv A outer s H vs Q E hr hsp => ?_
  obtain ⟨hl, ds, m, β, V, M, p⟩ := hsp
  have tk : Takes (cxOf (CX P w) P w K mg base N qual (defScope st) f cdv A outer s H E) (fun cls d _ H' => E cls d H') := takes_of rfl rfl rfl rfl
  refine ⟨_, (hb _ rfl rfl rfl rfl rfl rfl rfl rfl (fun _ => rfl) hr rfl rfl rfl _ tk (passes_of rfl)).run, ?_⟩
  refine ⟨startM N.length ds, m, β, RE.start V, M, ?_⟩
  rw [hF ds m (by rw [V.length]; exact hl)] at p
  have E0 : RE K β H (startM N.length ds) (L2.start N vs) := RE.start V
  revert p
  generalize g (startM N.length ds) m = r
  intro p
  cases r with
  | ok a m' =>
    cases a with
    | nx ρ => exact fun σ' H' β' e M' _ => p .non H' β' e M' .non
    | bk ρ => exact p.elim
    | ct ρ => exact p.elim
    | rt d => exact fun v H' β' e M' V' => p v H' β' e M' V'
    | ex x ρ => exact fun c d σ' H' β' e M' _ z => p c d H' β' e M' z
  | ex x m' => exact p.elim
  | stuck => exact p
/-- f(e, ..) -/
def mCall (F : MF) (g : MA) : ME := fun ρ m => (g ρ m).bind fun ds m1 => F ds m1
theorem je_call {X : Cx} {W : WX} {k j n : Nat} {x : Str} {F : MF} {e : Expr} {es : List Expr} {g : MA} {p pos : Pos} (Fk : Fn X.prog X.w X.K X.mg X.base k x n F) (hr : Room j X.A) (hk : k ≤ j) (tk : Takes X W) (ha : JA X W (e :: es) g) (hl : (e :: es).length = n := by rfl)
    (hg : Gl X x := by rfl) (hdb : (x == ("__debug__" : Str)) = false := by decide) (he : starEach (e :: es) X.env = (false, eval e X.env) :: starEach es X.env := by rfl) (hpl : (backTo pos (starEach es X.env)).any (·.1) = false := by rfl)
    (hlen : ∀ ρ m ds m1, g ρ m = .ok ds m1 → ds.length = n) : JE X W (.Call (.Name x p) (e :: es) [] pos) (mCall F g) := by
  obtain ⟨f, fd, ps, h1, h2, h3, h4⟩ := Fk.ex
  refine ⟨pe_imp (pe_callS h1 (hr.mono hk) hg h2 h3 h4 (fun σ => passAt tk σ) ha.run hdb he hpl) fun σ H Q ⟨ρ, m, β, hE, hM, p⟩ => ⟨ρ, m, β, hE, hM, ?_⟩⟩
  refine p.bind fun ds m1 vs H1 β1 e0 e1 M1 V1 p1 => ⟨by rw [← V1.length]; exact hlen ρ m ds m1 e0, ds, m1, β1, V1, M1, ?_⟩
  revert p1
  generalize F ds m1 = r
  intro p1
  cases r with
  | ok d m2 => exact p1
  | ex x m2 => exact p1
  | stuck => exact p1
end
end MI
namespace MI
open PySem L2
section
variable {X : Cx} {W : WX} {pos : Pos} {K : PySem.W.Frag} {β : List Addr} {H : Hp} {m : Mem}
/-! ### what is walked -/
/-- the items, and what must hold of the objects at every turn -/
structure IterM where
  items : List MV
  chk : Mem → Prop
structure WalkM (K : PySem.W.Frag) (β0 : List Addr) (H0 : Hp) (it : IterM) (J : It) : Prop where
  ex : ∃ (G : Hp → Prop) (Y : Nat → Hp → V → Hp → Prop), Walk J it.items.length G Y ∧ (∀ β1 H1 m1, Ext β0 H0 β1 H1 → RM K β1 H1 m1 → it.chk m1 → G H1) ∧
    (∀ i H1 x H2 β1 m1 d, Ext β0 H0 β1 H1 → RM K β1 H1 m1 → it.chk m1 → it.items[i]? = some d → Y i H1 x H2 → Ext β1 H1 β1 H2 ∧ RM K β1 H2 m1 ∧ RV K β1 H2 d x)
abbrev MI' := Env → Mem → Re IterM
def tI (X : Cx) (W : WX) (h : MI') : TI := fun σ H R => ∃ ρ m β, RE X.K β H ρ σ ∧ RM X.K β H m ∧
  match h ρ m with
  | .ok it m' => ∀ H' β' J, Ext β H β' H' → RM X.K β' H' m' → WalkM X.K β' H' it J → R J H'
  | .ex x m' => ∀ cls dd H' β', Ext β H β' H' → RM X.K β' H' m' → XR X.K x cls dd → W cls dd σ H'
  | .stuck => False
structure JI (X : Cx) (W : WX) (tg iter : Expr) (h : MI') : Prop where
  run : PI X tg iter (tI X W h)
theorem pi_imp {tg e : Expr} {t t' : TI} (h : PI X tg e t) (i : ∀ σ H R, t' σ H R → t σ H R) : PI X tg e t' := ⟨fun pins s σ H R I q => h.run pins s σ H R I (i σ H R q)⟩
theorem pi_or {tg e : Expr} {t t' : TI} (h : PI X tg e t) (h' : PI X tg e t') : PI X tg e (fun σ H R => t σ H R ∨ t' σ H R) := ⟨fun pins s σ H R I q => q.elim (h.run pins s σ H R I) (h'.run pins s σ H R I)⟩
/-- a list or a tuple -/
def mSeqI (f : ME) : MI' := fun ρ m => (f ρ m).bind fun d m1 => match d with
  | .tup l => .ok ⟨l, fun _ => True⟩ m1
  | .kl _ => .stuck
  | d => match lstOf m1 d with
    | some l => .ok ⟨l, fun m' => lstOf m' d = some l⟩ m1
    | none => .stuck
theorem walkM_tup {a : Addr} {l : List MV} {vs : List V} (M : RM K β H m) (h : SqT K H a vs) (r : RVs K β H l vs) : WalkM K β H ⟨l, fun _ => True⟩ (Itt K a) := by
  refine ⟨fun H1 => SqT K H1 a vs, YAt vs, ?_, fun β1 H1 m1 e M1 _ => M.sqt e h, fun i H1 x H2 β1 m1 d e M1 _ hi y => ?_⟩
  · show Walk _ l.length _ _
    rw [r.length]; exact walk_tup
  · obtain ⟨rfl, hx⟩ := y
    obtain ⟨v, h1, h2⟩ := (r.ext M e).get hi
    rw [h1] at hx; cases hx
    exact ⟨Ext.refl, M1, h2⟩
theorem walkM_lst {a : Addr} {d : MV} {l : List MV} (M : RM K β H m) (rd : RV K β H d (.ref a)) (h : lstOf m d = some l) : WalkM K β H ⟨l, fun m' => lstOf m' d = some l⟩ (Itl K a) := by
  refine ⟨fun H1 => ∃ vs, SqL K H1 a vs ∧ vs.length = l.length, fun i H1 x H2 => H2 = H1 ∧ ∀ vs, SqL K H1 a vs → vs[i]? = some x, ⟨fun i H1 hi g => ?_, fun H1 g => ?_, fun i H1 x H2 _ _ y => y⟩, fun β1 H1 m1 e M1 hc => ?_, fun i H1 x H2 β1 m1 d' e M1 hc hi y => ?_⟩
  · obtain ⟨vs, g1, g2⟩ := g
    have hi' : i < vs.length := by rw [g2]; exact hi
    exact ⟨vs, vs[i], g1, by simp [hi']⟩
  · obtain ⟨vs, g1, g2⟩ := g
    exact ⟨vs, g1, by rw [g2]; exact Nat.le_refl _⟩
  · obtain ⟨a', vs, e1, h1, h2⟩ := M1.lst (rd.ext M e) hc
    cases e1
    exact ⟨vs, h1, h2.length.symm⟩
  · obtain ⟨rfl, hx⟩ := y
    obtain ⟨a', vs, e1, h1, h2⟩ := M1.lst (rd.ext M e) hc
    cases e1
    obtain ⟨v, q1, q2⟩ := h2.get hi
    have := hx vs h1
    rw [q1] at this; cases this
    exact ⟨Ext.refl, M1, q2⟩
theorem ji_seq {tg e : Expr} {f : ME} (h : JE X W e f) : JI X W tg e (mSeqI f) := by
  refine ⟨pi_imp (pi_or (pi_list h.run) (pi_tup h.run)) fun σ H R ⟨ρ, m, β, hE, hM, p⟩ => ?_⟩
  unfold mSeqI at p
  cases hf : f ρ m with
  | stuck => rw [hf] at p; exact p.elim
  | ex x m1 =>
    rw [hf] at p
    exact .inl ⟨ρ, m, β, hE, hM, by rw [hf]; exact p⟩
  | ok d m1 =>
    rw [hf] at p
    cases d with
    | tup l =>
      refine .inr ⟨ρ, m, β, hE, hM, ?_⟩
      rw [hf]
      intro v H1 β1 e1 M1 V1
      cases V1 with
      | tup h1 h2 => exact ⟨_, rfl, ⟨_, h1⟩, p _ _ _ e1 M1 (walkM_tup M1 h1 h2)⟩
    | ref n =>
      have p' : match (match lstOf m1 (.ref n) with | some l => .ok ⟨l, fun m' => lstOf m' (.ref n) = some l⟩ m1 | none => .stuck : Re IterM) with
        | .ok it m' => ∀ H' β' J, Ext β H β' H' → RM X.K β' H' m' → WalkM X.K β' H' it J → R J H'
        | .ex x m' => ∀ cls dd H' β', Ext β H β' H' → RM X.K β' H' m' → XR X.K x cls dd → W cls dd σ H'
        | .stuck => False := p
      cases hl : lstOf m1 (.ref n) with
      | none => rw [hl] at p'; exact p'.elim
      | some l =>
        rw [hl] at p'
        refine .inl ⟨ρ, m, β, hE, hM, ?_⟩
        rw [hf]
        intro v H1 β1 e1 M1 V1
        obtain ⟨a, vs, rfl, h1, h2⟩ := M1.lst V1 hl
        exact ⟨a, rfl, ⟨vs, h1⟩, p' _ _ _ e1 M1 (walkM_lst M1 V1 hl)⟩
    | non => exact p.elim
    | bl b => exact p.elim
    | int i => exact p.elim
    | str s => exact p.elim
    | kl s => exact p.elim
/-- range(n), range(a, b) -/
def rngL (lo : Int) (n : Nat) : List MV := (List.range n).map fun i => MV.int (lo + (i : Nat))
theorem walkM_rng {lo : Int} {n : Nat} : WalkM K β H ⟨rngL lo n, fun _ => True⟩ (Itr lo n) := by
  refine ⟨fun _ => True, YFn fun i => .int (lo + i), ?_, fun _ _ _ _ _ _ => trivial, fun i H1 x H2 β1 m1 d e M1 _ hi y => ?_⟩
  · show Walk _ (rngL lo n).length _ _
    rw [show (rngL lo n).length = n by simp [rngL]]; exact walk_range
  · obtain ⟨rfl, rfl⟩ := y
    unfold rngL at hi
    rw [List.getElem?_map] at hi
    cases q : (List.range n)[i]? with
    | none => rw [q] at hi; cases hi
    | some j =>
      rw [q] at hi
      obtain ⟨hj, e2⟩ := List.getElem?_eq_some_iff.mp q
      simp at e2
      subst e2
      cases hi
      exact ⟨Ext.refl, M1, .int _⟩
def rngOf : List MV → Mem → Re IterM
  | [.int j], m => if -(2 ^ 62) ≤ j ∧ j < 2 ^ 62 then .ok ⟨rngL 0 j.toNat, fun _ => True⟩ m else .stuck
  | _, _ => .stuck
def rngOf2 : List MV → Mem → Re IterM
  | [.int i, .int j], m => if -(2 ^ 62) ≤ i ∧ i < 2 ^ 62 ∧ -(2 ^ 62) ≤ j ∧ j < 2 ^ 62 then .ok ⟨rngL i (j - i).toNat, fun _ => True⟩ m else .stuck
  | _, _ => .stuck
def mRng (g : MA) : MI' := fun ρ m => (g ρ m).bind rngOf
def mRng2 (g : MA) : MI' := fun ρ m => (g ρ m).bind rngOf2
/-- a reading of what is walked, from there on -/
def PostI (X : Cx) (W : WX) (r : Re IterM) (β : List Addr) (H : Hp) (σ : L2.St) (R : It → Hp → Prop) : Prop :=
  match r with
  | .ok it m' => ∀ H' β' J, Ext β H β' H' → RM X.K β' H' m' → WalkM X.K β' H' it J → R J H'
  | .ex x m' => ∀ cls dd H' β', Ext β H β' H' → RM X.K β' H' m' → XR X.K x cls dd → W cls dd σ H'
  | .stuck => False
theorem ji_rng1 {tg a : Expr} {g : MA} {p : Pos} (hm : X.mg "range" = none) (ha : JA X W [a] g) (hg : Gl X "range" := by rfl) (hs : starEach [a] X.env = [(false, eval a X.env)] := by rfl) : JI X W tg (.Call (.Name "range" p) [a] [] pos) (mRng g) := by
  refine ⟨pi_imp (pi_range1 hg hm ha.run hs) fun σ H R ⟨ρ, m, β, hE, hM, p⟩ => ⟨ρ, m, β, hE, hM, ?_⟩⟩
  have p : PostI X W ((g ρ m).bind rngOf) β H σ R := p
  cases hf : g ρ m with
  | stuck => rw [hf] at p; exact p.elim
  | ex x m1 => rw [hf] at p; exact p
  | ok ds m1 =>
    rw [hf] at p
    intro vs H1 β1 e1 M1 V1
    have p : PostI X W (rngOf ds m1) β H σ R := p
    unfold rngOf at p
    split at p
    · split at p
      · rename_i hj
        cases V1 with
        | cons h r =>
          cases h; cases r
          exact ⟨_, rfl, hj.1, hj.2, p _ _ _ e1 M1 walkM_rng⟩
      · exact p.elim
    · exact p.elim
theorem ji_rng2 {tg a b : Expr} {g : MA} {p : Pos} (hm : X.mg "range" = none) (ha : JA X W [a, b] g) (hg : Gl X "range" := by rfl) (hs : starEach [a, b] X.env = [(false, eval a X.env), (false, eval b X.env)] := by rfl) (hs2 : starEach [b] X.env = [(false, eval b X.env)] := by rfl) : JI X W tg (.Call (.Name "range" p) [a, b] [] pos) (mRng2 g) := by
  refine ⟨pi_imp (pi_range2 hg hm ha.run hs hs2) fun σ H R ⟨ρ, m, β, hE, hM, p⟩ => ⟨ρ, m, β, hE, hM, ?_⟩⟩
  have p : PostI X W ((g ρ m).bind rngOf2) β H σ R := p
  cases hf : g ρ m with
  | stuck => rw [hf] at p; exact p.elim
  | ex x m1 => rw [hf] at p; exact p
  | ok ds m1 =>
    rw [hf] at p
    intro vs H1 β1 e1 M1 V1
    have p : PostI X W (rngOf2 ds m1) β H σ R := p
    unfold rngOf2 at p
    split at p
    · split at p
      · rename_i hj
        cases V1 with
        | cons h r =>
          cases r with
          | cons h2 r =>
            cases h; cases h2; cases r
            exact ⟨_, _, rfl, hj, p _ _ _ e1 M1 walkM_rng⟩
      · exact p.elim
    · exact p.elim
/-! ### for -/
open Classical in
noncomputable def loopM (chk : Mem → Prop) (g : MG) (body : MS) : List MV → Env → Mem → Re Fl
  | [], ρ, m => if chk m then .ok (.nx ρ) m else .stuck
  | d :: r, ρ, m => if chk m then (match g d ρ m with
    | .ok ρ1 m1 => match body ρ1 m1 with
      | .ok (.nx ρ2) m2 => loopM chk g body r ρ2 m2
      | .ok (.ct ρ2) m2 => loopM chk g body r ρ2 m2
      | .ok (.bk ρ2) m2 => .ok (.nx ρ2) m2
      | q => q
    | _ => .stuck) else .stuck
noncomputable def mFor (h : MI') (g : MG) (body : MS) : MS := fun ρ m => onE ρ (h ρ m) fun it m1 => loopM it.chk g body it.items ρ m1
theorem js_for {tg iter : Expr} {body : List Stmt} {h : MI'} {g : MG} {f : MS} (hp : PassesOwn (model X.prog X.w) X.A X.env X.xe) (hc : X.calm = true) (hi : JI X W tg iter h) (hg : JG X tg g) (hb : JB X W body f)
    (hs : ∀ x, foldedSetIterable iter X.env x = pure x := by intro _; rfl) : JS X W (.For tg iter body [] pos) (mFor h g f) := by
  refine ⟨ps_imp (ps_for hp hc hi.run hg.run hb.run hs) fun D σ H q => ?_⟩
  obtain ⟨ρ, m, β, hE, hM, p⟩ := tS_of q
  refine ⟨ρ, m, β, hE, hM, ?_⟩
  unfold mFor at p
  cases hh : h ρ m with
  | stuck => rw [hh] at p; exact p.elim
  | ex x m1 => rw [hh] at p; exact fun c d H' β' e M z => p c d σ H' β' e M (hE.ext hM e) z
  | ok it m1 =>
    rw [hh] at p
    intro H1 β1 J e1 M1 w1
    obtain ⟨G, Y, wk, hG, hY⟩ := w1.ex
    have p1 : PostS X W (loopM it.chk g f it.items ρ m1) β1 H1 D := PostS.later (r := loopM it.chk g f it.items ρ m1) p e1
    refine for_it wk (fun i σ2 H2 => ∃ ρ2 m2 β2, Ext β1 H1 β2 H2 ∧ RE X.K β2 H2 ρ2 σ2 ∧ RM X.K β2 H2 m2 ∧ PostS X W (loopM it.chk g f (it.items.drop i) ρ2 m2) β2 H2 D) ⟨ρ, m1, β1, Ext.refl, hE.ext hM e1, M1, by rw [List.drop_zero]; exact p1⟩
      (fun i σ2 H2 hi ⟨ρ2, m2, β2, e2, E2, M2, p2⟩ => ?_) (fun i x σ2 H2 H3 hi ⟨ρ2, m2, β2, e2, E2, M2, p2⟩ y => ?_) (fun σ2 H2 ⟨ρ2, m2, β2, e2, E2, M2, p2⟩ => ?_)
    · refine hG β2 H2 m2 e2 M2 (Classical.byContradiction fun nc => ?_)
      cases hd : it.items.drop i with
      | nil => rw [hd] at p2; unfold loopM at p2; rw [if_neg nc] at p2; exact p2
      | cons d r => rw [hd] at p2; unfold loopM at p2; rw [if_neg nc] at p2; exact p2
    · have hdr : it.items.drop i = it.items[i] :: it.items.drop (i + 1) := List.drop_eq_getElem_cons hi
      rw [hdr] at p2
      unfold loopM at p2
      by_cases hk : it.chk m2
      · rw [if_pos hk] at p2
        obtain ⟨e3, M3, V3⟩ := hY i H2 x H3 β2 m2 it.items[i] e2 M2 hk (by simp [hi]) y
        refine ⟨it.items[i], ρ2, m2, β2, V3, E2.ext M2 e3, M3, ?_⟩
        cases hgd : g it.items[i] ρ2 m2 with
        | stuck => rw [hgd] at p2; exact p2.elim
        | ex x m => rw [hgd] at p2; exact p2.elim
        | ok ρ3 m3 =>
          rw [hgd] at p2
          intro σ4 H4 β4 e4 M4 E4
          refine ⟨ρ3, m3, β4, E4, M4, ?_⟩
          have p3 : PostS X W (match f ρ3 m3 with
            | .ok (.nx ρ2) m2 => loopM it.chk g f (it.items.drop (i + 1)) ρ2 m2
            | .ok (.ct ρ2) m2 => loopM it.chk g f (it.items.drop (i + 1)) ρ2 m2
            | .ok (.bk ρ2) m2 => .ok (.nx ρ2) m2
            | q => q) β4 H4 D := PostS.later p2 (e3.trans e4)
          have e24 : Ext β1 H1 β4 H4 := (e2.trans e3).trans e4
          cases hf : f ρ3 m3 with
          | stuck => rw [hf] at p3; exact p3
          | ex x m => rw [hf] at p3; exact p3
          | ok a m5 =>
            rw [hf] at p3
            cases a with
            | nx ρ5 => exact fun σ5 H5 β5 e5 M5 E5 => ⟨ρ5, m5, β5, e24.trans e5, E5, M5, PostS.later (r := loopM it.chk g f (it.items.drop (i + 1)) ρ5 m5) p3 e5⟩
            | ct ρ5 => exact fun σ5 H5 β5 e5 M5 E5 => ⟨ρ5, m5, β5, e24.trans e5, E5, M5, PostS.later (r := loopM it.chk g f (it.items.drop (i + 1)) ρ5 m5) p3 e5⟩
            | bk ρ5 => exact p3
            | rt d => exact p3
            | ex x ρ5 => exact p3
      · rw [if_neg hk] at p2; exact p2.elim
    · rw [List.drop_length] at p2
      unfold loopM at p2
      by_cases hk : it.chk m2
      · rw [if_pos hk] at p2; exact p2 σ2 H2 β2 Ext.refl M2 E2
      · rw [if_neg hk] at p2; exact p2.elim
/-! ### while -/
def whileM (c : MT) (f : MS) : Nat → Env → Mem → Re Fl
  | 0, _, _ => .stuck
  | n + 1, ρ, m => onE ρ (c ρ m) fun b m1 => if b = true then (match f ρ m1 with
    | .ok (.nx ρ2) m2 => whileM c f n ρ2 m2
    | .ok (.ct ρ2) m2 => whileM c f n ρ2 m2
    | .ok (.bk ρ2) m2 => .ok (.nx ρ2) m2
    | q => q) else .ok (.nx ρ) m1
theorem js_while {c : Expr} {body : List Stmt} {fc : MT} {f : MS} (n : Nat) (hp : PassesOwn (model X.prog X.w) X.A X.env X.xe) (hc : JT X W c fc) (hb : JB X W body f) : JS X W (.While c body [] pos) (fun ρ m => whileM fc f n ρ m) := by
  refine ⟨ps_imp (ps_while hp hc.run hb.run) fun D σ H q => ?_⟩
  obtain ⟨ρ, m, β, hE, hM, p⟩ := tS_of q
  refine ⟨fun k σ H => ∃ ρ m β, RE X.K β H ρ σ ∧ RM X.K β H m ∧ PostS X W (whileM fc f k ρ m) β H D, ⟨n, ρ, m, β, hE, hM, p⟩, ?_⟩
  rintro k σ1 H1 ⟨ρ1, m1, β1, E1, M1, p1⟩
  cases k with
  | zero => exact p1.elim
  | succ k =>
    unfold whileM at p1
    refine ⟨ρ1, m1, β1, E1, M1, PostS.on (D := D) (R := fun _ _ d v => d = v) E1 M1 p1 fun b m2 v H2 β2 _ e2 M2 V2 p2 => ?_⟩
    subst V2
    cases b with
    | false => exact p2 σ1 H2 β2 Ext.refl M2 (E1.ext M1 e2)
    | true =>
      rw [if_pos rfl] at p2 ⊢
      refine ⟨fun σ' H' => ∃ ρ m β, RE X.K β H' ρ σ' ∧ RM X.K β H' m ∧ PostS X W (whileM fc f k ρ m) β H' D, fun σ' H' w => ⟨k, Nat.lt_succ_self k, w⟩, ρ1, m2, β2, E1.ext M1 e2, M2, ?_⟩
      cases hf : f ρ1 m2 with
      | stuck => rw [hf] at p2; exact p2
      | ex x m => rw [hf] at p2; exact p2
      | ok a m5 =>
        rw [hf] at p2
        cases a with
        | nx ρ5 => exact fun σ5 H5 β5 e5 M5 E5 => ⟨ρ5, m5, β5, E5, M5, PostS.later (r := whileM fc f k ρ5 m5) p2 e5⟩
        | ct ρ5 => exact fun σ5 H5 β5 e5 M5 E5 => ⟨ρ5, m5, β5, E5, M5, PostS.later (r := whileM fc f k ρ5 m5) p2 e5⟩
        | bk ρ5 => exact p2
        | rt d => exact p2
        | ex x ρ5 => exact p2
end
end MI
namespace MI
open PySem L2
section
variable {X : Cx} {W : WX} {pos : Pos} {K : PySem.W.Frag} {β : List Addr} {H : Hp} {m : Mem}
/-! ### a comprehension's target: names alone -/
abbrev NG := MV → Mem → Option (List (Nat × MV))
def setE (ρ : Env) : List (Nat × MV) → Env
  | [] => ρ
  | (i, d) :: r => setE (ρ.set i (some d)) r
def setS (σ : L2.St) : List (Nat × V) → L2.St
  | [] => σ
  | (i, v) :: r => setS (σ.set i (some v)) r
inductive RAs (K : PySem.W.Frag) (β : List Addr) (H : Hp) : List (Nat × MV) → List (Nat × V) → Prop
  | nil : RAs K β H [] []
  | cons {i : Nat} {d : MV} {v : V} {ds : List (Nat × MV)} {vs : List (Nat × V)} : RV K β H d v → RAs K β H ds vs → RAs K β H ((i, d) :: ds) ((i, v) :: vs)
theorem RE.setAs : ∀ {ds : List (Nat × MV)} {vs : List (Nat × V)}, RAs K β H ds vs → ∀ {ρ : Env} {σ : L2.St}, RE K β H ρ σ → RE K β H (setE ρ ds) (setS σ vs)
  | _, _, .nil, _, _, h => h
  | _, _, .cons v r, _, _, h => RE.setAs r (h.set v)
theorem RAs.app : ∀ {ds es : List (Nat × MV)} {vs us : List (Nat × V)}, RAs K β H ds vs → RAs K β H es us → RAs K β H (ds ++ es) (vs ++ us)
  | _, _, _, _, .nil, q => q
  | _, _, _, _, .cons h r, q => .cons h (RAs.app r q)
theorem RAs.fst : ∀ {ds : List (Nat × MV)} {vs : List (Nat × V)}, RAs K β H ds vs → ds.map (·.1) = vs.map (·.1)
  | _, _, .nil => rfl
  | _, _, .cons _ r => by simp [RAs.fst r]
theorem RAs.ext (R : RM K β H m) {β' : List Addr} {H' : Hp} (e : Ext β H β' H') : ∀ {ds : List (Nat × MV)} {vs : List (Nat × V)}, RAs K β H ds vs → RAs K β' H' ds vs
  | _, _, .nil => .nil
  | _, _, .cons h r => .cons (h.ext R e) (RAs.ext R e r)
/-- what the target does, at the slots themselves -/
def tNG (X : Cx) (g : NG) : TG := fun v σ H Q => ∃ d m β, RV X.K β H d v ∧ RM X.K β H m ∧ ∃ as, g d m = some as ∧ ∀ vs, RAs X.K β H as vs → Q (setS σ vs) H
structure JNG (X : Cx) (tg : Expr) (g : NG) : Prop where
  run : PG X tg (tNG X g)
def ngName (i : Nat) : NG := fun d _ => some [(i, d)]
theorem jn_name (i : Nat) {x : Str} (hN : X.N.Nodup) (hi : X.N[i]? = some x := by rfl) (hx : Loc X.env.scope x := by first | exact Or.inl rfl | exact Or.inr rfl) (hf : X.fn x = true ∨ X.env.scope.names.lookup x = some .local := by first | exact .inl rfl | exact .inr rfl | assumption) : JNG X (.Name x pos) (ngName i) :=
  ⟨pg_imp (pg_name hN hi hx hf) fun v σ H Q ⟨d, m, β, V, hM, as, h, p⟩ => by
    unfold ngName at h
    cases h
    exact p [(i, v)] (.cons V .nil)⟩
/-- several: each a name -/
abbrev NGs := List MV → Mem → Option (List (Nat × MV))
def tNGs (X : Cx) (g : NGs) : TGs := fun us σ H Q => ∃ ds m β, RVs X.K β H ds us ∧ RM X.K β H m ∧ ∃ as, g ds m = some as ∧ ∀ vs, RAs X.K β H as vs → Q (setS σ vs) H
structure JNGs (X : Cx) (tg : List Expr) (g : NGs) : Prop where
  run : PGs X tg (tNGs X g)
def ngNil : NGs := fun ds _ => match ds with
  | [] => some []
  | _ => none
def ngCons (g : NG) (k : NGs) : NGs := fun ds m => match ds with
  | d :: r => match g d m, k r m with
    | some a, some b => some (a ++ b)
    | _, _ => none
  | _ => none
theorem setS_app {σ : L2.St} : ∀ {a b : List (Nat × V)}, setS σ (a ++ b) = setS (setS σ a) b := by
  intro a
  induction a generalizing σ with
  | nil => intro b; rfl
  | cons p r ih => intro b; obtain ⟨i, v⟩ := p; exact ih
theorem jn_nil : JNGs X [] ngNil := ⟨pgs_imp pgs_nil fun v σ H Q ⟨ds, m, β, V, hM, as, h, p⟩ => by
  cases V with
  | nil => cases h; exact ⟨rfl, p [] .nil⟩
  | cons _ _ => cases h⟩
theorem jn_cons {e : Expr} {es : List Expr} {g : NG} {k : NGs} (h1 : JNG X e g) (h2 : JNGs X es k) (hs : (assignEach (e :: es) X.env).map (·.2) = assign e X.env :: (assignEach es X.env).map (·.2) := by rfl) : JNGs X (e :: es) (ngCons g k) :=
  ⟨pgs_imp (pgs_cons h1.run h2.run hs) fun us σ H Q ⟨ds, m, β, V, hM, as, h, p⟩ => by
    cases V with
    | nil => cases h
    | @cons d v ds vs q r =>
      unfold ngCons at h
      have h : (match g d m, k ds m with | some a, some b => some (a ++ b) | _, _ => none) = some as := h
      split at h
      · rename_i a b e1 e2
        cases h
        exact ⟨v, vs, rfl, d, m, β, q, hM, a, e1, fun ws hw => ⟨ds, m, β, r, hM, b, e2, fun zs hz => by rw [← setS_app]; exact p _ (hw.app hz)⟩⟩
      · cases h⟩
def ngTup (n : Nat) (k : NGs) : NG := fun d m => match seqOf m d with
  | some l => if l.length = n then k l m else none
  | none => none
theorem jn_tup {es : List Expr} {k : Nat} {g : NGs} {n : Nat} (hc : X.calm = true) (h : JNGs X es g) (hn : (assignEach es X.env).length = n := by rfl) (hst : (assignEach es X.env).findIdx? (·.1) = none := by rfl) : JNG X (.Tuple es k pos) (ngTup n g) :=
  ⟨pg_imp (pg_or (pg_tup hc h.run hn hst) (pg_unl hc h.run hn hst)) fun v σ H Q ⟨d, m, β, V, hM, as, h, p⟩ => by
    unfold ngTup at h
    cases e : seqOf m d with
    | none => rw [e] at h; cases h
    | some l =>
      rw [e] at h
      obtain ⟨a, vs, rfl, hs, hr⟩ := hM.seq V e
      by_cases q : l.length = n
      · simp only [q, if_true] at h
        rcases hs with hs | hs
        · exact .inr ⟨a, vs, rfl, hs, by rw [← hr.length]; exact q, l, m, β, hr, hM, as, h, p⟩
        · exact .inl ⟨a, vs, rfl, hs, by rw [← hr.length]; exact q, l, m, β, hr, hM, as, h, p⟩
      · simp only [q, if_false] at h; cases h⟩
/-! ### list comprehensions -/
def wipeM (ρ : Env) : List Nat → Env
  | [] => ρ
  | v :: vs => (wipeM ρ vs).set v none
theorem RE.wipe {ρ : Env} {σ : L2.St} (h : RE K β H ρ σ) : ∀ vs : List Nat, RE K β H (wipeM ρ vs) (L2.wipe σ vs)
  | [] => h
  | v :: vs => by
    have ih := RE.wipe h vs
    refine ⟨by show ((wipeM ρ vs).set v none).length = ((L2.wipe σ vs).set v none).length; simp [ih.len], fun i d e => ?_⟩
    have e : ((wipeM ρ vs).set v none)[i]? = some (some d) := e
    show ∃ u, ((L2.wipe σ vs).set v none)[i]? = some (some u) ∧ _
    by_cases q : v = i
    · subst q
      rw [List.getElem?_set_self'] at e
      cases z : (wipeM ρ vs)[v]? with
      | none => rw [z] at e; cases e
      | some w => rw [z] at e; cases e
    · rw [List.getElem?_set_ne q] at e ⊢
      exact ih.at_ i d e
theorem wipe_set {σ : L2.St} {i : Nat} {o : Option V} : ∀ {vs : List Nat}, i ∈ vs → L2.wipe (σ.set i o) vs = L2.wipe σ vs := by
  intro vs
  induction vs with
  | nil => intro h; cases h
  | cons v vs ih =>
    intro h
    show (L2.wipe (σ.set i o) vs).set v none = (L2.wipe σ vs).set v none
    by_cases q : i ∈ vs
    · rw [ih q]
    · have hv : i = v := by
        rcases List.mem_cons.mp h with z | z
        · exact z
        · exact absurd z q
      subst hv
      have comm : ∀ (ws : List Nat), i ∉ ws → L2.wipe (σ.set i o) ws = (L2.wipe σ ws).set i o := by
        intro ws
        induction ws with
        | nil => intro _; rfl
        | cons w ws ih2 =>
          intro hn
          show (L2.wipe (σ.set i o) ws).set w none = ((L2.wipe σ ws).set w none).set i o
          rw [ih2 (fun z => hn (List.mem_cons_of_mem _ z)), List.set_comm]
          intro z
          exact hn (by rw [z]; exact List.mem_cons_self)
      rw [comm vs q, List.set_set]
theorem wipe_setS {vs : List Nat} : ∀ {as : List (Nat × V)} {σ : L2.St}, (∀ p ∈ as, p.1 ∈ vs) → L2.wipe (setS σ as) vs = L2.wipe σ vs
  | [], _, _ => rfl
  | (i, v) :: r, σ, h => by
    show L2.wipe (setS (σ.set i (some v)) r) vs = _
    rw [wipe_setS (as := r) fun p hp => h p (List.mem_cons_of_mem _ hp)]
    exact wipe_set (h (i, v) List.mem_cons_self)
theorem wipe_wipe {σ : L2.St} {vs : List Nat} : L2.wipe (L2.wipe σ vs) vs = L2.wipe σ vs := by
  have gen : ∀ (ws us : List Nat) (σ : L2.St), (∀ w ∈ ws, w ∈ us) → L2.wipe (L2.wipe σ ws) us = L2.wipe σ us := by
    intro ws
    induction ws with
    | nil => intro us σ _; rfl
    | cons w ws ih =>
      intro us σ h
      show L2.wipe ((L2.wipe σ ws).set w none) us = _
      rw [wipe_set (h w List.mem_cons_self)]
      exact ih us σ fun z hz => h z (List.mem_cons_of_mem _ hz)
  exact gen vs vs σ fun _ h => h
open Classical in
noncomputable def lcM (chk : Mem → Prop) (g : NG) (t : MT) (e : ME) (ρ : Env) : List MV → List MV → Mem → Re (List MV)
  | [], acc, m => if chk m then .ok acc m else .stuck
  | d :: r, acc, m => if chk m then (match g d m with
    | some as => match t (setE ρ as) m with
      | .ok true m2 => match e (setE ρ as) m2 with
        | .ok y m3 => if acc.length < sizeLine then lcM chk g t e ρ r (acc ++ [y]) m3 else .stuck
        | _ => .stuck
      | .ok false m2 => lcM chk g t e ρ r acc m2
      | _ => .stuck
    | none => .stuck) else .stuck
noncomputable def mLc (h : MI') (g : NG) (t : MT) (e : ME) (vs : List Nat) : ME := fun ρ m => (h ρ m).bind fun it m1 => (lcM it.chk g t e (wipeM ρ vs) it.items [] m1).bind fun l m2 => alloc (.lst l) m2
end
end MI
namespace MI
open PySem L2
section
variable {X : Cx} {W : WX} {pos : Pos} {K : PySem.W.Frag} {β : List Addr} {H : Hp} {m : Mem}
structure JTs (X : Cx) (W : WX) (es : List Expr) (f : MT) : Prop where
  run : PTs X es (tT X W f)
theorem pts_imp {e : List Expr} {t t' : TT} (h : PTs X e t) (i : ∀ σ H Q, t' σ H Q → t σ H Q) : PTs X e t' := ⟨fun pins s σ H Q I q => h.run pins s σ H Q I (i σ H Q q)⟩
def mYes : MT := fun _ m => .ok true m
theorem jts_nil : JTs X W [] mYes := ⟨pts_imp pts_nil fun σ H Q ⟨ρ, m, β, hE, hM, p⟩ => p.ok hM rfl⟩
theorem jts_one {c : Expr} {f : MT} (h : JT X W c f) : JTs X W [c] f := ⟨pts_one h.run⟩
/-- nothing is raised -/
abbrev W0 : WX := fun _ _ _ _ => False
abbrev blk (X : Cx) (scope : Scope) (s : Shared) (H : Hp) (C : Addr) (cl : List (Str × Addr)) (fp : List Addr) : Cx := X.blk s H scope (PySem.compEnvC scope cl C X.env) fp
theorem Post.of_ok {α γ : Type} {a : α} {m : Mem} {β : List Addr} {H : Hp} {σ : L2.St} {R : List Addr → Hp → α → γ → Prop} {Q : γ → Hp → Prop} (h : ∀ v H' β', Ext β H β' H' → RM X.K β' H' m → R β' H' a v → Q v H') : Post X W (.ok a m) β H σ R Q := h
mutual
theorem RV.grow {β β' : List Addr} {H H' : Hp} (hb : ∀ (n : Nat) a, β[n]? = some a → β'[n]? = some a) (ht : ∀ a xs, SqT K H a xs → SqT K H' a xs) (hk : ∀ a xs, KL K β H a xs → KL K β' H' a xs) : ∀ {d : MV} {v : V}, RV K β H d v → RV K β' H' d v
  | _, _, .non => .non
  | _, _, .bl b => .bl b
  | _, _, .int i => .int i
  | _, _, .str x => .str x
  | _, _, .tup h r => .tup (ht _ _ h) (RVs.grow hb ht hk r)
  | _, _, .ref h => .ref (hb _ _ h)
  | _, _, .kl h r => .kl (hk _ _ h) (RVs.grow hb ht hk r)
theorem RVs.grow {β β' : List Addr} {H H' : Hp} (hb : ∀ (n : Nat) a, β[n]? = some a → β'[n]? = some a) (ht : ∀ a xs, SqT K H a xs → SqT K H' a xs) (hk : ∀ a xs, KL K β H a xs → KL K β' H' a xs) : ∀ {d : List MV} {v : List V}, RVs K β H d v → RVs K β' H' d v
  | _, _, .nil => .nil
  | _, _, .cons h r => .cons (RV.grow hb ht hk h) (RVs.grow hb ht hk r)
end
theorem RKs.grow {β β' : List Addr} {H H' : Hp} (hb : ∀ (n : Nat) a, β[n]? = some a → β'[n]? = some a) (ht : ∀ a xs, SqT K H a xs → SqT K H' a xs) (hk : ∀ a xs, KL K β H a xs → KL K β' H' a xs) : ∀ {d : List (Key × MV)} {v : List (Key × V)}, RKs K β H d v → RKs K β' H' d v
  | _, _, .nil => .nil
  | _, _, .cons h r => .cons (RV.grow hb ht hk h) (RKs.grow hb ht hk r)
theorem RO.grow {β β' : List Addr} {H H' : Hp} (hb : ∀ (n : Nat) a, β[n]? = some a → β'[n]? = some a) (ht : ∀ a xs, SqT K H a xs → SqT K H' a xs) (hk : ∀ a xs, KL K β H a xs → KL K β' H' a xs) {o : MO} {a : Addr} (ha : H' a = H a) (r : RO K β H o a) : RO K β' H' o a := by
  cases o with
  | lst l => obtain ⟨vs, h, q⟩ := r; exact ⟨vs, by rw [ha]; exact h, q.grow hb ht hk⟩
  | frz l => obtain ⟨vs, ob, h, q⟩ := r; exact ⟨vs, ob, by rw [ha]; exact h, q.grow hb ht hk⟩
  | dct l => obtain ⟨vs, h, q⟩ := r; exact ⟨vs, by rw [ha]; exact h, q.grow hb ht hk⟩
  | exn x => obtain ⟨C, h1, h2⟩ := r; exact ⟨C, h1, by rw [ha]; exact h2⟩
/-- a list that the small world does not number is written -/
theorem sqt_off {H : Hp} {D a : Addr} {l l' xs : List V} (hD : H D = some (.lst l)) (h : SqT K H a xs) : SqT K (upd H D (.lst l')) a xs := by
  rcases h with (h | ⟨o, h⟩) | h
  · exact .inl (.inl (by rw [upd_ne (ne_of h hD (by intro z; cases z))]; exact h))
  · exact .inl (.inr ⟨o, by rw [upd_ne (ne_of h hD (by intro z; cases z))]; exact h⟩)
  · exact .inr h
theorem kl_off {H : Hp} {D a : Addr} {l l' xs : List V} {β : List Addr} (hD : H D = some (.lst l)) (h : KL K β H a xs) : KL K β (upd H D (.lst l')) a xs := by
  rcases h with ⟨n, o, h⟩ | h
  · exact .inl ⟨n, o, by rw [upd_ne (ne_of h hD (by intro z; cases z))]; exact h⟩
  · exact .inr h
theorem kl_adopt {H : Hp} {D a : Addr} {l xs : List V} {β : List Addr} (hD : H D = some (.lst l)) (h : KL K β H a xs) : KL K (β ++ [D]) H a xs := by
  rcases h with ⟨n, o, h⟩ | h
  · refine .inl ⟨fun z => ?_, o, h⟩
    rcases List.mem_append.mp z with z | z
    · exact n z
    · simp at z
      subst z
      rw [hD] at h
      cases h
  · exact .inr h
theorem RM.off {β : List Addr} {H : Hp} {m : Mem} (R : RM K β H m) {D : Addr} {l l' : List V} (n : D ∉ β) (hD : H D = some (.lst l)) : RM K β (upd H D (.lst l')) m :=
  ⟨R.len, R.nd, fun i o a h1 h2 => (R.ob i o a h1 h2).grow (fun _ _ h => h) (fun _ _ h => sqt_off hD h) (fun _ _ h => kl_off hD h) (upd_ne fun z => n (z ▸ List.mem_of_getElem? h2))⟩
/-- .. and gets a number -/
theorem RM.adopt {β : List Addr} {H : Hp} {m : Mem} (R : RM K β H m) {D : Addr} {l : List V} {ds : List MV} (n : D ∉ β) (hD : H D = some (.lst l)) (r : RVs K β H ds l) : RM K (β ++ [D]) H (m ++ [.lst ds]) := by
  have hb : ∀ (n : Nat) a, β[n]? = some a → (β ++ [D])[n]? = some a := fun n a h => by rw [List.getElem?_append_left (List.getElem?_eq_some_iff.mp h).1]; exact h
  refine ⟨by simp [R.len], ?_, fun i ob a h1 h2 => ?_⟩
  · rw [List.nodup_append]
    refine ⟨R.nd, by simp, fun a ha b hb => ?_⟩
    simp at hb
    subst hb
    intro z
    subst z
    exact n ha
  · by_cases hn : i < m.length
    · rw [List.getElem?_append_left hn] at h1
      rw [List.getElem?_append_left (by rw [R.len]; exact hn)] at h2
      exact (R.ob i ob a h1 h2).grow hb (fun _ _ h => h) (fun _ _ h => kl_adopt hD h) rfl
    · rw [List.getElem?_append_right (by omega)] at h1
      rw [List.getElem?_append_right (by rw [R.len]; omega), R.len] at h2
      cases hk : i - m.length with
      | zero =>
        rw [hk] at h1 h2
        simp at h1 h2
        subst h1; subst h2
        exact ⟨l, hD, r.grow hb (fun _ _ h => h) fun _ _ h => kl_adopt hD h⟩
      | succ k => rw [hk] at h1; simp at h1
theorem Ext.later {β β' : List Addr} {H H' : Hp} (e : Ext β H β' H') {D : Addr} {o : HO} (h : H D = none) : Ext β H β' (upd H' D o) :=
  ⟨e.pre, fun a u q n => by rw [upd_ne (ne_of_none q h)]; exact e.old a u q n, e.new⟩
theorem Ext.adopt {β β' : List Addr} {H H' : Hp} (e : Ext β H β' H') {D : Addr} (h : H D = none) : Ext β H (β' ++ [D]) H' :=
  ⟨by obtain ⟨r, rfl⟩ := e.pre; exact ⟨r ++ [D], by simp⟩, e.old, fun a q => by
    rcases List.mem_append.mp q with q | q
    · exact e.new a q
    · simp at q; subst q; exact .inr h⟩
theorem lc_imp {h : MI'} {g : NG} {t : MT} {e : ME} (own : List (Str × Nat)) (hgs : ∀ d m as, g d m = some as → ∀ p ∈ as, p.1 ∈ own.map (·.2)) {σ : L2.St} {H : Hp} {Q : VK} (q : tE X W (mLc h g t e (own.map (·.2))) σ H Q) :
    tLc (tI X W h) (tNG X g) (tT X W0 t) (tE X W0 e) (own.map (·.2)) σ H Q := by
  obtain ⟨ρ, m, β, hE, hM, p⟩ := q
  refine ⟨ρ, m, β, hE, hM, ?_⟩
  have p : Post X W ((h ρ m).bind fun it m1 => (lcM it.chk g t e (wipeM ρ (own.map (·.2))) it.items [] m1).bind fun l m2 => alloc (.lst l) m2) β H σ (fun β' H' d v => RV X.K β' H' d v) Q := p
  cases hh : h ρ m with
  | stuck => rw [hh] at p; exact p.elim
  | ex x m1 => rw [hh] at p; exact p
  | ok it m1 =>
    rw [hh] at p
    intro H1 β1 J e1 M1 w1 D hD
    have p1 : Post X W ((lcM it.chk g t e (wipeM ρ (own.map (·.2))) it.items [] m1).bind fun l m2 => alloc (.lst l) m2) β1 H1 σ (fun β' H' d v => RV X.K β' H' d v) Q := Post.later p e1
    obtain ⟨G, Y, wk, hG, hY⟩ := w1.ex
    have hE1 := hE.ext hM e1
    have old : ∀ {β2 : List Addr} {H2 : Hp}, Ext β1 H1 β2 H2 → D ∉ β2 → True := fun _ _ => trivial
    -- what holds at turn i
    let Pv : Nat → Hp → Prop := fun i H2 => ∃ m2 β2 acc accV, Ext β1 H1 β2 H2 ∧ D ∉ β2 ∧ RM X.K β2 H2 m2 ∧ H2 D = some (.lst accV) ∧ RVs X.K β2 H2 acc accV ∧
      Post X W ((lcM it.chk g t e (wipeM ρ (own.map (·.2))) (it.items.drop i) acc m2).bind fun l m2 => alloc (.lst l) m2) β1 H1 σ (fun β' H' d v => RV X.K β' H' d v) Q
    have nD : D ∉ β1 := M1.fresh hD
    refine lc_it wk Pv ⟨m1, β1, [], [], Ext.tup hD, nD, M1.tup hD, upd_same, .nil, by rw [List.drop_zero]; exact p1⟩ (fun i H2 hi ⟨m2, β2, acc, accV, e2, n2, M2, h2, r2, p2⟩ => ?_) (fun i x H2 H3 hi ⟨m2, β2, acc, accV, e2, n2, M2, h2, r2, p2⟩ y => ?_) (fun H2 ⟨m2, β2, acc, accV, e2, n2, M2, h2, r2, p2⟩ => ?_)
    · refine hG β2 H2 m2 e2 M2 (Classical.byContradiction fun nc => ?_)
      cases hd : it.items.drop i with
      | nil => rw [hd] at p2; unfold lcM at p2; rw [if_neg nc] at p2; exact p2
      | cons d r => rw [hd] at p2; unfold lcM at p2; rw [if_neg nc] at p2; exact p2
    · have hdr : it.items.drop i = it.items[i] :: it.items.drop (i + 1) := List.drop_eq_getElem_cons hi
      rw [hdr] at p2
      unfold lcM at p2
      by_cases hk : it.chk m2
      · rw [if_pos hk] at p2
        obtain ⟨e3, M3, V3⟩ := hY i H2 x H3 β2 m2 it.items[i] e2 M2 hk (by simp [hi]) y
        have h3 : H3 D = some (.lst accV) := e3.old D _ h2 n2
        cases hgd : g it.items[i] m2 with
        | none => rw [hgd] at p2; exact p2.elim
        | some as =>
          rw [hgd] at p2
          dsimp only at p2
          refine ⟨it.items[i], m2, β2, V3, M3, as, hgd, fun ws hw => ⟨?_, ?_⟩⟩
          · rw [wipe_setS fun q hq => ?_, wipe_wipe]
            have hm : q.1 ∈ ws.map (·.1) := List.mem_map_of_mem hq
            rw [← hw.fst] at hm
            obtain ⟨q', hq', e'⟩ := List.mem_map.mp hm
            rw [← e']
            exact hgs _ _ _ hgd q' hq'
          · have hW : RE X.K β2 H3 (wipeM ρ (own.map (·.2))) (L2.wipe σ (own.map (·.2))) := ((hE1.ext M1 e2).ext M2 e3).wipe _
            have hW2 := RE.setAs (ρ := wipeM ρ (own.map (·.2))) (σ := L2.wipe σ (own.map (·.2))) hw hW
            refine ⟨_, m2, β2, hW2, M3, ?_⟩
            cases hT : t (setE (wipeM ρ (own.map (·.2))) as) m2 with
            | stuck => rw [hT] at p2; exact p2.elim
            | ex x m => rw [hT] at p2; exact p2.elim
            | ok b m4 =>
              rw [hT] at p2
              intro b' H4 β4 e4 M4 V4
              subst V4
              have h4 : H4 D = some (.lst accV) := e4.old D _ h3 n2
              have n4 : D ∉ β4 := fun z => by
                rcases e4.new D z with z | z
                · exact n2 z
                · rw [h3] at z; cases z
              cases b with
              | false =>
                exact ⟨m4, β4, acc, accV, (e2.trans e3).trans e4, n4, M4, h4, (r2.ext M2 e3).ext M3 e4, p2⟩
              | true =>
                rw [if_pos rfl]
                refine ⟨_, m4, β4, hW2.ext M3 e4, M4, ?_⟩
                cases hv : e (setE (wipeM ρ (own.map (·.2))) as) m4 with
                | stuck => simp only [hv] at p2; exact p2.elim
                | ex x m => simp only [hv] at p2; exact p2.elim
                | ok d m5 =>
                  simp only [hv] at p2
                  intro v H5 β5 e5 M5 V5
                  have h5 : H5 D = some (.lst accV) := e5.old D _ h4 n4
                  have n5 : D ∉ β5 := fun z => by
                    rcases e5.new D z with z | z
                    · exact n4 z
                    · rw [h4] at z; cases z
                  have r5 := ((r2.ext M2 e3).ext M3 e4).ext M4 e5
                  by_cases hl : acc.length < sizeLine
                  · rw [if_pos hl] at p2
                    -- D grows; it is no object of the small world
                    have e15 : Ext β1 H1 β5 H5 := ((e2.trans e3).trans e4).trans e5
                    exact ⟨accV, h5, by rw [← r5.length]; exact hl, m5, β5, acc ++ [d], accV ++ [v], e15.later hD, n5, M5.off n5 h5, upd_same, (r5.app (.cons V5 .nil)).grow (fun _ _ h => h) (fun _ _ h => sqt_off h5 h) (fun _ _ h => kl_off h5 h), p2⟩
                  · rw [if_neg hl] at p2; exact p2.elim
      · rw [if_neg hk] at p2; exact p2.elim
    · rw [List.drop_length] at p2
      unfold lcM at p2
      by_cases hk : it.chk m2
      · rw [if_pos hk] at p2
        exact p2 (.ref D) H2 (β2 ++ [D]) (e2.adopt hD) (M2.adopt n2 h2 r2) (.ref (by rw [← M2.len]; simp))
      · rw [if_neg hk] at p2; exact p2.elim
theorem je_lc {elt tg iter : Expr} {ifs : List Expr} {scope : Scope} {h : MI'} {g : NG} {t : MT} {e : ME} {vs : List Nat} (own : List (Str × Nat)) (hvs : own.map (·.2) = vs) (hc : X.calm = true) (hN : X.N.Nodup) (hi : JI X W tg iter h) (ok : BlkOk X.N X.env.scope scope own)
    (hg : ∀ s H C cl fp, JNG (blk X scope s H C cl fp) tg g) (ht : ∀ s H C cl fp, JTs (blk X scope s H C cl fp) W0 ifs t) (he : ∀ s H C cl fp, JE (blk X scope s H C cl fp) W0 elt e)
    (hgs : ∀ d m as, g d m = some as → ∀ p ∈ as, p.1 ∈ vs) (hs : ∀ x, foldedSetIterable iter X.env x = pure x := by intro _; rfl) :
    JE X W (.ListComp elt [⟨tg, iter, ifs, 0⟩] scope pos) (mLc h g t e vs) := by
  subst hvs
  exact ⟨pe_imp (pe_lc (g := tNG X g) (tt := tT X W0 t) (te := tE X W0 e) hc hN hi.run ok (fun s H C cl fp => (hg s H C cl fp).run) (fun s H C cl fp => (ht s H C cl fp).run) (fun s H C cl fp => (he s H C cl fp).run) hs) fun σ H Q q => lc_imp own hgs q⟩
/-- name = [..] -/
theorem js_setLc (i : Nat) {y : Str} {py spos : Pos} {elt tg iter : Expr} {ifs : List Expr} {scope : Scope} {h : MI'} {g : NG} {t : MT} {e : ME} {vs : List Nat} (own : List (Str × Nat)) (hvs : own.map (·.2) = vs) (hc : X.calm = true) (hN : X.N.Nodup) (hi : JI X W tg iter h) (ok : BlkOk X.N X.env.scope scope own)
    (hg : ∀ s H C cl fp, JNG (blk X scope s H C cl fp) tg g) (ht : ∀ s H C cl fp, JTs (blk X scope s H C cl fp) W0 ifs t) (he : ∀ s H C cl fp, JE (blk X scope s H C cl fp) W0 elt e)
    (hgs : ∀ d m as, g d m = some as → ∀ p ∈ as, p.1 ∈ vs) (hy : X.N[i]? = some y := by rfl) (hyl : X.env.scope.names.lookup y = some .local := by rfl) (hsw : swapsWith (.ListComp elt [⟨tg, iter, ifs, 0⟩] scope pos) (some (.Name y py)) spos.line X.env = pure true := by rfl) (hs : ∀ x, foldedSetIterable iter X.env x = pure x := by intro _; rfl) :
    JS X W (.Assign [.Name y py] (.ListComp elt [⟨tg, iter, ifs, 0⟩] scope pos) spos) (mAsg (mLc h g t e vs) (nName i)) := by
  subst hvs
  refine ⟨ps_imp (ps_setLc (g := tNG X g) (tt := tT X W0 t) (te := tE X W0 e) hc hN hy hyl hsw hi.run ok (fun s H C cl fp => (hg s H C cl fp).run) (fun s H C cl fp => (ht s H C cl fp).run) (fun s H C cl fp => (he s H C cl fp).run) hs) fun D σ H ⟨ρ, m, β, hE, hM, p⟩ => ?_⟩
  refine lc_imp own hgs (Q := fun x H1 => gName i x σ H1 D.nx) ⟨ρ, m, β, hE, hM, ?_⟩
  exact PostS.on (D := D) (R := fun β' H' d v => RV X.K β' H' d v) hE hM p fun d m1 v H1 β1 _ e M V q => q _ H1 β1 Ext.refl M ((hE.ext hM e).set V)
end
end MI
namespace MI
open PySem L2
section
variable {X : Cx} {W : WX} {pos : Pos} {K : PySem.W.Frag} {β : List Addr} {H : Hp} {m : Mem}
/-! ### built-in functions and types -/
def CrM (X : Cx) (r : List V → Hp → VK → Prop) (g : List MV → Mem → Re MV) : Prop := ∀ (W : WX) (σ : L2.St) (ds : List MV) (m : Mem) (β : List Addr) (H : Hp) (vs : List V) (Q : VK), RM X.K β H m → RVs X.K β H ds vs →
  Post X W (g ds m) β H σ (fun β' H' d v => RV X.K β' H' d v) Q → r vs H Q
theorem cr_or {f : Value} {r r' : List V → Hp → VK → Prop} (h : CallR X f r) (h' : CallR X f r') : CallR X f (fun xs H Q => r xs H Q ∨ r' xs H Q) := by
  intro pins s σ H vs us Q I rv q
  rcases q with q | q
  · exact h pins s σ H vs us Q I rv q
  · exact h' pins s σ H vs us Q I rv q
theorem je_callB {id : String} {r : List V → Hp → VK → Prop} {g : List MV → Mem → Re MV} {ga : MA} {x : Str} {p : Pos} {e : Expr} {es : List Expr} (hc : CallR X (.builtin id) r) (hm : CrM X r g) (mg : X.mg x = none) (hv : bootBuiltins x = some (.builtin id)) (ha : JA X W (e :: es) ga) (hg : Gl X x := by rfl)
    (hn : x ≠ "__name__" := by decide) (hdb : (x == ("__debug__" : Str)) = false := by decide) (he : starEach (e :: es) X.env = (false, eval e X.env) :: starEach es X.env := by rfl) (hpl : (backTo pos (starEach es X.env)).any (·.1) = false := by rfl) :
    JE X W (.Call (.Name x p) (e :: es) [] pos) (mCall g ga) :=
  ⟨pe_imp (pe_callB hc hg mg hv ha.run hn hdb he hpl) fun σ H Q ⟨ρ, m, β, hE, hM, p⟩ => ⟨ρ, m, β, hE, hM, p.bind fun ds m1 vs H1 β1 _ e1 M1 V1 p1 => hm W σ ds m1 β1 H1 vs Q M1 V1 p1⟩⟩
theorem je_callTy {T : String} {r : List V → Hp → VK → Prop} {g : List MV → Mem → Re MV} {ga : MA} {x : Str} {p : Pos} {e : Expr} {es : List Expr} (hc : CallR X (.type T) r) (hm : CrM X r g) (mg : X.mg x = none) (hv : bootBuiltins x = some (.type T)) (ha : JA X W (e :: es) ga) (hg : Gl X x := by rfl)
    (hn : x ≠ "__name__" := by decide) (hdb : (x == ("__debug__" : Str)) = false := by decide) (he : starEach (e :: es) X.env = (false, eval e X.env) :: starEach es X.env := by rfl) (hpl : (backTo pos (starEach es X.env)).any (·.1) = false := by rfl) :
    JE X W (.Call (.Name x p) (e :: es) [] pos) (mCall g ga) :=
  ⟨pe_imp (pe_callTy hc hg mg hv ha.run hn hdb he hpl) fun σ H Q ⟨ρ, m, β, hE, hM, p⟩ => ⟨ρ, m, β, hE, hM, p.bind fun ds m1 vs H1 β1 _ e1 M1 V1 p1 => hm W σ ds m1 β1 H1 vs Q M1 V1 p1⟩⟩
/-- len -/
def lenM (m : Mem) : MV → Option Nat
  | .str z => if z.length ≤ sizeLine then some z.length else none
  | .ref n => match dctOf m (.ref n) with
    | some (_, l) => some l.length
    | none => (lstOf m (.ref n)).map List.length
  | d => (seqOf m d).map List.length
def gLen : List MV → Mem → Re MV
  | [d], m => match lenM m d with
    | some n => .ok (.int (n : Int)) m
    | none => .stuck
  | _, _ => .stuck
abbrev rLenA (K : PySem.W.Frag) : List V → Hp → VK → Prop := fun xs H Q => (∃ p ys, xs = [V.ref p] ∧ (SqL K H p ys ∨ SqT K H p ys) ∧ Q (V.int ys.length) H) ∨ (∃ z, xs = [V.str z] ∧ z.length ≤ sizeLine ∧ Q (V.int z.length) H) ∨ (∃ a kvs, xs = [V.ref a] ∧ H a = some (.dK kvs) ∧ Q (V.int kvs.length) H)
theorem cr_len : CallR X (.builtin "len") (rLenA X.K) := cr_or call_len_seq (cr_or call_len_str call_lenD)
theorem cm_len : CrM X (rLenA X.K) gLen := by
  intro W σ ds m β H vs Q M V p
  unfold gLen at p
  split at p
  · cases V with
    | cons h r =>
      cases r
      split at p
      · rename_i n e
        have p : Q (V.int (n : Int)) H := p.ok M (.int _)
        unfold lenM at e
        split at e
        · cases h
          split at e
          · rename_i q
            cases e
            exact .inr (.inl ⟨_, rfl, q, p⟩)
          · cases e
        · split at e
          · rename_i n' l e1
            cases e
            obtain ⟨a, vs, rfl, h1, h2, h3⟩ := M.dct h e1
            exact .inr (.inr ⟨a, vs, rfl, h2, by rw [← h3.length]; exact p⟩)
          · cases q : lstOf m (.ref ‹Nat›) with
            | none => rw [q] at e; cases e
            | some l =>
              rw [q] at e
              cases e
              obtain ⟨a, vs, rfl, h1, h2⟩ := M.lst h q
              exact .inl ⟨a, vs, rfl, .inl h1, by rw [← h2.length]; exact p⟩
        · obtain ⟨l, q, e2⟩ := Option.map_eq_some_iff.mp e
          subst e2
          obtain ⟨a, vs, rfl, h1, h2⟩ := M.seq h q
          exact .inl ⟨a, vs, rfl, h1, by rw [← h2.length]; exact p⟩
      · exact p.not_stuck
  · exact p.not_stuck
/-- int of an int, of a bool -/
def gInt : List MV → Mem → Re MV
  | [.int i], m => .ok (.int i) m
  | [.bl b], m => .ok (.int (if b = true then 1 else 0)) m
  | _, _ => .stuck
theorem cm_int : CrM X (fun xs H Q => (∃ i, xs = [V.int i] ∧ Q (V.int i) H) ∨ ∃ k, xs = [V.bl k] ∧ Q (V.int (if k = true then 1 else 0)) H) gInt := by
  intro W σ ds m β H vs Q M V p
  unfold gInt at p
  split at p
  · cases V with | cons h r => cases r; cases h; exact .inl ⟨_, rfl, p.ok M (.int _)⟩
  · cases V with | cons h r => cases r; cases h; exact .inr ⟨_, rfl, p.ok M (.int _)⟩
  · exact p.not_stuck
def gAbs : List MV → Mem → Re MV
  | [.int i], m => .ok (.int (if i < 0 then -i else i)) m
  | _, _ => .stuck
theorem cm_abs : CrM X (fun xs H Q => ∃ i, xs = [V.int i] ∧ Q (V.int (if i < 0 then -i else i)) H) gAbs := by
  intro W σ ds m β H vs Q M V p
  unfold gAbs at p
  split at p
  · cases V with | cons h r => cases r; cases h; exact ⟨_, rfl, p.ok M (.int _)⟩
  · exact p.not_stuck
def gMin2 : List MV → Mem → Re MV
  | [.int i, .int j], m => .ok (.int (if j < i then j else i)) m
  | _, _ => .stuck
theorem cm_min2 : CrM X (fun xs H Q => ∃ i j, xs = [V.int i, V.int j] ∧ Q (V.int (if j < i then j else i)) H) gMin2 := by
  intro W σ ds m β H vs Q M V p
  unfold gMin2 at p
  split at p
  · cases V with | cons h r => cases r with | cons h2 r => cases r; cases h; cases h2; exact ⟨_, _, rfl, p.ok M (.int _)⟩
  · exact p.not_stuck
/-- list(..), tuple(..) -/
def gList : List MV → Mem → Re MV
  | [d], m => match seqOf m d with
    | some l => alloc (.lst l) m
    | none => .stuck
  | _, _ => .stuck
theorem cm_list : CrM X (fun xs H Q => ∃ p ys, xs = [V.ref p] ∧ (SqL X.K H p ys ∨ SqT X.K H p ys) ∧ ∀ l, H l = none → Q (V.ref l) (upd H l (.lst ys))) gList := by
  intro W σ ds m β H vs Q M V p
  unfold gList at p
  split at p
  · cases V with
    | cons h r =>
      cases r
      split at p
      · rename_i l e
        obtain ⟨a, vs, rfl, h1, h2⟩ := M.seq h e
        exact ⟨a, vs, rfl, h1, fun q hq => p.alloc M hq ⟨_, upd_same, h2.ext M (Ext.push hq)⟩⟩
      · exact p.not_stuck
  · exact p.not_stuck
def gTuple : List MV → Mem → Re MV
  | [d], m => match seqOf m d with
    | some l => .ok (.tup l) m
    | none => .stuck
  | _, _ => .stuck
theorem cm_tuple : CrM X (fun xs H Q => ∃ p ys, xs = [V.ref p] ∧ ((SqL X.K H p ys ∧ ∀ l, H l = none → Q (V.ref l) (upd H l (.tup ys))) ∨ (SqT X.K H p ys ∧ Q (V.ref p) H))) gTuple := by
  intro W σ ds m β H vs Q M V p
  unfold gTuple at p
  split at p
  · cases V with
    | cons h r =>
      cases r
      split at p
      · rename_i l e
        obtain ⟨a, vs, rfl, h1, h2⟩ := M.seq h e
        rcases h1 with h1 | h1
        · exact ⟨a, vs, rfl, .inl ⟨h1, fun q hq => p.newtup M hq h2⟩⟩
        · exact ⟨a, vs, rfl, .inr ⟨h1, p.ok M (.tup h1 h2)⟩⟩
      · exact p.not_stuck
  · exact p.not_stuck
/-- ints alone, bools alone -/
def intsOf : List MV → Option (List Int)
  | [] => some []
  | .int i :: r => (intsOf r).map (i :: ·)
  | _ :: _ => none
def blsOf : List MV → Option (List Bool)
  | [] => some []
  | .bl i :: r => (blsOf r).map (i :: ·)
  | _ :: _ => none
def strsOf : List MV → Option (List Str)
  | [] => some []
  | .str i :: r => (strsOf r).map (i :: ·)
  | _ :: _ => none
theorem RVs.ints : ∀ {l : List MV} {vs : List V} {ns : List Int}, RVs K β H l vs → intsOf l = some ns → vs = ns.map V.int
  | [], _, _, .nil, h => by cases h; rfl
  | .int i :: r, _, _, .cons (.int _) q, h => by
    unfold intsOf at h
    cases e : intsOf r with
    | none => rw [e] at h; cases h
    | some ns => rw [e] at h; cases h; rw [RVs.ints q e]; rfl
theorem RVs.bls : ∀ {l : List MV} {vs : List V} {ns : List Bool}, RVs K β H l vs → blsOf l = some ns → vs = ns.map V.bl
  | [], _, _, .nil, h => by cases h; rfl
  | .bl i :: r, _, _, .cons (.bl _) q, h => by
    unfold blsOf at h
    cases e : blsOf r with
    | none => rw [e] at h; cases h
    | some ns => rw [e] at h; cases h; rw [RVs.bls q e]; rfl
theorem RVs.strs : ∀ {l : List MV} {vs : List V} {ns : List Str}, RVs K β H l vs → strsOf l = some ns → vs = ns.map V.str
  | [], _, _, .nil, h => by cases h; rfl
  | .str i :: r, _, _, .cons (.str _) q, h => by
    unfold strsOf at h
    cases e : strsOf r with
    | none => rw [e] at h; cases h
    | some ns => rw [e] at h; cases h; rw [RVs.strs q e]; rfl
def gSum : List MV → Mem → Re MV
  | [d], m => match (lstOf m d).bind intsOf with
    | some ns => .ok (.int ns.sum) m
    | none => .stuck
  | _, _ => .stuck
theorem lst_ints {d : MV} {ns : List Int} (h : (lstOf m d).bind intsOf = some ns) : ∃ l, lstOf m d = some l ∧ intsOf l = some ns := by
  cases e : lstOf m d with
  | none => rw [e] at h; cases h
  | some l => rw [e] at h; exact ⟨l, rfl, h⟩
theorem lst_bls {d : MV} {ns : List Bool} (h : (lstOf m d).bind blsOf = some ns) : ∃ l, lstOf m d = some l ∧ blsOf l = some ns := by
  cases e : lstOf m d with
  | none => rw [e] at h; cases h
  | some l => rw [e] at h; exact ⟨l, rfl, h⟩
theorem cm_sum : CrM X (rSum X.K) gSum := by
  intro W σ ds m β H vs Q M V p
  unfold gSum at p
  split at p
  · cases V with
    | cons h r =>
      cases r
      split at p
      · rename_i ns e
        obtain ⟨l, h1, h2⟩ := lst_ints e
        obtain ⟨a, vs, rfl, q1, q2⟩ := M.lst h h1
        exact ⟨a, ns, rfl, by rw [← q2.ints h2]; exact q1, p.ok M (.int _)⟩
      · exact p.not_stuck
  · exact p.not_stuck
def gAll : List MV → Mem → Re MV
  | [d], m => match (lstOf m d).bind blsOf with
    | some bs => .ok (.bl (bs.all id)) m
    | none => .stuck
  | _, _ => .stuck
def gAny : List MV → Mem → Re MV
  | [d], m => match (lstOf m d).bind blsOf with
    | some bs => .ok (.bl (bs.any id)) m
    | none => .stuck
  | _, _ => .stuck
theorem cm_all : CrM X (rAll X.K) gAll := by
  intro W σ ds m β H vs Q M V p
  unfold gAll at p
  split at p
  · cases V with
    | cons h r =>
      cases r
      split at p
      · rename_i ns e
        obtain ⟨l, h1, h2⟩ := lst_bls e
        obtain ⟨a, vs, rfl, q1, q2⟩ := M.lst h h1
        exact ⟨a, ns, rfl, by rw [← q2.bls h2]; exact q1, p.ok M (.bl _)⟩
      · exact p.not_stuck
  · exact p.not_stuck
theorem cm_any : CrM X (rAny X.K) gAny := by
  intro W σ ds m β H vs Q M V p
  unfold gAny at p
  split at p
  · cases V with
    | cons h r =>
      cases r
      split at p
      · rename_i ns e
        obtain ⟨l, h1, h2⟩ := lst_bls e
        obtain ⟨a, vs, rfl, q1, q2⟩ := M.lst h h1
        exact ⟨a, ns, rfl, by rw [← q2.bls h2]; exact q1, p.ok M (.bl _)⟩
      · exact p.not_stuck
  · exact p.not_stuck
/-- the greatest -/
def maxL : List Int → Option Int
  | [] => none
  | a :: r => some (r.foldl (fun x y => if x < y then y else x) a)
theorem foldl_max : ∀ (r : List Int) (a : Int), (r.foldl (fun x y => if x < y then y else x) a) ∈ a :: r ∧ ∀ y ∈ a :: r, y ≤ r.foldl (fun x y => if x < y then y else x) a
  | [], a => ⟨by simp, fun y h => by simp at h; subst h; exact Int.le_refl _⟩
  | b :: r, a => by
    obtain ⟨h1, h2⟩ := foldl_max r (if a < b then b else a)
    refine ⟨?_, fun y hy => ?_⟩
    · show (r.foldl _ (if a < b then b else a)) ∈ _
      rcases List.mem_cons.mp h1 with z | z
      · rw [z]; split <;> simp
      · exact List.mem_cons_of_mem _ (List.mem_cons_of_mem _ z)
    · show y ≤ r.foldl _ (if a < b then b else a)
      have hab := h2 _ List.mem_cons_self
      rcases List.mem_cons.mp hy with rfl | hy
      · exact Int.le_trans (by split <;> omega) hab
      · rcases List.mem_cons.mp hy with rfl | hy
        · exact Int.le_trans (by split <;> omega) hab
        · exact h2 y (List.mem_cons_of_mem _ hy)
def gMax : List MV → Mem → Re MV
  | [d], m => match ((lstOf m d).bind intsOf).bind maxL with
    | some k => .ok (.int k) m
    | none => .stuck
  | _, _ => .stuck
theorem cm_max : CrM X (rMax X.K) gMax := by
  intro W σ ds m β H vs Q M V p
  unfold gMax at p
  split at p
  · cases V with
    | cons h r =>
      cases r
      split at p
      · rename_i k e
        cases e0 : (lstOf m ‹MV›).bind intsOf with
        | none => rw [e0] at e; cases e
        | some ns =>
          rw [e0] at e
          obtain ⟨l, h1, h2⟩ := lst_ints e0
          obtain ⟨a, vs, rfl, q1, q2⟩ := M.lst h h1
          cases ns with
          | nil => cases e
          | cons b t =>
            have e : some (t.foldl (fun x y => if x < y then y else x) b) = some k := e
            obtain ⟨m1, m2⟩ := foldl_max t b
            refine ⟨a, b :: t, rfl, by rw [← q2.ints h2]; exact q1, by simp, fun mx hm hx => ?_⟩
            have : mx = k := by
              cases e
              exact Int.le_antisymm (m2 mx hm) (hx _ m1)
            rw [this]
            exact p.ok M (.int _)
      · exact p.not_stuck
  · exact p.not_stuck
end
end MI
namespace MI
open PySem L2
section
variable {X : Cx} {W : WX} {pos : Pos} {K : PySem.W.Frag} {β : List Addr} {H : Hp} {m : Mem}
theorem pe_or' {e : Expr} {t t' : TE} (h : PE X e t) (h' : PE X e t') : PE X e (fun σ H Q => t σ H Q ∨ t' σ H Q) := ⟨fun pins s σ H Q I q => q.elim (h.run pins s σ H Q I) (h'.run pins s σ H Q I)⟩
theorem pt_or' {e : Expr} {t t' : TT} (h : PT X e t) (h' : PT X e t') : PT X e (fun σ H Q => t σ H Q ∨ t' σ H Q) := ⟨fun pins s σ H Q I q => q.elim (h.run pins s σ H Q I) (h'.run pins s σ H Q I)⟩
theorem ps_or' {e : Stmt} {t t' : TS} (h : PS X e t) (h' : PS X e t') : PS X e (fun D σ H => t D σ H ∨ t' D σ H) := ⟨fun pins s σ H D I q => q.elim (h.run pins s σ H D I) (h'.run pins s σ H D I)⟩
/-- one of two works, by what the small world says -/
theorem JE.or {e : Expr} {f f1 f2 : ME} (h1 : JE X W e f1) (h2 : JE X W e f2) (hh : ∀ ρ m, f ρ m = .stuck ∨ f ρ m = f1 ρ m ∨ f ρ m = f2 ρ m) : JE X W e f :=
  ⟨pe_imp (pe_or' h1.run h2.run) fun σ H Q ⟨ρ, m, β, hE, hM, p⟩ => by
    rcases hh ρ m with q | q | q
    · rw [q] at p; exact p.elim
    · rw [q] at p; exact .inl ⟨ρ, m, β, hE, hM, p⟩
    · rw [q] at p; exact .inr ⟨ρ, m, β, hE, hM, p⟩⟩
theorem JT.or {e : Expr} {f f1 f2 : MT} (h1 : JT X W e f1) (h2 : JT X W e f2) (hh : ∀ ρ m, f ρ m = .stuck ∨ f ρ m = f1 ρ m ∨ f ρ m = f2 ρ m) : JT X W e f :=
  ⟨pt_imp (pt_or' h1.run h2.run) fun σ H Q ⟨ρ, m, β, hE, hM, p⟩ => by
    rcases hh ρ m with q | q | q
    · rw [q] at p; exact p.elim
    · rw [q] at p; exact .inl ⟨ρ, m, β, hE, hM, p⟩
    · rw [q] at p; exact .inr ⟨ρ, m, β, hE, hM, p⟩⟩
theorem JS.or {e : Stmt} {f f1 f2 : MS} (h1 : JS X W e f1) (h2 : JS X W e f2) (hh : ∀ ρ m, f ρ m = .stuck ∨ f ρ m = f1 ρ m ∨ f ρ m = f2 ρ m) : JS X W e f :=
  ⟨ps_imp (ps_or' h1.run h2.run) fun D σ H ⟨ρ, m, β, hE, hM, p⟩ => by
    rcases hh ρ m with q | q | q
    · rw [q] at p; exact p.elim
    · rw [q] at p; exact .inl ⟨ρ, m, β, hE, hM, p⟩
    · rw [q] at p; exact .inr ⟨ρ, m, β, hE, hM, p⟩⟩
/-- an operation on two values, of which one of two serves -/
theorem mBin_or {g g1 g2 : MV → MV → Mem → Re MV} {fa fb : ME} (h : ∀ a b m, g a b m = g1 a b m ∨ g a b m = g2 a b m) (ρ : Env) (m : Mem) : mBin g fa fb ρ m = .stuck ∨ mBin g fa fb ρ m = mBin g1 fa fb ρ m ∨ mBin g fa fb ρ m = mBin g2 fa fb ρ m := by
  unfold mBin
  cases fa ρ m with
  | stuck => exact .inl rfl
  | ex x m1 => exact .inr (.inl rfl)
  | ok a m1 =>
    show ((fb ρ m1).bind fun b m2 => g a b m2) = .stuck ∨ ((fb ρ m1).bind fun b m2 => g a b m2) = ((fb ρ m1).bind fun b m2 => g1 a b m2) ∨ ((fb ρ m1).bind fun b m2 => g a b m2) = ((fb ρ m1).bind fun b m2 => g2 a b m2)
    cases fb ρ m1 with
    | stuck => exact .inl rfl
    | ex x m1 => exact .inr (.inl rfl)
    | ok b m2 =>
      rcases h a b m2 with q | q
      · exact .inr (.inl q)
      · exact .inr (.inr q)
/-- x[i]: a dict's, or of a list, a tuple, a text -/
def gItem (a b : MV) (m : Mem) : Re MV := match dctOf m a with
  | some _ => gDGet a b m
  | none => gIx a b m
theorem je_item {a b : Expr} {fa fb : ME} (hu : X.A.units + 1 < cLine) (ha : JE X W a fa) (hb : JE X W b fb) (hs : PlainIx b := by intro _ _; rfl) : JE X W (.Subscript a b pos) (mBin gItem fa fb) :=
  JE.or (je_dget hu ha hb hs) (je_ix ha hb hs) (mBin_or fun a b m => by
    unfold gItem
    cases dctOf m a with
    | none => exact .inr rfl
    | some q => exact .inl rfl)
/-! ### in -/
def toV : MV → V
  | .non => .non
  | .bl b => .bl b
  | .int i => .int i
  | .str s => .str s
  | _ => .ref 0
def flat (d : MV) : Bool := match d with
  | .non => true
  | .bl _ => true
  | .int _ => true
  | .str _ => true
  | _ => false
theorem RV.flat {d : MV} {v : V} (h : RV K β H d v) (f : flat d = true) : v = toV d ∧ flatV v = true := by
  cases h with
  | non => exact ⟨rfl, rfl⟩
  | bl b => exact ⟨rfl, rfl⟩
  | int i => exact ⟨rfl, rfl⟩
  | str s => exact ⟨rfl, rfl⟩
  | tup _ _ => cases f
  | ref _ => cases f
  | kl _ _ => cases f
theorem RVs.flat : ∀ {ds : List MV} {vs : List V}, RVs K β H ds vs → ds.all flat = true → vs = ds.map toV ∧ vs.all flatV = true
  | _, _, .nil, _ => ⟨rfl, rfl⟩
  | _, _, .cons h r, f => by
    rw [List.all_cons, Bool.and_eq_true] at f
    obtain ⟨e1, e2⟩ := h.flat f.1
    obtain ⟨e3, e4⟩ := RVs.flat r f.2
    exact ⟨by rw [e1, e3]; rfl, by rw [List.all_cons, e2, e4]; rfl⟩
/-- x in a list or a tuple of flat things -/
def gInF (neg : Bool) (a b : MV) (m : Mem) : Re MV := match seqOf m b with
  | some l => if flat a = true ∧ l.all flat = true then .ok (.bl (if neg then !inV (toV a) (l.map toV) else inV (toV a) (l.map toV))) m else .stuck
  | none => .stuck
theorem om_inF {neg : Bool} : OpM X (rIn X.K neg) (gInF neg) := by
  intro W σ d e m β H x y Q M rx ry p
  unfold gInF at p
  split at p
  · rename_i l hl
    split at p
    · rename_i hf
      obtain ⟨a, vs, rfl, hs, hr⟩ := M.seq ry hl
      obtain ⟨e1, e2⟩ := rx.flat hf.1
      obtain ⟨e3, e4⟩ := hr.flat hf.2
      exact ⟨a, vs, rfl, hs, e2, e4, by rw [e1, e3]; exact p.ok M (.bl _)⟩
    · exact p.not_stuck
  · exact p.not_stuck
/-- a sign in a text -/
def gInS (neg : Bool) (a b : MV) (m : Mem) : Re MV := match a, b with
  | .str z, .str y => match z.cps.toList with
    | [c] => .ok (.bl (if neg then !decide (c ∈ y.cps.toList) else decide (c ∈ y.cps.toList))) m
    | _ => .stuck
  | _, _ => .stuck
theorem om_inS : OpM X (fun x y H Q => ∃ (c : Nat) (z : Str), x = V.str ⟨#[c]⟩ ∧ y = V.str z ∧ Q (V.bl (decide (c ∈ z.cps.toList))) H) (gInS false) := by
  intro W σ d e m β H x y Q M rx ry p
  unfold gInS at p
  split at p
  · cases rx; cases ry
    split at p
    · rename_i c hc
      rename_i z y _
      refine ⟨c, y, ?_, rfl, p.ok M (.bl _)⟩
      cases z with
      | mk cps => simp at hc; rw [show cps = #[c] from by apply Array.toList_inj.mp; rw [hc]]
    · exact p.not_stuck
  · exact p.not_stuck
theorem om_ninS : OpM X (fun x y H Q => ∃ (c : Nat) (z : Str), x = V.str ⟨#[c]⟩ ∧ y = V.str z ∧ Q (V.bl (!decide (c ∈ z.cps.toList))) H) (gInS true) := by
  intro W σ d e m β H x y Q M rx ry p
  unfold gInS at p
  split at p
  · cases rx; cases ry
    split at p
    · rename_i c hc
      rename_i z y _
      refine ⟨c, y, ?_, rfl, p.ok M (.bl _)⟩
      cases z with
      | mk cps => simp at hc; rw [show cps = #[c] from by apply Array.toList_inj.mp; rw [hc]]
    · exact p.not_stuck
  · exact p.not_stuck
/-- data in a list -/
def gInD (neg : Bool) (a b : MV) (m : Mem) : Re MV := match dat m fuel a, dat m fuel b with
  | some d, some (.list ds) => if SeqAt.shaped d = true ∧ SeqAt.shaped (.list ds) = true then .ok (.bl (if neg then !ds.any (fun z => PyData.eqv z d) else ds.any (fun z => PyData.eqv z d))) m else .stuck
  | _, _ => .stuck
theorem om_inD : OpM X (rInD X.K) (gInD false) := by
  intro W σ d e m β H x y Q M rx ry p
  unfold gInD at p
  split at p
  · rename_i a b e1 e2
    split at p
    · rename_i h
      exact ⟨a, b, M.dat1 rx e1, M.dat1 ry e2, h.1, h.2, p.ok M (.bl _)⟩
    · exact p.not_stuck
  · exact p.not_stuck
theorem om_ninD : OpM X (rNotInD X.K) (gInD true) := by
  intro W σ d e m β H x y Q M rx ry p
  unfold gInD at p
  split at p
  · rename_i a b e1 e2
    split at p
    · rename_i h
      exact ⟨a, b, M.dat1 rx e1, M.dat1 ry e2, h.1, h.2, p.ok M (.bl _)⟩
    · exact p.not_stuck
  · exact p.not_stuck
open Classical in
noncomputable def gInA (neg : Bool) (a b : MV) (m : Mem) : Re MV :=
  if (∃ z, b = .str z) then gInS neg a b m else if (dctOf m b).isSome = true then gDIn neg a b m else if (∃ l, seqOf m b = some l ∧ flat a = true ∧ l.all flat = true) then gInF neg a b m else gInD neg a b m
theorem je_in {a b : Expr} {fa fb : ME} (hu : X.A.units + 1 < cLine) (hu2 : X.A.units + 65 < cLine) (ha : JE X W a fa) (hb : JE X W b fb) (hk : behindInMarks .In b = false := by rfl) : JE X W (.Compare a [.In] [b] pos) (mBin (gInA false) fa fb) := by
  have j1 : JE X W (.Compare a [.In] [b] pos) (mBin (gInS false) fa fb) := j_cmp op_in_sign om_inS ha hb hk
  have j2 : JE X W (.Compare a [.In] [b] pos) (mBin (gDIn false) fa fb) := je_din hu ha hb hk
  have j3 : JE X W (.Compare a [.In] [b] pos) (mBin (gInF false) fa fb) := j_cmp op_in_seq om_inF ha hb hk
  have j4 : JE X W (.Compare a [.In] [b] pos) (mBin (gInD false) fa fb) := j_cmp (op_inD hu2) om_inD ha hb hk
  classical
  have j34 : JE X W (.Compare a [.In] [b] pos) (mBin (fun a b m => if (∃ l, seqOf m b = some l ∧ flat a = true ∧ l.all flat = true) then gInF false a b m else gInD false a b m) fa fb) := JE.or j3 j4 (mBin_or fun a b m => by split <;> simp)
  have j234 : JE X W (.Compare a [.In] [b] pos) (mBin (fun a b m => if (dctOf m b).isSome = true then gDIn false a b m else if (∃ l, seqOf m b = some l ∧ flat a = true ∧ l.all flat = true) then gInF false a b m else gInD false a b m) fa fb) := JE.or j2 j34 (mBin_or fun a b m => by
    by_cases q : (dctOf m b).isSome = true
    · exact .inl (if_pos q)
    · exact .inr (if_neg q))
  exact JE.or j1 j234 (mBin_or fun a b m => by
    unfold gInA
    by_cases q : ∃ z, b = .str z
    · exact .inl (if_pos q)
    · exact .inr (if_neg q))
theorem je_nin {a b : Expr} {fa fb : ME} (hu : X.A.units + 1 < cLine) (hu2 : X.A.units + 65 < cLine) (ha : JE X W a fa) (hb : JE X W b fb) (hk : behindInMarks .NotIn b = false := by rfl) : JE X W (.Compare a [.NotIn] [b] pos) (mBin (gInA true) fa fb) := by
  have j1 : JE X W (.Compare a [.NotIn] [b] pos) (mBin (gInS true) fa fb) := j_cmp op_notIn_sign om_ninS ha hb hk
  have j2 : JE X W (.Compare a [.NotIn] [b] pos) (mBin (gDIn true) fa fb) := je_dnotin hu ha hb hk
  have j3 : JE X W (.Compare a [.NotIn] [b] pos) (mBin (gInF true) fa fb) := j_cmp op_notIn_seq om_inF ha hb hk
  have j4 : JE X W (.Compare a [.NotIn] [b] pos) (mBin (gInD true) fa fb) := j_cmp (op_notInD hu2) om_ninD ha hb hk
  classical
  have j34 : JE X W (.Compare a [.NotIn] [b] pos) (mBin (fun a b m => if (∃ l, seqOf m b = some l ∧ flat a = true ∧ l.all flat = true) then gInF true a b m else gInD true a b m) fa fb) := JE.or j3 j4 (mBin_or fun a b m => by split <;> simp)
  have j234 : JE X W (.Compare a [.NotIn] [b] pos) (mBin (fun a b m => if (dctOf m b).isSome = true then gDIn true a b m else if (∃ l, seqOf m b = some l ∧ flat a = true ∧ l.all flat = true) then gInF true a b m else gInD true a b m) fa fb) := JE.or j2 j34 (mBin_or fun a b m => by
    by_cases q : (dctOf m b).isSome = true
    · exact .inl (if_pos q)
    · exact .inr (if_neg q))
  exact JE.or j1 j234 (mBin_or fun a b m => by
    unfold gInA
    by_cases q : ∃ z, b = .str z
    · exact .inl (if_pos q)
    · exact .inr (if_neg q))
/-! ### methods of lists -/
def MtMm (X : Cx) (r : V → List V → Hp → VK → Prop) (g : MV → List MV → Mem → Re MV) : Prop := ∀ (W : WX) (σ : L2.St) (d : MV) (ds : List MV) (m : Mem) (β : List Addr) (H : Hp) (x : V) (vs : List V) (Q : VK), RM X.K β H m → RV X.K β H d x → RVs X.K β H ds vs →
  Post X W (g d ds m) β H σ (fun β' H' d v => RV X.K β' H' d v) Q → r x vs H Q
def mBM (g : MV → List MV → Mem → Re MV) (fo : ME) (ga : MA) : ME := fun ρ m => (fo ρ m).bind fun d m1 => if (lstOf m1 d).isSome = true then (ga ρ m1).bind fun ds m2 => g d ds m2 else .stuck
theorem je_bmL {o e : Expr} {es : List Expr} {fo : ME} {ga : MA} {name : Str} {apos : Pos} {id : String} {r : V → List V → Hp → VK → Prop} {g : MV → List MV → Mem → Re MV} (slot : Slot "list" name id) (hty : typeOf (.builtin id) = pure (.type "method_descriptor")) (hm : MtR X id r) (hg : MtMm X r g) (ho : JE X W o fo) (ha : JA X W (e :: es) ga)
    (h1 : attributeBase o name X.env (eval o X.env) = eval o X.env := by rfl) (h2 : (((((backTo pos (starEach (e :: es) X.env)).all fun x => !x.fst) && (backToKw pos (keywordEach [] X.env)).all fun x => x.fst.isSome) && decide (((e :: es).length + ([] : List Keyword).length + if ([] : List Keyword).isEmpty = true then 0 else 1) < 30)) = true) := by rfl) (h3 : (apos.endLine == pos.line) = true := by rfl)
    (h4 : starEach (e :: es) X.env = (false, eval e X.env) :: starEach es X.env := by rfl) (h5 : (backTo pos (starEach es X.env)).any (·.1) = false := by rfl) : JE X W (.Call (.Attribute o name apos) (e :: es) [] pos) (mBM g fo ga) :=
  ⟨pe_imp (pe_bm PySem.F.plainAttrs_list slot hty hm ho.run ha.run h1 h2 h3 h4 h5) fun σ H Q ⟨ρ, m, β, hE, hM, p⟩ => ⟨ρ, m, β, hE, hM, p.bind fun d m1 x H1 β1 _ e1 M1 V1 p1 => by
    split at p1
    · rename_i q
      obtain ⟨l, hl⟩ := Option.isSome_iff_exists.mp q
      obtain ⟨a, vs, rfl, hs, _⟩ := M1.lst V1 hl
      exact ⟨.inl ⟨rfl, vs, hs⟩, ρ, m1, β1, hE.ext hM e1, M1, p1.bind fun ds m2 us H2 β2 _ e2 M2 V2 p2 => hg W σ d ds m2 β2 H2 _ us Q M2 (V1.ext M1 e2) V2 p2⟩
    · exact p1.not_stuck⟩⟩
theorem je_bmL0 {o : Expr} {fo : ME} {name : Str} {apos : Pos} {id : String} {r : V → List V → Hp → VK → Prop} {g : MV → List MV → Mem → Re MV} (slot : Slot "list" name id) (hty : typeOf (.builtin id) = pure (.type "method_descriptor")) (hm : MtR X id r) (hg : MtMm X r g) (ho : JE X W o fo)
    (h1 : attributeBase o name X.env (eval o X.env) = eval o X.env := by rfl) (h3 : (apos.endLine == pos.line) = true := by rfl) : JE X W (.Call (.Attribute o name apos) [] [] pos) (mBM g fo mNil) :=
  ⟨pe_imp (pe_bm0 PySem.F.plainAttrs_list slot hty hm ho.run h1 h3) fun σ H Q ⟨ρ, m, β, hE, hM, p⟩ => ⟨ρ, m, β, hE, hM, p.bind fun d m1 x H1 β1 _ e1 M1 V1 p1 => by
    split at p1
    · rename_i q
      obtain ⟨l, hl⟩ := Option.isSome_iff_exists.mp q
      obtain ⟨a, vs, rfl, hs, _⟩ := M1.lst V1 hl
      exact ⟨.inl ⟨rfl, vs, hs⟩, hg W σ d [] m1 β1 H1 _ [] Q M1 V1 .nil p1⟩
    · exact p1.not_stuck⟩⟩
def gAppend (d : MV) (ds : List MV) (m : Mem) : Re MV := match ds with
  | [e] => match mutOf m d with
    | some (n, l) => if l.length < sizeLine then .ok .non (m.set n (.lst (l ++ [e]))) else .stuck
    | none => .stuck
  | _ => .stuck
theorem mm_append : MtMm X rAppend gAppend := by
  intro W σ d ds m β H x vs Q M rx rv p
  unfold gAppend at p
  split at p
  · cases rv with
    | @cons _ y _ _ h r =>
      cases r
      split at p
      · rename_i n l e
        split at p
        · rename_i hl
          obtain ⟨a, us, rfl, hb, hH, hr⟩ := M.mut rx e
          have eE : Ext β H β (upd H a (.lst (us ++ [y]))) := Ext.wr (List.mem_of_getElem? hb)
          exact ⟨a, us, _, rfl, rfl, hH, by rw [← hr.length]; exact hl, p .non _ β eE (M.wr hb ⟨_, upd_same, (hr.app (.cons h .nil)).ext M eE⟩) .non⟩
        · exact p.not_stuck
      · exact p.not_stuck
  · exact p.not_stuck
def gExtend (d : MV) (ds : List MV) (m : Mem) : Re MV := match ds with
  | [e] => match mutOf m d, mutOf m e with
    | some (n, l), some (_, k) => if l.length + k.length ≤ sizeLine then .ok .non (m.set n (.lst (l ++ k))) else .stuck
    | _, _ => .stuck
  | _ => .stuck
theorem mm_extend : MtMm X rExtend gExtend := by
  intro W σ d ds m β H x vs Q M rx rv p
  unfold gExtend at p
  split at p
  · cases rv with
    | cons h r =>
      cases r
      split at p
      · rename_i n l n2 k e e2
        split at p
        · rename_i hl
          obtain ⟨a, us, rfl, hb, hH, hr⟩ := M.mut rx e
          obtain ⟨a2, us2, rfl, hb2, hH2, hr2⟩ := M.mut h e2
          have eE : Ext β H β (upd H a (.lst (us ++ us2))) := Ext.wr (List.mem_of_getElem? hb)
          exact ⟨a, a2, us, us2, rfl, rfl, hH, hH2, by rw [← hr.length, ← hr2.length]; exact hl, p .non _ β eE (M.wr hb ⟨_, upd_same, (hr.app hr2).ext M eE⟩) .non⟩
        · exact p.not_stuck
      · exact p.not_stuck
  · exact p.not_stuck
theorem RVs.dropLast : ∀ {ds : List MV} {vs : List V}, RVs K β H ds vs → RVs K β H ds.dropLast vs.dropLast := fun {ds vs} h => by
  rw [List.dropLast_eq_take, List.dropLast_eq_take, ← h.length]
  exact h.take _
def gPop (d : MV) (ds : List MV) (m : Mem) : Re MV := match ds with
  | [] => match mutOf m d with
    | some (n, l) => match l[l.length - 1]? with
      | some e => .ok e (m.set n (.lst l.dropLast))
      | none => .stuck
    | none => .stuck
  | _ => .stuck
theorem mm_pop : MtMm X rPop gPop := by
  intro W σ d ds m β H x vs Q M rx rv p
  unfold gPop at p
  split at p
  · cases rv
    split at p
    · rename_i n l e
      split at p
      · rename_i y hy
        obtain ⟨a, us, rfl, hb, hH, hr⟩ := M.mut rx e
        obtain ⟨v, h1, h2⟩ := hr.get hy
        have eE : Ext β H β (upd H a (.lst us.dropLast)) := Ext.wr (List.mem_of_getElem? hb)
        exact ⟨a, us, v, rfl, rfl, hH, by rw [← hr.length]; exact h1, p v _ β eE (M.wr hb ⟨_, upd_same, hr.dropLast.ext M eE⟩) (h2.ext M eE)⟩
      · exact p.not_stuck
    · exact p.not_stuck
  · exact p.not_stuck
/-! ### stores -/
theorem jg_subL {o i : Expr} {fo fi : ME} (ho : JE X W0 o fo) (hi : JE X W0 i fi)
    (ha : ∀ v, assign (.Subscript o i pos) X.env v = (do
      let ov ← holding [v] (eval o X.env)
      let iv ← holding [v, ov] (eval i X.env)
      standAt pos
      holding [v, ov, iv] (setItem ov iv v)
      release [v, ov, iv] []) := by intro _; rfl) : JG X (.Subscript o i pos) (nSubL fo fi) :=
  ⟨pg_imp (pg_sub ho.run hi.run set_list ha) fun v σ H Q ⟨d, ρ, m, β, V, hE, hM, p⟩ => by
    refine ⟨ρ, m, β, hE, hM, ?_⟩
    unfold nSubL at p
    cases e1 : fo ρ m with
    | stuck => rw [e1] at p; exact p.elim
    | ex x m1 => rw [e1] at p; exact p.elim
    | ok od m1 =>
      rw [e1] at p
      dsimp only at p
      intro ov H1 β1 x1 M1 V1
      refine ⟨ρ, m1, β1, hE.ext hM x1, M1, ?_⟩
      cases e2 : fi ρ m1 with
      | stuck => rw [e2] at p; exact p.elim
      | ex x m1 => rw [e2] at p; exact p.elim
      | ok id m2 =>
        rw [e2] at p
        intro iv H2 β2 x2 M2 V2
        cases id with
        | int k =>
          dsimp only at p
          cases V2
          cases e3 : mutOf m2 od with
          | none => rw [e3] at p; exact p.elim
          | some nl =>
            obtain ⟨n, l⟩ := nl
            rw [e3] at p
            dsimp only at p
            obtain ⟨a, us, rfl, hb, hH, hr⟩ := M2.mut (V1.ext M1 x2) e3
            cases e4 : ixN l.length k with
            | none => rw [e4] at p; exact p.elim
            | some j =>
              rw [e4] at p
              have eE : Ext β2 H2 β2 (upd H2 a (.lst (us.set j v))) := Ext.wr (List.mem_of_getElem? hb)
              refine ⟨a, us, k, j, rfl, rfl, hH, by rw [← hr.length]; exact e4, p σ _ β2 ((x1.trans x2).trans eE) (M2.wr hb ⟨_, upd_same, (hr.set j ((V.ext hM x1).ext M1 x2)).ext M2 eE⟩) (((hE.ext hM x1).ext M1 x2).ext M2 eE)⟩
        | _ => exact p.elim⟩
/-- d[k] = v in a dict -/
def mDPut (fd fk fv : ME) : MS := fun ρ m => onE ρ (fv ρ m) fun v m1 => onE ρ (fd ρ m1) fun d m2 => onE ρ (fk ρ m2) fun k m3 => match dctOf m3 d, keyOf k with
  | some (n, l), some q => if l.length < sizeLine then .ok (.nx ρ) (m3.set n (.dct (putM l q v))) else .stuck
  | _, _ => .stuck
theorem js_dput {o i value : Expr} {pos' : Pos} {fo fi fv : ME} (hu : X.A.units + 1 < cLine) (ho : JE X W o fo) (hi : JE X W i fi) (hv : JE X W value fv) (hs : swapsWith value (some (.Subscript o i pos')) pos.line X.env = pure false := by rfl) : JS X W (.Assign [.Subscript o i pos'] value pos) (mDPut fo fi fv) :=
  ⟨ps_imp (ps_dput hu ho.run hi.run hv.run hs) fun D σ H ⟨ρ, m, β, hE, hM, p⟩ => ⟨ρ, m, β, hE, hM, PostS.on (D := D) (R := fun β' H' d v => RV X.K β' H' d v) hE hM p fun d1 m1 v1 H1 β1 _ e1 M1 V1 p1 => ⟨ρ, m1, β1, hE.ext hM e1, M1, PostS.on (D := D) (R := fun β' H' d v => RV X.K β' H' d v) (hE.ext hM e1) M1 p1 fun d2 m2 v2 H2 β2 _ e2 M2 V2 p2 => ⟨ρ, m2, β2, (hE.ext hM e1).ext M1 e2, M2,
    PostS.on (D := D) (R := fun β' H' d v => RV X.K β' H' d v) ((hE.ext hM e1).ext M1 e2) M2 p2 fun d3 m3 v3 H3 β3 _ e3 M3 V3 p3 => by
      split at p3
      · rename_i n l q h1 h2
        split at p3
        · rename_i hl
          obtain ⟨a, us, rfl, hb, hH, hr⟩ := M3.dct (V2.ext M2 e3) h1
          have hk := keyOf_some V3 h2
          subst hk
          have eE : Ext β3 H3 β3 (upd H3 a (.dK (putK us q v1))) := Ext.wr (List.mem_of_getElem? hb)
          exact ⟨a, _, rfl, .inl ⟨us, q, hH, rfl, by rw [← hr.length]; exact hl, rfl⟩, p3 σ _ β3 eE (M3.wr hb ⟨_, upd_same, (hr.put ((V1.ext M1 e2).ext M2 e3)).ext M3 eE⟩) ((((hE.ext hM e1).ext M1 e2).ext M2 e3).ext M3 eE)⟩
        · exact p3.elim
      · exact p3.elim⟩⟩⟩⟩
end
end MI
namespace MI
open PySem L2
section
variable {X : Cx} {W : WX} {pos : Pos} {K : PySem.W.Frag} {β : List Addr} {H : Hp} {m : Mem}
/-! ### ==, != of anything -/
theorem OpM.or {r1 r2 : R2} {g g1 g2 : MV → MV → Mem → Re MV} (h1 : OpM X r1 g1) (h2 : OpM X r2 g2) (h : ∀ a b m, g a b m = .stuck ∨ g a b m = g1 a b m ∨ g a b m = g2 a b m) : OpM X (fun x y H Q => r1 x y H Q ∨ r2 x y H Q) g := by
  intro W σ d e m β H x y Q M rx ry p
  rcases h d e m with q | q | q
  · rw [q] at p; exact p.elim
  · rw [q] at p; exact .inl (h1 W σ d e m β H x y Q M rx ry p)
  · rw [q] at p; exact .inr (h2 W σ d e m β H x y Q M rx ry p)
/-- equal scalars -/
def eqS : MV → MV → Option Bool
  | .non, .non => some true
  | .non, .int _ => some false
  | .int _, .non => some false
  | .non, .bl _ => some false
  | .bl _, .non => some false
  | .non, .str _ => some false
  | .str _, .non => some false
  | .int i, .int j => some (decide (i = j))
  | .bl i, .bl j => some (decide (i = j))
  | .str i, .str j => some (decide (i = j))
  | .int _, .str _ => some false
  | .str _, .int _ => some false
  | .bl _, .str _ => some false
  | .str _, .bl _ => some false
  | _, _ => none
def gEqS (neg : Bool) (a b : MV) (m : Mem) : Re MV := match eqS a b with
  | some k => .ok (.bl (if neg then !k else k)) m
  | none => .stuck
theorem eqS_scal {a b : MV} {k : Bool} {x y : V} (h : eqS a b = some k) (rx : RV K β H a x) (ry : RV K β H b y) : scal x y = true ∧ decide (x = y) = k := by
  cases rx <;> cases ry <;> first | (cases h; exact ⟨rfl, by simp⟩) | (cases h) 
theorem om_eqS : OpM X rEq (gEqS false) := by
  intro W σ d e m β H x y Q M rx ry p
  unfold gEqS at p
  split at p
  · rename_i k hk
    obtain ⟨h1, h2⟩ := eqS_scal hk rx ry
    exact ⟨h1, by rw [h2]; exact p.ok M (.bl _)⟩
  · exact p.not_stuck
theorem om_neS : OpM X rNe (gEqS true) := by
  intro W σ d e m β H x y Q M rx ry p
  unfold gEqS at p
  split at p
  · rename_i k hk
    obtain ⟨h1, h2⟩ := eqS_scal hk rx ry
    exact ⟨h1, by rw [h2]; exact p.ok M (.bl _)⟩
  · exact p.not_stuck
def gEqA (neg : Bool) (a b : MV) (m : Mem) : Re MV := match eqS a b with
  | some _ => gEqS neg a b m
  | none => gEq neg a b m
abbrev rEqAll (K : PySem.W.Frag) : R2 := fun x y H Q => rEq x y H Q ∨ rEqD K x y H Q
abbrev rNeAll (K : PySem.W.Frag) : R2 := fun x y H Q => rNe x y H Q ∨ rNeD K x y H Q
theorem om_eqA : OpM X (rEqAll X.K) (gEqA false) := om_eqS.or om_eq fun a b m => by
  unfold gEqA
  cases eqS a b with
  | none => exact .inr (.inr rfl)
  | some k => exact .inr (.inl rfl)
theorem om_neA : OpM X (rNeAll X.K) (gEqA true) := om_neS.or om_ne fun a b m => by
  unfold gEqA
  cases eqS a b with
  | none => exact .inr (.inr rfl)
  | some k => exact .inr (.inl rfl)
theorem op_eqA (hu : X.A.units + 64 < cLine) : OpR X (compareOp .Eq) (rEqAll X.K) := OpR.or op_eq (op_eqD hu)
theorem op_neA (hu : X.A.units + 64 < cLine) : OpR X (compareOp .NotEq) (rNeAll X.K) := OpR.or op_ne (op_neD hu)
/-! ### room -/
theorem hu1 {k : Nat} (hr : Room k X.A) : X.A.units + 1 < cLine := hu_of hr
theorem hu64 {k : Nat} (hr : Room k X.A) : X.A.units + 64 < cLine := by have := hr.un; omega
theorem hu65 {k : Nat} (hr : Room k X.A) : X.A.units + 65 < cLine := by have := hr.un; omega
/-! ### in, as a test -/
theorem mB_or {g g1 g2 : MV → MV → Mem → Re MV} {fa fb : ME} (h : ∀ a b m, g a b m = g1 a b m ∨ g a b m = g2 a b m) (ρ : Env) (m : Mem) : mB (mBin g fa fb) ρ m = .stuck ∨ mB (mBin g fa fb) ρ m = mB (mBin g1 fa fb) ρ m ∨ mB (mBin g fa fb) ρ m = mB (mBin g2 fa fb) ρ m := by
  unfold mB
  rcases mBin_or (fa := fa) (fb := fb) h ρ m with q | q | q
  · rw [q]; exact .inl rfl
  · rw [q]; exact .inr (.inl rfl)
  · rw [q]; exact .inr (.inr rfl)
theorem jt_of {op : CmpOp} {a b : Expr} {t : TE} {f : ME} (h : PC X op a b t) (hk : behindInMarks op b = false) (i : ∀ σ H (Q : VK), tE X W f σ H Q → t σ H Q) : JT X W (.Compare a [op] [b] pos) (mB f) :=
  ⟨pt_imp (pt_cmp h hk) fun σ H Q ⟨ρ, m, β, hE, hM, p⟩ => i σ H _ ⟨ρ, m, β, hE, hM, by
    unfold mB at p
    exact p.bind fun d m1 x H1 β1 _ e1 M1 V1 p1 => by
      split at p1
      · cases V1; exact ⟨_, rfl, p1.ok M1 rfl⟩
      · exact p1.not_stuck⟩⟩
theorem tdin {neg : Bool} {fa fb : ME} {σ : L2.St} {H : Hp} {Q : VK} (h : tE X W (mBin (gDIn neg) fa fb) σ H Q) : (fun σ H (Q : VK) => tE X W fa σ H fun y H1 => tE X W fb σ H1 fun x H2 => ∃ a o, x = V.ref a ∧ DGet H2 a y o ∧ Q (.bl (if neg then !o.isSome else o.isSome)) H2) σ H Q := by
  obtain ⟨ρ, m, β, hE, hM, p⟩ := h
  exact ⟨ρ, m, β, hE, hM, p.bind fun d m1 x H1 β1 _ e1 M1 V1 p1 => ⟨ρ, m1, β1, hE.ext hM e1, M1, p1.bind fun d2 m2 y H2 β2 _ e2 M2 V2 p2 => by
    unfold gDIn at p2
    split at p2
    · rename_i n l q h1 h2
      obtain ⟨a, vs, rfl, hb, hH, hr⟩ := M2.dct V2 h1
      have hy := keyOf_some (V1.ext M1 e2) h2
      subst hy
      exact ⟨a, valV vs q, rfl, .inl ⟨vs, q, .inl hH, rfl, rfl⟩, p2.ok M2 (by rw [hr.isSome]; exact .bl _)⟩
    · exact p2.not_stuck⟩⟩
theorem jt_in {a b : Expr} {fa fb : ME} (hu : X.A.units + 1 < cLine) (hu2 : X.A.units + 65 < cLine) (ha : JE X W a fa) (hb : JE X W b fb) (hk : behindInMarks .In b = false := by rfl) : JT X W (.Compare a [.In] [b] pos) (mB (mBin (gInA false) fa fb)) := by
  have j1 : JT X W (.Compare a [.In] [b] pos) (mB (mBin (gInS false) fa fb)) := jt_cmp op_in_sign om_inS ha hb hk
  have j2 : JT X W (.Compare a [.In] [b] pos) (mB (mBin (gDIn false) fa fb)) := jt_of (pc_din hu ha.run hb.run) hk fun σ H Q h => tdin h
  have j3 : JT X W (.Compare a [.In] [b] pos) (mB (mBin (gInF false) fa fb)) := jt_cmp op_in_seq om_inF ha hb hk
  have j4 : JT X W (.Compare a [.In] [b] pos) (mB (mBin (gInD false) fa fb)) := jt_cmp (op_inD hu2) om_inD ha hb hk
  classical
  have j34 : JT X W (.Compare a [.In] [b] pos) (mB (mBin (fun a b m => if (∃ l, seqOf m b = some l ∧ flat a = true ∧ l.all flat = true) then gInF false a b m else gInD false a b m) fa fb)) := JT.or j3 j4 (mB_or fun a b m => by split <;> simp)
  have j234 : JT X W (.Compare a [.In] [b] pos) (mB (mBin (fun a b m => if (dctOf m b).isSome = true then gDIn false a b m else if (∃ l, seqOf m b = some l ∧ flat a = true ∧ l.all flat = true) then gInF false a b m else gInD false a b m) fa fb)) := JT.or j2 j34 (mB_or fun a b m => by
    by_cases q : (dctOf m b).isSome = true
    · exact .inl (if_pos q)
    · exact .inr (if_neg q))
  exact JT.or j1 j234 (mB_or fun a b m => by
    unfold gInA
    by_cases q : ∃ z, b = .str z
    · exact .inl (if_pos q)
    · exact .inr (if_neg q))
theorem jt_nin {a b : Expr} {fa fb : ME} (hu : X.A.units + 1 < cLine) (hu2 : X.A.units + 65 < cLine) (ha : JE X W a fa) (hb : JE X W b fb) (hk : behindInMarks .NotIn b = false := by rfl) : JT X W (.Compare a [.NotIn] [b] pos) (mB (mBin (gInA true) fa fb)) := by
  have j1 : JT X W (.Compare a [.NotIn] [b] pos) (mB (mBin (gInS true) fa fb)) := jt_cmp op_notIn_sign om_ninS ha hb hk
  have j2 : JT X W (.Compare a [.NotIn] [b] pos) (mB (mBin (gDIn true) fa fb)) := jt_of (pc_dnotin hu ha.run hb.run) hk fun σ H Q h => tdin h
  have j3 : JT X W (.Compare a [.NotIn] [b] pos) (mB (mBin (gInF true) fa fb)) := jt_cmp op_notIn_seq om_inF ha hb hk
  have j4 : JT X W (.Compare a [.NotIn] [b] pos) (mB (mBin (gInD true) fa fb)) := jt_cmp (op_notInD hu2) om_ninD ha hb hk
  classical
  have j34 : JT X W (.Compare a [.NotIn] [b] pos) (mB (mBin (fun a b m => if (∃ l, seqOf m b = some l ∧ flat a = true ∧ l.all flat = true) then gInF true a b m else gInD true a b m) fa fb)) := JT.or j3 j4 (mB_or fun a b m => by split <;> simp)
  have j234 : JT X W (.Compare a [.NotIn] [b] pos) (mB (mBin (fun a b m => if (dctOf m b).isSome = true then gDIn true a b m else if (∃ l, seqOf m b = some l ∧ flat a = true ∧ l.all flat = true) then gInF true a b m else gInD true a b m) fa fb)) := JT.or j2 j34 (mB_or fun a b m => by
    by_cases q : (dctOf m b).isSome = true
    · exact .inl (if_pos q)
    · exact .inr (if_neg q))
  exact JT.or j1 j234 (mB_or fun a b m => by
    unfold gInA
    by_cases q : ∃ z, b = .str z
    · exact .inl (if_pos q)
    · exact .inr (if_neg q))
/-! ### o[i] = v of a list or a dict -/
def mStore (fo fi fv : ME) : MS := fun ρ m => onE ρ (fv ρ m) fun v m1 => onE ρ (fo ρ m1) fun d m2 => match dctOf m2 d with
  | some _ => onE ρ (fi ρ m2) fun k m3 => match dctOf m3 d, keyOf k with
    | some (n, l), some q => if l.length < sizeLine then .ok (.nx ρ) (m3.set n (.dct (putM l q v))) else .stuck
    | _, _ => .stuck
  | none => match fi ρ m2 with
    | .ok (.int k) m3 => match mutOf m3 d with
      | some (n, l) => match ixN l.length k with
        | some j => .ok (.nx ρ) (m3.set n (.lst (l.set j v)))
        | none => .stuck
      | none => .stuck
    | _ => .stuck
theorem js_store {o i value : Expr} {pos' : Pos} {fo fi fv : ME} (hu : X.A.units + 1 < cLine) (ho : JE X W o fo) (hi : JE X W i fi) (ho0 : JE X W0 o fo) (hi0 : JE X W0 i fi) (hv : JE X W value fv)
    (hs : swapsWith value (some (.Subscript o i pos')) pos.line X.env = pure false := by rfl) (hs1 : swapsWithSole [.Subscript o i pos'] value pos.line X.env = pure false := by rfl) (hw : swappedStores [.Subscript o i pos'] value X.env = pure none := by rfl)
    (h1 : (assignEach [.Subscript o i pos'] X.env).map (·.2) = [assign (.Subscript o i pos') X.env] := by rfl)
    (ha : ∀ v, assign (.Subscript o i pos') X.env v = (do
      let ov ← holding [v] (eval o X.env)
      let iv ← holding [v, ov] (eval i X.env)
      standAt pos'
      holding [v, ov, iv] (setItem ov iv v)
      release [v, ov, iv] []) := by intro _; rfl) : JS X W (.Assign [.Subscript o i pos'] value pos) (mStore fo fi fv) := by
  have j1 : JS X W (.Assign [.Subscript o i pos'] value pos) (mDPut fo fi fv) := js_dput hu ho hi hv hs
  have j2 : JS X W (.Assign [.Subscript o i pos'] value pos) (mAsg fv (nSubL fo fi)) := js_asg hv (jg_subL ho0 hi0 ha) hs1 hw h1
  refine JS.or j1 j2 fun ρ m => ?_
  unfold mStore mDPut mAsg nSubL
  cases fv ρ m with
  | stuck => exact .inl rfl
  | ex x m1 => exact .inr (.inl rfl)
  | ok v m1 =>
    dsimp only [onE]
    cases fo ρ m1 with
    | stuck => exact .inl rfl
    | ex x m2 => exact .inr (.inl rfl)
    | ok d m2 =>
      dsimp only
      cases hd : dctOf m2 d with
      | some q => exact .inr (.inl rfl)
      | none =>
        dsimp only
        cases fi ρ m2 with
        | stuck => exact .inl rfl
        | ex x m3 => exact .inl rfl
        | ok k m3 =>
          cases k with
          | int k =>
            dsimp only
            cases mutOf m3 d with
            | none => exact .inl rfl
            | some nl =>
              obtain ⟨n, l⟩ := nl
              dsimp only
              cases ixN l.length k with
              | none => exact .inl rfl
              | some j => exact .inr (.inr rfl)
          | _ => exact .inl rfl
/-! ### x op= e -/
def mAug (i : Nat) (g : MV → MV → Mem → Re MV) (f : ME) : MS := fun ρ m => match ρ[i]? with
  | some (some d) => onE ρ (f ρ m) fun e m1 => onE ρ (g d e m1) fun r m2 => .ok (.nx (ρ.set i (some r))) m2
  | _ => .stuck
theorem js_aug (i : Nat) {x : Str} {e : Expr} {f : ME} {op : Operator} {r : R2} {g : MV → MV → Mem → Re MV} {pos' : Pos} (hN : X.N.Nodup) (he : JE X W e f) (ho : PIp X op r) (hm : OpM X r g) (hi : X.N[i]? = some x := by rfl) (hx : Loc X.env.scope x := by first | exact Or.inl rfl | exact Or.inr rfl)
    (hf : X.fn x = true ∨ X.env.scope.names.lookup x = some .local := by first | exact .inl rfl | exact .inr rfl | assumption) : JS X W (.AugAssign (.Name x pos') op e pos) (mAug i g f) :=
  ⟨ps_imp (ps_aug hN hi hx he.run ho hf) fun D σ H q => by
    obtain ⟨ρ, m, β, hE, hM, p⟩ := tS_of q
    unfold mAug at p
    split at p
    · rename_i d hd
      obtain ⟨v, h1, h2⟩ := hE.at_ i d hd
      refine ⟨v, h1, ρ, m, β, hE, hM, PostS.on (D := D) (R := fun β' H' d v => RV X.K β' H' d v) hE hM p fun e1 m1 y H1 β1 _ x1 M1 V1 p1 => ?_⟩
      refine hm W σ d e1 m1 β1 H1 v y _ M1 (h2.ext hM x1) V1 (PostS.on (D := D) (hE.ext hM x1) M1 p1 fun r m2 z H2 β2 _ x2 M2 V2 p2 => ?_)
      exact p2 _ H2 β2 Ext.refl M2 (((hE.ext hM x1).ext M1 x2).set V2)
    · exact p.elim⟩
theorem ip_addI : PIp X .Add (rI0 fun i j => V.int (i + j)) := ip_add
theorem ip_subI : PIp X .Sub (rI0 fun i j => V.int (i - j)) := ip_sub
end
/-! ### the rule for a def, its context told -/
section
variable {P : Program} {w : World} {K : PySem.W.Frag} {mg : Str → Option Value} {base : Heap}
theorem fn_okC {x qual : Str} {st : Stmt} {f : Addr} {fd : FuncData} {N ps : List Str} {k n : Nat} {g : MS} {F : MF} (Fu : Fun K x qual st f fd) (S : FnScope N ps (defScope st)) (hn : ps.length = n)
    (hF : ∀ ds m, ds.length = n → F ds m = endOf (g (startM N.length ds) m))
    (hb : ∀ (cdv : Value) (A : Around) (outer : List PySem.Env) (s : Shared) (H : Hp) (E : XK), Room k (A.deeper (PyProof.Rows.envOfC qual (defScope st) s.heap.objs.size f cdv)) →
      ∀ W, Takes (cxOf (CX P w) P w K mg base N qual (defScope st) f cdv A outer s H E) W → PassesOwn (model P w) (cxOf (CX P w) P w K mg base N qual (defScope st) f cdv A outer s H E).A (cxOf (CX P w) P w K mg base N qual (defScope st) f cdv A outer s H E).env (cxOf (CX P w) P w K mg base N qual (defScope st) f cdv A outer s H E).xe →
        JB (cxOf (CX P w) P w K mg base N qual (defScope st) f cdv A outer s H E) W (defBody st) g) :
    FnOk P w K mg base (CX P w) (k + 1) f fd ps (spM K n F) := by
  refine Fu.okX S (fun vs H Q E h => by rw [hn]; exact h.1) fun cdv A outer s H vs Q E hr hsp => ?_
  obtain ⟨hl, ds, m, β, V, M, p⟩ := hsp
  have tk : Takes (cxOf (CX P w) P w K mg base N qual (defScope st) f cdv A outer s H E) (fun cls d _ H' => E cls d H') := takes_of rfl rfl rfl rfl
  refine ⟨_, (hb cdv A outer s H E hr _ tk (passes_of rfl)).run, ?_⟩
  refine ⟨startM N.length ds, m, β, RE.start V, M, ?_⟩
  rw [hF ds m (by rw [V.length]; exact hl)] at p
  revert p
  generalize g (startM N.length ds) m = r
  intro p
  cases r with
  | ok a m' =>
    cases a with
    | nx ρ => exact fun σ' H' β' e M' _ => p .non H' β' e M' .non
    | bk ρ => exact p.elim
    | ct ρ => exact p.elim
    | rt d => exact fun v H' β' e M' V' => p v H' β' e M' V'
    | ex x ρ => exact fun c d σ' H' β' e M' _ z => p c d H' β' e M' z
  | ex x m' => exact p.elim
  | stuck => exact p
end
end MI
namespace MI
open PySem L2
section
variable {X : Cx} {W : WX} {pos : Pos} {K : PySem.W.Frag} {β : List Addr} {H : Hp} {m : Mem}
abbrev gSub := gI0 fun i j => MV.int (i - j)
abbrev gMod := gII (fun _ j => 0 < j) fun i j => MV.int (i % j)
abbrev gDiv := gII CDivW fun i j => MV.int (i / j)
abbrev gPow := gII CPowW fun i j => MV.int (i ^ j.toNat)
abbrev gLt := gI0 fun i j => MV.bl (decide (i < j))
abbrev gGt := gI0 fun i j => MV.bl (decide (j < i))
abbrev gGe := gI0 fun i j => MV.bl (decide (j ≤ i))
/-- -x -/
def mNeg (f : ME) : ME := fun ρ m => (f ρ m).bind fun d m1 => match d with
  | .int i => .ok (.int (-i)) m1
  | _ => .stuck
theorem je_neg {a : Expr} {f : ME} (ha : JE X W a f) : JE X W (.UnaryOp .USub a pos) (mNeg f) :=
  ⟨pe_imp (pe_un un_neg ha.run) fun σ H Q ⟨ρ, m, β, hE, hM, p⟩ => ⟨ρ, m, β, hE, hM, p.bind fun d m1 x H1 β1 _ e1 M1 V1 p1 => by
    split at p1
    · cases V1; exact ⟨_, rfl, p1.ok M1 (.int _)⟩
    · exact p1.not_stuck⟩⟩
/-- a < b < c -/
def mChain (g g' : MV → MV → Mem → Re MV) (fa fb fc : ME) : ME := fun ρ m => (fa ρ m).bind fun a m1 => (fb ρ m1).bind fun b m2 => (g a b m2).bind fun r m3 => match r with
  | .bl true => (fc ρ m3).bind fun c m4 => g' b c m4
  | .bl false => .ok (.bl false) m3
  | _ => .stuck
theorem t_chain {r r' : R2} {g g' : MV → MV → Mem → Re MV} {fa fb fc : ME} (hm : OpM X r g) (hm' : OpM X r' g') {σ : L2.St} {H : Hp} {Q : VK} (h : tE X W (mChain g g' fa fb fc) σ H Q) : tChain r r' (tE X W fa) (tE X W fb) (tE X W fc) σ H Q := by
  obtain ⟨ρ, m, β, hE, hM, p⟩ := h
  refine ⟨ρ, m, β, hE, hM, p.bind fun d m1 x H1 β1 _ e1 M1 V1 p1 => ⟨ρ, m1, β1, hE.ext hM e1, M1, p1.bind fun d2 m2 y H2 β2 _ e2 M2 V2 p2 => hm W σ d d2 m2 β2 H2 x y _ M2 (V1.ext M1 e2) V2 (p2.bind fun d3 m3 z H3 β3 _ e3 M3 V3 p3 => ?_)⟩⟩
  split at p3
  · cases V3
    exact ⟨true, rfl, by rw [if_pos rfl]; exact ⟨ρ, m3, β3, ((hE.ext hM e1).ext M1 e2).ext M2 e3, M3, p3.bind fun d4 m4 u H4 β4 _ e4 M4 V4 p4 => hm' W σ d2 d4 m4 β4 H4 y u Q M4 ((V2.ext M2 e3).ext M3 e4) V4 p4⟩⟩
  · cases V3
    exact ⟨false, rfl, by rw [if_neg Bool.false_ne_true]; exact p3.ok M3 (.bl _)⟩
  · exact p3.not_stuck
theorem je_chain {op op' : CmpOp} {r r' : R2} {g g' : MV → MV → Mem → Re MV} {a b c : Expr} {fa fb fc : ME} (ho : OpR X (compareOp op) r) (ho' : OpR X (compareOp op') r') (hm : OpM X r g) (hm' : OpM X r' g') (ha : JE X W a fa) (hb : JE X W b fb) (hc : JE X W c fc) (hk : lastMarks [op, op'] [b, c] = false := by rfl) :
    JE X W (.Compare a [op, op'] [b, c] pos) (mChain g g' fa fb fc) := ⟨pe_imp (pe_chain ho ho' ha.run hb.run hc.run hk) fun σ H Q h => t_chain hm hm' h⟩
theorem jt_chain {op op' : CmpOp} {r r' : R2} {g g' : MV → MV → Mem → Re MV} {a b c : Expr} {fa fb fc : ME} (ho : OpR X (compareOp op) r) (ho' : OpR X (compareOp op') r') (hm : OpM X r g) (hm' : OpM X r' g') (ha : JE X W a fa) (hb : JE X W b fb) (hc : JE X W c fc) (hk : lastMarks [op, op'] [b, c] = false := by rfl) :
    JT X W (.Compare a [op, op'] [b, c] pos) (mB (mChain g g' fa fb fc)) :=
  ⟨pt_imp (pt_chain ho ho' ha.run hb.run hc.run hk) fun σ H Q ⟨ρ, m, β, hE, hM, p⟩ => t_chain hm hm' ⟨ρ, m, β, hE, hM, by
    unfold mB at p
    exact p.bind fun d m1 x H1 β1 _ e1 M1 V1 p1 => by
      split at p1
      · cases V1; exact ⟨_, rfl, p1.ok M1 rfl⟩
      · exact p1.not_stuck⟩⟩
/-! ### calls of the text's own defs -/
theorem mNil_len : ∀ ρ m ds m1, mNil ρ m = .ok ds m1 → ds.length = 0 := fun _ _ _ _ h => by cases h; rfl
theorem mCons_len {f : ME} {g : MA} {n : Nat} (h : ∀ ρ m ds m1, g ρ m = .ok ds m1 → ds.length = n) : ∀ ρ m ds m1, mCons f g ρ m = .ok ds m1 → ds.length = n + 1 := fun ρ m ds m1 e => by
  unfold mCons at e
  cases e1 : f ρ m with
  | stuck => rw [e1] at e; cases e
  | ex x m2 => rw [e1] at e; cases e
  | ok d m2 =>
    rw [e1] at e
    have e : ((g ρ m2).bind fun ds m2 => .ok (d :: ds) m2) = .ok ds m1 := e
    cases e2 : g ρ m2 with
    | stuck => rw [e2] at e; cases e
    | ex x m3 => rw [e2] at e; cases e
    | ok es m3 =>
      rw [e2] at e
      cases e
      rw [List.length_cons, h ρ m2 es _ e2]
/-- f() -/
theorem je_call0 {k j : Nat} {x : Str} {F : MF} {p : Pos} (Fk : Fn X.prog X.w X.K X.mg X.base k x 0 F) (hr : Room j X.A) (hk : k ≤ j) (tk : Takes X W) (hg : Gl X x := by rfl) (hdb : (x == ("__debug__" : Str)) = false := by decide) : JE X W (.Call (.Name x p) [] [] pos) (mCall F mNil) := by
  obtain ⟨f, fd, ps, h1, h2, h3, h4⟩ := Fk.ex
  refine ⟨⟨fun pins s σ H Q I q => ?_⟩⟩
  obtain ⟨ρ, m, β, hE, hM, p⟩ := q
  refine wpAny_Call_Name_kw (ld_glob I hg h2 ?_ hdb)
  refine PySem.W.callWith_K0 I.kIn h3 (run_fnSD (E := WE W) (us := []) h1 (hr.mono hk) h4 .nil (passAt tk σ) I .nil ?_)
  refine ⟨rfl, [], m, β, .nil, hM, ?_⟩
  have p : Post X W (F [] m) β H σ (fun β' H' d v => RV X.K β' H' d v) Q := p
  revert p
  generalize F [] m = r
  intro p
  cases r with
  | ok d m2 => exact p
  | ex x m2 => exact p
  | stuck => exact p
def mRetN : MS := fun _ m => .ok (.rt .non) m
theorem js_retN : JS X W (.Return none pos) mRetN := ⟨ps_imp ps_retN fun D σ H ⟨ρ, m, β, hE, hM, p⟩ => p .non H β Ext.refl hM .non⟩
/-! ### more built-ins -/
def gMin : List MV → Mem → Re MV
  | [.int i, .int j], m => .ok (.int (if j < i then j else i)) m
  | [.int i, .int j, .int k], m => .ok (.int (if k < (if j < i then j else i) then k else (if j < i then j else i))) m
  | _, _ => .stuck
abbrev rMinA : List V → Hp → VK → Prop := fun xs H Q => (∃ i j, xs = [V.int i, V.int j] ∧ Q (V.int (if j < i then j else i)) H) ∨ rNuC3 nuMin3 xs H Q
theorem cr_min (hc : X.calm = true) : CallR X (.builtin "min") rMinA := cr_or (call_min2 hc) (call_min3Nu hc)
theorem cm_min : CrM X rMinA gMin := by
  intro W σ ds m β H vs Q M V p
  unfold gMin at p
  split at p
  · cases V with | cons h r => cases r with | cons h2 r => cases r; cases h; cases h2; exact .inl ⟨_, _, rfl, p.ok M (.int _)⟩
  · cases V with
    | cons h r =>
      cases r with
      | cons h2 r =>
        cases r with
        | cons h3 r =>
          cases r; cases h; cases h2; cases h3
          rename_i i j k
          refine .inr ⟨_, _, _, _, rfl, ?_, p.ok M (.int _)⟩
          show (nuMin2 (V.int i) (V.int j)).bind (fun m => nuMin2 m (V.int k)) = _
          have e : ∀ a b : Int, nuMin2 (V.int a) (V.int b) = some (V.int (if b < a then b else a)) := fun a b => by
            show Option.map (fun c => if c = true then V.int b else V.int a) (some (decide (b < a))) = _
            by_cases h : b < a <;> simp [h]
          rw [e]
          show nuMin2 (V.int _) (V.int k) = _
          rw [e]
  · exact p.not_stuck
abbrev gAddI := gI0 fun i j => MV.int (i + j)
theorem om_addI : OpM X (rI0 fun i j => V.int (i + j)) gAddI := om_I0 fun _ _ _ _ _ => .int _
/-- more turns than any while here takes -/
def turns : Nat := 1000000
theorem hgs_name {i : Nat} : ∀ d m as, ngName i d m = some as → ∀ p ∈ as, p.1 ∈ [i] := fun d m as h p hp => by
  unfold ngName at h
  cases h
  simp at hp
  subst hp
  simp
end
end MI
namespace MI
open PySem L2
section
variable {X : Cx} {W : WX} {pos : Pos} {K : PySem.W.Frag} {β : List Addr} {H : Hp} {m : Mem}
/-! ### isinstance of a built-in type -/
def tyO : Option MO → Option String
  | some (.lst _) => some "list"
  | some (.frz _) => some "list"
  | some (.dct _) => some "dict"
  | _ => none
def tyM (m : Mem) : MV → Option String
  | .non => some "NoneType"
  | .bl _ => some "bool"
  | .int _ => some "int"
  | .str _ => some "str"
  | .tup _ => some "tuple"
  | .ref n => tyO m[n]?
  | .kl _ => none
theorem RM.ty (R : RM K β H m) {d : MV} {v : V} {t : String} (r : RV K β H d v) (h : tyM m d = some t) : TyX K H v (.type t) := by
  cases r with
  | non => cases h; exact .base .non
  | bl k => cases h; exact .base (.bl k)
  | int i => cases h; exact .base (.int i)
  | str x => cases h; exact .base (.str x)
  | tup h1 h2 =>
    cases h
    rcases h1 with (h1 | ⟨o, h1⟩) | ⟨o, its, n, h1, h2, _⟩
    · exact .base (.tup h1)
    · exact .fTuple h1
    · exact .kTuple h1 h2
  | @ref n a hb =>
    have h' : tyO m[n]? = some t := h
    cases e : m[n]? with
    | none => rw [e] at h'; cases h'
    | some o =>
      rw [e] at h'
      have q := R.ob n o a e hb
      cases o with
      | lst l => cases h'; obtain ⟨vs, q1, q2⟩ := q; exact .base (.lst q1)
      | frz l => cases h'; obtain ⟨vs, ob, q1, q2⟩ := q; exact .base (.frz q1)
      | dct l => cases h'; obtain ⟨vs, q1, q2⟩ := q; exact .base (.dK q1)
      | exn x => cases h'
  | kl _ _ => cases h
def mIsi (T : String) (f : ME) : ME := fun ρ m => (f ρ m).bind fun d m1 => match (tyM m1 d).bind fun t => kitB t T with
  | some b => .ok (.bl b) m1
  | none => .stuck
theorem je_isi (T : String) {e : Expr} {x : Str} {p q : Pos} {f : ME} (h : JE X W e f) (hm : X.mg "isinstance" = none) (hmt : X.mg x = none) (hv : bootBuiltins x = some (.type T)) (hg : Gl X "isinstance" := by rfl) (hgt : Gl X x := by rfl) (hn : x ≠ "__name__" := by decide) (hd : (x == ("__debug__" : Str)) = false := by decide)
    (he : starEach (e :: [.Name x q]) X.env = (false, eval e X.env) :: starEach [.Name x q] X.env := by rfl) (hpl : (backTo pos (starEach [.Name x q] X.env)).any (·.1) = false := by rfl) : JE X W (.Call (.Name "isinstance" p) [e, .Name x q] [] pos) (mIsi T f) :=
  ⟨pe_imp (pe_callB call_isi hg hm (by decide +kernel) (pa_cons h.run (pa_cons (pe_bltn (v := .ty T) hgt hmt hv rfl hn hd) pa_nil) he) (by decide) (by decide) he hpl) fun σ H Q ⟨ρ, m, β, hE, hM, p⟩ => ⟨ρ, m, β, hE, hM, p.bind fun d m1 x H1 β1 _ e1 M1 V1 p1 => by
    split at p1
    · rename_i b hb
      cases ht : tyM m1 d with
      | none => rw [ht] at hb; cases hb
      | some t =>
        rw [ht] at hb
        exact ⟨x, _, _, _, b, rfl, .ty T, M1.ty V1 ht, kit_ty hb, p1.ok M1 (.bl _)⟩
    · exact p1.not_stuck⟩⟩
end
end MI
namespace MI
open PySem L2
/-! ### two ways to let an exception out: anyhow, or with no context -/
/-- what a class of the text must say, to be raised with a text -/
structure ExF (K : PySem.W.Frag) (mg : Str → Option Value) (x : Str) : Prop where
  ex : ∃ C : Addr, ClsN K x C ∧ mg x = some (.ref C) ∧ PySem.W.excIn K C [.type "ValueError", .type "Exception", .type "BaseException", .type "object"] "ValueError.__new__" = true ∧ PySem.W.keepIn K (.ref C) = true ∧
    PySem.W.subIn K (.ref C) (.type "BaseException") = some true ∧ PySem.W.typeIn K (.ref C) = some (.type "type")
structure Mode where
  CX : Program → World → CXT
  Tk : Cx → WX → Prop
  tk0 : ∀ {X : Cx}, Tk X fun _ _ _ _ => False
  pass : ∀ {X : Cx} {W : WX}, Tk X W → ∀ σ, PassesAt (CX X.prog X.w) X σ (WE W σ)
  raise : ∀ {X : Cx} {W : WX} {x m : Str} {j : Nat} {p p2 pos pos' : Pos} {C : Addr}, X.calm = true → Tk X W → PySem.W.excIn X.K C [.type "ValueError", .type "Exception", .type "BaseException", .type "object"] "ValueError.__new__" = true → X.mg x = some (.ref C) → PySem.W.keepIn X.K (.ref C) = true → Raises X (.ref C) → Gl X x → (x == ("__debug__" : Str)) = false →
    PS X (.Raise (some (.Call (.Name x p) [.Constant (.str m) j p2] [] pos)) none pos') (fun _ σ H => W (.ref C) none σ H)
  of : ∀ {X : Cx} {E : XK} {E₁ : Value → Shared → Prop}, X.stack = X.env :: X.outer → X.env.frame = some X.env.locals → X.ex = [] →
    (X.xe = fun e s' => wpAny (model X.prog X.w) X.A (leaving X.env e) (fun _ s'' => CX X.prog X.w X.outer X.H_0 X.s_0 E e s'') E₁ s') → Tk X (fun cls d _ H => E cls d H)
def M2 : Mode where
  CX := L2.CX
  Tk := L2.Takes
  tk0 := takes0
  pass := fun tk σ => L2.passAt tk σ
  raise := fun hc tk q gC kC r hg hd => L2.ps_raise hc tk (L2.pmk_own PySem.F.excBase_ValueError q gC kC r hg hd)
  of := fun hs hf hex hx => L2.takes_of hs hf hex hx
def MN : Mode where
  CX := L2N.CX
  Tk := L2N.Takes
  tk0 := fun u s' ⟨_, _, _, _, _, _, _, _, _, _, _, _, _, _, _, _, h⟩ => h.elim
  pass := fun tk σ => L2N.passAt tk σ
  raise := fun hc tk q gC kC r hg hd => L2N.ps_raise hc tk (L2N.pmk_own PySem.F.excBase_ValueError q gC kC r hg hd)
  of := fun hs hf hex hx => L2N.takes_of hs hf hex hx
/-- a global def that does F, at level k, with n parameters -/
structure FnX (M : Mode) (P : Program) (w : World) (K : PySem.W.Frag) (mg : Str → Option Value) (base : Heap) (k : Nat) (x : Str) (n : Nat) (F : MF) : Prop where
  ex : ∃ (f : Addr) (fd : FuncData) (ps : List Str), FnOk P w K mg base (M.CX P w) k f fd ps (spM K n F) ∧ mg x = some (.ref f) ∧ PySem.W.keepIn K (.ref f) = true ∧ Binds K fd ps []
section
variable {M : Mode} {X : Cx} {W : WX} {pos : Pos} {K : PySem.W.Frag} {β : List Addr} {H : Hp} {m : Mem}
def mRaise (x : Str) : MS := fun ρ m => .ok (.ex ⟨x⟩ ρ) m
theorem jx_raise {x msg : Str} {j : Nat} {p p2 pos pos' : Pos} (T : ExF X.K X.mg x) (hc : X.calm = true) (tk : M.Tk X W) (hg : Gl X x := by rfl) (hd : (x == ("__debug__" : Str)) = false := by decide) : JS X W (.Raise (some (.Call (.Name x p) [.Constant (.str msg) j p2] [] pos)) none pos') (mRaise x) := by
  obtain ⟨C, h1, h2, h3, h4, h5, h6⟩ := T.ex
  exact ⟨ps_imp (M.raise hc tk h3 h2 h4 (raises_own h5 h6) hg hd) fun D σ H ⟨ρ, m, β, hE, hM, p⟩ => p _ _ σ H β Ext.refl hM hE ⟨C, rfl, h1, rfl⟩⟩
theorem jx_call {k j n : Nat} {x : Str} {F : MF} {e : Expr} {es : List Expr} {g : MA} {p pos : Pos} (Fk : FnX M X.prog X.w X.K X.mg X.base k x n F) (hr : Room j X.A) (hk : k ≤ j) (tk : M.Tk X W) (ha : JA X W (e :: es) g)
    (hg : Gl X x := by rfl) (hdb : (x == ("__debug__" : Str)) = false := by decide) (he : starEach (e :: es) X.env = (false, eval e X.env) :: starEach es X.env := by rfl) (hpl : (backTo pos (starEach es X.env)).any (·.1) = false := by rfl)
    (hlen : ∀ ρ m ds m1, g ρ m = .ok ds m1 → ds.length = n) : JE X W (.Call (.Name x p) (e :: es) [] pos) (mCall F g) := by
  obtain ⟨f, fd, ps, h1, h2, h3, h4⟩ := Fk.ex
  refine ⟨pe_imp (pe_callS h1 (hr.mono hk) hg h2 h3 h4 (fun σ => M.pass tk σ) ha.run hdb he hpl) fun σ H Q ⟨ρ, m, β, hE, hM, p⟩ => ⟨ρ, m, β, hE, hM, ?_⟩⟩
  refine p.bind fun ds m1 vs H1 β1 e0 e1 M1 V1 p1 => ⟨by rw [← V1.length]; exact hlen ρ m ds m1 e0, ds, m1, β1, V1, M1, ?_⟩
  revert p1
  generalize F ds m1 = r
  intro p1
  cases r with
  | ok d m2 => exact p1
  | ex x m2 => exact p1
  | stuck => exact p1
theorem jx_call0 {k j : Nat} {x : Str} {F : MF} {p : Pos} (Fk : FnX M X.prog X.w X.K X.mg X.base k x 0 F) (hr : Room j X.A) (hk : k ≤ j) (tk : M.Tk X W) (hg : Gl X x := by rfl) (hdb : (x == ("__debug__" : Str)) = false := by decide) : JE X W (.Call (.Name x p) [] [] pos) (mCall F mNil) := by
  obtain ⟨f, fd, ps, h1, h2, h3, h4⟩ := Fk.ex
  refine ⟨⟨fun pins s σ H Q I q => ?_⟩⟩
  obtain ⟨ρ, m, β, hE, hM, p⟩ := q
  refine wpAny_Call_Name_kw (ld_glob I hg h2 ?_ hdb)
  refine PySem.W.callWith_K0 I.kIn h3 (run_fnSD (E := WE W) (us := []) h1 (hr.mono hk) h4 .nil (M.pass tk σ) I .nil ?_)
  refine ⟨rfl, [], m, β, .nil, hM, ?_⟩
  have p : Post X W (F [] m) β H σ (fun β' H' d v => RV X.K β' H' d v) Q := p
  revert p
  generalize F [] m = r
  intro p
  cases r with
  | ok d m2 => exact p
  | ex x m2 => exact p
  | stuck => exact p
end
section
variable {M : Mode} {P : Program} {w : World} {K : PySem.W.Frag} {mg : Str → Option Value} {base : Heap}
theorem fnx_ok {x qual : Str} {st : Stmt} {f : Addr} {fd : FuncData} {N ps : List Str} {k n : Nat} {g : MS} {F : MF} (Fu : Fun K x qual st f fd) (S : FnScope N ps (defScope st)) (hn : ps.length = n)
    (hF : ∀ ds m, ds.length = n → F ds m = endOf (g (startM N.length ds) m))
    (hb : ∀ (cdv : Value) (A : Around) (outer : List PySem.Env) (s : Shared) (H : Hp) (E : XK), Room k (A.deeper (PyProof.Rows.envOfC qual (defScope st) s.heap.objs.size f cdv)) →
      ∀ W, M.Tk (cxOf (M.CX P w) P w K mg base N qual (defScope st) f cdv A outer s H E) W → PassesOwn (model P w) (cxOf (M.CX P w) P w K mg base N qual (defScope st) f cdv A outer s H E).A (cxOf (M.CX P w) P w K mg base N qual (defScope st) f cdv A outer s H E).env (cxOf (M.CX P w) P w K mg base N qual (defScope st) f cdv A outer s H E).xe →
        JB (cxOf (M.CX P w) P w K mg base N qual (defScope st) f cdv A outer s H E) W (defBody st) g) :
    FnOk P w K mg base (M.CX P w) (k + 1) f fd ps (spM K n F) := by
  obtain ⟨oc, od, kV, doc, pm, an, cdv, ct, osl, rfl, lk, hcd⟩ := Fu.ex
  refine fn_of lk hcd S (fun vs H Q E h => by rw [hn]; exact h.1) fun A outer s H vs Q E hr hsp => ?_
  obtain ⟨hl, ds, m, β, V, Mm, p⟩ := hsp
  have tk : M.Tk (cxOf (M.CX P w) P w K mg base N qual (defScope st) f cdv A outer s H E) (fun cls d _ H' => E cls d H') := M.of rfl rfl rfl rfl
  refine ⟨_, (hb cdv A outer s H E hr _ tk (passes_of rfl)).run, ?_⟩
  refine ⟨startM N.length ds, m, β, RE.start V, Mm, ?_⟩
  rw [hF ds m (by rw [V.length]; exact hl)] at p
  revert p
  generalize g (startM N.length ds) m = r
  intro p
  cases r with
  | ok a m' =>
    cases a with
    | nx ρ => exact fun σ' H' β' e M' _ => p .non H' β' e M' .non
    | bk ρ => exact p.elim
    | ct ρ => exact p.elim
    | rt d => exact fun v H' β' e M' V' => p v H' β' e M' V'
    | ex x ρ => exact fun c d σ' H' β' e M' _ z => p c d H' β' e M' z
  | ex x m' => exact p.elim
  | stuck => exact p
/-- level 0: nothing is promised -/
theorem fnx_0 {x : Str} {n : Nat} {f : Addr} {fd : FuncData} {ps : List Str} (hn : ps.length = n) (h2 : mg x = some (.ref f)) (h3 : PySem.W.keepIn K (.ref f) = true) (h4 : Binds K fd ps []) : FnX M P w K mg base 0 x n (fun _ _ => .stuck) :=
  ⟨f, fd, ps, ⟨fun vs H Q E h => by rw [hn]; exact h.1, fun A outer s H args us vs Q E _ _ _ _ h => by obtain ⟨_, _, _, _, _, _, q⟩ := h; exact q.elim⟩, h2, h3, h4⟩
end
/-! ### try: .. except C: .. -/
section
variable {X : Cx} {W : WX} {pos : Pos} {K : PySem.W.Frag} {β : List Addr} {H : Hp} {m : Mem}
/-- which classes a clause takes -/
def Exm (K : PySem.W.Frag) (c : Value) (P : Str → Option Bool) : Prop := ∀ (y : Str) (C : Addr) (b : Bool), ClsN K y C → P y = some b → PySem.W.exmOne K (.ref C) c = some b
/-- a suite that lets nothing out -/
def noEx (r : Re Fl) : Re Fl := match r with
  | .ok (.ex _ _) _ => .stuck
  | r => r
theorem PostS.noEx {r : Re Fl} {β : List Addr} {H : Hp} {D : Ends} (p : PostS X W (noEx r) β H D) : PostS X W0 r β H D := by
  cases r with
  | ok a m =>
    cases a with
    | ex x ρ => exact p.elim
    | nx ρ => exact p
    | bk ρ => exact p
    | ct ρ => exact p
    | rt d => exact p
  | ex x m => exact p
  | stuck => exact p
def mTry (P : Str → Option Bool) (f g : MS) : MS := fun ρ m => match f ρ m with
  | .ok (.ex x ρ') m' => match P x.cls with
    | some true => noEx (g ρ' m')
    | some false => .ok (.ex x ρ') m'
    | none => .stuck
  | r => r
theorem jx_try {x : Str} {c : Value} {body suite : List Stmt} {b₀ : Stmt} {np pos' : Pos} {f g : MS} {P : Str → Option Bool} (hs : X.stack = X.env :: X.outer) (hf : X.env.frame = some X.env.locals) (hc : Names X x c) (he : Exm X.K c P) (tk : Takes X W)
    (hb : ∀ (W' : WX) (pn : List (Addr × Obj)) (xe : Value → Shared → Prop), Takes (X.tr pn xe) W' → PassesOwn (model X.prog X.w) X.A X.env xe → JB (X.tr pn xe) W' body f)
    (hsu : ∀ (a : Addr) (oe : Obj) (pn : List (Addr × Obj)), JB (X.suite a ((a, oe) :: pn)) W0 (b₀ :: suite) g) :
    JS X W (.Try body [.ExceptHandler (some (.Name x np)) none (b₀ :: suite) pos'] [] [] pos) (mTry P f g) := by
  refine ⟨ps_imp (ps_try_only (tb := fun W' => tS X W' f) (ts := fun _ _ _ => tS X W0 g) hs hf hc tk (fun W' pn xe t h => (hb W' pn xe t h).run) (fun a oe cls d pn _ _ => (hsu a oe pn).run)) fun D σ H q => ?_⟩
  obtain ⟨ρ, m, β, hE, hM, p⟩ := tS_of q
  refine ⟨ρ, m, β, hE, hM, ?_⟩
  unfold mTry at p
  cases hf' : f ρ m with
  | stuck => rw [hf'] at p; exact p
  | ex x m' => rw [hf'] at p; exact p
  | ok a m' =>
    rw [hf'] at p
    cases a with
    | nx ρ' => exact p
    | bk ρ' => exact p
    | ct ρ' => exact p
    | rt d => exact p
    | ex x ρ' =>
      intro cls dd σ' H' β' e M E hx
      obtain ⟨C, rfl, hC, rfl⟩ := hx
      dsimp only at p
      cases hP : P x.cls with
      | none => rw [hP] at p; exact p.elim
      | some b =>
        refine ⟨b, he _ C b hC hP, fun hb1 a ha => ?_, fun hb0 => ?_⟩
        · subst hb1
          rw [hP] at p
          have p : PostS X W (noEx (g ρ' m')) β H D := p
          exact ⟨ρ', m', β', E, M, (PostS.later p e).noEx⟩
        · subst hb0
          rw [hP] at p
          exact p _ none σ' H' β' e M E ⟨C, rfl, hC, rfl⟩
end
end MI
namespace MI
open PySem L2
/-! ### a caught exception is kept behind its suite -/
section
variable {X : Cx} {pins : List (Addr × Obj)} {σ : L2.St} {H : Hp} {s : Shared}
/-- an object that was made behind the entry is known from now on -/
theorem track {a : Addr} {oe : Obj} {vs : Array Value} {o : HO} (I : L2.Inv X pins σ H s) (he : s.heap.get? a = some oe) (hd : oe.data = .fields vs) (n : H a = none) (h0 : X.s_0.heap.get? a = none) (nL : a ≠ X.env.locals)
    (np : ∀ p ∈ X.pn ++ pins, p.1 ≠ a) (ok : ObjOk X.prog X.w (upd H a o) s.heap a o) : L2.Inv X pins σ (upd H a o) s where
  ok := I.ok
  os := I.os
  bare := I.bare
  base :=
    { keep := I.base.keep
      slot := I.base.slot
      free := fun b u q z hx => by
        have hb : b ≠ a := fun e => by rw [e, h0] at q; cases q
        rw [upd_ne hb]
        exact I.base.free b u q z hx
      there := I.base.there
      tups := fun b xs q => by
        have q1 := I.base.tups b xs q
        rw [upd_ne (ne_of_none q1 n)]
        exact q1
      frzs := fun b u xs q => by
        have q1 := I.base.frzs b u xs q
        rw [upd_ne (ne_of_none q1 n)]
        exact q1
      tbls := fun b ps q => by
        obtain ⟨more, q1⟩ := I.base.tbls b ps q
        exact ⟨more, by rw [upd_ne (ne_of_none q1 n)]; exact q1⟩ }
  loc := I.loc
  cell := I.cell
  free := by rw [upd_ne (Ne.symm nL)]; exact I.free
  freeC := fun x c e => by
    have hc : c ≠ a := fun z => by
      obtain ⟨v, ob, q1, q2⟩ := I.cell x c e
      rw [z, he] at q1
      cases q1
      rw [hd] at q2
      cases q2
    rw [upd_ne hc]
    exact I.freeC x c e
  pin := fun p hp => by
    obtain ⟨q1, q2, q3⟩ := I.pin p hp
    exact ⟨q1, by rw [upd_ne (np p hp)]; exact q2, q3⟩
  hok := fun b u q => by
    by_cases hb : b = a
    · subst hb
      rw [upd_same] at q
      cases q
      exact ok
    · rw [upd_ne hb] at q
      exact (I.hok b u q).stay (fun _ _ _ z => z) (fun c z => by rw [upd_ne (ne_of_none z n)]; exact z) fun c xs z => by rw [upd_ne (ne_of_none z n)]; exact z
  len := I.len
end
section
variable {X : Cx} {x n y : Str} {c : Value} {i j : Nat} {body : List Stmt} {np py pn' spos pos pos' : Pos} {tb : WX → TS} {Wout : WX}
/-- what is wanted of an exception in the body: it is taken, and then both names have it, the clause's own goes again; or it goes on -/
def wKeep (K : PySem.W.Frag) (c : Value) (i j : Nat) (Wout : WX) (D : Ends) : WX := fun cls d σ H =>
  ∃ b, PySem.W.exmOne K cls c = some b ∧ (b = true → d = none ∧ ∀ a, H a = none → D.nx (((σ.set i (some (.ref a))).set j (some (.ref a))).set i none) (upd H a (ExH cls a))) ∧ (b = false → Wout cls d σ H)
abbrev keepH (x n y : Str) (np py pn' spos pos' : Pos) : ExceptHandler := .ExceptHandler (some (.Name x np)) (some n) [.Assign [.Name y py] (.Name n pn') spos] pos'
theorem ps_try_keep (hs : X.stack = X.env :: X.outer) (hf : X.env.frame = some X.env.locals) (hex : X.ex = []) (hN : X.N.Nodup) (hi : X.N[i]? = some n) (hln : X.env.kindOf n = some .local) (hj : X.N[j]? = some y) (hly : X.env.kindOf y = some .local) (hc : Names X x c) (tk : Takes X Wout)
    (hd1 : (n == ("__debug__" : Str)) = false) (hd2 : (n == ("__classdict__" : Str)) = false)
    (hb : ∀ (W : WX) (pn : List (Addr × Obj)) (xe : Value → Shared → Prop), Takes (X.tr pn xe) W → PassesOwn (model X.prog X.w) X.A X.env xe → PSs (X.tr pn xe) body (tb W)) :
    PS X (.Try body [keepH x n y np py pn' spos pos'] [] [] pos) (fun D σ H => tb (wKeep X.K c i j Wout D) D σ H) := by
  constructor
  intro pins s σ H D I h
  have ok := I.ok
  have fr : X.A.frames = some (X.env :: X.outer) := ok.frames.trans (congrArg some hs)
  apply wpAny_Try_except
  let M := model X.prog X.w
  let Eb : Value → Shared → Prop := fun e s₁ => wpAny M X.A (noteFrame e X.env) (fun _ s₂ => wpAny M X.A (setFlight e none) (fun _ s₃ => wpAny M X.A (handleBy e X.env [keepH x n y np py pn' spos pos']) (SP X pins D) X.xe s₃) X.xe s₂) X.xe s₁
  have catch_ : Takes (X.tr (X.pn ++ pins) Eb) (wKeep X.K c i j Wout D) := by
    rintro u s' ⟨a, B, sI, ps', σ', H', cls, d, rfl, J', nb, up, sky, na, os, ag, b, hb1, yes, no⟩
    have J : L2.Inv X pins σ' H' sI := J'.ofTry ok
    have sky2 : Sky B (X.env :: X.outer) a (Zc cls d) X.env.locals s'.heap := hs ▸ sky
    refine Sky.land Zc.steady fr hf sky2 ?_
    intro h3 fl3 up3
    obtain ⟨oe3, vs3, he3, hz3, hd3⟩ := fl3.there
    -- the object is no frame's
    have apart : ∀ {h : Heap} {o : Obj} {vs : Array Value}, h.FunFrames B (X.env :: X.outer) → h.get? a = some o → o.data = .fields vs → a ∉ frs (X.env :: X.outer) := by
      intro h o vs ff e dd hm
      obtain ⟨_, o', e', far⟩ := ff.mem hm
      rw [e] at e'
      cases e'
      exact far _ dd
    have nfr := apart fl3.2.2.1 he3 hd3
    have nL : a ≠ X.env.locals := by
      intro z
      exact nfr (List.mem_filterMap.mpr ⟨X.env, List.mem_cons_self, hf.trans (by rw [z])⟩)
    have nF : a ∉ X.fs := by
      intro hm
      obtain ⟨e, he, q⟩ := List.mem_filterMap.mp hm
      exact nfr (List.mem_filterMap.mpr ⟨e, List.mem_cons_of_mem _ he, q⟩)
    -- it is new
    have newI : sI.heap.get? a = none := by
      cases q : sI.heap.get? a with
      | none => rfl
      | some o =>
        have := nb a o q (by rw [hs]; exact nfr)
        rw [fl3.2.1] at this
        cases this
    have new0 : X.s_0.heap.get? a = none := by
      cases q : X.s_0.heap.get? a with
      | none => rfl
      | some o =>
        obtain ⟨o', q'⟩ := J.base.there a o q (by rw [hex]; exact List.not_mem_nil)
        rw [newI] at q'
        cases q'
    have newp : ∀ p ∈ X.pn ++ pins, p.1 ≠ a := by
      intro p hp z
      have := (J.pin p hp).1
      rw [z, newI] at this
      cases this
    have J3 : L2.Inv X pins σ' H' { s' with heap := h3 } := J.landed nb fl3.1 (up.trans up3) os ag
    have S3 := J3.suite he3 hd3 na nL nF
    apply wpAny_handleBy_cons (codeAny_handlers_test ?_) (by intro q; cases q)
    have ty : PySem.W.Looks M h3 (typeOf (.ref a)) cls := fun A Q E s k q => wpAny_typeOf_ref (k _ _ he3) (by rw [hz3.1]; exact q)
    have asks := PySem.W.exm_one (M := M) J3.kIn ty hb1
    have clause : ∀ {Q : Value → Shared → Prop} {E : Value → Shared → Prop}, Q c { s' with heap := h3 } → wpAny M (X.A.mark (some (.ref a))) (eval (.Name x np) X.env) Q E { s' with heap := h3 } := by
      intro Q E q
      obtain ⟨hg, hdbg, hm | ⟨hm, hv, hnn⟩⟩ := hc
      · exact ld_glob (X := X.suite a ((a, oe3) :: (X.pn ++ pins))) S3 hg hm q hdbg
      · exact ld_blt (X := X.suite a ((a, oe3) :: (X.pn ++ pins))) S3 hg hm hv q hnn hdbg
    apply clause
    apply asks.here
    cases b with
    | true =>
      obtain ⟨ed, goes⟩ := yes rfl
      subst ed
      apply codeAny_handlers_suite_as
      apply HandSPX.lands_againZ fl3
      intro h4 fl4 up4
      have J4 : L2.Inv X pins σ' H' { s' with heap := h4 } := J.landed nb fl4.1 ((up.trans up3).trans up4) os ag
      obtain ⟨oe4, vs4, he4, hz4, hd4⟩ := fl4.there
      have S4 := J4.suite he4 hd4 na nL nF
      refine store_ok (X := X.suite a ((a, oe4) :: (X.pn ++ pins))) (v := .ref a) S4 hN hi (.inl hln) rfl ?_ (.inr hln)
      intro s5 S5
      have il : i < σ'.length := by rw [J.len]; exact (List.getElem?_eq_some_iff.mp hi).1
      have one : PSs (X.suite a ((a, oe4) :: (X.pn ++ pins))) [.Assign [.Name y py] (.Name n pn') spos] (tAsg (tVar i) (gName j)) :=
        pss_one (ps_set hN hj (.inl hly) (pe_var hi (.inl hln) hd1 hd2) (by rfl) (.inr hly))
      refine wpAny_mono (one.run [] s5 (σ'.set i (some (.ref a))) H' { nx := fun σ6 H6 => σ6 = (σ'.set i (some (.ref a))).set j (some (.ref a)) ∧ H6 = H', rt := fun _ _ => False } S5 ⟨.ref a, List.getElem?_set_self il, rfl, rfl⟩) ?_ (fun _ _ z => z.elim)
      intro f s6 q6
      cases f with
      | next =>
        obtain ⟨σ6, H6, S6, rfl, rfl⟩ := q6
        obtain ⟨p1, p2, p3, p4, _⟩ := S6.pin (a, oe4) (List.mem_append_left _ List.mem_cons_self)
        have J6 : L2.Inv X pins ((σ'.set i (some (.ref a))).set j (some (.ref a))) H6 s6 := S6.unsuite ok
        have known : ObjOk X.prog X.w (upd H6 a (ExH cls a)) s6.heap a (ExH cls a) :=
          ⟨⟨oe4, vs4, p1, hz4.1, hz4.2, hd4⟩, ⟨oe4, p1⟩, fun _ _ ⟨o, v, q1, q2⟩ st => ⟨o, v, st o q1, q2⟩⟩
        have J7 := track J6 p1 hd4 na new0 nL newp known
        exact gone_ok J7 hN hi hln fun s7 J8 => ⟨_, _, J8, goes a na⟩
      | ret u => obtain ⟨v, σ6, H6, _, _, q⟩ := q6; exact q.elim
      | brk => obtain ⟨σ6, H6, _, q⟩ := q6; exact q.elim
      | cont => obtain ⟨σ6, H6, _, q⟩ := q6; exact q.elim
    | false =>
      show wpAny _ X.A (handleBy (.ref a) X.env []) _ _ _
      apply wpAny_handleBy_nil
      obtain ⟨k1, k2, k3, oe, vs, T, oT, ts', he, hz, hd, h1, hr⟩ := id fl3
      unfold PySem.passOn
      apply wpAny_bind
      apply wpAny_field he hd h1
      rw [if_neg (show ¬ ((Value.ref T == Value.none) = true) from by simp)]
      have fin : wpAny M X.A (setFlight (.ref a) X.env.frame) (fun _ s4 => wpAny M X.A (throw (.ref a) : Sem Flow) (SP X pins D) X.xe s4) X.xe { s' with heap := h3 } := by
        rw [hf]
        apply HandSPX.setFlight_upZ fl3
        intro h4 hh4 up4
        apply wpAny_throw
        apply tk
        exact ⟨a, B, sI, pins, σ', H', cls, d, rfl, J, nb, (up.trans up3).trans up4, .inr (.inr (by rw [hs]; exact hh4)), na, os, ag, no rfl⟩
      first
        | exact wpAny_bind (wpAny_pure (wpAny_bind fin))
        | exact wpAny_bind fin
  refine wpAny_mono ((hb _ (X.pn ++ pins) Eb catch_ PassesOwn.looking).run [] s σ H D (I.toTry _) h) ?_ (fun e s1 he => he)
  intro f s1 q1
  cases f with
  | next =>
    obtain ⟨σ1, H1, J1, q⟩ := q1
    exact wpAny_execs_nil ⟨σ1, H1, J1.ofTry ok, q⟩
  | ret u =>
    obtain ⟨v, σ1, H1, J1, r, q⟩ := q1
    exact ⟨v, σ1, H1, J1.ofTry ok, r, q⟩
  | brk =>
    obtain ⟨σ1, H1, J1, q⟩ := q1
    exact ⟨σ1, H1, J1.ofTry ok, q⟩
  | cont =>
    obtain ⟨σ1, H1, J1, q⟩ := q1
    exact ⟨σ1, H1, J1.ofTry ok, q⟩
end
end MI
namespace MI
open PySem L2
section
variable {X : Cx} {W : WX} {pos : Pos} {K : PySem.W.Frag} {β : List Addr} {H : Hp} {m : Mem}
theorem RE.setN {ρ : Env} {σ : L2.St} {i : Nat} (r : RE K β H ρ σ) : RE K β H (ρ.set i none) (σ.set i none) := by
  refine ⟨by simp [r.len], fun j e q => ?_⟩
  by_cases hj : i = j
  · subst hj
    rw [List.getElem?_set_self'] at q
    cases z : ρ[i]? with
    | none => rw [z] at q; cases q
    | some w => rw [z] at q; cases q
  · rw [List.getElem?_set_ne hj] at q ⊢
    exact r.at_ j e q
def mTryK (P : Str → Option Bool) (i j : Nat) (f : MS) : MS := fun ρ m => match f ρ m with
  | .ok (.ex x ρ') m' => match P x.cls with
    | some true => .ok (.nx (((ρ'.set i (some (.ref m'.length))).set j (some (.ref m'.length))).set i none)) (m' ++ [.exn x])
    | some false => .ok (.ex x ρ') m'
    | none => .stuck
  | r => r
theorem jx_tryK (i j : Nat) {x n y : Str} {c : Value} {body : List Stmt} {np py pn' spos pos' : Pos} {f : MS} {P : Str → Option Bool} (hs : X.stack = X.env :: X.outer) (hf : X.env.frame = some X.env.locals) (hex : X.ex = []) (hN : X.N.Nodup) (hc : Names X x c) (he : Exm X.K c P) (tk : Takes X W)
    (hb : ∀ (W' : WX) (pn : List (Addr × Obj)) (xe : Value → Shared → Prop), Takes (X.tr pn xe) W' → PassesOwn (model X.prog X.w) X.A X.env xe → JB (X.tr pn xe) W' body f)
    (hi : X.N[i]? = some n := by rfl) (hln : X.env.kindOf n = some .local := by rfl) (hj : X.N[j]? = some y := by rfl) (hly : X.env.kindOf y = some .local := by rfl)
    (hd1 : (n == ("__debug__" : Str)) = false := by decide) (hd2 : (n == ("__classdict__" : Str)) = false := by decide) :
    JS X W (.Try body [.ExceptHandler (some (.Name x np)) (some n) [.Assign [.Name y py] (.Name n pn') spos] pos'] [] [] pos) (mTryK P i j f) := by
  refine ⟨ps_imp (ps_try_keep (tb := fun W' => tS X W' f) hs hf hex hN hi hln hj hly hc tk hd1 hd2 (fun W' pn xe t h => (hb W' pn xe t h).run)) fun D σ H q => ?_⟩
  obtain ⟨ρ, m, β, hE, hM, p⟩ := tS_of q
  refine ⟨ρ, m, β, hE, hM, ?_⟩
  unfold mTryK at p
  cases hf' : f ρ m with
  | stuck => rw [hf'] at p; exact p
  | ex x m' => rw [hf'] at p; exact p
  | ok a m' =>
    rw [hf'] at p
    cases a with
    | nx ρ' => exact p
    | bk ρ' => exact p
    | ct ρ' => exact p
    | rt d => exact p
    | ex x ρ' =>
      intro cls dd σ' H' β' e M E hx
      obtain ⟨C, rfl, hC, rfl⟩ := hx
      dsimp only at p
      cases hP : P x.cls with
      | none => rw [hP] at p; exact p.elim
      | some b =>
        refine ⟨b, he _ C b hC hP, fun hb1 => ⟨rfl, fun a ha => ?_⟩, fun hb0 => ?_⟩
        · subst hb1
          rw [hP] at p
          have V : RV X.K (β' ++ [a]) (upd H' a (ExH (.ref C) a)) (.ref m'.length) (.ref a) := .ref (by rw [← M.len]; simp)
          exact p _ _ _ (e.trans (Ext.push ha)) (M.push ha ⟨C, hC, upd_same⟩) ((((E.ext M (Ext.push ha)).set V).set V).setN)
        · subst hb0
          rw [hP] at p
          exact p _ none σ' H' β' e M E ⟨C, rfl, hC, rfl⟩
/-! ### try: .. except C: raise D('m') from None -/
theorem pmk5_text {C : Addr} {x t : Str} {j : Nat} {p p2 : Pos} (q : PySem.W.excIn X.K C [.type "ValueError", .type "Exception", .type "BaseException", .type "object"] "ValueError.__new__" = true) (gC : X.mg x = some (.ref C)) (kC : PySem.W.keepIn X.K (.ref C) = true) (r : Raises X (.ref C)) (hg : Gl X x) (hdb : (x == ("__debug__" : Str)) = false) :
    L2H.PMk5 X (.Call (.Name x p) [.Constant (.str t) j p2] [] pos) (fun _ H Q => Q (.ref C) none H) := by
  intro pins s σ H Q I h
  apply wpAny_Call_Name_kw
  apply ld_glob I hg gC (hd := hdb)
  have args : PA X [.Constant (.str t) j p2] (tCons (tC (.str t)) tNil) := pa_cons pe_str pa_nil
  apply PySem.W.callWith_K (h₀ := X.base) I.ok.mod.kin kC
  apply thn (args.run pos pins s σ H (fun vs H1 => vs = [V.str t] ∧ H = H1) I ⟨rfl, rfl⟩)
  rintro us s1 ⟨vs, H1, I1, r1, rfl, rfl⟩
  refine ⟨I1.kIn, ?_⟩
  obtain ⟨u, rfl⟩ : ∃ u, us = [u] := by
    cases r1 with
    | cons a b => cases b; exact ⟨_, rfl⟩
  show wpAny _ _ (call (.ref C) [u]) _ _ _
  obtain ⟨bm, N, nm, qn, bs, hdct, sn, sub, ab, col, dd, k0, k1, k2, k3, k5, mN, hC, hN, hni, T⟩ := exc_obj I1.kIn q
  apply wpAny_call_exc_subT PySem.F.excBase_ValueError T hC hN hni
  intro h' e hm
  exact L2H.mk_of5 I1 hm r h (I1.hok.gone hm.new)
def mTryF (P : Str → Option Bool) (y : Str) (f : MS) : MS := fun ρ m => match f ρ m with
  | .ok (.ex x ρ') m' => match P x.cls with
    | some true => .ok (.ex ⟨y⟩ ρ') m'
    | some false => .ok (.ex x ρ') m'
    | none => .stuck
  | r => r
theorem jx_tryF {x y t : Str} {c : Value} {body : List Stmt} {np p p2 pos2 pos3 cpos pos' : Pos} {j j2 : Nat} {f : MS} {P : Str → Option Bool} (hs : X.stack = X.env :: X.outer) (hf : X.env.frame = some X.env.locals) (hpa : ∀ hd : Option Value, PassesOwnAt (model X.prog X.w) (X.A.mark hd) X.A X.env X.xe) (hc : Names X x c) (he : Exm X.K c P) (T : ExF X.K X.mg y) (tk : Takes X W)
    (hb : ∀ (W' : WX) (pn : List (Addr × Obj)) (xe : Value → Shared → Prop), L2N.Takes (X.tr pn xe) W' → PassesOwn (model X.prog X.w) X.A X.env xe → JB (X.tr pn xe) W' body f) (hg : Gl X y := by rfl) (hdb : (y == ("__debug__" : Str)) = false := by decide) :
    JS X W (.Try body [.ExceptHandler (some (.Name x np)) none [.Raise (some (.Call (.Name y p) [.Constant (.str t) j p2] [] pos2)) (some (.Constant .none j2 cpos)) pos3] pos'] [] [] pos) (mTryF P y f) := by
  obtain ⟨C, h1, h2, h3, h4, h5, h6⟩ := T.ex
  refine ⟨ps_imp (L2H.ps_try_onlyX (tb := fun W' => tS X W' f) (ts := fun _ _ _ _ σ H => W (.ref C) none σ H) (Wout := W) hs hf hc hpa tk (fun W' pn xe t _ h => (hb W' pn xe t h).run)
    (fun a oe cls d pn _ _ tk' hot => pss_one (L2H.ps_raiseHN hot tk' (pmk5_text (X := L2H.suiteX X a ((a, oe) :: pn)) h3 h2 h4 (raises_own h5 h6) hg hdb)))) fun D σ H q => ?_⟩
  obtain ⟨ρ, m, β, hE, hM, p⟩ := tS_of q
  refine ⟨ρ, m, β, hE, hM, ?_⟩
  unfold mTryF at p
  cases hf' : f ρ m with
  | stuck => rw [hf'] at p; exact p
  | ex x m' => rw [hf'] at p; exact p
  | ok a m' =>
    rw [hf'] at p
    cases a with
    | nx ρ' => exact p
    | bk ρ' => exact p
    | ct ρ' => exact p
    | rt d => exact p
    | ex x ρ' =>
      intro cls dd σ' H' β' e M E hx
      obtain ⟨C', rfl, hC, rfl⟩ := hx
      dsimp only at p
      cases hP : P x.cls with
      | none => rw [hP] at p; exact p.elim
      | some b =>
        refine ⟨b, he _ C' b hC hP, fun hb1 a ha => ?_, fun hb0 => ?_⟩
        · subst hb1
          rw [hP] at p
          exact p _ none σ' H' β' e M E ⟨C, rfl, h1, rfl⟩
        · subst hb0
          rw [hP] at p
          exact p _ none σ' H' β' e M E ⟨C', rfl, hC, rfl⟩
/-! ### isinstance of a kept exception -/
def rIsX (K : PySem.W.Frag) : List V → Hp → VK → Prop := fun xs H Q => ∃ (a D : Addr) (c : V) (cv : Value) (b : Bool), xs = [.ref a, c] ∧ H a = some (ExH (.ref D) a) ∧ ExcC K D ∧ (∀ u, RelV c u → u = cv) ∧ PySem.W.kitOne K (.ref D) cv = some b ∧ Q (.bl b) H
theorem call_isx : CallR X (.builtin "isinstance") (rIsX X.K) := by
  intro pins s σ H xs us Q I r h
  obtain ⟨a, D, c, cv, b, rfl, hH, C, hcv, e, q⟩ := h
  cases r with
  | cons rx rr =>
    cases rr with
    | cons rt rr =>
      cases rr
      cases rx
      obtain rfl := hcv _ rt
      obtain ⟨⟨oe, vs, g1, g2, g3, g4⟩, _, _⟩ := I.hok a _ hH
      have J : PySem.W.InstAt s.heap a oe D none := by
        cases oe
        dsimp only at g2 g3 g4
        subst g2 g3 g4
        exact ⟨g1, rfl, rfl, trivial⟩
      exact PySem.W.kia_one (PySem.W.handS_kitx_exc C.hg C.hk C.hs C.hd C.ha C.hn C.ht C.hm) I.kIn J e (fun z => nomatch z) fun tk => ⟨.bl b, H, I.kept (t' := tk) fun _ _ z => z, rfl, q⟩
/-- what a class says of the exceptions' classes -/
structure Isx (K : PySem.W.Frag) (cv : Value) (P : Str → Option Bool) : Prop where
  one : ∀ (y : Str) (D : Addr) (b : Bool), ClsN K y D → P y = some b → ExcC K D ∧ PySem.W.kitOne K (.ref D) cv = some b
  non : PySem.W.kitOne K (.type "NoneType") cv = some false
def exnOf (m : Mem) : MV → Option Exn
  | .ref n => match m[n]? with
    | some (.exn x) => some x
    | _ => none
  | _ => none
def isxV (P : Str → Option Bool) (m : Mem) : MV → Option Bool
  | .non => some false
  | d => (exnOf m d).bind fun x => P x.cls
def mIsx (P : Str → Option Bool) (f : ME) : ME := fun ρ m => (f ρ m).bind fun d m1 => match isxV P m1 d with
  | some b => .ok (.bl b) m1
  | none => .stuck
theorem je_isx {e ce : Expr} {p : Pos} {f : ME} {c : V} {cv : Value} {P : Str → Option Bool} (h : JE X W e f) (hcv : ∀ u, RelV c u → u = cv) (hcl : ClsV c cv) (hce : PE X ce (tC c)) (T : Isx X.K cv P) (hm : X.mg "isinstance" = none) (hg : Gl X "isinstance" := by rfl)
    (he : starEach (e :: [ce]) X.env = (false, eval e X.env) :: starEach [ce] X.env := by rfl) (he2 : starEach (ce :: []) X.env = (false, eval ce X.env) :: starEach [] X.env := by rfl) (hpl : (backTo pos (starEach [ce] X.env)).any (·.1) = false := by rfl) : JE X W (.Call (.Name "isinstance" p) [e, ce] [] pos) (mIsx P f) :=
  ⟨pe_imp (pe_callB (cr_or call_isi call_isx) hg hm (by decide +kernel) (pa_cons h.run (pa_cons hce pa_nil he2) he) (by decide) (by decide) he hpl) fun σ H Q ⟨ρ, m, β, hE, hM, p⟩ => ⟨ρ, m, β, hE, hM, p.bind fun d m1 x H1 β1 _ e1 M1 V1 p1 => by
    show rIsi X.K [x, c] H1 Q ∨ rIsX X.K [x, c] H1 Q
    split at p1
    · rename_i b hb
      unfold isxV at hb
      split at hb
      · cases hb
        cases V1
        exact .inl ⟨_, _, _, _, false, rfl, hcl, .base .non, T.non, p1.ok M1 (.bl _)⟩
      · cases hx : exnOf m1 d with
        | none => rw [hx] at hb; cases hb
        | some y =>
          rw [hx] at hb
          unfold exnOf at hx
          split at hx
          · split at hx
            · rename_i x' hm1
              cases hx
              cases V1 with
              | ref hbn =>
                obtain ⟨C, hC, hH⟩ := M1.ob _ _ _ hm1 hbn
                obtain ⟨t1, t2⟩ := T.one _ C b hC hb
                exact .inr ⟨_, C, c, cv, b, rfl, hH, t1, hcv, t2, p1.ok M1 (.bl _)⟩
            · cases hx
          · cases hx
    · exact p1.not_stuck⟩⟩
end
end MI
namespace PySem
open Sem (wp)
set_option maxHeartbeats 1000000 in
theorem mi_meets_enum {v : Value} {o : Obj} {H : Heap → Prop} (B : Begins v o H) :
    Meets (Builtin.«enumerate.__new__» ⟨[.type "enumerate", v], []⟩) (fun _ R s => H s.heap ∧
        R (.ok (.ret (.ref (s.heap.push o).objs.size))) { s with heap := (s.heap.push o).push { cls := .type "enumerate", data := .fields #[.none, .bool false, .ref s.heap.objs.size, rawInt 0, .none, .none] } }) :=
  .of_wp fun prog w A R s hh => by
    obtain ⟨hp, gs, ds, ts, oss⟩ := s
    obtain ⟨hb, hR⟩ := hh
    have hsubc := sub_enumerate
    have walk1 : ∀ {A' : Around} {E : Value → Shared → Prop} {Q : Value → Shared → Prop}, Q (.ref hp.objs.size) ⟨hp.push o, gs, ds, ts, oss⟩ → wpAny (model prog w) A' (pyIter v) Q E ⟨hp, gs, ds, ts, oss⟩ := fun z => B.iter prog w _ _ ⟨hp, gs, ds, ts, oss⟩ _ hb z
    wp_walk using walk1
    refine wpAny_stack_any fun st => ?_
    refine wpAny_pure ?_
    split
    next c _ _ _ _ _ =>
      cases (c == Value.type "enumerate") <;> (wp_walk using walk1; exact ⟨_, rfl, hR⟩)
    next => wp_walk using walk1; exact ⟨_, rfl, hR⟩
theorem mi_enum {prog : Program} {w : World} {A : Around} {E : Value → Shared → Prop} {s : Shared} {v : Value} {o : Obj} {H : Heap → Prop} {Q : Value → Shared → Prop} (B : Begins v o H) (h1 : H s.heap)
    (h : ∀ h', IsEnum h' (s.heap.objs.size + 1) s.heap.objs.size 0 .none → h'.get? s.heap.objs.size = some o → (∀ b o, s.heap.get? b = some o → h'.get? b = some o) → Q (.ref (s.heap.objs.size + 1)) { s with heap := h' }) :
    wpAny (model prog w) A (call (.type "enumerate") [v]) Q E s := by
  refine callType_new F.called_enumerate (by decide) (F.typeCall_enumerate_1 _) (F.newCall_enumerate_1 _) (fun obj => F.args_object_init_2 obj _) F.entry_enumerate_new (mi_meets_enum B) ⟨h1, ?_⟩
  have sz : (s.heap.push o).objs.size = s.heap.objs.size + 1 := Heap.size_push ..
  show _ ∧ _
  rw [sz]
  have he := Heap.get?_push_size (s.heap.push o) (o := { cls := .type "enumerate", data := .fields #[.none, .bool false, .ref s.heap.objs.size, rawInt 0, .none, .none] }) rfl
  rw [sz] at he
  exact ⟨⟨_, he, rfl⟩, h _ he (Heap.get?_push_of_some _ (Heap.get?_push_size _ B.free)) fun b o' x => Heap.get?_push_of_some _ (Heap.get?_push_of_some _ x)⟩
end PySem
namespace MI
open PySem L2
/-- a tuple's items with their numbers -/
def ItEt (K : PySem.W.Frag) (a : Addr) : It :=
  ⟨fun i H => ∃ (xs : List V) (x : V), SqT K H a xs ∧ xs[i]? = some x, fun i H v H' => ∃ T x, v = .ref T ∧ H T = none ∧ H' = upd H T (.tup [.int (i : Nat), x]) ∧ ∀ xs, SqT K H a xs → xs[i]? = some x, fun i H => ∃ xs : List V, SqT K H a xs ∧ xs.length = i⟩
section
variable {X : Cx} {W : WX} {pos : Pos} {K : PySem.W.Frag} {β : List Addr} {H : Hp} {m : Mem}
theorem mi_turn {P : Program} {w : World} {K : PySem.W.Frag} {elts : List Expr} {kk : Nat} {tpos : Pos} (a e it : Addr) :
    Turn P w K (.Tuple elts kk tpos) (ItEt K a) [e, it] e (fun i h => (∃ old, IsEnum h e it ((i : Nat) : Int) old) ∧ h.IsTupleIter it a i ∧ e ≠ it ∧ a ≠ it ∧ a ≠ e) where
  mem := by simp
  obj := fun i h st b hb => by
    obtain ⟨⟨old, he⟩, ⟨o, ho, hc, hd⟩, _⟩ := st
    rcases (by simpa using hb : b = e ∨ b = it) with rfl | rfl
    · exact ⟨_, he, fun v q => nomatch q⟩
    · exact ⟨o, ho, fun v q => by rw [hd] at q; cases q⟩
  keep := fun i h h' st k => let ⟨⟨old, he⟩, hi, hne⟩ := st; ⟨⟨old, k e (by simp) _ he⟩, hi.at fun o q => k it (by simp) o q, hne⟩
  item := by
    intro X hP hw hK hc i pins s σ H E I hf st hg
    subst hP hw hK
    obtain ⟨⟨old, he⟩, hit, hne, n1, n2⟩ := st
    obtain ⟨xs, x, hq, hx⟩ := hg
    obtain ⟨its, rv, p, hz⟩ := I.tuple hq
    obtain ⟨u, hu, ru⟩ := rv.get hx
    have p' : s.heap.IsTuple a its.toArray := p
    have hel : e < s.heap.objs.size := Heap.lt_size he
    have hil : it < s.heap.objs.size := by obtain ⟨_, q, _⟩ := hit; exact Heap.lt_size q
    have hi : i < its.length := (List.getElem?_eq_some_iff.mp hu).1
    refine wpAny_pyNext_enum_itemD (D := Draws.tuple (prog := X.prog) (w := X.w) (A := X.A.in1) (I.ok.hd hc) it a n1 its.toArray) he ⟨hit, p'⟩ (by simpa using hi) hne (by simp [hne, Ne.symm n2]) fun x' h' tk hP ho hst hT hsz hk => ?_
    have hxu : x' = u := by
      have := hP
      simp only [List.getElem?_toArray] at this
      rw [hu] at this
      exact (Option.some.inj this).symm
    subst hxu
    refine ⟨_, rfl, wpAny_letOwnedTupleGo_enum (s := { s with heap := h', toks := tk + 1 }) ho fun h'' he' sb => ?_⟩
    have hT2 : h''.get? s.heap.objs.size = some { cls := .type "tuple", data := .seq #[.int i tk, x'] } := (sb.2 _ (Nat.ne_of_gt hel)).trans hT
    have new : ObjOk X.prog X.w (upd H s.heap.objs.size (.tup [.int (i : Nat), x])) h'' s.heap.objs.size (.tup [.int (i : Nat), x]) :=
      ⟨by show 2 ≤ sizeLine; decide, [.int i tk, x'], .cons ⟨_, rfl⟩ (.cons ru .nil), ⟨_, hT2, rfl, _, rfl⟩⟩
    have I1 : Inv X pins σ (upd H s.heap.objs.size (.tup [.int (i : Nat), x])) { s with heap := h'', toks := tk + 1 } :=
      I.turnedNew (ch := [e, it]) (fun b ob hb q => (sb.2 b (fun z => hb (by simp [z]))).trans (hk b ob (fun z => hb (by simp [z])) (fun z => hb (by simp [z])) q)) hf (Nat.le_refl _) new
    refine ⟨.ref s.heap.objs.size, _, I1, rfl, ⟨_, x, rfl, I.hok.fresh (Nat.le_refl _), rfl, fun ys hy => by rw [I.tuple_inj hy hq]; exact hx⟩, ⟨⟨x', ?_⟩, hst.1.at fun o q => (sb.2 it (Ne.symm hne)).trans q, hne, n1, n2⟩, fun b hb => ?_⟩
    · have e1 : ((i + 1 : Nat) : Int) = (i : Int) + 1 := by omega
      rw [e1]; exact he'
    · have hb' : b < s.heap.objs.size := by
        rcases (by simpa using hb : b = e ∨ b = it) with rfl | rfl
        · exact hel
        · exact hil
      rw [upd_ne (Nat.ne_of_lt hb')]
      exact (hf b hb).1
  done := by
    intro X hP hw hK hc i pins s σ H E I hf st hg
    subst hP hw hK
    obtain ⟨⟨old, he⟩, hit, hne, n1, n2⟩ := st
    obtain ⟨xs, hq, hx⟩ := hg
    obtain ⟨its, rv, p, hz⟩ := I.tuple hq
    have p' : s.heap.IsTuple a its.toArray := p
    obtain ⟨f0, f1, f2, f3, f4, f5⟩ := hf it (by simp)
    have hl := rv.length
    have D := Draws.tuple (prog := X.prog) (w := X.w) (A := X.A.in1) (I.ok.hd hc) it a n1 its.toArray
    have e0 : i = its.toArray.size := by simp; omega
    rw [e0] at hit
    refine wpAny_pyNext_enum_endD D he ⟨hit, p'⟩ fun h' eb => ⟨rfl, I.turned (t' := s.toks) (fun b o hb q => eb b o hb q) f0 f1 f3 f4 f5⟩
  self := fun A i s Q E st h => let ⟨⟨_, he⟩, _⟩ := st; wpAny_pyIter_enum he h
/-! ### enumerate -/
/-- the items with their numbers -/
def numd (l : List MV) : List MV := (List.range l.length).zipWith (fun (i : Nat) x => .tup [.int i, x]) l
def enumOf : List MV → Mem → Re IterM
  | [.tup l], m => .ok ⟨numd l, fun _ => True⟩ m
  | [.ref n], m => match lstOf m (.ref n) with
    | some l => .ok ⟨numd l, fun m' => lstOf m' (.ref n) = some l⟩ m
    | none => .stuck
  | _, _ => .stuck
def mEnum (g : MA) : MI' := fun ρ m => (g ρ m).bind enumOf
def iEnumA (K : PySem.W.Frag) (ta : TA) : TI := fun σ H R => ta σ H fun vs H1 => ∃ a xs, vs = [.ref a] ∧ ((SqL K H1 a xs ∧ R (Ite K a) H1) ∨ (SqT K H1 a xs ∧ R (ItEt K a) H1))
theorem pi_enumA {e : Expr} {ta : TA} {p tpos : Pos} {elts : List Expr} {kk : Nat} (hg : Gl X "enumerate") (hm : X.mg "enumerate" = none) (ha : PA X [e] ta) (hs : starEach [e] X.env = [(false, eval e X.env)]) :
    PI X (.Tuple elts kk tpos) (.Call (.Name "enumerate" p) [e] [] pos) (iEnumA X.K ta) := by
  refine ⟨fun pins s σ H R I h => ?_⟩
  refine PyProof.Rows.Call_ (ld_blt I hg hm PyProof.Rows.boot_enumerate (PyProof.Rows.callWith_type1 (thn (ha.run pos pins s σ H _ I h) fun us s1 z => ?_) hs rfl))
  obtain ⟨vs, H1, I1, r1, a, xs, ex, q⟩ := z
  subst ex
  cases r1 with
  | cons r rr =>
    cases rr
    cases r
    have fp : ∀ b, b = s1.heap.objs.size + 1 ∨ b = s1.heap.objs.size → ∀ {h' : Heap}, Inv X pins σ H1 { s1 with heap := h' } → FpOk X pins H1 b := by
      intro b hb h' _
      have hle : s1.heap.objs.size ≤ b := by rcases hb with rfl | rfl <;> omega
      exact I1.fpOk hle (I1.hok.fresh hle)
    rcases q with ⟨hq, q⟩ | ⟨hq, q⟩
    · obtain ⟨its, rv, p', hz⟩ := I1.list hq
      refine call_enumerate_list p'.isList fun h' he hit hsz hk => wpAny_pyIter_enum he ?_
      have I2 : Inv X pins σ H1 { s1 with heap := h' } := I1.kept (t' := s1.toks) hk
      exact ⟨s1.heap.objs.size + 1, [s1.heap.objs.size + 1, s1.heap.objs.size], _, _, H1, rfl, I2, turn_enum a (s1.heap.objs.size + 1) s1.heap.objs.size, ⟨⟨.none, he⟩, hit, Nat.succ_ne_self _⟩, fun b hb => fp b (by simpa using hb) I2, q⟩
    · obtain ⟨its, rv, p', hz⟩ := I1.tuple hq
      have p2 : s1.heap.IsTuple a its.toArray := p'
      have la : a < s1.heap.objs.size := by obtain ⟨_, z, _⟩ := p2; exact Heap.lt_size z
      refine mi_enum (begins_tuple a its.toArray) p2 fun h' he hit hk => wpAny_pyIter_enum he ?_
      have I2 : Inv X pins σ H1 { s1 with heap := h' } := I1.kept (t' := s1.toks) hk
      exact ⟨s1.heap.objs.size + 1, [s1.heap.objs.size + 1, s1.heap.objs.size], _, _, H1, rfl, I2, mi_turn a (s1.heap.objs.size + 1) s1.heap.objs.size, ⟨⟨.none, he⟩, ⟨_, hit, rfl, rfl⟩, Nat.succ_ne_self _, Nat.ne_of_lt la, Nat.ne_of_lt (Nat.lt_succ_of_lt la)⟩, fun b hb => fp b (by simpa using hb) I2, q⟩
theorem zw_get {l : List MV} {i : Nat} {d : MV} (h : (numd l)[i]? = some d) : ∃ x, l[i]? = some x ∧ d = .tup [.int (i : Nat), x] := by
  unfold numd at h
  rw [List.getElem?_zipWith] at h
  cases e : l[i]? with
  | none => rw [e] at h; cases h' : (List.range l.length)[i]? <;> rw [h'] at h <;> cases h
  | some x =>
    have hi : i < l.length := (List.getElem?_eq_some_iff.mp e).1
    rw [e, List.getElem?_range hi] at h
    exact ⟨x, rfl, (Option.some.inj h).symm⟩
@[simp] theorem zw_len {l : List MV} : (numd l).length = l.length := by simp [numd]
/-- a new pair is laid -/
theorem lay_pair {x y : MV} {u v : V} {T : Addr} (M : RM K β H m) (h1 : RV K β H x u) (h2 : RV K β H y v) (hT : H T = none) : Ext β H β (upd H T (.tup [u, v])) ∧ RM K β (upd H T (.tup [u, v])) m ∧ RV K β (upd H T (.tup [u, v])) (.tup [x, y]) (.ref T) := by
  have e : Ext β H β (upd H T (.tup [u, v])) := Ext.tup hT
  exact ⟨e, M.tup hT, .tup (.inl (.inl upd_same)) (.cons (h1.ext M e) (.cons (h2.ext M e) .nil))⟩
theorem walkM_enumT {a : Addr} {l : List MV} {vs : List V} (M : RM K β H m) (h : SqT K H a vs) (r : RVs K β H l vs) : WalkM K β H ⟨numd l, fun _ => True⟩ (ItEt K a) := by
  refine ⟨fun H1 => SqT K H1 a vs, fun i H1 x H2 => ∃ T y, x = .ref T ∧ H1 T = none ∧ H2 = upd H1 T (.tup [.int (i : Nat), y]) ∧ vs[i]? = some y, ⟨fun i H1 hi g => ?_, fun H1 g => ?_, fun i H1 x H2 _ g y => ?_⟩, fun β1 H1 m1 e M1 _ => M.sqt e h, fun i H1 x H2 β1 m1 d e M1 _ hi y => ?_⟩
  · have hi : i < vs.length := by rw [← r.length]; simpa using hi
    exact ⟨vs, vs[i], g, by simp [hi]⟩
  · exact ⟨vs, g, by rw [← r.length]; simp⟩
  · obtain ⟨T, x', q1, q2, q3, q4⟩ := y
    exact ⟨T, x', q1, q2, q3, q4 vs g⟩
  · obtain ⟨T, y, rfl, q2, rfl, q4⟩ := y
    obtain ⟨x, hx, rfl⟩ := zw_get hi
    obtain ⟨v, h1, h2⟩ := (r.ext M e).get hx
    rw [h1] at q4; cases q4
    exact lay_pair M1 (.int _) h2 q2
theorem walkM_enumL {a : Addr} {d : MV} {l : List MV} (M : RM K β H m) (rd : RV K β H d (.ref a)) (h : lstOf m d = some l) : WalkM K β H ⟨numd l, fun m' => lstOf m' d = some l⟩ (Ite K a) := by
  refine ⟨fun H1 => ∃ vs, SqL K H1 a vs ∧ vs.length = l.length, fun i H1 x H2 => ∃ T y, x = .ref T ∧ H1 T = none ∧ H2 = upd H1 T (.tup [.int (i : Nat), y]) ∧ ∀ vs, SqL K H1 a vs → vs[i]? = some y, ⟨fun i H1 hi g => ?_, fun H1 g => ?_, fun i H1 x H2 _ g y => y⟩, fun β1 H1 m1 e M1 hc => ?_, fun i H1 x H2 β1 m1 d' e M1 hc hi y => ?_⟩
  · obtain ⟨vs, g1, g2⟩ := g
    have hi' : i < vs.length := by rw [g2]; simpa using hi
    exact ⟨vs, vs[i], g1, by simp [hi']⟩
  · obtain ⟨vs, g1, g2⟩ := g
    exact ⟨vs, g1, by rw [g2]; simp⟩
  · obtain ⟨a', vs, e1, h1, h2⟩ := M1.lst (rd.ext M e) hc
    cases e1
    exact ⟨vs, h1, h2.length.symm⟩
  · obtain ⟨T, y, rfl, q2, rfl, q4⟩ := y
    obtain ⟨x, hx, rfl⟩ := zw_get hi
    obtain ⟨a', vs, e1, h1, h2⟩ := M1.lst (rd.ext M e) hc
    cases e1
    obtain ⟨v, z1, z2⟩ := h2.get hx
    have := q4 vs h1
    rw [z1] at this; cases this
    exact lay_pair M1 (.int _) z2 q2
theorem ji_enum {e : Expr} {g : MA} {p tpos : Pos} {elts : List Expr} {kk : Nat} (hm : X.mg "enumerate" = none) (ha : JA X W [e] g) (hg : Gl X "enumerate" := by rfl) (hs : starEach [e] X.env = [(false, eval e X.env)] := by rfl) : JI X W (.Tuple elts kk tpos) (.Call (.Name "enumerate" p) [e] [] pos) (mEnum g) := by
  refine ⟨pi_imp (pi_enumA hg hm ha.run hs) fun σ H R ⟨ρ, m, β, hE, hM, p⟩ => ⟨ρ, m, β, hE, hM, ?_⟩⟩
  have p : PostI X W ((g ρ m).bind enumOf) β H σ R := p
  cases hf : g ρ m with
  | stuck => rw [hf] at p; exact p.elim
  | ex x m1 => rw [hf] at p; exact p
  | ok ds m1 =>
    rw [hf] at p
    intro vs H1 β1 e1 M1 V1
    have p : PostI X W (enumOf ds m1) β H σ R := p
    unfold enumOf at p
    split at p
    · cases V1 with
      | cons V1 V2 =>
        cases V2
        cases V1 with
        | tup h1 h2 => exact ⟨_, _, rfl, .inr ⟨h1, p _ _ _ e1 M1 (walkM_enumT M1 h1 h2)⟩⟩
    · cases V1 with
      | cons V1 V2 =>
        cases V2
        split at p
        · rename_i l hl
          obtain ⟨a, vs, rfl, h1, h2⟩ := M1.lst V1 hl
          exact ⟨a, vs, rfl, .inl ⟨h1, p _ _ _ e1 M1 (walkM_enumL M1 V1 hl)⟩⟩
        · exact p.elim
    · exact p.elim
end
end MI
namespace PySem
open Sem (wp)
/-! ### tuple(zip(list, list)) -/
theorem F.mi_zip_len : typeLookup (.type "zip") "__len__" = pure none := by rw [typeLookup_type, builtinLookup_eq_fast]; kernel_rfl
theorem F.mi_zip_hint : typeLookup (.type "zip") "__length_hint__" = pure none := by rw [typeLookup_type, builtinLookup_eq_fast]; kernel_rfl
structure ZSet (z TI TO i1 i2 l1 l2 S N : Addr) : Prop where
  D : ZipApart z TI TO i1 i2 l1 l2
  Sz : S ≠ z
  SI : S ≠ TI
  SO : S ≠ TO
  S1 : S ≠ i1
  S2 : S ≠ i2
  Sl1 : S ≠ l1
  Sl2 : S ≠ l2
  Lz : z < N
  LI : TI < N
  LO : TO < N
  L1 : i1 < N
  L2 : i2 < N
  LS : S < N
structure ZFin (h0 : Heap) (S N : Addr) (xs ys acc : Array Value) (h : Heap) : Prop where
  keep : ∀ b o, h0.get? b = some o → h.get? b = some o
  lst : ∃ c, h.get? S = some { cls := .type "list", dict := none, data := .seq acc c, slots := #[] }
  items : ∀ (j : Nat) (v : Value), acc[j]? = some v → ∃ T x y, v = .ref T ∧ N ≤ T ∧ IsPair h T x y ∧ xs[j]? = some x ∧ ys[j]? = some y
  above : h0.objs.size ≤ N
  inc : ∀ (j k T U : Nat), acc[j]? = some (.ref T) → acc[k]? = some (.ref U) → j < k → T < U
structure ZAt (h0 : Heap) (z TI TO i1 i2 l1 l2 S N : Addr) (xs ys : Array Value) (i : Nat) (acc : Array Value) (h : Heap) : Prop extends ZFin h0 S N xs ys acc h where
  zst : IsZip h z TI TO .none ∨ ∃ T f oT, IsZipHeld h z TI TO T f ∧ h.get? T = some oT ∧ N ≤ T
  ti : IsPair h TI (.ref i1) (.ref i2)
  to : ∃ a b, IsPair h TO a b
  it1 : h.IsListIter i1 l1 i
  it2 : h.IsListIter i2 l2 i
  low : N ≤ h.objs.size
  top : ∀ (j T : Nat), acc[j]? = some (.ref T) → T < h.objs.size
  in0 : ∀ b o, h0.get? b = some o → b ≠ z ∧ b ≠ TI ∧ b ≠ TO ∧ b ≠ i1 ∧ b ≠ i2 ∧ b ≠ S
section
variable {prog : Program} {w : World} {A : Around} {R : Result → Shared → Prop} {h0 : Heap} {z TI TO i1 i2 l1 l2 S N : Addr} {xs ys : Array Value}
theorem ZFin.pair {h h' : Heap} {acc : Array Value} (a : ZFin h0 S N xs ys acc h) (hz : S < N) (k : ∀ b o, (b = S ∨ N ≤ b ∨ ∃ o, h0.get? b = some o) → h.get? b = some o → h'.get? b = some o) : ZFin h0 S N xs ys acc h' where
  keep := fun b o e => k b o (.inr (.inr ⟨o, e⟩)) (a.keep b o e)
  lst := let ⟨c, e⟩ := a.lst; ⟨c, k S _ (.inl rfl) e⟩
  items := fun j v e => let ⟨T, x, y, e1, e2, e3, e4⟩ := a.items j v e; ⟨T, x, y, e1, e2, k T _ (.inr (.inl e2)) e3, e4⟩
  above := a.above
  inc := a.inc
theorem ZAt.next {i : Nat} {s : Shared} {acc : Array Value} {Q : Option Value → Shared → Prop} {E : Value → Shared → Prop} {x y : Value} (Z : ZSet z TI TO i1 i2 l1 l2 S N) (h1 : h0.IsList l1 xs) (h2 : h0.IsList l2 ys) (a : ZAt h0 z TI TO i1 i2 l1 l2 S N xs ys i acc s.heap)
    (hx : xs[i]? = some x) (hy : ys[i]? = some y)
    (hQ : ∀ h', ZAt h0 z TI TO i1 i2 l1 l2 S N xs ys (i + 1) acc h' → IsPair h' s.heap.objs.size x y → Q (some (.ref s.heap.objs.size)) { s with heap := h' }) : wpAny (model prog w) A (pyNext (.ref z)) Q E s := by
  have hl1 : s.heap.IsList l1 xs := h1.at fun o e => a.keep l1 o e
  have hl2 : s.heap.IsList l2 ys := h2.at fun o e => a.keep l2 o e
  rcases a.zst with q | ⟨T, f, oT, q, qT, qN⟩
  · obtain ⟨u, v, hTO⟩ := a.to
    refine wpAny_pyNext_zip_item Z.D q a.ti hTO a.it1 a.it2 hl1 hl2 hx hy fun h' g1 g2 g3 g4 g5 g6 g7 => hQ h' ?_ g5
    have kp : ∀ b o, (b = S ∨ N ≤ b ∨ ∃ o, h0.get? b = some o) → s.heap.get? b = some o → h'.get? b = some o := fun b o hb e => by
      rcases hb with rfl | hb | ⟨o', hb⟩
      · exact g7 _ _ Z.Sz Z.SO Z.S1 Z.S2 e
      · exact g7 _ _ (Nat.ne_of_gt (Nat.lt_of_lt_of_le Z.Lz hb)) (Nat.ne_of_gt (Nat.lt_of_lt_of_le Z.LO hb)) (Nat.ne_of_gt (Nat.lt_of_lt_of_le Z.L1 hb)) (Nat.ne_of_gt (Nat.lt_of_lt_of_le Z.L2 hb)) e
      · obtain ⟨q1, _, q3, q4, q5, _⟩ := a.in0 b o' hb
        exact g7 _ _ q1 q3 q4 q5 e
    exact { toZFin := a.toZFin.pair Z.LS kp
            zst := .inr ⟨_, false, _, g1, g5, a.low⟩
            ti := g7 _ _ Z.D.TIz Z.D.TITO Z.D.TIi1 Z.D.TIi2 a.ti
            to := ⟨_, _, g2⟩
            it1 := g3
            it2 := g4
            low := by rw [g6]; exact Nat.le_succ_of_le a.low
            top := fun j T' e => by rw [g6]; exact Nat.lt_succ_of_lt (a.top j T' e)
            in0 := a.in0 }
  · refine wpAny_pyNext_zip_item_held Z.D q qT a.ti a.it1 a.it2 hl1 hl2 hx hy fun h' g1 g3 g4 g5 g6 g7 => hQ h' ?_ g5
    have kp : ∀ b o, (b = S ∨ N ≤ b ∨ ∃ o, h0.get? b = some o) → s.heap.get? b = some o → h'.get? b = some o := fun b o hb e => by
      rcases hb with rfl | hb | ⟨o', hb⟩
      · exact g7 _ _ Z.Sz Z.S1 Z.S2 e
      · exact g7 _ _ (Nat.ne_of_gt (Nat.lt_of_lt_of_le Z.Lz hb)) (Nat.ne_of_gt (Nat.lt_of_lt_of_le Z.L1 hb)) (Nat.ne_of_gt (Nat.lt_of_lt_of_le Z.L2 hb)) e
      · obtain ⟨q1, _, _, q4, q5, _⟩ := a.in0 b o' hb
        exact g7 _ _ q1 q4 q5 e
    obtain ⟨u, v, hTO⟩ := a.to
    exact { toZFin := a.toZFin.pair Z.LS kp
            zst := .inr ⟨T, true, _, g1, kp _ _ (.inr (.inl qN)) qT, qN⟩
            ti := g7 _ _ Z.D.TIz Z.D.TIi1 Z.D.TIi2 a.ti
            to := ⟨_, _, g7 _ _ Z.D.TOz Z.D.TOi1 Z.D.TOi2 hTO⟩
            it1 := g3
            it2 := g4
            low := by rw [g6]; exact Nat.le_succ_of_le a.low
            top := fun j T' e => by rw [g6]; exact Nat.lt_succ_of_lt (a.top j T' e)
            in0 := a.in0 }
theorem ZAt.done {i : Nat} {s : Shared} {acc : Array Value} {Q : Option Value → Shared → Prop} {E : Value → Shared → Prop} (hh : A.handled = none) (Z : ZSet z TI TO i1 i2 l1 l2 S N) (h1 : h0.IsList l1 xs) (h2 : h0.IsList l2 ys) (a : ZAt h0 z TI TO i1 i2 l1 l2 S N xs ys i acc s.heap)
    (hend : xs[i]? = none ∨ ys[i]? = none) (hQ : ∀ h', ZFin h0 S N xs ys acc h' → Q none { s with heap := h' }) : wpAny (model prog w) A (pyNext (.ref z)) Q E s := by
  have hl1 : s.heap.IsList l1 xs := h1.at fun o e => a.keep l1 o e
  have hl2 : s.heap.IsList l2 ys := h2.at fun o e => a.keep l2 o e
  have kp : ∀ h' : Heap, (∀ c o, c ≠ z → c ≠ TO → c ≠ i1 → c ≠ i2 → s.heap.get? c = some o → h'.get? c = some o) → ∀ b o, (b = S ∨ N ≤ b ∨ ∃ o, h0.get? b = some o) → s.heap.get? b = some o → h'.get? b = some o := fun h' g7 b o hb e => by
    rcases hb with rfl | hb | ⟨o', hb⟩
    · exact g7 _ _ Z.Sz Z.SO Z.S1 Z.S2 e
    · exact g7 _ _ (Nat.ne_of_gt (Nat.lt_of_lt_of_le Z.Lz hb)) (Nat.ne_of_gt (Nat.lt_of_lt_of_le Z.LO hb)) (Nat.ne_of_gt (Nat.lt_of_lt_of_le Z.L1 hb)) (Nat.ne_of_gt (Nat.lt_of_lt_of_le Z.L2 hb)) e
    · obtain ⟨q1, _, q3, q4, q5, _⟩ := a.in0 b o' hb
      exact g7 _ _ q1 q3 q4 q5 e
  rcases a.zst with q | ⟨T, f, oT, q, qT, qN⟩
  · obtain ⟨u, v, hTO⟩ := a.to
    exact wpAny_pyNext_zip_end hh Z.D q a.ti hTO a.it1 a.it2 hl1 hl2 hend fun h' g7 => hQ h' (a.toZFin.pair Z.LS (kp h' g7))
  · exact wpAny_pyNext_zip_end_held hh Z.D q qT a.ti a.it1 a.it2 hl1 hl2 hend fun h' g7 => hQ h' (a.toZFin.pair Z.LS (kp h' fun c o a1 _ a3 a4 e => g7 c o a1 a3 a4 e))
theorem ZAt.put {i T : Nat} {h : Heap} {acc : Array Value} {x y : Value} {c : Nat} (Z : ZSet z TI TO i1 i2 l1 l2 S N) (a : ZAt h0 z TI TO i1 i2 l1 l2 S N xs ys (i + 1) acc h) (hi : acc.size = i) (hS : h.get? S = some { cls := .type "list", dict := none, data := .seq acc c, slots := #[] })
    (hT : IsPair h T x y) (hN : N ≤ T) (new : ∀ (j U : Nat), acc[j]? = some (.ref U) → U < T) (hx : xs[i]? = some x) (hy : ys[i]? = some y) : ZAt h0 z TI TO i1 i2 l1 l2 S N xs ys (i + 1) (acc.push (.ref T)) (h.update S (Obj.mapSeq (·.push (.ref T)))) := by
  have oth : ∀ b o, b ≠ S → h.get? b = some o → (h.update S (Obj.mapSeq (·.push (.ref T)))).get? b = some o := fun b o hb e => (Heap.get?_update_other _ _ (Ne.symm hb)).trans e
  have ge : ∀ b, N ≤ b → b ≠ S := fun b hb => Nat.ne_of_gt (Nat.lt_of_lt_of_le Z.LS hb)
  exact
    { keep := fun b o e => oth b o (a.in0 b o e).2.2.2.2.2 (a.keep b o e)
      lst := ⟨_, Heap.get?_update_self _ hS rfl⟩
      items := fun j v e => by
        rw [Array.getElem?_push] at e
        split at e
        · rename_i ej
          cases e
          rw [hi] at ej
          subst ej
          exact ⟨T, x, y, rfl, hN, oth _ _ (ge T hN) hT, hx, hy⟩
        · obtain ⟨T', x', y', e1, e2, e3, e4⟩ := a.items j v e
          exact ⟨T', x', y', e1, e2, oth _ _ (ge T' e2) e3, e4⟩
      above := a.above
      inc := fun j k U V e1 e2 hjk => by
        rw [Array.getElem?_push] at e1 e2
        split at e2
        · rename_i ek
          cases e2
          rw [if_neg (by omega)] at e1
          exact new j U e1
        · split at e1
          · have : k < acc.size := by
              rw [Array.getElem?_eq_some_iff] at e2
              exact e2.1
            omega
          · exact a.inc j k U V e1 e2 hjk
      top := fun j U e => by
        rw [Heap.size_update]
        rw [Array.getElem?_push] at e
        split at e
        · cases e; exact Heap.lt_size hT
        · exact a.top j U e
      zst := a.zst.elim (fun q => .inl (oth _ _ (Ne.symm Z.Sz) q)) fun ⟨T', f, oT, q, qT, qN⟩ => .inr ⟨T', f, oT, oth _ _ (Ne.symm Z.Sz) q, oth _ _ (ge T' qN) qT, qN⟩
      ti := oth _ _ (Ne.symm Z.SI) a.ti
      to := let ⟨u, v, q⟩ := a.to; ⟨u, v, oth _ _ (Ne.symm Z.SO) q⟩
      it1 := a.it1.at fun o e => oth _ _ (Ne.symm Z.S1) e
      it2 := a.it2.at fun o e => oth _ _ (Ne.symm Z.S2) e
      low := by rw [Heap.size_update]; exact a.low
      in0 := a.in0 }
theorem zip_loop {n : Nat} (hh : A.in1.handled = none) (hn : n ≤ sizeLine) (hm : n = min xs.size ys.size) (res : Value) (Z : ZSet z TI TO i1 i2 l1 l2 S N) (h1 : h0.IsList l1 xs) (h2 : h0.IsList l2 ys) :
    ∀ (k i : Nat) (s : Shared) (acc : Array Value), n - i = k → i ≤ n → acc.size = i → ZAt h0 z TI TO i1 i2 l1 l2 S N xs ys i acc s.heap → (∀ h' acc', ZFin h0 S N xs ys acc' h' → acc'.size = n → R (.ok (.ret res)) { s with heap := h' }) →
      codeAny (model prog w) A (.builtin "list.extend.loop" ⟨[.ref S, .ref z, res], []⟩) R s := by
  intro k
  induction k with
  | zero =>
    intro i s acc hk hi ha a hR
    have hin : i = n := by omega
    refine codeAny_builtin F.entry_extend_loop ?_
    rw [Around.under_plainId F.plain_extend_loop _]
    show wpAny _ A.in1 (pyNext (.ref z) >>= _) _ _ s
    refine wpAny_bind (a.done hh Z h1 h2 ?_ fun h' f => wpAny_pure (hR h' acc f (by omega)))
    rcases Nat.le_total xs.size ys.size with q | q
    · exact .inl (by simp; omega)
    · exact .inr (by simp; omega)
  | succ k ih =>
    intro i s acc hk hi ha a hR
    have hlt : i < n := by omega
    have l1 : i < xs.size := by omega
    have l2 : i < ys.size := by omega
    refine codeAny_builtin F.entry_extend_loop ?_
    rw [Around.under_plainId F.plain_extend_loop _]
    show wpAny _ A.in1 (pyNext (.ref z) >>= _) _ _ s
    refine wpAny_bind (a.next Z h1 h2 (x := xs[i]) (y := ys[i]) (by simp [l1]) (by simp [l2]) fun h' a' hT => ?_)
    obtain ⟨c, hS⟩ := a'.lst
    show wpAny _ A.in1 (updateSeq S (·.push (.ref s.heap.objs.size)) >>= _) _ _ _
    refine wpAny_bind ?_
    refine wpAny_updateSeq hS rfl (wpAny_pure ⟨plainId_quiet F.plain_extend_loop _, ih (i + 1) _ _ (by omega) hlt (by rw [Array.size_push]; omega) (a'.put Z ha hS hT a.low a.top (by simp [l1]) (by simp [l2])) fun h2 acc2 f e => hR h2 acc2 f e⟩) ?_ ?_
    · rw [ha]; omega
    · show (acc.push _).size ≤ sizeLine + 1
      rw [Array.size_push, ha]; omega
theorem zip_collect {n : Nat} {s : Shared} {Q : List Value → Shared → Prop} {E : Value → Shared → Prop} (hh : A.handled = none) (hn : n ≤ sizeLine) (hm : n = min xs.size ys.size) (D : ZipApart z TI TO i1 i2 l1 l2) (h1 : h0.IsList l1 xs) (h2 : h0.IsList l2 ys)
    (h0le : h0.objs.size ≤ s.heap.objs.size) (keep : ∀ b o, h0.get? b = some o → s.heap.get? b = some o) (in0 : ∀ b o, h0.get? b = some o → b ≠ z ∧ b ≠ TI ∧ b ≠ TO ∧ b ≠ i1 ∧ b ≠ i2)
    (zz : IsZip s.heap z TI TO .none) (ti : IsPair s.heap TI (.ref i1) (.ref i2)) (to : ∃ a b, IsPair s.heap TO a b) (it1 : s.heap.IsListIter i1 l1 0) (it2 : s.heap.IsListIter i2 l2 0)
    (hQ : ∀ h' acc, ZFin h0 s.heap.objs.size (s.heap.objs.size + 1) xs ys acc h' → acc.size = n → Q acc.toList { s with heap := h' }) : wpAny (model prog w) A (collect (.ref z)) Q E s := by
  have sz : z < s.heap.objs.size := Heap.lt_size zz
  have sI : TI < s.heap.objs.size := Heap.lt_size ti
  have sO : TO < s.heap.objs.size := by obtain ⟨_, _, q⟩ := to; exact Heap.lt_size q
  have s1 : i1 < s.heap.objs.size := by obtain ⟨_, q, _⟩ := it1; exact Heap.lt_size q
  have s2 : i2 < s.heap.objs.size := by obtain ⟨_, q, _⟩ := it2; exact Heap.lt_size q
  have sl1 : l1 < s.heap.objs.size := by obtain ⟨_, q, _⟩ := h1; exact Heap.lt_size (keep _ _ q)
  have sl2 : l2 < s.heap.objs.size := by obtain ⟨_, q, _⟩ := h2; exact Heap.lt_size (keep _ _ q)
  have ne : ∀ {b : Nat}, b < s.heap.objs.size → s.heap.objs.size ≠ b := fun q => Nat.ne_of_gt q
  have lt : ∀ {b : Nat}, b < s.heap.objs.size → b < s.heap.objs.size + 1 := fun q => Nat.lt_succ_of_lt q
  have Z : ZSet z TI TO i1 i2 l1 l2 s.heap.objs.size (s.heap.objs.size + 1) := ⟨D, ne sz, ne sI, ne sO, ne s1, ne s2, ne sl1, ne sl2, lt sz, lt sI, lt sO, lt s1, lt s2, Nat.lt_succ_self _⟩
  unfold collect
  refine wpAny_bind (wpAny_runValue (codeAny_builtin F.entry_proto_collect ?_))
  rw [Around.under_plainId F.plain_proto_collect _]
  show wpAny _ A.in1 (newList [] >>= fun l => again (.builtin "list.__iadd__" ⟨[l, .ref z], []⟩)) _ _ s
  refine wpAny_bind (wpAny_newObj_type ?_)
  refine wpAny_pure ⟨plainId_quiet F.plain_list_iadd _, codeAny_builtin F.entry_list_iadd ?_⟩
  rw [Around.under_plainId F.plain_list_iadd _]
  show wpAny _ A.in1 (Builtin.List.listExtendWith (.ref s.heap.objs.size) (.ref z) (.ref s.heap.objs.size)) _ _ _
  have up : ∀ b o, s.heap.get? b = some o → (s.heap.push { cls := .type "list", data := .seq ([] : List Value).toArray }).get? b = some o := fun b o e => Heap.get?_push_of_some _ e
  have zz1 : IsZip (s.heap.push { cls := .type "list", data := .seq ([] : List Value).toArray }) z TI TO .none := up _ _ zz
  have hT : ∀ t : Nat, Shared.TypeIs { s with heap := s.heap.push { cls := .type "list", data := .seq ([] : List Value).toArray }, toks := t } (.ref z) "zip" := fun t => ⟨_, zz1, rfl⟩
  have lay : (s.heap.push { cls := .type "list", data := .seq ([] : List Value).toArray }).get? s.heap.objs.size = some { cls := .type "list", data := .seq ([] : List Value).toArray } := Heap.get?_push_size _ rfl
  unfold Builtin.List.listExtendWith
  refine wpAny_bind (wpAny_typeOf (hT _) ?_)
  have b1 : Builtin.List.listSameRef (.ref s.heap.objs.size) (.ref z) = false := by simp [Builtin.List.listSameRef, ne sz]
  have b2 : (Value.type "zip" == Value.type "list") = false := by decide
  have b3 : (Value.type "zip" == Value.type "tuple") = false := by decide
  simp only [b1, b2, b3, Bool.or_false, Bool.false_eq_true, if_false]
  refine wpAny_bind (wpAny_pyIter_zip zz1 ?_)
  refine wpAny_bind (wpAny_holding ?_)
  unfold Builtin.List.listLengthHint
  refine wpAny_bind (wpAny_specialOf (hT _) F.mi_zip_len ?_)
  show wpAny _ A.in1 (specialOf (Value.ref z) (Str.ofString "__length_hint__") >>= _) _ _ _
  refine wpAny_bind (wpAny_specialOf (hT _) F.mi_zip_hint ?_)
  refine wpAny_pure ?_
  show wpAny _ A.in1 (rule "list.extend.makes-room" >>= fun _ => Builtin.List.listTouch (.ref s.heap.objs.size) >>= fun _ => again (.builtin "list.extend.loop" ⟨[.ref s.heap.objs.size, .ref z, .ref s.heap.objs.size], []⟩)) _ _ _
  refine wpAny_bind (wpAny_rule (wpAny_bind ?_))
  show wpAny _ A.in1 (updateSeq s.heap.objs.size (·.push .none) >>= fun _ => updateSeq s.heap.objs.size (·.pop)) _ _ _
  refine wpAny_bind (wpAny_updateSeq lay rfl ?_)
  have lay2 := Heap.get?_update_self (Obj.mapSeq (·.push Value.none)) lay rfl
  refine wpAny_updateSeq lay2 rfl ?_
  have lay3 := Heap.get?_update_self (Obj.mapSeq (·.pop)) lay2 rfl
  have oth : ∀ b o, b ≠ s.heap.objs.size → s.heap.get? b = some o → (((s.heap.push { cls := .type "list", data := .seq ([] : List Value).toArray }).update s.heap.objs.size (Obj.mapSeq (·.push Value.none))).update s.heap.objs.size (Obj.mapSeq (·.pop))).get? b = some o :=
    fun b o hb e => (Heap.get?_update_other _ _ (Ne.symm hb)).trans ((Heap.get?_update_other _ _ (Ne.symm hb)).trans (up b o e))
  have start : ZAt h0 z TI TO i1 i2 l1 l2 s.heap.objs.size (s.heap.objs.size + 1) xs ys 0 #[] (((s.heap.push { cls := .type "list", data := .seq ([] : List Value).toArray }).update s.heap.objs.size (Obj.mapSeq (·.push Value.none))).update s.heap.objs.size (Obj.mapSeq (·.pop))) :=
    { keep := fun b o e => oth b o (Nat.ne_of_lt (Heap.lt_size (keep b o e))) (keep b o e)
      lst := ⟨_, lay3⟩
      items := fun j v e => by simp at e
      above := Nat.le_succ_of_le h0le
      inc := fun j k T U e => by simp at e
      top := fun j T e => by simp at e
      zst := .inl (oth _ _ (Nat.ne_of_lt sz) zz)
      ti := oth _ _ (Nat.ne_of_lt sI) ti
      to := let ⟨a, b, q⟩ := to; ⟨a, b, oth _ _ (Nat.ne_of_lt sO) q⟩
      it1 := it1.at fun o e => oth _ _ (Nat.ne_of_lt s1) e
      it2 := it2.at fun o e => oth _ _ (Nat.ne_of_lt s2) e
      low := by rw [Heap.size_update, Heap.size_update, Heap.size_push]; exact Nat.le_refl _
      in0 := fun b o e => let ⟨a1, a2, a3, a4, a5⟩ := in0 b o e; ⟨a1, a2, a3, a4, a5, Nat.ne_of_lt (Heap.lt_size (keep b o e))⟩ }
  refine wpAny_pure ⟨plainId_quiet F.plain_extend_loop _, zip_loop hh hn hm _ Z h1 h2 n 0 _ _ rfl (Nat.zero_le _) rfl start fun h' acc' f e => ?_⟩
  obtain ⟨c, q⟩ := f.lst
  show wpAny _ A (load s.heap.objs.size >>= _) _ _ _
  exact wpAny_bind (wpAny_load q (wpAny_pure (hQ h' acc' f e)))
theorem zip_tuple {n : Nat} {s : Shared} {Q : Value → Shared → Prop} {E : Value → Shared → Prop} (hh : A.handled = none) (hn : n ≤ sizeLine) (hm : n = min xs.size ys.size) (D : ZipApart z TI TO i1 i2 l1 l2) (h1 : h0.IsList l1 xs) (h2 : h0.IsList l2 ys)
    (h0le : h0.objs.size ≤ s.heap.objs.size) (keep : ∀ b o, h0.get? b = some o → s.heap.get? b = some o) (in0 : ∀ b o, h0.get? b = some o → b ≠ z ∧ b ≠ TI ∧ b ≠ TO ∧ b ≠ i1 ∧ b ≠ i2)
    (zz : IsZip s.heap z TI TO .none) (ti : IsPair s.heap TI (.ref i1) (.ref i2)) (to : ∃ a b, IsPair s.heap TO a b) (it1 : s.heap.IsListIter i1 l1 0) (it2 : s.heap.IsListIter i2 l2 0)
    (hQ : ∀ h' acc N, ZFin h0 s.heap.objs.size N xs ys acc h' → acc.size = n → Q (.ref h'.objs.size) { s with heap := h'.push { cls := .type "tuple", data := .seq acc } }) : wpAny (model prog w) A (call (.type "tuple") [.ref z]) Q E s := by
  have hTI : s.TypeIs (.ref z) "zip" := ⟨_, zz, rfl⟩
  have code : codeAny (model prog w) A.in1 (.call (.builtin "tuple.__new__") ⟨[.type "tuple", .ref z], []⟩) (wants (fun obj s₁ => s₁.TypeIs obj "tuple" ∧ Q obj s₁) E) s := by
    refine codeAny_of_tree ?_
    show wpAny _ A.in1.in1 (do checkBuiltinCall "tuple.__new__" ⟨[.type "tuple", .ref z], []⟩; again (.builtin "tuple.__new__" ⟨[.type "tuple", .ref z], []⟩)) _ _ s
    refine wpAny_bind (wpAny_of_eq (F.newCall_tuple_1 _) (wpAny_pure ⟨plainId_quiet F.plain_tuple_new _, codeAny_builtin F.entry_tuple_new ?_⟩))
    rw [Around.under_plainId F.plain_tuple_new _]
    have f1 := sub_tuple_self
    have f2 := init_tuple_lookup
    have f3 := madeHere_tuple
    have hh1 : A.in1.in1.handled = none := hh
    wp_walk using wpAny_typeOf hTI, zip_collect (A := A.in1.in1) hh1 hn hm D h1 h2 h0le keep in0 zz ti to it1 it2
    intro h' acc f e
    show wpAny _ _ (Builtin.Tuple.tupleExact acc.toList.toArray >>= fun v => ret v) _ _ _
    unfold Builtin.Tuple.tupleExact
    refine wpAny_bind (wpAny_newObj_type ?_ (by show acc.toList.toArray.size ≤ sizeLine; simp only [Array.toArray_toList]; rw [e]; exact hn))
    refine wpAny_pure ?_
    have e2 : acc.toList.toArray = acc := by simp
    rw [e2]
    exact ⟨⟨_, Heap.get?_push_size _ rfl, rfl⟩, hQ h' acc _ f e⟩
  refine callType_codes (Q₁ := fun obj s₁ => s₁.TypeIs obj "tuple" ∧ Q obj s₁) F.called_tuple (F.typeCall_tuple_1 _) F.entry_object_init code fun obj s₁ q => ?_
  exact ⟨q.1, F.args_object_init_2 obj _, object_init_meets F.called_tuple.init.lookup F.called_tuple.made (by decide) prog w A.in1 _ s₁ ⟨q.1, rfl, q.2⟩⟩
end
end PySem
namespace MI
open PySem L2
section
variable {X : Cx} {W : WX} {pins : List (Addr × Obj)} {σ : L2.St} {H : Hp} {s : Shared} {pos : Pos} {K : PySem.W.Frag} {β : List Addr} {m : Mem}
theorem track2 {a : Addr} {oe : Obj} {o : HO} (I : L2.Inv X pins σ H s) (he : s.heap.get? a = some oe) (hd : ∀ v, oe.data ≠ .cell v) (n : H a = none) (h0 : X.s_0.heap.get? a = none) (nL : a ≠ X.env.locals)
    (np : ∀ p ∈ X.pn ++ pins, p.1 ≠ a) (ok : ObjOk X.prog X.w (upd H a o) s.heap a o) : L2.Inv X pins σ (upd H a o) s := by
  have ne : ∀ {b u}, H b = some u → b ≠ a := fun e => ne_of_none e n
  refine ⟨I.ok, I.os, I.bare, ⟨I.base.keep, I.base.slot, fun b u q z hx => ?_, I.base.there, fun b xs q => ?_, fun b u xs q => ?_, fun b ps q => ?_⟩, I.loc, I.cell, ?_, fun x c e => ?_, fun p hp => ?_, fun b u q => ?_, I.len⟩
  · rw [upd_ne (fun e => by rw [e, h0] at q; cases q)]
    exact I.base.free b u q z hx
  · have q1 := I.base.tups b xs q
    rw [upd_ne (ne q1)]; exact q1
  · have q1 := I.base.frzs b u xs q
    rw [upd_ne (ne q1)]; exact q1
  · obtain ⟨more, q1⟩ := I.base.tbls b ps q
    exact ⟨more, by rw [upd_ne (ne q1)]; exact q1⟩
  · rw [upd_ne (Ne.symm nL)]; exact I.free
  · rw [upd_ne (fun z => ?_)]
    · exact I.freeC x c e
    · obtain ⟨v, ob, q1, q2⟩ := I.cell x c e
      rw [z, he] at q1
      cases q1
      exact hd v q2
  · obtain ⟨q1, q2, q3⟩ := I.pin p hp
    exact ⟨q1, by rw [upd_ne (np p hp)]; exact q2, q3⟩
  · by_cases hb : b = a
    · subst hb
      rw [upd_same] at q
      cases q
      exact ok
    · rw [upd_ne hb] at q
      exact (I.hok b u q).stay (fun _ _ _ z => z) (fun c z => by rw [upd_ne (ne z)]; exact z) fun c xs z => by rw [upd_ne (ne z)]; exact z
/-- pairs, one after the other -/
def pairsH : Hp → List (Addr × V × V) → Hp
  | H, [] => H
  | H, p :: r => pairsH (upd H p.1 (.tup [p.2.1, p.2.2])) r
theorem pairsH_ne : ∀ (ps : List (Addr × V × V)) (H : Hp) (a : Addr), a ∉ ps.map (·.1) → pairsH H ps a = H a
  | [], _, _, _ => rfl
  | p :: r, H, a, h => by
    rw [List.map_cons, List.mem_cons, not_or] at h
    show pairsH _ r a = _
    rw [pairsH_ne r _ a h.2, upd_ne h.1]
theorem lay_pairs : ∀ (ps : List (Addr × V × V)) {H : Hp} (I : L2.Inv X pins σ H s), (ps.map (·.1)).Nodup → (∀ p ∈ ps, H p.1 = none ∧ X.s_0.heap.get? p.1 = none ∧ p.1 ≠ X.env.locals ∧ ∀ q ∈ X.pn ++ pins, q.1 ≠ p.1) →
    (∀ p ∈ ps, ∃ u v, IsPair s.heap p.1 u v ∧ RelV p.2.1 u ∧ RelV p.2.2 v) → L2.Inv X pins σ (pairsH H ps) s
  | [], _, I, _, _, _ => I
  | p :: r, H, I, nd, fr, ok => by
    obtain ⟨f1, f2, f3, f4⟩ := fr p (List.mem_cons_self)
    obtain ⟨u, v, o1, o2, o3⟩ := ok p (List.mem_cons_self)
    rw [List.map_cons, List.nodup_cons] at nd
    have I1 : L2.Inv X pins σ (upd H p.1 (.tup [p.2.1, p.2.2])) s := track2 I o1 (fun _ z => nomatch z) f1 f2 f3 f4 ⟨by show 2 ≤ sizeLine; decide, [u, v], .cons o2 (.cons o3 .nil), ⟨_, o1, rfl, _, rfl⟩⟩
    refine lay_pairs r I1 nd.2 (fun q hq => ?_) fun q hq => ok q (List.mem_cons_of_mem _ hq)
    obtain ⟨g1, g2⟩ := fr q (List.mem_cons_of_mem _ hq)
    refine ⟨?_, g2⟩
    rw [upd_ne (fun z => nd.1 (by rw [← z]; exact List.mem_map_of_mem hq))]
    exact g1
def tTupZip (K : PySem.W.Frag) (ta : TA) : TE := fun σ H Q => ta σ H fun vs H1 => ∃ a b xs ys, vs = [.ref a, .ref b] ∧ SqL K H1 a xs ∧ SqL K H1 b ys ∧
  ∀ ps q, ps.map (·.2) = xs.zip ys → (ps.map (·.1)).Nodup → (∀ p ∈ ps, H1 p.1 = none ∧ p.1 ≠ q) → H1 q = none → Q (.ref q) (upd (pairsH H1 ps) q (.tup (ps.map fun p => .ref p.1)))
def adr : Option Value → Addr
  | some (.ref T) => T
  | _ => 0
/-- what the collected items are -/
theorem pairs_of {h0 h : Heap} {S N : Addr} {its its2 : List Value} {xs ys : List V} {acc : Array Value} (f : ZFin h0 S N its.toArray its2.toArray acc h) (rx : Vals xs its) (ry : Vals ys its2) (hn : acc.size = min its.length its2.length) :
    ∃ ps : List (Addr × V × V), ps.map (·.2) = xs.zip ys ∧ acc.toList = ps.map (fun p => .ref p.1) ∧ (ps.map (·.1)).Nodup ∧ (∀ p ∈ ps, N ≤ p.1) ∧ ∀ p ∈ ps, ∃ u v, IsPair h p.1 u v ∧ RelV p.2.1 u ∧ RelV p.2.2 v := by
  have lx := rx.length
  have ly := ry.length
  have key : ∀ j, j < acc.size → ∃ p : Addr × V × V, acc[j]? = some (.ref p.1) ∧ N ≤ p.1 ∧ (xs.zip ys)[j]? = some p.2 ∧ ∃ u v, IsPair h p.1 u v ∧ RelV p.2.1 u ∧ RelV p.2.2 v := by
    intro j hj
    obtain ⟨T, x, y, e1, e2, e3, e4, e5⟩ := f.items j acc[j] (by simp [hj])
    have jx : j < xs.length := by omega
    have jy : j < ys.length := by omega
    obtain ⟨u, hu, ru⟩ := rx.get (i := j) (x := xs[j]) (by simp [jx])
    obtain ⟨v, hv, rv⟩ := ry.get (i := j) (x := ys[j]) (by simp [jy])
    rw [List.getElem?_toArray, hu] at e4
    rw [List.getElem?_toArray, hv] at e5
    have e4' := Option.some.inj e4
    have e5' := Option.some.inj e5
    subst e4' e5'
    exact ⟨(T, xs[j], ys[j]), by rw [← e1]; simp [hj], e2, by simp [List.getElem?_zip_eq_some, jx, jy], u, v, e3, ru, rv⟩
  refine ⟨(List.range acc.size).map fun j => (adr acc[j]?, ((xs.zip ys).getD j (.non, .non))), ?_, ?_, ?_, ?_, ?_⟩
  · apply List.ext_getElem?
    intro j
    rw [List.map_map, List.getElem?_map]
    by_cases hj : j < acc.size
    · obtain ⟨p, _, _, e, _⟩ := key j hj
      rw [List.getElem?_range hj]
      show some ((xs.zip ys).getD j _) = _
      rw [List.getD_eq_getElem?_getD, e]; rfl
    · rw [List.getElem?_eq_none (by simp; omega), List.getElem?_eq_none (by simp; omega)]; rfl
  · apply List.ext_getElem?
    intro j
    rw [List.map_map, List.getElem?_map, Array.getElem?_toList]
    by_cases hj : j < acc.size
    · obtain ⟨p, e, _⟩ := key j hj
      rw [List.getElem?_range hj, e]
      show _ = some (Value.ref _)
      simp only [Function.comp_apply, e, adr]
    · rw [List.getElem?_eq_none (by simp; omega), Array.getElem?_eq_none (by omega)]; rfl
  · rw [List.map_map]
    refine List.pairwise_iff_getElem.mpr fun i j hi hj hij => ?_
    have hj : j < acc.size := by simpa using hj
    obtain ⟨p, e, _⟩ := key i (by omega)
    obtain ⟨q, e2, _⟩ := key j hj
    have := f.inc i j _ _ e e2 hij
    simp only [List.getElem_map, List.getElem_range, Function.comp_apply, e, e2]
    exact Nat.ne_of_lt this
  · intro p hp
    obtain ⟨j, hj, rfl⟩ := List.mem_map.mp hp
    have hj : j < acc.size := by simpa using hj
    obtain ⟨q, e, e2, _⟩ := key j hj
    simp only [e]
    exact e2
  · intro p hp
    obtain ⟨j, hj, rfl⟩ := List.mem_map.mp hp
    have hj : j < acc.size := by simpa using hj
    obtain ⟨q, e, e2, e3, e4⟩ := key j hj
    have : (xs.zip ys).getD j (.non, .non) = q.2 := by rw [List.getD_eq_getElem?_getD, e3]; rfl
    simp only [e]
    rw [this]
    exact e4
theorem refsV : ∀ ps : List (Addr × V × V), Vals (ps.map fun p => V.ref p.1) (ps.map fun p => Value.ref p.1)
  | [] => .nil
  | _ :: r => .cons rfl (refsV r)
theorem pe_tupZip {a b : Expr} {ta : TA} {p p2 pos2 : Pos} (hc : X.calm = true) (hg : Gl X "tuple") (hm : X.mg "tuple" = none) (hg2 : Gl X "zip") (hm2 : X.mg "zip" = none) (ha : PA X [a, b] ta)
    (hs : starEach [a, b] X.env = (false, eval a X.env) :: starEach [b] X.env) (hpl : (backTo pos2 (starEach [b] X.env)).any (·.1) = false)
    (na : starEach [.Call (.Name "zip" p2) [a, b] [] pos2] X.env = (false, eval (.Call (.Name "zip" p2) [a, b] [] pos2) X.env) :: starEach [] X.env) : PE X (.Call (.Name "tuple" p) [.Call (.Name "zip" p2) [a, b] [] pos2] [] pos) (tTupZip X.K ta) := by
  refine ⟨fun pins s σ H Q I h => ?_⟩
  refine PyProof.Rows.Call_ (ld_blt I hg hm PyProof.Rows.boot_tuple (PyProof.Rows.callWith_type1 (PyProof.Rows.args_cons ?_ na) na))
  refine PyProof.Rows.Call_ (ld_blt I hg2 hm2 PyProof.Rows.boot_zip (PyProof.Rows.callWith_type1 (thn (ha.run pos2 pins s σ H _ I h) fun us s1 z => ?_) hs hpl))
  obtain ⟨vs, H1, I1, r1, l1, l2, xs, ys, ex, hqx, hqy, q⟩ := z
  subst ex
  cases r1 with
  | cons r rr =>
    cases rr with
    | cons r' rr =>
      cases rr
      cases r
      cases r'
      obtain ⟨its, rv, p1, z1⟩ := I1.list hqx
      obtain ⟨its2, rv2, p3, z2⟩ := I1.list hqy
      have la : l1 < s1.heap.objs.size := p1.lt
      have lb : l2 < s1.heap.objs.size := p3.lt
      have lx := rv.length
      have ly := rv2.length
      refine call_zip_2 p1.isList p3.isList fun h' hz hTI hTO i1 i2 hsz hk => PyProof.Rows.args_nil ?_
      have I2 : Inv X pins σ H1 { s1 with heap := h' } := I1.kept (t' := s1.toks) hk
      have out : ∀ (b : Nat) (o : Obj), s1.heap.get? b = some o → b < s1.heap.objs.size := fun b o e => Heap.lt_size e
      refine zip_tuple (h0 := s1.heap) (s := { s1 with heap := h' }) (n := min its.length its2.length) (I2.ok.hd hc) (by omega) (by simp) (PySem.W.ktu_apart s1.heap.objs.size l1 l2 la lb) p1.isList p3.isList (by show s1.heap.objs.size ≤ h'.objs.size; omega) hk (fun b o e => ?_) hz hTI ⟨_, _, hTO⟩ i1 i2 fun h2 acc N f e => ?_
      · have := out b o e
        refine ⟨?_, ?_, ?_, ?_, ?_⟩ <;> (intro z; rw [z] at this; omega)
      obtain ⟨ps, e1, e2, e3, e4, e5⟩ := pairs_of f rv rv2 e
      have hN : s1.heap.objs.size ≤ N := by
        obtain ⟨c, hS⟩ := f.lst
        exact f.above
      have up : ∀ b o, s1.heap.get? b = some o → h2.get? b = some o := f.keep
      have I3 : Inv X pins σ H1 { s1 with heap := h2 } := I1.kept (t' := s1.toks) up
      have fp : ∀ p ∈ ps, FpOk X pins H1 p.1 := fun p hp => by
        have hle : s1.heap.objs.size ≤ p.1 := Nat.le_trans hN (e4 p hp)
        exact I1.fpOk hle (I1.hok.fresh hle)
      have none0 : ∀ b : Nat, s1.heap.objs.size ≤ b → X.s_0.heap.get? b = none := fun b hb => by
        cases q0 : X.s_0.heap.get? b with
        | none => rfl
        | some o => exact absurd (Nat.lt_of_lt_of_le (Heap.lt_size q0) I1.sz) (Nat.not_lt.mpr hb)
      have I4 : Inv X pins σ (pairsH H1 ps) { s1 with heap := h2 } := lay_pairs ps I3 e3 (fun p hp => ⟨(fp p hp).1, none0 _ (Nat.le_trans hN (e4 p hp)), (fp p hp).2.1, (fp p hp).2.2.2.2.2⟩) e5
      have lt2 : ∀ p ∈ ps, p.1 < h2.objs.size := fun p hp => by
        obtain ⟨u, v, o1, _⟩ := e5 p hp
        exact Heap.lt_size o1
      have hq : H1 h2.objs.size = none := I3.hok.fresh (Nat.le_refl _)
      have lenz : (ps.map fun p => V.ref p.1).length ≤ sizeLine := by
        have : ps.length = (xs.zip ys).length := by rw [← e1, List.length_map]
        rw [List.length_map, this, List.length_zip]
        omega
      have vals : Vals (ps.map fun p => V.ref p.1) acc.toList := by
        rw [e2]
        exact refsV ps
      refine ⟨.ref h2.objs.size, _, I4.laid (t' := s1.toks) (fun b o e => Heap.get?_push_of_some _ e) (Nat.le_refl _) (show ObjOk X.prog X.w _ _ _ (.tup (ps.map fun p => V.ref p.1)) from ⟨lenz, acc.toList, vals, ?_⟩), rfl, q ps _ e1 e3 (fun p hp => ⟨(fp p hp).1, Nat.ne_of_lt (lt2 p hp)⟩) hq⟩
      rw [Array.toArray_toList]
      exact PyProof.Rows.IsTup.new _ _
/-- the items of both, side by side -/
def gZip : List MV → Mem → Re MV
  | [d, e], m => match lstOf m d, lstOf m e with
    | some l, some k => .ok (.tup ((l.zip k).map fun p => .tup [p.1, p.2])) m
    | _, _ => .stuck
  | _, _ => .stuck
/-- pairs are laid, one after the other -/
theorem lay_all : ∀ (ps : List (Addr × V × V)) (l : List (MV × MV)) {H : Hp}, RM K β H m → (ps.map (·.1)).Nodup → (∀ p ∈ ps, H p.1 = none) → RVs K β H (l.map (·.1)) (ps.map (·.2.1)) → RVs K β H (l.map (·.2)) (ps.map (·.2.2)) →
    Ext β H β (pairsH H ps) ∧ RM K β (pairsH H ps) m ∧ RVs K β (pairsH H ps) (l.map fun p => .tup [p.1, p.2]) (ps.map fun p => .ref p.1)
  | [], [], _, M, _, _, _, _ => ⟨Ext.refl, M, .nil⟩
  | [], _ :: _, _, _, _, _, a, _ => nomatch a
  | _ :: _, [], _, _, _, _, a, _ => nomatch a
  | p :: r, q :: l, H, M, nd, fr, .cons a ar, .cons b br => by
    rw [List.map_cons, List.nodup_cons] at nd
    obtain ⟨E1, M1, v1⟩ := lay_pair M a b (fr p List.mem_cons_self)
    obtain ⟨E2, M2, v2⟩ := lay_all r l M1 nd.2 (fun x hx => by
      rw [upd_ne (fun z => nd.1 (by rw [← z]; exact List.mem_map_of_mem hx))]
      exact fr x (List.mem_cons_of_mem _ hx)) (ar.ext M E1) (br.ext M E1)
    exact ⟨E1.trans E2, M2, .cons (v1.ext M1 E2) v2⟩
theorem zipV {f : MV × MV → MV} : ∀ {l k : List MV} {xs ys : List V}, RVs K β H l xs → RVs K β H k ys → RVs K β H ((l.zip k).map (·.1)) ((xs.zip ys).map (·.1)) ∧ RVs K β H ((l.zip k).map (·.2)) ((xs.zip ys).map (·.2))
  | _, _, _, _, .nil, _ => ⟨.nil, .nil⟩
  | _, _, _, _, .cons _ _, .nil => ⟨.nil, .nil⟩
  | _, _, _, _, .cons a ar, .cons b br => let ⟨p, q⟩ := zipV (f := f) ar br; ⟨.cons a p, .cons b q⟩
theorem je_tupZip {a b : Expr} {g : MA} {p p2 pos2 : Pos} (hc : X.calm = true) (hm : X.mg "tuple" = none) (hm2 : X.mg "zip" = none) (ha : JA X W [a, b] g) (hg : Gl X "tuple" := by rfl) (hg2 : Gl X "zip" := by rfl)
    (hs : starEach [a, b] X.env = (false, eval a X.env) :: starEach [b] X.env := by rfl) (hpl : (backTo pos2 (starEach [b] X.env)).any (·.1) = false := by rfl)
    (na : starEach [.Call (.Name "zip" p2) [a, b] [] pos2] X.env = (false, eval (.Call (.Name "zip" p2) [a, b] [] pos2) X.env) :: starEach [] X.env := by rfl) : JE X W (.Call (.Name "tuple" p) [.Call (.Name "zip" p2) [a, b] [] pos2] [] pos) (mCall gZip g) := by
  refine ⟨pe_imp (pe_tupZip hc hg hm hg2 hm2 ha.run hs hpl na) fun σ H Q ⟨ρ, m, β, hE, hM, p⟩ => ⟨ρ, m, β, hE, hM, p.bind fun ds m1 vs H1 β1 _ e1 M1 V1 p1 => ?_⟩⟩
  unfold gZip at p1
  split at p1
  · rename_i d e
    split at p1
    · rename_i l k h1 h2
      cases V1 with
      | cons V1 V2 =>
        cases V2 with
        | cons V2 V3 =>
          cases V3
          obtain ⟨a1, xs, rfl, q1, q2⟩ := M1.lst V1 h1
          obtain ⟨a2, ys, rfl, q3, q4⟩ := M1.lst V2 h2
          refine ⟨a1, a2, xs, ys, rfl, q1, q3, fun ps q z1 z2 z3 z4 => ?_⟩
          obtain ⟨w1, w2⟩ := zipV (f := fun p => p.1) q2 q4
          rw [← z1, List.map_map] at w1 w2
          obtain ⟨E1, M2, V4⟩ := lay_all ps (l.zip k) M1 z2 (fun p hp => (z3 p hp).1) w1 w2
          have hq : pairsH H1 ps q = none := by
            rw [pairsH_ne ps H1 q (fun z => ?_)]
            · exact z4
            · obtain ⟨p, hp, e⟩ := List.mem_map.mp z
              exact (z3 p hp).2 e
          have E2 : Ext β1 (pairsH H1 ps) β1 (upd (pairsH H1 ps) q (.tup (ps.map fun p => .ref p.1))) := Ext.tup hq
          exact Post.ok (Post.later p1 (E1.trans E2)) (M2.tup hq) (.tup (.inl (.inl upd_same)) (V4.ext M2 E2))
    · exact p1.not_stuck
  · exact p1.not_stuck
end
end MI
namespace MI
open PySem L2
section
variable {X : Cx} {W : WX} {pos : Pos} {K : PySem.W.Frag} {β : List Addr} {H : Hp} {m : Mem}
/-! ### == with an empty list, whatever the other holds -/
def rEqE (K : PySem.W.Frag) : R2 := fun x y H Q => ∃ a b xs ys, x = .ref a ∧ y = .ref b ∧ SqL K H a xs ∧ SqL K H b ys ∧ ((xs = [] ∧ Q (.bl ys.isEmpty) H) ∨ (ys = [] ∧ Q (.bl xs.isEmpty) H))
theorem op_eqE (hu : X.A.units < cLine) : OpR X (compareOp .Eq) (rEqE X.K) := by
  intro pins s σ H x y v u Q I rx ry h
  obtain ⟨a, b, xs, ys, rfl, rfl, hx, hy, q⟩ := h
  cases rx
  cases ry
  obtain ⟨i1, r1, p1, _⟩ := I.list hx
  obtain ⟨i2, r2, p2, _⟩ := I.list hy
  have n1 := r1.length
  have n2 := r2.length
  have both : ∀ {c : Bool}, (i1.toArray.size = 0 ∨ i2.toArray.size = 0) → c = (decide (i1.length = i2.length)) → Q (.bl c) H → wpAny (model X.prog X.w) X.A (compareOp .Eq (.ref a) (.ref b)) (EP X pins σ Q) X.xe s := by
    intro c he hc z
    by_cases e : i1.length = i2.length
    · refine SeqAt.eq_listAt (e := fun _ => true) p1.isList p2.isList (by simpa using e) hu (fun j h1 h2 => ?_) ?_
      · rcases he with he | he <;> omega
      · rw [hc, decide_eq_true e] at z
        have : ((List.range i1.toArray.size).all fun _ => true) = true := List.all_eq_true.mpr fun _ _ => rfl
        rw [this]
        exact ⟨.bl true, H, I, rfl, z⟩
    · refine SeqAt.eq_list_lengthsAt p1.isList p2.isList (by simpa using e) hu ?_
      rw [hc, decide_eq_false e] at z
      exact ⟨.bl false, H, I, rfl, z⟩
  rcases q with ⟨rfl, q⟩ | ⟨rfl, q⟩
  · refine both (.inl (by simp; simpa using n1.symm)) ?_ q
    cases ys with
    | nil => simp only [List.isEmpty_nil]; exact (decide_eq_true (by simp at n1 n2; omega)).symm
    | cons y r => simp only [List.isEmpty_cons]; exact (decide_eq_false (by simp at n1 n2; omega)).symm
  · refine both (.inr (by simp; simpa using n2.symm)) ?_ q
    cases xs with
    | nil => simp only [List.isEmpty_nil]; exact (decide_eq_true (by simp at n1 n2; omega)).symm
    | cons y r => simp only [List.isEmpty_cons]; exact (decide_eq_false (by simp at n1 n2; omega)).symm
def gEqE (a b : MV) (m : Mem) : Re MV := match lstOf m a, lstOf m b with
  | some l, some [] => .ok (.bl l.isEmpty) m
  | _, _ => .stuck
theorem om_eqE : OpM X (rEqE X.K) gEqE := by
  intro W σ d e m β H x y Q M rx ry p
  unfold gEqE at p
  split at p
  · rename_i l h1 h2
    obtain ⟨a, xs, rfl, q1, q2⟩ := M.lst rx h1
    obtain ⟨b, ys, rfl, q3, q4⟩ := M.lst ry h2
    have n1 := q2.length
    have n2 := q4.length
    have e2 : ys = [] := by cases ys with | nil => rfl | cons _ _ => simp at n2
    refine ⟨a, b, xs, ys, rfl, rfl, q1, q3, .inr ⟨e2, ?_⟩⟩
    have : xs.isEmpty = l.isEmpty := by cases xs <;> cases l <;> simp_all
    rw [this]
    exact p.ok M (.bl _)
  · exact p.not_stuck
/-! ### count, index of flat items -/
def fV : MV → Option V
  | .non => some .non
  | .bl b => some (.bl b)
  | .int i => some (.int i)
  | .str s => some (.str s)
  | _ => none
theorem RV.fl2 {d : MV} {v u : V} (r : RV K β H d v) (h : fV d = some u) : v = u ∧ flatV v = true := by
  cases r <;> cases h <;> exact ⟨rfl, rfl⟩
def fVs : List MV → Option (List V)
  | [] => some []
  | d :: r => match fV d, fVs r with
    | some v, some vs => some (v :: vs)
    | _, _ => none
theorem RVs.fl2 : ∀ {l : List MV} {vs us : List V}, RVs K β H l vs → fVs l = some us → vs = us ∧ vs.all flatV = true
  | [], _, _, .nil, h => by cases h; exact ⟨rfl, rfl⟩
  | d :: r, _, _, .cons a b, h => by
    unfold fVs at h
    split at h
    · rename_i v vs h1 h2
      cases h
      obtain ⟨rfl, f1⟩ := a.fl2 h1
      obtain ⟨rfl, f2⟩ := RVs.fl2 b h2
      exact ⟨rfl, by rw [List.all_cons, f1, f2]; rfl⟩
    · cases h
def rCntF (K : PySem.W.Frag) : V → List V → Hp → VK → Prop := fun x xs H Q => ∃ (a : Addr) (ys : List V) (y : V), x = .ref a ∧ xs = [y] ∧ SqL K H a ys ∧ flatV y = true ∧ ys.all flatV = true ∧ Q (.int ((ys.countP fun z => eqV z y : Nat) : Int)) H
theorem eqU_count {y : V} : ∀ {ys : List V} {us : List Value}, Vals ys us → ys.all flatV = true → us.countP (eqU y) = ys.countP fun z => eqV z y
  | _, _, .nil, _ => rfl
  | z :: ys, u :: us, .cons r t, f => by
    rw [List.all_cons, Bool.and_eq_true] at f
    rw [List.countP_cons, List.countP_cons, eqU_count t f.2, eqU_of r f.1]
theorem mt_cntF : MtR X "list.count" (rCntF X.K) := by
  intro pins s σ H x xs v us Q I rx rxs h
  obtain ⟨a, ys, y, rfl, rfl, hs, fy, fys, q⟩ := h
  cases rx
  obtain ⟨u, rfl, ry⟩ := rxs.one
  obtain ⟨its, rv, ⟨⟨cls, dd, data, sl⟩, n, ho, hc, hdn, hd⟩, hlen⟩ := I.list hs
  simp only at hc hd
  subst hc hd
  refine call_meets PySem.F.slot_list_count ⟨_, ho, rfl⟩ PySem.F.entry_list_count (PySem.F.args_list_count_2 _ _) (SeqAt.list_countAt a its.toArray n dd sl u (eqU y)) ⟨ho, fun u' hu' => mem_eqAt ry fy rv fys u' (by simpa using hu'), ?_⟩
  have e := eqU_count (y := y) rv fys
  refine ⟨.int ((ys.countP fun z => eqV z y : Nat) : Int), H, I.tok _, ⟨s.toks, ?_⟩, q⟩
  show Value.int ((its.toArray.toList.countP (eqU y) : Nat) : Int) s.toks = _
  rw [show its.toArray.toList = its from by simp, e]
def gCnt (d : MV) (ds : List MV) (m : Mem) : Re MV := match ds with
  | [e] => match (lstOf m d).bind fVs, fV e with
    | some us, some u => .ok (.int ((us.countP fun z => eqV z u : Nat) : Int)) m
    | _, _ => .stuck
  | _ => .stuck
theorem lst_flat {d : MV} {us : List V} (h : (lstOf m d).bind fVs = some us) : ∃ l, lstOf m d = some l ∧ fVs l = some us := by
  cases e : lstOf m d with
  | none => rw [e] at h; cases h
  | some l => rw [e] at h; exact ⟨l, rfl, h⟩
theorem mm_cnt : MtMm X (rCntF X.K) gCnt := by
  intro W σ d ds m β H x vs Q M rx rv p
  unfold gCnt at p
  split at p
  · split at p
    · rename_i us u h1 h2
      cases rv with
      | cons r1 r2 =>
        cases r2
        obtain ⟨l, e1, e2⟩ := lst_flat h1
        obtain ⟨a, ys, rfl, q1, q2⟩ := M.lst rx e1
        obtain ⟨rfl, f1⟩ := q2.fl2 e2
        obtain ⟨rfl, f2⟩ := r1.fl2 h2
        exact ⟨a, _, _, rfl, rfl, q1, f2, f1, p.ok M (.int _)⟩
    · exact p.not_stuck
  · exact p.not_stuck
def gIdx (d : MV) (ds : List MV) (m : Mem) : Re MV := match ds with
  | [e] => match (lstOf m d).bind fVs, fV e with
    | some us, some u => match us.findIdx? fun z => eqV z u with
      | some j => .ok (.int (j : Nat)) m
      | none => .stuck
    | _, _ => .stuck
  | _ => .stuck
theorem mm_idx : MtMm X (rIndex X.K) gIdx := by
  intro W σ d ds m β H x vs Q M rx rv p
  unfold gIdx at p
  split at p
  · split at p
    · rename_i us u h1 h2
      split at p
      · rename_i j hj
        cases rv with
        | cons r1 r2 =>
          cases r2
          obtain ⟨l, e1, e2⟩ := lst_flat h1
          obtain ⟨a, ys, rfl, q1, q2⟩ := M.lst rx e1
          obtain ⟨rfl, f1⟩ := q2.fl2 e2
          obtain ⟨rfl, f2⟩ := r1.fl2 h2
          obtain ⟨hl, z1, z2⟩ := List.findIdx?_eq_some_iff_getElem.mp hj
          refine ⟨a, _, _, j, _, rfl, rfl, q1, f2, f1, List.getElem?_eq_getElem hl, z1, fun k z hk hz => ?_, p.ok M (.int _)⟩
          have := z2 k hk
          obtain ⟨hk', rfl⟩ := List.getElem?_eq_some_iff.mp hz
          simpa using this
      · exact p.not_stuck
    · exact p.not_stuck
  · exact p.not_stuck
/-! ### sorted texts -/
def leS (a b : Str) : Bool := !Spec.ltCps b.cps.toList a.cps.toList
def sortM (xs : List Str) : List Str := xs.mergeSort leS
theorem leS_iff {a b : Str} : leS a b = true ↔ a.cps.toList ≤ b.cps.toList := by
  unfold leS
  rw [PyProof.Rows.ltCps_eq]
  simp [List.not_lt]
theorem leS_trans (a b c : Str) (h1 : leS a b = true) (h2 : leS b c = true) : leS a c = true := leS_iff.mpr (List.le_trans (leS_iff.mp h1) (leS_iff.mp h2))
theorem leS_total (a b : Str) : (leS a b || leS b a) = true := by
  rw [Bool.or_eq_true, leS_iff, leS_iff]
  exact List.le_total _ _
theorem str_ext {a b : Str} (h : a.cps.toList = b.cps.toList) : a = b := by
  cases a with
  | mk x => cases b with
    | mk y => congr; exact Array.toList_inj.mp h
theorem leS_anti {a b : Str} (h1 : leS a b = true) (h2 : leS b a = true) : a = b := str_ext (List.le_antisymm (leS_iff.mp h1) (leS_iff.mp h2))
theorem pair_rising : ∀ (l : List Str) (p : Str), PyProof.Rows.risingS p l = true → (p :: l).Pairwise fun a b => leS a b = true
  | [], p, _ => List.pairwise_singleton _ _
  | x :: r, p, h => by
    have h' : (leS p x && PyProof.Rows.risingS x r) = true := by simpa [PyProof.Rows.risingS, leS] using h
    rw [Bool.and_eq_true] at h'
    have ih := pair_rising r x h'.2
    refine List.pairwise_cons.mpr ⟨fun y hy => ?_, ih⟩
    rcases List.mem_cons.mp hy with rfl | hy
    · exact h'.1
    · exact leS_trans _ _ _ h'.1 ((List.pairwise_cons.mp ih).1 y hy)
theorem sortM_only {ys xs : List Str} (hp : ys.Perm xs) (hs : PyProof.Rows.sortedS ys = true) : ys = sortM xs := by
  have h1 : ys.Pairwise fun a b => leS a b = true := by
    cases ys with
    | nil => exact .nil
    | cons y r => exact pair_rising r y hs
  exact List.Perm.eq_of_pairwise (fun a b _ _ => leS_anti) h1 (List.pairwise_mergeSort leS_trans leS_total xs) (hp.trans (List.mergeSort_perm xs leS).symm)
def gSortS : List MV → Mem → Re MV
  | [d], m => match (lstOf m d).bind strsOf with
    | some xs => if xs.length < 64 then alloc (.lst ((sortM xs).map .str)) m else .stuck
    | none => .stuck
  | _, _ => .stuck
theorem RVs.ofStrs : ∀ xs : List Str, RVs K β H (xs.map .str) (xs.map .str)
  | [] => .nil
  | x :: r => .cons (.str x) (RVs.ofStrs r)
theorem lst_strs {d : MV} {ns : List Str} (h : (lstOf m d).bind strsOf = some ns) : ∃ l, lstOf m d = some l ∧ strsOf l = some ns := by
  cases e : lstOf m d with
  | none => rw [e] at h; cases h
  | some l => rw [e] at h; exact ⟨l, rfl, h⟩
theorem cm_sortS : CrM X (rSortedS X.K) gSortS := by
  intro W σ ds m β H vs Q M V p
  unfold gSortS at p
  split at p
  · cases V with
    | cons h r =>
      cases r
      split at p
      · rename_i xs e
        split at p
        · rename_i hl
          obtain ⟨l, h1, h2⟩ := lst_strs e
          obtain ⟨a, us, rfl, q1, q2⟩ := M.lst h h1
          have e2 := q2.strs h2
          subst e2
          refine ⟨a, xs, rfl, q1, hl, fun ys pp hp hs hn => ?_⟩
          obtain rfl := sortM_only hp hs
          have V1 : RVs X.K (β ++ [pp]) (upd H pp (.lst ((sortM xs).map .str))) ((sortM xs).map .str) ((sortM xs).map V.str) := RVs.ofStrs _
          exact p.alloc M hn ⟨_, upd_same, V1⟩
        · exact p.not_stuck
      · exact p.not_stuck
  · exact p.not_stuck
end
end MI
namespace MI
open PySem L2
section
variable {X : Cx} {W : WX} {pos : Pos} {K : PySem.W.Frag} {β : List Addr} {H : Hp} {m : Mem}
/-! ### a dict of the module that is written with text keys, and never changed -/
inductive Ents : List DictEntry → List (Str × MV) → Prop
  | nil : Ents [] []
  | cons {e : DictEntry} {k : Str} {t : Tok} {u : Value} {v : V} {d : MV} {l : List DictEntry} {r : List (Str × MV)} : e.key = .str k t → e.val = u → RelV v u → (∀ K β H, RV K β H d v) → Ents l r → Ents (e :: l) ((k, d) :: r)
structure KTab (K : PySem.W.Frag) (w : World) (mg : Str → Option Value) (x : Str) (tbl : List (Str × MV)) : Prop where
  ex : ∃ (d : Addr) (es : Array DictEntry) (n : Nat), mg x = some (.ref d) ∧ KDict K w d es n ∧ Ents es.toList tbl
theorem Ents.find {z : Str} : ∀ {l : List DictEntry} {r : List (Str × MV)}, Ents l r → l.any (·.refKey) = false ∧ match r.lookup z with
    | some d => ∃ (e : DictEntry) (v : V), l.find? (·.key.isStr z) = some e ∧ RelV v e.val ∧ ∀ K β H, RV K β H d v
    | none => l.find? (·.key.isStr z) = none
  | _, _, .nil => ⟨rfl, rfl⟩
  | _, _, .cons (e := e) (k := k) (v := v) (d := d) (l := l) (r := r) h1 h2 h3 h4 h5 => by
    obtain ⟨i1, i2⟩ := Ents.find (z := z) h5
    refine ⟨?_, ?_⟩
    · rw [List.any_cons, i1, Bool.or_false]
      unfold DictEntry.refKey
      rw [h1]
    · rw [List.lookup_cons, List.find?_cons]
      have e1 : e.key.isStr z = (k == z) := by rw [h1]; rfl
      rw [e1]
      by_cases hk : k = z
      · subst hk
        simp only [beq_self_eq_true]
        exact ⟨e, v, rfl, by rw [h2]; exact h3, h4⟩
      · rw [beq_eq_false_iff_ne.mpr hk, beq_eq_false_iff_ne.mpr (Ne.symm hk)]
        exact i2
theorem KTab.at_ {w : World} {mg : Str → Option Value} {x : Str} {tbl : List (Str × MV)} (T : KTab K w mg x tbl) : ∃ (d : Addr) (es : Array DictEntry) (n : Nat), mg x = some (.ref d) ∧ KDict K w d es n ∧ ∀ z, match tbl.lookup z with
    | some c => ∃ (u : Value) (v : V), PySem.W.nsIn K d z = some (some u) ∧ RelV v u ∧ ∀ K β H, RV K β H c v
    | none => PySem.W.nsIn K d z = some none := by
  obtain ⟨d, es, n, h1, h2, h3⟩ := T.ex
  refine ⟨d, es, n, h1, h2, fun z => ?_⟩
  obtain ⟨i1, i2⟩ := h3.find (z := z)
  have e : PySem.W.nsIn K d z = match es.toList.find? (·.key.isStr z) with
      | some e => some (some e.val)
      | none => if es.toList.any (·.refKey) then none else some none := by
    unfold PySem.W.nsIn
    rw [h2.at_] <;> rfl
  cases hl : tbl.lookup z with
  | some c =>
    rw [hl] at i2
    obtain ⟨en, v, q1, q2, q3⟩ := i2
    exact ⟨en.val, v, by rw [e, q1], q2, q3⟩
  | none =>
    rw [hl] at i2
    rw [e, i2, i1]
    rfl
def mInK (tbl : List (Str × MV)) (f : ME) : ME := fun ρ m => (f ρ m).bind fun d m1 => match d with
  | .str z => .ok (.bl (tbl.lookup z).isSome) m1
  | _ => .stuck
theorem je_inK {e : Expr} {x : Str} {p : Pos} {f : ME} {tbl : List (Str × MV)} (h : JE X W e f) (T : KTab X.K X.w X.mg x tbl) (hg : Gl X x := by rfl) (hd : (x == ("__debug__" : Str)) = false := by decide) (hk : behindInMarks .In (.Name x p) = false := by rfl) : JE X W (.Compare e [.In] [.Name x p] pos) (mInK tbl f) := by
  obtain ⟨d, es, n, h1, h2, h3⟩ := T.at_
  refine ⟨pe_imp (pe_cmpR (op_in_kd h2) h.run (pe_glob (v := .ref d) hg h1 rfl hd) hk) fun σ H Q ⟨ρ, m, β, hE, hM, q⟩ => ⟨ρ, m, β, hE, hM, q.bind fun c m1 y H1 β1 _ e1 M1 V1 p1 => ?_⟩⟩
  split at p1
  · rename_i z _
    cases V1
    have q3 := h3 z
    cases hl : tbl.lookup z with
    | some c =>
      rw [hl] at q3 p1
      obtain ⟨u, v, q4, _⟩ := q3
      exact ⟨z, some u, rfl, rfl, q4, p1.ok M1 (.bl _)⟩
    | none =>
      rw [hl] at q3 p1
      exact ⟨z, none, rfl, rfl, q3, p1.ok M1 (.bl _)⟩
  · exact p1.not_stuck
def mItemK (tbl : List (Str × MV)) (f : ME) : ME := fun ρ m => (f ρ m).bind fun d m1 => match d with
  | .str z => match tbl.lookup z with
    | some c => .ok c m1
    | none => .stuck
  | _ => .stuck
theorem je_itemK {e : Expr} {x : Str} {p : Pos} {f : ME} {tbl : List (Str × MV)} (h : JE X W e f) (T : KTab X.K X.w X.mg x tbl) (hg : Gl X x := by rfl) (hd : (x == ("__debug__" : Str)) = false := by decide) (hs : PlainIx e := by intro _ _; rfl) : JE X W (.Subscript (.Name x p) e pos) (mItemK tbl f) := by
  obtain ⟨d, es, n, h1, h2, h3⟩ := T.at_
  refine ⟨pe_imp (pe_ix (ix_kdict (X := X)) (pe_glob (v := .ref d) hg h1 rfl hd) h.run hs) fun σ H Q ⟨ρ, m, β, hE, hM, q⟩ => ⟨ρ, m, β, hE, hM, q.bind fun c m1 y H1 β1 _ e1 M1 V1 p1 => ?_⟩⟩
  split at p1
  · rename_i z _
    cases V1
    have q3 := h3 z
    split at p1
    · rename_i c hl
      rw [hl] at q3
      obtain ⟨u, v, q4, q5, q6⟩ := q3
      exact ⟨d, z, v, rfl, rfl, ⟨es, n, u, h2.at_, h2.lit, q4, q5⟩, p1.ok M1 (q6 _ _ _)⟩
    · exact p1.not_stuck
  · exact p1.not_stuck
end
end MI
namespace MI
open PySem L2
section
variable {X : Cx} {W : WX} {pos : Pos} {K : PySem.W.Frag} {β : List Addr} {H : Hp} {m : Mem}
/-- a list, a tuple, or a text by its signs -/
def seqIt : MV → Mem → Re IterM
  | .str z, m => .ok ⟨z.cps.toList.map fun c => .str ⟨#[c]⟩, fun _ => True⟩ m
  | .tup l, m => .ok ⟨l, fun _ => True⟩ m
  | .ref n, m => match lstOf m (.ref n) with
    | some l => .ok ⟨l, fun m' => lstOf m' (.ref n) = some l⟩ m
    | none => .stuck
  | _, _ => .stuck
def mAnyI (f : ME) : MI' := fun ρ m => (f ρ m).bind seqIt
theorem walkM_str {z : Str} : WalkM K β H ⟨z.cps.toList.map fun c => .str ⟨#[c]⟩, fun _ => True⟩ (Its z) := by
  refine ⟨fun _ => True, fun i H v H' => H' = H ∧ ∃ c, z.cps[i]? = some c ∧ v = .str ⟨#[c]⟩, ?_, fun _ _ _ _ _ _ => trivial, fun i H1 x H2 β1 m1 d e M1 _ hi y => ?_⟩
  · show Walk _ (List.map _ _).length _ _
    rw [List.length_map, Array.length_toList]
    exact walk_str
  · obtain ⟨rfl, c, h1, rfl⟩ := y
    rw [List.getElem?_map, Array.getElem?_toList, h1] at hi
    cases hi
    exact ⟨Ext.refl, M1, .str _⟩
theorem ji_any {tg e : Expr} {f : ME} (h : JE X W e f) : JI X W tg e (mAnyI f) := by
  refine ⟨pi_imp (pi_or (pi_str h.run) (pi_or (pi_list h.run) (pi_tup h.run))) fun σ H R ⟨ρ, m, β, hE, hM, p⟩ => ?_⟩
  have p : PostI X W ((f ρ m).bind seqIt) β H σ R := p
  have go : ∀ (t : V → Hp → Prop), (∀ d m1 β1 H1 v, f ρ m = .ok d m1 → Ext β H β1 H1 → RM X.K β1 H1 m1 → RV X.K β1 H1 d v → t v H1) → tE X W f σ H t := by
    intro t q
    refine ⟨ρ, m, β, hE, hM, ?_⟩
    cases hf : f ρ m with
    | stuck => rw [hf] at p; exact p.elim
    | ex x m1 => rw [hf] at p; exact p
    | ok d m1 => exact fun v H1 β1 e1 M1 V1 => q d m1 β1 H1 v hf e1 M1 V1
  cases hf : f ρ m with
  | stuck => rw [hf] at p; exact p.elim
  | ex x m1 => exact .inl (go _ fun d m2 β1 H1 v e => by rw [hf] at e; cases e)
  | ok d m1 =>
    rw [hf] at p
    have p : PostI X W (seqIt d m1) β H σ R := p
    cases d with
    | str z =>
      refine .inl (go _ fun d m2 β1 H1 v e e1 M1 V1 => ?_)
      rw [hf] at e
      cases e
      cases V1
      exact ⟨z, rfl, p _ _ _ e1 M1 walkM_str⟩
    | tup l =>
      refine .inr (.inr (go _ fun d m2 β1 H1 v e e1 M1 V1 => ?_))
      rw [hf] at e
      cases e
      cases V1 with
      | tup h1 h2 => exact ⟨_, rfl, ⟨_, h1⟩, p _ _ _ e1 M1 (walkM_tup M1 h1 h2)⟩
    | ref n =>
      refine .inr (.inl (go _ fun d m2 β1 H1 v e e1 M1 V1 => ?_))
      rw [hf] at e
      cases e
      have p : PostI X W (match lstOf m1 (.ref n) with
        | some l => .ok ⟨l, fun m' => lstOf m' (.ref n) = some l⟩ m1
        | none => .stuck) β H σ R := p
      cases hl : lstOf m1 (.ref n) with
      | none => rw [hl] at p; exact p.elim
      | some l =>
        rw [hl] at p
        obtain ⟨a, vs, rfl, h1, h2⟩ := M1.lst V1 hl
        exact ⟨a, rfl, ⟨vs, h1⟩, p _ _ _ e1 M1 (walkM_lst M1 V1 hl)⟩
    | non => exact p.elim
    | bl _ => exact p.elim
    | int _ => exact p.elim
    | kl _ => exact p.elim
/-! ### exceptions by name -/
/-- which classes a clause by that name takes -/
structure HndN (K : PySem.W.Frag) (mg : Str → Option Value) (x : Str) (P : Str → Option Bool) : Prop where
  ex : ∃ C : Addr, mg x = some (.ref C) ∧ Exm K (.ref C) P
/-- what isinstance(.., x) says of exceptions -/
structure IsxN (K : PySem.W.Frag) (mg : Str → Option Value) (x : Str) (P : Str → Option Bool) : Prop where
  ex : ∃ (c : V) (cv : Value), RelV c cv ∧ (∀ u, RelV c u → u = cv) ∧ ClsV c cv ∧ (mg x = some cv ∨ (mg x = none ∧ bootBuiltins x = some cv)) ∧ Isx K cv P
theorem je_isxN {e : Expr} {x : Str} {p q : Pos} {f : ME} {P : Str → Option Bool} (h : JE X W e f) (T : IsxN X.K X.mg x P) (hm : X.mg "isinstance" = none) (hg : Gl X "isinstance" := by rfl) (hgx : Gl X x := by rfl) (hn : x ≠ "__name__" := by decide) (hd : (x == ("__debug__" : Str)) = false := by decide)
    (he : starEach (e :: [.Name x q]) X.env = (false, eval e X.env) :: starEach [.Name x q] X.env := by rfl) (he2 : starEach (.Name x q :: []) X.env = (false, eval (.Name x q) X.env) :: starEach [] X.env := by rfl) (hpl : (backTo pos (starEach [.Name x q] X.env)).any (·.1) = false := by rfl) : JE X W (.Call (.Name "isinstance" p) [e, .Name x q] [] pos) (mIsx P f) := by
  obtain ⟨c, cv, r, hcv, hcl, hx, T⟩ := T.ex
  rcases hx with hx | ⟨hx, hb⟩
  · exact je_isx h hcv hcl (pe_glob hgx hx r hd) T hm hg he he2 hpl
  · exact je_isx h hcv hcl (pe_bltn hgx hx hb r hn hd) T hm hg he he2 hpl
section
variable {body : List Stmt} {f : MS} {P : Str → Option Bool}
theorem jx_tryKN (i j : Nat) {x n y : Str} {np py pn' spos pos' : Pos} (hs : X.stack = X.env :: X.outer) (hf : X.env.frame = some X.env.locals) (hex : X.ex = []) (hN : X.N.Nodup) (T : HndN X.K X.mg x P) (tk : Takes X W)
    (hb : ∀ (W' : WX) (pn : List (Addr × Obj)) (xe : Value → Shared → Prop), Takes (X.tr pn xe) W' → PassesOwn (model X.prog X.w) X.A X.env xe → JB (X.tr pn xe) W' body f)
    (hg : Gl X x := by rfl) (hdb : (x == ("__debug__" : Str)) = false := by decide) (hi : X.N[i]? = some n := by rfl) (hln : X.env.kindOf n = some .local := by rfl) (hj : X.N[j]? = some y := by rfl) (hly : X.env.kindOf y = some .local := by rfl)
    (hd1 : (n == ("__debug__" : Str)) = false := by decide) (hd2 : (n == ("__classdict__" : Str)) = false := by decide) :
    JS X W (.Try body [.ExceptHandler (some (.Name x np)) (some n) [.Assign [.Name y py] (.Name n pn') spos] pos'] [] [] pos) (mTryK P i j f) := by
  obtain ⟨C, h1, h2⟩ := T.ex
  exact jx_tryK i j hs hf hex hN ⟨hg, hdb, .inl h1⟩ h2 tk hb hi hln hj hly hd1 hd2
theorem jx_tryFN {x y t : Str} {np p p2 pos2 pos3 cpos pos' : Pos} {j j2 : Nat} (hs : X.stack = X.env :: X.outer) (hf : X.env.frame = some X.env.locals) (hpa : ∀ hd : Option Value, PassesOwnAt (model X.prog X.w) (X.A.mark hd) X.A X.env X.xe) (T : HndN X.K X.mg x P) (T2 : ExF X.K X.mg y) (tk : Takes X W)
    (hb : ∀ (W' : WX) (pn : List (Addr × Obj)) (xe : Value → Shared → Prop), L2N.Takes (X.tr pn xe) W' → PassesOwn (model X.prog X.w) X.A X.env xe → JB (X.tr pn xe) W' body f) (hgx : Gl X x := by rfl) (hdx : (x == ("__debug__" : Str)) = false := by decide) (hg : Gl X y := by rfl) (hdb : (y == ("__debug__" : Str)) = false := by decide) :
    JS X W (.Try body [.ExceptHandler (some (.Name x np)) none [.Raise (some (.Call (.Name y p) [.Constant (.str t) j p2] [] pos2)) (some (.Constant .none j2 cpos)) pos3] pos'] [] [] pos) (mTryF P y f) := by
  obtain ⟨C, h1, h2⟩ := T.ex
  exact jx_tryF hs hf hpa ⟨hgx, hdx, .inl h1⟩ h2 T2 tk hb hg hdb
theorem jx_tryN {x : Str} {suite : List Stmt} {b₀ : Stmt} {np pos' : Pos} {g : MS} (hs : X.stack = X.env :: X.outer) (hf : X.env.frame = some X.env.locals) (T : HndN X.K X.mg x P) (tk : Takes X W)
    (hb : ∀ (W' : WX) (pn : List (Addr × Obj)) (xe : Value → Shared → Prop), Takes (X.tr pn xe) W' → PassesOwn (model X.prog X.w) X.A X.env xe → JB (X.tr pn xe) W' body f)
    (hsu : ∀ (a : Addr) (oe : Obj) (pn : List (Addr × Obj)), JB (X.suite a ((a, oe) :: pn)) W0 (b₀ :: suite) g) (hg : Gl X x := by rfl) (hdb : (x == ("__debug__" : Str)) = false := by decide) :
    JS X W (.Try body [.ExceptHandler (some (.Name x np)) none (b₀ :: suite) pos'] [] [] pos) (mTry P f g) := by
  obtain ⟨C, h1, h2⟩ := T.ex
  exact jx_try hs hf ⟨hg, hdb, .inl h1⟩ h2 tk hb hsu
end
end
end MI
namespace MI
open PySem L2
theorem hu0 {k : Nat} {X : L2.Cx} (hr : L2.Room k X.A) : X.A.units < PySem.cLine := Nat.lt_of_succ_lt (hu1 hr)
/-! ### what the top has written -/
/-- a def of the module -/
structure DefAt (K : PySem.W.Frag) (mg : Str → Option Value) (x : Str) (st : Stmt) (ps : List Str) : Prop where
  ex : ∃ (f : Addr) (fd : FuncData), Fun K x x st f fd ∧ mg x = some (.ref f) ∧ PySem.W.keepIn K (.ref f) = true ∧ Binds K fd ps []
section
variable {K : PySem.W.Frag} {h : Heap} {mg : Str → Option Value} {w : World}
theorem def_mk {x : Str} {st : Stmt} {ps : List Str} {f : Addr} {oc : Value} {od an : Option Addr} {osl : Array (Option Value)} {kV doc pm cdv ct : Value} (X : K.In h) (G : h.Ns mainGlobals mg)
    (a : PySem.W.nsIn K mainGlobals x = some (some (.ref f))) (l : K.lookup f = some ⟨oc, od, .func (PySem.W.fnOf x x (defArgs st) (defBody st) (defScope st) .none kV doc pm an cdv ct), osl⟩) (c : PySem.W.codeIn K cdv x = true) (k : PySem.W.keepIn K (.ref f) = true)
    (b : ∀ (kV doc pm : Value) (an : Option Addr) (cdv ct : Value) (us : List Value), us.length = ps.length → bindArgs (PySem.W.fnOf x x (defArgs st) (defBody st) (defScope st) .none kV doc pm an cdv ct) ⟨us, []⟩ = pure (ps.zip us)) : DefAt K mg x st ps :=
  ⟨f, _, fun_mk l c k, PySem.W.mg_of X G a, k, (fun_mk l c k).binds b⟩
theorem DefAt.fnx {P : Program} {base : Heap} {M : Mode} {x : Str} {st : Stmt} {ps : List Str} {k n : Nat} {F : MF} (D : DefAt K mg x st ps) (hok : ∀ f fd, Fun K x x st f fd → FnOk P w K mg base (M.CX P w) k f fd ps (spM K n F)) : FnX M P w K mg base k x n F := by
  obtain ⟨f, fd, h1, h2, h3, h4⟩ := D.ex
  exact ⟨f, fd, ps, hok f fd h1, h2, h3, h4⟩
theorem DefAt.fn0 {P : Program} {base : Heap} {M : Mode} {x : Str} {st : Stmt} {ps : List Str} {n : Nat} (D : DefAt K mg x st ps) (hn : ps.length = n) : FnX M P w K mg base 0 x n (fun _ _ => .stuck) := by
  obtain ⟨f, fd, h1, h2, h3, h4⟩ := D.ex
  exact fnx_0 hn h2 h3 h4
/-! constants -/
theorem con_int {x : Str} {i : Int} {t : Tok} (X : K.In h) (G : h.Ns mainGlobals mg) (a : PySem.W.nsIn K mainGlobals x = some (some (.int i t))) : Con K mg x (.int i) := ⟨_, .int i, PySem.W.mg_of X G a, ⟨t, rfl⟩, fun _ _ => .int i⟩
theorem con_str {x : Str} {i : Str} {t : Tok} (X : K.In h) (G : h.Ns mainGlobals mg) (a : PySem.W.nsIn K mainGlobals x = some (some (.str i t))) : Con K mg x (.str i) := ⟨_, .str i, PySem.W.mg_of X G a, ⟨t, rfl⟩, fun _ _ => .str i⟩
theorem con_bl {x : Str} {b : Bool} (X : K.In h) (G : h.Ns mainGlobals mg) (a : PySem.W.nsIn K mainGlobals x = some (some (.bool b))) : Con K mg x (.bl b) := ⟨_, .bl b, PySem.W.mg_of X G a, rfl, fun _ _ => .bl b⟩
/-- a written constant, as it stands in the fragment; n bounds the depth -/
def conB (K : PySem.W.Frag) : Nat → MV → Value → Bool
  | _, .non, .none => true
  | _, .bl a, .bool b => a == b
  | _, .int a, .int b _ => a == b
  | _, .str a, .str b _ => a == b
  | n + 1, .tup l, .ref a => match K.lookup a with
    | some ⟨.type c, _, .seq its _, _⟩ => c == "tuple" && (l.length == its.size && decide (its.size ≤ 1000)) && (l.zip its.toList).all fun p => conB K n p.1 p.2
    | _ => false
  | _, _, _ => false
theorem vals_refl : ∀ (us : List Value), True := fun _ => trivial
theorem conB_ok : ∀ {n : Nat} {d : MV} {u : Value}, conB K n d u = true → ∃ v, RelV v u ∧ ∀ β H, RV K β H d v := by
  intro n
  induction n with
  | zero =>
    intro d u e
    cases d <;> cases u <;> simp [conB] at e
    · exact ⟨.non, rfl, fun _ _ => .non⟩
    · subst e; exact ⟨.bl _, rfl, fun _ _ => .bl _⟩
    · subst e; exact ⟨.int _, ⟨_, rfl⟩, fun _ _ => .int _⟩
    · subst e; exact ⟨.str _, ⟨_, rfl⟩, fun _ _ => .str _⟩
  | succ n ih =>
    intro d u e
    cases d <;> cases u <;> simp [conB] at e
    · exact ⟨.non, rfl, fun _ _ => .non⟩
    · subst e; exact ⟨.bl _, rfl, fun _ _ => .bl _⟩
    · subst e; exact ⟨.int _, ⟨_, rfl⟩, fun _ _ => .int _⟩
    · subst e; exact ⟨.str _, ⟨_, rfl⟩, fun _ _ => .str _⟩
    · rename_i l a
      split at e
      · rename_i c dd its k sl hl
        rw [Bool.and_eq_true, Bool.and_eq_true, Bool.and_eq_true, beq_iff_eq, beq_iff_eq, decide_eq_true_eq, List.all_eq_true] at e
        obtain ⟨⟨rfl, e2, e4⟩, e3⟩ := e
        have key : ∀ (l : List MV) (us : List Value), l.length = us.length → (∀ p ∈ l.zip us, conB K n p.1 p.2 = true) → ∃ vs, Vals vs us ∧ ∀ β H, RVs K β H l vs := by
          intro l
          induction l with
          | nil =>
            intro us h1 _
            cases us with
            | nil => exact ⟨[], .nil, fun _ _ => .nil⟩
            | cons _ _ => simp at h1
          | cons d l il =>
            intro us h1 h2
            cases us with
            | nil => simp at h1
            | cons u us =>
              obtain ⟨v, r1, r2⟩ := ih (h2 (d, u) (by simp))
              obtain ⟨vs, r3, r4⟩ := il us (by simpa using h1) fun p hp => h2 p (by simp [hp])
              exact ⟨v :: vs, .cons r1 r3, fun β H => .cons (r2 β H) (r4 β H)⟩
        obtain ⟨vs, r1, r2⟩ := key l its.toList (by simpa using e2) (fun p hp => e3 p hp)
        refine ⟨.ref a, rfl, fun β H => .tup (.inr ⟨_, its, k, hl, rfl, rfl, Nat.le_of_lt (small1000 e4), r1⟩) (r2 β H)⟩
      · cases e
theorem con_any {x : Str} {d : MV} {u : Value} (n : Nat) (X : K.In h) (G : h.Ns mainGlobals mg) (a : PySem.W.nsIn K mainGlobals x = some (some u)) (e : conB K n d u = true) : Con K mg x d := by
  obtain ⟨v, r1, r2⟩ := conB_ok e
  exact ⟨u, v, PySem.W.mg_of X G a, r1, r2⟩
/-! tables -/
def entB : List DictEntry → List (Str × MV) → Bool
  | [], [] => true
  | e :: l, p :: r => (match e.key, e.val, p.2 with
    | .str k _, .int i _, .int j => k == p.1 && i == j
    | .str k _, .str i _, .str j => k == p.1 && i == j
    | _, _, _ => false) && entB l r
  | _, _ => false
theorem entB_ok : ∀ {l : List DictEntry} {r : List (Str × MV)}, entB l r = true → Ents l r
  | [], [], _ => .nil
  | [], _ :: _, e => by cases e
  | _ :: _, [], e => by cases e
  | e :: l, (k, d) :: r, h => by
    unfold entB at h
    rw [Bool.and_eq_true] at h
    have ih := entB_ok h.2
    have h1 := h.1
    split at h1
    · rename_i k' t i t' j e1 e2 e3
      simp only [Bool.and_eq_true, beq_iff_eq] at h1
      obtain ⟨rfl, rfl⟩ := h1
      have e3 : d = .int i := e3
      subst e3
      exact .cons (v := .int i) e1 e2 ⟨_, rfl⟩ (fun _ _ _ => .int _) ih
    · rename_i k' t i t' j e1 e2 e3
      simp only [Bool.and_eq_true, beq_iff_eq] at h1
      obtain ⟨rfl, rfl⟩ := h1
      have e3 : d = .str i := e3
      subst e3
      exact .cons (v := .str i) e1 e2 ⟨_, rfl⟩ (fun _ _ _ => .str _) ih
    · cases h1
theorem tab_mk {x : Str} {tbl : List (Str × MV)} {d : Addr} {es : Array DictEntry} {n : Nat} (X : K.In h) (G : h.Ns mainGlobals mg) (a : PySem.W.nsIn K mainGlobals x = some (some (.ref d))) (l : K.lookup d = some ⟨.type "dict", none, .dict es n, #[]⟩)
    (c : PySem.W.KeysLit w.params es.toList) (e : entB es.toList tbl = true) (z : (d == sysModules) = false) : KTab K w mg x tbl := ⟨d, es, n, PySem.W.mg_of X G a, ⟨l, c, z⟩, entB_ok e⟩
/-! exceptions -/
theorem exf_mk {x : Str} {C : Addr} (X : K.In h) (G : h.Ns mainGlobals mg) (a : PySem.W.nsIn K mainGlobals x = some (some (.ref C))) (b : PySem.W.excIn K C [.type "ValueError", .type "Exception", .type "BaseException", .type "object"] "ValueError.__new__" = true)
    (c : PySem.W.keepIn K (.ref C) = true) (d : PySem.W.subIn K (.ref C) (.type "BaseException") = some true) (e : PySem.W.typeIn K (.ref C) = some (.type "type")) : ExF K mg x := ⟨C, a, PySem.W.mg_of X G a, b, c, d, e⟩
def hndB (K : PySem.W.Frag) (c : Value) (l : List (Str × Bool)) : Bool := l.all fun p => match PySem.W.nsIn K mainGlobals p.1 with
  | some (some (.ref C)) => PySem.W.exmOne K (.ref C) c == some p.2
  | _ => false
theorem lookup_mem {α : Type} : ∀ {l : List (Str × α)} {y : Str} {b : α}, l.lookup y = some b → (y, b) ∈ l
  | (k, c) :: l, y, b, h => by
    rw [List.lookup_cons] at h
    split at h
    · rename_i e
      cases h
      rw [eq_of_beq e]
      exact List.mem_cons_self
    · exact List.mem_cons_of_mem _ (lookup_mem h)
theorem hnd_mk {x : Str} {C : Addr} {l : List (Str × Bool)} (X : K.In h) (G : h.Ns mainGlobals mg) (a : PySem.W.nsIn K mainGlobals x = some (some (.ref C))) (e : hndB K (.ref C) l = true) : HndN K mg x (fun y => l.lookup y) := by
  refine ⟨C, PySem.W.mg_of X G a, fun y D b hy hb => ?_⟩
  have q := List.all_eq_true.mp e (y, b) (lookup_mem hb)
  have hy : PySem.W.nsIn K mainGlobals y = some (some (.ref D)) := hy
  simp only [hy] at q
  exact eq_of_beq q
def excB (K : PySem.W.Frag) (D : Addr) : Bool :=
  PySem.W.findIn K (.ref D) "__getattribute__" == some (some (.builtin "BaseException.__getattribute__")) && PySem.W.findIn K (.ref D) "__getattr__" == some none && PySem.W.subIn K (.ref D) (.type "BaseException") == some true && PySem.W.hasDictIn K D &&
    PySem.W.findIn K (.ref D) "__class__" == some (some (.builtin "object.__class__")) && PySem.W.specialIn K (.builtin "object.__class__") "__get__" == some (some (.builtin "getset_descriptor.__get__")) && PySem.W.takesIn K (.builtin "object.__class__") == some true && PySem.W.mroIn K D (.type "object") == some true
theorem excB_ok {D : Addr} (e : excB K D = true) : ExcC K D := by
  unfold excB at e
  simp only [Bool.and_eq_true, beq_iff_eq] at e
  obtain ⟨⟨⟨⟨⟨⟨⟨e1, e2⟩, e3⟩, e4⟩, e5⟩, e6⟩, e7⟩, e8⟩ := e
  exact ⟨e1, e2, e3, e4, e5, e6, e7, e8⟩
def isxB (K : PySem.W.Frag) (c : Value) (l : List (Str × Bool)) : Bool := PySem.W.kitOne K (.type "NoneType") c == some false && l.all fun p => match PySem.W.nsIn K mainGlobals p.1 with
  | some (some (.ref D)) => excB K D && PySem.W.kitOne K (.ref D) c == some p.2
  | _ => false
theorem isx_of {c : Value} {l : List (Str × Bool)} (e : isxB K c l = true) : Isx K c (fun y => l.lookup y) := by
  unfold isxB at e
  rw [Bool.and_eq_true] at e
  refine ⟨fun y D b hy hb => ?_, eq_of_beq e.1⟩
  have q := List.all_eq_true.mp e.2 (y, b) (lookup_mem hb)
  have hy : PySem.W.nsIn K mainGlobals y = some (some (.ref D)) := hy
  simp only [hy, Bool.and_eq_true] at q
  exact ⟨excB_ok q.1, eq_of_beq q.2⟩
theorem isx_own {x : Str} {C : Addr} {l : List (Str × Bool)} (X : K.In h) (G : h.Ns mainGlobals mg) (a : PySem.W.nsIn K mainGlobals x = some (some (.ref C))) (e : isxB K (.ref C) l = true) : IsxN K mg x (fun y => l.lookup y) :=
  ⟨.ref C, .ref C, rfl, fun _ r => r, .own C, .inl (PySem.W.mg_of X G a), isx_of e⟩
theorem isx_blt {x : Str} {T : String} {l : List (Str × Bool)} (X : K.In h) (G : h.Ns mainGlobals mg) (a : PySem.W.nsIn K mainGlobals x = some none) (hb : bootBuiltins x = some (.type T)) (e : isxB K (.type T) l = true) : IsxN K mg x (fun y => l.lookup y) :=
  ⟨.ty T, .type T, rfl, fun _ r => r, .ty T, .inr ⟨PySem.W.mg_none_of X G a, hb⟩, isx_of e⟩
/-! ### the end -/
theorem kl_of {H : Hp} {a : Addr} {xs : List V} (hO : Only H) (hS : SqL K H a xs) : KL K [] H a xs := by
  rcases hS with (h | ⟨ob, h⟩) | h
  · rcases hO a with z | ⟨o, ys, z⟩
    · rw [z] at h; cases h
    · rw [z] at h; cases h
  · exact .inl ⟨List.not_mem_nil, ob, h⟩
  · exact .inr h
theorem ints_rv {β : List Addr} {H : Hp} : ∀ ns : List Int, RVs K β H (ns.map MV.int) (ns.map V.int)
  | [] => .nil
  | n :: r => .cons (.int n) (ints_rv r)
theorem spM_law {F : MF} {H : Hp} {a : Addr} {ns : List Int} (hO : Only H) (hS : SqL K H a (ns.map V.int)) (hF : ∃ m', F [.kl (ns.map .int)] [] = .ok (.bl true) m') : spM K 1 F [.ref a] H (fun v _ => v = .bl true) fun _ _ _ => False := by
  refine ⟨rfl, [.kl (ns.map .int)], [], [], .cons (.kl (kl_of hO hS) (ints_rv ns)) .nil, ⟨rfl, List.nodup_nil, fun n o a h => by simp at h⟩, ?_⟩
  obtain ⟨m', e⟩ := hF
  rw [e]
  intro v H' β' _ _ V
  cases V
  rfl
theorem walkM {l : PySem.W.OpenLaw} {k : Nat} {q : Program} {loose : List Str} {XP : (Str → Option Value) → Heap → Prop} {YP : World → Heap → Prop} {d : DefRec} {K : Params → PySem.W.Frag} {x : Str} {F : MF}
    (hn : l.most = some 63) (hdf : d.params.defaults = []) (hr : Room k callerA) (hY : ∀ (w : World) (h : Heap), YP w h → (K w.params).In h)
    (G : ∀ (w : World) (mg : Str → Option Value) (fa : Addr) (h : Heap), (K w.params).In h → h.Ns mainGlobals mg → mg d.name = some (.ref fa) →
      ∃ fd : FuncData, (∀ (s : Shared) (u : Value), BindsTo s fd ⟨[u], []⟩ [(x, u)]) ∧ ∀ base : Heap, FnOk l.prog w (K w.params) mg base (L2.CX l.prog w) k fa fd [x] (spM (K w.params) 1 F))
    (hF : ∀ ns : List Int, ns.length ≤ 63 → (∀ z ∈ ns, Builtin.Int.intBits z ≤ 1048576) → ∃ m', F [.kl (ns.map .int)] [] = .ok (.bl true) m') :
    PySem.W.WalkO q loose XP YP l.row.toRowW d [] (fun f vs => PySem.call f vs) :=
  walk_ofB (n := 63) (k := k) (x := x) (CX := fun w => L2.CX l.prog w) (sp := fun w => spM (K w.params) 1 F) hn (by decide) hdf hr hY (fun w mg fa h X N e => let ⟨fd, b, f⟩ := G w mg fa h X N e; ⟨fd, b, fun base _ _ => f base⟩)
    (fun w H a ns hl hb hO hS => spM_law hO hS (hF ns hl hb)) fun w H s e s' z => by
      obtain ⟨_, _, _, _, _, _, _, _, _, _, _, _, z⟩ := z
      exact z
end
end MI
namespace MI
open PySem L2
/-! ### what comes of a run: Q of an answer, E of an exception -/
def W {α : Type} (r : Re α) (Q : α → Mem → Prop) (E : Exn → Mem → Prop) : Prop := match r with
  | .ok a m => Q a m
  | .ex x m => E x m
  | .stuck => False
section
variable {α γ : Type} {Q Q' : α → Mem → Prop} {E E' : Exn → Mem → Prop}
@[simp] theorem W_ok {a : α} {m : Mem} : W (.ok a m) Q E = Q a m := rfl
@[simp] theorem W_ex {x : Exn} {m : Mem} : W (.ex x m : Re α) Q E = E x m := rfl
@[simp] theorem W_stuck : W (.stuck : Re α) Q E = False := rfl
@[simp] theorem W_bind {r : Re γ} {f : γ → Mem → Re α} : W (r.bind f) Q E = W r (fun a m => W (f a m) Q E) E := by
  cases r <;> rfl
theorem W.mono {r : Re α} (h : W r Q' E') (hq : ∀ a m, Q' a m → Q a m) (he : ∀ x m, E' x m → E x m := by first | (intro _ _ h; exact h.elim) | (intro _ _ h; exact h)) : W r Q E := by
  cases r with
  | ok a m => exact hq a m h
  | ex x m => exact he x m h
  | stuck => exact h
theorem W_ite {c : Prop} [Decidable c] {a b : Re α} : W (if c then a else b) Q E = if c then W a Q E else W b Q E := by split <;> rfl
end
abbrev E0 : Exn → Mem → Prop := fun _ _ => False
section
variable {ρ : Env} {m : Mem} {Q : Fl → Mem → Prop} {E : Exn → Mem → Prop}
@[simp] theorem W_onE {α : Type} {r : Re α} {k : α → Mem → Re Fl} : W (onE ρ r k) Q E = W r (fun a m => W (k a m) Q E) (fun x m => Q (.ex x ρ) m) := by
  cases r <;> rfl
/-- on to the next statement -/
def nxt (f : MS) (Q : Fl → Mem → Prop) (E : Exn → Mem → Prop) : Fl → Mem → Prop := fun a m => match a with
  | .nx ρ => W (f ρ m) Q E
  | a => Q a m
@[simp] theorem W_seq {f g : MS} : W (mSeq f g ρ m) Q E = W (f ρ m) (nxt g Q E) E := by
  unfold mSeq
  cases f ρ m with
  | ok a m => cases a <;> rfl
  | ex x m => rfl
  | stuck => rfl
@[simp] theorem nxt_nx {f : MS} : nxt f Q E (.nx ρ) m = W (f ρ m) Q E := rfl
@[simp] theorem nxt_rt {f : MS} {d : MV} : nxt f Q E (.rt d) m = Q (.rt d) m := rfl
@[simp] theorem nxt_ex {f : MS} {x : Exn} : nxt f Q E (.ex x ρ) m = Q (.ex x ρ) m := rfl
def fin (Q : MV → Mem → Prop) (E : Exn → Mem → Prop) : Fl → Mem → Prop := fun a m => match a with
  | .nx _ => Q .non m
  | .rt d => Q d m
  | .ex x _ => E x m
  | _ => False
@[simp] theorem W_end {r : Re Fl} {Q : MV → Mem → Prop} : W (endOf r) Q E = W r (fin Q E) E0 := by
  cases r with
  | ok a m => cases a <;> rfl
  | ex x m => rfl
  | stuck => rfl
@[simp] theorem fin_nx {Q : MV → Mem → Prop} : fin Q E (.nx ρ) m = Q .non m := rfl
@[simp] theorem fin_rt {Q : MV → Mem → Prop} {d : MV} : fin Q E (.rt d) m = Q d m := rfl
@[simp] theorem fin_ex {Q : MV → Mem → Prop} {x : Exn} : fin Q E (.ex x ρ) m = E x m := rfl
@[simp] theorem W_ifS {c : MT} {f g : MS} : W (mIfS c f g ρ m) Q E = W (c ρ m) (fun b m => if b = true then W (f ρ m) Q E else W (g ρ m) Q E) (fun x m => Q (.ex x ρ) m) := by
  unfold mIfS
  rw [W_onE]
  congr 1
  funext b m
  rw [W_ite]
@[simp] theorem W_asg {f : ME} {i : Nat} : W (mAsg f (nName i) ρ m) Q E = W (f ρ m) (fun d m => Q (.nx (ρ.set i (some d))) m) (fun x m => Q (.ex x ρ) m) := by
  unfold mAsg nName
  rw [W_onE]
  rfl
@[simp] theorem W_ret {f : ME} : W (mRet f ρ m) Q E = W (f ρ m) (fun d m => Q (.rt d) m) (fun x m => Q (.ex x ρ) m) := by
  unfold mRet
  rw [W_onE]
  rfl
@[simp] theorem W_drop {f : ME} : W (mDrop f ρ m) Q E = W (f ρ m) (fun _ m => Q (.nx ρ) m) (fun x m => Q (.ex x ρ) m) := by
  unfold mDrop
  rw [W_onE]
  rfl
@[simp] theorem W_skip : W (mSkip ρ m) Q E = Q (.nx ρ) m := rfl
@[simp] theorem W_retN : W (mRetN ρ m) Q E = Q (.rt .non) m := rfl
@[simp] theorem W_raise {x : Str} : W (mRaise x ρ m) Q E = Q (.ex ⟨x⟩ ρ) m := rfl
end
section
variable {ρ : Env} {m : Mem} {Q : MV → Mem → Prop} {E : Exn → Mem → Prop}
@[simp] theorem W_C {d : MV} : W (mC d ρ m) Q E = Q d m := rfl
theorem W_var {i : Nat} {d : MV} (h : ρ[i]? = some (some d)) : W (mVar i ρ m) Q E = Q d m := by
  unfold mVar
  rw [h] <;> rfl
@[simp] theorem W_bin {g : MV → MV → Mem → Re MV} {f k : ME} : W (mBin g f k ρ m) Q E = W (f ρ m) (fun a m => W (k ρ m) (fun b m => W (g a b m) Q E) E) E := by
  unfold mBin
  simp only [W_bind]
@[simp] theorem W_call {F : MF} {g : MA} : W (mCall F g ρ m) Q E = W (g ρ m) (fun ds m => W (F ds m) Q E) E := by
  unfold mCall
  simp only [W_bind]
@[simp] theorem W_nil {Q : List MV → Mem → Prop} : W (mNil ρ m) Q E = Q [] m := rfl
@[simp] theorem W_cons {f : ME} {g : MA} {Q : List MV → Mem → Prop} : W (mCons f g ρ m) Q E = W (f ρ m) (fun d m => W (g ρ m) (fun ds m => Q (d :: ds) m) E) E := by
  unfold mCons
  simp only [W_bind, W_ok]
@[simp] theorem W_B {f : ME} {Q : Bool → Mem → Prop} : W (mB f ρ m) Q E = W (f ρ m) (fun d m => match d with | .bl b => Q b m | _ => False) E := by
  unfold mB
  rw [W_bind]
  congr 1
  funext d m
  cases d <;> rfl
@[simp] theorem W_tru {f : ME} {Q : Bool → Mem → Prop} : W (mTru f ρ m) Q E = W (f ρ m) (fun d m => match tru m d with | some b => Q b m | none => False) E := by
  unfold mTru
  rw [W_bind]
  congr 1
  funext d m
  cases tru m d <;> rfl
@[simp] theorem W_notT {f : MT} {Q : Bool → Mem → Prop} : W (mNotT f ρ m) Q E = W (f ρ m) (fun b m => Q (!b) m) E := by
  unfold mNotT
  rw [W_bind]
  rfl
@[simp] theorem W_andT {f g : MT} {Q : Bool → Mem → Prop} : W (mAndT f g ρ m) Q E = W (f ρ m) (fun b m => if b = true then W (g ρ m) Q E else Q false m) E := by
  unfold mAndT
  rw [W_bind]
  congr 1
  funext b m
  rw [W_ite]
  rfl
@[simp] theorem W_orT {f g : MT} {Q : Bool → Mem → Prop} : W (mOrT f g ρ m) Q E = W (f ρ m) (fun b m => if b = true then Q true m else W (g ρ m) Q E) E := by
  unfold mOrT
  rw [W_bind]
  congr 1
  funext b m
  rw [W_ite]
  rfl
@[simp] theorem W_and {f g : ME} : W (mAnd f g ρ m) Q E = W (f ρ m) (fun d m => match tru m d with | some true => W (g ρ m) Q E | some false => Q d m | none => False) E := by
  unfold mAnd
  rw [W_bind]
  congr 1
  funext d m
  cases tru m d with
  | none => rfl
  | some b => cases b <;> rfl
@[simp] theorem W_or {f g : ME} : W (mOr f g ρ m) Q E = W (f ρ m) (fun d m => match tru m d with | some true => Q d m | some false => W (g ρ m) Q E | none => False) E := by
  unfold mOr
  rw [W_bind]
  congr 1
  funext d m
  cases tru m d with
  | none => rfl
  | some b => cases b <;> rfl
@[simp] theorem W_not {f : ME} : W (mNot f ρ m) Q E = W (f ρ m) (fun d m => match tru m d with | some b => Q (.bl (!b)) m | none => False) E := by
  unfold mNot
  rw [W_bind]
  congr 1
  funext d m
  cases tru m d <;> rfl
@[simp] theorem W_if {c : MT} {f g : ME} : W (mIf c f g ρ m) Q E = W (c ρ m) (fun b m => if b = true then W (f ρ m) Q E else W (g ρ m) Q E) E := by
  unfold mIf
  rw [W_bind]
  congr 1
  funext b m
  rw [W_ite]
@[simp] theorem W_tup {g : MA} : W (mTup g ρ m) Q E = W (g ρ m) (fun ds m => ds.length ≤ sizeLine ∧ Q (.tup ds) m) E := by
  unfold mTup
  rw [W_bind]
  congr 1
  funext ds m
  rw [W_ite]
  by_cases h : ds.length ≤ sizeLine
  · rw [if_pos h]; simp [h]
  · rw [if_neg h]; simp [h]
@[simp] theorem W_lst {g : MA} : W (mLst g ρ m) Q E = W (g ρ m) (fun ds m => ds.length ≤ sizeLine ∧ Q (.ref m.length) (m ++ [.lst ds])) E := by
  unfold mLst
  rw [W_bind]
  congr 1
  funext ds m
  rw [W_ite]
  by_cases h : ds.length ≤ sizeLine
  · rw [if_pos h]; simp [h, alloc]
  · rw [if_neg h]; simp [h]
@[simp] theorem W_star {f : ME} {g : MA} {Q : List MV → Mem → Prop} : W (mStar f g ρ m) Q E = W (f ρ m) (fun d m => match seqOf m d with | some l => W (g ρ m) (fun ds m => Q (l ++ ds) m) E | none => False) E := by
  unfold mStar
  rw [W_bind]
  congr 1
  funext d m
  cases seqOf m d with
  | none => rfl
  | some l => simp
@[simp] theorem W_sl {f : ME} {l h : MO'} : W (mSl f l h ρ m) Q E = W (f ρ m) (fun d m => W (l ρ m) (fun lo m => W (h ρ m) (fun hi m => W (gSl d lo hi m) Q E) E) E) E := by
  unfold mSl
  simp only [W_bind]
@[simp] theorem W_no {Q : Option Int → Mem → Prop} : W (mNo ρ m) Q E = Q none m := rfl
@[simp] theorem W_endO {f : ME} {Q : Option Int → Mem → Prop} : W (mEnd f ρ m) Q E = W (f ρ m) (fun d m => match d with | .int i => Q (some i) m | _ => False) E := by
  unfold mEnd
  rw [W_bind]
  congr 1
  funext d m
  cases d <;> rfl
@[simp] theorem W_dnew : W (mDNew ρ m) Q E = Q (.ref m.length) (m ++ [.dct []]) := rfl
@[simp] theorem W_isi {T : String} {f : ME} : W (mIsi T f ρ m) Q E = W (f ρ m) (fun d m => match (tyM m d).bind fun t => kitB t T with | some b => Q (.bl b) m | none => False) E := by
  unfold mIsi
  rw [W_bind]
  congr 1
  funext d m
  cases (tyM m d).bind fun t => kitB t T <;> rfl
@[simp] theorem W_bm {g : MV → List MV → Mem → Re MV} {f : ME} {a : MA} : W (mBM g f a ρ m) Q E = W (f ρ m) (fun d m => if (lstOf m d).isSome = true then W (a ρ m) (fun ds m => W (g d ds m) Q E) E else False) E := by
  unfold mBM
  rw [W_bind]
  congr 1
  funext d m
  rw [W_ite]
  simp only [W_bind, W_stuck]
@[simp] theorem W_chain {g g' : MV → MV → Mem → Re MV} {fa fb fc : ME} : W (mChain g g' fa fb fc ρ m) Q E = W (fa ρ m) (fun a m => W (fb ρ m) (fun b m => W (g a b m) (fun r m => match r with | .bl true => W (fc ρ m) (fun c m => W (g' b c m) Q E) E | .bl false => Q (.bl false) m | _ => False) E) E) E := by
  unfold mChain
  simp only [W_bind]
  congr 1
  funext a m
  congr 1
  funext b m
  congr 1
  funext r m
  cases r with
  | bl b => cases b <;> simp
  | _ => rfl
@[simp] theorem W_neg {f : ME} : W (mNeg f ρ m) Q E = W (f ρ m) (fun d m => match d with | .int i => Q (.int (-i)) m | _ => False) E := by
  unfold mNeg
  rw [W_bind]
  congr 1
  funext d m
  cases d <;> rfl
end
/-! ### loops -/
section
variable {ρ : Env} {m : Mem} {E : Exn → Mem → Prop}
@[simp] theorem W_for {h : MI'} {g : MG} {body : MS} {Q : Fl → Mem → Prop} : W (mFor h g body ρ m) Q E = W (h ρ m) (fun it m => W (loopM it.chk g body it.items ρ m) Q E) (fun x m => Q (.ex x ρ) m) := by
  unfold mFor
  rw [W_onE]
@[simp] theorem W_lc {h : MI'} {g : NG} {t : MT} {e : ME} {vs : List Nat} {Q : MV → Mem → Prop} : W (mLc h g t e vs ρ m) Q E = W (h ρ m) (fun it m => W (lcM it.chk g t e (wipeM ρ vs) it.items [] m) (fun l m => Q (.ref m.length) (m ++ [.lst l])) E) E := by
  unfold mLc
  simp only [W_bind]
  rfl
/-- a for loop over names: what holds at every turn -/
theorem W_loop {chk : Mem → Prop} {i : Nat} {body : MS} {Q : Fl → Mem → Prop} (I : List MV → Env → Mem → Prop) : ∀ (l : List MV) (ρ : Env) (m : Mem), I l ρ m → (∀ l ρ m, I l ρ m → chk m) →
    (∀ d l ρ m, I (d :: l) ρ m → W (body (ρ.set i (some d)) m) (fun a m => match a with | .nx ρ' => I l ρ' m | .ct ρ' => I l ρ' m | .bk ρ' => Q (.nx ρ') m | a => Q a m) E) → (∀ ρ m, I [] ρ m → Q (.nx ρ) m) → W (loopM chk (nName i) body l ρ m) Q E
  | [], ρ, m, h, hc, _, hd => by
    unfold loopM
    rw [if_pos (hc _ _ _ h)]
    exact hd _ _ h
  | d :: l, ρ, m, h, hc, hs, hd => by
    unfold loopM
    rw [if_pos (hc _ _ _ h)]
    show W (match body (ρ.set i (some d)) m with
      | .ok (.nx ρ2) m2 => loopM chk (nName i) body l ρ2 m2
      | .ok (.ct ρ2) m2 => loopM chk (nName i) body l ρ2 m2
      | .ok (.bk ρ2) m2 => .ok (.nx ρ2) m2
      | q => q) Q E
    have q := hs d l ρ m h
    cases hb : body (ρ.set i (some d)) m with
    | stuck => rw [hb] at q; exact q
    | ex x m' => rw [hb] at q; exact q
    | ok a m' =>
      rw [hb] at q
      cases a with
      | nx ρ' => exact W_loop I l ρ' m' q hc hs hd
      | ct ρ' => exact W_loop I l ρ' m' q hc hs hd
      | bk ρ' => exact q
      | rt d => exact q
      | ex x ρ' => exact q
/-- a comprehension: what holds at every turn -/
theorem W_lcs {chk : Mem → Prop} {g : NG} {t : MT} {e : ME} {Q : List MV → Mem → Prop} (I : List MV → List MV → Mem → Prop) : ∀ (l acc : List MV) (m : Mem), I l acc m → (∀ l acc m, I l acc m → chk m) →
    (∀ d l acc m, I (d :: l) acc m → ∃ as, g d m = some as ∧ W (t (setE ρ as) m) (fun b m => if b = true then W (e (setE ρ as) m) (fun y m => acc.length < sizeLine ∧ I l (acc ++ [y]) m) E0 else I l acc m) E0) → (∀ acc m, I [] acc m → Q acc m) → W (lcM chk g t e ρ l acc m) Q E
  | [], acc, m, h, hc, _, hd => by
    unfold lcM
    rw [if_pos (hc _ _ _ h)]
    exact hd _ _ h
  | d :: l, acc, m, h, hc, hs, hd => by
    unfold lcM
    rw [if_pos (hc _ _ _ h)]
    obtain ⟨as, e1, q⟩ := hs d l acc m h
    rw [e1]
    dsimp only
    cases ht : t (setE ρ as) m with
    | stuck => rw [ht] at q; exact q.elim
    | ex x m' => rw [ht] at q; exact q.elim
    | ok b m' =>
      rw [ht] at q
      cases b with
      | false => exact W_lcs I l acc m' q hc hs hd
      | true =>
        have q : W (e (setE ρ as) m') (fun y m => acc.length < sizeLine ∧ I l (acc ++ [y]) m) E0 := q
        dsimp only
        cases he : e (setE ρ as) m' with
        | stuck => rw [he] at q; exact q.elim
        | ex x m2 => rw [he] at q; exact q.elim
        | ok y m2 =>
          rw [he] at q
          dsimp only
          rw [if_pos q.1]
          exact W_lcs I l (acc ++ [y]) m2 q.2 hc hs hd
end
section
variable {ρ : Env} {m : Mem} {E : Exn → Mem → Prop}
@[simp] theorem W_vr {i : Nat} {Q : MV → Mem → Prop} : W (mVar i ρ m) Q E = match ρ[i]? with | some (some d) => Q d m | _ => False := by
  unfold mVar
  cases ρ[i]? with
  | none => rfl
  | some o => cases o <;> rfl
theorem W_asgT {f : ME} {n : Nat} {k : MGs} {Q : Fl → Mem → Prop} : W (mAsg f (nTup n k) ρ m) Q E = W (f ρ m) (fun d m => match seqOf m d with
    | some l => if l.length = n then (match k l ρ m with | .ok ρ' m' => Q (.nx ρ') m' | _ => False) else False
    | none => False) (fun x m => Q (.ex x ρ) m) := by
  unfold mAsg nTup
  rw [W_onE]
  congr 1
  funext d m
  cases seqOf m d with
  | none => rfl
  | some l =>
    by_cases h : l.length = n
    · simp only [h, if_true]
      cases k l ρ m <;> rfl
    · simp only [h, if_false]
      rfl
@[simp] theorem W_store {fo fi fv : ME} {Q : Fl → Mem → Prop} : W (mStore fo fi fv ρ m) Q E = W (fv ρ m) (fun v m1 => W (fo ρ m1) (fun d m2 => match dctOf m2 d with
    | some _ => W (fi ρ m2) (fun k m3 => match dctOf m3 d, keyOf k with
      | some (n, l), some q => if l.length < sizeLine then Q (.nx ρ) (m3.set n (.dct (putM l q v))) else False
      | _, _ => False) (fun x m => Q (.ex x ρ) m)
    | none => W (fi ρ m2) (fun k m3 => match k with
      | .int k => match mutOf m3 d with
        | some (n, l) => match ixN l.length k with
          | some j => Q (.nx ρ) (m3.set n (.lst (l.set j v)))
          | none => False
        | none => False
      | _ => False) E0) (fun x m => Q (.ex x ρ) m)) (fun x m => Q (.ex x ρ) m) := by
  unfold mStore
  simp only [W_onE]
  congr 1
  funext v m1
  congr 1
  funext d m2
  cases dctOf m2 d with
  | some p =>
    simp only [W_onE]
    congr 1
    funext k m3
    cases dctOf m3 d with
    | none => rfl
    | some p =>
      obtain ⟨n, l⟩ := p
      cases keyOf k with
      | none => rfl
      | some q => simp only [W_ite, W_ok, W_stuck]
  | none =>
    dsimp only
    cases fi ρ m2 with
    | stuck => rfl
    | ex x m => rfl
    | ok k m3 =>
      cases k with
      | int k =>
        dsimp only [W_ok]
        cases mutOf m3 d with
        | none => rfl
        | some p =>
          obtain ⟨n, l⟩ := p
          dsimp only
          cases ixN l.length k <;> rfl
      | _ => rfl
@[simp] theorem W_aug {i : Nat} {g : MV → MV → Mem → Re MV} {f : ME} {Q : Fl → Mem → Prop} : W (mAug i g f ρ m) Q E = match ρ[i]? with
    | some (some d) => W (f ρ m) (fun e m1 => W (g d e m1) (fun r m2 => Q (.nx (ρ.set i (some r))) m2) (fun x m => Q (.ex x ρ) m)) (fun x m => Q (.ex x ρ) m)
    | _ => False := by
  unfold mAug
  cases ρ[i]? with
  | none => rfl
  | some o =>
    cases o with
    | none => rfl
    | some d =>
      simp only [W_onE]
      rfl
end
end MI
namespace MI
open PySem L2
section
variable {m : Mem} {Q : MV → Mem → Prop} {E : Exn → Mem → Prop}
/-! ### operations on things that are seen -/
@[simp] theorem W_add_i {i j : Int} : W (gAdd (.int i) (.int j) m) Q E = Q (.int (i + j)) m := rfl
@[simp] theorem W_add_t {a b : List MV} : W (gAdd (.tup a) (.tup b) m) Q E = (a.length + b.length ≤ sizeLine ∧ Q (.tup (a ++ b)) m) := by
  show W (if a.length + b.length ≤ sizeLine then .ok (.tup (a ++ b)) m else .stuck) Q E = _
  by_cases h : a.length + b.length ≤ sizeLine <;> simp [h]
@[simp] theorem W_addI_i {i j : Int} : W (gAddI (.int i) (.int j) m) Q E = Q (.int (i + j)) m := rfl
theorem W_add_l {a b : Nat} {xs ys : List MV} (h1 : m[a]? = some (.lst xs)) (h2 : m[b]? = some (.lst ys)) : W (gAdd (.ref a) (.ref b) m) Q E = (xs.length + ys.length ≤ sizeLine ∧ Q (.ref m.length) (m ++ [.lst (xs ++ ys)])) := by
  have e1 : mutOf m (.ref a) = some (a, xs) := by simp [mutOf, h1]
  have e2 : mutOf m (.ref b) = some (b, ys) := by simp [mutOf, h2]
  show W (match mutOf m (.ref a), mutOf m (.ref b) with
    | some (_, xs), some (_, ys) => if xs.length + ys.length ≤ sizeLine then alloc (.lst (xs ++ ys)) m else .stuck
    | _, _ => .stuck) Q E = _
  rw [e1, e2]
  by_cases h : xs.length + ys.length ≤ sizeLine <;> simp [h, alloc]
@[simp] theorem W_sub_i {i j : Int} : W (gSub (.int i) (.int j) m) Q E = Q (.int (i - j)) m := rfl
@[simp] theorem W_mul_i {i j : Int} : W (gMul (.int i) (.int j) m) Q E = (((-(2 ^ 64) < i ∧ i < 2 ^ 64) ∨ (-(2 ^ 64) < j ∧ j < 2 ^ 64)) ∧ Q (.int (i * j)) m) := by
  show W (if (-(2 ^ 64) < i ∧ i < 2 ^ 64) ∨ (-(2 ^ 64) < j ∧ j < 2 ^ 64) then .ok (.int (i * j)) m else .stuck) Q E = _
  by_cases h : (-(2 ^ 64) < i ∧ i < 2 ^ 64) ∨ (-(2 ^ 64) < j ∧ j < 2 ^ 64)
  · rw [if_pos h]; simp only [W_ok, eq_iff_iff]; exact ⟨fun q => ⟨h, q⟩, fun q => q.2⟩
  · rw [if_neg h]; simp only [W_stuck, eq_iff_iff]; exact ⟨fun q => q.elim, fun q => h q.1⟩
@[simp] theorem W_mul_t {a : List MV} {k : Int} : W (gMul (.tup a) (.int k) m) Q E = ((0 < a.length ∧ 2 ≤ k ∧ k ≤ 1000 ∧ a.length ≤ 1000) ∧ Q (.tup (List.replicate k.toNat a).flatten) m) := by
  show W (if 0 < a.length ∧ 2 ≤ k ∧ k ≤ 1000 ∧ a.length ≤ 1000 then .ok (.tup (List.replicate k.toNat a).flatten) m else .stuck) Q E = _
  by_cases h : 0 < a.length ∧ 2 ≤ k ∧ k ≤ 1000 ∧ a.length ≤ 1000
  · rw [if_pos h]; simp only [W_ok, eq_iff_iff]; exact ⟨fun q => ⟨h, q⟩, fun q => q.2⟩
  · rw [if_neg h]; simp only [W_stuck, eq_iff_iff]; exact ⟨fun q => q.elim, fun q => h q.1⟩
@[simp] theorem W_mod_i {i j : Int} : W (gMod (.int i) (.int j) m) Q E = (0 < j ∧ Q (.int (i % j)) m) := by
  show W (if 0 < j then .ok (.int (i % j)) m else .stuck) Q E = _
  by_cases h : 0 < j <;> simp [h]
@[simp] theorem W_div_i {i j : Int} : W (gDiv (.int i) (.int j) m) Q E = (CDivW i j ∧ Q (.int (i / j)) m) := by
  show W (if CDivW i j then .ok (.int (i / j)) m else .stuck) Q E = _
  by_cases h : CDivW i j <;> simp [h]
@[simp] theorem W_pow_i {i j : Int} : W (gPow (.int i) (.int j) m) Q E = (CPowW i j ∧ Q (.int (i ^ j.toNat)) m) := by
  show W (if CPowW i j then .ok (.int (i ^ j.toNat)) m else .stuck) Q E = _
  by_cases h : CPowW i j <;> simp [h]
@[simp] theorem W_lt_i {i j : Int} : W (gLt (.int i) (.int j) m) Q E = Q (.bl (decide (i < j))) m := rfl
@[simp] theorem W_gt_i {i j : Int} : W (gGt (.int i) (.int j) m) Q E = Q (.bl (decide (j < i))) m := rfl
@[simp] theorem W_ge_i {i j : Int} : W (gGe (.int i) (.int j) m) Q E = Q (.bl (decide (j ≤ i))) m := rfl
@[simp] theorem W_le_i {i j : Int} : W (gLeS (.int i) (.int j) m) Q E = Q (.bl (decide (i ≤ j))) m := rfl
@[simp] theorem W_le_s {a b : Str} : W (gLeS (.str a) (.str b) m) Q E = Q (.bl (!decide (b.cps.toList < a.cps.toList))) m := rfl
@[simp] theorem W_isN {d : MV} : W (gIsN d .non m) Q E = Q (.bl (match d with | .non => true | _ => false)) m := rfl
@[simp] theorem W_notN {d : MV} : W (gNotN d .non m) Q E = Q (.bl (match d with | .non => false | _ => true)) m := rfl
@[simp] theorem W_int_i {i : Int} : W (gInt [.int i] m) Q E = Q (.int i) m := rfl
@[simp] theorem W_int_b {b : Bool} : W (gInt [.bl b] m) Q E = Q (.int (if b = true then 1 else 0)) m := rfl
@[simp] theorem W_abs_i {i : Int} : W (gAbs [.int i] m) Q E = Q (.int (if i < 0 then -i else i)) m := rfl
@[simp] theorem W_min2 {i j : Int} : W (gMin [.int i, .int j] m) Q E = Q (.int (if j < i then j else i)) m := rfl
@[simp] theorem W_min3 {i j k : Int} : W (gMin [.int i, .int j, .int k] m) Q E = Q (.int (if k < (if j < i then j else i) then k else (if j < i then j else i))) m := rfl
@[simp] theorem W_len {d : MV} : W (gLen [d] m) Q E = match lenM m d with | some n => Q (.int (n : Int)) m | none => False := by
  show W (match lenM m d with | some n => .ok (.int (n : Int)) m | none => .stuck) Q E = _
  cases lenM m d <;> rfl
@[simp] theorem W_list {d : MV} : W (gList [d] m) Q E = match seqOf m d with | some l => Q (.ref m.length) (m ++ [.lst l]) | none => False := by
  show W (match seqOf m d with | some l => alloc (.lst l) m | none => .stuck) Q E = _
  cases seqOf m d <;> rfl
@[simp] theorem W_tuple {d : MV} : W (gTuple [d] m) Q E = match seqOf m d with | some l => Q (.tup l) m | none => False := by
  show W (match seqOf m d with | some l => .ok (.tup l) m | none => .stuck) Q E = _
  cases seqOf m d <;> rfl
/-! what stands there -/
@[simp] theorem lstOf_ref {n : Nat} : lstOf m (.ref n) = match m[n]? with | some (.lst l) => some l | some (.frz l) => some l | _ => none := rfl
@[simp] theorem lstOf_kl {l : List MV} : lstOf m (.kl l) = some l := rfl
@[simp] theorem lstOf_tup {l : List MV} : lstOf m (.tup l) = none := rfl
@[simp] theorem lstOf_str {z : Str} : lstOf m (.str z) = none := rfl
@[simp] theorem lstOf_int {z : Int} : lstOf m (.int z) = none := rfl
@[simp] theorem lstOf_non : lstOf m .non = none := rfl
@[simp] theorem seqOf_tup {l : List MV} : seqOf m (.tup l) = some l := rfl
@[simp] theorem seqOf_ref {n : Nat} : seqOf m (.ref n) = match m[n]? with | some (.lst l) => some l | some (.frz l) => some l | _ => none := rfl
@[simp] theorem seqOf_kl {l : List MV} : seqOf m (.kl l) = some l := rfl
@[simp] theorem mutOf_ref {n : Nat} : mutOf m (.ref n) = match m[n]? with | some (.lst l) => some (n, l) | _ => none := rfl
@[simp] theorem mutOf_tup {l : List MV} : mutOf m (.tup l) = none := rfl
@[simp] theorem dctOf_ref {n : Nat} : dctOf m (.ref n) = match m[n]? with | some (.dct l) => some (n, l) | _ => none := rfl
@[simp] theorem dctOf_tup {l : List MV} : dctOf m (.tup l) = none := rfl
@[simp] theorem dctOf_str {l : Str} : dctOf m (.str l) = none := rfl
@[simp] theorem dctOf_kl {l : List MV} : dctOf m (.kl l) = none := rfl
@[simp] theorem lenM_tup {l : List MV} : lenM m (.tup l) = some l.length := rfl
@[simp] theorem lenM_kl {l : List MV} : lenM m (.kl l) = some l.length := rfl
@[simp] theorem lenM_str {z : Str} : lenM m (.str z) = if z.length ≤ sizeLine then some z.length else none := rfl
@[simp] theorem lenM_ref {n : Nat} : lenM m (.ref n) = match m[n]? with | some (.lst l) => some l.length | some (.frz l) => some l.length | some (.dct l) => some l.length | _ => none := by
  show (match dctOf m (.ref n) with
    | some (_, l) => some l.length
    | none => (lstOf m (.ref n)).map List.length) = _
  simp only [dctOf_ref, lstOf_ref]
  cases m[n]? with
  | none => rfl
  | some o => cases o <;> rfl
@[simp] theorem W_item_t {l : List MV} {i : Int} : W (gItem (.tup l) (.int i) m) Q E = match atM l i with | some e => Q e m | none => False := by
  show W (match atM l i with | some e => .ok e m | none => .stuck) Q E = _
  cases atM l i <;> rfl
@[simp] theorem W_item_k {l : List MV} {i : Int} : W (gItem (.kl l) (.int i) m) Q E = match atM l i with | some e => Q e m | none => False := by
  show W (match atM l i with | some e => .ok e m | none => .stuck) Q E = _
  cases atM l i <;> rfl
@[simp] theorem W_item_r {n : Nat} {i : Int} : W (gItem (.ref n) (.int i) m) Q E = match m[n]? with
    | some (.lst l) => (match atM l i with | some e => Q e m | none => False)
    | some (.frz l) => (match atM l i with | some e => Q e m | none => False)
    | some (.dct l) => (match valM l (.inl i) with | some e => Q e m | none => False)
    | _ => False := by
  unfold gItem gDGet gIx
  simp only [dctOf_ref, seqOf_ref]
  cases h : m[n]? with
  | none => simp [h]
  | some o =>
    cases o with
    | lst l => cases h2 : atM l i <;> simp [h, h2]
    | frz l => cases h2 : atM l i <;> simp [h, h2]
    | dct l => cases h2 : valM l (.inl i) <;> simp [h, h2, keyOf]
    | exn x => simp [h]
@[simp] theorem W_sl_t {l : List MV} {lo hi : Option Int} : W (gSl (.tup l) lo hi m) Q E = Q (.tup (cutM l lo hi)) m := rfl
@[simp] theorem W_sl_k {l : List MV} {lo hi : Option Int} : W (gSl (.kl l) lo hi m) Q E = Q (.ref m.length) (m ++ [.lst (cutM l lo hi)]) := rfl
@[simp] theorem W_append {n : Nat} {e : MV} : W (gAppend (.ref n) [e] m) Q E = match m[n]? with | some (.lst l) => l.length < sizeLine ∧ Q .non (m.set n (.lst (l ++ [e]))) | _ => False := by
  unfold gAppend
  simp only [mutOf_ref]
  cases h : m[n]? with
  | none => rfl
  | some o =>
    cases o with
    | lst l => by_cases q : l.length < sizeLine <;> simp [q]
    | _ => rfl
@[simp] theorem W_extend {n k : Nat} : W (gExtend (.ref n) [.ref k] m) Q E = match m[n]?, m[k]? with | some (.lst l), some (.lst l') => l.length + l'.length ≤ sizeLine ∧ Q .non (m.set n (.lst (l ++ l'))) | _, _ => False := by
  unfold gExtend
  simp only [mutOf_ref]
  cases h : m[n]? with
  | none => rfl
  | some o =>
    cases o with
    | lst l =>
      cases h2 : m[k]? with
      | none => rfl
      | some o2 =>
        cases o2 with
        | lst l' => by_cases q : l.length + l'.length ≤ sizeLine <;> simp [q]
        | _ => rfl
    | _ => rfl
@[simp] theorem W_pop {n : Nat} : W (gPop (.ref n) [] m) Q E = match m[n]? with | some (.lst l) => (match l[l.length - 1]? with | some e => Q e (m.set n (.lst l.dropLast)) | none => False) | _ => False := by
  unfold gPop
  simp only [mutOf_ref]
  cases h : m[n]? with
  | none => rfl
  | some o =>
    cases o with
    | lst l => cases q : l[l.length - 1]? <;> simp [q]
    | _ => rfl
@[simp] theorem W_eq_s {a b : Str} {neg : Bool} : W (gEqA neg (.str a) (.str b) m) Q E = Q (.bl (if neg = true then !decide (a = b) else decide (a = b))) m := by
  unfold gEqA gEqS
  simp [eqS]
@[simp] theorem W_eq_i {a b : Int} {neg : Bool} : W (gEqA neg (.int a) (.int b) m) Q E = Q (.bl (if neg = true then !decide (a = b) else decide (a = b))) m := by
  unfold gEqA gEqS
  simp [eqS]
@[simp] theorem tru_bl {b : Bool} : tru m (.bl b) = some b := rfl
@[simp] theorem tru_non : tru m .non = some false := rfl
@[simp] theorem tru_int {i : Int} : tru m (.int i) = some (i != 0) := rfl
@[simp] theorem tru_tup {l : List MV} : tru m (.tup l) = some (!l.isEmpty) := rfl
@[simp] theorem tru_ref {n : Nat} : tru m (.ref n) = truO m[n]? := rfl
/-! ### what is walked -/
@[simp] theorem W_any {ρ : Env} {f : ME} {Q : IterM → Mem → Prop} : W (mAnyI f ρ m) Q E = W (f ρ m) (fun d m => W (seqIt d m) Q E) E := by
  unfold mAnyI
  simp only [W_bind]
@[simp] theorem W_it_t {l : List MV} {Q : IterM → Mem → Prop} : W (seqIt (.tup l) m) Q E = Q ⟨l, fun _ => True⟩ m := rfl
@[simp] theorem W_it_s {z : Str} {Q : IterM → Mem → Prop} : W (seqIt (.str z) m) Q E = Q ⟨z.cps.toList.map fun c => .str ⟨#[c]⟩, fun _ => True⟩ m := rfl
@[simp] theorem W_it_r {n : Nat} {Q : IterM → Mem → Prop} : W (seqIt (.ref n) m) Q E = match m[n]? with
    | some (.lst l) => Q ⟨l, fun m' => lstOf m' (.ref n) = some l⟩ m
    | some (.frz l) => Q ⟨l, fun m' => lstOf m' (.ref n) = some l⟩ m
    | _ => False := by
  unfold seqIt
  simp only [lstOf_ref]
  cases h : m[n]? with
  | none => rfl
  | some o => cases o <;> rfl
@[simp] theorem W_rng {ρ : Env} {g : MA} {Q : IterM → Mem → Prop} : W (mRng g ρ m) Q E = W (g ρ m) (fun ds m => W (rngOf ds m) Q E) E := by
  unfold mRng
  simp only [W_bind]
@[simp] theorem W_rng1 {j : Int} {Q : IterM → Mem → Prop} : W (rngOf [.int j] m) Q E = ((-(2 ^ 62) ≤ j ∧ j < 2 ^ 62) ∧ Q ⟨rngL 0 j.toNat, fun _ => True⟩ m) := by
  show W (if -(2 ^ 62) ≤ j ∧ j < 2 ^ 62 then .ok ⟨rngL 0 j.toNat, fun _ => True⟩ m else .stuck) Q E = _
  by_cases h : -(2 ^ 62) ≤ j ∧ j < 2 ^ 62
  · rw [if_pos h]; simp only [W_ok, eq_iff_iff]; exact ⟨fun q => ⟨h, q⟩, fun q => q.2⟩
  · rw [if_neg h]; simp only [W_stuck, eq_iff_iff]; exact ⟨fun q => q.elim, fun q => h q.1⟩
@[simp] theorem W_enum {ρ : Env} {g : MA} {Q : IterM → Mem → Prop} : W (mEnum g ρ m) Q E = W (g ρ m) (fun ds m => W (enumOf ds m) Q E) E := by
  unfold mEnum
  simp only [W_bind]
@[simp] theorem W_enum_t {l : List MV} {Q : IterM → Mem → Prop} : W (enumOf [.tup l] m) Q E = Q ⟨numd l, fun _ => True⟩ m := rfl
end
end MI
namespace MI
open PySem L2
section
variable {m : Mem} {E : Exn → Mem → Prop}
theorem szl {n : Nat} (h : n ≤ 1000) : n ≤ sizeLine := Nat.le_of_lt (small1000 h)
/-- a comprehension that changes nothing -/
theorem lc_pure {chk : Mem → Prop} {i : Nat} {t : MT} {e : ME} {ρ : Env} (φ : MV → MV) (ψ : MV → Bool) : ∀ (l acc : List MV), chk m → (∀ d ∈ l, t (ρ.set i (some d)) m = .ok (ψ d) m ∧ (ψ d = true → e (ρ.set i (some d)) m = .ok (φ d) m)) → acc.length + l.length ≤ 1000 →
    lcM chk (ngName i) t e ρ l acc m = .ok (acc ++ (l.filter ψ).map φ) m
  | [], acc, hc, _, _ => by
    unfold lcM
    rw [if_pos hc]
    simp
  | d :: l, acc, hc, h, hl => by
    unfold lcM
    rw [if_pos hc]
    obtain ⟨h1, h2⟩ := h d List.mem_cons_self
    show (match t (ρ.set i (some d)) m with
      | .ok true m2 => match e (ρ.set i (some d)) m2 with
        | .ok y m3 => if acc.length < sizeLine then lcM chk (ngName i) t e ρ l (acc ++ [y]) m3 else .stuck
        | _ => .stuck
      | .ok false m2 => lcM chk (ngName i) t e ρ l acc m2
      | _ => .stuck) = _
    rw [h1]
    simp only [List.length_cons] at hl
    cases hp : ψ d with
    | false =>
      dsimp only
      rw [lc_pure φ ψ l acc hc (fun x hx => h x (List.mem_cons_of_mem _ hx)) (by omega), List.filter_cons, hp]
      simp
    | true =>
      dsimp only
      rw [h2 hp]
      dsimp only
      rw [if_pos (Nat.lt_of_lt_of_le (by omega) (szl (n := 1000) (Nat.le_refl _))), lc_pure φ ψ l (acc ++ [φ d]) hc (fun x hx => h x (List.mem_cons_of_mem _ hx)) (by simp; omega), List.filter_cons, hp]
      simp
theorem W_pure {chk : Mem → Prop} {i : Nat} {t : MT} {e : ME} {ρ : Env} {Q : List MV → Mem → Prop} (φ : MV → MV) (ψ : MV → Bool) {l : List MV} (hc : chk m) (h : ∀ d ∈ l, t (ρ.set i (some d)) m = .ok (ψ d) m ∧ (ψ d = true → e (ρ.set i (some d)) m = .ok (φ d) m)) (hl : l.length ≤ 1000) (q : Q ((l.filter ψ).map φ) m) :
    W (lcM chk (ngName i) t e ρ l [] m) Q E := by
  rw [lc_pure φ ψ l [] hc h (by simpa using hl)]
  simpa using q
theorem filter_all {l : List MV} : l.filter (fun _ => true) = l := by simp
/-- a for loop over any target -/
theorem W_loopG {chk : Mem → Prop} {g : MG} {body : MS} {Q : Fl → Mem → Prop} (I : List MV → Env → Mem → Prop) : ∀ (l : List MV) (ρ : Env) (m : Mem), I l ρ m → (∀ l ρ m, I l ρ m → chk m) →
    (∀ d l ρ m, I (d :: l) ρ m → ∃ ρ1, g d ρ m = .ok ρ1 m ∧ W (body ρ1 m) (fun a m => match a with | .nx ρ' => I l ρ' m | .ct ρ' => I l ρ' m | .bk ρ' => Q (.nx ρ') m | a => Q a m) E) → (∀ ρ m, I [] ρ m → Q (.nx ρ) m) → W (loopM chk g body l ρ m) Q E
  | [], ρ, m, h, hc, _, hd => by
    unfold loopM
    rw [if_pos (hc _ _ _ h)]
    exact hd _ _ h
  | d :: l, ρ, m, h, hc, hs, hd => by
    unfold loopM
    rw [if_pos (hc _ _ _ h)]
    obtain ⟨ρ1, e1, q⟩ := hs d l ρ m h
    rw [e1]
    dsimp only
    cases hb : body ρ1 m with
    | stuck => rw [hb] at q; exact q
    | ex x m' => rw [hb] at q; exact q
    | ok a m' =>
      rw [hb] at q
      cases a with
      | nx ρ' => exact W_loopG I l ρ' m' q hc hs hd
      | ct ρ' => exact W_loopG I l ρ' m' q hc hs hd
      | bk ρ' => exact q
      | rt d => exact q
      | ex x ρ' => exact q
@[simp] theorem W_inK {tbl : List (Str × MV)} {f : ME} {ρ : Env} {Q : MV → Mem → Prop} : W (mInK tbl f ρ m) Q E = W (f ρ m) (fun d m => match d with | .str z => Q (.bl (tbl.lookup z).isSome) m | _ => False) E := by
  unfold mInK
  rw [W_bind]
  congr 1
  funext d m
  cases d <;> rfl
@[simp] theorem W_itemK {tbl : List (Str × MV)} {f : ME} {ρ : Env} {Q : MV → Mem → Prop} : W (mItemK tbl f ρ m) Q E = W (f ρ m) (fun d m => match d with | .str z => (match tbl.lookup z with | some c => Q c m | none => False) | _ => False) E := by
  unfold mItemK
  rw [W_bind]
  congr 1
  funext d m
  cases d with
  | str z => dsimp only; cases tbl.lookup z <;> rfl
  | _ => rfl
/-- a while loop: I n, n the turns that may be left -/
theorem W_while {c : MT} {f : MS} {Q : Fl → Mem → Prop} (I : Nat → Env → Mem → Prop) (hs : ∀ n ρ m, I n ρ m → W (c ρ m) (fun b m1 => if b = true then ∃ n', n = n' + 1 ∧ W (f ρ m1) (fun a m2 => match a with | .nx ρ' => ∃ j, j ≤ n' ∧ I j ρ' m2 | .ct ρ' => ∃ j, j ≤ n' ∧ I j ρ' m2 | .bk ρ' => Q (.nx ρ') m2 | a => Q a m2) E else Q (.nx ρ) m1) E0) :
    ∀ (fuel n : Nat) (ρ : Env) (m : Mem), I n ρ m → n < fuel → W (whileM c f fuel ρ m) Q E
  | 0, n, ρ, m, _, hl => by omega
  | fuel + 1, n, ρ, m, h, hl => by
    have q := hs n ρ m h
    show W (onE ρ (c ρ m) fun b m1 => if b = true then (match f ρ m1 with
      | .ok (.nx ρ2) m2 => whileM c f fuel ρ2 m2
      | .ok (.ct ρ2) m2 => whileM c f fuel ρ2 m2
      | .ok (.bk ρ2) m2 => .ok (.nx ρ2) m2
      | q => q) else .ok (.nx ρ) m1) Q E
    cases hc : c ρ m with
    | stuck => rw [hc] at q; exact q.elim
    | ex x m1 => rw [hc] at q; exact q.elim
    | ok b m1 =>
      rw [hc] at q
      have q : if b = true then ∃ n', n = n' + 1 ∧ W (f ρ m1) (fun a m2 => match a with | .nx ρ' => ∃ j, j ≤ n' ∧ I j ρ' m2 | .ct ρ' => ∃ j, j ≤ n' ∧ I j ρ' m2 | .bk ρ' => Q (.nx ρ') m2 | a => Q a m2) E else Q (.nx ρ) m1 := q
      show W (if b = true then (match f ρ m1 with
        | .ok (.nx ρ2) m2 => whileM c f fuel ρ2 m2
        | .ok (.ct ρ2) m2 => whileM c f fuel ρ2 m2
        | .ok (.bk ρ2) m2 => .ok (.nx ρ2) m2
        | q => q) else .ok (.nx ρ) m1) Q E
      cases b with
      | false => exact q
      | true =>
        obtain ⟨n', en, q2⟩ := (show ∃ n', n = n' + 1 ∧ W (f ρ m1) (fun a m2 => match a with | .nx ρ' => ∃ j, j ≤ n' ∧ I j ρ' m2 | .ct ρ' => ∃ j, j ≤ n' ∧ I j ρ' m2 | .bk ρ' => Q (.nx ρ') m2 | a => Q a m2) E from q)
        rw [if_pos rfl]
        cases hf : f ρ m1 with
        | stuck => rw [hf] at q2; exact q2
        | ex x m2 => rw [hf] at q2; exact q2
        | ok a m2 =>
          rw [hf] at q2
          cases a with
          | nx ρ' => obtain ⟨j, hj, q⟩ := q2; exact W_while I hs fuel j ρ' m2 q (by omega)
          | ct ρ' => obtain ⟨j, hj, q⟩ := q2; exact W_while I hs fuel j ρ' m2 q (by omega)
          | bk ρ' => exact q2
          | rt d => exact q2
          | ex x ρ' => exact q2
end
end MI
namespace MI
open PySem L2
/-! ### data: values with no object in them, and no truth -/
mutual
def pu : MV → Bool
  | .non => true
  | .int _ => true
  | .str s => PyData.strOk s
  | .tup l => pus l
  | _ => false
def pus : List MV → Bool
  | [] => true
  | d :: l => pu d && pus l
end
mutual
def pd : MV → PyData
  | .non => .none
  | .int i => .int i
  | .str s => .str s
  | .tup l => .tuple (pds l)
  | _ => .none
def pds : List MV → List PyData
  | [] => []
  | d :: l => pd d :: pds l
end
mutual
/-- the fuel that it takes -/
def fl : MV → Nat
  | .tup l => 1 + fls l
  | _ => 0
def fls : List MV → Nat
  | [] => 0
  | d :: l => 1 + max (fl d) (fls l)
end
mutual
/-- how deep it is -/
def dp : MV → Nat
  | .tup l => dps l + 1
  | _ => 0
def dps : List MV → Nat
  | [] => 0
  | d :: l => max (dp d) (dps l)
end
mutual
theorem dat_pu (m : Mem) : ∀ (d : MV) (n : Nat), pu d = true → fl d ≤ n → dat m n d = some (pd d)
  | .non, n, _, _ => by unfold dat; rfl
  | .int _, n, _, _ => by unfold dat; rfl
  | .str _, n, _, _ => by unfold dat; rfl
  | .bl _, _, h, _ => by simp [pu] at h
  | .ref _, _, h, _ => by simp [pu] at h
  | .kl _, _, h, _ => by simp [pu] at h
  | .tup l, 0, _, h => by simp [fl] at h
  | .tup l, n + 1, h, hn => by
    unfold dat
    rw [dats_pu m l n (by simpa [pu] using h) (by simp [fl] at hn; omega)]
    rfl
theorem dats_pu (m : Mem) : ∀ (l : List MV) (n : Nat), pus l = true → fls l ≤ n → dats m n l = some (pds l)
  | [], n, _, _ => by unfold dats; rfl
  | d :: l, 0, _, h => by simp [fls] at h
  | d :: l, n + 1, h, hn => by
    simp [pus] at h
    simp [fls] at hn
    unfold dats
    rw [dat_pu m d n h.1 (by omega), dats_pu m l n h.2 (by omega)]
    rfl
end
mutual
theorem lay_pu : ∀ (d : MV), pu d = true → (pd d).canLay0 = true
  | .non, _ => rfl
  | .int _, _ => rfl
  | .str s, h => by simpa [pd, PyData.canLay0, pu] using h
  | .bl _, h => by simp [pu] at h
  | .ref _, h => by simp [pu] at h
  | .kl _, h => by simp [pu] at h
  | .tup l, h => by
    have := lays_pu l (by simpa [pu] using h)
    simpa [pd, PyData.canLay0] using this
theorem lays_pu : ∀ (l : List MV), pus l = true → PyData.canLayAll0 (pds l) = true
  | [], _ => rfl
  | d :: l, h => by
    simp [pus] at h
    simp [pds, PyData.canLayAll0, lay_pu d h.1, lays_pu l h.2]
end
mutual
theorem depth_pu : ∀ (d : MV), (pd d).depth = dp d
  | .non => by simp [pd, PyData.depth, dp]
  | .int _ => by simp [pd, PyData.depth, dp]
  | .str s => by simp [pd, PyData.depth, dp]
  | .bl _ => by simp [pd, PyData.depth, dp]
  | .ref _ => by simp [pd, PyData.depth, dp]
  | .kl _ => by simp [pd, PyData.depth, dp]
  | .tup l => by simp [pd, PyData.depth, dp, depths_pu l]
theorem depths_pu : ∀ (l : List MV), PyData.depthAll (pds l) = dps l
  | [] => by simp [pds, PyData.depthAll, dps]
  | d :: l => by simp [pds, PyData.depthAll, dps, depth_pu d, depths_pu l]
end
mutual
theorem eqv_pu : ∀ (a b : MV), pu a = true → pu b = true → (PyData.eqv (pd a) (pd b) = true ↔ a = b)
  | .bl _, _, h, _ => by simp [pu] at h
  | .ref _, _, h, _ => by simp [pu] at h
  | .kl _, _, h, _ => by simp [pu] at h
  | .non, b, _, h => by cases b <;> simp_all [pd, PyData.eqv, pu]
  | .int _, b, _, h => by cases b <;> simp_all [pd, PyData.eqv, pu]
  | .str _, b, _, h => by cases b <;> simp_all [pd, PyData.eqv, pu]
  | .tup l, b, h1, h => by
    cases b with
    | tup k =>
      have := eqvs_pu l k (by simpa [pu] using h1) (by simpa [pu] using h)
      simpa [pd, PyData.eqv] using this
    | _ => simp_all [pd, PyData.eqv, pu]
theorem eqvs_pu : ∀ (a b : List MV), pus a = true → pus b = true → (PyData.eqvAll (pds a) (pds b) = true ↔ a = b)
  | [], [], _, _ => by simp [pds, PyData.eqvAll]
  | [], _ :: _, _, _ => by simp [pds, PyData.eqvAll]
  | _ :: _, [], _, _ => by simp [pds, PyData.eqvAll]
  | a :: l, b :: k, h1, h2 => by
    simp [pus] at h1 h2
    simp [pds, PyData.eqvAll, eqv_pu a b h1.1 h2.1, eqvs_pu l k h1.2 h2.2]
end
theorem shaped_pu {d : MV} (h : pu d = true) (hd : dp d ≤ 64) : SeqAt.shaped (pd d) = true := by
  unfold SeqAt.shaped
  rw [lay_pu d h, depth_pu]
  simp [hd]
theorem shaped_pus {l : List MV} (h : pus l = true) (hd : dps l ≤ 63) : SeqAt.shaped (.list (pds l)) = true := by
  unfold SeqAt.shaped
  simp only [PyData.canLay0, PyData.depth, lays_pu l h, depths_pu]
  simp
  omega
/-- data that == can look at -/
structure Da (d : MV) : Prop where
  pu : MI.pu d = true
  fl : MI.fl d ≤ 1900
  dp : MI.dp d ≤ 60
structure Das (l : List MV) : Prop where
  pu : MI.pus l = true
  fl : MI.fls l ≤ 1900
  dp : MI.dps l ≤ 60
section
variable {m : Mem} {E : Exn → Mem → Prop} {Q : MV → Mem → Prop}
theorem eqS_pu {a b : MV} {k : Bool} (ha : pu a = true) (h : eqS a b = some k) : (k = true ↔ a = b) := by
  cases a <;> cases b <;> simp [eqS] at h <;> first | (subst h; simp) | (simp [pu] at ha) 
theorem gEqA_pu {a b : MV} {neg : Bool} (ha : Da a) (hb : Da b) : ∃ k : Bool, (k = true ↔ a = b) ∧ gEqA neg a b m = .ok (.bl (if neg = true then !k else k)) m := by
  unfold gEqA
  cases h : eqS a b with
  | some k =>
    refine ⟨k, eqS_pu ha.pu h, ?_⟩
    dsimp only
    unfold gEqS
    rw [h]
  | none =>
    dsimp only
    unfold gEq
    rw [dat_pu m a fuel ha.pu (Nat.le_trans ha.fl (by decide)), dat_pu m b fuel hb.pu (Nat.le_trans hb.fl (by decide))]
    dsimp only
    rw [if_pos ⟨shaped_pu ha.pu (by have := ha.dp; omega), shaped_pu hb.pu (by have := hb.dp; omega)⟩]
    exact ⟨_, eqv_pu a b ha.pu hb.pu, rfl⟩
theorem W_eqD {a b : MV} {neg : Bool} (ha : Da a) (hb : Da b) (q : ∀ k : Bool, (k = true ↔ a = b) → Q (.bl (if neg = true then !k else k)) m) : W (gEqA neg a b m) Q E := by
  obtain ⟨k, h1, h2⟩ := gEqA_pu (m := m) (neg := neg) ha hb
  rw [h2]
  exact q k h1
theorem dat_l {n : Nat} {l : List MV} (h : m[n]? = some (.lst l)) (hl : Das l) : dat m fuel (.ref n) = some (.list (pds l)) := by
  show dat m (1999 + 1) (.ref n) = _
  unfold dat
  rw [(show lstOf m (.ref n) = some l by simp [h])]
  dsimp only
  rw [dats_pu m l 1999 hl.pu (Nat.le_trans hl.fl (by decide))]
  rfl
theorem W_eqL {a b : Nat} {l k : List MV} {neg : Bool} (ha : m[a]? = some (.lst l)) (hb : m[b]? = some (.lst k)) (da : Das l) (db : Das k) (q : ∀ z : Bool, (z = true ↔ l = k) → Q (.bl (if neg = true then !z else z)) m) : W (gEqA neg (.ref a) (.ref b) m) Q E := by
  unfold gEqA
  show W (gEq neg (.ref a) (.ref b) m) Q E
  unfold gEq
  rw [dat_l ha da, dat_l hb db]
  dsimp only
  rw [if_pos ⟨shaped_pus da.pu (by have := da.dp; omega), shaped_pus db.pu (by have := db.dp; omega)⟩]
  refine q _ ?_
  show (PyData.eqv (.list _) (.list _) = true ↔ _)
  simp only [PyData.eqv]
  exact eqvs_pu l k da.pu db.pu
theorem any_pds {l : List MV} {d : MV} (hl : pus l = true) (hd : pu d = true) : ((pds l).any (fun z => PyData.eqv z (pd d)) = true ↔ d ∈ l) := by
  induction l with
  | nil => simp [pds]
  | cons x r ih =>
    simp [pus] at hl
    have h1 := eqv_pu x d hl.1 hd
    simp [pds, h1] at *
    rw [ih hl.2, eq_comm]
theorem W_inD {d : MV} {n : Nat} {l : List MV} {neg : Bool} (hn : m[n]? = some (.lst l)) (hl : Das l) (hd : Da d) (nf : flat d = false) (q : ∀ z : Bool, (z = true ↔ d ∈ l) → Q (.bl (if neg = true then !z else z)) m) : W (gInA neg d (.ref n) m) Q E := by
  unfold gInA
  rw [if_neg (by rintro ⟨z, hz⟩; cases hz), if_neg (by simp [hn]), if_neg (by rintro ⟨z, _, hz, _⟩; rw [nf] at hz; cases hz)]
  unfold gInD
  rw [dat_pu m d fuel hd.pu (Nat.le_trans hd.fl (by decide)), dat_l hn hl]
  dsimp only
  rw [if_pos ⟨shaped_pu hd.pu (by have := hd.dp; omega), shaped_pus hl.pu (by have := hl.dp; omega)⟩]
  exact q _ (any_pds hl.pu hd.pu)
end
section
variable {m : Mem} {E : Exn → Mem → Prop} {Q : MV → Mem → Prop}
@[simp] theorem W_sl_r {n : Nat} {lo hi : Option Int} : W (gSl (.ref n) lo hi m) Q E = match lstOf m (.ref n) with | some l => Q (.ref m.length) (m ++ [.lst (cutM l lo hi)]) | none => False := by
  show W (match lstOf m (.ref n) with | some l => alloc (.lst (cutM l lo hi)) m | none => .stuck) Q E = _
  cases lstOf m (.ref n) <;> rfl
@[simp] theorem W_zip {a b : MV} : W (gZip [a, b] m) Q E = match lstOf m a, lstOf m b with | some l, some k => Q (.tup ((l.zip k).map fun p => .tup [p.1, p.2])) m | _, _ => False := by
  show W (match lstOf m a, lstOf m b with | some l, some k => .ok (.tup ((l.zip k).map fun p => .tup [p.1, p.2])) m | _, _ => .stuck) Q E = _
  cases lstOf m a <;> cases lstOf m b <;> rfl
end
end MI
namespace MI
open PySem L2
section
variable {m : Mem} {E : Exn → Mem → Prop} {Q : MV → Mem → Prop} {ρ : Env}
@[simp] theorem W_max {d : MV} : W (gMax [d] m) Q E = match ((lstOf m d).bind intsOf).bind maxL with | some k => Q (.int k) m | none => False := by
  show W (match ((lstOf m d).bind intsOf).bind maxL with | some k => .ok (.int k) m | none => .stuck) Q E = _
  cases ((lstOf m d).bind intsOf).bind maxL <;> rfl
@[simp] theorem W_sum {d : MV} : W (gSum [d] m) Q E = match (lstOf m d).bind intsOf with | some ns => Q (.int ns.sum) m | none => False := by
  show W (match (lstOf m d).bind intsOf with | some ns => .ok (.int ns.sum) m | none => .stuck) Q E = _
  cases (lstOf m d).bind intsOf <;> rfl
@[simp] theorem W_sortS {d : MV} : W (gSortS [d] m) Q E = match (lstOf m d).bind strsOf with | some xs => xs.length < 64 ∧ Q (.ref m.length) (m ++ [.lst ((sortM xs).map .str)]) | none => False := by
  show W (match (lstOf m d).bind strsOf with | some xs => (if xs.length < 64 then alloc (.lst ((sortM xs).map .str)) m else .stuck) | none => .stuck) Q E = _
  cases (lstOf m d).bind strsOf with
  | none => rfl
  | some xs => by_cases h : xs.length < 64 <;> simp [h, alloc]
theorem strs_map : ∀ ns : List Str, strsOf (ns.map .str) = some ns
  | [] => rfl
  | s :: r => by simp [strsOf, strs_map r]
theorem ints_map : ∀ ns : List Int, intsOf (ns.map .int) = some ns
  | [] => rfl
  | s :: r => by simp [intsOf, ints_map r]
@[simp] theorem W_isx {P : Str → Option Bool} {f : ME} : W (mIsx P f ρ m) Q E = W (f ρ m) (fun d m => match isxV P m d with | some b => Q (.bl b) m | none => False) E := by
  unfold mIsx
  rw [W_bind]
  congr 1
  funext d m
  cases isxV P m d <;> rfl
@[simp] theorem W_cnt {d e : MV} : W (gCnt d [e] m) Q E = match (lstOf m d).bind fVs, fV e with | some us, some u => Q (.int ((us.countP fun z => eqV z u : Nat) : Int)) m | _, _ => False := by
  show W (match (lstOf m d).bind fVs, fV e with | some us, some u => .ok (.int ((us.countP fun z => eqV z u : Nat) : Int)) m | _, _ => .stuck) Q E = _
  cases (lstOf m d).bind fVs <;> cases fV e <;> rfl
@[simp] theorem W_idx {d e : MV} : W (gIdx d [e] m) Q E = match (lstOf m d).bind fVs, fV e with | some us, some u => (match us.findIdx? fun z => eqV z u with | some j => Q (.int (j : Nat)) m | none => False) | _, _ => False := by
  show W (match (lstOf m d).bind fVs, fV e with | some us, some u => (match us.findIdx? fun z => eqV z u with | some j => .ok (.int (j : Nat)) m | none => .stuck) | _, _ => .stuck) Q E = _
  cases (lstOf m d).bind fVs with
  | none => rfl
  | some us => cases fV e with
    | none => rfl
    | some u => dsimp only; cases us.findIdx? fun z => eqV z u <;> rfl
@[simp] theorem W_eqE {a b : MV} : W (gEqE a b m) Q E = match lstOf m a, lstOf m b with | some l, some [] => Q (.bl l.isEmpty) m | _, _ => False := by
  unfold gEqE
  cases lstOf m a with
  | none => rfl
  | some l => cases lstOf m b with
    | none => rfl
    | some k => cases k <;> rfl
theorem inV_str {s : Str} : ∀ {ns : List Str}, (inV (toV (.str s)) ((ns.map MV.str).map toV) = true ↔ s ∈ ns)
  | [] => ⟨(fun h => by cases h), (fun h => by cases h)⟩
  | x :: r => by
    have ih := inV_str (s := s) (ns := r)
    show (((x == s) || inV (toV (.str s)) ((r.map MV.str).map toV)) = true ↔ _)
    rw [Bool.or_eq_true, ih, List.mem_cons, beq_iff_eq, eq_comm]
theorem W_inStr {s : Str} {n : Nat} {ns : List Str} {neg : Bool} (hn : m[n]? = some (.lst (ns.map .str))) (q : ∀ z : Bool, (z = true ↔ s ∈ ns) → Q (.bl (if neg = true then !z else z)) m) : W (gInA neg (.str s) (.ref n) m) Q E := by
  unfold gInA
  have hf : (ns.map MV.str).all MI.flat = true := by simp [MI.flat]
  rw [if_neg (by rintro ⟨z, hz⟩; cases hz), if_neg (by simp [hn]), if_pos ⟨ns.map .str, by simp [hn], rfl, hf⟩]
  unfold gInF
  rw [(show seqOf m (.ref n) = some (ns.map .str) by simp [hn])]
  dsimp only
  rw [if_pos ⟨rfl, hf⟩]
  exact q _ inV_str
section
variable {Q : Fl → Mem → Prop}
@[simp] theorem W_tryK {P : Str → Option Bool} {i j : Nat} {f : MS} : W (mTryK P i j f ρ m) Q E = W (f ρ m) (fun a m' => match a with
    | .ex x ρ' => (match P x.cls with
      | some true => Q (.nx (((ρ'.set i (some (.ref m'.length))).set j (some (.ref m'.length))).set i none)) (m' ++ [.exn x])
      | some false => Q (.ex x ρ') m'
      | none => False)
    | a => Q a m') E := by
  unfold mTryK
  cases f ρ m with
  | stuck => rfl
  | ex x m => rfl
  | ok a m =>
    cases a with
    | ex x ρ' =>
      dsimp only [W_ok]
      cases P x.cls with
      | none => rfl
      | some b => cases b <;> rfl
    | _ => rfl
@[simp] theorem W_tryF {P : Str → Option Bool} {y : Str} {f : MS} : W (mTryF P y f ρ m) Q E = W (f ρ m) (fun a m' => match a with
    | .ex x ρ' => (match P x.cls with
      | some true => Q (.ex ⟨y⟩ ρ') m'
      | some false => Q (.ex x ρ') m'
      | none => False)
    | a => Q a m') E := by
  unfold mTryF
  cases f ρ m with
  | stuck => rfl
  | ex x m => rfl
  | ok a m =>
    cases a with
    | ex x ρ' =>
      dsimp only [W_ok]
      cases P x.cls with
      | none => rfl
      | some b => cases b <;> rfl
    | _ => rfl
end
/-- a comprehension that changes nothing, at any memory, with what its function and test are said of each -/
theorem W_pureN {chk : Mem → Prop} {i : Nat} {t : MT} {e : ME} {Q : List MV → Mem → Prop} (φ : MV → MV) (ψ : MV → Bool) {l : List MV} (hc : chk m) (h : ∀ d ∈ l, t (ρ.set i (some d)) m = .ok (ψ d) m ∧ (ψ d = true → e (ρ.set i (some d)) m = .ok (φ d) m)) (hl : l.length ≤ 1000) (q : ∀ k, k = (l.filter ψ).map φ → Q k m) :
    W (lcM chk (ngName i) t e ρ l [] m) Q E := W_pure φ ψ hc h hl (q _ rfl)
end
theorem gItem_t {m : Mem} {l : List MV} {i : Int} : gItem (.tup l) (.int i) m = match atM l i with | some e => .ok e m | none => .stuck := rfl
theorem gEqA_s {m : Mem} {a b : Str} {neg : Bool} : gEqA neg (.str a) (.str b) m = .ok (.bl (if neg = true then !decide (a = b) else decide (a = b))) m := by
  unfold gEqA gEqS
  simp [eqS]
theorem gItem_l {m : Mem} {n : Nat} {l : List MV} {i : Int} (h : m[n]? = some (.lst l)) : gItem (.ref n) (.int i) m = match atM l i with | some e => .ok e m | none => .stuck := by
  unfold gItem gDGet gIx
  simp only [dctOf_ref, seqOf_ref, h]
  all_goals (cases h2 : atM l i <;> simp [h2])
theorem gAdd_i {m : Mem} {i j : Int} : gAdd (.int i) (.int j) m = .ok (.int (i + j)) m := rfl
end MI
namespace MI
open PySem L2
section
variable {X : Cx} {W : WX} {pos : Pos} {K : PySem.W.Frag} {β : List Addr} {H : Hp} {m : Mem}
/-! ### what no run comes to -/
def mStuck : MS := fun _ _ => .stuck
theorem jb_stuck {st : List Stmt} : JB X W st mStuck := ⟨⟨fun pins s σ H D I h => by obtain ⟨_, _, _, _, _, p⟩ := h; exact p.elim⟩⟩
/-! ### a display of written keys and values -/
structure JPs (X : Cx) (pos : Pos) (keys : List (Option Expr)) (vals : List Expr) (tbl : List (Key × MV)) : Prop where
  ex : ∃ trs, PPs X pos keys vals trs ∧ ∀ σ H (Q : List (V × V) → Hp → Prop), Q (tbl.map fun p => (kV p.1, toV p.2)) H → tPairs trs σ H Q
  fl : tbl.all (fun p => MI.flat p.2) = true
  l1 : keys.length = tbl.length
  l2 : vals.length = tbl.length
  so : keys.all (·.isSome) = true
theorem jps_nil : JPs X pos [] [] [] := ⟨⟨[], pps_nil, fun _ _ _ h => h⟩, rfl, rfl, rfl, rfl⟩
theorem jps_cons {k v : Expr} {q : Key} {d : MV} {ks : List (Option Expr)} {vs : List Expr} {tbl : List (Key × MV)} (hk : PE X k (tC (kV q))) (hv : PE X v (tC (toV d))) (hf : MI.flat d = true) (h : JPs X pos ks vs tbl) : JPs X pos (some k :: ks) (v :: vs) ((q, d) :: tbl) := by
  obtain ⟨⟨trs, a, b⟩, f, l1, l2, so⟩ := h
  exact ⟨⟨_, pps_cons hk hv a, fun σ H Q z => b σ H _ z⟩, by simp [hf, f], by simp [l1], by simp [l2], by simpa using so⟩
theorem flat_RV {d : MV} (h : MI.flat d = true) : RV K β H d (toV d) := by
  cases d with
  | non => exact .non
  | bl b => exact .bl b
  | int i => exact .int i
  | str s => exact .str s
  | tup _ => cases h
  | ref _ => cases h
  | kl _ => cases h
def foldM (tbl acc : List (Key × MV)) : List (Key × MV) := tbl.foldl (fun acc kv => putM acc kv.1 kv.2) acc
theorem RKs.merge : ∀ {tbl acc : List (Key × MV)} {vs : List (Key × V)}, tbl.all (fun p => MI.flat p.2) = true → RKs K β H acc vs → RKs K β H (foldM tbl acc) (mergeK vs (tbl.map fun p => (p.1, toV p.2)))
  | [], _, _, _, h => h
  | p :: r, acc, vs, f, h => by
    simp only [List.all_cons, Bool.and_eq_true] at f
    exact RKs.merge (tbl := r) f.2 (h.put (flat_RV f.1))
def mDisp (tbl : List (Key × MV)) : ME := fun _ m => alloc (.dct (foldM tbl [])) m
theorem je_disp {keys : List (Option Expr)} {vals : List Expr} {tbl : List (Key × MV)} (h : JPs X pos keys vals tbl) (h0 : keys ≠ []) (h15 : keys.length ≤ 15) : JE X W (.Dict keys vals pos) (mDisp tbl) := by
  obtain ⟨⟨trs, a, b⟩, f, l1, l2, so⟩ := h
  refine ⟨pe_imp (pe_disp a so (l1.trans l2.symm) h0 h15) fun σ H Q ⟨ρ, m, β, hE, hM, p⟩ => fun q hq => b σ _ _ ⟨upd_same, tbl.map fun p => (p.1, toV p.2), by rw [List.map_map]; rfl, by rw [List.length_map, ← l1]; exact h15, ?_⟩⟩
  have e : upd (upd H q (.dK [])) q (.dK (mergeK [] (tbl.map fun p => (p.1, toV p.2)))) = upd H q (.dK (mergeK [] (tbl.map fun p => (p.1, toV p.2)))) := by
    funext z
    by_cases hz : z = q
    · subst hz; rw [upd_same, upd_same]
    · rw [upd_ne hz, upd_ne hz, upd_ne hz]
  rw [e]
  exact p.alloc hM hq ⟨_, upd_same, RKs.merge f .nil⟩
/-! ### d.get(k, x), d.get(k) -/
def gGet (d k x : MV) (m : Mem) : Re MV := match dctOf m d, keyOf k with
  | some (_, l), some q => .ok ((valM l q).getD x) m
  | _, _ => .stuck
def mGet2 (fd fy fx : ME) : ME := fun ρ m => (fd ρ m).bind fun d m1 => if (dctOf m1 d).isSome = true then (fy ρ m1).bind fun y m2 => (fx ρ m2).bind fun x m3 => gGet d y x m3 else .stuck
def mGet1 (fd fy : ME) : ME := fun ρ m => (fd ρ m).bind fun d m1 => if (dctOf m1 d).isSome = true then (fy ρ m1).bind fun y m2 => gGet d y .non m2 else .stuck
theorem je_get2 {o e f : Expr} {apos : Pos} {fd fy fx : ME} (hu : X.A.units + 1 < cLine) (ho : JE X W o fd) (he : JE X W e fy) (hf : JE X W f fx) (h1 : attributeBase o "get" X.env (eval o X.env) = eval o X.env := by rfl)
    (h2 : ((backTo pos (starEach [e, f] X.env)).all (fun x => !x.1) && (backToKw pos (keywordEach [] X.env)).all (fun x => x.1.isSome)
    && decide (([e, f] : List Expr).length + ([] : List Keyword).length + (if ([] : List Keyword).isEmpty then 0 else 1) < 30)) = true := by rfl) (h3 : (apos.endLine == pos.line) = true := by rfl) (h4 : backTo pos (starEach [e, f] X.env) = [(false, eval e X.env), (false, eval f X.env)] := by rfl) :
    JE X W (.Call (.Attribute o "get" apos) [e, f] [] pos) (mGet2 fd fy fx) :=
  ⟨pe_imp (pe_dget2 hu ho.run he.run hf.run ⟨h1, h2, h3, h4⟩) fun σ H Q ⟨ρ, m, β, hE, hM, p⟩ => ⟨ρ, m, β, hE, hM, p.bind fun d m1 x H1 β1 _ e1 M1 V1 p1 => by
    split at p1
    · rename_i q
      obtain ⟨⟨n, l⟩, hl⟩ := Option.isSome_iff_exists.mp q
      obtain ⟨a, vs, rfl, hb, hH, hr⟩ := M1.dct V1 hl
      refine ⟨a, rfl, .inl ⟨vs, .inl hH⟩, ⟨ρ, m1, β1, hE.ext hM e1, M1, p1.bind fun d2 m2 y H2 β2 _ e2 M2 V2 p2 => ⟨ρ, m2, β2, (hE.ext hM e1).ext M1 e2, M2, p2.bind fun d3 m3 z H3 β3 _ e3 M3 V3 p3 => ?_⟩⟩⟩
      unfold gGet at p3
      split at p3
      · rename_i n' l' q' z1 z2
        obtain ⟨a', vs', ea, hb', hH', hr'⟩ := M3.dct ((V1.ext M1 e2).ext M2 e3) z1
        cases ea
        have hy := keyOf_some (V2.ext M2 e3) z2
        subst hy
        refine ⟨valV vs' q', .inl ⟨vs', q', .inl hH', rfl, rfl⟩, ?_⟩
        obtain ⟨w1, w2⟩ := hr'.val (k := q')
        cases hv : valM l' q' with
        | none => rw [hv] at p3; rw [w2 hv]; exact p3.ok M3 V3
        | some d4 =>
          rw [hv] at p3
          obtain ⟨v4, u1, u2⟩ := w1 d4 hv
          rw [u1]
          exact p3.ok M3 u2
      · exact p3.not_stuck
    · exact p1.not_stuck⟩⟩
theorem je_get1 {o e : Expr} {apos : Pos} {fd fy : ME} (hu : X.A.units + 1 < cLine) (ho : JE X W o fd) (he : JE X W e fy) (h1 : attributeBase o "get" X.env (eval o X.env) = eval o X.env := by rfl)
    (h2 : ((backTo pos (starEach [e] X.env)).all (fun x => !x.1) && (backToKw pos (keywordEach [] X.env)).all (fun x => x.1.isSome)
    && decide (([e] : List Expr).length + ([] : List Keyword).length + (if ([] : List Keyword).isEmpty then 0 else 1) < 30)) = true := by rfl) (h3 : (apos.endLine == pos.line) = true := by rfl) (h4 : backTo pos (starEach [e] X.env) = [(false, eval e X.env)] := by rfl) :
    JE X W (.Call (.Attribute o "get" apos) [e] [] pos) (mGet1 fd fy) :=
  ⟨pe_imp (pe_dget1 hu ho.run he.run ⟨h1, h2, h3, h4⟩) fun σ H Q ⟨ρ, m, β, hE, hM, p⟩ => ⟨ρ, m, β, hE, hM, p.bind fun d m1 x H1 β1 _ e1 M1 V1 p1 => by
    split at p1
    · rename_i q
      obtain ⟨⟨n, l⟩, hl⟩ := Option.isSome_iff_exists.mp q
      obtain ⟨a, vs, rfl, hb, hH, hr⟩ := M1.dct V1 hl
      refine ⟨a, rfl, .inl ⟨vs, .inl hH⟩, ⟨ρ, m1, β1, hE.ext hM e1, M1, p1.bind fun d2 m2 y H2 β2 _ e2 M2 V2 p3 => ?_⟩⟩
      unfold gGet at p3
      split at p3
      · rename_i n' l' q' z1 z2
        obtain ⟨a', vs', ea, hb', hH', hr'⟩ := M2.dct (V1.ext M1 e2) z1
        cases ea
        have hy := keyOf_some V2 z2
        subst hy
        refine ⟨valV vs' q', .inl ⟨vs', q', .inl hH', rfl, rfl⟩, ?_⟩
        obtain ⟨w1, w2⟩ := hr'.val (k := q')
        cases hv : valM l' q' with
        | none => rw [hv] at p3; rw [w2 hv]; exact p3.ok M2 .non
        | some d4 =>
          rw [hv] at p3
          obtain ⟨v4, u1, u2⟩ := w1 d4 hv
          rw [u1]
          exact p3.ok M2 u2
      · exact p3.not_stuck
    · exact p1.not_stuck⟩⟩
end
section
variable {m : Mem} {ρ : Env} {E : Exn → Mem → Prop} {Q : MV → Mem → Prop}
@[simp] theorem W_disp {tbl : List (Key × MV)} : MI.W (mDisp tbl ρ m) Q E = Q (.ref m.length) (m ++ [.dct (foldM tbl [])]) := rfl
@[simp] theorem W_gGet {d k x : MV} : MI.W (gGet d k x m) Q E = match dctOf m d, keyOf k with | some (_, l), some q => Q ((valM l q).getD x) m | _, _ => False := by
  unfold gGet
  cases dctOf m d with
  | none => rfl
  | some p => cases keyOf k <;> rfl
@[simp] theorem W_get2 {fd fy fx : ME} : MI.W (mGet2 fd fy fx ρ m) Q E = MI.W (fd ρ m) (fun d m => if (dctOf m d).isSome = true then MI.W (fy ρ m) (fun y m => MI.W (fx ρ m) (fun x m => MI.W (gGet d y x m) Q E) E) E else False) E := by
  unfold mGet2
  rw [W_bind]
  congr 1
  funext d m
  rw [W_ite]
  simp only [W_bind, W_stuck]
@[simp] theorem W_get1 {fd fy : ME} : MI.W (mGet1 fd fy ρ m) Q E = MI.W (fd ρ m) (fun d m => if (dctOf m d).isSome = true then MI.W (fy ρ m) (fun y m => MI.W (gGet d y .non m) Q E) E else False) E := by
  unfold mGet1
  rw [W_bind]
  congr 1
  funext d m
  rw [W_ite]
  simp only [W_bind, W_stuck]
@[simp] theorem W_mStuck {Q : Fl → Mem → Prop} : MI.W (mStuck ρ m) Q E = False := rfl
end
end MI
namespace MI
open PySem L2
section
variable {X : Cx} {W : WX} {pos : Pos} {K : PySem.W.Frag} {β : List Addr} {H : Hp} {m : Mem}
/-! ### data in a tuple -/
def rInT (K : PySem.W.Frag) (neg : Bool) : R2 := fun x y H Q => ∃ d ds, Dp K H x d ∧ Dp K H y (.tuple ds) ∧ SeqAt.shaped d = true ∧ SeqAt.shaped (.tuple ds) = true ∧ Q (.bl (if neg = true then !ds.any fun z => PyData.eqv z d else ds.any fun z => PyData.eqv z d)) H
theorem roomT {d : PyData} {ds : List PyData} {A : Around} (sd : SeqAt.shaped d = true) (hu : A.units + 65 < cLine) : A.units + 1 + min (PyData.depthAll ds) d.depth < cLine := by
  have h1 := SeqAt.depth_of_shaped sd
  have h2 : min (PyData.depthAll ds) d.depth ≤ d.depth := Nat.min_le_right _ _
  omega
theorem op_inT (hu : X.A.units + 65 < cLine) : OpR X (compareOp .In) (rInT X.K false) := by
  intro pins s σ H x y v u Q I rx ry h
  obtain ⟨d, ds, hd, he, sd, se, q⟩ := h
  obtain ⟨as, r1⟩ := Dp.reads I d x v hd rx
  obtain ⟨bs, r2⟩ := Dp.reads I (.tuple ds) y u he ry
  exact SeqAt.in_tuple_reads r2 r1 (by simpa [PyData.canLay0] using SeqAt.canLay_of_shaped se) (SeqAt.canLay_of_shaped sd) (roomT sd hu) ⟨.bl _, H, I, rfl, q⟩
theorem op_ninT (hu : X.A.units + 65 < cLine) : OpR X (compareOp .NotIn) (rInT X.K true) := by
  intro pins s σ H x y v u Q I rx ry h
  obtain ⟨d, ds, hd, he, sd, se, q⟩ := h
  obtain ⟨as, r1⟩ := Dp.reads I d x v hd rx
  obtain ⟨bs, r2⟩ := Dp.reads I (.tuple ds) y u he ry
  exact SeqAt.notIn_tuple_reads r2 r1 (by simpa [PyData.canLay0] using SeqAt.canLay_of_shaped se) (SeqAt.canLay_of_shaped sd) (roomT sd hu) ⟨.bl _, H, I, rfl, q⟩
def gInT (neg : Bool) (a b : MV) (m : Mem) : Re MV := match dat m fuel a, dat m fuel b with
  | some d, some (.tuple ds) => if SeqAt.shaped d = true ∧ SeqAt.shaped (.tuple ds) = true then .ok (.bl (if neg = true then !ds.any fun z => PyData.eqv z d else ds.any fun z => PyData.eqv z d)) m else .stuck
  | _, _ => .stuck
theorem om_inT {neg : Bool} : OpM X (rInT X.K neg) (gInT neg) := by
  intro W σ d e m β H x y Q M rx ry p
  unfold gInT at p
  split at p
  · rename_i a b e1 e2
    split at p
    · rename_i h
      exact ⟨a, b, M.dat1 rx e1, M.dat1 ry e2, h.1, h.2, p.ok M (.bl _)⟩
    · exact p.not_stuck
  · exact p.not_stuck
open Classical in
/-- x in a list, a dict, a text, a tuple -/
noncomputable def gInB (neg : Bool) (a b : MV) (m : Mem) : Re MV := if (∃ l, b = .tup l) ∧ flat a = false then gInT neg a b m else gInA neg a b m
theorem je_inB {a b : Expr} {fa fb : ME} (hu : X.A.units + 1 < cLine) (hu2 : X.A.units + 65 < cLine) (ha : JE X W a fa) (hb : JE X W b fb) (hk : behindInMarks .In b = false := by rfl) : JE X W (.Compare a [.In] [b] pos) (mBin (gInB false) fa fb) :=
  JE.or (j_cmp (op_inT hu2) om_inT ha hb hk) (je_in hu hu2 ha hb hk) (mBin_or fun a b m => by
    unfold gInB
    by_cases q : (∃ l, b = .tup l) ∧ flat a = false
    · exact .inl (if_pos q)
    · exact .inr (if_neg q))
theorem je_ninB {a b : Expr} {fa fb : ME} (hu : X.A.units + 1 < cLine) (hu2 : X.A.units + 65 < cLine) (ha : JE X W a fa) (hb : JE X W b fb) (hk : behindInMarks .NotIn b = false := by rfl) : JE X W (.Compare a [.NotIn] [b] pos) (mBin (gInB true) fa fb) :=
  JE.or (j_cmp (op_ninT hu2) om_inT ha hb hk) (je_nin hu hu2 ha hb hk) (mBin_or fun a b m => by
    unfold gInB
    by_cases q : (∃ l, b = .tup l) ∧ flat a = false
    · exact .inl (if_pos q)
    · exact .inr (if_neg q))
theorem jt_inB {a b : Expr} {fa fb : ME} (hu : X.A.units + 1 < cLine) (hu2 : X.A.units + 65 < cLine) (ha : JE X W a fa) (hb : JE X W b fb) (hk : behindInMarks .In b = false := by rfl) : JT X W (.Compare a [.In] [b] pos) (mB (mBin (gInB false) fa fb)) :=
  JT.or (jt_cmp (op_inT hu2) om_inT ha hb hk) (jt_in hu hu2 ha hb hk) (mB_or fun a b m => by
    unfold gInB
    by_cases q : (∃ l, b = .tup l) ∧ flat a = false
    · exact .inl (if_pos q)
    · exact .inr (if_neg q))
theorem jt_ninB {a b : Expr} {fa fb : ME} (hu : X.A.units + 1 < cLine) (hu2 : X.A.units + 65 < cLine) (ha : JE X W a fa) (hb : JE X W b fb) (hk : behindInMarks .NotIn b = false := by rfl) : JT X W (.Compare a [.NotIn] [b] pos) (mB (mBin (gInB true) fa fb)) :=
  JT.or (jt_cmp (op_ninT hu2) om_inT ha hb hk) (jt_nin hu hu2 ha hb hk) (mB_or fun a b m => by
    unfold gInB
    by_cases q : (∃ l, b = .tup l) ∧ flat a = false
    · exact .inl (if_pos q)
    · exact .inr (if_neg q))
end
section
variable {m : Mem} {E : Exn → Mem → Prop} {Q : MV → Mem → Prop}
@[simp] theorem gInB_ref {neg : Bool} {a : MV} {n : Nat} : gInB neg a (.ref n) m = gInA neg a (.ref n) m := by
  unfold gInB
  rw [if_neg (by rintro ⟨⟨l, h⟩, _⟩; cases h)]
@[simp] theorem gInB_str {neg : Bool} {a : MV} {z : Str} : gInB neg a (.str z) m = gInA neg a (.str z) m := by
  unfold gInB
  rw [if_neg (by rintro ⟨⟨l, h⟩, _⟩; cases h)]
@[simp] theorem gInB_s {neg : Bool} {s : Str} {b : MV} : gInB neg (.str s) b m = gInA neg (.str s) b m := by
  unfold gInB
  rw [if_neg (by rintro ⟨_, h⟩; cases h)]
end
end MI
namespace MI
open PySem L2
section
variable {X : Cx} {W : WX} {pos : Pos} {K : PySem.W.Frag} {β : List Addr} {H : Hp} {m : Mem}
/-! ### list of a dict: its keys -/
def keyM : Key → MV
  | .inl i => .int i
  | .inr s => .str s
theorem RKs.keys : ∀ {l : List (Key × MV)} {vs : List (Key × V)}, RKs K β H l vs → ∀ {β' : List Addr} {H' : Hp}, RVs K β' H' (l.map fun kv => keyM kv.1) (vs.map fun kv => kV kv.1)
  | _, _, .nil, _, _ => .nil
  | _, _, .cons (k := k) h r, _, _ => by
    refine .cons ?_ (RKs.keys r)
    cases k with
    | inl i => exact .int i
    | inr s => exact .str s
def gListA : List MV → Mem → Re MV
  | [d], m => match dctOf m d with
    | some (_, l) => alloc (.lst (l.map fun kv => keyM kv.1)) m
    | none => gList [d] m
  | _, _ => .stuck
abbrev rListA (K : PySem.W.Frag) : List V → Hp → VK → Prop := fun xs H Q => (∃ (a : Addr) (kvs : List (Key × V)), xs = [.ref a] ∧ Rd H a (.dK kvs) ∧ ∀ p, H p = none → Q (.ref p) (upd H p (.lst (kvs.map fun kv => kV kv.1)))) ∨ ∃ p ys, xs = [.ref p] ∧ (SqL K H p ys ∨ SqT K H p ys) ∧ ∀ l, H l = none → Q (.ref l) (upd H l (.lst ys))
theorem cr_listA (hc : X.calm = true) : CallR X (.type "list") (rListA X.K) := cr_or (call_listD hc) call_list_of
theorem cm_listA : CrM X (rListA X.K) gListA := by
  intro W σ ds m β H vs Q M V p
  unfold gListA at p
  split at p
  · rename_i d
    split at p
    · rename_i n l h
      cases V with
      | cons h1 r =>
        cases r
        obtain ⟨a, vs, rfl, hb, hH, hr⟩ := M.dct h1 h
        exact .inl ⟨a, vs, rfl, .inl hH, fun q hq => p.alloc M hq ⟨_, upd_same, hr.keys⟩⟩
    · exact .inr (cm_list W σ _ m β H vs Q M V p)
  · exact p.not_stuck
end
section
variable {m : Mem} {E : Exn → Mem → Prop} {Q : MV → Mem → Prop}
@[simp] theorem W_listA_t {l : List MV} : MI.W (gListA [.tup l] m) Q E = MI.W (gList [.tup l] m) Q E := rfl
@[simp] theorem W_listA_r {n : Nat} : MI.W (gListA [.ref n] m) Q E = match m[n]? with
    | some (.dct l) => Q (.ref m.length) (m ++ [.lst (l.map fun kv => keyM kv.1)])
    | _ => MI.W (gList [.ref n] m) Q E := by
  show MI.W (match dctOf m (.ref n) with
    | some (_, l) => alloc (.lst (l.map fun kv => keyM kv.1)) m
    | none => gList [.ref n] m) Q E = _
  simp only [dctOf_ref]
  cases m[n]? with
  | none => rfl
  | some o => cases o <;> rfl
end
end MI
namespace MI
open PySem L2
section
variable {X : Cx} {W : WX} {pos : Pos} {K : PySem.W.Frag} {β : List Addr} {H : Hp} {m : Mem}
/-! ### == with the empty tuple, whatever the other holds -/
def rEqT (K : PySem.W.Frag) : R2 := fun x y H Q => ∃ a b xs, x = .ref a ∧ y = .ref b ∧ SqT K H a xs ∧ SqT K H b [] ∧ Q (.bl xs.isEmpty) H
theorem op_eqT (hu : X.A.units < cLine) : OpR X (compareOp .Eq) (rEqT X.K) := by
  intro pins s σ H x y v u Q I rx ry h
  obtain ⟨a, b, xs, rfl, rfl, hx, hy, q⟩ := h
  cases rx
  cases ry
  obtain ⟨i1, r1, p1, _⟩ := I.tuple hx
  obtain ⟨i2, r2, p2, _⟩ := I.tuple hy
  have n1 := r1.length
  have n2 := r2.length
  have z2 : i2.toArray.size = 0 := by simp only [List.length_nil] at n2; rw [List.size_toArray]; exact n2.symm
  refine SeqAt.eq_tupleAt (e := fun _ => true) p1 p2 hu (fun j h1 h2 => by omega) ?_
  have e : ((List.range (min i1.toArray.size i2.toArray.size)).all (fun _ => true) && i1.toArray.size == i2.toArray.size) = xs.isEmpty := by
    rw [z2]
    rw [List.size_toArray, ← n1]
    cases xs <;> simp
  rw [e]
  exact ⟨.bl _, H, I, rfl, q⟩
def gEqT (a b : MV) (m : Mem) : Re MV := match a, b with
  | .tup l, .tup [] => .ok (.bl l.isEmpty) m
  | _, _ => .stuck
theorem om_eqT : OpM X (rEqT X.K) gEqT := by
  intro W σ d e m β H x y Q M rx ry p
  unfold gEqT at p
  split at p
  · rename_i l
    cases rx with
    | tup h1 h2 =>
      cases ry with
      | tup h3 h4 =>
        cases h4
        refine ⟨_, _, _, rfl, rfl, h1, h3, ?_⟩
        have : ∀ {l : List MV} {vs : List V}, RVs X.K β H l vs → vs.isEmpty = l.isEmpty := fun h => by cases h <;> rfl
        rw [this h2]
        exact p.ok M (.bl _)
  · exact p.not_stuck
end
section
variable {m : Mem} {E : Exn → Mem → Prop} {Q : MV → Mem → Prop}
@[simp] theorem W_eqT {l : List MV} : MI.W (gEqT (.tup l) (.tup []) m) Q E = Q (.bl l.isEmpty) m := rfl
end
end MI
namespace K01
open PySem L2 MI
abbrev row := PySem.Challenge.pw_keptops_k01_expressions
def topS (i : Nat) : Stmt := row.main.body.getD i (.Pass ⟨0, 0, 0, 0⟩)
inductive Fnm where
  | is_name | check_expression | u_has_form | u_is_tuple | u_are_links | operands | with_operands | all_parts | variables_of | places_of | u_own_places | variables | size | event_places | held_object | held_constant | holds_of | follow | u_follow_call | u_follow_link | u_behind_first | u_operand_behind | settled | u_is_leaf | check_answers | check_kinds | run_once | evaluate | tree_of | call_tree | all_kinds | check_surveyable | parting | u_least_parting | parting_answers | u_differ | u_is_true | form | u_form | expression_text | u_text | u_plain_text | l_source | l_draw | l_pick | l_leaf | l_seen_part | l_expr | l_any_expr | l_operands | l_parts | l_names | l_is_name | l_is_link | l_has_form | l_is_expr | l_odd | l_bent | l_asked | l_refused | l_fits | l_bounds | law
  deriving DecidableEq
abbrev c_SIGNS : MV := .tup [.str "<", .str "<=", .str ">", .str ">=", .str "==", .str "!="]
abbrev c_CONSTANTS : MV := .tup [.str "none", .str "true", .str "false"]
abbrev c_BARRED : MV := .tup [.str "and", .str "or", .str "not", .str "if", .str "else", .str "is", .str "none", .str "true", .str "false", .str "set", .str "give", .str "try", .str "except", .str "end", .str "then", .str "program", .str "keep", .str "self"]
abbrev k_LENGTHS : List (Str × MV) := [("none", .int 1), ("true", .int 1), ("false", .int 1), ("not", .int 2), ("isnone", .int 2), ("and", .int 3), ("or", .int 3), ("default", .int 3), ("if", .int 4)]
abbrev c_MOST_LETTERS : MV := .int 8
abbrev c_MOST_OPERANDS : MV := .int 3
abbrev c_MOST_LINKS : MV := .int 4
abbrev c_MOST_PARTS : MV := .int 40
abbrev c_MOST_LEVELS : MV := .int 12
abbrev c_MOST_VARIABLES : MV := .int 4
abbrev c_MOST_PLACES : MV := .int 6
abbrev c_KINDS : MV := .tup [.str "t", .str "f", .str "n"]
abbrev c_ANSWERS : MV := .tup [.str "t", .str "f", .str "n", .str "x"]
abbrev c_MOST_SURVEYED_VARIABLES : MV := .int 3
abbrev c_MOST_SURVEYED_PLACES : MV := .int 4
abbrev k_TIGHTNESS : List (Str × MV) := [("if", .int 0), ("or", .int 1), ("and", .int 2), ("not", .int 3), ("compare", .int 4), ("isnone", .int 4), ("default", .int 5)]
abbrev c_LOOSEST : MV := .int 0
abbrev c_TIGHTEST : MV := .int 6
def p_InvalidExpression (y : Str) : Option Bool := ([("OperandError", false), ("InvalidExpression", true), ("InvalidWorld", false), ("TooMany", false)] : List (Str × Bool)).lookup y
def p_InvalidWorld (y : Str) : Option Bool := ([("OperandError", false), ("InvalidExpression", false), ("InvalidWorld", true), ("TooMany", false)] : List (Str × Bool)).lookup y
def p_OperandError (y : Str) : Option Bool := ([("OperandError", true), ("InvalidExpression", true), ("InvalidWorld", true), ("TooMany", true)] : List (Str × Bool)).lookup y
def p_ValueError (y : Str) : Option Bool := ([("OperandError", true), ("InvalidExpression", true), ("InvalidWorld", true), ("TooMany", true)] : List (Str × Bool)).lookup y
structure Txt (K : PySem.W.Frag) (w : World) (mg : Str → Option Value) : Prop where
  b_abs : mg "abs" = none
  b_all : mg "all" = none
  b_any : mg "any" = none
  b_bool : mg "bool" = none
  b_dict : mg "dict" = none
  b_int : mg "int" = none
  b_isinstance : mg "isinstance" = none
  b_len : mg "len" = none
  b_list : mg "list" = none
  b_min : mg "min" = none
  b_range : mg "range" = none
  b_sorted : mg "sorted" = none
  b_str : mg "str" = none
  b_sum : mg "sum" = none
  b_tuple : mg "tuple" = none
  b_zip : mg "zip" = none
  c_BARRED : Con K mg "BARRED" c_BARRED
  c_KINDS : Con K mg "KINDS" c_KINDS
  c_MOST_LETTERS : Con K mg "MOST_LETTERS" c_MOST_LETTERS
  c_MOST_LEVELS : Con K mg "MOST_LEVELS" c_MOST_LEVELS
  c_MOST_LINKS : Con K mg "MOST_LINKS" c_MOST_LINKS
  c_MOST_OPERANDS : Con K mg "MOST_OPERANDS" c_MOST_OPERANDS
  c_MOST_PARTS : Con K mg "MOST_PARTS" c_MOST_PARTS
  c_MOST_PLACES : Con K mg "MOST_PLACES" c_MOST_PLACES
  c_MOST_SURVEYED_PLACES : Con K mg "MOST_SURVEYED_PLACES" c_MOST_SURVEYED_PLACES
  c_MOST_SURVEYED_VARIABLES : Con K mg "MOST_SURVEYED_VARIABLES" c_MOST_SURVEYED_VARIABLES
  c_MOST_VARIABLES : Con K mg "MOST_VARIABLES" c_MOST_VARIABLES
  c_SIGNS : Con K mg "SIGNS" c_SIGNS
  k_LENGTHS : KTab K w mg "LENGTHS" k_LENGTHS
  x_InvalidExpression : ExF K mg "InvalidExpression"
  x_InvalidWorld : ExF K mg "InvalidWorld"
  x_TooMany : ExF K mg "TooMany"
  h_InvalidWorld : HndN K mg "InvalidWorld" p_InvalidWorld
  h_OperandError : HndN K mg "OperandError" p_OperandError
  i_InvalidExpression : IsxN K mg "InvalidExpression" p_InvalidExpression
  i_ValueError : IsxN K mg "ValueError" p_ValueError
abbrev s_is_name : Stmt := topS 17
theorem sc_is_name : FnScope ["value", "letter"] ["value"] (defScope s_is_name) := ⟨rfl, rfl, rfl, by decide +kernel, rfl, by decide +kernel, by decide +kernel⟩
noncomputable def b_is_name (ck : Fnm → MF) : MS := (mSeq (mIfS (mOrT (mNotT (mTru (mIsi "str" (mVar 0)))) (mNotT (mB (mChain gLeS gLeS (mC (.int 1)) (mCall gLen (mCons (mVar 0) mNil)) (mC c_MOST_LETTERS)))))
    (mRet (mC (.bl false)))
    mSkip)
    (mRet (mAnd (mBin (gInB true) (mVar 0) (mC c_BARRED)) (mCall gAll (mCons (mLc (mAnyI (mVar 0)) (ngName 1) mYes (mChain gLeS gLeS (mC (.str "a")) (mVar 1) (mC (.str "z"))) [1]) mNil)))))
noncomputable def f_is_name (ck : Fnm → MF) : MF := fun ds m => endOf (b_is_name ck (startM 2 ds) m)
theorem ok_is_name {M : Mode} {P : Program} {w : World} {K : PySem.W.Frag} {mg : Str → Option Value} {base : Heap} {k : Nat} {f : Addr} {fd : FuncData} {ck : Fnm → MF} (Fu : Fun K "is_name" "is_name" s_is_name f fd) (T : Txt K w mg) :
    FnOk P w K mg base (M.CX P w) (k + 1) f fd ["value"] (spM K 1 (f_is_name ck)) :=
  have nd := sc_is_name.nd
  fnx_ok (M := M) (g := b_is_name ck) Fu sc_is_name rfl (fun _ _ _ => rfl) fun cdv A outer s H E hr W tk hp =>
    (jb_cons (js_if (jw_or (jt_not (jt_tru (je_isi "str" (j_var 0) T.b_isinstance T.b_str (by decide +kernel)))) (jw_or1 (jt_not (jt_chain op_leA op_leA om_leA om_leA j_int (je_callB cr_len cm_len T.b_len PySem.boot_len (ja_cons (j_var 0) ja_nil)) (j_con T.c_MOST_LETTERS))))).jt
    (jb_one (js_ret j_bl))
    jb_nil)
    (jb_one (js_ret (je_and (je_ninB (hu1 hr) (hu65 hr) (j_var 0) (j_con T.c_BARRED)) (je_one (je_callB (cr_all rfl) cm_all T.b_all (by decide +kernel) (ja_cons (je_lc [("letter", 1)] rfl rfl nd (ji_any (j_var 0)) (blkOk_by (N := ["value", "letter"]) (sc := defScope s_is_name) (by decide +kernel)) (fun _ _ _ _ _ => (jn_name 1 nd)) (fun _ _ _ _ _ => jts_nil) (fun _ _ _ _ _ => (je_chain op_leA op_leA om_leA om_leA j_str (j_var 1) j_str)) (hgs_name)) ja_nil)))))))
abbrev s_check_expression : Stmt := topS 18
theorem sc_check_expression : FnScope ["expr", "waiting", "names", "many", "places", "part", "level", "operand"] ["expr"] (defScope s_check_expression) := ⟨rfl, rfl, rfl, by decide +kernel, rfl, by decide +kernel, by decide +kernel⟩
noncomputable def b_check_expression (ck : Fnm → MF) : MS := (mSeq (mAsg (mLst (mCons (mTup (mCons (mVar 0) (mCons (mC (.int 1)) mNil))) mNil)) (nName 1))
    (mSeq (mAsg mDNew (nName 2))
    (mSeq (mAsg (mC (.int 0)) (nName 3))
    (mSeq (mAsg (mC (.int 0)) (nName 4))
    (whileM (mTru (mVar 1))
    (mSeq (mAsg (mBM gPop (mVar 1) mNil) (nTup 2 (nCons (nName 5) (nCons (nName 6) nNil))))
    (mSeq (mAug 3 gAddI (mC (.int 1)))
    (mSeq (mIfS (mOrT (mB (mBin gGt (mVar 3) (mC c_MOST_PARTS))) (mOrT (mB (mBin gGt (mVar 6) (mC c_MOST_LEVELS))) (mNotT (mTru (mCall (ck .u_has_form) (mCons (mVar 5) mNil))))))
    (mRaise "InvalidExpression")
    mSkip)
    (mSeq (mIfS (mB (mBin (gEqA false) (mBin gItem (mVar 5) (mC (.int 0))) (mC (.str "name"))))
    (mStore (mVar 2) (mBin gItem (mVar 5) (mC (.int 1))) (mC (.bl true)))
    mSkip)
    (mSeq (mAsg (mBin gAdd (mVar 4) (mCall (ck .u_own_places) (mCons (mVar 5) mNil))) (nName 4))
    (mSeq (mIfS (mOrT (mB (mBin gGt (mCall gLen (mCons (mVar 2) mNil)) (mC c_MOST_VARIABLES))) (mB (mBin gGt (mVar 4) (mC c_MOST_PLACES))))
    (mRaise "InvalidExpression")
    mSkip)
    (mDrop (mBM gExtend (mVar 1) (mCons (mLc (mAnyI (mCall (ck .operands) (mCons (mVar 5) mNil))) (ngName 7) mYes (mTup (mCons (mVar 7) (mCons (mBin gAdd (mVar 6) (mC (.int 1))) mNil))) [7]) mNil))))))))) turns)))))
noncomputable def f_check_expression (ck : Fnm → MF) : MF := fun ds m => endOf (b_check_expression ck (startM 8 ds) m)
theorem ok_check_expression {M : Mode} {P : Program} {w : World} {K : PySem.W.Frag} {mg : Str → Option Value} {base : Heap} {k : Nat} {f : Addr} {fd : FuncData} {ck : Fnm → MF} (Fu : Fun K "check_expression" "check_expression" s_check_expression f fd) (T : Txt K w mg) (I_u_has_form : FnX M P w K mg base k "_has_form" 1 (ck .u_has_form)) (I_u_own_places : FnX M P w K mg base k "_own_places" 1 (ck .u_own_places)) (I_operands : FnX M P w K mg base k "operands" 1 (ck .operands)) :
    FnOk P w K mg base (M.CX P w) (k + 1) f fd ["expr"] (spM K 1 (f_check_expression ck)) :=
  have nd := sc_check_expression.nd
  fnx_ok (M := M) (g := b_check_expression ck) Fu sc_check_expression rfl (fun _ _ _ => rfl) fun cdv A outer s H E hr W tk hp =>
    (jb_cons (js_set 1 nd (je_lst (ja_cons (je_tup (ja_cons (j_var 0) (ja_cons j_int ja_nil))) ja_nil)))
    (jb_cons (js_set 2 nd je_dnew)
    (jb_cons (js_set 3 nd j_int)
    (jb_cons (js_set 4 nd j_int)
    (jb_one (js_while turns hp (jt_tru (j_var 1))
    (jb_cons (js_asg (je_bmL0 PySem.F.slot_list_pop PySem.F.type_list_pop mt_pop mm_pop (j_var 1)) (jg_tup rfl (jgs_cons (jg_name 5 nd) (jgs_cons (jg_name 6 nd) jgs_nil))))
    (jb_cons (js_aug 3 nd j_int ip_addI om_addI)
    (jb_cons (js_if (jw_or (jt_cmp op_gt om_gt (j_var 3) (j_con T.c_MOST_PARTS)) (jw_or (jt_cmp op_gt om_gt (j_var 6) (j_con T.c_MOST_LEVELS)) (jw_or1 (jt_not (jt_tru (jx_call I_u_has_form hr (Nat.le_refl _) tk (ja_cons (j_var 5) ja_nil) (hlen := (mCons_len mNil_len)))))))).jt
    (jb_one (jx_raise (M := M) T.x_InvalidExpression rfl tk))
    jb_nil)
    (jb_cons (js_if (jt_cmp (op_eqA (hu64 hr)) om_eqA (je_item (hu1 hr) (j_var 5) j_int) j_str)
    (jb_one (js_store (hu1 hr) (j_var 2) (je_item (hu1 hr) (j_var 5) j_int) (j_var 2) (je_item (hu1 hr) (j_var 5) j_int) j_bl))
    jb_nil)
    (jb_cons (js_set 4 nd (j_op op_addA om_add (j_var 4) (jx_call I_u_own_places hr (Nat.le_refl _) tk (ja_cons (j_var 5) ja_nil) (hlen := (mCons_len mNil_len)))))
    (jb_cons (js_if (jw_or (jt_cmp op_gt om_gt (je_callB cr_len cm_len T.b_len PySem.boot_len (ja_cons (j_var 2) ja_nil)) (j_con T.c_MOST_VARIABLES)) (jw_or1 (jt_cmp op_gt om_gt (j_var 4) (j_con T.c_MOST_PLACES)))).jt
    (jb_one (jx_raise (M := M) T.x_InvalidExpression rfl tk))
    jb_nil)
    (jb_one (js_expr (je_bmL PySem.F.slot_list_extend PySem.F.type_list_extend mt_extend mm_extend (j_var 1) (ja_cons (je_lc [("operand", 7)] rfl rfl nd (ji_any (jx_call I_operands hr (Nat.le_refl _) tk (ja_cons (j_var 5) ja_nil) (hlen := (mCons_len mNil_len)))) (blkOk_by (N := ["expr", "waiting", "names", "many", "places", "part", "level", "operand"]) (sc := defScope s_check_expression) (by decide +kernel)) (fun _ _ _ _ _ => (jn_name 7 nd)) (fun _ _ _ _ _ => jts_nil) (fun _ _ _ _ _ => (je_tup (ja_cons (j_var 7) (ja_cons (j_op op_addA om_add (j_var 6) j_int) ja_nil)))) (hgs_name)) ja_nil))))))))))))))))
abbrev s_u_has_form : Stmt := topS 19
theorem sc_u_has_form : FnScope ["value", "word"] ["value"] (defScope s_u_has_form) := ⟨rfl, rfl, rfl, by decide +kernel, rfl, by decide +kernel, by decide +kernel⟩
noncomputable def b_u_has_form (ck : Fnm → MF) : MS := (mSeq (mIfS (mOrT (mNotT (mTru (mIsi "tuple" (mVar 0)))) (mOrT (mB (mBin (gEqA false) (mCall gLen (mCons (mVar 0) mNil)) (mC (.int 0)))) (mNotT (mTru (mIsi "str" (mBin gItem (mVar 0) (mC (.int 0))))))))
    (mRet (mC (.bl false)))
    mSkip)
    (mSeq (mAsg (mBin gItem (mVar 0) (mC (.int 0))) (nName 1))
    (mSeq (mIfS (mB (mBin (gEqA false) (mVar 1) (mC (.str "name"))))
    (mRet (mAnd (mBin (gEqA false) (mCall gLen (mCons (mVar 0) mNil)) (mC (.int 2))) (mCall (ck .is_name) (mCons (mBin gItem (mVar 0) (mC (.int 1))) mNil))))
    mSkip)
    (mSeq (mIfS (mB (mBin (gEqA false) (mVar 1) (mC (.str "call"))))
    (mRet (mAnd (mBin (gEqA false) (mCall gLen (mCons (mVar 0) mNil)) (mC (.int 3))) (mAnd (mCall (ck .is_name) (mCons (mBin gItem (mVar 0) (mC (.int 1))) mNil)) (mCall (ck .u_is_tuple) (mCons (mBin gItem (mVar 0) (mC (.int 2))) (mCons (mC (.int 0)) (mCons (mC c_MOST_OPERANDS) mNil)))))))
    mSkip)
    (mSeq (mIfS (mB (mBin (gEqA false) (mVar 1) (mC (.str "compare"))))
    (mRet (mAnd (mBin (gEqA false) (mCall gLen (mCons (mVar 0) mNil)) (mC (.int 3))) (mAnd (mCall (ck .u_is_tuple) (mCons (mBin gItem (mVar 0) (mC (.int 2))) (mCons (mC (.int 1)) (mCons (mC c_MOST_LINKS) mNil)))) (mCall (ck .u_are_links) (mCons (mBin gItem (mVar 0) (mC (.int 2))) mNil)))))
    mSkip)
    (mRet (mAnd (mInK k_LENGTHS (mVar 1)) (mBin (gEqA false) (mCall gLen (mCons (mVar 0) mNil)) (mItemK k_LENGTHS (mVar 1))))))))))
noncomputable def f_u_has_form (ck : Fnm → MF) : MF := fun ds m => endOf (b_u_has_form ck (startM 2 ds) m)
theorem ok_u_has_form {M : Mode} {P : Program} {w : World} {K : PySem.W.Frag} {mg : Str → Option Value} {base : Heap} {k : Nat} {f : Addr} {fd : FuncData} {ck : Fnm → MF} (Fu : Fun K "_has_form" "_has_form" s_u_has_form f fd) (T : Txt K w mg) (I_u_are_links : FnX M P w K mg base k "_are_links" 1 (ck .u_are_links)) (I_u_is_tuple : FnX M P w K mg base k "_is_tuple" 3 (ck .u_is_tuple)) (I_is_name : FnX M P w K mg base k "is_name" 1 (ck .is_name)) :
    FnOk P w K mg base (M.CX P w) (k + 1) f fd ["value"] (spM K 1 (f_u_has_form ck)) :=
  have nd := sc_u_has_form.nd
  fnx_ok (M := M) (g := b_u_has_form ck) Fu sc_u_has_form rfl (fun _ _ _ => rfl) fun cdv A outer s H E hr W tk hp =>
    (jb_cons (js_if (jw_or (jt_not (jt_tru (je_isi "tuple" (j_var 0) T.b_isinstance T.b_tuple (by decide +kernel)))) (jw_or (jt_cmp (op_eqA (hu64 hr)) om_eqA (je_callB cr_len cm_len T.b_len PySem.boot_len (ja_cons (j_var 0) ja_nil)) j_int) (jw_or1 (jt_not (jt_tru (je_isi "str" (je_item (hu1 hr) (j_var 0) j_int) T.b_isinstance T.b_str (by decide +kernel))))))).jt
    (jb_one (js_ret j_bl))
    jb_nil)
    (jb_cons (js_set 1 nd (je_item (hu1 hr) (j_var 0) j_int))
    (jb_cons (js_if (jt_cmp (op_eqA (hu64 hr)) om_eqA (j_var 1) j_str)
    (jb_one (js_ret (je_and (j_cmp (op_eqA (hu64 hr)) om_eqA (je_callB cr_len cm_len T.b_len PySem.boot_len (ja_cons (j_var 0) ja_nil)) j_int) (je_one (jx_call I_is_name hr (Nat.le_refl _) tk (ja_cons (je_item (hu1 hr) (j_var 0) j_int) ja_nil) (hlen := (mCons_len mNil_len)))))))
    jb_nil)
    (jb_cons (js_if (jt_cmp (op_eqA (hu64 hr)) om_eqA (j_var 1) j_str)
    (jb_one (js_ret (je_and (j_cmp (op_eqA (hu64 hr)) om_eqA (je_callB cr_len cm_len T.b_len PySem.boot_len (ja_cons (j_var 0) ja_nil)) j_int) (je_and (jx_call I_is_name hr (Nat.le_refl _) tk (ja_cons (je_item (hu1 hr) (j_var 0) j_int) ja_nil) (hlen := (mCons_len mNil_len))) (je_one (jx_call I_u_is_tuple hr (Nat.le_refl _) tk (ja_cons (je_item (hu1 hr) (j_var 0) j_int) (ja_cons j_int (ja_cons (j_con T.c_MOST_OPERANDS) ja_nil))) (hlen := (mCons_len (mCons_len (mCons_len mNil_len))))))))))
    jb_nil)
    (jb_cons (js_if (jt_cmp (op_eqA (hu64 hr)) om_eqA (j_var 1) j_str)
    (jb_one (js_ret (je_and (j_cmp (op_eqA (hu64 hr)) om_eqA (je_callB cr_len cm_len T.b_len PySem.boot_len (ja_cons (j_var 0) ja_nil)) j_int) (je_and (jx_call I_u_is_tuple hr (Nat.le_refl _) tk (ja_cons (je_item (hu1 hr) (j_var 0) j_int) (ja_cons j_int (ja_cons (j_con T.c_MOST_LINKS) ja_nil))) (hlen := (mCons_len (mCons_len (mCons_len mNil_len))))) (je_one (jx_call I_u_are_links hr (Nat.le_refl _) tk (ja_cons (je_item (hu1 hr) (j_var 0) j_int) ja_nil) (hlen := (mCons_len mNil_len))))))))
    jb_nil)
    (jb_one (js_ret (je_and (je_inK (j_var 1) T.k_LENGTHS) (je_one (j_cmp (op_eqA (hu64 hr)) om_eqA (je_callB cr_len cm_len T.b_len PySem.boot_len (ja_cons (j_var 0) ja_nil)) (je_itemK (j_var 1) T.k_LENGTHS)))))))))))
abbrev s_u_is_tuple : Stmt := topS 20
theorem sc_u_is_tuple : FnScope ["value", "least", "most"] ["value", "least", "most"] (defScope s_u_is_tuple) := ⟨rfl, rfl, rfl, by decide +kernel, rfl, by decide +kernel, by decide +kernel⟩
noncomputable def b_u_is_tuple (ck : Fnm → MF) : MS := (mRet (mAnd (mIsi "tuple" (mVar 0)) (mChain gLeS gLeS (mVar 1) (mCall gLen (mCons (mVar 0) mNil)) (mVar 2))))
noncomputable def f_u_is_tuple (ck : Fnm → MF) : MF := fun ds m => endOf (b_u_is_tuple ck (startM 3 ds) m)
theorem ok_u_is_tuple {M : Mode} {P : Program} {w : World} {K : PySem.W.Frag} {mg : Str → Option Value} {base : Heap} {k : Nat} {f : Addr} {fd : FuncData} {ck : Fnm → MF} (Fu : Fun K "_is_tuple" "_is_tuple" s_u_is_tuple f fd) (T : Txt K w mg) :
    FnOk P w K mg base (M.CX P w) (k + 1) f fd ["value", "least", "most"] (spM K 3 (f_u_is_tuple ck)) :=
  have nd := sc_u_is_tuple.nd
  fnx_ok (M := M) (g := b_u_is_tuple ck) Fu sc_u_is_tuple rfl (fun _ _ _ => rfl) fun cdv A outer s H E hr W tk hp =>
    (jb_one (js_ret (je_and (je_isi "tuple" (j_var 0) T.b_isinstance T.b_tuple (by decide +kernel)) (je_one (je_chain op_leA op_leA om_leA om_leA (j_var 1) (je_callB cr_len cm_len T.b_len PySem.boot_len (ja_cons (j_var 0) ja_nil)) (j_var 2))))))
abbrev s_u_are_links : Stmt := topS 21
theorem sc_u_are_links : FnScope ["values", "value"] ["values"] (defScope s_u_are_links) := ⟨rfl, rfl, rfl, by decide +kernel, rfl, by decide +kernel, by decide +kernel⟩
noncomputable def b_u_are_links (ck : Fnm → MF) : MS := (mRet (mCall gAll (mCons (mLc (mAnyI (mVar 0)) (ngName 1) mYes (mAnd (mCall (ck .u_is_tuple) (mCons (mVar 1) (mCons (mC (.int 2)) (mCons (mC (.int 2)) mNil)))) (mBin (gInB false) (mBin gItem (mVar 1) (mC (.int 0))) (mC c_SIGNS))) [1]) mNil)))
noncomputable def f_u_are_links (ck : Fnm → MF) : MF := fun ds m => endOf (b_u_are_links ck (startM 2 ds) m)
theorem ok_u_are_links {M : Mode} {P : Program} {w : World} {K : PySem.W.Frag} {mg : Str → Option Value} {base : Heap} {k : Nat} {f : Addr} {fd : FuncData} {ck : Fnm → MF} (Fu : Fun K "_are_links" "_are_links" s_u_are_links f fd) (T : Txt K w mg) (I_u_is_tuple : FnX M P w K mg base k "_is_tuple" 3 (ck .u_is_tuple)) :
    FnOk P w K mg base (M.CX P w) (k + 1) f fd ["values"] (spM K 1 (f_u_are_links ck)) :=
  have nd := sc_u_are_links.nd
  fnx_ok (M := M) (g := b_u_are_links ck) Fu sc_u_are_links rfl (fun _ _ _ => rfl) fun cdv A outer s H E hr W tk hp =>
    (jb_one (js_ret (je_callB (cr_all rfl) cm_all T.b_all (by decide +kernel) (ja_cons (je_lc [("value", 1)] rfl rfl nd (ji_any (j_var 0)) (blkOk_by (N := ["values", "value"]) (sc := defScope s_u_are_links) (by decide +kernel)) (fun _ _ _ _ _ => (jn_name 1 nd)) (fun _ _ _ _ _ => jts_nil) (fun _ _ _ _ _ => (je_and (jx_call I_u_is_tuple hr (Nat.le_refl _) M.tk0 (ja_cons (j_var 1) (ja_cons j_int (ja_cons j_int ja_nil))) (hlen := (mCons_len (mCons_len (mCons_len mNil_len))))) (je_one (je_inB (hu1 hr) (hu65 hr) (je_item (hu1 hr) (j_var 1) j_int) (j_con T.c_SIGNS))))) (hgs_name)) ja_nil))))
abbrev s_operands : Stmt := topS 22
theorem sc_operands : FnScope ["expr", "word", "link"] ["expr"] (defScope s_operands) := ⟨rfl, rfl, rfl, by decide +kernel, rfl, by decide +kernel, by decide +kernel⟩
noncomputable def b_operands (ck : Fnm → MF) : MS := (mSeq (mAsg (mBin gItem (mVar 0) (mC (.int 0))) (nName 1))
    (mSeq (mIfS (mB (mBin (gEqA false) (mVar 1) (mC (.str "name"))))
    (mRet (mTup mNil))
    mSkip)
    (mSeq (mIfS (mB (mBin (gEqA false) (mVar 1) (mC (.str "call"))))
    (mRet (mBin gItem (mVar 0) (mC (.int 2))))
    mSkip)
    (mSeq (mIfS (mB (mBin (gEqA false) (mVar 1) (mC (.str "compare"))))
    (mRet (mTup (mCons (mBin gItem (mVar 0) (mC (.int 1))) (mStar (mLc (mAnyI (mBin gItem (mVar 0) (mC (.int 2)))) (ngName 2) mYes (mBin gItem (mVar 2) (mC (.int 1))) [2]) mNil))))
    mSkip)
    (mRet (mSl (mVar 0) (mEnd (mC (.int 1))) mNo))))))
noncomputable def f_operands (ck : Fnm → MF) : MF := fun ds m => endOf (b_operands ck (startM 3 ds) m)
theorem ok_operands {M : Mode} {P : Program} {w : World} {K : PySem.W.Frag} {mg : Str → Option Value} {base : Heap} {k : Nat} {f : Addr} {fd : FuncData} {ck : Fnm → MF} (Fu : Fun K "operands" "operands" s_operands f fd) (T : Txt K w mg) :
    FnOk P w K mg base (M.CX P w) (k + 1) f fd ["expr"] (spM K 1 (f_operands ck)) :=
  have nd := sc_operands.nd
  fnx_ok (M := M) (g := b_operands ck) Fu sc_operands rfl (fun _ _ _ => rfl) fun cdv A outer s H E hr W tk hp =>
    (jb_cons (js_set 1 nd (je_item (hu1 hr) (j_var 0) j_int))
    (jb_cons (js_if (jt_cmp (op_eqA (hu64 hr)) om_eqA (j_var 1) j_str)
    (jb_one (js_ret (je_tup ja_nil)))
    jb_nil)
    (jb_cons (js_if (jt_cmp (op_eqA (hu64 hr)) om_eqA (j_var 1) j_str)
    (jb_one (js_ret (je_item (hu1 hr) (j_var 0) j_int)))
    jb_nil)
    (jb_cons (js_if (jt_cmp (op_eqA (hu64 hr)) om_eqA (j_var 1) j_str)
    (jb_one (js_ret (je_tup (ja_cons (je_item (hu1 hr) (j_var 0) j_int) (ja_star (je_lc [("link", 2)] rfl rfl nd (ji_any (je_item (hu1 hr) (j_var 0) j_int)) (blkOk_by (N := ["expr", "word", "link"]) (sc := defScope s_operands) (by decide +kernel)) (fun _ _ _ _ _ => (jn_name 2 nd)) (fun _ _ _ _ _ => jts_nil) (fun _ _ _ _ _ => (je_item (hu1 hr) (j_var 2) j_int)) (hgs_name)) ja_nil)))))
    jb_nil)
    (jb_one (js_ret (je_sl (j_var 0) (jo_end j_int) jo_no)))))))
abbrev s_with_operands : Stmt := topS 23
theorem sc_with_operands : FnScope ["expr", "parts", "word", "signs", "link"] ["expr", "parts"] (defScope s_with_operands) := ⟨rfl, rfl, rfl, by decide +kernel, rfl, by decide +kernel, by decide +kernel⟩
noncomputable def b_with_operands (ck : Fnm → MF) : MS := (mSeq (mAsg (mBin gItem (mVar 0) (mC (.int 0))) (nName 2))
    (mSeq (mIfS (mB (mBin (gEqA false) (mVar 2) (mC (.str "name"))))
    (mRet (mVar 0))
    mSkip)
    (mSeq (mIfS (mB (mBin (gEqA false) (mVar 2) (mC (.str "call"))))
    (mRet (mTup (mCons (mC (.str "call")) (mCons (mBin gItem (mVar 0) (mC (.int 1))) (mCons (mCall gTuple (mCons (mVar 1) mNil)) mNil)))))
    mSkip)
    (mSeq (mIfS (mB (mBin (gEqA false) (mVar 2) (mC (.str "compare"))))
    (mSeq (mAsg (mLc (mAnyI (mBin gItem (mVar 0) (mC (.int 2)))) (ngName 4) mYes (mBin gItem (mVar 4) (mC (.int 0))) [4]) (nName 3))
    (mRet (mTup (mCons (mC (.str "compare")) (mCons (mBin gItem (mVar 1) (mC (.int 0))) (mCons (mCall gZip (mCons (mVar 3) (mCons (mSl (mVar 1) (mEnd (mC (.int 1))) mNo) mNil))) mNil))))))
    mSkip)
    (mRet (mTup (mCons (mVar 2) (mStar (mVar 1) mNil))))))))
noncomputable def f_with_operands (ck : Fnm → MF) : MF := fun ds m => endOf (b_with_operands ck (startM 5 ds) m)
theorem ok_with_operands {M : Mode} {P : Program} {w : World} {K : PySem.W.Frag} {mg : Str → Option Value} {base : Heap} {k : Nat} {f : Addr} {fd : FuncData} {ck : Fnm → MF} (Fu : Fun K "with_operands" "with_operands" s_with_operands f fd) (T : Txt K w mg) :
    FnOk P w K mg base (M.CX P w) (k + 1) f fd ["expr", "parts"] (spM K 2 (f_with_operands ck)) :=
  have nd := sc_with_operands.nd
  fnx_ok (M := M) (g := b_with_operands ck) Fu sc_with_operands rfl (fun _ _ _ => rfl) fun cdv A outer s H E hr W tk hp =>
    (jb_cons (js_set 2 nd (je_item (hu1 hr) (j_var 0) j_int))
    (jb_cons (js_if (jt_cmp (op_eqA (hu64 hr)) om_eqA (j_var 2) j_str)
    (jb_one (js_ret (j_var 0)))
    jb_nil)
    (jb_cons (js_if (jt_cmp (op_eqA (hu64 hr)) om_eqA (j_var 2) j_str)
    (jb_one (js_ret (je_tup (ja_cons j_str (ja_cons (je_item (hu1 hr) (j_var 0) j_int) (ja_cons (je_callTy call_tuple_of cm_tuple T.b_tuple (by decide +kernel) (ja_cons (j_var 1) ja_nil)) ja_nil))))))
    jb_nil)
    (jb_cons (js_if (jt_cmp (op_eqA (hu64 hr)) om_eqA (j_var 2) j_str)
    (jb_cons (js_setLc 3 [("link", 4)] rfl rfl nd (ji_any (je_item (hu1 hr) (j_var 0) j_int)) (blkOk_by (N := ["expr", "parts", "word", "signs", "link"]) (sc := defScope s_with_operands) (by decide +kernel)) (fun _ _ _ _ _ => (jn_name 4 nd)) (fun _ _ _ _ _ => jts_nil) (fun _ _ _ _ _ => (je_item (hu1 hr) (j_var 4) j_int)) (hgs_name))
    (jb_one (js_ret (je_tup (ja_cons j_str (ja_cons (je_item (hu1 hr) (j_var 1) j_int) (ja_cons (je_tupZip rfl T.b_tuple T.b_zip (ja_cons (j_var 3) (ja_cons (je_sl (j_var 1) (jo_end j_int) jo_no) ja_nil))) ja_nil)))))))
    jb_nil)
    (jb_one (js_ret (je_tup (ja_cons (j_var 2) (ja_star (j_var 1) ja_nil)))))))))
abbrev s_all_parts : Stmt := topS 24
theorem sc_all_parts : FnScope ["expr", "found", "operand"] ["expr"] (defScope s_all_parts) := ⟨rfl, rfl, rfl, by decide +kernel, rfl, by decide +kernel, by decide +kernel⟩
noncomputable def b_all_parts (ck : Fnm → MF) : MS := (mSeq (mAsg (mLst (mCons (mVar 0) mNil)) (nName 1))
    (mSeq (mFor (mAnyI (mCall (ck .operands) (mCons (mVar 0) mNil))) (nName 2)
    (mAsg (mBin gAdd (mVar 1) (mCall (ck .all_parts) (mCons (mVar 2) mNil))) (nName 1)))
    (mRet (mVar 1))))
noncomputable def f_all_parts (ck : Fnm → MF) : MF := fun ds m => endOf (b_all_parts ck (startM 3 ds) m)
theorem ok_all_parts {M : Mode} {P : Program} {w : World} {K : PySem.W.Frag} {mg : Str → Option Value} {base : Heap} {k : Nat} {f : Addr} {fd : FuncData} {ck : Fnm → MF} (Fu : Fun K "all_parts" "all_parts" s_all_parts f fd) (T : Txt K w mg) (I_all_parts : FnX M P w K mg base k "all_parts" 1 (ck .all_parts)) (I_operands : FnX M P w K mg base k "operands" 1 (ck .operands)) :
    FnOk P w K mg base (M.CX P w) (k + 1) f fd ["expr"] (spM K 1 (f_all_parts ck)) :=
  have nd := sc_all_parts.nd
  fnx_ok (M := M) (g := b_all_parts ck) Fu sc_all_parts rfl (fun _ _ _ => rfl) fun cdv A outer s H E hr W tk hp =>
    (jb_cons (js_set 1 nd (je_lst (ja_cons (j_var 0) ja_nil)))
    (jb_cons (js_for hp rfl (ji_any (jx_call I_operands hr (Nat.le_refl _) tk (ja_cons (j_var 0) ja_nil) (hlen := (mCons_len mNil_len)))) (jg_name 2 nd)
    (jb_one (js_set 1 nd (j_op op_addA om_add (j_var 1) (jx_call I_all_parts hr (Nat.le_refl _) tk (ja_cons (j_var 2) ja_nil) (hlen := (mCons_len mNil_len)))))))
    (jb_one (js_ret (j_var 1)))))
abbrev s_variables_of : Stmt := topS 25
theorem sc_variables_of : FnScope ["exprs", "names", "expr", "part"] ["exprs"] (defScope s_variables_of) := ⟨rfl, rfl, rfl, by decide +kernel, rfl, by decide +kernel, by decide +kernel⟩
noncomputable def b_variables_of (ck : Fnm → MF) : MS := (mSeq (mAsg mDNew (nName 1))
    (mSeq (mFor (mAnyI (mVar 0)) (nName 2)
    (mFor (mAnyI (mCall (ck .all_parts) (mCons (mVar 2) mNil))) (nName 3)
    (mIfS (mB (mBin (gEqA false) (mBin gItem (mVar 3) (mC (.int 0))) (mC (.str "name"))))
    (mStore (mVar 1) (mBin gItem (mVar 3) (mC (.int 1))) (mC (.bl true)))
    mSkip)))
    (mRet (mCall gSortS (mCons (mCall gListA (mCons (mVar 1) mNil)) mNil)))))
noncomputable def f_variables_of (ck : Fnm → MF) : MF := fun ds m => endOf (b_variables_of ck (startM 4 ds) m)
theorem ok_variables_of {M : Mode} {P : Program} {w : World} {K : PySem.W.Frag} {mg : Str → Option Value} {base : Heap} {k : Nat} {f : Addr} {fd : FuncData} {ck : Fnm → MF} (Fu : Fun K "variables_of" "variables_of" s_variables_of f fd) (T : Txt K w mg) (I_all_parts : FnX M P w K mg base k "all_parts" 1 (ck .all_parts)) :
    FnOk P w K mg base (M.CX P w) (k + 1) f fd ["exprs"] (spM K 1 (f_variables_of ck)) :=
  have nd := sc_variables_of.nd
  fnx_ok (M := M) (g := b_variables_of ck) Fu sc_variables_of rfl (fun _ _ _ => rfl) fun cdv A outer s H E hr W tk hp =>
    (jb_cons (js_set 1 nd je_dnew)
    (jb_cons (js_for hp rfl (ji_any (j_var 0)) (jg_name 2 nd)
    (jb_one (js_for hp rfl (ji_any (jx_call I_all_parts hr (Nat.le_refl _) tk (ja_cons (j_var 2) ja_nil) (hlen := (mCons_len mNil_len)))) (jg_name 3 nd)
    (jb_one (js_if (jt_cmp (op_eqA (hu64 hr)) om_eqA (je_item (hu1 hr) (j_var 3) j_int) j_str)
    (jb_one (js_store (hu1 hr) (j_var 1) (je_item (hu1 hr) (j_var 3) j_int) (j_var 1) (je_item (hu1 hr) (j_var 3) j_int) j_bl))
    jb_nil)))))
    (jb_one (js_ret (je_callB cr_sortedS cm_sortS T.b_sorted (by decide +kernel) (ja_cons (je_callTy (cr_listA rfl) cm_listA T.b_list (by decide +kernel) (ja_cons (j_var 1) ja_nil)) ja_nil))))))
abbrev s_places_of : Stmt := topS 26
theorem sc_places_of : FnScope ["expr", "part"] ["expr"] (defScope s_places_of) := ⟨rfl, rfl, rfl, by decide +kernel, rfl, by decide +kernel, by decide +kernel⟩
noncomputable def b_places_of (ck : Fnm → MF) : MS := (mRet (mCall gSum (mCons (mLc (mAnyI (mCall (ck .all_parts) (mCons (mVar 0) mNil))) (ngName 1) mYes (mCall (ck .u_own_places) (mCons (mVar 1) mNil)) [1]) mNil)))
noncomputable def f_places_of (ck : Fnm → MF) : MF := fun ds m => endOf (b_places_of ck (startM 2 ds) m)
theorem ok_places_of {M : Mode} {P : Program} {w : World} {K : PySem.W.Frag} {mg : Str → Option Value} {base : Heap} {k : Nat} {f : Addr} {fd : FuncData} {ck : Fnm → MF} (Fu : Fun K "places_of" "places_of" s_places_of f fd) (T : Txt K w mg) (I_u_own_places : FnX M P w K mg base k "_own_places" 1 (ck .u_own_places)) (I_all_parts : FnX M P w K mg base k "all_parts" 1 (ck .all_parts)) :
    FnOk P w K mg base (M.CX P w) (k + 1) f fd ["expr"] (spM K 1 (f_places_of ck)) :=
  have nd := sc_places_of.nd
  fnx_ok (M := M) (g := b_places_of ck) Fu sc_places_of rfl (fun _ _ _ => rfl) fun cdv A outer s H E hr W tk hp =>
    (jb_one (js_ret (je_callB (cr_sum rfl) cm_sum T.b_sum (by decide +kernel) (ja_cons (je_lc [("part", 1)] rfl rfl nd (ji_any (jx_call I_all_parts hr (Nat.le_refl _) tk (ja_cons (j_var 0) ja_nil) (hlen := (mCons_len mNil_len)))) (blkOk_by (N := ["expr", "part"]) (sc := defScope s_places_of) (by decide +kernel)) (fun _ _ _ _ _ => (jn_name 1 nd)) (fun _ _ _ _ _ => jts_nil) (fun _ _ _ _ _ => (jx_call I_u_own_places hr (Nat.le_refl _) M.tk0 (ja_cons (j_var 1) ja_nil) (hlen := (mCons_len mNil_len)))) (hgs_name)) ja_nil))))
abbrev s_u_own_places : Stmt := topS 27
theorem sc_u_own_places : FnScope ["expr"] ["expr"] (defScope s_u_own_places) := ⟨rfl, rfl, rfl, by decide +kernel, rfl, by decide +kernel, by decide +kernel⟩
noncomputable def b_u_own_places (ck : Fnm → MF) : MS := (mSeq (mIfS (mB (mBin (gEqA false) (mBin gItem (mVar 0) (mC (.int 0))) (mC (.str "call"))))
    (mRet (mC (.int 1)))
    mSkip)
    (mRet (mIf (mB (mBin (gEqA false) (mBin gItem (mVar 0) (mC (.int 0))) (mC (.str "compare")))) (mCall gLen (mCons (mBin gItem (mVar 0) (mC (.int 2))) mNil)) (mC (.int 0)))))
noncomputable def f_u_own_places (ck : Fnm → MF) : MF := fun ds m => endOf (b_u_own_places ck (startM 1 ds) m)
theorem ok_u_own_places {M : Mode} {P : Program} {w : World} {K : PySem.W.Frag} {mg : Str → Option Value} {base : Heap} {k : Nat} {f : Addr} {fd : FuncData} {ck : Fnm → MF} (Fu : Fun K "_own_places" "_own_places" s_u_own_places f fd) (T : Txt K w mg) :
    FnOk P w K mg base (M.CX P w) (k + 1) f fd ["expr"] (spM K 1 (f_u_own_places ck)) :=
  have nd := sc_u_own_places.nd
  fnx_ok (M := M) (g := b_u_own_places ck) Fu sc_u_own_places rfl (fun _ _ _ => rfl) fun cdv A outer s H E hr W tk hp =>
    (jb_cons (js_if (jt_cmp (op_eqA (hu64 hr)) om_eqA (je_item (hu1 hr) (j_var 0) j_int) j_str)
    (jb_one (js_ret j_int))
    jb_nil)
    (jb_one (js_ret (je_if (jt_cmp (op_eqA (hu64 hr)) om_eqA (je_item (hu1 hr) (j_var 0) j_int) j_str) (je_callB cr_len cm_len T.b_len PySem.boot_len (ja_cons (je_item (hu1 hr) (j_var 0) j_int) ja_nil)) j_int))))
abbrev s_variables : Stmt := topS 28
theorem sc_variables : FnScope ["expr"] ["expr"] (defScope s_variables) := ⟨rfl, rfl, rfl, by decide +kernel, rfl, by decide +kernel, by decide +kernel⟩
noncomputable def b_variables (ck : Fnm → MF) : MS := (mSeq (mDrop (mCall (ck .check_expression) (mCons (mVar 0) mNil)))
    (mRet (mCall (ck .variables_of) (mCons (mLst (mCons (mVar 0) mNil)) mNil))))
noncomputable def f_variables (ck : Fnm → MF) : MF := fun ds m => endOf (b_variables ck (startM 1 ds) m)
theorem ok_variables {M : Mode} {P : Program} {w : World} {K : PySem.W.Frag} {mg : Str → Option Value} {base : Heap} {k : Nat} {f : Addr} {fd : FuncData} {ck : Fnm → MF} (Fu : Fun K "variables" "variables" s_variables f fd) (T : Txt K w mg) (I_check_expression : FnX M P w K mg base k "check_expression" 1 (ck .check_expression)) (I_variables_of : FnX M P w K mg base k "variables_of" 1 (ck .variables_of)) :
    FnOk P w K mg base (M.CX P w) (k + 1) f fd ["expr"] (spM K 1 (f_variables ck)) :=
  have nd := sc_variables.nd
  fnx_ok (M := M) (g := b_variables ck) Fu sc_variables rfl (fun _ _ _ => rfl) fun cdv A outer s H E hr W tk hp =>
    (jb_cons (js_expr (jx_call I_check_expression hr (Nat.le_refl _) tk (ja_cons (j_var 0) ja_nil) (hlen := (mCons_len mNil_len))))
    (jb_one (js_ret (jx_call I_variables_of hr (Nat.le_refl _) tk (ja_cons (je_lst (ja_cons (j_var 0) ja_nil)) ja_nil) (hlen := (mCons_len mNil_len))))))
abbrev s_size : Stmt := topS 29
theorem sc_size : FnScope ["expr"] ["expr"] (defScope s_size) := ⟨rfl, rfl, rfl, by decide +kernel, rfl, by decide +kernel, by decide +kernel⟩
noncomputable def b_size (ck : Fnm → MF) : MS := (mSeq (mDrop (mCall (ck .check_expression) (mCons (mVar 0) mNil)))
    (mRet (mCall gLen (mCons (mCall (ck .all_parts) (mCons (mVar 0) mNil)) mNil))))
noncomputable def f_size (ck : Fnm → MF) : MF := fun ds m => endOf (b_size ck (startM 1 ds) m)
theorem ok_size {M : Mode} {P : Program} {w : World} {K : PySem.W.Frag} {mg : Str → Option Value} {base : Heap} {k : Nat} {f : Addr} {fd : FuncData} {ck : Fnm → MF} (Fu : Fun K "size" "size" s_size f fd) (T : Txt K w mg) (I_all_parts : FnX M P w K mg base k "all_parts" 1 (ck .all_parts)) (I_check_expression : FnX M P w K mg base k "check_expression" 1 (ck .check_expression)) :
    FnOk P w K mg base (M.CX P w) (k + 1) f fd ["expr"] (spM K 1 (f_size ck)) :=
  have nd := sc_size.nd
  fnx_ok (M := M) (g := b_size ck) Fu sc_size rfl (fun _ _ _ => rfl) fun cdv A outer s H E hr W tk hp =>
    (jb_cons (js_expr (jx_call I_check_expression hr (Nat.le_refl _) tk (ja_cons (j_var 0) ja_nil) (hlen := (mCons_len mNil_len))))
    (jb_one (js_ret (je_callB cr_len cm_len T.b_len PySem.boot_len (ja_cons (jx_call I_all_parts hr (Nat.le_refl _) tk (ja_cons (j_var 0) ja_nil) (hlen := (mCons_len mNil_len))) ja_nil)))))
abbrev s_event_places : Stmt := topS 30
theorem sc_event_places : FnScope ["expr"] ["expr"] (defScope s_event_places) := ⟨rfl, rfl, rfl, by decide +kernel, rfl, by decide +kernel, by decide +kernel⟩
noncomputable def b_event_places (ck : Fnm → MF) : MS := (mSeq (mDrop (mCall (ck .check_expression) (mCons (mVar 0) mNil)))
    (mRet (mCall (ck .places_of) (mCons (mVar 0) mNil))))
noncomputable def f_event_places (ck : Fnm → MF) : MF := fun ds m => endOf (b_event_places ck (startM 1 ds) m)
theorem ok_event_places {M : Mode} {P : Program} {w : World} {K : PySem.W.Frag} {mg : Str → Option Value} {base : Heap} {k : Nat} {f : Addr} {fd : FuncData} {ck : Fnm → MF} (Fu : Fun K "event_places" "event_places" s_event_places f fd) (T : Txt K w mg) (I_check_expression : FnX M P w K mg base k "check_expression" 1 (ck .check_expression)) (I_places_of : FnX M P w K mg base k "places_of" 1 (ck .places_of)) :
    FnOk P w K mg base (M.CX P w) (k + 1) f fd ["expr"] (spM K 1 (f_event_places ck)) :=
  have nd := sc_event_places.nd
  fnx_ok (M := M) (g := b_event_places ck) Fu sc_event_places rfl (fun _ _ _ => rfl) fun cdv A outer s H E hr W tk hp =>
    (jb_cons (js_expr (jx_call I_check_expression hr (Nat.le_refl _) tk (ja_cons (j_var 0) ja_nil) (hlen := (mCons_len mNil_len))))
    (jb_one (js_ret (jx_call I_places_of hr (Nat.le_refl _) tk (ja_cons (j_var 0) ja_nil) (hlen := (mCons_len mNil_len))))))
abbrev s_check_kinds : Stmt := topS 47
theorem sc_check_kinds : FnScope ["kinds", "names", "name"] ["kinds", "names"] (defScope s_check_kinds) := ⟨rfl, rfl, rfl, by decide +kernel, rfl, by decide +kernel, by decide +kernel⟩
noncomputable def b_check_kinds (ck : Fnm → MF) : MS := (mIfS (mOrT (mNotT (mTru (mIsi "dict" (mVar 0)))) (mNotT (mTru (mCall gAll (mCons (mLc (mAnyI (mVar 1)) (ngName 2) mYes (mAnd (mBin (gInB false) (mVar 2) (mVar 0)) (mBin (gInB false) (mBin gItem (mVar 0) (mVar 2)) (mC c_KINDS))) [2]) mNil)))))
    (mRaise "InvalidWorld")
    mSkip)
noncomputable def f_check_kinds (ck : Fnm → MF) : MF := fun ds m => endOf (b_check_kinds ck (startM 3 ds) m)
theorem ok_check_kinds {M : Mode} {P : Program} {w : World} {K : PySem.W.Frag} {mg : Str → Option Value} {base : Heap} {k : Nat} {f : Addr} {fd : FuncData} {ck : Fnm → MF} (Fu : Fun K "check_kinds" "check_kinds" s_check_kinds f fd) (T : Txt K w mg) :
    FnOk P w K mg base (M.CX P w) (k + 1) f fd ["kinds", "names"] (spM K 2 (f_check_kinds ck)) :=
  have nd := sc_check_kinds.nd
  fnx_ok (M := M) (g := b_check_kinds ck) Fu sc_check_kinds rfl (fun _ _ _ => rfl) fun cdv A outer s H E hr W tk hp =>
    (jb_one (js_if (jw_or (jt_not (jt_tru (je_isi "dict" (j_var 0) T.b_isinstance T.b_dict (by decide +kernel)))) (jw_or1 (jt_not (jt_tru (je_callB (cr_all rfl) cm_all T.b_all (by decide +kernel) (ja_cons (je_lc [("name", 2)] rfl rfl nd (ji_any (j_var 1)) (blkOk_by (N := ["kinds", "names", "name"]) (sc := defScope s_check_kinds) (by decide +kernel)) (fun _ _ _ _ _ => (jn_name 2 nd)) (fun _ _ _ _ _ => jts_nil) (fun _ _ _ _ _ => (je_and (je_inB (hu1 hr) (hu65 hr) (j_var 2) (j_var 0)) (je_one (je_inB (hu1 hr) (hu65 hr) (je_item (hu1 hr) (j_var 0) (j_var 2)) (j_con T.c_KINDS))))) (hgs_name)) ja_nil)))))).jt
    (jb_one (jx_raise (M := M) T.x_InvalidWorld rfl tk))
    jb_nil))
abbrev s_run_once : Stmt := topS 48
theorem sc_run_once : FnScope ["expr", "kinds", "answers", "names", "world", "end"] ["expr", "kinds", "answers"] (defScope s_run_once) := ⟨rfl, rfl, rfl, by decide +kernel, rfl, by decide +kernel, by decide +kernel⟩
noncomputable def b_run_once (ck : Fnm → MF) : MS := (mSeq (mDrop (mCall (ck .check_expression) (mCons (mVar 0) mNil)))
    (mSeq (mAsg (mCall (ck .variables_of) (mCons (mLst (mCons (mVar 0) mNil)) mNil)) (nName 3))
    (mSeq (mDrop (mCall (ck .check_kinds) (mCons (mVar 1) (mCons (mVar 3) mNil))))
    mStuck)))
noncomputable def f_run_once (ck : Fnm → MF) : MF := fun ds m => endOf (b_run_once ck (startM 6 ds) m)
theorem ok_run_once {M : Mode} {P : Program} {w : World} {K : PySem.W.Frag} {mg : Str → Option Value} {base : Heap} {k : Nat} {f : Addr} {fd : FuncData} {ck : Fnm → MF} (Fu : Fun K "run_once" "run_once" s_run_once f fd) (T : Txt K w mg) (I_check_expression : FnX M P w K mg base k "check_expression" 1 (ck .check_expression)) (I_check_kinds : FnX M P w K mg base k "check_kinds" 2 (ck .check_kinds)) (I_variables_of : FnX M P w K mg base k "variables_of" 1 (ck .variables_of)) :
    FnOk P w K mg base (M.CX P w) (k + 1) f fd ["expr", "kinds", "answers"] (spM K 3 (f_run_once ck)) :=
  have nd := sc_run_once.nd
  fnx_ok (M := M) (g := b_run_once ck) Fu sc_run_once rfl (fun _ _ _ => rfl) fun cdv A outer s H E hr W tk hp =>
    (jb_cons (js_expr (jx_call I_check_expression hr (Nat.le_refl _) tk (ja_cons (j_var 0) ja_nil) (hlen := (mCons_len mNil_len))))
    (jb_cons (js_set 3 nd (jx_call I_variables_of hr (Nat.le_refl _) tk (ja_cons (je_lst (ja_cons (j_var 0) ja_nil)) ja_nil) (hlen := (mCons_len mNil_len))))
    (jb_cons (js_expr (jx_call I_check_kinds hr (Nat.le_refl _) tk (ja_cons (j_var 1) (ja_cons (j_var 3) ja_nil)) (hlen := (mCons_len (mCons_len mNil_len)))))
    jb_stuck)))
abbrev s_evaluate : Stmt := topS 49
theorem sc_evaluate : FnScope ["expr", "kinds", "answers", "events", "end"] ["expr", "kinds", "answers"] (defScope s_evaluate) := ⟨rfl, rfl, rfl, by decide +kernel, rfl, by decide +kernel, by decide +kernel⟩
noncomputable def b_evaluate (ck : Fnm → MF) : MS := (mSeq (mAsg (mCall (ck .run_once) (mCons (mVar 0) (mCons (mVar 1) (mCons (mVar 2) mNil)))) (nTup 2 (nCons (nName 3) (nCons (nName 4) nNil))))
    (mSeq (mIfS (mB (mBin (gEqA false) (mBin gItem (mVar 4) (mC (.int 0))) (mC (.str "value"))))
    (mRet (mTup (mCons (mVar 3) (mCons (mTup (mCons (mC (.str "value")) (mCons (mBin gItem (mBin gItem (mVar 4) (mC (.int 1))) (mC (.int 0))) mNil))) mNil))))
    mSkip)
    (mRet (mTup (mCons (mVar 3) (mCons (mVar 4) mNil))))))
noncomputable def f_evaluate (ck : Fnm → MF) : MF := fun ds m => endOf (b_evaluate ck (startM 5 ds) m)
theorem ok_evaluate {M : Mode} {P : Program} {w : World} {K : PySem.W.Frag} {mg : Str → Option Value} {base : Heap} {k : Nat} {f : Addr} {fd : FuncData} {ck : Fnm → MF} (Fu : Fun K "evaluate" "evaluate" s_evaluate f fd) (T : Txt K w mg) (I_run_once : FnX M P w K mg base k "run_once" 3 (ck .run_once)) :
    FnOk P w K mg base (M.CX P w) (k + 1) f fd ["expr", "kinds", "answers"] (spM K 3 (f_evaluate ck)) :=
  have nd := sc_evaluate.nd
  fnx_ok (M := M) (g := b_evaluate ck) Fu sc_evaluate rfl (fun _ _ _ => rfl) fun cdv A outer s H E hr W tk hp =>
    (jb_cons (js_asg (jx_call I_run_once hr (Nat.le_refl _) tk (ja_cons (j_var 0) (ja_cons (j_var 1) (ja_cons (j_var 2) ja_nil))) (hlen := (mCons_len (mCons_len (mCons_len mNil_len))))) (jg_tup rfl (jgs_cons (jg_name 3 nd) (jgs_cons (jg_name 4 nd) jgs_nil))))
    (jb_cons (js_if (jt_cmp (op_eqA (hu64 hr)) om_eqA (je_item (hu1 hr) (j_var 4) j_int) j_str)
    (jb_one (js_ret (je_tup (ja_cons (j_var 3) (ja_cons (je_tup (ja_cons j_str (ja_cons (je_item (hu1 hr) (je_item (hu1 hr) (j_var 4) j_int) j_int) ja_nil))) ja_nil)))))
    jb_nil)
    (jb_one (js_ret (je_tup (ja_cons (j_var 3) (ja_cons (j_var 4) ja_nil)))))))
abbrev s_call_tree : Stmt := topS 55
theorem sc_call_tree : FnScope ["expr", "kinds", "names"] ["expr", "kinds"] (defScope s_call_tree) := ⟨rfl, rfl, rfl, by decide +kernel, rfl, by decide +kernel, by decide +kernel⟩
noncomputable def b_call_tree (ck : Fnm → MF) : MS := (mSeq (mDrop (mCall (ck .check_expression) (mCons (mVar 0) mNil)))
    (mSeq (mAsg (mCall (ck .variables_of) (mCons (mLst (mCons (mVar 0) mNil)) mNil)) (nName 2))
    (mSeq (mDrop (mCall (ck .check_kinds) (mCons (mVar 1) (mCons (mVar 2) mNil))))
    mStuck)))
noncomputable def f_call_tree (ck : Fnm → MF) : MF := fun ds m => endOf (b_call_tree ck (startM 3 ds) m)
theorem ok_call_tree {M : Mode} {P : Program} {w : World} {K : PySem.W.Frag} {mg : Str → Option Value} {base : Heap} {k : Nat} {f : Addr} {fd : FuncData} {ck : Fnm → MF} (Fu : Fun K "call_tree" "call_tree" s_call_tree f fd) (T : Txt K w mg) (I_check_expression : FnX M P w K mg base k "check_expression" 1 (ck .check_expression)) (I_check_kinds : FnX M P w K mg base k "check_kinds" 2 (ck .check_kinds)) (I_variables_of : FnX M P w K mg base k "variables_of" 1 (ck .variables_of)) :
    FnOk P w K mg base (M.CX P w) (k + 1) f fd ["expr", "kinds"] (spM K 2 (f_call_tree ck)) :=
  have nd := sc_call_tree.nd
  fnx_ok (M := M) (g := b_call_tree ck) Fu sc_call_tree rfl (fun _ _ _ => rfl) fun cdv A outer s H E hr W tk hp =>
    (jb_cons (js_expr (jx_call I_check_expression hr (Nat.le_refl _) tk (ja_cons (j_var 0) ja_nil) (hlen := (mCons_len mNil_len))))
    (jb_cons (js_set 2 nd (jx_call I_variables_of hr (Nat.le_refl _) tk (ja_cons (je_lst (ja_cons (j_var 0) ja_nil)) ja_nil) (hlen := (mCons_len mNil_len))))
    (jb_cons (js_expr (jx_call I_check_kinds hr (Nat.le_refl _) tk (ja_cons (j_var 1) (ja_cons (j_var 2) ja_nil)) (hlen := (mCons_len (mCons_len mNil_len)))))
    jb_stuck)))
abbrev s_check_surveyable : Stmt := topS 57
theorem sc_check_surveyable : FnScope ["exprs", "expr"] ["exprs"] (defScope s_check_surveyable) := ⟨rfl, rfl, rfl, by decide +kernel, rfl, by decide +kernel, by decide +kernel⟩
noncomputable def b_check_surveyable (ck : Fnm → MF) : MS := (mSeq (mFor (mAnyI (mVar 0)) (nName 1)
    (mDrop (mCall (ck .check_expression) (mCons (mVar 1) mNil))))
    (mSeq (mIfS (mB (mBin gGt (mCall gLen (mCons (mCall (ck .variables_of) (mCons (mVar 0) mNil)) mNil)) (mC c_MOST_SURVEYED_VARIABLES)))
    (mRaise "TooMany")
    mSkip)
    (mIfS (mTru (mCall gAny (mCons (mLc (mAnyI (mVar 0)) (ngName 1) mYes (mBin gGt (mCall (ck .places_of) (mCons (mVar 1) mNil)) (mC c_MOST_SURVEYED_PLACES)) [1]) mNil)))
    (mRaise "TooMany")
    mSkip)))
noncomputable def f_check_surveyable (ck : Fnm → MF) : MF := fun ds m => endOf (b_check_surveyable ck (startM 2 ds) m)
theorem ok_check_surveyable {M : Mode} {P : Program} {w : World} {K : PySem.W.Frag} {mg : Str → Option Value} {base : Heap} {k : Nat} {f : Addr} {fd : FuncData} {ck : Fnm → MF} (Fu : Fun K "check_surveyable" "check_surveyable" s_check_surveyable f fd) (T : Txt K w mg) (I_check_expression : FnX M P w K mg base k "check_expression" 1 (ck .check_expression)) (I_places_of : FnX M P w K mg base k "places_of" 1 (ck .places_of)) (I_variables_of : FnX M P w K mg base k "variables_of" 1 (ck .variables_of)) :
    FnOk P w K mg base (M.CX P w) (k + 1) f fd ["exprs"] (spM K 1 (f_check_surveyable ck)) :=
  have nd := sc_check_surveyable.nd
  fnx_ok (M := M) (g := b_check_surveyable ck) Fu sc_check_surveyable rfl (fun _ _ _ => rfl) fun cdv A outer s H E hr W tk hp =>
    (jb_cons (js_for hp rfl (ji_any (j_var 0)) (jg_name 1 nd)
    (jb_one (js_expr (jx_call I_check_expression hr (Nat.le_refl _) tk (ja_cons (j_var 1) ja_nil) (hlen := (mCons_len mNil_len))))))
    (jb_cons (js_if (jt_cmp op_gt om_gt (je_callB cr_len cm_len T.b_len PySem.boot_len (ja_cons (jx_call I_variables_of hr (Nat.le_refl _) tk (ja_cons (j_var 0) ja_nil) (hlen := (mCons_len mNil_len))) ja_nil)) (j_con T.c_MOST_SURVEYED_VARIABLES))
    (jb_one (jx_raise (M := M) T.x_TooMany rfl tk))
    jb_nil)
    (jb_one (js_if (jt_tru (je_callB (cr_any rfl) cm_any T.b_any (by decide +kernel) (ja_cons (je_lc [("expr", 1)] rfl rfl nd (ji_any (j_var 0)) (blkOk_by (N := ["exprs", "expr"]) (sc := defScope s_check_surveyable) (by decide +kernel)) (fun _ _ _ _ _ => (jn_name 1 nd)) (fun _ _ _ _ _ => jts_nil) (fun _ _ _ _ _ => (j_cmp op_gt om_gt (jx_call I_places_of hr (Nat.le_refl _) M.tk0 (ja_cons (j_var 1) ja_nil) (hlen := (mCons_len mNil_len))) (j_con T.c_MOST_SURVEYED_PLACES))) (hgs_name)) ja_nil)))
    (jb_one (jx_raise (M := M) T.x_TooMany rfl tk))
    jb_nil))))
abbrev s_parting : Stmt := topS 58
theorem sc_parting : FnScope ["one", "other"] ["one", "other"] (defScope s_parting) := ⟨rfl, rfl, rfl, by decide +kernel, rfl, by decide +kernel, by decide +kernel⟩
noncomputable def b_parting (ck : Fnm → MF) : MS := (mRet (mCall (ck .u_least_parting) (mCons (mVar 0) (mCons (mVar 1) (mCons (mC (.bl false)) mNil)))))
noncomputable def f_parting (ck : Fnm → MF) : MF := fun ds m => endOf (b_parting ck (startM 2 ds) m)
theorem ok_parting {M : Mode} {P : Program} {w : World} {K : PySem.W.Frag} {mg : Str → Option Value} {base : Heap} {k : Nat} {f : Addr} {fd : FuncData} {ck : Fnm → MF} (Fu : Fun K "parting" "parting" s_parting f fd) (T : Txt K w mg) (I_u_least_parting : FnX M P w K mg base k "_least_parting" 3 (ck .u_least_parting)) :
    FnOk P w K mg base (M.CX P w) (k + 1) f fd ["one", "other"] (spM K 2 (f_parting ck)) :=
  have nd := sc_parting.nd
  fnx_ok (M := M) (g := b_parting ck) Fu sc_parting rfl (fun _ _ _ => rfl) fun cdv A outer s H E hr W tk hp =>
    (jb_one (js_ret (jx_call I_u_least_parting hr (Nat.le_refl _) tk (ja_cons (j_var 0) (ja_cons (j_var 1) (ja_cons j_bl ja_nil))) (hlen := (mCons_len (mCons_len (mCons_len mNil_len)))))))
abbrev s_u_least_parting : Stmt := topS 59
theorem sc_u_least_parting : FnScope ["one", "other", "as_test", "names", "kinds", "holds", "answers"] ["one", "other", "as_test"] (defScope s_u_least_parting) := ⟨rfl, rfl, rfl, by decide +kernel, rfl, by decide +kernel, by decide +kernel⟩
noncomputable def b_u_least_parting (ck : Fnm → MF) : MS := (mSeq (mDrop (mCall (ck .check_surveyable) (mCons (mLst (mCons (mVar 0) (mCons (mVar 1) mNil))) mNil)))
    (mSeq (mAsg (mCall (ck .variables_of) (mCons (mLst (mCons (mVar 0) (mCons (mVar 1) mNil))) mNil)) (nName 3))
    mStuck))
noncomputable def f_u_least_parting (ck : Fnm → MF) : MF := fun ds m => endOf (b_u_least_parting ck (startM 7 ds) m)
theorem ok_u_least_parting {M : Mode} {P : Program} {w : World} {K : PySem.W.Frag} {mg : Str → Option Value} {base : Heap} {k : Nat} {f : Addr} {fd : FuncData} {ck : Fnm → MF} (Fu : Fun K "_least_parting" "_least_parting" s_u_least_parting f fd) (T : Txt K w mg) (I_check_surveyable : FnX M P w K mg base k "check_surveyable" 1 (ck .check_surveyable)) (I_variables_of : FnX M P w K mg base k "variables_of" 1 (ck .variables_of)) :
    FnOk P w K mg base (M.CX P w) (k + 1) f fd ["one", "other", "as_test"] (spM K 3 (f_u_least_parting ck)) :=
  have nd := sc_u_least_parting.nd
  fnx_ok (M := M) (g := b_u_least_parting ck) Fu sc_u_least_parting rfl (fun _ _ _ => rfl) fun cdv A outer s H E hr W tk hp =>
    (jb_cons (js_expr (jx_call I_check_surveyable hr (Nat.le_refl _) tk (ja_cons (je_lst (ja_cons (j_var 0) (ja_cons (j_var 1) ja_nil))) ja_nil) (hlen := (mCons_len mNil_len))))
    (jb_cons (js_set 3 nd (jx_call I_variables_of hr (Nat.le_refl _) tk (ja_cons (je_lst (ja_cons (j_var 0) (ja_cons (j_var 1) ja_nil))) ja_nil) (hlen := (mCons_len mNil_len))))
    jb_stuck))
abbrev s_form : Stmt := topS 64
theorem sc_form : FnScope ["expr"] ["expr"] (defScope s_form) := ⟨rfl, rfl, rfl, by decide +kernel, rfl, by decide +kernel, by decide +kernel⟩
noncomputable def b_form (ck : Fnm → MF) : MS := (mSeq (mDrop (mCall (ck .check_surveyable) (mCons (mLst (mCons (mVar 0) mNil)) mNil)))
    mStuck)
noncomputable def f_form (ck : Fnm → MF) : MF := fun ds m => endOf (b_form ck (startM 1 ds) m)
theorem ok_form {M : Mode} {P : Program} {w : World} {K : PySem.W.Frag} {mg : Str → Option Value} {base : Heap} {k : Nat} {f : Addr} {fd : FuncData} {ck : Fnm → MF} (Fu : Fun K "form" "form" s_form f fd) (T : Txt K w mg) (I_check_surveyable : FnX M P w K mg base k "check_surveyable" 1 (ck .check_surveyable)) :
    FnOk P w K mg base (M.CX P w) (k + 1) f fd ["expr"] (spM K 1 (f_form ck)) :=
  have nd := sc_form.nd
  fnx_ok (M := M) (g := b_form ck) Fu sc_form rfl (fun _ _ _ => rfl) fun cdv A outer s H E hr W tk hp =>
    (jb_cons (js_expr (jx_call I_check_surveyable hr (Nat.le_refl _) tk (ja_cons (je_lst (ja_cons (j_var 0) ja_nil)) ja_nil) (hlen := (mCons_len mNil_len))))
    jb_stuck)
abbrev s_expression_text : Stmt := topS 70
theorem sc_expression_text : FnScope ["expr"] ["expr"] (defScope s_expression_text) := ⟨rfl, rfl, rfl, by decide +kernel, rfl, by decide +kernel, by decide +kernel⟩
noncomputable def b_expression_text (ck : Fnm → MF) : MS := (mSeq (mDrop (mCall (ck .check_expression) (mCons (mVar 0) mNil)))
    mStuck)
noncomputable def f_expression_text (ck : Fnm → MF) : MF := fun ds m => endOf (b_expression_text ck (startM 1 ds) m)
theorem ok_expression_text {M : Mode} {P : Program} {w : World} {K : PySem.W.Frag} {mg : Str → Option Value} {base : Heap} {k : Nat} {f : Addr} {fd : FuncData} {ck : Fnm → MF} (Fu : Fun K "expression_text" "expression_text" s_expression_text f fd) (T : Txt K w mg) (I_check_expression : FnX M P w K mg base k "check_expression" 1 (ck .check_expression)) :
    FnOk P w K mg base (M.CX P w) (k + 1) f fd ["expr"] (spM K 1 (f_expression_text ck)) :=
  have nd := sc_expression_text.nd
  fnx_ok (M := M) (g := b_expression_text ck) Fu sc_expression_text rfl (fun _ _ _ => rfl) fun cdv A outer s H E hr W tk hp =>
    (jb_cons (js_expr (jx_call I_check_expression hr (Nat.le_refl _) tk (ja_cons (j_var 0) ja_nil) (hlen := (mCons_len mNil_len))))
    jb_stuck)
abbrev s_l_source : Stmt := topS 74
theorem sc_l_source : FnScope ["_law_script", "_law_cells", "_law_k"] ["_law_script"] (defScope s_l_source) := ⟨rfl, rfl, rfl, by decide +kernel, rfl, by decide +kernel, by decide +kernel⟩
noncomputable def b_l_source (ck : Fnm → MF) : MS := (mSeq (mAsg (mSl (mVar 0) mNo (mEnd (mC (.int 63)))) (nName 1))
    (mSeq (mFor (mRng (mCons (mCall gLen (mCons (mVar 1) mNil)) mNil)) (nName 2)
    (mIfS (mB (mBin gGe (mCall gAbs (mCons (mBin gItem (mVar 1) (mVar 2)) mNil)) (mBin gPow (mC (.int 10)) (mC (.int 18)))))
    (mStore (mVar 1) (mVar 2) (mBin gMod (mCall gInt (mCons (mBin gItem (mVar 1) (mVar 2)) mNil)) (mBin gPow (mBin gPow (mC (.int 10)) (mC (.int 60))) (mC (.int 20)))))
    mSkip))
    (mSeq (mIfS (mB (mBin gEqE (mVar 1) (mLst mNil)))
    (mAsg (mLst (mCons (mC (.int 0)) mNil)) (nName 1))
    mSkip)
    (mRet (mLst (mCons (mVar 1) (mCons (mC (.int 0)) mNil)))))))
noncomputable def f_l_source (ck : Fnm → MF) : MF := fun ds m => endOf (b_l_source ck (startM 3 ds) m)
theorem ok_l_source {M : Mode} {P : Program} {w : World} {K : PySem.W.Frag} {mg : Str → Option Value} {base : Heap} {k : Nat} {f : Addr} {fd : FuncData} {ck : Fnm → MF} (Fu : Fun K "_law_source" "_law_source" s_l_source f fd) (T : Txt K w mg) :
    FnOk P w K mg base (M.CX P w) (k + 1) f fd ["_law_script"] (spM K 1 (f_l_source ck)) :=
  have nd := sc_l_source.nd
  fnx_ok (M := M) (g := b_l_source ck) Fu sc_l_source rfl (fun _ _ _ => rfl) fun cdv A outer s H E hr W tk hp =>
    (jb_cons (js_set 1 nd (je_sl (j_var 0) jo_no (jo_end j_int)))
    (jb_cons (js_for hp rfl (ji_rng1 T.b_range (ja_cons (je_callB cr_len cm_len T.b_len PySem.boot_len (ja_cons (j_var 1) ja_nil)) ja_nil)) (jg_name 2 nd)
    (jb_one (js_if (jt_cmp op_ge om_ge (je_callB call_abs cm_abs T.b_abs (by decide +kernel) (ja_cons (je_item (hu1 hr) (j_var 1) (j_var 2)) ja_nil)) (j_op op_powW om_pow j_int j_int))
    (jb_one (js_store (hu1 hr) (j_var 1) (j_var 2) (j_var 1) (j_var 2) (j_op op_mod om_mod (je_callTy call_int1 cm_int T.b_int (by decide +kernel) (ja_cons (je_item (hu1 hr) (j_var 1) (j_var 2)) ja_nil)) (j_op op_powW om_pow (j_op op_powW om_pow j_int j_int) j_int))))
    jb_nil)))
    (jb_cons (js_if (jt_cmp (op_eqE (hu0 hr)) om_eqE (j_var 1) (je_lst ja_nil))
    (jb_one (js_set 1 nd (je_lst (ja_cons j_int ja_nil))))
    jb_nil)
    (jb_one (js_ret (je_lst (ja_cons (j_var 1) (ja_cons j_int ja_nil))))))))
abbrev s_l_draw : Stmt := topS 75
theorem sc_l_draw : FnScope ["_law_source_here", "_law_limit", "_law_cells", "_law_turn", "_law_place", "_law_cell", "_law_number"] ["_law_source_here", "_law_limit"] (defScope s_l_draw) := ⟨rfl, rfl, rfl, by decide +kernel, rfl, by decide +kernel, by decide +kernel⟩
noncomputable def b_l_draw (ck : Fnm → MF) : MS := (mSeq (mAsg (mVar 0) (nTup 2 (nCons (nName 2) (nCons (nName 3) nNil))))
    (mSeq (mAsg (mBin gMod (mCall gInt (mCons (mVar 3) mNil)) (mCall gLen (mCons (mVar 2) mNil))) (nName 4))
    (mSeq (mAsg (mBin gItem (mVar 2) (mVar 4)) (nName 5))
    (mSeq (mStore (mVar 0) (mC (.int 1)) (mBin gAdd (mVar 3) (mC (.int 1))))
    (mSeq (mIfS (mB (mBin gGe (mVar 5) (mBin gPow (mC (.int 10)) (mC (.int 18)))))
    (mSeq (mStore (mVar 2) (mVar 4) (mBin gDiv (mVar 5) (mVar 1)))
    (mRet (mBin gMod (mCall gInt (mCons (mVar 5) mNil)) (mVar 1))))
    mSkip)
    (mSeq (mAsg (mBin gMod (mCall gInt (mCons (mBin gAdd (mBin gAdd (mBin gMul (mBin gMod (mCall gInt (mCons (mVar 5) mNil)) (mC (.int 2147483629))) (mC (.int 48271))) (mBin gMul (mBin gMul (mVar 3) (mVar 3)) (mC (.int 69621)))) (mC (.int 11))) mNil)) (mC (.int 2147483647))) (nName 6))
    (mSeq (mAsg (mBin gMod (mCall gInt (mCons (mBin gMul (mVar 6) (mVar 6)) mNil)) (mC (.int 2147483629))) (nName 6))
    (mSeq (mAsg (mBin gMod (mCall gInt (mCons (mBin gMul (mVar 6) (mVar 6)) mNil)) (mC (.int 2147483587))) (nName 6))
    (mRet (mBin gMod (mCall gInt (mCons (mVar 6) mNil)) (mVar 1)))))))))))
noncomputable def f_l_draw (ck : Fnm → MF) : MF := fun ds m => endOf (b_l_draw ck (startM 7 ds) m)
theorem ok_l_draw {M : Mode} {P : Program} {w : World} {K : PySem.W.Frag} {mg : Str → Option Value} {base : Heap} {k : Nat} {f : Addr} {fd : FuncData} {ck : Fnm → MF} (Fu : Fun K "_law_draw" "_law_draw" s_l_draw f fd) (T : Txt K w mg) :
    FnOk P w K mg base (M.CX P w) (k + 1) f fd ["_law_source_here", "_law_limit"] (spM K 2 (f_l_draw ck)) :=
  have nd := sc_l_draw.nd
  fnx_ok (M := M) (g := b_l_draw ck) Fu sc_l_draw rfl (fun _ _ _ => rfl) fun cdv A outer s H E hr W tk hp =>
    (jb_cons (js_asg (j_var 0) (jg_tup rfl (jgs_cons (jg_name 2 nd) (jgs_cons (jg_name 3 nd) jgs_nil))))
    (jb_cons (js_set 4 nd (j_op op_mod om_mod (je_callTy call_int1 cm_int T.b_int (by decide +kernel) (ja_cons (j_var 3) ja_nil)) (je_callB cr_len cm_len T.b_len PySem.boot_len (ja_cons (j_var 2) ja_nil))))
    (jb_cons (js_set 5 nd (je_item (hu1 hr) (j_var 2) (j_var 4)))
    (jb_cons (js_store (hu1 hr) (j_var 0) j_int (j_var 0) j_int (j_op op_addA om_add (j_var 3) j_int))
    (jb_cons (js_if (jt_cmp op_ge om_ge (j_var 5) (j_op op_powW om_pow j_int j_int))
    (jb_cons (js_store (hu1 hr) (j_var 2) (j_var 4) (j_var 2) (j_var 4) (j_op op_fdivW om_div (j_var 5) (j_var 1)))
    (jb_one (js_ret (j_op op_mod om_mod (je_callTy call_int1 cm_int T.b_int (by decide +kernel) (ja_cons (j_var 5) ja_nil)) (j_var 1)))))
    jb_nil)
    (jb_cons (js_set 6 nd (j_op op_mod om_mod (je_callTy call_int1 cm_int T.b_int (by decide +kernel) (ja_cons (j_op op_addA om_add (j_op op_addA om_add (j_op op_mulA om_mul (j_op op_mod om_mod (je_callTy call_int1 cm_int T.b_int (by decide +kernel) (ja_cons (j_var 5) ja_nil)) j_int) j_int) (j_op op_mulA om_mul (j_op op_mulA om_mul (j_var 3) (j_var 3)) j_int)) j_int) ja_nil)) j_int))
    (jb_cons (js_set 6 nd (j_op op_mod om_mod (je_callTy call_int1 cm_int T.b_int (by decide +kernel) (ja_cons (j_op op_mulA om_mul (j_var 6) (j_var 6)) ja_nil)) j_int))
    (jb_cons (js_set 6 nd (j_op op_mod om_mod (je_callTy call_int1 cm_int T.b_int (by decide +kernel) (ja_cons (j_op op_mulA om_mul (j_var 6) (j_var 6)) ja_nil)) j_int))
    (jb_one (js_ret (j_op op_mod om_mod (je_callTy call_int1 cm_int T.b_int (by decide +kernel) (ja_cons (j_var 6) ja_nil)) (j_var 1))))))))))))
abbrev s_l_pick : Stmt := topS 76
theorem sc_l_pick : FnScope ["_law_source_here", "_law_values"] ["_law_source_here", "_law_values"] (defScope s_l_pick) := ⟨rfl, rfl, rfl, by decide +kernel, rfl, by decide +kernel, by decide +kernel⟩
noncomputable def b_l_pick (ck : Fnm → MF) : MS := (mRet (mBin gItem (mVar 1) (mCall (ck .l_draw) (mCons (mVar 0) (mCons (mCall gLen (mCons (mVar 1) mNil)) mNil)))))
noncomputable def f_l_pick (ck : Fnm → MF) : MF := fun ds m => endOf (b_l_pick ck (startM 2 ds) m)
theorem ok_l_pick {M : Mode} {P : Program} {w : World} {K : PySem.W.Frag} {mg : Str → Option Value} {base : Heap} {k : Nat} {f : Addr} {fd : FuncData} {ck : Fnm → MF} (Fu : Fun K "_law_pick" "_law_pick" s_l_pick f fd) (T : Txt K w mg) (I_l_draw : FnX M P w K mg base k "_law_draw" 2 (ck .l_draw)) :
    FnOk P w K mg base (M.CX P w) (k + 1) f fd ["_law_source_here", "_law_values"] (spM K 2 (f_l_pick ck)) :=
  have nd := sc_l_pick.nd
  fnx_ok (M := M) (g := b_l_pick ck) Fu sc_l_pick rfl (fun _ _ _ => rfl) fun cdv A outer s H E hr W tk hp =>
    (jb_one (js_ret (je_item (hu1 hr) (j_var 1) (jx_call I_l_draw hr (Nat.le_refl _) tk (ja_cons (j_var 0) (ja_cons (je_callB cr_len cm_len T.b_len PySem.boot_len (ja_cons (j_var 1) ja_nil)) ja_nil)) (hlen := (mCons_len (mCons_len mNil_len)))))))
abbrev s_l_leaf : Stmt := topS 77
theorem sc_l_leaf : FnScope ["_law_source_here", "_law_room", "_law_way", "_law_names_here"] ["_law_source_here", "_law_room"] (defScope s_l_leaf) := ⟨rfl, rfl, rfl, by decide +kernel, rfl, by decide +kernel, by decide +kernel⟩
noncomputable def b_l_leaf (ck : Fnm → MF) : MS := (mSeq (mAsg (mCall (ck .l_draw) (mCons (mVar 0) (mCons (mC (.int 8)) mNil))) (nName 2))
    (mSeq (mIfS (mAndT (mB (mBin gLt (mVar 2) (mC (.int 2)))) (mB (mBin gGt (mBin gItem (mVar 1) (mC (.int 1))) (mC (.int 0)))))
    (mSeq (mStore (mVar 1) (mC (.int 1)) (mBin gSub (mBin gItem (mVar 1) (mC (.int 1))) (mC (.int 1))))
    (mRet (mTup (mCons (mC (.str "call")) (mCons (mCall (ck .l_pick) (mCons (mVar 0) (mCons (mLst (mCons (mC (.str "f")) (mCons (mC (.str "object")) (mCons (mC (.str "name")) (mCons (mC (.str "h")) mNil))))) mNil))) (mCons (mTup mNil) mNil))))))
    mSkip)
    (mSeq (mAsg (mBin gItem (mBin gAdd (mVar 1) (mLst (mCons (mLst (mCons (mC (.str "a")) (mCons (mC (.str "b")) (mCons (mC (.str "cd")) (mCons (mC (.str "z")) mNil))))) mNil))) (mC (.int 2))) (nName 3))
    (mSeq (mIfS (mAndT (mB (mBin gLt (mVar 2) (mC (.int 6)))) (mB (mBin (gEqA true) (mVar 3) (mLst mNil))))
    (mRet (mTup (mCons (mC (.str "name")) (mCons (mCall (ck .l_pick) (mCons (mVar 0) (mCons (mVar 3) mNil))) mNil))))
    mSkip)
    (mRet (mTup (mCons (mCall (ck .l_pick) (mCons (mVar 0) (mCons (mLst (mCons (mC (.str "none")) (mCons (mC (.str "true")) (mCons (mC (.str "false")) mNil)))) mNil))) mNil)))))))
noncomputable def f_l_leaf (ck : Fnm → MF) : MF := fun ds m => endOf (b_l_leaf ck (startM 4 ds) m)
theorem ok_l_leaf {M : Mode} {P : Program} {w : World} {K : PySem.W.Frag} {mg : Str → Option Value} {base : Heap} {k : Nat} {f : Addr} {fd : FuncData} {ck : Fnm → MF} (Fu : Fun K "_law_leaf" "_law_leaf" s_l_leaf f fd) (T : Txt K w mg) (I_l_draw : FnX M P w K mg base k "_law_draw" 2 (ck .l_draw)) (I_l_pick : FnX M P w K mg base k "_law_pick" 2 (ck .l_pick)) :
    FnOk P w K mg base (M.CX P w) (k + 1) f fd ["_law_source_here", "_law_room"] (spM K 2 (f_l_leaf ck)) :=
  have nd := sc_l_leaf.nd
  fnx_ok (M := M) (g := b_l_leaf ck) Fu sc_l_leaf rfl (fun _ _ _ => rfl) fun cdv A outer s H E hr W tk hp =>
    (jb_cons (js_set 2 nd (jx_call I_l_draw hr (Nat.le_refl _) tk (ja_cons (j_var 0) (ja_cons j_int ja_nil)) (hlen := (mCons_len (mCons_len mNil_len)))))
    (jb_cons (js_if (jw_and (jt_cmp op_lt om_lt (j_var 2) j_int) (jw_and1 (jt_cmp op_gt om_gt (je_item (hu1 hr) (j_var 1) j_int) j_int))).jt
    (jb_cons (js_store (hu1 hr) (j_var 1) j_int (j_var 1) j_int (j_op op_sub om_sub (je_item (hu1 hr) (j_var 1) j_int) j_int))
    (jb_one (js_ret (je_tup (ja_cons j_str (ja_cons (jx_call I_l_pick hr (Nat.le_refl _) tk (ja_cons (j_var 0) (ja_cons (je_lst (ja_cons j_str (ja_cons j_str (ja_cons j_str (ja_cons j_str ja_nil))))) ja_nil)) (hlen := (mCons_len (mCons_len mNil_len)))) (ja_cons (je_tup ja_nil) ja_nil)))))))
    jb_nil)
    (jb_cons (js_set 3 nd (je_item (hu1 hr) (j_op op_addA om_add (j_var 1) (je_lst (ja_cons (je_lst (ja_cons j_str (ja_cons j_str (ja_cons j_str (ja_cons j_str ja_nil))))) ja_nil))) j_int))
    (jb_cons (js_if (jw_and (jt_cmp op_lt om_lt (j_var 2) j_int) (jw_and1 (jt_cmp (op_neA (hu64 hr)) om_neA (j_var 3) (je_lst ja_nil)))).jt
    (jb_one (js_ret (je_tup (ja_cons j_str (ja_cons (jx_call I_l_pick hr (Nat.le_refl _) tk (ja_cons (j_var 0) (ja_cons (j_var 3) ja_nil)) (hlen := (mCons_len (mCons_len mNil_len)))) ja_nil)))))
    jb_nil)
    (jb_one (js_ret (je_tup (ja_cons (jx_call I_l_pick hr (Nat.le_refl _) tk (ja_cons (j_var 0) (ja_cons (je_lst (ja_cons j_str (ja_cons j_str (ja_cons j_str ja_nil)))) ja_nil)) (hlen := (mCons_len (mCons_len mNil_len)))) ja_nil))))))))
abbrev s_l_seen_part : Stmt := topS 78
theorem sc_l_seen_part : FnScope ["_law_source_here", "_law_room", "_law_deep", "_law_many", "_law_first", "_law_links", "_law_k", "_law_word", "_law_sign"] ["_law_source_here", "_law_room", "_law_deep"] (defScope s_l_seen_part) := ⟨rfl, rfl, rfl, by decide +kernel, rfl, by decide +kernel, by decide +kernel⟩
noncomputable def b_l_seen_part (ck : Fnm → MF) : MS := (mSeq (mIfS (mB (mBin (gEqA false) (mCall (ck .l_draw) (mCons (mVar 0) (mCons (mC (.int 2)) mNil))) (mC (.int 0))))
    (mSeq (mAsg (mCall gMin (mCons (mBin gAdd (mC (.int 1)) (mCall (ck .l_draw) (mCons (mVar 0) (mCons (mC (.int 3)) mNil)))) (mCons (mBin gItem (mVar 1) (mC (.int 0))) mNil))) (nName 3))
    (mSeq (mStore (mVar 1) (mC (.int 0)) (mBin gSub (mBin gItem (mVar 1) (mC (.int 0))) (mVar 3)))
    (mSeq (mStore (mVar 1) (mC (.int 1)) (mBin gSub (mBin gItem (mVar 1) (mC (.int 1))) (mC (.int 1))))
    (mSeq (mAsg (mCall (ck .l_pick) (mCons (mVar 0) (mCons (mLst (mCons (mC (.str "f")) (mCons (mC (.str "object")) (mCons (mC (.str "name")) (mCons (mC (.str "h")) mNil))))) mNil))) (nName 7))
    (mRet (mTup (mCons (mC (.str "call")) (mCons (mVar 7) (mCons (mCall gTuple (mCons (mLc (mRng (mCons (mVar 3) mNil)) (ngName 6) mYes (mCall (ck .l_expr) (mCons (mVar 0) (mCons (mVar 1) (mCons (mBin gSub (mVar 2) (mC (.int 1))) mNil)))) [6]) mNil)) mNil)))))))))
    mSkip)
    (mSeq (mAsg (mCall gMin (mCons (mBin gAdd (mC (.int 1)) (mCall (ck .l_draw) (mCons (mVar 0) (mCons (mC (.int 4)) mNil)))) (mCons (mBin gSub (mBin gItem (mVar 1) (mC (.int 0))) (mC (.int 1))) (mCons (mBin gItem (mVar 1) (mC (.int 1))) mNil)))) (nName 3))
    (mSeq (mStore (mVar 1) (mC (.int 0)) (mBin gSub (mBin gSub (mBin gItem (mVar 1) (mC (.int 0))) (mC (.int 1))) (mVar 3)))
    (mSeq (mStore (mVar 1) (mC (.int 1)) (mBin gSub (mBin gItem (mVar 1) (mC (.int 1))) (mVar 3)))
    (mSeq (mAsg (mCall (ck .l_expr) (mCons (mVar 0) (mCons (mVar 1) (mCons (mBin gSub (mVar 2) (mC (.int 1))) mNil)))) (nName 4))
    (mSeq (mAsg (mLst mNil) (nName 5))
    (mSeq (mFor (mRng (mCons (mVar 3) mNil)) (nName 6)
    (mSeq (mAsg (mCall (ck .l_pick) (mCons (mVar 0) (mCons (mLst (mCons (mC (.str "<")) (mCons (mC (.str "<=")) (mCons (mC (.str ">")) (mCons (mC (.str ">=")) (mCons (mC (.str "==")) (mCons (mC (.str "!=")) mNil))))))) mNil))) (nName 8))
    (mDrop (mBM gAppend (mVar 5) (mCons (mTup (mCons (mVar 8) (mCons (mCall (ck .l_expr) (mCons (mVar 0) (mCons (mVar 1) (mCons (mBin gSub (mVar 2) (mC (.int 1))) mNil)))) mNil))) mNil)))))
    (mRet (mTup (mCons (mC (.str "compare")) (mCons (mVar 4) (mCons (mCall gTuple (mCons (mVar 5) mNil)) mNil))))))))))))
noncomputable def f_l_seen_part (ck : Fnm → MF) : MF := fun ds m => endOf (b_l_seen_part ck (startM 9 ds) m)
theorem ok_l_seen_part {M : Mode} {P : Program} {w : World} {K : PySem.W.Frag} {mg : Str → Option Value} {base : Heap} {k : Nat} {f : Addr} {fd : FuncData} {ck : Fnm → MF} (Fu : Fun K "_law_seen_part" "_law_seen_part" s_l_seen_part f fd) (T : Txt K w mg) (I_l_draw : FnX M P w K mg base k "_law_draw" 2 (ck .l_draw)) (I_l_expr : FnX M P w K mg base k "_law_expr" 3 (ck .l_expr)) (I_l_pick : FnX M P w K mg base k "_law_pick" 2 (ck .l_pick)) :
    FnOk P w K mg base (M.CX P w) (k + 1) f fd ["_law_source_here", "_law_room", "_law_deep"] (spM K 3 (f_l_seen_part ck)) :=
  have nd := sc_l_seen_part.nd
  fnx_ok (M := M) (g := b_l_seen_part ck) Fu sc_l_seen_part rfl (fun _ _ _ => rfl) fun cdv A outer s H E hr W tk hp =>
    (jb_cons (js_if (jt_cmp (op_eqA (hu64 hr)) om_eqA (jx_call I_l_draw hr (Nat.le_refl _) tk (ja_cons (j_var 0) (ja_cons j_int ja_nil)) (hlen := (mCons_len (mCons_len mNil_len)))) j_int)
    (jb_cons (js_set 3 nd (je_callB (MI.cr_min rfl) cm_min T.b_min (by decide +kernel) (ja_cons (j_op op_addA om_add j_int (jx_call I_l_draw hr (Nat.le_refl _) tk (ja_cons (j_var 0) (ja_cons j_int ja_nil)) (hlen := (mCons_len (mCons_len mNil_len))))) (ja_cons (je_item (hu1 hr) (j_var 1) j_int) ja_nil))))
    (jb_cons (js_store (hu1 hr) (j_var 1) j_int (j_var 1) j_int (j_op op_sub om_sub (je_item (hu1 hr) (j_var 1) j_int) (j_var 3)))
    (jb_cons (js_store (hu1 hr) (j_var 1) j_int (j_var 1) j_int (j_op op_sub om_sub (je_item (hu1 hr) (j_var 1) j_int) j_int))
    (jb_cons (js_set 7 nd (jx_call I_l_pick hr (Nat.le_refl _) tk (ja_cons (j_var 0) (ja_cons (je_lst (ja_cons j_str (ja_cons j_str (ja_cons j_str (ja_cons j_str ja_nil))))) ja_nil)) (hlen := (mCons_len (mCons_len mNil_len)))))
    (jb_one (js_ret (je_tup (ja_cons j_str (ja_cons (j_var 7) (ja_cons (je_callTy call_tuple_of cm_tuple T.b_tuple (by decide +kernel) (ja_cons (je_lc [("_law_k", 6)] rfl rfl nd (ji_rng1 T.b_range (ja_cons (j_var 3) ja_nil)) (blkOk_by (N := ["_law_source_here", "_law_room", "_law_deep", "_law_many", "_law_first", "_law_links", "_law_k", "_law_word", "_law_sign"]) (sc := defScope s_l_seen_part) (by decide +kernel)) (fun _ _ _ _ _ => (jn_name 6 nd)) (fun _ _ _ _ _ => jts_nil) (fun _ _ _ _ _ => (jx_call I_l_expr hr (Nat.le_refl _) M.tk0 (ja_cons (j_var 0) (ja_cons (j_var 1) (ja_cons (j_op op_sub om_sub (j_var 2) j_int) ja_nil))) (hlen := (mCons_len (mCons_len (mCons_len mNil_len)))))) (hgs_name)) ja_nil)) ja_nil))))))))))
    jb_nil)
    (jb_cons (js_set 3 nd (je_callB (MI.cr_min rfl) cm_min T.b_min (by decide +kernel) (ja_cons (j_op op_addA om_add j_int (jx_call I_l_draw hr (Nat.le_refl _) tk (ja_cons (j_var 0) (ja_cons j_int ja_nil)) (hlen := (mCons_len (mCons_len mNil_len))))) (ja_cons (j_op op_sub om_sub (je_item (hu1 hr) (j_var 1) j_int) j_int) (ja_cons (je_item (hu1 hr) (j_var 1) j_int) ja_nil)))))
    (jb_cons (js_store (hu1 hr) (j_var 1) j_int (j_var 1) j_int (j_op op_sub om_sub (j_op op_sub om_sub (je_item (hu1 hr) (j_var 1) j_int) j_int) (j_var 3)))
    (jb_cons (js_store (hu1 hr) (j_var 1) j_int (j_var 1) j_int (j_op op_sub om_sub (je_item (hu1 hr) (j_var 1) j_int) (j_var 3)))
    (jb_cons (js_set 4 nd (jx_call I_l_expr hr (Nat.le_refl _) tk (ja_cons (j_var 0) (ja_cons (j_var 1) (ja_cons (j_op op_sub om_sub (j_var 2) j_int) ja_nil))) (hlen := (mCons_len (mCons_len (mCons_len mNil_len))))))
    (jb_cons (js_set 5 nd (je_lst ja_nil))
    (jb_cons (js_for hp rfl (ji_rng1 T.b_range (ja_cons (j_var 3) ja_nil)) (jg_name 6 nd)
    (jb_cons (js_set 8 nd (jx_call I_l_pick hr (Nat.le_refl _) tk (ja_cons (j_var 0) (ja_cons (je_lst (ja_cons j_str (ja_cons j_str (ja_cons j_str (ja_cons j_str (ja_cons j_str (ja_cons j_str ja_nil))))))) ja_nil)) (hlen := (mCons_len (mCons_len mNil_len)))))
    (jb_one (js_expr (je_bmL PySem.F.slot_list_append PySem.F.type_list_append mt_append mm_append (j_var 5) (ja_cons (je_tup (ja_cons (j_var 8) (ja_cons (jx_call I_l_expr hr (Nat.le_refl _) tk (ja_cons (j_var 0) (ja_cons (j_var 1) (ja_cons (j_op op_sub om_sub (j_var 2) j_int) ja_nil))) (hlen := (mCons_len (mCons_len (mCons_len mNil_len))))) ja_nil))) ja_nil))))))
    (jb_one (js_ret (je_tup (ja_cons j_str (ja_cons (j_var 4) (ja_cons (je_callTy call_tuple_of cm_tuple T.b_tuple (by decide +kernel) (ja_cons (j_var 5) ja_nil)) ja_nil)))))))))))))
abbrev s_l_expr : Stmt := topS 79
theorem sc_l_expr : FnScope ["_law_source_here", "_law_room", "_law_deep", "_law_way", "_law_head", "_law_many", "_law_k"] ["_law_source_here", "_law_room", "_law_deep"] (defScope s_l_expr) := ⟨rfl, rfl, rfl, by decide +kernel, rfl, by decide +kernel, by decide +kernel⟩
noncomputable def b_l_expr (ck : Fnm → MF) : MS := (mSeq (mAsg (mCall (ck .l_draw) (mCons (mVar 0) (mCons (mC (.int 12)) mNil))) (nName 3))
    (mSeq (mIfS (mOrT (mB (mBin (gEqA false) (mVar 2) (mC (.int 1)))) (mOrT (mB (mBin (gEqA false) (mVar 3) (mC (.int 0)))) (mB (mBin gLt (mBin gItem (mVar 1) (mC (.int 0))) (mC (.int 3))))))
    (mRet (mCall (ck .l_leaf) (mCons (mVar 0) (mCons (mVar 1) mNil))))
    mSkip)
    (mSeq (mIfS (mAndT (mB (mBin gLt (mVar 3) (mC (.int 4)))) (mB (mBin gGt (mBin gItem (mVar 1) (mC (.int 1))) (mC (.int 0)))))
    (mRet (mCall (ck .l_seen_part) (mCons (mVar 0) (mCons (mVar 1) (mCons (mVar 2) mNil)))))
    mSkip)
    (mSeq (mIfS (mB (mBin gLt (mVar 3) (mC (.int 6))))
    (mSeq (mStore (mVar 1) (mC (.int 0)) (mBin gSub (mBin gItem (mVar 1) (mC (.int 0))) (mC (.int 1))))
    (mRet (mTup (mCons (mCall (ck .l_pick) (mCons (mVar 0) (mCons (mLst (mCons (mC (.str "not")) (mCons (mC (.str "isnone")) mNil))) mNil))) (mCons (mCall (ck .l_expr) (mCons (mVar 0) (mCons (mVar 1) (mCons (mBin gSub (mVar 2) (mC (.int 1))) mNil)))) mNil)))))
    mSkip)
    (mSeq (mAsg (mBin gItem (mLst (mCons (mC (.str "and")) (mCons (mC (.str "or")) (mCons (mC (.str "and")) (mCons (mC (.str "or")) (mCons (mC (.str "default")) (mCons (mC (.str "if")) mNil))))))) (mBin gSub (mVar 3) (mC (.int 6)))) (nName 4))
    (mSeq (mAsg (mBin gAdd (mC (.int 2)) (mCall gInt (mCons (mBin (gEqA false) (mVar 4) (mC (.str "if"))) mNil))) (nName 5))
    (mSeq (mStore (mVar 1) (mC (.int 0)) (mBin gSub (mBin gItem (mVar 1) (mC (.int 0))) (mVar 5)))
    (mRet (mCall gTuple (mCons (mBin gAdd (mLst (mCons (mVar 4) mNil)) (mLc (mRng (mCons (mVar 5) mNil)) (ngName 6) mYes (mCall (ck .l_expr) (mCons (mVar 0) (mCons (mVar 1) (mCons (mBin gSub (mVar 2) (mC (.int 1))) mNil)))) [6])) mNil))))))))))
noncomputable def f_l_expr (ck : Fnm → MF) : MF := fun ds m => endOf (b_l_expr ck (startM 7 ds) m)
theorem ok_l_expr {M : Mode} {P : Program} {w : World} {K : PySem.W.Frag} {mg : Str → Option Value} {base : Heap} {k : Nat} {f : Addr} {fd : FuncData} {ck : Fnm → MF} (Fu : Fun K "_law_expr" "_law_expr" s_l_expr f fd) (T : Txt K w mg) (I_l_draw : FnX M P w K mg base k "_law_draw" 2 (ck .l_draw)) (I_l_expr : FnX M P w K mg base k "_law_expr" 3 (ck .l_expr)) (I_l_leaf : FnX M P w K mg base k "_law_leaf" 2 (ck .l_leaf)) (I_l_pick : FnX M P w K mg base k "_law_pick" 2 (ck .l_pick)) (I_l_seen_part : FnX M P w K mg base k "_law_seen_part" 3 (ck .l_seen_part)) :
    FnOk P w K mg base (M.CX P w) (k + 1) f fd ["_law_source_here", "_law_room", "_law_deep"] (spM K 3 (f_l_expr ck)) :=
  have nd := sc_l_expr.nd
  fnx_ok (M := M) (g := b_l_expr ck) Fu sc_l_expr rfl (fun _ _ _ => rfl) fun cdv A outer s H E hr W tk hp =>
    (jb_cons (js_set 3 nd (jx_call I_l_draw hr (Nat.le_refl _) tk (ja_cons (j_var 0) (ja_cons j_int ja_nil)) (hlen := (mCons_len (mCons_len mNil_len)))))
    (jb_cons (js_if (jw_or (jt_cmp (op_eqA (hu64 hr)) om_eqA (j_var 2) j_int) (jw_or (jt_cmp (op_eqA (hu64 hr)) om_eqA (j_var 3) j_int) (jw_or1 (jt_cmp op_lt om_lt (je_item (hu1 hr) (j_var 1) j_int) j_int)))).jt
    (jb_one (js_ret (jx_call I_l_leaf hr (Nat.le_refl _) tk (ja_cons (j_var 0) (ja_cons (j_var 1) ja_nil)) (hlen := (mCons_len (mCons_len mNil_len))))))
    jb_nil)
    (jb_cons (js_if (jw_and (jt_cmp op_lt om_lt (j_var 3) j_int) (jw_and1 (jt_cmp op_gt om_gt (je_item (hu1 hr) (j_var 1) j_int) j_int))).jt
    (jb_one (js_ret (jx_call I_l_seen_part hr (Nat.le_refl _) tk (ja_cons (j_var 0) (ja_cons (j_var 1) (ja_cons (j_var 2) ja_nil))) (hlen := (mCons_len (mCons_len (mCons_len mNil_len)))))))
    jb_nil)
    (jb_cons (js_if (jt_cmp op_lt om_lt (j_var 3) j_int)
    (jb_cons (js_store (hu1 hr) (j_var 1) j_int (j_var 1) j_int (j_op op_sub om_sub (je_item (hu1 hr) (j_var 1) j_int) j_int))
    (jb_one (js_ret (je_tup (ja_cons (jx_call I_l_pick hr (Nat.le_refl _) tk (ja_cons (j_var 0) (ja_cons (je_lst (ja_cons j_str (ja_cons j_str ja_nil))) ja_nil)) (hlen := (mCons_len (mCons_len mNil_len)))) (ja_cons (jx_call I_l_expr hr (Nat.le_refl _) tk (ja_cons (j_var 0) (ja_cons (j_var 1) (ja_cons (j_op op_sub om_sub (j_var 2) j_int) ja_nil))) (hlen := (mCons_len (mCons_len (mCons_len mNil_len))))) ja_nil))))))
    jb_nil)
    (jb_cons (js_set 4 nd (je_item (hu1 hr) (je_lst (ja_cons j_str (ja_cons j_str (ja_cons j_str (ja_cons j_str (ja_cons j_str (ja_cons j_str ja_nil))))))) (j_op op_sub om_sub (j_var 3) j_int)))
    (jb_cons (js_set 5 nd (j_op op_addA om_add j_int (je_callTy call_int1 cm_int T.b_int (by decide +kernel) (ja_cons (j_cmp (op_eqA (hu64 hr)) om_eqA (j_var 4) j_str) ja_nil))))
    (jb_cons (js_store (hu1 hr) (j_var 1) j_int (j_var 1) j_int (j_op op_sub om_sub (je_item (hu1 hr) (j_var 1) j_int) (j_var 5)))
    (jb_one (js_ret (je_callTy call_tuple_of cm_tuple T.b_tuple (by decide +kernel) (ja_cons (j_op op_addA om_add (je_lst (ja_cons (j_var 4) ja_nil)) (je_lc [("_law_k", 6)] rfl rfl nd (ji_rng1 T.b_range (ja_cons (j_var 5) ja_nil)) (blkOk_by (N := ["_law_source_here", "_law_room", "_law_deep", "_law_way", "_law_head", "_law_many", "_law_k"]) (sc := defScope s_l_expr) (by decide +kernel)) (fun _ _ _ _ _ => (jn_name 6 nd)) (fun _ _ _ _ _ => jts_nil) (fun _ _ _ _ _ => (jx_call I_l_expr hr (Nat.le_refl _) M.tk0 (ja_cons (j_var 0) (ja_cons (j_var 1) (ja_cons (j_op op_sub om_sub (j_var 2) j_int) ja_nil))) (hlen := (mCons_len (mCons_len (mCons_len mNil_len)))))) (hgs_name))) ja_nil)))))))))))
abbrev s_l_any_expr : Stmt := topS 80
theorem sc_l_any_expr : FnScope ["_law_source_here", "_law_parts_here", "_law_deep"] ["_law_source_here"] (defScope s_l_any_expr) := ⟨rfl, rfl, rfl, by decide +kernel, rfl, by decide +kernel, by decide +kernel⟩
noncomputable def b_l_any_expr (ck : Fnm → MF) : MS := (mSeq (mAsg (mCall (ck .l_pick) (mCons (mVar 0) (mCons (mLst (mCons (mTup (mCons (mC (.int 3)) (mCons (mC (.int 3)) mNil))) (mCons (mTup (mCons (mC (.int 7)) (mCons (mC (.int 4)) mNil))) (mCons (mTup (mCons (mC (.int 12)) (mCons (mC (.int 5)) mNil))) (mCons (mTup (mCons (mC (.int 24)) (mCons (mC (.int 8)) mNil))) (mCons (mTup (mCons (mC (.int 39)) (mCons (mC (.int 12)) mNil))) mNil)))))) mNil))) (nTup 2 (nCons (nName 1) (nCons (nName 2) nNil))))
    (mRet (mCall (ck .l_expr) (mCons (mVar 0) (mCons (mLst (mCons (mVar 1) (mCons (mCall (ck .l_draw) (mCons (mVar 0) (mCons (mC (.int 7)) mNil))) mNil))) (mCons (mVar 2) mNil))))))
noncomputable def f_l_any_expr (ck : Fnm → MF) : MF := fun ds m => endOf (b_l_any_expr ck (startM 3 ds) m)
theorem ok_l_any_expr {M : Mode} {P : Program} {w : World} {K : PySem.W.Frag} {mg : Str → Option Value} {base : Heap} {k : Nat} {f : Addr} {fd : FuncData} {ck : Fnm → MF} (Fu : Fun K "_law_any_expr" "_law_any_expr" s_l_any_expr f fd) (T : Txt K w mg) (I_l_draw : FnX M P w K mg base k "_law_draw" 2 (ck .l_draw)) (I_l_expr : FnX M P w K mg base k "_law_expr" 3 (ck .l_expr)) (I_l_pick : FnX M P w K mg base k "_law_pick" 2 (ck .l_pick)) :
    FnOk P w K mg base (M.CX P w) (k + 1) f fd ["_law_source_here"] (spM K 1 (f_l_any_expr ck)) :=
  have nd := sc_l_any_expr.nd
  fnx_ok (M := M) (g := b_l_any_expr ck) Fu sc_l_any_expr rfl (fun _ _ _ => rfl) fun cdv A outer s H E hr W tk hp =>
    (jb_cons (js_asg (jx_call I_l_pick hr (Nat.le_refl _) tk (ja_cons (j_var 0) (ja_cons (je_lst (ja_cons (je_tup (ja_cons j_int (ja_cons j_int ja_nil))) (ja_cons (je_tup (ja_cons j_int (ja_cons j_int ja_nil))) (ja_cons (je_tup (ja_cons j_int (ja_cons j_int ja_nil))) (ja_cons (je_tup (ja_cons j_int (ja_cons j_int ja_nil))) (ja_cons (je_tup (ja_cons j_int (ja_cons j_int ja_nil))) ja_nil)))))) ja_nil)) (hlen := (mCons_len (mCons_len mNil_len)))) (jg_tup rfl (jgs_cons (jg_name 1 nd) (jgs_cons (jg_name 2 nd) jgs_nil))))
    (jb_one (js_ret (jx_call I_l_expr hr (Nat.le_refl _) tk (ja_cons (j_var 0) (ja_cons (je_lst (ja_cons (j_var 1) (ja_cons (jx_call I_l_draw hr (Nat.le_refl _) tk (ja_cons (j_var 0) (ja_cons j_int ja_nil)) (hlen := (mCons_len (mCons_len mNil_len)))) ja_nil))) (ja_cons (j_var 2) ja_nil))) (hlen := (mCons_len (mCons_len (mCons_len mNil_len))))))))
abbrev s_l_operands : Stmt := topS 81
theorem sc_l_operands : FnScope ["_law_expr_here", "_law_link"] ["_law_expr_here"] (defScope s_l_operands) := ⟨rfl, rfl, rfl, by decide +kernel, rfl, by decide +kernel, by decide +kernel⟩
noncomputable def b_l_operands (ck : Fnm → MF) : MS := (mSeq (mIfS (mB (mBin (gEqA false) (mBin gItem (mVar 0) (mC (.int 0))) (mC (.str "name"))))
    (mRet (mLst mNil))
    mSkip)
    (mSeq (mIfS (mB (mBin (gEqA false) (mBin gItem (mVar 0) (mC (.int 0))) (mC (.str "call"))))
    (mRet (mCall gListA (mCons (mBin gItem (mVar 0) (mC (.int 2))) mNil)))
    mSkip)
    (mSeq (mIfS (mB (mBin (gEqA false) (mBin gItem (mVar 0) (mC (.int 0))) (mC (.str "compare"))))
    (mRet (mBin gAdd (mLst (mCons (mBin gItem (mVar 0) (mC (.int 1))) mNil)) (mLc (mAnyI (mBin gItem (mVar 0) (mC (.int 2)))) (ngName 1) mYes (mBin gItem (mVar 1) (mC (.int 1))) [1])))
    mSkip)
    (mRet (mCall gListA (mCons (mSl (mVar 0) (mEnd (mC (.int 1))) mNo) mNil))))))
noncomputable def f_l_operands (ck : Fnm → MF) : MF := fun ds m => endOf (b_l_operands ck (startM 2 ds) m)
theorem ok_l_operands {M : Mode} {P : Program} {w : World} {K : PySem.W.Frag} {mg : Str → Option Value} {base : Heap} {k : Nat} {f : Addr} {fd : FuncData} {ck : Fnm → MF} (Fu : Fun K "_law_operands" "_law_operands" s_l_operands f fd) (T : Txt K w mg) :
    FnOk P w K mg base (M.CX P w) (k + 1) f fd ["_law_expr_here"] (spM K 1 (f_l_operands ck)) :=
  have nd := sc_l_operands.nd
  fnx_ok (M := M) (g := b_l_operands ck) Fu sc_l_operands rfl (fun _ _ _ => rfl) fun cdv A outer s H E hr W tk hp =>
    (jb_cons (js_if (jt_cmp (op_eqA (hu64 hr)) om_eqA (je_item (hu1 hr) (j_var 0) j_int) j_str)
    (jb_one (js_ret (je_lst ja_nil)))
    jb_nil)
    (jb_cons (js_if (jt_cmp (op_eqA (hu64 hr)) om_eqA (je_item (hu1 hr) (j_var 0) j_int) j_str)
    (jb_one (js_ret (je_callTy (cr_listA rfl) cm_listA T.b_list (by decide +kernel) (ja_cons (je_item (hu1 hr) (j_var 0) j_int) ja_nil))))
    jb_nil)
    (jb_cons (js_if (jt_cmp (op_eqA (hu64 hr)) om_eqA (je_item (hu1 hr) (j_var 0) j_int) j_str)
    (jb_one (js_ret (j_op op_addA om_add (je_lst (ja_cons (je_item (hu1 hr) (j_var 0) j_int) ja_nil)) (je_lc [("_law_link", 1)] rfl rfl nd (ji_any (je_item (hu1 hr) (j_var 0) j_int)) (blkOk_by (N := ["_law_expr_here", "_law_link"]) (sc := defScope s_l_operands) (by decide +kernel)) (fun _ _ _ _ _ => (jn_name 1 nd)) (fun _ _ _ _ _ => jts_nil) (fun _ _ _ _ _ => (je_item (hu1 hr) (j_var 1) j_int)) (hgs_name)))))
    jb_nil)
    (jb_one (js_ret (je_callTy (cr_listA rfl) cm_listA T.b_list (by decide +kernel) (ja_cons (je_sl (j_var 0) (jo_end j_int) jo_no) ja_nil)))))))
abbrev s_l_parts : Stmt := topS 82
theorem sc_l_parts : FnScope ["_law_expr_here", "_law_found", "_law_part"] ["_law_expr_here"] (defScope s_l_parts) := ⟨rfl, rfl, rfl, by decide +kernel, rfl, by decide +kernel, by decide +kernel⟩
noncomputable def b_l_parts (ck : Fnm → MF) : MS := (mSeq (mAsg (mLst (mCons (mVar 0) mNil)) (nName 1))
    (mSeq (mFor (mAnyI (mCall (ck .l_operands) (mCons (mVar 0) mNil))) (nName 2)
    (mAsg (mBin gAdd (mVar 1) (mCall (ck .l_parts) (mCons (mVar 2) mNil))) (nName 1)))
    (mRet (mVar 1))))
noncomputable def f_l_parts (ck : Fnm → MF) : MF := fun ds m => endOf (b_l_parts ck (startM 3 ds) m)
theorem ok_l_parts {M : Mode} {P : Program} {w : World} {K : PySem.W.Frag} {mg : Str → Option Value} {base : Heap} {k : Nat} {f : Addr} {fd : FuncData} {ck : Fnm → MF} (Fu : Fun K "_law_parts" "_law_parts" s_l_parts f fd) (T : Txt K w mg) (I_l_operands : FnX M P w K mg base k "_law_operands" 1 (ck .l_operands)) (I_l_parts : FnX M P w K mg base k "_law_parts" 1 (ck .l_parts)) :
    FnOk P w K mg base (M.CX P w) (k + 1) f fd ["_law_expr_here"] (spM K 1 (f_l_parts ck)) :=
  have nd := sc_l_parts.nd
  fnx_ok (M := M) (g := b_l_parts ck) Fu sc_l_parts rfl (fun _ _ _ => rfl) fun cdv A outer s H E hr W tk hp =>
    (jb_cons (js_set 1 nd (je_lst (ja_cons (j_var 0) ja_nil)))
    (jb_cons (js_for hp rfl (ji_any (jx_call I_l_operands hr (Nat.le_refl _) tk (ja_cons (j_var 0) ja_nil) (hlen := (mCons_len mNil_len)))) (jg_name 2 nd)
    (jb_one (js_set 1 nd (j_op op_addA om_add (j_var 1) (jx_call I_l_parts hr (Nat.le_refl _) tk (ja_cons (j_var 2) ja_nil) (hlen := (mCons_len mNil_len)))))))
    (jb_one (js_ret (j_var 1)))))
abbrev s_l_names : Stmt := topS 83
theorem sc_l_names : FnScope ["_law_expr_here", "_law_found", "_law_part"] ["_law_expr_here"] (defScope s_l_names) := ⟨rfl, rfl, rfl, by decide +kernel, rfl, by decide +kernel, by decide +kernel⟩
noncomputable def b_l_names (ck : Fnm → MF) : MS := (mSeq (mAsg (mLst mNil) (nName 1))
    (mSeq (mFor (mAnyI (mCall (ck .l_parts) (mCons (mVar 0) mNil))) (nName 2)
    (mIfS (mAndT (mB (mBin (gEqA false) (mBin gItem (mVar 2) (mC (.int 0))) (mC (.str "name")))) (mB (mBin (gInB true) (mBin gItem (mVar 2) (mC (.int 1))) (mVar 1))))
    (mDrop (mBM gAppend (mVar 1) (mCons (mBin gItem (mVar 2) (mC (.int 1))) mNil)))
    mSkip))
    (mRet (mCall gSortS (mCons (mVar 1) mNil)))))
noncomputable def f_l_names (ck : Fnm → MF) : MF := fun ds m => endOf (b_l_names ck (startM 3 ds) m)
theorem ok_l_names {M : Mode} {P : Program} {w : World} {K : PySem.W.Frag} {mg : Str → Option Value} {base : Heap} {k : Nat} {f : Addr} {fd : FuncData} {ck : Fnm → MF} (Fu : Fun K "_law_names" "_law_names" s_l_names f fd) (T : Txt K w mg) (I_l_parts : FnX M P w K mg base k "_law_parts" 1 (ck .l_parts)) :
    FnOk P w K mg base (M.CX P w) (k + 1) f fd ["_law_expr_here"] (spM K 1 (f_l_names ck)) :=
  have nd := sc_l_names.nd
  fnx_ok (M := M) (g := b_l_names ck) Fu sc_l_names rfl (fun _ _ _ => rfl) fun cdv A outer s H E hr W tk hp =>
    (jb_cons (js_set 1 nd (je_lst ja_nil))
    (jb_cons (js_for hp rfl (ji_any (jx_call I_l_parts hr (Nat.le_refl _) tk (ja_cons (j_var 0) ja_nil) (hlen := (mCons_len mNil_len)))) (jg_name 2 nd)
    (jb_one (js_if (jw_and (jt_cmp (op_eqA (hu64 hr)) om_eqA (je_item (hu1 hr) (j_var 2) j_int) j_str) (jw_and1 (jt_ninB (hu1 hr) (hu65 hr) (je_item (hu1 hr) (j_var 2) j_int) (j_var 1)))).jt
    (jb_one (js_expr (je_bmL PySem.F.slot_list_append PySem.F.type_list_append mt_append mm_append (j_var 1) (ja_cons (je_item (hu1 hr) (j_var 2) j_int) ja_nil))))
    jb_nil)))
    (jb_one (js_ret (je_callB cr_sortedS cm_sortS T.b_sorted (by decide +kernel) (ja_cons (j_var 1) ja_nil))))))
abbrev s_l_is_name : Stmt := topS 84
theorem sc_l_is_name : FnScope ["_law_value", "_law_words", "_law_letter"] ["_law_value"] (defScope s_l_is_name) := ⟨rfl, rfl, rfl, by decide +kernel, rfl, by decide +kernel, by decide +kernel⟩
noncomputable def b_l_is_name (ck : Fnm → MF) : MS := (mSeq (mAsg (mLst (mCons (mC (.str "and")) (mCons (mC (.str "or")) (mCons (mC (.str "not")) (mCons (mC (.str "if")) (mCons (mC (.str "else")) (mCons (mC (.str "is")) (mCons (mC (.str "none")) (mCons (mC (.str "true")) (mCons (mC (.str "false")) (mCons (mC (.str "set")) (mCons (mC (.str "give")) (mCons (mC (.str "try")) (mCons (mC (.str "except")) (mCons (mC (.str "end")) mNil))))))))))))))) (nName 1))
    (mSeq (mIfS (mOrT (mNotT (mTru (mIsi "str" (mVar 0)))) (mOrT (mB (mBin gLt (mCall gLen (mCons (mVar 0) mNil)) (mC (.int 1)))) (mB (mBin gGt (mCall gLen (mCons (mVar 0) mNil)) (mC (.int 8))))))
    (mRet (mC (.bl false)))
    mSkip)
    (mSeq (mIfS (mB (mBin (gInB false) (mVar 0) (mBin gAdd (mVar 1) (mLst (mCons (mC (.str "then")) (mCons (mC (.str "program")) (mCons (mC (.str "keep")) (mCons (mC (.str "self")) mNil))))))))
    (mRet (mC (.bl false)))
    mSkip)
    (mRet (mBin gEqE (mLc (mAnyI (mVar 0)) (ngName 2) (mB (mBin (gInB true) (mVar 2) (mC (.str "abcdefghijklmnopqrstuvwxyz")))) (mVar 2) [2]) (mLst mNil))))))
noncomputable def f_l_is_name (ck : Fnm → MF) : MF := fun ds m => endOf (b_l_is_name ck (startM 3 ds) m)
theorem ok_l_is_name {M : Mode} {P : Program} {w : World} {K : PySem.W.Frag} {mg : Str → Option Value} {base : Heap} {k : Nat} {f : Addr} {fd : FuncData} {ck : Fnm → MF} (Fu : Fun K "_law_is_name" "_law_is_name" s_l_is_name f fd) (T : Txt K w mg) :
    FnOk P w K mg base (M.CX P w) (k + 1) f fd ["_law_value"] (spM K 1 (f_l_is_name ck)) :=
  have nd := sc_l_is_name.nd
  fnx_ok (M := M) (g := b_l_is_name ck) Fu sc_l_is_name rfl (fun _ _ _ => rfl) fun cdv A outer s H E hr W tk hp =>
    (jb_cons (js_set 1 nd (je_lst (ja_cons j_str (ja_cons j_str (ja_cons j_str (ja_cons j_str (ja_cons j_str (ja_cons j_str (ja_cons j_str (ja_cons j_str (ja_cons j_str (ja_cons j_str (ja_cons j_str (ja_cons j_str (ja_cons j_str (ja_cons j_str ja_nil))))))))))))))))
    (jb_cons (js_if (jw_or (jt_not (jt_tru (je_isi "str" (j_var 0) T.b_isinstance T.b_str (by decide +kernel)))) (jw_or (jt_cmp op_lt om_lt (je_callB cr_len cm_len T.b_len PySem.boot_len (ja_cons (j_var 0) ja_nil)) j_int) (jw_or1 (jt_cmp op_gt om_gt (je_callB cr_len cm_len T.b_len PySem.boot_len (ja_cons (j_var 0) ja_nil)) j_int)))).jt
    (jb_one (js_ret j_bl))
    jb_nil)
    (jb_cons (js_if (jt_inB (hu1 hr) (hu65 hr) (j_var 0) (j_op op_addA om_add (j_var 1) (je_lst (ja_cons j_str (ja_cons j_str (ja_cons j_str (ja_cons j_str ja_nil)))))))
    (jb_one (js_ret j_bl))
    jb_nil)
    (jb_one (js_ret (j_cmp (op_eqE (hu0 hr)) om_eqE (je_lc [("_law_letter", 2)] rfl rfl nd (ji_any (j_var 0)) (blkOk_by (N := ["_law_value", "_law_words", "_law_letter"]) (sc := defScope s_l_is_name) (by decide +kernel)) (fun _ _ _ _ _ => (jn_name 2 nd)) (fun _ _ _ _ _ => (jts_one (jt_ninB (hu1 hr) (hu65 hr) (j_var 2) j_str))) (fun _ _ _ _ _ => (j_var 2)) (hgs_name)) (je_lst ja_nil)))))))
abbrev s_l_is_link : Stmt := topS 85
theorem sc_l_is_link : FnScope ["_law_value", "_law_levels"] ["_law_value", "_law_levels"] (defScope s_l_is_link) := ⟨rfl, rfl, rfl, by decide +kernel, rfl, by decide +kernel, by decide +kernel⟩
noncomputable def b_l_is_link (ck : Fnm → MF) : MS := (mSeq (mIfS (mOrT (mNotT (mTru (mIsi "tuple" (mVar 0)))) (mOrT (mB (mBin (gEqA true) (mCall gLen (mCons (mVar 0) mNil)) (mC (.int 2)))) (mNotT (mTru (mIsi "str" (mBin gItem (mVar 0) (mC (.int 0))))))))
    (mRet (mC (.bl false)))
    mSkip)
    (mRet (mAnd (mBin (gInB false) (mBin gItem (mVar 0) (mC (.int 0))) (mLst (mCons (mC (.str "<")) (mCons (mC (.str "<=")) (mCons (mC (.str ">")) (mCons (mC (.str ">=")) (mCons (mC (.str "==")) (mCons (mC (.str "!=")) mNil)))))))) (mCall (ck .l_has_form) (mCons (mBin gItem (mVar 0) (mC (.int 1))) (mCons (mVar 1) mNil))))))
noncomputable def f_l_is_link (ck : Fnm → MF) : MF := fun ds m => endOf (b_l_is_link ck (startM 2 ds) m)
theorem ok_l_is_link {M : Mode} {P : Program} {w : World} {K : PySem.W.Frag} {mg : Str → Option Value} {base : Heap} {k : Nat} {f : Addr} {fd : FuncData} {ck : Fnm → MF} (Fu : Fun K "_law_is_link" "_law_is_link" s_l_is_link f fd) (T : Txt K w mg) (I_l_has_form : FnX M P w K mg base k "_law_has_form" 2 (ck .l_has_form)) :
    FnOk P w K mg base (M.CX P w) (k + 1) f fd ["_law_value", "_law_levels"] (spM K 2 (f_l_is_link ck)) :=
  have nd := sc_l_is_link.nd
  fnx_ok (M := M) (g := b_l_is_link ck) Fu sc_l_is_link rfl (fun _ _ _ => rfl) fun cdv A outer s H E hr W tk hp =>
    (jb_cons (js_if (jw_or (jt_not (jt_tru (je_isi "tuple" (j_var 0) T.b_isinstance T.b_tuple (by decide +kernel)))) (jw_or (jt_cmp (op_neA (hu64 hr)) om_neA (je_callB cr_len cm_len T.b_len PySem.boot_len (ja_cons (j_var 0) ja_nil)) j_int) (jw_or1 (jt_not (jt_tru (je_isi "str" (je_item (hu1 hr) (j_var 0) j_int) T.b_isinstance T.b_str (by decide +kernel))))))).jt
    (jb_one (js_ret j_bl))
    jb_nil)
    (jb_one (js_ret (je_and (je_inB (hu1 hr) (hu65 hr) (je_item (hu1 hr) (j_var 0) j_int) (je_lst (ja_cons j_str (ja_cons j_str (ja_cons j_str (ja_cons j_str (ja_cons j_str (ja_cons j_str ja_nil)))))))) (je_one (jx_call I_l_has_form hr (Nat.le_refl _) tk (ja_cons (je_item (hu1 hr) (j_var 0) j_int) (ja_cons (j_var 1) ja_nil)) (hlen := (mCons_len (mCons_len mNil_len)))))))))
abbrev s_l_has_form : Stmt := topS 86
theorem sc_l_has_form : FnScope ["_law_value", "_law_levels", "_law_head", "_law_many", "_law_wrong", "_law_link", "_law_part"] ["_law_value", "_law_levels"] (defScope s_l_has_form) := ⟨rfl, rfl, rfl, by decide +kernel, rfl, by decide +kernel, by decide +kernel⟩
noncomputable def b_l_has_form (ck : Fnm → MF) : MS := (mSeq (mIfS (mOrT (mB (mBin (gEqA false) (mVar 1) (mC (.int 0)))) (mOrT (mNotT (mTru (mIsi "tuple" (mVar 0)))) (mOrT (mB (mBin gEqT (mVar 0) (mTup mNil))) (mNotT (mTru (mIsi "str" (mBin gItem (mVar 0) (mC (.int 0)))))))))
    (mRet (mC (.bl false)))
    mSkip)
    (mSeq (mAsg (mBin gItem (mVar 0) (mC (.int 0))) (nName 2))
    (mSeq (mIfS (mB (mBin (gEqA false) (mVar 2) (mC (.str "name"))))
    (mRet (mAnd (mBin (gEqA false) (mCall gLen (mCons (mVar 0) mNil)) (mC (.int 2))) (mCall (ck .l_is_name) (mCons (mBin gItem (mVar 0) (mC (.int 1))) mNil))))
    mSkip)
    (mSeq (mIfS (mOrT (mB (mBin (gEqA false) (mVar 2) (mC (.str "call")))) (mB (mBin (gEqA false) (mVar 2) (mC (.str "compare")))))
    (mSeq (mIfS (mOrT (mB (mBin (gEqA true) (mCall gLen (mCons (mVar 0) mNil)) (mC (.int 3)))) (mNotT (mTru (mIsi "tuple" (mBin gItem (mVar 0) (mC (.int 2)))))))
    (mRet (mC (.bl false)))
    mSkip)
    (mSeq (mIfS (mB (mBin (gEqA false) (mVar 2) (mC (.str "call"))))
    (mSeq (mAsg (mLc (mAnyI (mBin gItem (mVar 0) (mC (.int 2)))) (ngName 6) (mNotT (mTru (mCall (ck .l_has_form) (mCons (mVar 6) (mCons (mBin gSub (mVar 1) (mC (.int 1))) mNil))))) (mVar 6) [6]) (nName 4))
    (mRet (mAnd (mCall (ck .l_is_name) (mCons (mBin gItem (mVar 0) (mC (.int 1))) mNil)) (mAnd (mBin gLt (mCall gLen (mCons (mBin gItem (mVar 0) (mC (.int 2))) mNil)) (mC (.int 4))) (mBin gEqE (mVar 4) (mLst mNil))))))
    mSkip)
    (mSeq (mAsg (mLc (mAnyI (mBin gItem (mVar 0) (mC (.int 2)))) (ngName 5) (mNotT (mTru (mCall (ck .l_is_link) (mCons (mVar 5) (mCons (mBin gSub (mVar 1) (mC (.int 1))) mNil))))) (mVar 5) [5]) (nName 4))
    (mRet (mAnd (mCall (ck .l_has_form) (mCons (mBin gItem (mVar 0) (mC (.int 1))) (mCons (mBin gSub (mVar 1) (mC (.int 1))) mNil))) (mAnd (mBin gLt (mC (.int 0)) (mCall gLen (mCons (mBin gItem (mVar 0) (mC (.int 2))) mNil))) (mAnd (mBin gLt (mCall gLen (mCons (mBin gItem (mVar 0) (mC (.int 2))) mNil)) (mC (.int 5))) (mBin gEqE (mVar 4) (mLst mNil)))))))))
    mSkip)
    (mSeq (mAsg (mDisp [(.inr "none", .int 0), (.inr "true", .int 0), (.inr "false", .int 0), (.inr "not", .int 1), (.inr "isnone", .int 1), (.inr "and", .int 2), (.inr "or", .int 2), (.inr "default", .int 2), (.inr "if", .int 3)]) (nName 3))
    (mSeq (mIfS (mB (mBin (gEqA true) (mCall gLen (mCons (mVar 0) mNil)) (mBin gAdd (mC (.int 1)) (mGet2 (mVar 3) (mVar 2) (mNeg (mC (.int 9)))))))
    (mRet (mC (.bl false)))
    mSkip)
    (mRet (mBin gEqE (mLc (mAnyI (mSl (mVar 0) (mEnd (mC (.int 1))) mNo)) (ngName 6) (mNotT (mTru (mCall (ck .l_has_form) (mCons (mVar 6) (mCons (mBin gSub (mVar 1) (mC (.int 1))) mNil))))) (mVar 6) [6]) (mLst mNil)))))))))
noncomputable def f_l_has_form (ck : Fnm → MF) : MF := fun ds m => endOf (b_l_has_form ck (startM 7 ds) m)
theorem ok_l_has_form {M : Mode} {P : Program} {w : World} {K : PySem.W.Frag} {mg : Str → Option Value} {base : Heap} {k : Nat} {f : Addr} {fd : FuncData} {ck : Fnm → MF} (Fu : Fun K "_law_has_form" "_law_has_form" s_l_has_form f fd) (T : Txt K w mg) (I_l_has_form : FnX M P w K mg base k "_law_has_form" 2 (ck .l_has_form)) (I_l_is_link : FnX M P w K mg base k "_law_is_link" 2 (ck .l_is_link)) (I_l_is_name : FnX M P w K mg base k "_law_is_name" 1 (ck .l_is_name)) :
    FnOk P w K mg base (M.CX P w) (k + 1) f fd ["_law_value", "_law_levels"] (spM K 2 (f_l_has_form ck)) :=
  have nd := sc_l_has_form.nd
  fnx_ok (M := M) (g := b_l_has_form ck) Fu sc_l_has_form rfl (fun _ _ _ => rfl) fun cdv A outer s H E hr W tk hp =>
    (jb_cons (js_if (jw_or (jt_cmp (op_eqA (hu64 hr)) om_eqA (j_var 1) j_int) (jw_or (jt_not (jt_tru (je_isi "tuple" (j_var 0) T.b_isinstance T.b_tuple (by decide +kernel)))) (jw_or (jt_cmp (op_eqT (hu0 hr)) om_eqT (j_var 0) (je_tup ja_nil)) (jw_or1 (jt_not (jt_tru (je_isi "str" (je_item (hu1 hr) (j_var 0) j_int) T.b_isinstance T.b_str (by decide +kernel)))))))).jt
    (jb_one (js_ret j_bl))
    jb_nil)
    (jb_cons (js_set 2 nd (je_item (hu1 hr) (j_var 0) j_int))
    (jb_cons (js_if (jt_cmp (op_eqA (hu64 hr)) om_eqA (j_var 2) j_str)
    (jb_one (js_ret (je_and (j_cmp (op_eqA (hu64 hr)) om_eqA (je_callB cr_len cm_len T.b_len PySem.boot_len (ja_cons (j_var 0) ja_nil)) j_int) (je_one (jx_call I_l_is_name hr (Nat.le_refl _) tk (ja_cons (je_item (hu1 hr) (j_var 0) j_int) ja_nil) (hlen := (mCons_len mNil_len)))))))
    jb_nil)
    (jb_cons (js_if (jw_or (jt_cmp (op_eqA (hu64 hr)) om_eqA (j_var 2) j_str) (jw_or1 (jt_cmp (op_eqA (hu64 hr)) om_eqA (j_var 2) j_str))).jt
    (jb_cons (js_if (jw_or (jt_cmp (op_neA (hu64 hr)) om_neA (je_callB cr_len cm_len T.b_len PySem.boot_len (ja_cons (j_var 0) ja_nil)) j_int) (jw_or1 (jt_not (jt_tru (je_isi "tuple" (je_item (hu1 hr) (j_var 0) j_int) T.b_isinstance T.b_tuple (by decide +kernel)))))).jt
    (jb_one (js_ret j_bl))
    jb_nil)
    (jb_cons (js_if (jt_cmp (op_eqA (hu64 hr)) om_eqA (j_var 2) j_str)
    (jb_cons (js_setLc 4 [("_law_part", 6)] rfl rfl nd (ji_any (je_item (hu1 hr) (j_var 0) j_int)) (blkOk_by (N := ["_law_value", "_law_levels", "_law_head", "_law_many", "_law_wrong", "_law_link", "_law_part"]) (sc := defScope s_l_has_form) (by decide +kernel)) (fun _ _ _ _ _ => (jn_name 6 nd)) (fun _ _ _ _ _ => (jts_one (jt_not (jt_tru (jx_call I_l_has_form hr (Nat.le_refl _) M.tk0 (ja_cons (j_var 6) (ja_cons (j_op op_sub om_sub (j_var 1) j_int) ja_nil)) (hlen := (mCons_len (mCons_len mNil_len)))))))) (fun _ _ _ _ _ => (j_var 6)) (hgs_name))
    (jb_one (js_ret (je_and (jx_call I_l_is_name hr (Nat.le_refl _) tk (ja_cons (je_item (hu1 hr) (j_var 0) j_int) ja_nil) (hlen := (mCons_len mNil_len))) (je_and (j_cmp op_lt om_lt (je_callB cr_len cm_len T.b_len PySem.boot_len (ja_cons (je_item (hu1 hr) (j_var 0) j_int) ja_nil)) j_int) (je_one (j_cmp (op_eqE (hu0 hr)) om_eqE (j_var 4) (je_lst ja_nil))))))))
    jb_nil)
    (jb_cons (js_setLc 4 [("_law_link", 5)] rfl rfl nd (ji_any (je_item (hu1 hr) (j_var 0) j_int)) (blkOk_by (N := ["_law_value", "_law_levels", "_law_head", "_law_many", "_law_wrong", "_law_link", "_law_part"]) (sc := defScope s_l_has_form) (by decide +kernel)) (fun _ _ _ _ _ => (jn_name 5 nd)) (fun _ _ _ _ _ => (jts_one (jt_not (jt_tru (jx_call I_l_is_link hr (Nat.le_refl _) M.tk0 (ja_cons (j_var 5) (ja_cons (j_op op_sub om_sub (j_var 1) j_int) ja_nil)) (hlen := (mCons_len (mCons_len mNil_len)))))))) (fun _ _ _ _ _ => (j_var 5)) (hgs_name))
    (jb_one (js_ret (je_and (jx_call I_l_has_form hr (Nat.le_refl _) tk (ja_cons (je_item (hu1 hr) (j_var 0) j_int) (ja_cons (j_op op_sub om_sub (j_var 1) j_int) ja_nil)) (hlen := (mCons_len (mCons_len mNil_len)))) (je_and (j_cmp op_lt om_lt j_int (je_callB cr_len cm_len T.b_len PySem.boot_len (ja_cons (je_item (hu1 hr) (j_var 0) j_int) ja_nil))) (je_and (j_cmp op_lt om_lt (je_callB cr_len cm_len T.b_len PySem.boot_len (ja_cons (je_item (hu1 hr) (j_var 0) j_int) ja_nil)) j_int) (je_one (j_cmp (op_eqE (hu0 hr)) om_eqE (j_var 4) (je_lst ja_nil)))))))))))
    jb_nil)
    (jb_cons (js_set 3 nd (je_disp (jps_cons pe_str pe_int rfl (jps_cons pe_str pe_int rfl (jps_cons pe_str pe_int rfl (jps_cons pe_str pe_int rfl (jps_cons pe_str pe_int rfl (jps_cons pe_str pe_int rfl (jps_cons pe_str pe_int rfl (jps_cons pe_str pe_int rfl (jps_cons pe_str pe_int rfl jps_nil))))))))) (by simp) (by decide)))
    (jb_cons (js_if (jt_cmp (op_neA (hu64 hr)) om_neA (je_callB cr_len cm_len T.b_len PySem.boot_len (ja_cons (j_var 0) ja_nil)) (j_op op_addA om_add j_int (je_get2 (hu1 hr) (j_var 3) (j_var 2) (je_neg j_int))))
    (jb_one (js_ret j_bl))
    jb_nil)
    (jb_one (js_ret (j_cmp (op_eqE (hu0 hr)) om_eqE (je_lc [("_law_part", 6)] rfl rfl nd (ji_any (je_sl (j_var 0) (jo_end j_int) jo_no)) (blkOk_by (N := ["_law_value", "_law_levels", "_law_head", "_law_many", "_law_wrong", "_law_link", "_law_part"]) (sc := defScope s_l_has_form) (by decide +kernel)) (fun _ _ _ _ _ => (jn_name 6 nd)) (fun _ _ _ _ _ => (jts_one (jt_not (jt_tru (jx_call I_l_has_form hr (Nat.le_refl _) M.tk0 (ja_cons (j_var 6) (ja_cons (j_op op_sub om_sub (j_var 1) j_int) ja_nil)) (hlen := (mCons_len (mCons_len mNil_len)))))))) (fun _ _ _ _ _ => (j_var 6)) (hgs_name)) (je_lst ja_nil))))))))))
abbrev s_l_is_expr : Stmt := topS 87
theorem sc_l_is_expr : FnScope ["_law_value", "_law_parts_here", "_law_events", "_law_part"] ["_law_value"] (defScope s_l_is_expr) := ⟨rfl, rfl, rfl, by decide +kernel, rfl, by decide +kernel, by decide +kernel⟩
noncomputable def b_l_is_expr (ck : Fnm → MF) : MS := (mSeq (mIfS (mNotT (mTru (mCall (ck .l_has_form) (mCons (mVar 0) (mCons (mC (.int 12)) mNil)))))
    (mRet (mC (.bl false)))
    mSkip)
    (mSeq (mAsg (mCall (ck .l_parts) (mCons (mVar 0) mNil)) (nName 1))
    (mSeq (mAsg (mCall gLen (mCons (mLc (mAnyI (mVar 1)) (ngName 3) (mB (mBin (gEqA false) (mBin gItem (mVar 3) (mC (.int 0))) (mC (.str "call")))) (mVar 3) [3]) mNil)) (nName 2))
    (mSeq (mAsg (mBin gAdd (mVar 2) (mCall gSum (mCons (mLc (mAnyI (mVar 1)) (ngName 3) (mB (mBin (gEqA false) (mBin gItem (mVar 3) (mC (.int 0))) (mC (.str "compare")))) (mCall gLen (mCons (mBin gItem (mVar 3) (mC (.int 2))) mNil)) [3]) mNil))) (nName 2))
    (mRet (mAnd (mBin gLt (mCall gLen (mCons (mVar 1) mNil)) (mC (.int 41))) (mAnd (mBin gLt (mCall gLen (mCons (mCall (ck .l_names) (mCons (mVar 0) mNil)) mNil)) (mC (.int 5))) (mBin gLt (mVar 2) (mC (.int 7))))))))))
noncomputable def f_l_is_expr (ck : Fnm → MF) : MF := fun ds m => endOf (b_l_is_expr ck (startM 4 ds) m)
theorem ok_l_is_expr {M : Mode} {P : Program} {w : World} {K : PySem.W.Frag} {mg : Str → Option Value} {base : Heap} {k : Nat} {f : Addr} {fd : FuncData} {ck : Fnm → MF} (Fu : Fun K "_law_is_expr" "_law_is_expr" s_l_is_expr f fd) (T : Txt K w mg) (I_l_has_form : FnX M P w K mg base k "_law_has_form" 2 (ck .l_has_form)) (I_l_names : FnX M P w K mg base k "_law_names" 1 (ck .l_names)) (I_l_parts : FnX M P w K mg base k "_law_parts" 1 (ck .l_parts)) :
    FnOk P w K mg base (M.CX P w) (k + 1) f fd ["_law_value"] (spM K 1 (f_l_is_expr ck)) :=
  have nd := sc_l_is_expr.nd
  fnx_ok (M := M) (g := b_l_is_expr ck) Fu sc_l_is_expr rfl (fun _ _ _ => rfl) fun cdv A outer s H E hr W tk hp =>
    (jb_cons (js_if (jt_not (jt_tru (jx_call I_l_has_form hr (Nat.le_refl _) tk (ja_cons (j_var 0) (ja_cons j_int ja_nil)) (hlen := (mCons_len (mCons_len mNil_len))))))
    (jb_one (js_ret j_bl))
    jb_nil)
    (jb_cons (js_set 1 nd (jx_call I_l_parts hr (Nat.le_refl _) tk (ja_cons (j_var 0) ja_nil) (hlen := (mCons_len mNil_len))))
    (jb_cons (js_set 2 nd (je_callB cr_len cm_len T.b_len PySem.boot_len (ja_cons (je_lc [("_law_part", 3)] rfl rfl nd (ji_any (j_var 1)) (blkOk_by (N := ["_law_value", "_law_parts_here", "_law_events", "_law_part"]) (sc := defScope s_l_is_expr) (by decide +kernel)) (fun _ _ _ _ _ => (jn_name 3 nd)) (fun _ _ _ _ _ => (jts_one (jt_cmp (op_eqA (hu64 hr)) om_eqA (je_item (hu1 hr) (j_var 3) j_int) j_str))) (fun _ _ _ _ _ => (j_var 3)) (hgs_name)) ja_nil)))
    (jb_cons (js_set 2 nd (j_op op_addA om_add (j_var 2) (je_callB (cr_sum rfl) cm_sum T.b_sum (by decide +kernel) (ja_cons (je_lc [("_law_part", 3)] rfl rfl nd (ji_any (j_var 1)) (blkOk_by (N := ["_law_value", "_law_parts_here", "_law_events", "_law_part"]) (sc := defScope s_l_is_expr) (by decide +kernel)) (fun _ _ _ _ _ => (jn_name 3 nd)) (fun _ _ _ _ _ => (jts_one (jt_cmp (op_eqA (hu64 hr)) om_eqA (je_item (hu1 hr) (j_var 3) j_int) j_str))) (fun _ _ _ _ _ => (je_callB cr_len cm_len T.b_len PySem.boot_len (ja_cons (je_item (hu1 hr) (j_var 3) j_int) ja_nil))) (hgs_name)) ja_nil))))
    (jb_one (js_ret (je_and (j_cmp op_lt om_lt (je_callB cr_len cm_len T.b_len PySem.boot_len (ja_cons (j_var 1) ja_nil)) j_int) (je_and (j_cmp op_lt om_lt (je_callB cr_len cm_len T.b_len PySem.boot_len (ja_cons (jx_call I_l_names hr (Nat.le_refl _) tk (ja_cons (j_var 0) ja_nil) (hlen := (mCons_len mNil_len))) ja_nil)) j_int) (je_one (j_cmp op_lt om_lt (j_var 2) j_int))))))))))
abbrev s_l_odd : Stmt := topS 88
theorem sc_l_odd : FnScope ["_law_source_here", "_law_part", "_law_name", "_law_odd_here"] ["_law_source_here", "_law_part"] (defScope s_l_odd) := ⟨rfl, rfl, rfl, by decide +kernel, rfl, by decide +kernel, by decide +kernel⟩
noncomputable def b_l_odd (ck : Fnm → MF) : MS := (mSeq (mAsg (mTup (mCons (mC (.str "name")) (mCons (mC (.str "a")) mNil))) (nName 2))
    (mSeq (mAsg (mLst (mCons (mC .non) (mCons (mC (.bl true)) (mCons (mC (.int 7)) (mCons (mC (.str "a")) (mCons (mC (.str "none")) (mCons (mLst mNil) (mCons (mTup mNil) (mCons (mTup (mCons (mC (.str "name")) mNil)) (mCons (mTup (mCons (mC (.str "name")) (mCons (mC (.str "")) mNil))) (mCons (mTup (mCons (mC (.str "name")) (mCons (mC (.str "A")) mNil))) (mCons (mTup (mCons (mC (.str "name")) (mCons (mC (.str "abcdefghi")) mNil))) mNil)))))))))))) (nName 3))
    (mSeq (mAsg (mBin gAdd (mVar 3) (mLst (mCons (mTup (mCons (mC (.str "none")) (mCons (mC (.int 1)) mNil))) (mCons (mTup (mCons (mC (.str "name")) (mCons (mC (.str "if")) mNil))) (mCons (mTup (mCons (mC (.str "name")) (mCons (mC (.str "keep")) mNil))) (mCons (mTup (mCons (mC (.str "name")) (mCons (mC (.str "x1")) mNil))) (mCons (mTup (mCons (mC (.str "name")) (mCons (mC .non) mNil))) (mCons (mTup (mCons (mC (.str "name")) (mCons (mLst (mCons (mC (.str "a")) mNil)) mNil))) mNil)))))))) (nName 3))
    (mSeq (mAsg (mBin gAdd (mVar 3) (mLst (mCons (mLst (mCons (mC (.str "none")) mNil)) (mCons (mTup (mCons (mC (.str "None")) mNil)) (mCons (mTup (mCons (mC (.str "not")) mNil)) (mCons (mTup (mCons (mC (.str "not")) (mCons (mVar 2) (mCons (mVar 2) mNil)))) (mCons (mTup (mCons (mC (.str "and")) (mCons (mVar 2) mNil))) (mCons (mTup (mCons (mC (.str "or")) (mCons (mVar 2) (mCons (mVar 2) (mCons (mVar 2) mNil))))) mNil)))))))) (nName 3))
    (mSeq (mAsg (mBin gAdd (mVar 3) (mLst (mCons (mTup (mCons (mC (.str "if")) (mCons (mVar 2) (mCons (mVar 2) mNil)))) (mCons (mTup (mCons (mC (.str "xor")) (mCons (mVar 2) mNil))) (mCons (mTup (mCons (mC (.str "call")) (mCons (mC (.str "f")) mNil))) (mCons (mTup (mCons (mC (.str "call")) (mCons (mC (.str "f")) (mCons (mLst (mCons (mVar 2) mNil)) mNil)))) (mCons (mTup (mCons (mC (.str "call")) (mCons (mC (.str "f")) (mCons (mVar 2) mNil)))) mNil))))))) (nName 3))
    (mSeq (mAsg (mBin gAdd (mVar 3) (mLst (mCons (mTup (mCons (mC (.str "call")) (mCons (mC (.str "f")) (mCons (mBin gMul (mTup (mCons (mVar 2) mNil)) (mC (.int 4))) mNil)))) (mCons (mTup (mCons (mC (.str "call")) (mCons (mC (.str "F")) (mCons (mTup mNil) mNil)))) (mCons (mTup (mCons (mC (.str "compare")) (mCons (mVar 2) (mCons (mTup mNil) mNil)))) (mCons (mTup (mCons (mC .non) (mCons (mVar 2) mNil))) (mCons mDNew mNil))))))) (nName 3))
    (mSeq (mAsg (mBin gAdd (mVar 3) (mLst (mCons (mTup (mCons (mC (.str "compare")) (mCons (mVar 2) (mCons (mLst (mCons (mTup (mCons (mC (.str "<")) (mCons (mVar 2) mNil))) mNil)) mNil)))) (mCons (mTup (mCons (mC (.str "compare")) (mCons (mVar 2) (mCons (mTup (mCons (mTup (mCons (mC (.str "=")) (mCons (mVar 2) mNil))) mNil)) mNil)))) (mCons (mTup (mCons (mLst (mCons (mC (.str "name")) mNil)) (mCons (mC (.str "a")) mNil))) (mCons (mTup (mCons (mC (.int 0)) (mCons (mVar 2) mNil))) mNil)))))) (nName 3))
    (mSeq (mAsg (mBin gAdd (mVar 3) (mLst (mCons (mTup (mCons (mC (.str "compare")) (mCons (mVar 2) (mCons (mBin gMul (mTup (mCons (mTup (mCons (mC (.str "<")) (mCons (mVar 2) mNil))) mNil)) (mC (.int 5))) mNil)))) (mCons (mTup (mCons (mC (.str "compare")) (mCons (mVar 2) (mCons (mTup (mCons (mTup (mCons (mC (.str "<")) (mCons (mVar 2) (mCons (mVar 2) mNil)))) mNil)) mNil)))) mNil)))) (nName 3))
    (mSeq (mAsg (mBin gAdd (mVar 3) (mLst (mCons (mTup (mCons (mC (.str "compare")) (mCons (mVar 2) (mCons (mTup (mCons (mC (.str "<")) (mCons (mVar 2) mNil))) mNil)))) (mCons (mTup (mCons (mC (.str "compare")) (mCons (mVar 2) (mCons (mTup (mCons (mTup (mCons (mLst (mCons (mC (.str "<")) mNil)) (mCons (mVar 2) mNil))) mNil)) mNil)))) (mCons (mTup (mCons (mC (.str "call")) (mCons (mLst (mCons (mC (.str "f")) mNil)) (mCons (mTup mNil) mNil)))) mNil))))) (nName 3))
    (mSeq (mAsg (mBin gAdd (mVar 3) (mLst (mCons (mTup (mCons (mC (.str "compare")) (mCons (mVar 2) (mCons (mTup (mCons (mLst (mCons (mC (.str "<")) (mCons (mVar 2) mNil))) mNil)) mNil)))) (mCons (mTup (mCons (mC (.str "compare")) (mCons (mVar 2) (mCons (mTup (mCons (mTup (mCons (mC (.str "<")) mNil)) mNil)) mNil)))) (mCons (mLst (mCons (mC (.str "not")) (mCons (mVar 2) mNil))) mNil))))) (nName 3))
    (mSeq (mDrop (mBM gAppend (mVar 3) (mCons (mTup (mCons (mC (.str "compare")) (mCons (mVar 2) (mCons (mTup (mCons (mTup mNil) mNil)) mNil)))) mNil)))
    (mSeq (mAsg (mBin gAdd (mVar 3) (mLst (mCons (mCall gListA (mCons (mVar 1) mNil)) (mCons (mBin gAdd (mVar 1) (mTup (mCons (mVar 2) mNil))) (mCons (mSl (mVar 1) mNo (mEnd (mNeg (mC (.int 1))))) (mCons (mVar 1) (mCons (mTup (mCons (mC (.str "not")) (mCons (mVar 1) mNil))) (mCons (mTup (mCons (mC (.str "name")) (mCons (mC (.str "ab")) mNil))) (mCons (mTup (mCons (mC (.str "name")) (mCons (mC (.str "abcdefgh")) mNil))) mNil))))))))) (nName 3))
    (mRet (mCall (ck .l_pick) (mCons (mVar 0) (mCons (mVar 3) mNil))))))))))))))))
noncomputable def f_l_odd (ck : Fnm → MF) : MF := fun ds m => endOf (b_l_odd ck (startM 4 ds) m)
theorem ok_l_odd {M : Mode} {P : Program} {w : World} {K : PySem.W.Frag} {mg : Str → Option Value} {base : Heap} {k : Nat} {f : Addr} {fd : FuncData} {ck : Fnm → MF} (Fu : Fun K "_law_odd" "_law_odd" s_l_odd f fd) (T : Txt K w mg) (I_l_pick : FnX M P w K mg base k "_law_pick" 2 (ck .l_pick)) :
    FnOk P w K mg base (M.CX P w) (k + 1) f fd ["_law_source_here", "_law_part"] (spM K 2 (f_l_odd ck)) :=
  have nd := sc_l_odd.nd
  fnx_ok (M := M) (g := b_l_odd ck) Fu sc_l_odd rfl (fun _ _ _ => rfl) fun cdv A outer s H E hr W tk hp =>
    (jb_cons (js_set 2 nd (je_tup (ja_cons j_str (ja_cons j_str ja_nil))))
    (jb_cons (js_set 3 nd (je_lst (ja_cons j_non (ja_cons j_bl (ja_cons j_int (ja_cons j_str (ja_cons j_str (ja_cons (je_lst ja_nil) (ja_cons (je_tup ja_nil) (ja_cons (je_tup (ja_cons j_str ja_nil)) (ja_cons (je_tup (ja_cons j_str (ja_cons j_str ja_nil))) (ja_cons (je_tup (ja_cons j_str (ja_cons j_str ja_nil))) (ja_cons (je_tup (ja_cons j_str (ja_cons j_str ja_nil))) ja_nil)))))))))))))
    (jb_cons (js_set 3 nd (j_op op_addA om_add (j_var 3) (je_lst (ja_cons (je_tup (ja_cons j_str (ja_cons j_int ja_nil))) (ja_cons (je_tup (ja_cons j_str (ja_cons j_str ja_nil))) (ja_cons (je_tup (ja_cons j_str (ja_cons j_str ja_nil))) (ja_cons (je_tup (ja_cons j_str (ja_cons j_str ja_nil))) (ja_cons (je_tup (ja_cons j_str (ja_cons j_non ja_nil))) (ja_cons (je_tup (ja_cons j_str (ja_cons (je_lst (ja_cons j_str ja_nil)) ja_nil))) ja_nil)))))))))
    (jb_cons (js_set 3 nd (j_op op_addA om_add (j_var 3) (je_lst (ja_cons (je_lst (ja_cons j_str ja_nil)) (ja_cons (je_tup (ja_cons j_str ja_nil)) (ja_cons (je_tup (ja_cons j_str ja_nil)) (ja_cons (je_tup (ja_cons j_str (ja_cons (j_var 2) (ja_cons (j_var 2) ja_nil)))) (ja_cons (je_tup (ja_cons j_str (ja_cons (j_var 2) ja_nil))) (ja_cons (je_tup (ja_cons j_str (ja_cons (j_var 2) (ja_cons (j_var 2) (ja_cons (j_var 2) ja_nil))))) ja_nil)))))))))
    (jb_cons (js_set 3 nd (j_op op_addA om_add (j_var 3) (je_lst (ja_cons (je_tup (ja_cons j_str (ja_cons (j_var 2) (ja_cons (j_var 2) ja_nil)))) (ja_cons (je_tup (ja_cons j_str (ja_cons (j_var 2) ja_nil))) (ja_cons (je_tup (ja_cons j_str (ja_cons j_str ja_nil))) (ja_cons (je_tup (ja_cons j_str (ja_cons j_str (ja_cons (je_lst (ja_cons (j_var 2) ja_nil)) ja_nil)))) (ja_cons (je_tup (ja_cons j_str (ja_cons j_str (ja_cons (j_var 2) ja_nil)))) ja_nil))))))))
    (jb_cons (js_set 3 nd (j_op op_addA om_add (j_var 3) (je_lst (ja_cons (je_tup (ja_cons j_str (ja_cons j_str (ja_cons (j_op op_mulA om_mul (je_tup (ja_cons (j_var 2) ja_nil)) j_int) ja_nil)))) (ja_cons (je_tup (ja_cons j_str (ja_cons j_str (ja_cons (je_tup ja_nil) ja_nil)))) (ja_cons (je_tup (ja_cons j_str (ja_cons (j_var 2) (ja_cons (je_tup ja_nil) ja_nil)))) (ja_cons (je_tup (ja_cons j_non (ja_cons (j_var 2) ja_nil))) (ja_cons je_dnew ja_nil))))))))
    (jb_cons (js_set 3 nd (j_op op_addA om_add (j_var 3) (je_lst (ja_cons (je_tup (ja_cons j_str (ja_cons (j_var 2) (ja_cons (je_lst (ja_cons (je_tup (ja_cons j_str (ja_cons (j_var 2) ja_nil))) ja_nil)) ja_nil)))) (ja_cons (je_tup (ja_cons j_str (ja_cons (j_var 2) (ja_cons (je_tup (ja_cons (je_tup (ja_cons j_str (ja_cons (j_var 2) ja_nil))) ja_nil)) ja_nil)))) (ja_cons (je_tup (ja_cons (je_lst (ja_cons j_str ja_nil)) (ja_cons j_str ja_nil))) (ja_cons (je_tup (ja_cons j_int (ja_cons (j_var 2) ja_nil))) ja_nil)))))))
    (jb_cons (js_set 3 nd (j_op op_addA om_add (j_var 3) (je_lst (ja_cons (je_tup (ja_cons j_str (ja_cons (j_var 2) (ja_cons (j_op op_mulA om_mul (je_tup (ja_cons (je_tup (ja_cons j_str (ja_cons (j_var 2) ja_nil))) ja_nil)) j_int) ja_nil)))) (ja_cons (je_tup (ja_cons j_str (ja_cons (j_var 2) (ja_cons (je_tup (ja_cons (je_tup (ja_cons j_str (ja_cons (j_var 2) (ja_cons (j_var 2) ja_nil)))) ja_nil)) ja_nil)))) ja_nil)))))
    (jb_cons (js_set 3 nd (j_op op_addA om_add (j_var 3) (je_lst (ja_cons (je_tup (ja_cons j_str (ja_cons (j_var 2) (ja_cons (je_tup (ja_cons j_str (ja_cons (j_var 2) ja_nil))) ja_nil)))) (ja_cons (je_tup (ja_cons j_str (ja_cons (j_var 2) (ja_cons (je_tup (ja_cons (je_tup (ja_cons (je_lst (ja_cons j_str ja_nil)) (ja_cons (j_var 2) ja_nil))) ja_nil)) ja_nil)))) (ja_cons (je_tup (ja_cons j_str (ja_cons (je_lst (ja_cons j_str ja_nil)) (ja_cons (je_tup ja_nil) ja_nil)))) ja_nil))))))
    (jb_cons (js_set 3 nd (j_op op_addA om_add (j_var 3) (je_lst (ja_cons (je_tup (ja_cons j_str (ja_cons (j_var 2) (ja_cons (je_tup (ja_cons (je_lst (ja_cons j_str (ja_cons (j_var 2) ja_nil))) ja_nil)) ja_nil)))) (ja_cons (je_tup (ja_cons j_str (ja_cons (j_var 2) (ja_cons (je_tup (ja_cons (je_tup (ja_cons j_str ja_nil)) ja_nil)) ja_nil)))) (ja_cons (je_lst (ja_cons j_str (ja_cons (j_var 2) ja_nil))) ja_nil))))))
    (jb_cons (js_expr (je_bmL PySem.F.slot_list_append PySem.F.type_list_append mt_append mm_append (j_var 3) (ja_cons (je_tup (ja_cons j_str (ja_cons (j_var 2) (ja_cons (je_tup (ja_cons (je_tup ja_nil) ja_nil)) ja_nil)))) ja_nil)))
    (jb_cons (js_set 3 nd (j_op op_addA om_add (j_var 3) (je_lst (ja_cons (je_callTy (cr_listA rfl) cm_listA T.b_list (by decide +kernel) (ja_cons (j_var 1) ja_nil)) (ja_cons (j_op op_addA om_add (j_var 1) (je_tup (ja_cons (j_var 2) ja_nil))) (ja_cons (je_sl (j_var 1) jo_no (jo_end (je_neg j_int))) (ja_cons (j_var 1) (ja_cons (je_tup (ja_cons j_str (ja_cons (j_var 1) ja_nil))) (ja_cons (je_tup (ja_cons j_str (ja_cons j_str ja_nil))) (ja_cons (je_tup (ja_cons j_str (ja_cons j_str ja_nil))) ja_nil))))))))))
    (jb_one (js_ret (jx_call I_l_pick hr (Nat.le_refl _) tk (ja_cons (j_var 0) (ja_cons (j_var 3) ja_nil)) (hlen := (mCons_len (mCons_len mNil_len))))))))))))))))))
abbrev s_l_bent : Stmt := topS 89
theorem sc_l_bent : FnScope ["_law_source_here", "_law_expr_here", "_law_operands_here", "_law_at", "_law_more", "_law_links", "_law_k"] ["_law_source_here", "_law_expr_here"] (defScope s_l_bent) := ⟨rfl, rfl, rfl, by decide +kernel, rfl, by decide +kernel, by decide +kernel⟩
noncomputable def b_l_bent (ck : Fnm → MF) : MS := (mSeq (mAsg (mCall (ck .l_operands) (mCons (mVar 1) mNil)) (nName 2))
    (mSeq (mIfS (mOrT (mB (mBin gEqE (mVar 2) (mLst mNil))) (mB (mBin (gEqA false) (mCall (ck .l_draw) (mCons (mVar 0) (mCons (mC (.int 4)) mNil))) (mC (.int 0)))))
    (mRet (mCall (ck .l_odd) (mCons (mVar 0) (mCons (mVar 1) mNil))))
    mSkip)
    (mSeq (mAsg (mCall (ck .l_draw) (mCons (mVar 0) (mCons (mCall gLen (mCons (mVar 2) mNil)) mNil))) (nName 3))
    (mSeq (mAsg (mBin gAdd (mBin gAdd (mSl (mVar 2) mNo (mEnd (mVar 3))) (mLst (mCons (mCall (ck .l_bent) (mCons (mVar 0) (mCons (mBin gItem (mVar 2) (mVar 3)) mNil))) mNil))) (mSl (mVar 2) (mEnd (mBin gAdd (mVar 3) (mC (.int 1)))) mNo)) (nName 4))
    (mSeq (mIfS (mB (mBin (gEqA false) (mBin gItem (mVar 1) (mC (.int 0))) (mC (.str "call"))))
    (mRet (mTup (mCons (mC (.str "call")) (mCons (mBin gItem (mVar 1) (mC (.int 1))) (mCons (mCall gTuple (mCons (mVar 4) mNil)) mNil)))))
    mSkip)
    (mSeq (mIfS (mB (mBin (gEqA false) (mBin gItem (mVar 1) (mC (.int 0))) (mC (.str "compare"))))
    (mSeq (mAsg (mLc (mRng (mCons (mCall gLen (mCons (mBin gItem (mVar 1) (mC (.int 2))) mNil)) mNil)) (ngName 6) mYes (mTup (mCons (mBin gItem (mBin gItem (mBin gItem (mVar 1) (mC (.int 2))) (mVar 6)) (mC (.int 0))) (mCons (mBin gItem (mVar 4) (mBin gAdd (mC (.int 1)) (mVar 6))) mNil))) [6]) (nName 5))
    (mRet (mTup (mCons (mC (.str "compare")) (mCons (mBin gItem (mVar 4) (mC (.int 0))) (mCons (mCall gTuple (mCons (mVar 5) mNil)) mNil))))))
    mSkip)
    (mRet (mCall gTuple (mCons (mBin gAdd (mLst (mCons (mBin gItem (mVar 1) (mC (.int 0))) mNil)) (mVar 4)) mNil)))))))))
noncomputable def f_l_bent (ck : Fnm → MF) : MF := fun ds m => endOf (b_l_bent ck (startM 7 ds) m)
theorem ok_l_bent {M : Mode} {P : Program} {w : World} {K : PySem.W.Frag} {mg : Str → Option Value} {base : Heap} {k : Nat} {f : Addr} {fd : FuncData} {ck : Fnm → MF} (Fu : Fun K "_law_bent" "_law_bent" s_l_bent f fd) (T : Txt K w mg) (I_l_bent : FnX M P w K mg base k "_law_bent" 2 (ck .l_bent)) (I_l_draw : FnX M P w K mg base k "_law_draw" 2 (ck .l_draw)) (I_l_odd : FnX M P w K mg base k "_law_odd" 2 (ck .l_odd)) (I_l_operands : FnX M P w K mg base k "_law_operands" 1 (ck .l_operands)) :
    FnOk P w K mg base (M.CX P w) (k + 1) f fd ["_law_source_here", "_law_expr_here"] (spM K 2 (f_l_bent ck)) :=
  have nd := sc_l_bent.nd
  fnx_ok (M := M) (g := b_l_bent ck) Fu sc_l_bent rfl (fun _ _ _ => rfl) fun cdv A outer s H E hr W tk hp =>
    (jb_cons (js_set 2 nd (jx_call I_l_operands hr (Nat.le_refl _) tk (ja_cons (j_var 1) ja_nil) (hlen := (mCons_len mNil_len))))
    (jb_cons (js_if (jw_or (jt_cmp (op_eqE (hu0 hr)) om_eqE (j_var 2) (je_lst ja_nil)) (jw_or1 (jt_cmp (op_eqA (hu64 hr)) om_eqA (jx_call I_l_draw hr (Nat.le_refl _) tk (ja_cons (j_var 0) (ja_cons j_int ja_nil)) (hlen := (mCons_len (mCons_len mNil_len)))) j_int))).jt
    (jb_one (js_ret (jx_call I_l_odd hr (Nat.le_refl _) tk (ja_cons (j_var 0) (ja_cons (j_var 1) ja_nil)) (hlen := (mCons_len (mCons_len mNil_len))))))
    jb_nil)
    (jb_cons (js_set 3 nd (jx_call I_l_draw hr (Nat.le_refl _) tk (ja_cons (j_var 0) (ja_cons (je_callB cr_len cm_len T.b_len PySem.boot_len (ja_cons (j_var 2) ja_nil)) ja_nil)) (hlen := (mCons_len (mCons_len mNil_len)))))
    (jb_cons (js_set 4 nd (j_op op_addA om_add (j_op op_addA om_add (je_sl (j_var 2) jo_no (jo_end (j_var 3))) (je_lst (ja_cons (jx_call I_l_bent hr (Nat.le_refl _) tk (ja_cons (j_var 0) (ja_cons (je_item (hu1 hr) (j_var 2) (j_var 3)) ja_nil)) (hlen := (mCons_len (mCons_len mNil_len)))) ja_nil))) (je_sl (j_var 2) (jo_end (j_op op_addA om_add (j_var 3) j_int)) jo_no)))
    (jb_cons (js_if (jt_cmp (op_eqA (hu64 hr)) om_eqA (je_item (hu1 hr) (j_var 1) j_int) j_str)
    (jb_one (js_ret (je_tup (ja_cons j_str (ja_cons (je_item (hu1 hr) (j_var 1) j_int) (ja_cons (je_callTy call_tuple_of cm_tuple T.b_tuple (by decide +kernel) (ja_cons (j_var 4) ja_nil)) ja_nil))))))
    jb_nil)
    (jb_cons (js_if (jt_cmp (op_eqA (hu64 hr)) om_eqA (je_item (hu1 hr) (j_var 1) j_int) j_str)
    (jb_cons (js_setLc 5 [("_law_k", 6)] rfl rfl nd (ji_rng1 T.b_range (ja_cons (je_callB cr_len cm_len T.b_len PySem.boot_len (ja_cons (je_item (hu1 hr) (j_var 1) j_int) ja_nil)) ja_nil)) (blkOk_by (N := ["_law_source_here", "_law_expr_here", "_law_operands_here", "_law_at", "_law_more", "_law_links", "_law_k"]) (sc := defScope s_l_bent) (by decide +kernel)) (fun _ _ _ _ _ => (jn_name 6 nd)) (fun _ _ _ _ _ => jts_nil) (fun _ _ _ _ _ => (je_tup (ja_cons (je_item (hu1 hr) (je_item (hu1 hr) (je_item (hu1 hr) (j_var 1) j_int) (j_var 6)) j_int) (ja_cons (je_item (hu1 hr) (j_var 4) (j_op op_addA om_add j_int (j_var 6))) ja_nil)))) (hgs_name))
    (jb_one (js_ret (je_tup (ja_cons j_str (ja_cons (je_item (hu1 hr) (j_var 4) j_int) (ja_cons (je_callTy call_tuple_of cm_tuple T.b_tuple (by decide +kernel) (ja_cons (j_var 5) ja_nil)) ja_nil)))))))
    jb_nil)
    (jb_one (js_ret (je_callTy call_tuple_of cm_tuple T.b_tuple (by decide +kernel) (ja_cons (j_op op_addA om_add (je_lst (ja_cons (je_item (hu1 hr) (j_var 1) j_int) ja_nil)) (j_var 4)) ja_nil))))))))))
abbrev s_l_asked : Stmt := topS 90
theorem sc_l_asked : FnScope ["_law_value", "_law_way"] ["_law_value", "_law_way"] (defScope s_l_asked) := ⟨rfl, rfl, rfl, by decide +kernel, rfl, by decide +kernel, by decide +kernel⟩
noncomputable def b_l_asked (ck : Fnm → MF) : MS := (mSeq (mIfS (mB (mBin (gEqA false) (mVar 1) (mC (.int 0))))
    (mRet (mCall (ck .check_expression) (mCons (mVar 0) mNil)))
    mSkip)
    (mSeq (mIfS (mB (mBin (gEqA false) (mVar 1) (mC (.int 1))))
    (mRet (mCall (ck .variables) (mCons (mVar 0) mNil)))
    mSkip)
    (mSeq (mIfS (mB (mBin (gEqA false) (mVar 1) (mC (.int 2))))
    (mRet (mCall (ck .size) (mCons (mVar 0) mNil)))
    mSkip)
    (mSeq (mIfS (mB (mBin (gEqA false) (mVar 1) (mC (.int 3))))
    (mRet (mCall (ck .event_places) (mCons (mVar 0) mNil)))
    mSkip)
    (mSeq (mIfS (mB (mBin (gEqA false) (mVar 1) (mC (.int 4))))
    (mRet (mCall (ck .evaluate) (mCons (mVar 0) (mCons (mC .non) (mCons (mC .non) mNil)))))
    mSkip)
    (mSeq (mIfS (mB (mBin (gEqA false) (mVar 1) (mC (.int 5))))
    (mRet (mCall (ck .call_tree) (mCons (mVar 0) (mCons (mLst mNil) mNil))))
    mSkip)
    (mSeq (mIfS (mB (mBin (gEqA false) (mVar 1) (mC (.int 6))))
    (mRet (mCall (ck .form) (mCons (mVar 0) mNil)))
    mSkip)
    (mSeq (mIfS (mB (mBin (gEqA false) (mVar 1) (mC (.int 7))))
    (mRet (mCall (ck .parting) (mCons (mTup (mCons (mC (.str "name")) (mCons (mC (.str "a")) mNil))) (mCons (mVar 0) mNil))))
    mSkip)
    (mRet (mCall (ck .expression_text) (mCons (mVar 0) mNil)))))))))))
noncomputable def f_l_asked (ck : Fnm → MF) : MF := fun ds m => endOf (b_l_asked ck (startM 2 ds) m)
theorem ok_l_asked {M : Mode} {P : Program} {w : World} {K : PySem.W.Frag} {mg : Str → Option Value} {base : Heap} {k : Nat} {f : Addr} {fd : FuncData} {ck : Fnm → MF} (Fu : Fun K "_law_asked" "_law_asked" s_l_asked f fd) (T : Txt K w mg) (I_call_tree : FnX M P w K mg base k "call_tree" 2 (ck .call_tree)) (I_check_expression : FnX M P w K mg base k "check_expression" 1 (ck .check_expression)) (I_evaluate : FnX M P w K mg base k "evaluate" 3 (ck .evaluate)) (I_event_places : FnX M P w K mg base k "event_places" 1 (ck .event_places)) (I_expression_text : FnX M P w K mg base k "expression_text" 1 (ck .expression_text)) (I_form : FnX M P w K mg base k "form" 1 (ck .form)) (I_parting : FnX M P w K mg base k "parting" 2 (ck .parting)) (I_size : FnX M P w K mg base k "size" 1 (ck .size)) (I_variables : FnX M P w K mg base k "variables" 1 (ck .variables)) :
    FnOk P w K mg base (M.CX P w) (k + 1) f fd ["_law_value", "_law_way"] (spM K 2 (f_l_asked ck)) :=
  have nd := sc_l_asked.nd
  fnx_ok (M := M) (g := b_l_asked ck) Fu sc_l_asked rfl (fun _ _ _ => rfl) fun cdv A outer s H E hr W tk hp =>
    (jb_cons (js_if (jt_cmp (op_eqA (hu64 hr)) om_eqA (j_var 1) j_int)
    (jb_one (js_ret (jx_call I_check_expression hr (Nat.le_refl _) tk (ja_cons (j_var 0) ja_nil) (hlen := (mCons_len mNil_len)))))
    jb_nil)
    (jb_cons (js_if (jt_cmp (op_eqA (hu64 hr)) om_eqA (j_var 1) j_int)
    (jb_one (js_ret (jx_call I_variables hr (Nat.le_refl _) tk (ja_cons (j_var 0) ja_nil) (hlen := (mCons_len mNil_len)))))
    jb_nil)
    (jb_cons (js_if (jt_cmp (op_eqA (hu64 hr)) om_eqA (j_var 1) j_int)
    (jb_one (js_ret (jx_call I_size hr (Nat.le_refl _) tk (ja_cons (j_var 0) ja_nil) (hlen := (mCons_len mNil_len)))))
    jb_nil)
    (jb_cons (js_if (jt_cmp (op_eqA (hu64 hr)) om_eqA (j_var 1) j_int)
    (jb_one (js_ret (jx_call I_event_places hr (Nat.le_refl _) tk (ja_cons (j_var 0) ja_nil) (hlen := (mCons_len mNil_len)))))
    jb_nil)
    (jb_cons (js_if (jt_cmp (op_eqA (hu64 hr)) om_eqA (j_var 1) j_int)
    (jb_one (js_ret (jx_call I_evaluate hr (Nat.le_refl _) tk (ja_cons (j_var 0) (ja_cons j_non (ja_cons j_non ja_nil))) (hlen := (mCons_len (mCons_len (mCons_len mNil_len)))))))
    jb_nil)
    (jb_cons (js_if (jt_cmp (op_eqA (hu64 hr)) om_eqA (j_var 1) j_int)
    (jb_one (js_ret (jx_call I_call_tree hr (Nat.le_refl _) tk (ja_cons (j_var 0) (ja_cons (je_lst ja_nil) ja_nil)) (hlen := (mCons_len (mCons_len mNil_len))))))
    jb_nil)
    (jb_cons (js_if (jt_cmp (op_eqA (hu64 hr)) om_eqA (j_var 1) j_int)
    (jb_one (js_ret (jx_call I_form hr (Nat.le_refl _) tk (ja_cons (j_var 0) ja_nil) (hlen := (mCons_len mNil_len)))))
    jb_nil)
    (jb_cons (js_if (jt_cmp (op_eqA (hu64 hr)) om_eqA (j_var 1) j_int)
    (jb_one (js_ret (jx_call I_parting hr (Nat.le_refl _) tk (ja_cons (je_tup (ja_cons j_str (ja_cons j_str ja_nil))) (ja_cons (j_var 0) ja_nil)) (hlen := (mCons_len (mCons_len mNil_len))))))
    jb_nil)
    (jb_one (js_ret (jx_call I_expression_text hr (Nat.le_refl _) tk (ja_cons (j_var 0) ja_nil) (hlen := (mCons_len mNil_len)))))))))))))
abbrev s_l_refused : Stmt := topS 91
theorem sc_l_refused : FnScope ["_law_value", "_law_way", "_law_caught", "e"] ["_law_value", "_law_way"] (defScope s_l_refused) := ⟨rfl, rfl, rfl, by decide +kernel, rfl, by decide +kernel, by decide +kernel⟩
noncomputable def b_l_refused (ck : Fnm → MF) : MS := (mSeq (mAsg (mC .non) (nName 2))
    (mSeq (mTryK p_OperandError 3 2 (mDrop (mCall (ck .l_asked) (mCons (mVar 0) (mCons (mVar 1) mNil)))))
    (mRet (mAnd (mIsx p_InvalidExpression (mVar 2)) (mIsx p_ValueError (mVar 2))))))
noncomputable def f_l_refused (ck : Fnm → MF) : MF := fun ds m => endOf (b_l_refused ck (startM 4 ds) m)
theorem ok_l_refused {P : Program} {w : World} {K : PySem.W.Frag} {mg : Str → Option Value} {base : Heap} {k : Nat} {f : Addr} {fd : FuncData} {ck : Fnm → MF} (Fu : Fun K "_law_refused" "_law_refused" s_l_refused f fd) (T : Txt K w mg) (I_l_asked : FnX M2 P w K mg base k "_law_asked" 2 (ck .l_asked)) :
    FnOk P w K mg base (M2.CX P w) (k + 1) f fd ["_law_value", "_law_way"] (spM K 2 (f_l_refused ck)) :=
  have nd := sc_l_refused.nd
  fnx_ok (M := M2) (g := b_l_refused ck) Fu sc_l_refused rfl (fun _ _ _ => rfl) fun cdv A outer s H E hr W tk hp =>
    (jb_cons (js_set 2 nd j_non)
    (jb_cons (jx_tryKN 3 2 rfl rfl rfl nd T.h_OperandError tk (fun W tk_pn xe tk hp => (jb_one (js_expr (jx_call I_l_asked hr (Nat.le_refl _) tk (ja_cons (j_var 0) (ja_cons (j_var 1) ja_nil)) (hlen := (mCons_len (mCons_len mNil_len))))))))
    (jb_one (js_ret (je_and (je_isxN (j_var 2) T.i_InvalidExpression T.b_isinstance) (je_one (je_isxN (j_var 2) T.i_ValueError T.b_isinstance)))))))
abbrev s_l_fits : Stmt := topS 92
theorem sc_l_fits : FnScope ["_law_value", "_law_parts_here", "_law_events", "_law_found", "_law_caught", "e", "_law_part", "_law_way", "_law_one"] ["_law_value"] (defScope s_l_fits) := ⟨rfl, rfl, rfl, by decide +kernel, rfl, by decide +kernel, by decide +kernel⟩
noncomputable def b_l_fits (ck : Fnm → MF) : MS := (mSeq (mIfS (mNotT (mTru (mCall (ck .l_is_expr) (mCons (mVar 0) mNil))))
    (mRet (mBin gEqE (mLc (mRng (mCons (mC (.int 9)) mNil)) (ngName 7) (mNotT (mTru (mCall (ck .l_refused) (mCons (mVar 0) (mCons (mVar 7) mNil))))) (mVar 7) [7]) (mLst mNil)))
    mSkip)
    (mSeq (mAsg (mCall (ck .l_parts) (mCons (mVar 0) mNil)) (nName 1))
    (mSeq (mAsg (mCall gLen (mCons (mLc (mAnyI (mVar 1)) (ngName 6) (mB (mBin (gEqA false) (mBin gItem (mVar 6) (mC (.int 0))) (mC (.str "call")))) (mVar 6) [6]) mNil)) (nName 2))
    (mSeq (mAsg (mBin gAdd (mVar 2) (mCall gSum (mCons (mLc (mAnyI (mVar 1)) (ngName 6) (mB (mBin (gEqA false) (mBin gItem (mVar 6) (mC (.int 0))) (mC (.str "compare")))) (mCall gLen (mCons (mBin gItem (mVar 6) (mC (.int 2))) mNil)) [6]) mNil))) (nName 2))
    (mSeq (mIfS (mOrT (mB (mBin gNotN (mCall (ck .check_expression) (mCons (mVar 0) mNil)) (mC .non))) (mB (mBin (gEqA true) (mCall (ck .variables) (mCons (mVar 0) mNil)) (mCall (ck .l_names) (mCons (mVar 0) mNil)))))
    (mRet (mC (.bl false)))
    mSkip)
    (mSeq (mAsg (mLst (mCons (mCall (ck .size) (mCons (mVar 0) mNil)) (mCons (mCall (ck .event_places) (mCons (mVar 0) mNil)) mNil))) (nName 3))
    (mSeq (mIfS (mOrT (mB (mBin (gEqA true) (mLc (mAnyI (mVar 3)) (ngName 8) (mTru (mIsi "bool" (mVar 8))) (mVar 8) [8]) (mLst mNil))) (mB (mBin (gEqA true) (mVar 3) (mLst (mCons (mCall gLen (mCons (mVar 1) mNil)) (mCons (mVar 2) mNil))))))
    (mRet (mC (.bl false)))
    mSkip)
    (mSeq (mAsg (mC .non) (nName 4))
    (mSeq (mTryK p_InvalidWorld 5 4 (mDrop (mCall (ck .evaluate) (mCons (mVar 0) (mCons (mC .non) (mCons (mC .non) mNil))))))
    (mRet (mBin gNotN (mVar 4) (mC .non))))))))))))
noncomputable def f_l_fits (ck : Fnm → MF) : MF := fun ds m => endOf (b_l_fits ck (startM 9 ds) m)
theorem ok_l_fits {P : Program} {w : World} {K : PySem.W.Frag} {mg : Str → Option Value} {base : Heap} {k : Nat} {f : Addr} {fd : FuncData} {ck : Fnm → MF} (Fu : Fun K "_law_fits" "_law_fits" s_l_fits f fd) (T : Txt K w mg) (I_l_is_expr : FnX M2 P w K mg base k "_law_is_expr" 1 (ck .l_is_expr)) (I_l_names : FnX M2 P w K mg base k "_law_names" 1 (ck .l_names)) (I_l_parts : FnX M2 P w K mg base k "_law_parts" 1 (ck .l_parts)) (I_l_refused : FnX M2 P w K mg base k "_law_refused" 2 (ck .l_refused)) (I_check_expression : FnX M2 P w K mg base k "check_expression" 1 (ck .check_expression)) (I_evaluate : FnX M2 P w K mg base k "evaluate" 3 (ck .evaluate)) (I_event_places : FnX M2 P w K mg base k "event_places" 1 (ck .event_places)) (I_size : FnX M2 P w K mg base k "size" 1 (ck .size)) (I_variables : FnX M2 P w K mg base k "variables" 1 (ck .variables)) :
    FnOk P w K mg base (M2.CX P w) (k + 1) f fd ["_law_value"] (spM K 1 (f_l_fits ck)) :=
  have nd := sc_l_fits.nd
  fnx_ok (M := M2) (g := b_l_fits ck) Fu sc_l_fits rfl (fun _ _ _ => rfl) fun cdv A outer s H E hr W tk hp =>
    (jb_cons (js_if (jt_not (jt_tru (jx_call I_l_is_expr hr (Nat.le_refl _) tk (ja_cons (j_var 0) ja_nil) (hlen := (mCons_len mNil_len)))))
    (jb_one (js_ret (j_cmp (op_eqE (hu0 hr)) om_eqE (je_lc [("_law_way", 7)] rfl rfl nd (ji_rng1 T.b_range (ja_cons j_int ja_nil)) (blkOk_by (N := ["_law_value", "_law_parts_here", "_law_events", "_law_found", "_law_caught", "e", "_law_part", "_law_way", "_law_one"]) (sc := defScope s_l_fits) (by decide +kernel)) (fun _ _ _ _ _ => (jn_name 7 nd)) (fun _ _ _ _ _ => (jts_one (jt_not (jt_tru (jx_call I_l_refused hr (Nat.le_refl _) M2.tk0 (ja_cons (j_var 0) (ja_cons (j_var 7) ja_nil)) (hlen := (mCons_len (mCons_len mNil_len)))))))) (fun _ _ _ _ _ => (j_var 7)) (hgs_name)) (je_lst ja_nil))))
    jb_nil)
    (jb_cons (js_set 1 nd (jx_call I_l_parts hr (Nat.le_refl _) tk (ja_cons (j_var 0) ja_nil) (hlen := (mCons_len mNil_len))))
    (jb_cons (js_set 2 nd (je_callB cr_len cm_len T.b_len PySem.boot_len (ja_cons (je_lc [("_law_part", 6)] rfl rfl nd (ji_any (j_var 1)) (blkOk_by (N := ["_law_value", "_law_parts_here", "_law_events", "_law_found", "_law_caught", "e", "_law_part", "_law_way", "_law_one"]) (sc := defScope s_l_fits) (by decide +kernel)) (fun _ _ _ _ _ => (jn_name 6 nd)) (fun _ _ _ _ _ => (jts_one (jt_cmp (op_eqA (hu64 hr)) om_eqA (je_item (hu1 hr) (j_var 6) j_int) j_str))) (fun _ _ _ _ _ => (j_var 6)) (hgs_name)) ja_nil)))
    (jb_cons (js_set 2 nd (j_op op_addA om_add (j_var 2) (je_callB (cr_sum rfl) cm_sum T.b_sum (by decide +kernel) (ja_cons (je_lc [("_law_part", 6)] rfl rfl nd (ji_any (j_var 1)) (blkOk_by (N := ["_law_value", "_law_parts_here", "_law_events", "_law_found", "_law_caught", "e", "_law_part", "_law_way", "_law_one"]) (sc := defScope s_l_fits) (by decide +kernel)) (fun _ _ _ _ _ => (jn_name 6 nd)) (fun _ _ _ _ _ => (jts_one (jt_cmp (op_eqA (hu64 hr)) om_eqA (je_item (hu1 hr) (j_var 6) j_int) j_str))) (fun _ _ _ _ _ => (je_callB cr_len cm_len T.b_len PySem.boot_len (ja_cons (je_item (hu1 hr) (j_var 6) j_int) ja_nil))) (hgs_name)) ja_nil))))
    (jb_cons (js_if (jw_or (jt_cmp op_notN om_notN (jx_call I_check_expression hr (Nat.le_refl _) tk (ja_cons (j_var 0) ja_nil) (hlen := (mCons_len mNil_len))) j_non) (jw_or1 (jt_cmp (op_neA (hu64 hr)) om_neA (jx_call I_variables hr (Nat.le_refl _) tk (ja_cons (j_var 0) ja_nil) (hlen := (mCons_len mNil_len))) (jx_call I_l_names hr (Nat.le_refl _) tk (ja_cons (j_var 0) ja_nil) (hlen := (mCons_len mNil_len)))))).jt
    (jb_one (js_ret j_bl))
    jb_nil)
    (jb_cons (js_set 3 nd (je_lst (ja_cons (jx_call I_size hr (Nat.le_refl _) tk (ja_cons (j_var 0) ja_nil) (hlen := (mCons_len mNil_len))) (ja_cons (jx_call I_event_places hr (Nat.le_refl _) tk (ja_cons (j_var 0) ja_nil) (hlen := (mCons_len mNil_len))) ja_nil))))
    (jb_cons (js_if (jw_or (jt_cmp (op_neA (hu64 hr)) om_neA (je_lc [("_law_one", 8)] rfl rfl nd (ji_any (j_var 3)) (blkOk_by (N := ["_law_value", "_law_parts_here", "_law_events", "_law_found", "_law_caught", "e", "_law_part", "_law_way", "_law_one"]) (sc := defScope s_l_fits) (by decide +kernel)) (fun _ _ _ _ _ => (jn_name 8 nd)) (fun _ _ _ _ _ => (jts_one (jt_tru (je_isi "bool" (j_var 8) T.b_isinstance T.b_bool (by decide +kernel))))) (fun _ _ _ _ _ => (j_var 8)) (hgs_name)) (je_lst ja_nil)) (jw_or1 (jt_cmp (op_neA (hu64 hr)) om_neA (j_var 3) (je_lst (ja_cons (je_callB cr_len cm_len T.b_len PySem.boot_len (ja_cons (j_var 1) ja_nil)) (ja_cons (j_var 2) ja_nil)))))).jt
    (jb_one (js_ret j_bl))
    jb_nil)
    (jb_cons (js_set 4 nd j_non)
    (jb_cons (jx_tryKN 5 4 rfl rfl rfl nd T.h_InvalidWorld tk (fun W tk_pn xe tk hp => (jb_one (js_expr (jx_call I_evaluate hr (Nat.le_refl _) tk (ja_cons (j_var 0) (ja_cons j_non (ja_cons j_non ja_nil))) (hlen := (mCons_len (mCons_len (mCons_len mNil_len)))))))))
    (jb_one (js_ret (j_cmp op_notN om_notN (j_var 4) j_non))))))))))))
abbrev s_l_bounds : Stmt := topS 93
theorem sc_l_bounds : FnScope ["_law_name", "_law_call", "_law_chain", "_law_found", "_law_level", "_law_wide", "_law_turn", "_law_last", "_law_names_here", "_law_four", "_law_three", "_law_links", "_law_words", "_law_word", "_law_letter", "_law_k"] [] (defScope s_l_bounds) := ⟨rfl, rfl, rfl, by decide +kernel, rfl, by decide +kernel, by decide +kernel⟩
noncomputable def b_l_bounds (ck : Fnm → MF) : MS := (mSeq (mAsg (mTup (mCons (mTup (mCons (mC (.str "name")) (mCons (mC (.str "a")) mNil))) (mCons (mTup (mCons (mC (.str "call")) (mCons (mC (.str "f")) (mCons (mTup mNil) mNil)))) mNil))) (nTup 2 (nCons (nName 0) (nCons (nName 1) nNil))))
    (mSeq (mAsg (mVar 0) (nName 2))
    (mSeq (mAsg (mLst mNil) (nName 3))
    (mSeq (mFor (mRng2 (mCons (mC (.int 2)) (mCons (mC (.int 15)) mNil))) (nName 4)
    (mSeq (mAsg (mTup (mCons (mC (.str "not")) (mCons (mVar 2) mNil))) (nName 2))
    (mDrop (mBM gAppend (mVar 3) (mCons (mVar 2) mNil)))))
    (mSeq (mAsg (mTup (mCons (mC (.str "and")) (mCons (mVar 0) (mCons (mVar 0) mNil)))) (nName 5))
    (mSeq (mFor (mRng (mCons (mC (.int 3)) mNil)) (nName 6)
    (mAsg (mTup (mCons (mC (.str "or")) (mCons (mVar 5) (mCons (mVar 5) mNil)))) (nName 5)))
    (mSeq (mFor (mAnyI (mLst (mCons (mVar 0) (mCons (mTup (mCons (mC (.str "not")) (mCons (mVar 0) mNil))) (mCons (mTup (mCons (mC (.str "not")) (mCons (mTup (mCons (mC (.str "not")) (mCons (mVar 0) mNil))) mNil))) (mCons (mTup (mCons (mC (.str "not")) (mCons (mTup (mCons (mC (.str "not")) (mCons (mTup (mCons (mC (.str "not")) (mCons (mVar 0) mNil))) mNil))) mNil))) mNil)))))) (nName 7)
    (mDrop (mBM gAppend (mVar 3) (mCons (mTup (mCons (mC (.str "and")) (mCons (mVar 5) (mCons (mTup (mCons (mC (.str "if")) (mCons (mVar 0) (mCons (mVar 0) (mCons (mTup (mCons (mC (.str "if")) (mCons (mVar 0) (mCons (mVar 0) (mCons (mVar 7) mNil))))) mNil))))) mNil)))) mNil))))
    (mSeq (mAsg (mBin gAdd (mVar 3) (mLst (mCons (mTup (mCons (mC (.str "and")) (mCons (mVar 5) (mCons (mVar 5) mNil)))) (mCons (mTup (mCons (mC (.str "call")) (mCons (mC (.str "g")) (mCons (mTup (mCons (mVar 5) (mCons (mVar 0) mNil))) mNil)))) (mCons (mTup (mCons (mC (.str "compare")) (mCons (mVar 5) (mCons (mTup (mCons (mTup (mCons (mC (.str "<")) (mCons (mVar 0) mNil))) (mCons (mTup (mCons (mC (.str "<")) (mCons (mVar 0) mNil))) mNil))) mNil)))) mNil))))) (nName 3))
    (mSeq (mAsg (mLc (mAnyI (mC (.str "abcde"))) (ngName 14) mYes (mTup (mCons (mC (.str "name")) (mCons (mVar 14) mNil))) [14]) (nName 8))
    (mSeq (mAsg (mTup (mCons (mC (.str "or")) (mCons (mTup (mCons (mC (.str "and")) (mCons (mBin gItem (mVar 8) (mC (.int 0))) (mCons (mBin gItem (mVar 8) (mC (.int 1))) mNil)))) (mCons (mTup (mCons (mC (.str "and")) (mCons (mBin gItem (mVar 8) (mC (.int 2))) (mCons (mBin gItem (mVar 8) (mC (.int 3))) mNil)))) mNil)))) (nName 9))
    (mSeq (mAsg (mBin gAdd (mVar 3) (mLst (mCons (mVar 9) (mCons (mTup (mCons (mC (.str "or")) (mCons (mVar 9) (mCons (mBin gItem (mVar 8) (mC (.int 4))) mNil)))) (mCons (mTup (mCons (mC (.str "and")) (mCons (mVar 9) (mCons (mBin gItem (mVar 8) (mC (.int 0))) mNil)))) mNil))))) (nName 3))
    (mSeq (mAsg (mTup (mCons (mC (.str "call")) (mCons (mC (.str "f")) (mCons (mTup (mCons (mVar 1) (mCons (mVar 1) mNil))) mNil)))) (nName 10))
    (mSeq (mAsg (mBin gAdd (mVar 3) (mLst (mCons (mTup (mCons (mC (.str "and")) (mCons (mVar 10) (mCons (mVar 10) mNil)))) (mCons (mTup (mCons (mC (.str "and")) (mCons (mTup (mCons (mC (.str "and")) (mCons (mVar 10) (mCons (mVar 10) mNil)))) (mCons (mVar 1) mNil)))) (mCons (mTup (mCons (mC (.str "call")) (mCons (mC (.str "g")) (mCons (mTup (mCons (mVar 10) (mCons (mVar 1) (mCons (mVar 1) mNil)))) mNil)))) mNil))))) (nName 3))
    (mSeq (mAsg (mCall gTuple (mCons (mLc (mRng (mCons (mC (.int 4)) mNil)) (ngName 15) mYes (mTup (mCons (mC (.str "<")) (mCons (mVar 0) mNil))) [15]) mNil)) (nName 11))
    (mSeq (mAsg (mLst (mCons (mC (.str "and")) (mCons (mC (.str "or")) (mCons (mC (.str "not")) (mCons (mC (.str "if")) (mCons (mC (.str "else")) (mCons (mC (.str "is")) (mCons (mC (.str "none")) (mCons (mC (.str "true")) (mCons (mC (.str "false")) (mCons (mC (.str "set")) (mCons (mC (.str "give")) (mCons (mC (.str "try")) (mCons (mC (.str "except")) (mCons (mC (.str "end")) mNil))))))))))))))) (nName 12))
    (mSeq (mFor (mAnyI (mBin gAdd (mVar 12) (mLst (mCons (mC (.str "then")) (mCons (mC (.str "program")) (mCons (mC (.str "keep")) (mCons (mC (.str "self")) (mCons (mC (.str "name")) (mCons (mC (.str "yes")) (mCons (mC (.str "event")) (mCons (mC (.str "abcdefgh")) (mCons (mC (.str "abcdefghi")) mNil)))))))))))) (nName 13)
    (mAsg (mBin gAdd (mVar 3) (mLst (mCons (mTup (mCons (mC (.str "name")) (mCons (mVar 13) mNil))) (mCons (mTup (mCons (mC (.str "call")) (mCons (mVar 13) (mCons (mTup mNil) mNil)))) mNil)))) (nName 3)))
    (mSeq (mFor (mAnyI (mLst (mCons (mC (.str "a
")) (mCons (mC (.str "a ")) (mCons (mC (.str " a")) (mCons (mC (.str "	a")) (mCons (mC (.str "a	")) (mCons (mC (.str "a b")) mNil)))))))) (nName 13)
    (mAsg (mBin gAdd (mVar 3) (mLst (mCons (mTup (mCons (mC (.str "name")) (mCons (mVar 13) mNil))) (mCons (mTup (mCons (mC (.str "call")) (mCons (mVar 13) (mCons (mTup mNil) mNil)))) mNil)))) (nName 3)))
    (mRet (mBin gAdd (mVar 3) (mLst (mCons (mTup (mCons (mC (.str "compare")) (mCons (mVar 10) (mCons (mSl (mVar 11) mNo (mEnd (mC (.int 3)))) mNil)))) (mCons (mTup (mCons (mC (.str "compare")) (mCons (mVar 10) (mCons (mVar 11) mNil)))) (mCons (mTup (mCons (mC (.str "compare")) (mCons (mVar 1) (mCons (mVar 11) mNil)))) mNil)))))))))))))))))))))))
noncomputable def f_l_bounds (ck : Fnm → MF) : MF := fun ds m => endOf (b_l_bounds ck (startM 16 ds) m)
theorem ok_l_bounds {M : Mode} {P : Program} {w : World} {K : PySem.W.Frag} {mg : Str → Option Value} {base : Heap} {k : Nat} {f : Addr} {fd : FuncData} {ck : Fnm → MF} (Fu : Fun K "_law_bounds" "_law_bounds" s_l_bounds f fd) (T : Txt K w mg) :
    FnOk P w K mg base (M.CX P w) (k + 1) f fd [] (spM K 0 (f_l_bounds ck)) :=
  have nd := sc_l_bounds.nd
  fnx_ok (M := M) (g := b_l_bounds ck) Fu sc_l_bounds rfl (fun _ _ _ => rfl) fun cdv A outer s H E hr W tk hp =>
    (jb_cons (js_asg (je_tup (ja_cons (je_tup (ja_cons j_str (ja_cons j_str ja_nil))) (ja_cons (je_tup (ja_cons j_str (ja_cons j_str (ja_cons (je_tup ja_nil) ja_nil)))) ja_nil))) (jg_tup rfl (jgs_cons (jg_name 0 nd) (jgs_cons (jg_name 1 nd) jgs_nil))))
    (jb_cons (js_set 2 nd (j_var 0))
    (jb_cons (js_set 3 nd (je_lst ja_nil))
    (jb_cons (js_for hp rfl (ji_rng2 T.b_range (ja_cons j_int (ja_cons j_int ja_nil))) (jg_name 4 nd)
    (jb_cons (js_set 2 nd (je_tup (ja_cons j_str (ja_cons (j_var 2) ja_nil))))
    (jb_one (js_expr (je_bmL PySem.F.slot_list_append PySem.F.type_list_append mt_append mm_append (j_var 3) (ja_cons (j_var 2) ja_nil))))))
    (jb_cons (js_set 5 nd (je_tup (ja_cons j_str (ja_cons (j_var 0) (ja_cons (j_var 0) ja_nil)))))
    (jb_cons (js_for hp rfl (ji_rng1 T.b_range (ja_cons j_int ja_nil)) (jg_name 6 nd)
    (jb_one (js_set 5 nd (je_tup (ja_cons j_str (ja_cons (j_var 5) (ja_cons (j_var 5) ja_nil)))))))
    (jb_cons (js_for hp rfl (ji_any (je_lst (ja_cons (j_var 0) (ja_cons (je_tup (ja_cons j_str (ja_cons (j_var 0) ja_nil))) (ja_cons (je_tup (ja_cons j_str (ja_cons (je_tup (ja_cons j_str (ja_cons (j_var 0) ja_nil))) ja_nil))) (ja_cons (je_tup (ja_cons j_str (ja_cons (je_tup (ja_cons j_str (ja_cons (je_tup (ja_cons j_str (ja_cons (j_var 0) ja_nil))) ja_nil))) ja_nil))) ja_nil)))))) (jg_name 7 nd)
    (jb_one (js_expr (je_bmL PySem.F.slot_list_append PySem.F.type_list_append mt_append mm_append (j_var 3) (ja_cons (je_tup (ja_cons j_str (ja_cons (j_var 5) (ja_cons (je_tup (ja_cons j_str (ja_cons (j_var 0) (ja_cons (j_var 0) (ja_cons (je_tup (ja_cons j_str (ja_cons (j_var 0) (ja_cons (j_var 0) (ja_cons (j_var 7) ja_nil))))) ja_nil))))) ja_nil)))) ja_nil)))))
    (jb_cons (js_set 3 nd (j_op op_addA om_add (j_var 3) (je_lst (ja_cons (je_tup (ja_cons j_str (ja_cons (j_var 5) (ja_cons (j_var 5) ja_nil)))) (ja_cons (je_tup (ja_cons j_str (ja_cons j_str (ja_cons (je_tup (ja_cons (j_var 5) (ja_cons (j_var 0) ja_nil))) ja_nil)))) (ja_cons (je_tup (ja_cons j_str (ja_cons (j_var 5) (ja_cons (je_tup (ja_cons (je_tup (ja_cons j_str (ja_cons (j_var 0) ja_nil))) (ja_cons (je_tup (ja_cons j_str (ja_cons (j_var 0) ja_nil))) ja_nil))) ja_nil)))) ja_nil))))))
    (jb_cons (js_setLc 8 [("_law_letter", 14)] rfl rfl nd (ji_any j_str) (blkOk_by (N := ["_law_name", "_law_call", "_law_chain", "_law_found", "_law_level", "_law_wide", "_law_turn", "_law_last", "_law_names_here", "_law_four", "_law_three", "_law_links", "_law_words", "_law_word", "_law_letter", "_law_k"]) (sc := defScope s_l_bounds) (by decide +kernel)) (fun _ _ _ _ _ => (jn_name 14 nd)) (fun _ _ _ _ _ => jts_nil) (fun _ _ _ _ _ => (je_tup (ja_cons j_str (ja_cons (j_var 14) ja_nil)))) (hgs_name))
    (jb_cons (js_set 9 nd (je_tup (ja_cons j_str (ja_cons (je_tup (ja_cons j_str (ja_cons (je_item (hu1 hr) (j_var 8) j_int) (ja_cons (je_item (hu1 hr) (j_var 8) j_int) ja_nil)))) (ja_cons (je_tup (ja_cons j_str (ja_cons (je_item (hu1 hr) (j_var 8) j_int) (ja_cons (je_item (hu1 hr) (j_var 8) j_int) ja_nil)))) ja_nil)))))
    (jb_cons (js_set 3 nd (j_op op_addA om_add (j_var 3) (je_lst (ja_cons (j_var 9) (ja_cons (je_tup (ja_cons j_str (ja_cons (j_var 9) (ja_cons (je_item (hu1 hr) (j_var 8) j_int) ja_nil)))) (ja_cons (je_tup (ja_cons j_str (ja_cons (j_var 9) (ja_cons (je_item (hu1 hr) (j_var 8) j_int) ja_nil)))) ja_nil))))))
    (jb_cons (js_set 10 nd (je_tup (ja_cons j_str (ja_cons j_str (ja_cons (je_tup (ja_cons (j_var 1) (ja_cons (j_var 1) ja_nil))) ja_nil)))))
    (jb_cons (js_set 3 nd (j_op op_addA om_add (j_var 3) (je_lst (ja_cons (je_tup (ja_cons j_str (ja_cons (j_var 10) (ja_cons (j_var 10) ja_nil)))) (ja_cons (je_tup (ja_cons j_str (ja_cons (je_tup (ja_cons j_str (ja_cons (j_var 10) (ja_cons (j_var 10) ja_nil)))) (ja_cons (j_var 1) ja_nil)))) (ja_cons (je_tup (ja_cons j_str (ja_cons j_str (ja_cons (je_tup (ja_cons (j_var 10) (ja_cons (j_var 1) (ja_cons (j_var 1) ja_nil)))) ja_nil)))) ja_nil))))))
    (jb_cons (js_set 11 nd (je_callTy call_tuple_of cm_tuple T.b_tuple (by decide +kernel) (ja_cons (je_lc [("_law_k", 15)] rfl rfl nd (ji_rng1 T.b_range (ja_cons j_int ja_nil)) (blkOk_by (N := ["_law_name", "_law_call", "_law_chain", "_law_found", "_law_level", "_law_wide", "_law_turn", "_law_last", "_law_names_here", "_law_four", "_law_three", "_law_links", "_law_words", "_law_word", "_law_letter", "_law_k"]) (sc := defScope s_l_bounds) (by decide +kernel)) (fun _ _ _ _ _ => (jn_name 15 nd)) (fun _ _ _ _ _ => jts_nil) (fun _ _ _ _ _ => (je_tup (ja_cons j_str (ja_cons (j_var 0) ja_nil)))) (hgs_name)) ja_nil)))
    (jb_cons (js_set 12 nd (je_lst (ja_cons j_str (ja_cons j_str (ja_cons j_str (ja_cons j_str (ja_cons j_str (ja_cons j_str (ja_cons j_str (ja_cons j_str (ja_cons j_str (ja_cons j_str (ja_cons j_str (ja_cons j_str (ja_cons j_str (ja_cons j_str ja_nil))))))))))))))))
    (jb_cons (js_for hp rfl (ji_any (j_op op_addA om_add (j_var 12) (je_lst (ja_cons j_str (ja_cons j_str (ja_cons j_str (ja_cons j_str (ja_cons j_str (ja_cons j_str (ja_cons j_str (ja_cons j_str (ja_cons j_str ja_nil)))))))))))) (jg_name 13 nd)
    (jb_one (js_set 3 nd (j_op op_addA om_add (j_var 3) (je_lst (ja_cons (je_tup (ja_cons j_str (ja_cons (j_var 13) ja_nil))) (ja_cons (je_tup (ja_cons j_str (ja_cons (j_var 13) (ja_cons (je_tup ja_nil) ja_nil)))) ja_nil)))))))
    (jb_cons (js_for hp rfl (ji_any (je_lst (ja_cons j_str (ja_cons j_str (ja_cons j_str (ja_cons j_str (ja_cons j_str (ja_cons j_str ja_nil)))))))) (jg_name 13 nd)
    (jb_one (js_set 3 nd (j_op op_addA om_add (j_var 3) (je_lst (ja_cons (je_tup (ja_cons j_str (ja_cons (j_var 13) ja_nil))) (ja_cons (je_tup (ja_cons j_str (ja_cons (j_var 13) (ja_cons (je_tup ja_nil) ja_nil)))) ja_nil)))))))
    (jb_one (js_ret (j_op op_addA om_add (j_var 3) (je_lst (ja_cons (je_tup (ja_cons j_str (ja_cons (j_var 10) (ja_cons (je_sl (j_var 11) jo_no (jo_end j_int)) ja_nil)))) (ja_cons (je_tup (ja_cons j_str (ja_cons (j_var 10) (ja_cons (j_var 11) ja_nil)))) (ja_cons (je_tup (ja_cons j_str (ja_cons (j_var 1) (ja_cons (j_var 11) ja_nil)))) ja_nil))))))))))))))))))))))))
abbrev s_law : Stmt := topS 94
theorem sc_law : FnScope ["_law_script", "_law_source_here", "_law_value", "_law_turn", "_law_expr_here"] ["_law_script"] (defScope s_law) := ⟨rfl, rfl, rfl, by decide +kernel, rfl, by decide +kernel, by decide +kernel⟩
noncomputable def b_law (ck : Fnm → MF) : MS := (mSeq (mAsg (mCall (ck .l_source) (mCons (mVar 0) mNil)) (nName 1))
    (mSeq (mFor (mAnyI (mCall (ck .l_bounds) mNil)) (nName 2)
    (mIfS (mNotT (mTru (mCall (ck .l_fits) (mCons (mVar 2) mNil))))
    (mRet (mC (.bl false)))
    mSkip))
    (mSeq (mFor (mRng (mCons (mC (.int 30)) mNil)) (nName 3)
    (mSeq (mAsg (mCall (ck .l_any_expr) (mCons (mVar 1) mNil)) (nName 4))
    (mIfS (mOrT (mNotT (mTru (mCall (ck .l_fits) (mCons (mVar 4) mNil)))) (mNotT (mTru (mCall (ck .l_fits) (mCons (mCall (ck .l_bent) (mCons (mVar 1) (mCons (mVar 4) mNil))) mNil)))))
    (mRet (mC (.bl false)))
    mSkip)))
    (mRet (mC (.bl true))))))
noncomputable def f_law (ck : Fnm → MF) : MF := fun ds m => endOf (b_law ck (startM 5 ds) m)
theorem ok_law {M : Mode} {P : Program} {w : World} {K : PySem.W.Frag} {mg : Str → Option Value} {base : Heap} {k : Nat} {f : Addr} {fd : FuncData} {ck : Fnm → MF} (Fu : Fun K "law" "law" s_law f fd) (T : Txt K w mg) (I_l_any_expr : FnX M P w K mg base k "_law_any_expr" 1 (ck .l_any_expr)) (I_l_bent : FnX M P w K mg base k "_law_bent" 2 (ck .l_bent)) (I_l_bounds : FnX M P w K mg base k "_law_bounds" 0 (ck .l_bounds)) (I_l_fits : FnX M P w K mg base k "_law_fits" 1 (ck .l_fits)) (I_l_source : FnX M P w K mg base k "_law_source" 1 (ck .l_source)) :
    FnOk P w K mg base (M.CX P w) (k + 1) f fd ["_law_script"] (spM K 1 (f_law ck)) :=
  have nd := sc_law.nd
  fnx_ok (M := M) (g := b_law ck) Fu sc_law rfl (fun _ _ _ => rfl) fun cdv A outer s H E hr W tk hp =>
    (jb_cons (js_set 1 nd (jx_call I_l_source hr (Nat.le_refl _) tk (ja_cons (j_var 0) ja_nil) (hlen := (mCons_len mNil_len))))
    (jb_cons (js_for hp rfl (ji_any (jx_call0 I_l_bounds hr (Nat.le_refl _) tk)) (jg_name 2 nd)
    (jb_one (js_if (jt_not (jt_tru (jx_call I_l_fits hr (Nat.le_refl _) tk (ja_cons (j_var 2) ja_nil) (hlen := (mCons_len mNil_len)))))
    (jb_one (js_ret j_bl))
    jb_nil)))
    (jb_cons (js_for hp rfl (ji_rng1 T.b_range (ja_cons j_int ja_nil)) (jg_name 3 nd)
    (jb_cons (js_set 4 nd (jx_call I_l_any_expr hr (Nat.le_refl _) tk (ja_cons (j_var 1) ja_nil) (hlen := (mCons_len mNil_len))))
    (jb_one (js_if (jw_or (jt_not (jt_tru (jx_call I_l_fits hr (Nat.le_refl _) tk (ja_cons (j_var 4) ja_nil) (hlen := (mCons_len mNil_len))))) (jw_or1 (jt_not (jt_tru (jx_call I_l_fits hr (Nat.le_refl _) tk (ja_cons (jx_call I_l_bent hr (Nat.le_refl _) tk (ja_cons (j_var 1) (ja_cons (j_var 4) ja_nil)) (hlen := (mCons_len (mCons_len mNil_len)))) ja_nil) (hlen := (mCons_len mNil_len))))))).jt
    (jb_one (js_ret j_bl))
    jb_nil))))
    (jb_one (js_ret j_bl)))))
structure Defs (K : PySem.W.Frag) (mg : Str → Option Value) : Prop where
  is_name : DefAt K mg "is_name" s_is_name ["value"]
  check_expression : DefAt K mg "check_expression" s_check_expression ["expr"]
  u_has_form : DefAt K mg "_has_form" s_u_has_form ["value"]
  u_is_tuple : DefAt K mg "_is_tuple" s_u_is_tuple ["value", "least", "most"]
  u_are_links : DefAt K mg "_are_links" s_u_are_links ["values"]
  operands : DefAt K mg "operands" s_operands ["expr"]
  with_operands : DefAt K mg "with_operands" s_with_operands ["expr", "parts"]
  all_parts : DefAt K mg "all_parts" s_all_parts ["expr"]
  variables_of : DefAt K mg "variables_of" s_variables_of ["exprs"]
  places_of : DefAt K mg "places_of" s_places_of ["expr"]
  u_own_places : DefAt K mg "_own_places" s_u_own_places ["expr"]
  variables : DefAt K mg "variables" s_variables ["expr"]
  size : DefAt K mg "size" s_size ["expr"]
  event_places : DefAt K mg "event_places" s_event_places ["expr"]
  check_kinds : DefAt K mg "check_kinds" s_check_kinds ["kinds", "names"]
  run_once : DefAt K mg "run_once" s_run_once ["expr", "kinds", "answers"]
  evaluate : DefAt K mg "evaluate" s_evaluate ["expr", "kinds", "answers"]
  call_tree : DefAt K mg "call_tree" s_call_tree ["expr", "kinds"]
  check_surveyable : DefAt K mg "check_surveyable" s_check_surveyable ["exprs"]
  parting : DefAt K mg "parting" s_parting ["one", "other"]
  u_least_parting : DefAt K mg "_least_parting" s_u_least_parting ["one", "other", "as_test"]
  form : DefAt K mg "form" s_form ["expr"]
  expression_text : DefAt K mg "expression_text" s_expression_text ["expr"]
  l_source : DefAt K mg "_law_source" s_l_source ["_law_script"]
  l_draw : DefAt K mg "_law_draw" s_l_draw ["_law_source_here", "_law_limit"]
  l_pick : DefAt K mg "_law_pick" s_l_pick ["_law_source_here", "_law_values"]
  l_leaf : DefAt K mg "_law_leaf" s_l_leaf ["_law_source_here", "_law_room"]
  l_seen_part : DefAt K mg "_law_seen_part" s_l_seen_part ["_law_source_here", "_law_room", "_law_deep"]
  l_expr : DefAt K mg "_law_expr" s_l_expr ["_law_source_here", "_law_room", "_law_deep"]
  l_any_expr : DefAt K mg "_law_any_expr" s_l_any_expr ["_law_source_here"]
  l_operands : DefAt K mg "_law_operands" s_l_operands ["_law_expr_here"]
  l_parts : DefAt K mg "_law_parts" s_l_parts ["_law_expr_here"]
  l_names : DefAt K mg "_law_names" s_l_names ["_law_expr_here"]
  l_is_name : DefAt K mg "_law_is_name" s_l_is_name ["_law_value"]
  l_is_link : DefAt K mg "_law_is_link" s_l_is_link ["_law_value", "_law_levels"]
  l_has_form : DefAt K mg "_law_has_form" s_l_has_form ["_law_value", "_law_levels"]
  l_is_expr : DefAt K mg "_law_is_expr" s_l_is_expr ["_law_value"]
  l_odd : DefAt K mg "_law_odd" s_l_odd ["_law_source_here", "_law_part"]
  l_bent : DefAt K mg "_law_bent" s_l_bent ["_law_source_here", "_law_expr_here"]
  l_asked : DefAt K mg "_law_asked" s_l_asked ["_law_value", "_law_way"]
  l_refused : DefAt K mg "_law_refused" s_l_refused ["_law_value", "_law_way"]
  l_fits : DefAt K mg "_law_fits" s_l_fits ["_law_value"]
  l_bounds : DefAt K mg "_law_bounds" s_l_bounds []
  law : DefAt K mg "law" s_law ["_law_script"]
noncomputable def bodyOf (ck : Fnm → MF) : Fnm → MF
  | .is_name => f_is_name ck
  | .check_expression => f_check_expression ck
  | .u_has_form => f_u_has_form ck
  | .u_is_tuple => f_u_is_tuple ck
  | .u_are_links => f_u_are_links ck
  | .operands => f_operands ck
  | .with_operands => f_with_operands ck
  | .all_parts => f_all_parts ck
  | .variables_of => f_variables_of ck
  | .places_of => f_places_of ck
  | .u_own_places => f_u_own_places ck
  | .variables => f_variables ck
  | .size => f_size ck
  | .event_places => f_event_places ck
  | .check_kinds => f_check_kinds ck
  | .run_once => f_run_once ck
  | .evaluate => f_evaluate ck
  | .call_tree => f_call_tree ck
  | .check_surveyable => f_check_surveyable ck
  | .parting => f_parting ck
  | .u_least_parting => f_u_least_parting ck
  | .form => f_form ck
  | .expression_text => f_expression_text ck
  | .l_source => f_l_source ck
  | .l_draw => f_l_draw ck
  | .l_pick => f_l_pick ck
  | .l_leaf => f_l_leaf ck
  | .l_seen_part => f_l_seen_part ck
  | .l_expr => f_l_expr ck
  | .l_any_expr => f_l_any_expr ck
  | .l_operands => f_l_operands ck
  | .l_parts => f_l_parts ck
  | .l_names => f_l_names ck
  | .l_is_name => f_l_is_name ck
  | .l_is_link => f_l_is_link ck
  | .l_has_form => f_l_has_form ck
  | .l_is_expr => f_l_is_expr ck
  | .l_odd => f_l_odd ck
  | .l_bent => f_l_bent ck
  | .l_asked => f_l_asked ck
  | .l_refused => f_l_refused ck
  | .l_fits => f_l_fits ck
  | .l_bounds => f_l_bounds ck
  | .law => f_law ck
  | _ => fun _ _ => .stuck
noncomputable def Tab : Nat → Fnm → MF := fun k => Nat.rec (fun _ _ _ => .stuck) (fun _ ih => bodyOf ih) k
structure OkN (M : Mode) (P : Program) (w : World) (K : PySem.W.Frag) (mg : Str → Option Value) (base : Heap) (k : Nat) : Prop where
  is_name : FnX M P w K mg base k "is_name" 1 (Tab k .is_name)
  check_expression : FnX M P w K mg base k "check_expression" 1 (Tab k .check_expression)
  u_has_form : FnX M P w K mg base k "_has_form" 1 (Tab k .u_has_form)
  u_is_tuple : FnX M P w K mg base k "_is_tuple" 3 (Tab k .u_is_tuple)
  u_are_links : FnX M P w K mg base k "_are_links" 1 (Tab k .u_are_links)
  operands : FnX M P w K mg base k "operands" 1 (Tab k .operands)
  with_operands : FnX M P w K mg base k "with_operands" 2 (Tab k .with_operands)
  all_parts : FnX M P w K mg base k "all_parts" 1 (Tab k .all_parts)
  variables_of : FnX M P w K mg base k "variables_of" 1 (Tab k .variables_of)
  places_of : FnX M P w K mg base k "places_of" 1 (Tab k .places_of)
  u_own_places : FnX M P w K mg base k "_own_places" 1 (Tab k .u_own_places)
  variables : FnX M P w K mg base k "variables" 1 (Tab k .variables)
  size : FnX M P w K mg base k "size" 1 (Tab k .size)
  event_places : FnX M P w K mg base k "event_places" 1 (Tab k .event_places)
  check_kinds : FnX M P w K mg base k "check_kinds" 2 (Tab k .check_kinds)
  run_once : FnX M P w K mg base k "run_once" 3 (Tab k .run_once)
  evaluate : FnX M P w K mg base k "evaluate" 3 (Tab k .evaluate)
  call_tree : FnX M P w K mg base k "call_tree" 2 (Tab k .call_tree)
  check_surveyable : FnX M P w K mg base k "check_surveyable" 1 (Tab k .check_surveyable)
  parting : FnX M P w K mg base k "parting" 2 (Tab k .parting)
  u_least_parting : FnX M P w K mg base k "_least_parting" 3 (Tab k .u_least_parting)
  form : FnX M P w K mg base k "form" 1 (Tab k .form)
  expression_text : FnX M P w K mg base k "expression_text" 1 (Tab k .expression_text)
  l_source : FnX M P w K mg base k "_law_source" 1 (Tab k .l_source)
  l_draw : FnX M P w K mg base k "_law_draw" 2 (Tab k .l_draw)
  l_pick : FnX M P w K mg base k "_law_pick" 2 (Tab k .l_pick)
  l_leaf : FnX M P w K mg base k "_law_leaf" 2 (Tab k .l_leaf)
  l_seen_part : FnX M P w K mg base k "_law_seen_part" 3 (Tab k .l_seen_part)
  l_expr : FnX M P w K mg base k "_law_expr" 3 (Tab k .l_expr)
  l_any_expr : FnX M P w K mg base k "_law_any_expr" 1 (Tab k .l_any_expr)
  l_operands : FnX M P w K mg base k "_law_operands" 1 (Tab k .l_operands)
  l_parts : FnX M P w K mg base k "_law_parts" 1 (Tab k .l_parts)
  l_names : FnX M P w K mg base k "_law_names" 1 (Tab k .l_names)
  l_is_name : FnX M P w K mg base k "_law_is_name" 1 (Tab k .l_is_name)
  l_is_link : FnX M P w K mg base k "_law_is_link" 2 (Tab k .l_is_link)
  l_has_form : FnX M P w K mg base k "_law_has_form" 2 (Tab k .l_has_form)
  l_is_expr : FnX M P w K mg base k "_law_is_expr" 1 (Tab k .l_is_expr)
  l_odd : FnX M P w K mg base k "_law_odd" 2 (Tab k .l_odd)
  l_bent : FnX M P w K mg base k "_law_bent" 2 (Tab k .l_bent)
  l_asked : FnX M P w K mg base k "_law_asked" 2 (Tab k .l_asked)
  l_bounds : FnX M P w K mg base k "_law_bounds" 0 (Tab k .l_bounds)
theorem okN (M : Mode) {P : Program} {w : World} {K : PySem.W.Frag} {mg : Str → Option Value} {base : Heap} (D : Defs K mg) (T : Txt K w mg) : ∀ k, OkN M P w K mg base k
  | 0 => ⟨D.is_name.fn0 rfl, D.check_expression.fn0 rfl, D.u_has_form.fn0 rfl, D.u_is_tuple.fn0 rfl, D.u_are_links.fn0 rfl, D.operands.fn0 rfl, D.with_operands.fn0 rfl, D.all_parts.fn0 rfl, D.variables_of.fn0 rfl, D.places_of.fn0 rfl, D.u_own_places.fn0 rfl, D.variables.fn0 rfl, D.size.fn0 rfl, D.event_places.fn0 rfl, D.check_kinds.fn0 rfl, D.run_once.fn0 rfl, D.evaluate.fn0 rfl, D.call_tree.fn0 rfl, D.check_surveyable.fn0 rfl, D.parting.fn0 rfl, D.u_least_parting.fn0 rfl, D.form.fn0 rfl, D.expression_text.fn0 rfl, D.l_source.fn0 rfl, D.l_draw.fn0 rfl, D.l_pick.fn0 rfl, D.l_leaf.fn0 rfl, D.l_seen_part.fn0 rfl, D.l_expr.fn0 rfl, D.l_any_expr.fn0 rfl, D.l_operands.fn0 rfl, D.l_parts.fn0 rfl, D.l_names.fn0 rfl, D.l_is_name.fn0 rfl, D.l_is_link.fn0 rfl, D.l_has_form.fn0 rfl, D.l_is_expr.fn0 rfl, D.l_odd.fn0 rfl, D.l_bent.fn0 rfl, D.l_asked.fn0 rfl, D.l_bounds.fn0 rfl⟩
  | k + 1 =>
    have h := okN M D T k
    ⟨D.is_name.fnx fun f fd Fu => ok_is_name (ck := Tab k) Fu T,
     D.check_expression.fnx fun f fd Fu => ok_check_expression (ck := Tab k) Fu T h.u_has_form h.u_own_places h.operands,
     D.u_has_form.fnx fun f fd Fu => ok_u_has_form (ck := Tab k) Fu T h.u_are_links h.u_is_tuple h.is_name,
     D.u_is_tuple.fnx fun f fd Fu => ok_u_is_tuple (ck := Tab k) Fu T,
     D.u_are_links.fnx fun f fd Fu => ok_u_are_links (ck := Tab k) Fu T h.u_is_tuple,
     D.operands.fnx fun f fd Fu => ok_operands (ck := Tab k) Fu T,
     D.with_operands.fnx fun f fd Fu => ok_with_operands (ck := Tab k) Fu T,
     D.all_parts.fnx fun f fd Fu => ok_all_parts (ck := Tab k) Fu T h.all_parts h.operands,
     D.variables_of.fnx fun f fd Fu => ok_variables_of (ck := Tab k) Fu T h.all_parts,
     D.places_of.fnx fun f fd Fu => ok_places_of (ck := Tab k) Fu T h.u_own_places h.all_parts,
     D.u_own_places.fnx fun f fd Fu => ok_u_own_places (ck := Tab k) Fu T,
     D.variables.fnx fun f fd Fu => ok_variables (ck := Tab k) Fu T h.check_expression h.variables_of,
     D.size.fnx fun f fd Fu => ok_size (ck := Tab k) Fu T h.all_parts h.check_expression,
     D.event_places.fnx fun f fd Fu => ok_event_places (ck := Tab k) Fu T h.check_expression h.places_of,
     D.check_kinds.fnx fun f fd Fu => ok_check_kinds (ck := Tab k) Fu T,
     D.run_once.fnx fun f fd Fu => ok_run_once (ck := Tab k) Fu T h.check_expression h.check_kinds h.variables_of,
     D.evaluate.fnx fun f fd Fu => ok_evaluate (ck := Tab k) Fu T h.run_once,
     D.call_tree.fnx fun f fd Fu => ok_call_tree (ck := Tab k) Fu T h.check_expression h.check_kinds h.variables_of,
     D.check_surveyable.fnx fun f fd Fu => ok_check_surveyable (ck := Tab k) Fu T h.check_expression h.places_of h.variables_of,
     D.parting.fnx fun f fd Fu => ok_parting (ck := Tab k) Fu T h.u_least_parting,
     D.u_least_parting.fnx fun f fd Fu => ok_u_least_parting (ck := Tab k) Fu T h.check_surveyable h.variables_of,
     D.form.fnx fun f fd Fu => ok_form (ck := Tab k) Fu T h.check_surveyable,
     D.expression_text.fnx fun f fd Fu => ok_expression_text (ck := Tab k) Fu T h.check_expression,
     D.l_source.fnx fun f fd Fu => ok_l_source (ck := Tab k) Fu T,
     D.l_draw.fnx fun f fd Fu => ok_l_draw (ck := Tab k) Fu T,
     D.l_pick.fnx fun f fd Fu => ok_l_pick (ck := Tab k) Fu T h.l_draw,
     D.l_leaf.fnx fun f fd Fu => ok_l_leaf (ck := Tab k) Fu T h.l_draw h.l_pick,
     D.l_seen_part.fnx fun f fd Fu => ok_l_seen_part (ck := Tab k) Fu T h.l_draw h.l_expr h.l_pick,
     D.l_expr.fnx fun f fd Fu => ok_l_expr (ck := Tab k) Fu T h.l_draw h.l_expr h.l_leaf h.l_pick h.l_seen_part,
     D.l_any_expr.fnx fun f fd Fu => ok_l_any_expr (ck := Tab k) Fu T h.l_draw h.l_expr h.l_pick,
     D.l_operands.fnx fun f fd Fu => ok_l_operands (ck := Tab k) Fu T,
     D.l_parts.fnx fun f fd Fu => ok_l_parts (ck := Tab k) Fu T h.l_operands h.l_parts,
     D.l_names.fnx fun f fd Fu => ok_l_names (ck := Tab k) Fu T h.l_parts,
     D.l_is_name.fnx fun f fd Fu => ok_l_is_name (ck := Tab k) Fu T,
     D.l_is_link.fnx fun f fd Fu => ok_l_is_link (ck := Tab k) Fu T h.l_has_form,
     D.l_has_form.fnx fun f fd Fu => ok_l_has_form (ck := Tab k) Fu T h.l_has_form h.l_is_link h.l_is_name,
     D.l_is_expr.fnx fun f fd Fu => ok_l_is_expr (ck := Tab k) Fu T h.l_has_form h.l_names h.l_parts,
     D.l_odd.fnx fun f fd Fu => ok_l_odd (ck := Tab k) Fu T h.l_pick,
     D.l_bent.fnx fun f fd Fu => ok_l_bent (ck := Tab k) Fu T h.l_bent h.l_draw h.l_odd h.l_operands,
     D.l_asked.fnx fun f fd Fu => ok_l_asked (ck := Tab k) Fu T h.call_tree h.check_expression h.evaluate h.event_places h.expression_text h.form h.parting h.size h.variables,
     D.l_bounds.fnx fun f fd Fu => ok_l_bounds (ck := Tab k) Fu T⟩
structure Ok2 (P : Program) (w : World) (K : PySem.W.Frag) (mg : Str → Option Value) (base : Heap) (k : Nat) : Prop where
  l_refused : FnX M2 P w K mg base k "_law_refused" 2 (Tab k .l_refused)
  l_fits : FnX M2 P w K mg base k "_law_fits" 1 (Tab k .l_fits)
  law : FnX M2 P w K mg base k "law" 1 (Tab k .law)
theorem ok2 {P : Program} {w : World} {K : PySem.W.Frag} {mg : Str → Option Value} {base : Heap} (D : Defs K mg) (T : Txt K w mg) : ∀ k, Ok2 P w K mg base k
  | 0 => ⟨D.l_refused.fn0 rfl, D.l_fits.fn0 rfl, D.law.fn0 rfl⟩
  | k + 1 =>
    have h := ok2 D T k
    have g : OkN M2 P w K mg base k := okN M2 D T k
    have gN : OkN MN P w K mg base k := okN MN D T k
    ⟨D.l_refused.fnx fun f fd Fu => ok_l_refused  (ck := Tab k) Fu T g.l_asked,
     D.l_fits.fnx fun f fd Fu => ok_l_fits  (ck := Tab k) Fu T g.l_is_expr g.l_names g.l_parts h.l_refused g.check_expression g.evaluate g.event_places g.size g.variables,
     D.law.fnx fun f fd Fu => ok_law (M := M2) (ck := Tab k) Fu T g.l_any_expr g.l_bent g.l_bounds h.l_fits g.l_source⟩
theorem law_at {P : Program} {w : World} {K : PySem.W.Frag} {mg : Str → Option Value} (D : Defs K mg) (T : Txt K w mg) (k : Nat) {fa : Addr} (h : mg "law" = some (.ref fa)) : ∃ fd : FuncData, (∀ (s : Shared) (u : Value), BindsTo s fd ⟨[u], []⟩ [("_law_script", u)]) ∧ ∀ base : Heap, FnOk P w K mg base (L2.CX P w) (k + 1) fa fd ["_law_script"] (spM K 1 (Tab (k + 1) .law)) := by
  obtain ⟨f, fd, Fu, h2, _, _⟩ := D.law.ex
  rw [h] at h2
  cases h2
  refine ⟨fd, fun s u => ?_, fun base => ok_law (M := M2) Fu T (okN M2 D T k).l_any_expr (okN M2 D T k).l_bent (okN M2 D T k).l_bounds (ok2 D T k).l_fits (okN M2 D T k).l_source⟩
  obtain ⟨oc, od, kV, doc, pm, an, cdv, ct, osl, rfl, lk, hcd⟩ := Fu.ex
  exact .of_eq rfl
end K01
namespace K01
open PySem L2 MI
/-- all but those at S is as it was -/
def Kp (S : List Nat) (m m' : Mem) : Prop := m.length ≤ m'.length ∧ ∀ n, n < m.length → n ∉ S → m'[n]? = m[n]?
theorem Kp.refl {S : List Nat} {m : Mem} : Kp S m m := ⟨Nat.le_refl _, fun _ _ _ => rfl⟩
theorem Kp.trans {S : List Nat} {m m' m'' : Mem} (a : Kp S m m') (b : Kp S m' m'') : Kp S m m'' := ⟨Nat.le_trans a.1 b.1, fun n h1 h2 => (b.2 n (Nat.lt_of_lt_of_le h1 a.1) h2).trans (a.2 n h1 h2)⟩
theorem Kp.get {S : List Nat} {m m' : Mem} (a : Kp S m m') {n : Nat} {o : MO} (h : m[n]? = some o) (hn : n ∉ S) : m'[n]? = some o := (a.2 n (List.getElem?_eq_some_iff.mp h).1 hn).trans h
theorem Kp.push {S : List Nat} {m : Mem} {o : MO} : Kp S m (m ++ [o]) := ⟨by simp, fun n h _ => List.getElem?_append_left h⟩
theorem Kp.wr {S : List Nat} {m : Mem} {n : Nat} {o : MO} (h : n ∈ S) : Kp S m (m.set n o) := ⟨by simp, fun i _ hi => by rw [List.getElem?_set_ne (fun e => hi (by rw [← e]; exact h))]⟩
theorem Kp.mono {S S' : List Nat} {m m' : Mem} (a : Kp S m m') (h : ∀ n ∈ S, n ∈ S') : Kp S' m m' := ⟨a.1, fun n h1 h2 => a.2 n h1 fun z => h2 (h n z)⟩
theorem at_lst {m : Mem} {n : Nat} {l : List MV} (h : m[n]? = some (.lst l)) : lstOf m (.ref n) = some l ∧ dctOf m (.ref n) = none ∧ mutOf m (.ref n) = some (n, l) ∧ seqOf m (.ref n) = some l := by
  simp [lstOf, dctOf, mutOf, seqOf, h]
/-- the source of draws: its list at s, the cells at c, t draws so far -/
structure Src (m : Mem) (s c : Nat) (t : Int) : Prop where
  ex : ∃ cells : List Int, cells ≠ [] ∧ m[s]? = some (.lst [.ref c, .int t]) ∧ m[c]? = some (.lst (cells.map .int))
  ne : s ≠ c
  lo : 0 ≤ t
theorem Src.kp {m m' : Mem} {s c : Nat} {t : Int} {S : List Nat} (a : Src m s c t) (k : Kp S m m') (h1 : s ∉ S) (h2 : c ∉ S) : Src m' s c t :=
  let ⟨cells, e1, e2, e3⟩ := a.ex; ⟨⟨cells, e1, k.get e2 h1, k.get e3 h2⟩, a.ne, a.lo⟩
theorem tab_succ {k : Nat} {x : Fnm} : Tab (k + 1) x = bodyOf (Tab k) x := rfl
theorem draw_ok {k : Nat} {m : Mem} {s c : Nat} {t lim : Int} (a : Src m s c t) (h0 : 0 < lim) (h1 : lim < 2 ^ 60) (ht : t < 2 ^ 60) :
    MI.W (Tab (k + 1) .l_draw [.ref s, .int lim] m) (fun d m' => ∃ v : Int, d = .int v ∧ 0 ≤ v ∧ v < lim ∧ Src m' s c (t + 1) ∧ Kp [s, c] m m' ∧ m'.length = m.length) E0 := by
  obtain ⟨cells, e1, e2, e3⟩ := a.ex
  have ne := a.ne
  have lo := a.lo
  have ls : s < m.length := (List.getElem?_eq_some_iff.mp e2).1
  have lc : c < m.length := (List.getElem?_eq_some_iff.mp e3).1
  have n0 : 0 < (cells.length : Int) := by
    cases cells with
    | nil => exact absurd rfl e1
    | cons _ _ => simp only [List.length_cons]; omega
  -- the place
  have p0 := Int.emod_nonneg t (Int.ne_of_gt n0)
  have p1 := Int.emod_lt_of_pos t n0
  have hp : (t % (cells.length : Int)).toNat < cells.length := by omega
  obtain ⟨cell, at1⟩ : ∃ cell : Int, atM (cells.map MV.int) (t % (cells.length : Int)) = some (.int cell) := by
    refine ⟨cells[(t % (cells.length : Int)).toNat], ?_⟩
    unfold atM ixN
    rw [if_pos p0, List.length_map, if_pos p1]
    simp [hp]
  obtain ⟨j, ix1⟩ : ∃ j, ixN cells.length (t % (cells.length : Int)) = some j := by
    refine ⟨(t % (cells.length : Int)).toNat, ?_⟩
    unfold ixN
    rw [if_pos p0, if_pos p1]
  have d2 : (m.set s (.lst [.ref c, .int (t + 1)]))[c]? = some (.lst (cells.map .int)) := by rw [List.getElem?_set_ne ne]; exact e3
  have ds : (m.set s (.lst [.ref c, .int (t + 1)]))[s]? = some (.lst [.ref c, .int (t + 1)]) := by rw [List.getElem?_set_self ls]
  have kp1 : Kp [s, c] m (m.set s (.lst [.ref c, .int (t + 1)])) := Kp.wr (by simp)
  have src1 : Src (m.set s (.lst [.ref c, .int (t + 1)])) s c (t + 1) := ⟨⟨cells, e1, ds, d2⟩, ne, by omega⟩
  have src2 : ∀ v : Int, Src ((m.set s (.lst [.ref c, .int (t + 1)])).set c (.lst ((cells.set j v).map .int))) s c (t + 1) := fun v => by
    refine ⟨⟨cells.set j v, ?_, ?_, ?_⟩, ne, by omega⟩
    · intro z
      have := congrArg List.length z
      simp at this
      exact e1 this
    · rw [List.getElem?_set_ne (Ne.symm ne)]; exact ds
    · rw [List.getElem?_set_self (by simpa using lc)]
  have kp2 : ∀ v : Int, Kp [s, c] m ((m.set s (.lst [.ref c, .int (t + 1)])).set c (.lst ((cells.set j v).map .int))) := fun v => kp1.trans (Kp.wr (by simp))
  have dv : CDivW cell lim := by
    refine ⟨h0, ?_⟩
    have : lim.natAbs < 2 ^ 60 := by omega
    have := (Nat.log2_lt (n := lim.natAbs) (k := 60) (by omega)).mpr this
    omega
  have pw : CPowW 10 18 := by decide
  have ans : ∀ x : Int, 0 ≤ x % lim ∧ x % lim < lim := fun x => ⟨Int.emod_nonneg _ (Int.ne_of_gt h0), Int.emod_lt_of_pos _ h0⟩
  show MI.W (f_l_draw (Tab k) [.ref s, .int lim] m) _ _
  unfold f_l_draw b_l_draw
  simp [startM, W_asgT, nCons, nName, nNil, e2, e3, at1, n0, d2, ds, dv, pw, h0, ix1, show ixN 2 1 = some 1 from rfl]
  refine ⟨by omega, ?_⟩
  have md : ∀ x : Int, -18446744073709551616 < x % 2147483647 ∧ x % 2147483647 < 18446744073709551616 := fun x => by omega
  have md2 : ∀ x : Int, -18446744073709551616 < x % 2147483629 ∧ x % 2147483629 < 18446744073709551616 := fun x => by omega
  split
  · have q1 := src2 (cell / lim)
    have q2 := kp2 (cell / lim)
    rw [List.map_set] at q1 q2
    exact ⟨(ans _).1, (ans _).2, q1, q2⟩
  · exact ⟨⟨by omega, by omega⟩, md _, md2 _, (ans _).1, (ans _).2, src1, kp1⟩

/-! ### expressions -/
inductive Hd where
  | name (s : Str) | call (s : Str) | cmp (sg : List Str) | op (w : Str)
inductive T where
  | node (h : Hd) (l : List T)
/-- the value with that head and those operands -/
def encH : Hd → List MV → MV
  | .name s, _ => .tup [.str "name", .str s]
  | .call s, l => .tup [.str "call", .str s, .tup l]
  | .cmp sg, l => .tup [.str "compare", l.headD .non, .tup (List.zipWith (fun s x => .tup [.str s, x]) sg l.tail)]
  | .op w, l => .tup (.str w :: l)
mutual
def enc : T → MV
  | .node h l => encH h (encs l)
def encs : List T → List MV
  | [] => []
  | t :: r => enc t :: encs r
end
theorem encs_length : ∀ l : List T, (encs l).length = l.length
  | [] => rfl
  | t :: r => by simp [encs, encs_length r]
theorem encs_append : ∀ l k : List T, encs (l ++ k) = encs l ++ encs k
  | [], _ => rfl
  | t :: r, k => by simp [encs, encs_append r k]
/-- a name by the words of the document -/
def IsName (s : Str) : Prop := 1 ≤ s.length ∧ s.length ≤ 8 ∧ (∀ c ∈ s.cps.toList, 97 ≤ c ∧ c ≤ 122) ∧ s ∉ (["and", "or", "not", "if", "else", "is", "none", "true", "false", "set", "give", "try", "except", "end", "then", "program", "keep", "self"] : List Str)
instance (s : Str) : Decidable (IsName s) := by unfold IsName; exact inferInstance
def HdOk : Hd → Nat → Prop
  | .name s, n => IsName s ∧ n = 0
  | .call s, n => IsName s ∧ n ≤ 3
  | .cmp sg, n => sg.length + 1 = n ∧ 1 ≤ sg.length ∧ sg.length ≤ 4 ∧ ∀ s ∈ sg, s ∈ (["<", "<=", ">", ">=", "==", "!="] : List Str)
  | .op w, n => k_LENGTHS.lookup w = some (.int (n + 1))
mutual
inductive Ok : T → Prop
  | node {h : Hd} {l : List T} : HdOk h l.length → Oks l → Ok (.node h l)
inductive Oks : List T → Prop
  | nil : Oks []
  | cons {t : T} {l : List T} : Ok t → Oks l → Oks (t :: l)
end
def hdPl : Hd → Nat
  | .call _ => 1
  | .cmp sg => sg.length
  | _ => 0
def hdNm : Hd → List Str
  | .name s => [s]
  | _ => []
mutual
def size : T → Nat
  | .node _ l => 1 + sizes l
def sizes : List T → Nat
  | [] => 0
  | t :: r => size t + sizes r
end
mutual
def places : T → Nat
  | .node h l => hdPl h + placess l
def placess : List T → Nat
  | [] => 0
  | t :: r => places t + placess r
end
mutual
def levels : T → Nat
  | .node _ l => 1 + levelss l
def levelss : List T → Nat
  | [] => 0
  | t :: r => max (levels t) (levelss r)
end
mutual
def names : T → List Str
  | .node h l => hdNm h ++ namess l
def namess : List T → List Str
  | [] => []
  | t :: r => names t ++ namess r
end
theorem Oks.app : ∀ {l k : List T}, Oks l → Oks k → Oks (l ++ k)
  | _, _, .nil, q => q
  | _, _, .cons a b, q => .cons a (Oks.app b q)
theorem sizes_app : ∀ l k : List T, sizes (l ++ k) = sizes l + sizes k
  | [], k => by simp [sizes]
  | t :: r, k => by simp [sizes, sizes_app r k, Nat.add_assoc]
theorem placess_app : ∀ l k : List T, placess (l ++ k) = placess l + placess k
  | [], k => by simp [placess]
  | t :: r, k => by simp [placess, placess_app r k, Nat.add_assoc]
theorem levelss_app : ∀ l k : List T, levelss (l ++ k) = max (levelss l) (levelss k)
  | [], k => by simp [levelss]
  | t :: r, k => by simp [levelss, levelss_app r k, Nat.max_assoc]
theorem namess_app : ∀ l k : List T, namess (l ++ k) = namess l ++ namess k
  | [], k => by simp [namess]
  | t :: r, k => by simp [namess, namess_app r k]
/-! ### draws of expressions -/
/-- the source, the room for parts and events, and the names that are drawn -/
structure Dr (s c r q : Nat) (ns : List Str) (m : Mem) (t p e : Int) : Prop where
  src : Src m s c t
  room : m[r]? = some (.lst [.int p, .int e])
  nms : q = r ∧ ns = (["a", "b", "cd", "z"] : List Str)
  rs : r ≠ s
  rc : r ≠ c
  p0 : 0 ≤ p
  e0 : 0 ≤ e
theorem atM_of {l : List MV} {v : Int} (h0 : 0 ≤ v) (h1 : v < l.length) : ∃ d, d ∈ l ∧ atM l v = some d := by
  refine ⟨l[v.toNat]'(by omega), List.getElem_mem _, ?_⟩
  unfold atM ixN
  rw [if_pos h0, if_pos h1]
  show l[v.toNat]? = _
  rw [List.getElem?_eq_getElem]
theorem pick_ok {k : Nat} {m : Mem} {s c n : Nat} {t : Int} {l : List MV} (a : Src m s c t) (hl : m[n]? = some (.lst l)) (h0 : l ≠ []) (h1 : l.length < 2 ^ 20) (ht : t < 2 ^ 60) (ns : n ≠ s) (nc : n ≠ c) :
    MI.W (Tab (k + 2) .l_pick [.ref s, .ref n] m) (fun d m' => d ∈ l ∧ Src m' s c (t + 1) ∧ Kp [s, c] m m' ∧ m'.length = m.length) E0 := by
  have pos : 0 < l.length := List.length_pos_iff.mpr h0
  show MI.W (f_l_pick (Tab (k + 1)) [.ref s, .ref n] m) _ _
  unfold f_l_pick b_l_pick
  simp [startM, hl]
  refine (draw_ok (k := k) (lim := l.length) a (by omega) (by omega) ht).mono ?_
  rintro d m' ⟨v, rfl, v0, v1, src, kp, ln⟩
  have hl' : m'[n]? = some (.lst l) := kp.get hl (by simp [ns, nc])
  obtain ⟨d, hd, e⟩ := atM_of v0 v1
  simp [hl', e, hd, src, kp, ln]
theorem pick_tup {k : Nat} {m : Mem} {s c : Nat} {t : Int} {l : List MV} (a : Src m s c t) (h0 : l ≠ []) (h1 : l.length < 2 ^ 20) (ht : t < 2 ^ 60) :
    MI.W (Tab (k + 2) .l_pick [.ref s, .tup l] m) (fun d m' => d ∈ l ∧ Src m' s c (t + 1) ∧ Kp [s, c] m m' ∧ m'.length = m.length) E0 := by
  have pos : 0 < l.length := List.length_pos_iff.mpr h0
  show MI.W (f_l_pick (Tab (k + 1)) [.ref s, .tup l] m) _ _
  unfold f_l_pick b_l_pick
  simp [startM]
  refine (draw_ok (k := k) (lim := l.length) a (by omega) (by omega) ht).mono ?_
  rintro d m' ⟨v, rfl, v0, v1, src, kp, ln⟩
  obtain ⟨d, hd, e⟩ := atM_of v0 v1
  simp [e, hd, src, kp, ln]

theorem Dr.drawn {s c r q : Nat} {ns : List Str} {m m' : Mem} {t t' p e : Int} (a : Dr s c r q ns m t p e) (h : Src m' s c t') (k : Kp [s, c] m m') : Dr s c r q ns m' t' p e :=
  ⟨h, k.get a.room (by simp [a.rs, a.rc]), a.nms, a.rs, a.rc, a.p0, a.e0⟩
theorem Dr.set {s c r q : Nat} {ns : List Str} {m : Mem} {t p e p' e' : Int} (a : Dr s c r q ns m t p e) (h1 : 0 ≤ p') (h2 : 0 ≤ e') : Dr s c r q ns (m.set r (.lst [.int p', .int e'])) t p' e' := by
  have lr : r < m.length := (List.getElem?_eq_some_iff.mp a.room).1
  refine ⟨a.src.kp (S := [r]) (Kp.wr (by simp)) (by simp [Ne.symm a.rs]) (by simp [Ne.symm a.rc]), ?_, a.nms, a.rs, a.rc, h1, h2⟩
  · rw [List.getElem?_set_self lr]
theorem Dr.push {s c r q : Nat} {ns : List Str} {m : Mem} {t p e : Int} {o : MO} (a : Dr s c r q ns m t p e) : Dr s c r q ns (m ++ [o]) t p e :=
  ⟨a.src.kp (S := []) Kp.push (by simp) (by simp), (Kp.push (S := [])).get a.room (by simp), a.nms, a.rs, a.rc, a.p0, a.e0⟩
theorem new_ne {m : Mem} {n : Nat} {o : MO} (h : m[n]? = some o) : m.length ≠ n := fun e => by
  have := (List.getElem?_eq_some_iff.mp h).1
  omega
/-- what came of a draw of an expression -/
structure Got (s c r q : Nat) (ns : List Str) (m : Mem) (t p e : Int) (B : Int) (deep : Nat) (d : MV) (m' : Mem) : Prop where
  ex : ∃ (x : T) (t' p' e' : Int), d = enc x ∧ Ok x ∧ p' + size x = p + 1 ∧ e' + places x = e ∧ levels x ≤ deep ∧ (∀ n ∈ names x, n ∈ ns) ∧ t ≤ t' ∧ t' ≤ t + B ∧ Dr s c r q ns m' t' p' e'
  kp : Kp [s, c, r] m m'
theorem kp3 {s c r : Nat} {m m' : Mem} (a : Kp [s, c] m m') : Kp [s, c, r] m m' := Kp.mono a (fun n h => by simp at h ⊢; rcases h with h | h <;> simp [h])
theorem Kp.app {S : List Nat} {m r : Mem} : Kp S m (m ++ r) := ⟨by simp, fun n h _ => List.getElem?_append_left h⟩
theorem at_app {m r : Mem} {i : Nat} : (m ++ r)[m.length + i]? = r[i]? := by rw [List.getElem?_append_right (by omega), show m.length + i - m.length = i by omega]
theorem f_name : IsName "f" := by decide
theorem g_name : IsName "object" := by decide
theorem h_name : IsName "h" := by decide
theorem name_name : IsName "name" := by decide
theorem dn_names : ∀ n ∈ (["a", "b", "cd", "z"] : List Str), IsName n := by decide
theorem ok_leaf {w : Str} (h : k_LENGTHS.lookup w = some (.int 1)) : Ok (.node (.op w) []) := .node (by show k_LENGTHS.lookup w = _; rw [h]; rfl) .nil
theorem leaf_ok {k : Nat} {s c r q : Nat} {ns : List Str} {m : Mem} {t p e : Int} (a : Dr s c r q ns m t p e) (hn : ns ≠ []) (hl : ns.length < 2 ^ 20) (hns : ∀ n ∈ ns, IsName n) (ht : t < 2 ^ 59) :
    MI.W (Tab (k + 3) .l_leaf [.ref s, .ref r] m) (Got s c r q ns m t p e 2 1) E0 := by
  show MI.W (f_l_leaf (Tab (k + 2)) [.ref s, .ref r] m) _ _
  unfold f_l_leaf b_l_leaf
  simp [startM]
  refine (draw_ok (k := k + 1) (lim := 8) a.src (by decide) (by decide) (by omega)).mono ?_
  rintro d m1 ⟨v, rfl, v0, v1, src1, kp1, ln1⟩
  have a1 := a.drawn src1 kp1
  have sz : ∀ n : Nat, n ≤ 1000 → n ≤ sizeLine := fun n h => Nat.le_of_lt (small1000 h)
  have ens := a.nms.2
  have cC : ∀ m0 : Mem, Kp [] m1 m0 → MI.W (Tab (k + 2) .l_pick [.ref s, .ref m0.length] (m0 ++ [.lst [.str "none", .str "true", .str "false"]])) (fun d m_1 => 1 ≤ sizeLine ∧ Got s c r q ns m t p e 2 1 (.tup [d]) m_1) E0 := by
    intro m0 k0
    have a0 : Dr s c r q ns m0 (t + 1) p e := ⟨a1.src.kp k0 (by simp) (by simp), k0.get a1.room (by simp), a.nms, a.rs, a.rc, a.p0, a.e0⟩
    have a2 := a0.push (o := .lst [.str "none", .str "true", .str "false"])
    refine (pick_ok (k := k) (l := [.str "none", .str "true", .str "false"]) a2.src (by simp) (by simp) (by simp) (by omega) (fun z => ?_) (fun z => ?_)).mono ?_
    · obtain ⟨_, _, e2, _⟩ := a0.src.ex
      exact new_ne e2 z
    · obtain ⟨_, _, _, e2⟩ := a0.src.ex
      exact new_ne e2 z
    rintro d m2 ⟨hd, src2, kp2, ln2⟩
    have fin : ∀ w : Str, k_LENGTHS.lookup w = some (.int 1) → Got s c r q ns m t p e 2 1 (.tup [.str w]) m2 := fun w hw =>
      ⟨⟨.node (.op w) [], _, _, _, rfl, ok_leaf hw, rfl, by simp [places, hdPl, placess], by simp [levels, levelss], by simp [names, hdNm, namess], by omega, by omega, a2.drawn src2 kp2⟩, (kp3 kp1).trans ((k0.mono (by simp)).trans ((Kp.push).trans (kp3 kp2)))⟩
    simp only [List.mem_cons, List.not_mem_nil, or_false] at hd
    rcases hd with rfl | rfl | rfl
    · exact ⟨sz _ (by decide), fin _ rfl⟩
    · exact ⟨sz _ (by decide), fin _ rfl⟩
    · exact ⟨sz _ (by decide), fin _ rfl⟩
  have cE : 0 < e → 4 ≤ sizeLine ∧ MI.W (Tab (k + 2) .l_pick [.ref s, .ref m1.length] (m1.set r (.lst [.int p, .int (e - 1)]) ++ [.lst [.str "f", .str "object", .str "name", .str "h"]])) (fun d m_1 => 3 ≤ sizeLine ∧ Got s c r q ns m t p e 2 1 (.tup [.str "call", d, .tup []]) m_1) E0 := by
    intro he
    refine ⟨sz _ (by decide), ?_⟩
    have a2 := (a1.set (p' := p) (e' := e - 1) a.p0 (by omega)).push (o := .lst [.str "f", .str "object", .str "name", .str "h"])
    refine (pick_ok (k := k) (l := [.str "f", .str "object", .str "name", .str "h"]) a2.src (by simp) (by simp) (by simp) (by omega) (fun z => ?_) (fun z => ?_)).mono ?_
    · obtain ⟨_, _, e2, _⟩ := a1.src.ex
      exact new_ne e2 z
    · obtain ⟨_, _, _, e2⟩ := a1.src.ex
      exact new_ne e2 z
    rintro d m2 ⟨hd, src2, kp2, ln2⟩
    have k3 : Kp [s, c, r] m m2 := (kp3 kp1).trans ((Kp.wr (by simp)).trans (Kp.push.trans (kp3 kp2)))
    have fin : ∀ w : Str, IsName w → Got s c r q ns m t p e 2 1 (.tup [.str "call", .str w, .tup []]) m2 := fun w hw =>
      ⟨⟨.node (.call w) [], _, _, _, rfl, .node ⟨hw, by simp⟩ .nil, rfl, by simp [places, hdPl, placess], by simp [levels, levelss], by simp [names, hdNm, namess], by omega, by omega, a2.drawn src2 kp2⟩, k3⟩
    simp only [List.mem_cons, List.not_mem_nil, or_false] at hd
    rcases hd with rfl | rfl | rfl | rfl
    · exact ⟨sz _ (by decide), fin _ f_name⟩
    · exact ⟨sz _ (by decide), fin _ g_name⟩
    · exact ⟨sz _ (by decide), fin _ name_name⟩
    · exact ⟨sz _ (by decide), fin _ h_name⟩
  have g1 : 4 ≤ sizeLine := sz _ (by decide)
  have g2 : 1 ≤ sizeLine := sz _ (by decide)
  have g3 : 3 ≤ sizeLine := sz _ (by decide)
  simp [a1.room, show atM [MV.int p, MV.int e] 1 = some (.int e) from rfl, show ixN 2 1 = some 1 from rfl, g1, g2, g3]
  have dA : Das ((["a", "b", "cd", "z"] : List Str).map MV.str) := ⟨by decide +kernel, by decide +kernel, by decide +kernel⟩
  have cT : ∀ (m0 : Mem), Kp [] m1 m0 → m0[m1.length]? = some (.lst ((["a", "b", "cd", "z"] : List Str).map .str)) → (if v < 6 then MI.W (gEqA true (.ref m1.length) (.ref m0.length) (m0 ++ [.lst []])) (fun d_1 m_2 => match d_1 with
      | .bl b => if b = true then MI.W (Tab (k + 2) .l_pick [.ref s, .ref m1.length] m_2) (fun d m_3 => 2 ≤ sizeLine ∧ Got s c r q ns m t p e 2 1 (.tup [.str "name", d]) m_3) E0
        else MI.W (Tab (k + 2) .l_pick [.ref s, .ref m_2.length] (m_2 ++ [.lst [.str "none", .str "true", .str "false"]])) (fun d m_3 => Got s c r q ns m t p e 2 1 (.tup [d]) m_3) E0
      | _ => False) E0
      else MI.W (Tab (k + 2) .l_pick [.ref s, .ref m0.length] (m0 ++ [.lst [.str "none", .str "true", .str "false"]])) (fun d m_2 => Got s c r q ns m t p e 2 1 (.tup [d]) m_2) E0) := by
    intro m0 k0 g0
    have sl : s < m1.length ∧ c < m1.length := by
      obtain ⟨_, _, e1, e2⟩ := a1.src.ex
      exact ⟨(List.getElem?_eq_some_iff.mp e1).1, (List.getElem?_eq_some_iff.mp e2).1⟩
    split
    · refine W_eqL ((Kp.push (S := [])).get g0 (by simp)) List.getElem?_concat_length dA ⟨rfl, by simp [fls], by simp [dps]⟩ fun z hz => ?_
      have hz : z = false := by
        cases z with
        | false => rfl
        | true => have := hz.mp rfl; simp at this
      subst hz
      simp only [Bool.not_false, if_true]
      have k2 : Kp [] m1 (m0 ++ [MO.lst []]) := k0.trans Kp.push
      have g2 : (m0 ++ [MO.lst []])[m1.length]? = some (.lst ((["a", "b", "cd", "z"] : List Str).map .str)) := (Kp.push (S := [])).get g0 (by simp)
      refine (pick_ok (k := k) (a1.src.kp k2 (by simp) (by simp)) g2 (by simp) (by simp) (by omega) (by omega) (by omega)).mono ?_
      rintro d m2 ⟨hd, src2, kp2, ln2⟩
      obtain ⟨n, hn1, rfl⟩ := List.mem_map.mp hd
      have nd : Dr s c r q ns m2 (t + 1 + 1) p e := ⟨src2, kp2.get (k2.get a1.room (by simp)) (by simp [a.rs, a.rc]), a.nms, a.rs, a.rc, a.p0, a.e0⟩
      exact ⟨sz _ (by decide), ⟨.node (.name n) [], _, _, _, rfl, .node ⟨dn_names n hn1, rfl⟩ .nil, rfl, by simp [places, hdPl, placess], by simp [levels, levelss], by rw [ens]; intro y hy; simp [names, hdNm, namess] at hy; subst hy; exact hn1, by omega, by omega, nd⟩, (kp3 kp1).trans ((k2.mono (by simp)).trans (kp3 kp2))⟩
    · exact (cC m0 k0).mono fun d m2 h => h.2
  split
  · split
    · exact (cE ‹_›).2.mono fun d m2 h => h.2
    · refine (W_add_l (xs := [.int p, .int e]) (ys := [.ref m1.length]) (by exact (Kp.app (S := [])).get a1.room (by simp)) (by rw [at_app]; rfl)).mpr ⟨szl (by simp), ?_⟩
      rw [W_item_r, List.getElem?_concat_length]
      exact cT _ (Kp.app.trans Kp.app) (by simp)
  · refine (W_add_l (xs := [.int p, .int e]) (ys := [.ref m1.length]) (by exact (Kp.app (S := [])).get a1.room (by simp)) (by rw [at_app]; rfl)).mpr ⟨szl (by simp), ?_⟩
    rw [W_item_r, List.getElem?_concat_length]
    exact cT _ (Kp.app.trans Kp.app) (by simp)
end K01
namespace K01
open PySem L2 MI
def B : Nat → Nat
  | 0 => 3
  | d + 1 => 8 + 5 * B d
theorem B_pos : ∀ d, 3 ≤ B d
  | 0 => Nat.le_refl _
  | d + 1 => by have := B_pos d; show 3 ≤ 8 + 5 * B d; omega

/-- names that are drawn -/
structure Nms (ns : List Str) : Prop where
  ne : ns ≠ []
  len : ns.length < 2 ^ 20
  ok : ∀ n ∈ ns, IsName n
def ExprOk (k deep : Nat) : Prop := ∀ (s c r q : Nat) (ns : List Str) (m : Mem) (t p e : Int), Dr s c r q ns m t p e → Nms ns → t + B deep ≤ 2 ^ 58 → MI.W (Tab k .l_expr [.ref s, .ref r, .int deep] m) (Got s c r q ns m t p e (B deep) deep) E0
structure Gots (s c r q : Nat) (ns : List Str) (m : Mem) (t p e : Int) (n : Nat) (Bd : Int) (deep : Nat) (l : List MV) (m' : Mem) : Prop where
  ex : ∃ (xs : List T) (t' p' e' : Int), l = encs xs ∧ xs.length = n ∧ Oks xs ∧ p' + sizes xs = p + n ∧ e' + placess xs = e ∧ levelss xs ≤ deep ∧ (∀ n ∈ namess xs, n ∈ ns) ∧ t ≤ t' ∧ t' ≤ t + n * Bd ∧ Dr s c r q ns m' t' p' e'
  kp : Kp [s, c, r] m m'
theorem Gots.snoc {s c r q : Nat} {ns : List Str} {m m1 m2 : Mem} {t p e : Int} {n : Nat} {deep : Nat} {l : List MV} {d : MV} {Bd : Int} (a : Gots s c r q ns m t p e n Bd deep l m1)
    (h : ∀ t' p' e', Dr s c r q ns m1 t' p' e' → t ≤ t' → t' ≤ t + n * Bd → Got s c r q ns m1 t' p' e' Bd deep d m2) : Gots s c r q ns m t p e (n + 1) Bd deep (l ++ [d]) m2 := by
  obtain ⟨xs, t', p', e', rfl, hl, ok, h1, h2, h3, h4, h5, h6, D⟩ := a.ex
  have g := h t' p' e' D h5 h6
  obtain ⟨x, t2, p2, e2, rfl, o1, o2, o3, o4, o5, o6, o7, D2⟩ := g.ex
  have eB : ((n + 1 : Nat) : Int) * Bd = n * Bd + Bd := by rw [Int.natCast_add, Int.add_mul]; simp
  refine ⟨⟨xs ++ [x], t2, p2, e2, by rw [encs_append]; rfl, by simp [hl], ok.app (.cons o1 .nil), ?_, ?_, ?_, ?_, by omega, by omega, D2⟩, a.kp.trans g.kp⟩
  · rw [sizes_app]; simp [sizes]; omega
  · rw [placess_app]; simp [placess]; omega
  · rw [levelss_app]; simp [levelss]; omega
  · rw [namess_app]
    intro y hy
    rcases List.mem_append.mp hy with hy | hy
    · exact h4 y hy
    · exact o5 y (by simpa [namess] using hy)
theorem Gots.nil {s c r q : Nat} {ns : List Str} {m : Mem} {t p e : Int} {Bd : Int} {deep : Nat} (a : Dr s c r q ns m t p e) : Gots s c r q ns m t p e 0 Bd deep [] m :=
  ⟨⟨[], t, p, e, rfl, rfl, .nil, by simp [sizes], by simp [placess], by simp [levelss], by simp [namess], Int.le_refl _, by simp, a⟩, Kp.refl⟩
theorem rngL_length {lo : Int} {n : Nat} : (rngL lo n).length = n := by simp [rngL]
noncomputable abbrev sub1 (k : Nat) : ME := mCall (Tab k .l_expr) (mCons (mVar 0) (mCons (mVar 1) (mCons (mBin gSub (mVar 2) (mC (.int 1))) mNil)))
theorem exprs_ok {k deep : Nat} (ih : ExprOk k deep) {s c r q : Nat} {ns : List Str} {m : Mem} {t p e : Int} (a : Dr s c r q ns m t p e) (hn : Nms ns) {ρ : MI.Env} (h0 : ρ[0]? = some (some (.ref s))) (h1 : ρ[1]? = some (some (.ref r))) (h2 : ρ[2]? = some (some (.int (deep + 1 : Nat))))
    (n : Nat) (n4 : n ≤ 4) (ht : t + 4 * B deep ≤ 2 ^ 58) : MI.W (lcM (fun _ => True) (ngName 6) mYes (sub1 k) ρ (rngL 0 n) [] m) (Gots s c r q ns m t p e n (B deep) deep) E0 := by
  refine W_lcs (fun l acc m' => ∃ j, j + l.length = n ∧ acc.length = j ∧ Gots s c r q ns m t p e j (B deep) deep acc m') (rngL 0 n) [] m ⟨0, by simp [rngL_length], rfl, .nil a⟩ (fun _ _ _ _ => trivial) (fun d l acc m' ⟨j, hj, ha, g⟩ => ?_) fun acc m' ⟨j, hj, ha, g⟩ => by simp at hj; subst hj; exact g
  refine ⟨[(6, d)], rfl, ?_⟩
  have hjn : j < n := by simp at hj; omega
  have j4 : (j : Int) * B deep ≤ 3 * B deep := Int.mul_le_mul_of_nonneg_right (by omega) (by omega)
  show MI.W (sub1 k (ρ.set 6 (some d)) m') _ _
  have g0 : (ρ.set 6 (some d))[0]? = some (some (.ref s)) := by rw [List.getElem?_set_ne (by decide)]; exact h0
  have g1 : (ρ.set 6 (some d))[1]? = some (some (.ref r)) := by rw [List.getElem?_set_ne (by decide)]; exact h1
  have g2 : (ρ.set 6 (some d))[2]? = some (some (.int (deep + 1 : Nat))) := by rw [List.getElem?_set_ne (by decide)]; exact h2
  have e1 : ((deep + 1 : Nat) : Int) - 1 = deep := by omega
  simp only [W_call, W_cons, W_vr, g0, g1, g2, W_bin, W_C, W_sub_i, W_nil, e1]
  obtain ⟨xs, t', p', e', rfl, hl, ok, q1, q2, q3, q4, q5, q6, D⟩ := id g.ex
  refine (ih s c r q ns m' t' p' e' D hn (by omega)).mono fun y m2 gy => ⟨by rw [ha]; exact Nat.lt_of_lt_of_le (by omega) (szl (n := 1000) (Nat.le_refl _)), j + 1, by simp at hj; omega, by simp [ha], ?_⟩
  refine g.snoc fun t2 p2 e2 D2 _ _ => ?_
  have u := D2.room.symm.trans D.room
  obtain ⟨cells, _, w1, _⟩ := D2.src.ex
  obtain ⟨cells', _, w2, _⟩ := D.src.ex
  have u2 := w1.symm.trans w2
  injection u with u
  injection u with u
  injection u with u3 u
  injection u with u4 _
  injection u3 with u3
  injection u4 with u4
  injection u2 with u2
  injection u2 with u2
  injection u2 with _ u2
  injection u2 with u2 _
  injection u2 with u2
  subst u3 u4 u2
  exact gy
end K01
namespace K01
open PySem L2 MI
theorem room0 {p e : Int} : atM [MV.int p, MV.int e] 0 = some (.int p) := rfl
theorem room1 {p e : Int} : atM [MV.int p, MV.int e] 1 = some (.int e) := rfl
theorem ix30 : ixN 2 0 = some 0 := rfl
theorem ix31 : ixN 2 1 = some 1 := rfl
theorem Dr.sne {s c r q : Nat} {ns : List Str} {m : Mem} {t p e : Int} (a : Dr s c r q ns m t p e) : m.length ≠ s ∧ m.length ≠ c ∧ m.length ≠ r ∧ m.length ≠ q := by
  obtain ⟨_, _, e1, e2⟩ := a.src.ex
  exact ⟨new_ne e1, new_ne e2, new_ne a.room, by rw [a.nms.1]; exact new_ne a.room⟩
theorem Kp.wrNew {S : List Nat} {m m' : Mem} {f : Nat} {o : MO} (a : Kp S m m') (h : m.length ≤ f) : Kp S m (m'.set f o) :=
  ⟨by simpa using a.1, fun n h1 h2 => by rw [List.getElem?_set_ne (by omega)]; exact a.2 n h1 h2⟩
theorem Dr.wr {s c r q f : Nat} {ns : List Str} {m : Mem} {t p e : Int} {o : MO} (a : Dr s c r q ns m t p e) (h1 : f ≠ s) (h2 : f ≠ c) (h3 : f ≠ r) (h4 : f ≠ q) : Dr s c r q ns (m.set f o) t p e :=
  ⟨a.src.kp (S := [f]) (Kp.wr (by simp)) (by simp [Ne.symm h1]) (by simp [Ne.symm h2]), by rw [List.getElem?_set_ne h3]; exact a.room, a.nms, a.rs, a.rc, a.p0, a.e0⟩
theorem Gots.wr {s c r q f : Nat} {ns : List Str} {m m1 : Mem} {t p e : Int} {n : Nat} {deep : Nat} {l : List MV} {Bd : Int} {o : MO} (a : Gots s c r q ns m t p e n Bd deep l m1) (h0 : m.length ≤ f) (h1 : f ≠ s) (h2 : f ≠ c) (h3 : f ≠ r) (h4 : f ≠ q) : Gots s c r q ns m t p e n Bd deep l (m1.set f o) :=
  let ⟨xs, t', p', e', q1, q2, q3, q4, q5, q6, q7, q8, q9, D⟩ := a.ex
  ⟨⟨xs, t', p', e', q1, q2, q3, q4, q5, q6, q7, q8, q9, D.wr h1 h2 h3 h4⟩, a.kp.wrNew h0⟩
theorem Gots.push {s c r q : Nat} {ns : List Str} {m m1 : Mem} {t p e : Int} {n : Nat} {deep : Nat} {l : List MV} {Bd : Int} {o : MO} (a : Gots s c r q ns m t p e n Bd deep l m1) : Gots s c r q ns m t p e n Bd deep l (m1 ++ [o]) :=
  let ⟨xs, t', p', e', q1, q2, q3, q4, q5, q6, q7, q8, q9, D⟩ := a.ex
  ⟨⟨xs, t', p', e', q1, q2, q3, q4, q5, q6, q7, q8, q9, D.push⟩, a.kp.trans Kp.push⟩
theorem Got.one {s c r q : Nat} {ns : List Str} {m m1 : Mem} {t p e : Int} {deep : Nat} {d : MV} {Bd Bd' : Int} (a : Got s c r q ns m t p e Bd deep d m1) (h : Bd ≤ Bd') : Gots s c r q ns m t p e 1 Bd' deep [d] m1 := by
  obtain ⟨x, t', p', e', rfl, q1, q2, q3, q4, q5, q6, q7, D⟩ := a.ex
  exact ⟨⟨[x], t', p', e', rfl, rfl, .cons q1 .nil, by simp [sizes]; omega, by simp [placess]; omega, by simp [levelss]; omega, by simpa [namess] using q5, q6, by simp; omega, D⟩, a.kp⟩
/-- something drawn ahead of it -/
theorem Got.after {s c r q : Nat} {ns : List Str} {m m1 m2 : Mem} {t p e : Int} {deep : Nat} {d : MV} {Bd : Int} (k : Kp [s, c, r] m m1) (a : Got s c r q ns m1 (t + 1) p e Bd deep d m2) : Got s c r q ns m t p e (Bd + 1) deep d m2 := by
  obtain ⟨x, t', p', e', q0, q1, q2, q3, q4, q5, q6, q7, D⟩ := a.ex
  exact ⟨⟨x, t', p', e', q0, q1, q2, q3, q4, q5, by omega, by omega, D⟩, k.trans a.kp⟩
def links (sg : List Str) (l : List MV) : List MV := List.zipWith (fun s x => .tup [.str s, x]) sg l
theorem links_snoc {sg : List Str} {l : List MV} {a : Str} {d : MV} (h : sg.length = l.length) : links (sg ++ [a]) (l ++ [d]) = links sg l ++ [.tup [.str a, d]] := by
  unfold links
  rw [List.zipWith_append h]
  rfl
theorem links_len {sg : List Str} {l : List MV} (h : sg.length = l.length) : (links sg l).length = l.length := by simp [links, h]
abbrev signs : List Str := ["<", "<=", ">", ">=", "==", "!="]
theorem Dr.same {s c r q : Nat} {ns : List Str} {m : Mem} {t p e t2 p2 e2 : Int} (D : Dr s c r q ns m t p e) (D2 : Dr s c r q ns m t2 p2 e2) : t2 = t ∧ p2 = p ∧ e2 = e := by
  have u := D2.room.symm.trans D.room
  obtain ⟨cells, _, w1, _⟩ := D2.src.ex
  obtain ⟨cells', _, w2, _⟩ := D.src.ex
  have u2 := w1.symm.trans w2
  simp at u u2
  exact ⟨u2, u.1, u.2⟩
/-- the loop over the links -/
structure Lk (s c r q : Nat) (ns : List Str) (M : Mem) (t p e Bd : Int) (deep n f : Nat) (d0 : MV) (l : List MV) (ρ : MI.Env) (m' : Mem) : Prop where
  ex : ∃ (j : Nat) (sg : List Str) (xs : List MV), j + l.length = n ∧ sg.length = j ∧ xs.length = j ∧ (∀ y ∈ sg, y ∈ signs) ∧ Gots s c r q ns M t p e (j + 1) Bd deep (d0 :: xs) m' ∧
      m'[f]? = some (.lst (links sg xs)) ∧ ∃ x3 x6 x7 x8, ρ = [some (.ref s), some (.ref r), some (.int ((deep : Int) + 1)), x3, some d0, some (.ref f), x6, x7, x8]
theorem seen_ok {k deep : Nat} (ih : ExprOk (k + 2) deep) {s c r q : Nat} {ns : List Str} {m : Mem} {t p e : Int} (a : Dr s c r q ns m t p e) (hn : Nms ns) (hp : 3 ≤ p) (he : 0 < e) (ht : t + 7 + 5 * B deep ≤ 2 ^ 58) :
    MI.W (Tab (k + 3) .l_seen_part [.ref s, .ref r, .int (deep + 1 : Nat)] m) (Got s c r q ns m t p e (7 + 5 * B deep) (deep + 1)) E0 := by
  have bp := B_pos deep
  show MI.W (f_l_seen_part (Tab (k + 2)) [.ref s, .ref r, .int (deep + 1 : Nat)] m) _ _
  unfold f_l_seen_part b_l_seen_part
  simp [startM]
  refine (draw_ok (k := k + 1) (lim := 2) a.src (by decide) (by decide) (by omega)).mono ?_
  rintro d m1 ⟨v, rfl, v0, v1, src1, kp1, ln1⟩
  have a1 := a.drawn src1 kp1
  simp
  split
  · refine (draw_ok (k := k + 1) (lim := 3) a1.src (by decide) (by decide) (by omega)).mono ?_
    rintro d m2 ⟨w, rfl, w0, w1, src2, kp2, ln2⟩
    have a2 := a1.drawn src2 kp2
    have lr : r < m2.length := (List.getElem?_eq_some_iff.mp a2.room).1
    have rs : ∀ o : MO, (m2.set r o)[r]? = some o := fun o => List.getElem?_set_self lr
    simp [a2.room, room0, room1, ix30, ix31, rs]
    have b1 : 1 ≤ (if p < 1 + w then p else 1 + w) ∧ (if p < 1 + w then p else 1 + w) ≤ 3 ∧ (if p < 1 + w then p else 1 + w) ≤ p := by split <;> omega
    generalize (if p < 1 + w then p else 1 + w) = many at b1 ⊢
    obtain ⟨b1, b2, b3⟩ := b1
    refine ⟨szl (by decide), ?_⟩
    have a3 := (a2.set (p' := p - many) (e' := e - 1) (by omega) (by omega)).push (o := .lst [.str "f", .str "object", .str "name", .str "h"])
    obtain ⟨z1, z2, z3, z4⟩ := a2.sne
    refine (pick_ok (k := k) (l := [.str "f", .str "object", .str "name", .str "h"]) a3.src (by simp) (by simp) (by simp) (by omega) z1 z2).mono ?_
    rintro d m3 ⟨hd, src3, kp3', ln3⟩
    have a4 := a3.drawn src3 kp3'
    refine ⟨⟨by omega, by omega⟩, ?_⟩
    obtain ⟨n, rfl⟩ : ∃ n : Nat, many = n := ⟨many.toNat, by omega⟩
    refine (exprs_ok ih a4 hn (ρ := wipeM [some (.ref s), some (.ref r), some (.int ((deep : Int) + 1)), some (.int n), none, none, none, some d, none] [6]) rfl rfl rfl n (by omega) (by omega)).mono ?_
    intro l m4 g
    obtain ⟨xs, t', p', e', rfl, hl, ok, q1, q2, q3, q4, q5, q6, D⟩ := id g.ex
    have k5 : Kp [s, c, r] m m4 := (kp3 (kp1.trans kp2)).trans ((Kp.wr (by simp)).trans (Kp.push.trans ((kp3 kp3').trans g.kp)))
    have nB : (n : Int) * B deep ≤ 3 * B deep := Int.mul_le_mul_of_nonneg_right (by omega) (by omega)
    have fin : ∀ wd : Str, IsName wd → Got s c r q ns m t p e (7 + 5 * B deep) (deep + 1) (.tup [.str "call", .str wd, .tup (encs xs)]) (m4 ++ [.lst (encs xs)]) := fun wd hw =>
      ⟨⟨.node (.call wd) xs, t', p', e', rfl, .node ⟨hw, by omega⟩ ok, by simp [size]; omega, by simp [places, hdPl]; omega, by simp [levels]; omega, by simpa [names, hdNm] using q4, by omega, by omega, D.push⟩, k5.trans Kp.push⟩
    refine ⟨szl (by decide), ?_⟩
    simp only [List.mem_cons, List.not_mem_nil, or_false] at hd
    rcases hd with rfl | rfl | rfl | rfl
    · exact fin _ f_name
    · exact fin _ g_name
    · exact fin _ name_name
    · exact fin _ h_name
  · refine (draw_ok (k := k + 1) (lim := 4) a1.src (by decide) (by decide) (by omega)).mono ?_
    rintro d m2 ⟨w, rfl, w0, w1, src2, kp2, ln2⟩
    have a2 := a1.drawn src2 kp2
    have lr : r < m2.length := (List.getElem?_eq_some_iff.mp a2.room).1
    have rs : ∀ o : MO, (m2.set r o)[r]? = some o := fun o => List.getElem?_set_self lr
    simp [a2.room, room0, room1, ix30, ix31, rs]
    have b1 : 1 ≤ (if e < if p - 1 < 1 + w then p - 1 else 1 + w then e else if p - 1 < 1 + w then p - 1 else 1 + w) ∧ (if e < if p - 1 < 1 + w then p - 1 else 1 + w then e else if p - 1 < 1 + w then p - 1 else 1 + w) ≤ 4 ∧
        (if e < if p - 1 < 1 + w then p - 1 else 1 + w then e else if p - 1 < 1 + w then p - 1 else 1 + w) ≤ p - 1 ∧ (if e < if p - 1 < 1 + w then p - 1 else 1 + w then e else if p - 1 < 1 + w then p - 1 else 1 + w) ≤ e := by split <;> split at * <;> omega
    generalize (if e < if p - 1 < 1 + w then p - 1 else 1 + w then e else if p - 1 < 1 + w then p - 1 else 1 + w) = many at b1 ⊢
    obtain ⟨b1, b2, b3, b4⟩ := b1
    have a3 := a2.set (p' := p - 1 - many) (e' := e - many) (by omega) (by omega)
    generalize hM : m2.set r (.lst [.int (p - 1 - many), .int (e - many)]) = M at a3 ⊢
    have kM : Kp [s, c, r] m M := by rw [← hM]; exact (kp3 (kp1.trans kp2)).trans (Kp.wr (by simp))
    obtain ⟨n, rfl⟩ : ∃ n : Nat, many = n := ⟨many.toNat, by omega⟩
    refine (ih s c r q ns M _ _ _ a3 hn (by omega)).mono ?_
    intro d0 m3 g0
    refine ⟨⟨by omega, by omega⟩, ?_⟩
    have G0 : Gots s c r q ns M (t + 1 + 1) (p - 1 - n) (e - n) 1 (B deep + 1) deep [d0] m3 := g0.one (by omega)
    have hf : M.length ≤ m3.length := g0.kp.1
    obtain ⟨_, _, _, _, _, _, _, _, _, _, _, _, D0⟩ := id g0.ex
    obtain ⟨f1, f2, f3, f4⟩ := D0.sne
    refine W_loop (Lk s c r q ns M (t + 1 + 1) (p - 1 - n) (e - n) (B deep + 1) deep n m3.length d0) _ _ _ ?_ (fun _ _ _ _ => trivial) ?_ ?_
    · exact ⟨0, [], [], by simp [rngL_length], rfl, rfl, by simp, G0.push, by simp [links], _, _, _, _, rfl⟩
    · rintro d l ρ m' ⟨⟨j, sg, xs, h1, h2, h3, h4, G, h5, x3, x6, x7, x8, rfl⟩⟩
      obtain ⟨ys, t', p', e', y1, y2, y3, y4, y5, y6, y7, y8, y9, D⟩ := id G.ex
      have jn : j < n := by simp at h1; omega
      have jB : ((j + 1 : Nat) : Int) * (B deep + 1) ≤ 4 * (B deep + 1) := Int.mul_le_mul_of_nonneg_right (by omega) (by omega)
      have D1 := D.push (o := .lst (signs.map .str))
      obtain ⟨z1, z2, z3, z4⟩ := D.sne
      simp
      refine ⟨szl (by decide), ?_⟩
      refine (pick_ok (k := k) (l := signs.map .str) D1.src (by simp) (by simp) (by simp) (by omega) z1 z2).mono ?_
      rintro y m4 ⟨hy, src4, kp4, ln4⟩
      obtain ⟨sn, hsn, rfl⟩ := List.mem_map.mp hy
      have D4 := D1.drawn src4 kp4
      have k4 : Kp [s, c, r] m' m4 := Kp.push.trans (kp3 kp4)
      have at4 : m4[m3.length]? = some (.lst (links sg xs)) := k4.get h5 (by simp [f1, f2, f3])
      simp [at4]
      refine (ih s c r q ns m4 _ _ _ D4 hn (by omega)).mono ?_
      intro d5 m5 g5
      have at5 : m5[m3.length]? = some (.lst (links sg xs)) := g5.kp.get at4 (by simp [f1, f2, f3])
      have G5 : Gots s c r q ns M (t + 1 + 1) (p - 1 - n) (e - n) (j + 1 + 1) (B deep + 1) deep (d0 :: xs ++ [d5]) m5 := G.snoc fun t2 p2 e2 D2 _ _ => by
        obtain ⟨rfl, rfl, rfl⟩ := D.same D2
        exact g5.after k4
      have lt5 : m3.length < m5.length := (List.getElem?_eq_some_iff.mp at5).1
      simp [at5]
      refine ⟨szl (by decide), Nat.lt_of_lt_of_le (by rw [links_len (by omega)]; omega) (szl (n := 1000) (Nat.le_refl _)), ⟨j + 1, sg ++ [sn], xs ++ [d5], by simp at h1; omega, by simp [h2], by simp [h3], ?_, G5.wr hf f1 f2 f3 f4, ?_, x3, _, x7, _, rfl⟩⟩
      · intro y hy
        rcases List.mem_append.mp hy with hy | hy
        · exact h4 y hy
        · simp at hy; subst hy; exact hsn
      · rw [List.getElem?_set_self lt5, links_snoc (by omega)]
    · rintro ρ m' ⟨⟨j, sg, xs, h1, h2, h3, h4, G, h5, x3, x6, x7, x8, rfl⟩⟩
      simp at h1
      subst h1
      obtain ⟨ys, t', p', e', y1, y2, y3, y4, y5, y6, y7, y8, y9, D⟩ := id G.ex
      have jB : ((j + 1 : Nat) : Int) * (B deep + 1) ≤ 5 * (B deep + 1) := Int.mul_le_mul_of_nonneg_right (by omega) (by omega)
      simp [h5]
      refine ⟨szl (by decide), ⟨.node (.cmp sg) ys, t', p', e', ?_, .node ⟨by omega, by omega, by omega, h4⟩ y3, by simp [size]; omega, by simp [places, hdPl]; omega, by simp [levels]; omega, by simpa [names, hdNm] using y7, by omega, by omega, D⟩, kM.trans G.kp⟩
      show MV.tup [.str "compare", d0, .tup (links sg xs)] = encH (.cmp sg) (encs ys)
      rw [← y1]
      rfl
end K01
namespace K01
open PySem L2 MI
theorem Got.mono {s c r q : Nat} {ns : List Str} {m m1 : Mem} {t p e : Int} {deep deep' : Nat} {d : MV} {Bd Bd' : Int} (a : Got s c r q ns m t p e Bd deep d m1) (h : Bd ≤ Bd') (h2 : deep ≤ deep') : Got s c r q ns m t p e Bd' deep' d m1 := by
  obtain ⟨x, t', p', e', q0, q1, q2, q3, q4, q5, q6, q7, D⟩ := a.ex
  exact ⟨⟨x, t', p', e', q0, q1, q2, q3, by omega, q5, q6, by omega, D⟩, a.kp⟩
/-- a draw ahead -/
theorem Got.drawn {s c r q : Nat} {ns : List Str} {m m1 m2 : Mem} {t p e : Int} {deep : Nat} {d : MV} {Bd Bd' : Int} (k : Kp [s, c, r] m m1) (a : Got s c r q ns m1 (t + 1) p e Bd deep d m2) (h : Bd + 1 ≤ Bd') : Got s c r q ns m t p e Bd' deep d m2 :=
  (a.after k).mono h (Nat.le_refl _)
theorem len_not : k_LENGTHS.lookup ("not" : Str) = some (MV.int 2) := rfl
theorem len_isnone : k_LENGTHS.lookup ("isnone" : Str) = some (MV.int 2) := rfl
theorem len_and : k_LENGTHS.lookup ("and" : Str) = some (MV.int 3) := rfl
theorem len_or : k_LENGTHS.lookup ("or" : Str) = some (MV.int 3) := rfl
theorem len_default : k_LENGTHS.lookup ("default" : Str) = some (MV.int 3) := rfl
theorem len_if : k_LENGTHS.lookup ("if" : Str) = some (MV.int 4) := rfl
theorem Dr.lts {s c r q : Nat} {ns : List Str} {m : Mem} {t p e : Int} (a : Dr s c r q ns m t p e) : s < m.length ∧ c < m.length ∧ r < m.length ∧ q < m.length := by
  obtain ⟨_, _, e1, e2⟩ := a.src.ex
  exact ⟨(List.getElem?_eq_some_iff.mp e1).1, (List.getElem?_eq_some_iff.mp e2).1, (List.getElem?_eq_some_iff.mp a.room).1, by rw [a.nms.1]; exact (List.getElem?_eq_some_iff.mp a.room).1⟩
theorem expr_ok : ∀ (deep k : Nat), ExprOk (k + 4 + 2 * deep) (deep + 1) := by
  intro deep
  induction deep with
  | zero =>
    intro k s c r q ns m t p e a hn ht
    have bp := B_pos 1
    have hk : k + 4 + 2 * 0 = (k + 3) + 1 := by omega
    rw [hk]
    show MI.W (f_l_expr (Tab (k + 3)) [.ref s, .ref r, .int ((0 + 1 : Nat) : Int)] m) _ _
    unfold f_l_expr b_l_expr
    simp [startM]
    refine (draw_ok (k := k + 2) (lim := 12) a.src (by decide) (by decide) (by omega)).mono ?_
    rintro d m1 ⟨v, rfl, v0, v1, src1, kp1, ln1⟩
    have a1 := a.drawn src1 kp1
    refine (leaf_ok (k := k) a1 hn.ne hn.len hn.ok (by omega)).mono ?_
    intro d m2 g
    exact g.drawn (kp3 kp1) (by omega)
  | succ deep ih =>
    intro k s c r q ns m t p e a hn ht
    have bp := B_pos (deep + 1)
    have bs : B (deep + 1 + 1) = 8 + 5 * B (deep + 1) := rfl
    have hk : k + 4 + 2 * (deep + 1) = (k + 5 + 2 * deep) + 1 := by omega
    have e1 : ExprOk (k + 5 + 2 * deep) (deep + 1) := by
      have := ih (k + 1)
      rwa [show k + 1 + 4 + 2 * deep = k + 5 + 2 * deep by omega] at this
    have e2 : ExprOk (k + 2 + 2 * deep + 2) (deep + 1) := by
      have := ih k
      rwa [show k + 4 + 2 * deep = k + 2 + 2 * deep + 2 by omega] at this
    rw [hk]
    show MI.W (f_l_expr (Tab (k + 5 + 2 * deep)) [.ref s, .ref r, .int ((deep + 1 + 1 : Nat) : Int)] m) _ _
    unfold f_l_expr b_l_expr
    simp [startM]
    rw [show k + 5 + 2 * deep = (k + 4 + 2 * deep) + 1 by omega]
    refine (draw_ok (k := k + 4 + 2 * deep) (lim := 12) a.src (by decide) (by decide) (by omega)).mono ?_
    rintro d m1 ⟨v, rfl, v0, v1, src1, kp1, ln1⟩
    have a1 := a.drawn src1 kp1
    have cL : MI.W (Tab (k + 4 + 2 * deep + 1) .l_leaf [.ref s, .ref r] m1) (Got s c r q ns m t p e (B (deep + 1 + 1)) (deep + 1 + 1)) E0 := by
      rw [show k + 4 + 2 * deep + 1 = (k + 2 + 2 * deep) + 3 by omega]
      refine (leaf_ok (k := k + 2 + 2 * deep) a1 hn.ne hn.len hn.ok (by omega)).mono ?_
      intro d m2 g
      exact (g.mono (Int.le_refl _) (by omega)).drawn (kp3 kp1) (by omega)
    have lr : r < m1.length := (List.getElem?_eq_some_iff.mp a1.room).1
    have rs : ∀ o : MO, (m1.set r o)[r]? = some o := fun o => List.getElem?_set_self lr
    obtain ⟨z1, z2, z3, z4⟩ := a1.sne
    have cS : 0 < e → ¬ p < 3 → MI.W (Tab (k + 4 + 2 * deep + 1) .l_seen_part [.ref s, .ref r, .int ((deep : Int) + 1 + 1)] m1) (Got s c r q ns m t p e (B (deep + 1 + 1)) (deep + 1 + 1)) E0 := by
      intro he hp
      rw [show k + 4 + 2 * deep + 1 = (k + 2 + 2 * deep) + 3 by omega]
      refine (seen_ok (k := k + 2 + 2 * deep) e2 a1 hn (by omega) he (by omega)).mono ?_
      intro d m2 g
      exact g.drawn (kp3 kp1) (by omega)
    have cN : ¬ p < 3 → 2 ≤ sizeLine ∧ MI.W (Tab (k + 4 + 2 * deep + 1) .l_pick [.ref s, .ref m1.length] (m1.set r (.lst [.int (p - 1), .int e]) ++ [.lst [.str "not", .str "isnone"]]))
        (fun d m_1 => MI.W (Tab (k + 4 + 2 * deep + 1) .l_expr [.ref s, .ref r, .int ((deep : Int) + 1)] m_1) (fun d_1 m_2 => 2 ≤ sizeLine ∧ Got s c r q ns m t p e (B (deep + 1 + 1)) (deep + 1 + 1) (.tup [d, d_1]) m_2) E0) E0 := by
      intro hp
      refine ⟨szl (by decide), ?_⟩
      have a2 := (a1.set (p' := p - 1) (e' := e) (by omega) a1.e0).push (o := .lst [.str "not", .str "isnone"])
      rw [show k + 4 + 2 * deep + 1 = (k + 3 + 2 * deep) + 2 by omega]
      refine (pick_ok (k := k + 3 + 2 * deep) (l := [.str "not", .str "isnone"]) a2.src (by simp) (by simp) (by simp) (by omega) z1 z2).mono ?_
      rintro d m3 ⟨hd, src3, kp3', ln3⟩
      have a3 := a2.drawn src3 kp3'
      have k3 : Kp [s, c, r] m m3 := (kp3 kp1).trans ((Kp.wr (by simp)).trans (Kp.push.trans (kp3 kp3')))
      rw [show k + 3 + 2 * deep + 2 = k + 5 + 2 * deep by omega]
      refine (e1 s c r q ns m3 _ _ _ a3 hn (by omega)).mono ?_
      intro d1 m4 g
      refine ⟨szl (by decide), ?_⟩
      obtain ⟨x, t', p', e', rfl, q1, q2, q3, q4, q5, q6, q7, D⟩ := id g.ex
      have fin : ∀ w : Str, k_LENGTHS.lookup w = some (.int 2) → Got s c r q ns m t p e (B (deep + 1 + 1)) (deep + 1 + 1) (.tup [.str w, enc x]) m4 := fun w hw =>
        ⟨⟨.node (.op w) [x], t', p', e', rfl, .node (by show k_LENGTHS.lookup w = _; rw [hw]; rfl) (.cons q1 .nil), by simp [size, sizes]; omega, by simp [places, hdPl, placess]; omega, by simp [levels, levelss]; omega, by simpa [names, hdNm, namess] using q5, by omega, by omega, D⟩, k3.trans g.kp⟩
      simp only [List.mem_cons, List.not_mem_nil, or_false] at hd
      rcases hd with rfl | rfl
      · exact fin _ len_not
      · exact fin _ len_isnone
    have hv : ¬ v < 6 → ∃ (hd : Str) (n : Nat), atM [MV.str "and", MV.str "or", MV.str "and", MV.str "or", MV.str "default", MV.str "if"] (v - 6) = some (.str hd) ∧ k_LENGTHS.lookup hd = some (.int (n + 1 : Nat)) ∧ ((2 : Int) + if hd = ("if" : Str) then 1 else 0) = n ∧ 2 ≤ n ∧ n ≤ 3 := by
      intro h6
      have : v = 6 ∨ v = 7 ∨ v = 8 ∨ v = 9 ∨ v = 10 ∨ v = 11 := by omega
      rcases this with rfl | rfl | rfl | rfl | rfl | rfl
      · exact ⟨"and", 2, rfl, rfl, by decide, by decide, by decide⟩
      · exact ⟨"or", 2, rfl, rfl, by decide, by decide, by decide⟩
      · exact ⟨"and", 2, rfl, rfl, by decide, by decide, by decide⟩
      · exact ⟨"or", 2, rfl, rfl, by decide, by decide, by decide⟩
      · exact ⟨"default", 2, rfl, rfl, by decide, by decide, by decide⟩
      · exact ⟨"if", 3, rfl, rfl, by decide, by decide, by decide⟩
    by_cases h0 : v = 0
    · simp [a1.room, room0, room1, ix30, ix31, h0]
      exact cL
    by_cases h3 : p < 3
    · simp [a1.room, room0, room1, ix30, ix31, h0, h3]
      exact cL
    by_cases h4 : v < 4 ∧ 0 < e
    · simp [a1.room, room0, room1, ix30, ix31, h0, h3, h4.1, h4.2]
      split
      · exact cL
      · exact cS h4.2 h3
    have n1 : ¬ ((deep : Int) + 1 + 1 = 1) := by omega
    by_cases h6 : v < 6
    · simp [a1.room, room0, room1, ix30, ix31, h0, h3, h6, n1]
      split
      · split
        · exact absurd ⟨‹_›, ‹_›⟩ h4
        · exact cN h3
      · exact cN h3
    · obtain ⟨hd, n, w1, w2, w3, w4, w5⟩ := hv h6
      have h44 : ¬ v < 4 := by omega
      have rs2 : ∀ o1 o2 : MO, ((m1 ++ [o1]).set r o2)[r]? = some o2 := fun o1 o2 => List.getElem?_set_self (by simp; omega)
      have rs3 : ∀ o1 : MO, (m1 ++ [o1])[r]? = some (.lst [.int p, .int e]) := fun o1 => by rw [List.getElem?_append_left lr]; exact a1.room
      simp [a1.room, room0, room1, ix30, ix31, h0, h3, h6, h44, n1, w1, w3, rs2, rs3]
      refine ⟨szl (by decide), szl (by decide), by omega, ?_⟩
      have a2 := (((a1.push (o := .lst [.str "and", .str "or", .str "and", .str "or", .str "default", .str "if"])).set (p' := p - n) (e' := e) (by omega) a1.e0)).push (o := .lst [.str hd])
      have kM : Kp [s, c, r] m ((m1 ++ [MO.lst [.str "and", .str "or", .str "and", .str "or", .str "default", .str "if"]]).set r (MO.lst [.int (p - n), .int e]) ++ [MO.lst [.str hd]]) := (kp3 kp1).trans (Kp.push.trans ((Kp.wr (by simp)).trans Kp.push))
      have hh : ((m1 ++ [MO.lst [.str "and", .str "or", .str "and", .str "or", .str "default", .str "if"]]).set r (MO.lst [.int (p - n), .int e]) ++ [MO.lst [.str hd]])[m1.length + 1]? = some (.lst [.str hd]) := by
        rw [List.getElem?_append_right (by simp)]
        simp
      generalize ((m1 ++ [MO.lst [.str "and", .str "or", .str "and", .str "or", .str "default", .str "if"]]).set r (MO.lst [.int (p - n), .int e]) ++ [MO.lst [.str hd]] : Mem) = M at a2 kM hh ⊢
      rw [show k + 4 + 2 * deep + 1 = k + 5 + 2 * deep by omega]
      refine (exprs_ok e1 a2 hn (ρ := wipeM [some (.ref s), some (.ref r), some (.int ((deep : Int) + 1 + 1)), some (.int v), some (.str hd), some (.int n), none] [6]) rfl rfl rfl n (by omega) (by omega)).mono ?_
      intro l m4 g
      obtain ⟨xs, t', p', e', rfl, hl, ok, q1, q2, q3, q4, q5, q6, D⟩ := id g.ex
      have nB : (n : Int) * B (deep + 1) ≤ 3 * B (deep + 1) := Int.mul_le_mul_of_nonneg_right (by omega) (by omega)
      have at4 : (m4 ++ [MO.lst (encs xs)])[m1.length + 1]? = some (.lst [.str hd]) := Kp.get (S := [s, c, r]) (g.kp.trans Kp.push) hh (by obtain ⟨u1, u2, u3, u4⟩ := a1.lts; simp; omega)
      have at5 : (m4 ++ [MO.lst (encs xs)])[m4.length]? = some (.lst (encs xs)) := List.getElem?_concat_length
      rw [W_add_l at4 at5]
      refine ⟨szl (by simp [encs_length]; omega), ?_⟩
      simp
      exact ⟨⟨.node (.op hd) xs, t', p', e', rfl, .node (by show k_LENGTHS.lookup hd = _; rw [w2, hl]; rfl) ok, by simp [size]; omega, by simp [places, hdPl]; omega, by simp [levels]; omega, by simpa [names, hdNm] using q4, by omega, by omega, by simpa using (D.push (o := .lst (encs xs))).push (o := .lst (.str hd :: encs xs))⟩, kM.trans (g.kp.trans (by simpa using (Kp.push (S := [s, c, r]) (m := m4) (o := .lst (encs xs))).trans (Kp.push (o := .lst (.str hd :: encs xs)))))⟩
end K01
namespace K01
open PySem L2 MI
@[simp] theorem at0 {a : MV} {l : List MV} : atM (a :: l) 0 = some a := by
  unfold atM ixN
  rw [if_pos (by decide), if_pos (by simp)]
  rfl
@[simp] theorem at1 {a b : MV} {l : List MV} : atM (a :: b :: l) 1 = some b := by
  unfold atM ixN
  rw [if_pos (by decide), if_pos (by simp; omega)]
  rfl
@[simp] theorem at2 {a b c : MV} {l : List MV} : atM (a :: b :: c :: l) 2 = some c := by
  unfold atM ixN
  rw [if_pos (by decide), if_pos (by simp; omega)]
  rfl
theorem op_word {w : Str} {n : Nat} (h : k_LENGTHS.lookup w = some (.int (n + 1))) : w ≠ ("name" : Str) ∧ w ≠ ("call" : Str) ∧ w ≠ ("compare" : Str) ∧ n ≤ 3 := by
  have c : (w, MV.int (n + 1)) ∈ k_LENGTHS := lookup_mem h
  simp [k_LENGTHS] at c
  rcases c with ⟨rfl, c⟩ | ⟨rfl, c⟩ | ⟨rfl, c⟩ | ⟨rfl, c⟩ | ⟨rfl, c⟩ | ⟨rfl, c⟩ | ⟨rfl, c⟩ | ⟨rfl, c⟩ | ⟨rfl, c⟩ <;> exact ⟨by decide, by decide, by decide, by omega⟩
theorem cut1 {a : MV} {l : List MV} : cutM (a :: l) (some 1) none = l := by
  unfold cutM HT.sIx
  simp
theorem links_map : ∀ {sg : List Str} {es : List MV}, sg.length = es.length → ((List.zipWith (fun s x => MV.tup [.str s, x]) sg es).filter fun _ => true).map (fun d => match d with | .tup [_, x] => x | _ => .non) = es
  | [], [], _ => rfl
  | [], _ :: _, h => by simp at h
  | _ :: _, [], h => by simp at h
  | s :: sg, x :: es, h => by
    have := links_map (sg := sg) (es := es) (by simpa using h)
    rw [filter_all] at this ⊢
    simp only [List.zipWith_cons_cons, List.map_cons, this]
theorem opl_ok {k : Nat} {h : Hd} {es : List MV} {m : Mem} (hok : HdOk h es.length) : MI.W (Tab (k + 1) .l_operands [encH h es] m) (fun d m' => ∃ n, d = .ref n ∧ m'[n]? = some (.lst es) ∧ m.length ≤ n ∧ Kp [] m m') E0 := by
  show MI.W (f_l_operands (Tab k) [encH h es] m) _ _
  unfold f_l_operands b_l_operands
  cases h with
  | name s =>
    have h2 : es.length = 0 := hok.2
    have : es = [] := List.length_eq_zero_iff.mp h2
    subst this
    simp [startM, encH]
    exact Kp.push
  | call s =>
    simp [startM, encH, show ¬ (("call" : Str) = "name") by decide]
    exact Kp.push
  | cmp sg =>
    obtain ⟨c1, c2, c3, c4⟩ := (show sg.length + 1 = es.length ∧ 1 ≤ sg.length ∧ sg.length ≤ 4 ∧ ∀ s ∈ sg, s ∈ (["<", "<=", ">", ">=", "==", "!="] : List Str) from hok)
    cases es with
    | nil => simp at c1
    | cons a es =>
      have ce : sg.length = es.length := by simpa using c1
      simp [startM, encH, show ¬ (("compare" : Str) = "name") by decide, show ¬ (("compare" : Str) = "call") by decide]
      refine ⟨szl (by decide), ?_⟩
      refine W_pure (fun d => match d with | .tup [_, x] => x | _ => .non) (fun _ => true) trivial (fun d hd => ?_) (by simp; omega) ?_
      · obtain ⟨i, hi, rfl⟩ := List.mem_iff_getElem.mp hd
        simp only [List.getElem_zipWith]
        exact ⟨rfl, fun _ => rfl⟩
      · rw [links_map ce]
        have a1 : (m ++ [MO.lst [a]] ++ [MO.lst es])[m.length]? = some (.lst [a]) := by simp
        have a2 : (m ++ [MO.lst [a]] ++ [MO.lst es])[(m ++ [MO.lst [a]]).length]? = some (.lst es) := List.getElem?_concat_length
        rw [W_add_l a1 a2]
        refine ⟨szl (by simp; omega), _, rfl, List.getElem?_concat_length, by simp, Kp.push.trans (Kp.push.trans Kp.push)⟩
  | op w =>
    obtain ⟨n1, n2, n3, n4⟩ := op_word hok
    simp [startM, encH, n1, n2, n3, cut1]
    exact Kp.push
theorem ops_ok {k : Nat} {h : Hd} {es : List MV} {m : Mem} (hok : HdOk h es.length) : MI.W (Tab (k + 1) .operands [encH h es] m) (fun d m' => d = .tup es ∧ Kp [] m m') E0 := by
  show MI.W (f_operands (Tab k) [encH h es] m) _ _
  unfold f_operands b_operands
  cases h with
  | name s =>
    have h2 : es.length = 0 := hok.2
    have : es = [] := List.length_eq_zero_iff.mp h2
    subst this
    simp [startM, encH]
    exact Kp.refl
  | call s =>
    simp [startM, encH, show ¬ (("call" : Str) = "name") by decide]
    exact Kp.refl
  | cmp sg =>
    obtain ⟨c1, c2, c3, c4⟩ := (show sg.length + 1 = es.length ∧ 1 ≤ sg.length ∧ sg.length ≤ 4 ∧ ∀ s ∈ sg, s ∈ (["<", "<=", ">", ">=", "==", "!="] : List Str) from hok)
    cases es with
    | nil => simp at c1
    | cons a es =>
      have ce : sg.length = es.length := by simpa using c1
      simp [startM, encH, show ¬ (("compare" : Str) = "name") by decide, show ¬ (("compare" : Str) = "call") by decide]
      refine W_pure (fun d => match d with | .tup [_, x] => x | _ => .non) (fun _ => true) trivial (fun d hd => ?_) (by simp; omega) ?_
      · obtain ⟨i, hi, rfl⟩ := List.mem_iff_getElem.mp hd
        simp only [List.getElem_zipWith]
        exact ⟨rfl, fun _ => rfl⟩
      · simp only [links_map ce]
        exact ⟨szl (by omega), trivial, Kp.push⟩
  | op w =>
    obtain ⟨n1, n2, n3, n4⟩ := op_word hok
    simp [startM, encH, n1, n2, n3, cut1]
    exact Kp.refl

/-! ### parts -/
mutual
def parts : T → List T
  | .node h l => .node h l :: partss l
def partss : List T → List T
  | [] => []
  | t :: r => parts t ++ partss r
end
mutual
theorem parts_len : ∀ t : T, (parts t).length = size t
  | .node h l => by simp [parts, size, partss_len l]; omega
theorem partss_len : ∀ l : List T, (partss l).length = sizes l
  | [] => rfl
  | t :: r => by simp [partss, sizes, parts_len t, partss_len r]
end
/-- a list object that holds l, new, and nothing else has changed -/
def NewL (m : Mem) (l : List MV) (d : MV) (m' : Mem) : Prop := ∃ n, d = .ref n ∧ m'[n]? = some (.lst l) ∧ m.length ≤ n ∧ Kp [] m m'
theorem enc_node {h : Hd} {l : List T} : enc (.node h l) = encH h (encs l) := rfl
theorem Ok.hd {h : Hd} {l : List T} (o : Ok (.node h l)) : HdOk h (encs l).length ∧ Oks l := by
  cases o with
  | node a b => exact ⟨by rw [encs_length]; exact a, b⟩
structure PtI (m : Mem) (n : Nat) (e0 : MV) (acc0 : List MV) (f : T → List MV) (l : List T) (rem : List MV) (ρ : MI.Env) (m' : Mem) : Prop where
  ex : ∃ (dn r : List T) (x2 : Option MV) (nf : Nat), l = dn ++ r ∧ rem = encs r ∧ ρ = [some e0, some (.ref nf), x2] ∧ m'[nf]? = some (.lst (acc0 ++ (dn.map f).flatten)) ∧ m'[n]? = some (.lst (encs l)) ∧ Kp [] m m' ∧ m.length ≤ nf
theorem encs_flat : ∀ dn : List T, (dn.map fun t => encs (parts t)).flatten = encs (partss dn)
  | [] => rfl
  | t :: r => by simp [partss, encs_append, encs_flat r]
theorem Oks.mem : ∀ {l : List T} {t : T}, Oks l → t ∈ l → Ok t
  | _ :: _, _, .cons a b, h => by
    rcases List.mem_cons.mp h with rfl | h
    · exact a
    · exact Oks.mem b h
theorem sizes_mem : ∀ {l : List T} {t : T}, t ∈ l → size t ≤ sizes l
  | x :: r, t, h => by
    rcases List.mem_cons.mp h with rfl | h
    · simp [sizes]
    · have := sizes_mem h
      simp [sizes]; omega
theorem levelss_mem : ∀ {l : List T} {t : T}, t ∈ l → levels t ≤ levelss l
  | x :: r, t, h => by
    rcases List.mem_cons.mp h with rfl | h
    · simp [levelss]; omega
    · have := levelss_mem h
      simp [levelss]; omega
theorem parts_ok : ∀ (j : Nat) (t : T) (k : Nat) (m : Mem), Ok t → levels t ≤ j → size t ≤ 1000 → MI.W (Tab (k + 1 + j) .l_parts [enc t] m) (NewL m (encs (parts t))) E0 := by
  intro j
  induction j with
  | zero =>
    intro t k m ok hl
    cases t with
    | node h l => simp [levels] at hl
  | succ j ih =>
    intro t k m ok hl hs
    cases t with
    | node h l =>
      obtain ⟨o1, o2⟩ := ok.hd
      have hl2 : levelss l ≤ j := by simp [levels] at hl; omega
      have hs2 : 1 + sizes l ≤ 1000 := by simpa [size] using hs
      show MI.W (f_l_parts (Tab (k + 1 + j)) [enc (.node h l)] m) _ _
      unfold f_l_parts b_l_parts
      simp [startM]
      refine ⟨szl (by decide), ?_⟩
      rw [enc_node, show k + 1 + j = (k + j) + 1 by omega]
      refine (opl_ok (k := k + j) (h := h) (es := encs l) o1).mono ?_
      rintro d m1 ⟨n, rfl, h1, h2, k1⟩
      simp [h1]
      have fr : ∀ {m' : Mem}, m'[n]? = some (.lst (encs l)) → ((match m'[n]? with | some (MO.lst l) => some l | some (MO.frz l) => some l | x => none) = some (encs l)) := fun h => by rw [h]
      refine W_loop (PtI m n (encH h (encs l)) [enc (.node h l)] (fun t => encs (parts t)) l) _ _ _ ?_ ?_ ?_ ?_
      · have h0 : m1[m.length]? = some (.lst [enc (.node h l)]) := k1.get (n := m.length) (by simp [enc_node]) (by simp)
        exact ⟨[], l, none, m.length, rfl, rfl, rfl, by simpa using h0, h1, Kp.push.trans k1, Nat.le_refl _⟩
      · rintro rem ρ m' ⟨dn, r, x2, nf, q1, q2, q3, q4, q5, q6, q7⟩
        exact fr q5
      · rintro d rem ρ m' ⟨dn, r, x2, nf, q1, q2, rfl, q4, q5, q6, q7⟩
        cases r with
        | nil => cases q2
        | cons t r =>
          cases q2
          have tm : t ∈ l := by rw [q1]; simp
          simp
          rw [show k + j + 1 = k + 1 + j by omega]
          refine (ih t k m' (o2.mem tm) (Nat.le_trans (levelss_mem tm) hl2) (Nat.le_trans (sizes_mem tm) (by omega))).mono ?_
          rintro d2 m2 ⟨n2, rfl, g1, g2, g3⟩
          rw [W_add_l (g3.get q4 (by simp)) g1]
          have cap : sizes l = sizes dn + size t + sizes r := by rw [q1, sizes_app]; simp [sizes]; omega
          refine ⟨szl ?_, ⟨dn ++ [t], r, _, _, by rw [q1]; simp, rfl, rfl, ?_, (g3.trans Kp.push).get q5 (by simp), q6.trans (g3.trans Kp.push), Nat.le_trans q6.1 g3.1⟩⟩
          · rw [encs_flat]
            simp [encs_length, parts_len, partss_len]
            omega
          · rw [List.getElem?_concat_length]
            simp
      · rintro ρ m' ⟨dn, r, x2, nf, q1, q2, rfl, q4, q5, q6, q7⟩
        cases r with
        | cons t r => cases q2
        | nil =>
          rw [List.append_nil] at q1
          subst q1
          rw [encs_flat] at q4
          simp
          exact ⟨nf, rfl, by simpa [parts, encs] using q4, q7, q6⟩
end K01
namespace K01
open PySem L2 MI
theorem inV_str {s : Str} : ∀ {l : List Str}, inV (.str s) (l.map V.str) = decide (s ∈ l)
  | [] => rfl
  | x :: r => by
    have ih := inV_str (s := s) (l := r)
    unfold inV at ih ⊢
    rw [List.map_cons, List.any_cons, ih]
    show ((x == s) || decide (s ∈ r)) = _
    by_cases h : x = s
    · subst h; simp
    · rw [beq_eq_false_iff_ne.mpr h]
      simp [Ne.symm h]
theorem W_in_strs {s : Str} {l : List Str} {neg : Bool} {m : Mem} {Q : MV → Mem → Prop} {E : Exn → Mem → Prop} : MI.W (gInA neg (.str s) (.tup (l.map .str)) m) Q E = Q (.bl (if neg = true then !decide (s ∈ l) else decide (s ∈ l))) m := by
  classical
  unfold gInA
  have al : (l.map MV.str).all flat = true := by simp [flat]
  rw [if_neg (by rintro ⟨z, h⟩; cases h), if_neg (by simp), if_pos ⟨_, rfl, rfl, al⟩]
  show MI.W (if flat (.str s) = true ∧ (l.map MV.str).all flat = true then .ok (.bl (if neg then !inV (toV (.str s)) ((l.map MV.str).map toV) else inV (toV (.str s)) ((l.map MV.str).map toV))) m else .stuck) Q E = _
  rw [if_pos ⟨rfl, al⟩]
  have e : (l.map MV.str).map toV = l.map V.str := by rw [List.map_map]; rfl
  rw [e]
  show Q (.bl (if neg then !inV (.str s) (l.map V.str) else inV (.str s) (l.map V.str))) m = _
  rw [inV_str]
theorem bls_map : ∀ bs : List Bool, blsOf (bs.map .bl) = some bs
  | [] => rfl
  | b :: r => by
    show (blsOf (r.map .bl)).map (b :: ·) = _
    rw [bls_map r]; rfl
theorem W_all {n : Nat} {bs : List Bool} {m : Mem} {Q : MV → Mem → Prop} {E : Exn → Mem → Prop} (h : m[n]? = some (.lst (bs.map .bl))) : MI.W (gAll [.ref n] m) Q E = Q (.bl (bs.all id)) m := by
  show MI.W (match (lstOf m (.ref n)).bind blsOf with | some bs => .ok (.bl (bs.all id)) m | none => .stuck) Q E = _
  simp only [lstOf_ref, h, Option.bind_some, bls_map]
  rfl
theorem kit_ss : kitB "str" "str" = some true := rfl
theorem kit_ts : kitB "tuple" "str" = some false := rfl
theorem kit_tt : kitB "tuple" "tuple" = some true := rfl
theorem kit_st : kitB "str" "tuple" = some false := rfl
theorem kit_lt : kitB "list" "tuple" = some false := rfl
theorem kit_nt : kitB "NoneType" "tuple" = some false := rfl
@[simp] theorem ty_str {m : Mem} {s : Str} : tyM m (.str s) = some "str" := rfl
@[simp] theorem ty_tup {m : Mem} {s : List MV} : tyM m (.tup s) = some "tuple" := rfl
@[simp] theorem ty_int {m : Mem} {s : Int} : tyM m (.int s) = some "int" := rfl
@[simp] theorem ty_bl {m : Mem} {s : Bool} : tyM m (.bl s) = some "bool" := rfl
@[simp] theorem ty_non {m : Mem} : tyM m .non = some "NoneType" := rfl
def isLow (d : MV) : MV := match d with
  | .str z => .bl (!decide (z.cps.toList < ("a" : Str).cps.toList) && !decide (("z" : Str).cps.toList < z.cps.toList))
  | _ => .non
theorem low_c {c : Nat} : isLow (.str ⟨#[c]⟩) = .bl (decide (97 ≤ c ∧ c ≤ 122)) := by
  have e1 : ("a" : Str).cps.toList = [97] := by decide
  have e2 : ("z" : Str).cps.toList = [122] := by decide
  unfold isLow
  simp only [e1, e2]
  have l1 : ([c] < [97]) ↔ c < 97 := by simp [List.cons_lt_cons_iff]
  have l2 : ([122] < [c]) ↔ 122 < c := by simp [List.cons_lt_cons_iff]
  simp only [l1, l2]
  congr 1
  by_cases h1 : c < 97 <;> by_cases h2 : 122 < c <;> simp [h1, h2] <;> omega
abbrev barred : List Str := ["and", "or", "not", "if", "else", "is", "none", "true", "false", "set", "give", "try", "except", "end", "then", "program", "keep", "self"]
theorem isname_ok {k : Nat} {m : Mem} {s : Str} (hs : s.length ≤ 1000) : MI.W (Tab (k + 1) .is_name [.str s] m) (fun d m' => d = .bl (decide (IsName s)) ∧ Kp [] m m') E0 := by
  have key : ∀ (m : Mem) (Q : MV → Mem → Prop) (E : Exn → Mem → Prop), MI.W (gInA true (.str s) c_BARRED m) Q E = Q (.bl (!decide (s ∈ barred))) m := fun m Q E => W_in_strs (l := barred) (neg := true)
  show MI.W (f_is_name (Tab k) [.str s] m) _ _
  unfold f_is_name b_is_name
  by_cases h1 : (1 : Int) ≤ s.length
  · by_cases h2 : (s.length : Int) ≤ 8
    · by_cases h3 : s ∈ barred
      · have hn : ¬ IsName s := fun h => h.2.2.2 h3
        simp [startM, kit_ss, szl hs, h1, h2]
        erw [key]
        simp only [h3, decide_true, Bool.not_true, tru_bl]
        exact ⟨by rw [decide_eq_false hn], Kp.refl⟩
      · simp [startM, kit_ss, szl hs, h1, h2]
        erw [key]
        simp only [h3, decide_false, Bool.not_false, tru_bl]
        refine W_pure isLow (fun _ => true) trivial (fun d hd => ⟨rfl, fun _ => ?_⟩) (by simpa using (show s.cps.size ≤ 1000 from hs)) ?_
        · obtain ⟨c, hc, rfl⟩ := List.mem_map.mp hd
          show (Re.bind (Re.ok (MV.bl (!decide ((⟨#[c]⟩ : Str).cps.toList < ("a" : Str).cps.toList))) m) fun r m3 => match r with
            | .bl true => Re.bind (Re.ok (MV.str ("z" : Str)) m3) (fun c' m4 => gLeS (.str ⟨#[c]⟩) c' m4)
            | .bl false => .ok (.bl false) m3
            | _ => .stuck) = Re.ok (MV.bl (!decide ((⟨#[c]⟩ : Str).cps.toList < ("a" : Str).cps.toList) && !decide (("z" : Str).cps.toList < (⟨#[c]⟩ : Str).cps.toList))) m
          cases decide ((⟨#[c]⟩ : Str).cps.toList < ("a" : Str).cps.toList) <;> rfl
        · rw [filter_all]
          have e : (s.cps.toList.map fun c => MV.str ⟨#[c]⟩).map isLow = (s.cps.toList.map fun c => decide (97 ≤ c ∧ c ≤ 122)).map .bl := by
            rw [List.map_map, List.map_map]
            exact List.map_congr_left fun c _ => low_c
          rw [e, W_all List.getElem?_concat_length]
          refine ⟨?_, Kp.push⟩
          congr 1
          rw [Bool.eq_iff_iff, List.all_eq_true, decide_eq_true_eq]
          unfold IsName
          constructor
          · intro h
            refine ⟨by omega, by omega, fun c hc => ?_, h3⟩
            simpa using h (decide (97 ≤ c ∧ c ≤ 122)) (List.mem_map_of_mem hc)
          · rintro ⟨_, _, h, _⟩ b hb
            obtain ⟨c, hc, rfl⟩ := List.mem_map.mp hb
            simpa using h c hc
    · have hn : ¬ IsName s := fun h => h2 (by have := h.2.1; omega)
      simp [startM, kit_ss, szl hs, h1, h2, hn]
      exact Kp.refl
  · have hn : ¬ IsName s := fun h => h1 (by have := h.1; omega)
    simp [startM, kit_ss, szl hs, h1, hn]
    exact Kp.refl
/-! ### values of any kind -/
def kinds7 : List String := ["NoneType", "bool", "int", "str", "tuple", "list", "dict"]
theorem kit_all : ∀ t ∈ ["NoneType", "bool", "int", "str", "tuple", "list", "dict"], kitB t "str" = some (decide (t = "str")) ∧ kitB t "tuple" = some (decide (t = "tuple")) ∧ kitB t "dict" = some (decide (t = "dict")) ∧ kitB t "bool" = some (decide (t = "bool")) := by decide
def isStr : MV → Bool
  | .str _ => true
  | _ => false
def isTup : MV → Bool
  | .tup _ => true
  | _ => false
/-- its type is known -/
def Typed (m : Mem) (d : MV) : Prop := ∃ t, tyM m d = some t ∧ t ∈ ["NoneType", "bool", "int", "str", "tuple", "list", "dict"]
theorem ty_isStr {m : Mem} {d : MV} {t : String} (h : tyM m d = some t) : (decide (t = "str")) = isStr d := by
  cases d with
  | int i => cases h; rfl
  | non => cases h; rfl
  | bl b => cases h; rfl
  | str s => cases h; rfl
  | tup l => cases h; rfl
  | kl l => cases h
  | ref n =>
    have h : tyO m[n]? = some t := h
    cases q : m[n]? with
    | none => rw [q] at h; cases h
    | some o => rw [q] at h; cases o <;> cases h <;> rfl
theorem ty_isTup {m : Mem} {d : MV} {t : String} (h : tyM m d = some t) : (decide (t = "tuple")) = isTup d := by
  cases d with
  | int i => cases h; rfl
  | non => cases h; rfl
  | bl b => cases h; rfl
  | str s => cases h; rfl
  | tup l => cases h; rfl
  | kl l => cases h
  | ref n =>
    have h : tyO m[n]? = some t := h
    cases q : m[n]? with
    | none => rw [q] at h; cases h
    | some o => rw [q] at h; cases o <;> cases h <;> rfl
theorem isi_str {m : Mem} {d : MV} (h : Typed m d) : ((tyM m d).bind fun t => kitB t "str") = some (isStr d) := by
  obtain ⟨t, h1, h2⟩ := h
  rw [h1, Option.bind_some, (kit_all t h2).1, ty_isStr h1]
theorem isi_tup {m : Mem} {d : MV} (h : Typed m d) : ((tyM m d).bind fun t => kitB t "tuple") = some (isTup d) := by
  obtain ⟨t, h1, h2⟩ := h
  rw [h1, Option.bind_some, (kit_all t h2).2.1, ty_isTup h1]
def nameB : MV → Bool
  | .str s => decide (IsName s)
  | _ => false
theorem isnameV_ok {k : Nat} {m : Mem} {v : MV} (h : Typed m v) (hs : ∀ s, v = .str s → s.length ≤ 1000) : MI.W (Tab (k + 1) .is_name [v] m) (fun d m' => d = .bl (nameB v) ∧ Kp [] m m') E0 := by
  by_cases c : isStr v = true
  · cases v with
    | str s => exact isname_ok (hs s rfl)
    | _ => cases c
  · have e := isi_str h
    rw [show isStr v = false by simpa using c] at e
    show MI.W (f_is_name (Tab k) [v] m) _ _
    unfold f_is_name b_is_name
    simp [startM, e]
    refine ⟨?_, Kp.refl⟩
    cases v with
    | str s => exact absurd rfl c
    | _ => rfl
end K01
namespace K01
open PySem L2 MI
theorem W_eq {α : Type} {r : Re α} {x : α} {m : Mem} (h : MI.W r (fun d m' => d = x ∧ m' = m) E0) : r = .ok x m := by
  cases r with
  | ok a m1 => obtain ⟨h1, h2⟩ := h; rw [h1, h2]
  | ex x m1 => exact h.elim
  | stuck => exact h.elim
/-! ### values: tuples, texts, constants, and lists and dicts that are not at S -/
def HeadOk (m : Mem) (x : MV) : Prop := (∃ s, x = .str s) ∨ ∃ n l, x = .ref n ∧ m[n]? = some (.lst l) ∧ Das l
mutual
def TyV (S : List Nat) (m : Mem) : MV → Prop
  | .tup l => TyVs S m l ∧ l.length ≤ 100 ∧ ∀ a ls x y, l = [.str "compare", a, .tup ls] → .tup [x, y] ∈ ls → HeadOk m x
  | .str s => s.length ≤ 100
  | .ref n => n ∉ S ∧ ((∃ l, m[n]? = some (.lst l) ∧ Das l) ∨ ∃ l, m[n]? = some (.dct l))
  | .kl _ => False
  | .int _ => True
  | .bl _ => True
  | .non => True
def TyVs (S : List Nat) (m : Mem) : List MV → Prop
  | [] => True
  | d :: l => TyV S m d ∧ TyVs S m l
end
theorem TyVs.mem {S : List Nat} {m : Mem} : ∀ {l : List MV} {d : MV}, TyVs S m l → d ∈ l → TyV S m d
  | x :: r, d, h, hd => by
    unfold TyVs at h
    rcases List.mem_cons.mp hd with rfl | hd
    · exact h.1
    · exact TyVs.mem h.2 hd
theorem TyVs.of {S : List Nat} {m : Mem} : ∀ {l : List MV}, (∀ d ∈ l, TyV S m d) → TyVs S m l
  | [], _ => by unfold TyVs; trivial
  | x :: r, h => by unfold TyVs; exact ⟨h x List.mem_cons_self, TyVs.of fun d hd => h d (List.mem_cons_of_mem _ hd)⟩
theorem TyV.typed {S : List Nat} {m : Mem} {d : MV} (h : TyV S m d) : Typed m d := by
  cases d with
  | non => exact ⟨_, rfl, by decide⟩
  | bl b => exact ⟨_, rfl, by decide⟩
  | int i => exact ⟨_, rfl, by decide⟩
  | str s => exact ⟨_, rfl, by decide⟩
  | tup l => exact ⟨_, rfl, by decide⟩
  | kl l => unfold TyV at h; exact h.elim
  | ref n =>
    unfold TyV at h
    rcases h.2 with ⟨l, h, _⟩ | ⟨l, h⟩
    · exact ⟨"list", by show tyO m[n]? = _; rw [h]; rfl, by decide⟩
    · exact ⟨"dict", by show tyO m[n]? = _; rw [h]; rfl, by decide⟩
theorem TyV.str {S : List Nat} {m : Mem} {d : MV} (h : TyV S m d) : ∀ s, d = .str s → s.length ≤ 1000 := by
  rintro s rfl
  unfold TyV at h
  omega
theorem TyV.items {S : List Nat} {m : Mem} {l : List MV} (h : TyV S m (.tup l)) : (∀ d ∈ l, TyV S m d) ∧ l.length ≤ 100 := by
  unfold TyV at h
  exact ⟨fun d hd => h.1.mem hd, h.2.1⟩
theorem HeadOk.kp {m m' : Mem} {x : MV} (h : HeadOk m x) (k : Kp [] m m') : HeadOk m' x := by
  rcases h with h | ⟨n, l, h1, h2, h3⟩
  · exact .inl h
  · exact .inr ⟨n, l, h1, k.get h2 (by simp), h3⟩
mutual
theorem TyV.kp {S : List Nat} {m m' : Mem} (k : Kp [] m m') : ∀ (d : MV), TyV S m d → TyV S m' d
  | .tup l, h => by
    unfold TyV at h ⊢
    exact ⟨TyVs.kp k l h.1, h.2.1, fun a ls x y e hx => (h.2.2 a ls x y e hx).kp k⟩
  | .str s, h => by unfold TyV at h ⊢; exact h
  | .ref n, h => by
    unfold TyV at h ⊢
    refine ⟨h.1, ?_⟩
    rcases h.2 with ⟨l, a, b⟩ | ⟨l, a⟩
    · exact .inl ⟨l, k.get a (by simp), b⟩
    · exact .inr ⟨l, k.get a (by simp)⟩
  | .kl _, h => by unfold TyV at h; exact h.elim
  | .int _, _ => by unfold TyV; trivial
  | .bl _, _ => by unfold TyV; trivial
  | .non, _ => by unfold TyV; trivial
theorem TyVs.kp {S : List Nat} {m m' : Mem} (k : Kp [] m m') : ∀ (l : List MV), TyVs S m l → TyVs S m' l
  | [], _ => by unfold TyVs; trivial
  | d :: r, h => by unfold TyVs at h ⊢; exact ⟨TyV.kp k d h.1, TyVs.kp k r h.2⟩
end
/-! ### the form of a value -/
def FormV (d : MV) : Prop := ∃ h es, d = encH h es ∧ HdOk h es.length
def tupB (v : MV) (a b : Int) : Bool := match v with
  | .tup l => decide (a ≤ l.length) && decide (l.length ≤ b)
  | _ => false
theorem istV_ok {k : Nat} {m : Mem} {v : MV} {a b : Int} (h : Typed m v) (hl : ∀ l, v = .tup l → l.length ≤ 1000) : MI.W (Tab (k + 1) .u_is_tuple [v, .int a, .int b] m) (fun d m' => d = .bl (tupB v a b) ∧ m' = m) E0 := by
  show MI.W (f_u_is_tuple (Tab k) [v, .int a, .int b] m) _ _
  unfold f_u_is_tuple b_u_is_tuple
  have e := isi_tup h
  by_cases c : isTup v = true
  · cases v with
    | tup l =>
      by_cases h1 : a ≤ l.length
      · simp [startM, kit_tt, h1, tupB]
      · simp [startM, kit_tt, h1, tupB]
    | _ => cases c
  · rw [show isTup v = false by simpa using c] at e
    simp [startM, e]
    cases v with
    | tup s => exact absurd rfl c
    | _ => rfl
theorem any_strs {l : List PyData} : ∀ ss : List Str, (pds (ss.map .str)).any (fun z => PyData.eqv z (.list l)) = false
  | [] => rfl
  | s :: r => by
    simp only [List.map_cons, pds, List.any_cons, any_strs r, Bool.or_false]
    simp [pd, PyData.eqv]
theorem W_inB_ref {n : Nat} {l : List MV} {ss : List Str} {m : Mem} {Q : MV → Mem → Prop} {E : Exn → Mem → Prop} (hn : m[n]? = some (.lst l)) (hl : Das l) (ds : Da (.tup (ss.map .str))) (q : Q (.bl false) m) : MI.W (gInB false (.ref n) (.tup (ss.map .str)) m) Q E := by
  unfold gInB
  rw [if_pos ⟨⟨_, rfl⟩, rfl⟩]
  unfold gInT
  rw [dat_l hn hl, dat_pu m _ fuel ds.pu (Nat.le_trans ds.fl (by decide))]
  have sh := shaped_pu ds.pu (by have := ds.dp; omega)
  simp only [pd] at sh ⊢
  rw [if_pos ⟨shaped_pus hl.pu (by have := hl.dp; omega), sh⟩]
  show Q (.bl ((pds (ss.map .str)).any fun z => PyData.eqv z (.list (pds l)))) m
  rw [any_strs]
  exact q
def linkB : MV → Bool
  | .tup [.str s, _] => decide (s ∈ signs)
  | _ => false
theorem linksV_ok {S : List Nat} {k : Nat} {m : Mem} {l : List MV} (h : TyV S m (.tup l)) (hh : ∀ x y, .tup [x, y] ∈ l → HeadOk m x) : MI.W (Tab (k + 2) .u_are_links [.tup l] m) (fun d m' => d = .bl (l.all linkB) ∧ Kp [] m m') E0 := by
  obtain ⟨h1, h2⟩ := h.items
  show MI.W (f_u_are_links (Tab (k + 1)) [.tup l] m) _ _
  unfold f_u_are_links b_u_are_links
  simp [startM]
  refine W_pure (fun d => .bl (linkB d)) (fun _ => true) trivial (fun d hd => ⟨rfl, fun _ => ?_⟩) (by omega) ?_
  · have td := h1 d hd
    refine W_eq ?_
    simp [wipeM]
    refine (istV_ok (k := k) td.typed (fun l' e => by rw [e] at td; have := td.items.2; omega)).mono ?_
    rintro d' m' ⟨rfl, rfl⟩
    cases d with
    | tup q =>
      by_cases e : q.length = 2
      · obtain ⟨x, y, rfl⟩ : ∃ x y, q = [x, y] := by
          match q, e with
          | [x, y], _ => exact ⟨x, y, rfl⟩
        simp [tupB]
        rcases hh x y hd with ⟨s, rfl⟩ | ⟨n, lx, rfl, hx, dx⟩
        · have key : ∀ (m : Mem) (Q : MV → Mem → Prop) (E : Exn → Mem → Prop), MI.W (gInA false (.str s) c_SIGNS m) Q E = Q (.bl (decide (s ∈ signs))) m := fun m Q E => W_in_strs (l := signs) (neg := false)
          simp
          erw [key]
          simp [linkB]
        · exact W_inB_ref (ss := signs) hx dx ⟨by decide +kernel, by decide +kernel, by decide +kernel⟩ (by simp [linkB])
      · have e1 : tupB (.tup q) 2 2 = false := by unfold tupB; simp; omega
        have e2 : linkB (.tup q) = false := by
          unfold linkB
          split
          · rename_i h; cases h; simp at e
          · rfl
        rw [e1, e2]
        simp
    | _ => simp [linkB, tupB]
  · rw [filter_all, W_all (bs := l.map linkB) (by rw [List.map_map]; exact List.getElem?_concat_length)]
    refine ⟨?_, Kp.push⟩
    rw [List.all_map]
    rfl
theorem links_form {l : List MV} (h : l.all linkB = true) : ∃ sg es, l = List.zipWith (fun s x => MV.tup [.str s, x]) sg es ∧ sg.length = es.length ∧ sg.length = l.length ∧ ∀ s ∈ sg, s ∈ signs := by
  induction l with
  | nil => exact ⟨[], [], rfl, rfl, rfl, by simp⟩
  | cons d r ih =>
    rw [List.all_cons, Bool.and_eq_true] at h
    obtain ⟨sg, es, h1, h2, h3, h4⟩ := ih h.2
    have hd := h.1
    unfold linkB at hd
    split at hd
    · rename_i s x
      refine ⟨s :: sg, x :: es, by rw [h1]; rfl, by simp [h2], by simp [h3], fun y hy => ?_⟩
      rcases List.mem_cons.mp hy with rfl | hy
      · simpa using hd
      · exact h4 y hy
    · cases hd
theorem form_links {sg : List Str} {es : List MV} (h : sg.length = es.length) (hs : ∀ s ∈ sg, s ∈ signs) : (List.zipWith (fun s x => MV.tup [.str s, x]) sg es).all linkB = true := by
  rw [List.all_eq_true]
  intro d hd
  obtain ⟨i, hi, rfl⟩ := List.mem_iff_getElem.mp hd
  simp only [List.getElem_zipWith]
  unfold linkB
  simpa using hs _ (List.getElem_mem _)
end K01
namespace K01
open PySem L2 MI
theorem formV_iff {w : Str} {r : List MV} : FormV (.tup (.str w :: r)) ↔ (w = "name" ∧ ∃ s, r = [.str s] ∧ IsName s) ∨ (w = "call" ∧ ∃ s es, r = [.str s, .tup es] ∧ IsName s ∧ es.length ≤ 3) ∨ (w = "compare" ∧ ∃ a ls, r = [a, .tup ls] ∧ 1 ≤ ls.length ∧ ls.length ≤ 4 ∧ ls.all linkB = true) ∨ k_LENGTHS.lookup w = some (.int (r.length + 1)) := by
  constructor
  · rintro ⟨h, es, e, ok⟩
    cases h with
    | name s =>
      simp [encH] at e
      obtain ⟨rfl, rfl⟩ := e
      exact .inl ⟨rfl, s, rfl, ok.1⟩
    | call s =>
      simp [encH] at e
      obtain ⟨rfl, rfl⟩ := e
      exact .inr (.inl ⟨rfl, s, es, rfl, ok.1, ok.2⟩)
    | cmp sg =>
      obtain ⟨c1, c2, c3, c4⟩ := (show sg.length + 1 = es.length ∧ 1 ≤ sg.length ∧ sg.length ≤ 4 ∧ ∀ s ∈ sg, s ∈ (["<", "<=", ">", ">=", "==", "!="] : List Str) from ok)
      cases es with
      | nil => simp at c1
      | cons a es =>
        have ce : sg.length = es.length := by simpa using c1
        simp [encH] at e
        obtain ⟨rfl, rfl⟩ := e
        exact .inr (.inr (.inl ⟨rfl, a, _, rfl, by simp; omega, by simp; omega, form_links ce c4⟩))
    | op w' =>
      simp [encH] at e
      obtain ⟨rfl, rfl⟩ := e
      exact .inr (.inr (.inr ok))
  · rintro (⟨rfl, s, rfl, hs⟩ | ⟨rfl, s, es, rfl, hs, hl⟩ | ⟨rfl, a, ls, rfl, l1, l2, hl⟩ | h)
    · exact ⟨.name s, [], rfl, hs, rfl⟩
    · exact ⟨.call s, es, rfl, hs, hl⟩
    · obtain ⟨sg, es, e1, e2, e3, e4⟩ := links_form hl
      exact ⟨.cmp sg, a :: es, by rw [e1]; rfl, by simp; omega, by omega, by omega, e4⟩
    · exact ⟨.op w, r, rfl, h⟩
theorem encH_tup {h : Hd} {es : List MV} : ∃ w r, encH h es = .tup (.str w :: r) := by cases h <;> exact ⟨_, _, rfl⟩
theorem formV_no {d : MV} (h : ∀ w r, d ≠ .tup (.str w :: r)) : ¬ FormV d := by
  rintro ⟨hd, es, rfl, _⟩
  obtain ⟨w, r, e⟩ := encH_tup (h := hd) (es := es)
  exact h w r e
theorem lookup_int {w : Str} {c : MV} (h : k_LENGTHS.lookup w = some c) : ∃ i : Int, c = .int i ∧ w ≠ ("name" : Str) ∧ w ≠ ("call" : Str) ∧ w ≠ ("compare" : Str) := by
  have c' : (w, c) ∈ k_LENGTHS := lookup_mem h
  simp [k_LENGTHS] at c'
  rcases c' with ⟨rfl, c⟩ | ⟨rfl, c⟩ | ⟨rfl, c⟩ | ⟨rfl, c⟩ | ⟨rfl, c⟩ | ⟨rfl, c⟩ | ⟨rfl, c⟩ | ⟨rfl, c⟩ | ⟨rfl, c⟩ <;> exact ⟨_, c, by decide, by decide, by decide⟩
/-- a truth, and nothing else has changed -/
structure BI (P : Prop) (m : Mem) (v : MV) (m' : Mem) : Prop where
  ex : ∃ b : Bool, v = .bl b ∧ (b = true ↔ P)
  kp : Kp [] m m'
theorem BI.no {P : Prop} {m m' : Mem} (h : ¬ P) (k : Kp [] m m') : BI P m (.bl false) m' := ⟨⟨false, rfl, by simp [h]⟩, k⟩
theorem BI.is {P : Prop} {m m' : Mem} {b : Bool} (h : b = true ↔ P) (k : Kp [] m m') : BI P m (.bl b) m' := ⟨⟨b, rfl, h⟩, k⟩
theorem len2 {r : List MV} (h : r.length = 2) : ∃ y z, r = [y, z] := by
  match r, h with
  | [x, y], _ => exact ⟨x, y, rfl⟩
theorem hasform_ok {S : List Nat} {k : Nat} {m : Mem} {d : MV} (h : TyV S m d) : MI.W (Tab (k + 3) .u_has_form [d] m) (BI (FormV d) m) E0 := by
  show MI.W (f_u_has_form (Tab (k + 2)) [d] m) _ _
  unfold f_u_has_form b_u_has_form
  have e := isi_tup h.typed
  have ktt := kit_tt
  have kss := kit_ss
  by_cases c : isTup d = true
  · cases d with
    | tup l =>
      obtain ⟨hi, hl⟩ := h.items
      cases l with
      | nil =>
        simp [startM, ktt]
        exact BI.no (formV_no (fun w r z => by cases z)) Kp.refl
      | cons x r =>
        have l0 : ¬ ((r.length : Int) + 1 = 0) := by omega
        have tx := hi x (by simp)
        have ex := isi_str tx.typed
        by_cases cx : isStr x = true
        · cases x with
          | str w =>
            by_cases w1 : w = "name"
            · subst w1
              simp [startM, ktt, kss, l0]
              by_cases l2 : r.length = 1
              · obtain ⟨y, rfl⟩ : ∃ y, r = [y] := List.length_eq_one_iff.mp l2
                have ty := hi y (by simp)
                simp
                refine (isnameV_ok (k := k + 1) ty.typed ty.str).mono ?_
                rintro d m1 ⟨rfl, k1⟩
                have q : (nameB y = true ↔ FormV (.tup [.str "name", y])) := by
                  rw [formV_iff]
                  constructor
                  · intro hy
                    cases y with
                    | str s => exact .inl ⟨rfl, s, rfl, by simpa [nameB] using hy⟩
                    | _ => cases hy
                  · rintro (⟨_, s, e, hs⟩ | ⟨e, _⟩ | ⟨e, _⟩ | e)
                    · cases e; simpa [nameB] using hs
                    · exact absurd e (by decide)
                    · exact absurd e (by decide)
                    · exact absurd rfl (lookup_int e).choose_spec.2.1
                exact BI.is q k1
              · have l3 : ¬ ((r.length : Int) + 1 = 2) := by omega
                simp [l3]
                refine BI.no ?_ Kp.refl
                rw [formV_iff]
                rintro (⟨_, s, e, hs⟩ | ⟨e, _⟩ | ⟨e, _⟩ | e)
                · subst e; simp at l2
                · exact absurd e (by decide)
                · exact absurd e (by decide)
                · exact absurd rfl (lookup_int e).choose_spec.2.1
            · by_cases w2 : w = "call"
              · subst w2
                simp [startM, ktt, kss, l0, show ¬ (("call" : Str) = "name") by decide]
                by_cases l2 : r.length = 2
                · obtain ⟨y, z, rfl⟩ : ∃ y z, r = [y, z] := len2 l2
                  have ty := hi y (by simp)
                  have tz := hi z (by simp)
                  simp
                  refine (isnameV_ok (k := k + 1) ty.typed ty.str).mono ?_
                  rintro d m1 ⟨rfl, k1⟩
                  have q : ((nameB y && tupB z 0 3) = true ↔ FormV (.tup [.str "call", y, z])) := by
                    rw [formV_iff]
                    constructor
                    · intro hy
                      rw [Bool.and_eq_true] at hy
                      obtain ⟨h1, h2⟩ := hy
                      cases y with
                      | str s =>
                        cases z with
                        | tup es => exact .inr (.inl ⟨rfl, s, es, rfl, by simpa [nameB] using h1, by simp [tupB] at h2; omega⟩)
                        | _ => cases h2
                      | _ => cases h1
                    · rintro (⟨e, _⟩ | ⟨_, s, es, e, hs, hl⟩ | ⟨e, _⟩ | e)
                      · exact absurd e (by decide)
                      · cases e; simp [nameB, hs, tupB]; omega
                      · exact absurd e (by decide)
                      · exact absurd rfl (lookup_int e).choose_spec.2.2.1
                  cases hn : nameB y with
                  | false =>
                    rw [hn] at q
                    simp
                    exact BI.no (fun z => by have := q.mpr z; simp at this) k1
                  | true =>
                    rw [hn] at q
                    simp
                    refine (istV_ok (k := k + 1) (TyV.kp k1 _ tz).typed (fun l' e' => by rw [e'] at tz; have := tz.items.2; omega)).mono ?_
                    rintro d m2 ⟨rfl, rfl⟩
                    simpa using BI.is q (k1)
                · have l3 : ¬ ((r.length : Int) + 1 = 3) := by omega
                  simp [l3]
                  refine BI.no ?_ Kp.refl
                  rw [formV_iff]
                  rintro (⟨e, _⟩ | ⟨_, s, es, e, hs⟩ | ⟨e, _⟩ | e)
                  · exact absurd e (by decide)
                  · subst e; simp at l2
                  · exact absurd e (by decide)
                  · exact absurd rfl (lookup_int e).choose_spec.2.2.1
              · by_cases w3 : w = "compare"
                · subst w3
                  simp [startM, ktt, kss, l0, show ¬ (("compare" : Str) = "name") by decide, show ¬ (("compare" : Str) = "call") by decide]
                  by_cases l2 : r.length = 2
                  · obtain ⟨y, z, rfl⟩ : ∃ y z, r = [y, z] := len2 l2
                    have tz := hi z (by simp)
                    simp
                    refine (istV_ok (k := k + 1) tz.typed (fun l' e' => by rw [e'] at tz; have := tz.items.2; omega)).mono ?_
                    rintro d m1 ⟨rfl, rfl⟩
                    have q : ((match z with | .tup ls => tupB z 1 4 && ls.all linkB | _ => false) = true ↔ FormV (.tup [.str "compare", y, z])) := by
                      rw [formV_iff]
                      constructor
                      · intro hy
                        cases z with
                        | tup ls =>
                          simp only [Bool.and_eq_true] at hy
                          obtain ⟨h1, h2⟩ := hy
                          simp only [tupB, Bool.and_eq_true, decide_eq_true_eq] at h1
                          exact .inr (.inr (.inl ⟨rfl, y, ls, rfl, by omega, by omega, h2⟩))
                        | _ => cases hy
                      · rintro (⟨e, _⟩ | ⟨e, _⟩ | ⟨_, a, ls, e, h1, h2, h3⟩ | e)
                        · exact absurd e (by decide)
                        · exact absurd e (by decide)
                        · cases e
                          simp only [tupB, h3, Bool.and_true, Bool.and_eq_true, decide_eq_true_eq]
                          omega
                        · exact absurd rfl (lookup_int e).choose_spec.2.2.2
                    cases hz : tupB z 1 4 with
                    | false =>
                      refine BI.no ?_ Kp.refl
                      rw [← q]
                      cases z <;> simp [hz]
                    | true =>
                      cases z with
                      | tup ls =>
                        simp
                        refine (linksV_ok (k := k) tz (fun x' y' hx => (by unfold TyV at h; exact h.2.2 y ls x' y' rfl hx))).mono ?_
                        rintro d m2 ⟨rfl, k2⟩
                        have q' : (ls.all linkB = true ↔ FormV (.tup [.str "compare", y, .tup ls])) := by rw [← q]; simp only [hz, Bool.true_and]
                        exact BI.is q' k2
                      | _ => cases hz
                  · have l3 : ¬ ((r.length : Int) + 1 = 3) := by omega
                    simp [l3]
                    refine BI.no ?_ Kp.refl
                    rw [formV_iff]
                    rintro (⟨e, _⟩ | ⟨e, _⟩ | ⟨_, a, ls, e, _⟩ | e)
                    · exact absurd e (by decide)
                    · exact absurd e (by decide)
                    · subst e; simp at l2
                    · exact absurd rfl (lookup_int e).choose_spec.2.2.2
                · simp [startM, ktt, kss, l0, w1, w2, w3]
                  have q0 : FormV (.tup (.str w :: r)) ↔ k_LENGTHS.lookup w = some (.int (r.length + 1)) := by
                    rw [formV_iff]
                    constructor
                    · rintro (⟨e, _⟩ | ⟨e, _⟩ | ⟨e, _⟩ | e)
                      · exact absurd e w1
                      · exact absurd e w2
                      · exact absurd e w3
                      · exact e
                    · exact fun e => .inr (.inr (.inr e))
                  cases hw : k_LENGTHS.lookup w with
                  | none =>
                    simp
                    exact BI.no (by rw [q0, hw]; simp) Kp.refl
                  | some c =>
                    obtain ⟨i, rfl, _⟩ := lookup_int hw
                    simp
                    exact BI.is (by rw [q0, hw]; simp [eq_comm]) Kp.refl
          | _ => cases cx
        · rw [show isStr x = false by simpa using cx] at ex
          simp [startM, ktt, l0, ex]
          refine BI.no (formV_no (fun w r' z => ?_)) Kp.refl
          cases z
          exact cx rfl
    | _ => cases c
  · rw [show isTup d = false by simpa using c] at e
    simp [startM, e]
    refine BI.no (formV_no (fun w r z => ?_)) Kp.refl
    subst z
    exact c rfl
end K01
namespace K01
open PySem L2 MI
/-! ### check_expression -/
def Cover (n : Nat) (S : List Str) : Prop := ∃ vs : List Str, vs.length ≤ n ∧ ∀ x ∈ S, x ∈ vs
theorem nodup_le : ∀ {a vs : List Str}, a.Nodup → (∀ x ∈ a, x ∈ vs) → a.length ≤ vs.length
  | [], _, _, _ => Nat.zero_le _
  | x :: a, vs, nd, h => by
    have hx : x ∈ vs := h x List.mem_cons_self
    obtain ⟨n1, n2⟩ := List.nodup_cons.mp nd
    have := nodup_le (a := a) (vs := vs.erase x) n2 fun y hy => by
      have ne : y ≠ x := fun e => n1 (e ▸ hy)
      exact (List.mem_erase_of_ne ne).mpr (h y (List.mem_cons_of_mem _ hy))
    rw [List.length_erase_of_mem hx] at this
    have pos : 0 < vs.length := List.length_pos_of_mem hx
    simp only [List.length_cons]
    omega
abbrev St := List (T × Nat)
def stV (st : St) : List MV := st.map fun p => .tup [enc p.1, .int p.2]
def stSize (st : St) : Nat := (st.map fun p => size p.1).sum
def stPl (st : St) : Nat := (st.map fun p => places p.1).sum
def stNm (st : St) : List Str := (st.map fun p => names p.1).flatten
/-- what is asked of what is still to be looked at -/
def Fits (n p : Nat) (ns : List Str) (st : St) : Prop := n + stSize st ≤ 40 ∧ p + stPl st ≤ 6 ∧ Cover 4 (ns ++ stNm st) ∧ ∀ q ∈ st, q.2 + levels q.1 ≤ 13
def nmD (ns : List Str) : List (Key × MV) := ns.map fun s => (.inr s, .bl true)
def addN (ns : List Str) (s : Str) : List Str := if s ∈ ns then ns else ns ++ [s]
theorem putM_nm {ns : List Str} {s : Str} : putM (nmD ns) (.inr s) (.bl true) = nmD (addN ns s) := by
  unfold putM addN
  have e : ((nmD ns).any fun kv => decide (kv.fst = Sum.inr s)) = decide (s ∈ ns) := by
    unfold nmD
    rw [List.any_map]
    induction ns with
    | nil => rfl
    | cons x r ih =>
      rw [List.any_cons, ih]
      by_cases h : x = s
      · subst h; simp
      · simp [h, Ne.symm h]
  rw [e]
  by_cases h : s ∈ ns
  · simp only [h, decide_true, if_true]
    unfold nmD
    rw [List.map_map]
    refine List.map_congr_left fun x _ => ?_
    show (if (Sum.inr x : Key) = Sum.inr s then _ else _) = _
    split
    · rename_i q; cases q; rfl
    · rfl
  · simp [h, nmD]
theorem addN_nodup {ns : List Str} {s : Str} (h : ns.Nodup) : (addN ns s).Nodup := by
  unfold addN
  split
  · exact h
  · rw [List.nodup_append]
    refine ⟨h, by simp, fun a ha b hb => ?_⟩
    simp at hb
    subst hb
    intro e
    subst e
    exact absurd ha ‹_›
theorem addN_mem {ns : List Str} {s x : Str} : x ∈ addN ns s ↔ x ∈ ns ∨ x = s := by
  unfold addN
  split
  · constructor
    · exact .inl
    · rintro (h | rfl)
      · exact h
      · assumption
  · simp
theorem own_ok {k : Nat} {m : Mem} {h : Hd} {es : List MV} (hok : HdOk h es.length) : MI.W (Tab (k + 1) .u_own_places [encH h es] m) (fun d m' => d = .int (hdPl h) ∧ m' = m) E0 := by
  show MI.W (f_u_own_places (Tab k) [encH h es] m) _ _
  unfold f_u_own_places b_u_own_places
  cases h with
  | name s => simp [startM, encH, hdPl, show ¬ (("name" : Str) = "call") by decide, show ¬ (("name" : Str) = "compare") by decide]
  | call s => simp [startM, encH, hdPl]
  | cmp sg =>
    have c1 : sg.length + 1 = es.length := hok.1
    cases es with
    | nil => simp at c1
    | cons a es =>
      have ce : sg.length = es.length := by simpa using c1
      simp [startM, encH, hdPl, show ¬ (("compare" : Str) = "call") by decide]
      omega
  | op w =>
    obtain ⟨n1, n2, n3, n4⟩ := op_word hok
    simp [startM, encH, n2, n3, hdPl]
theorem stV_snoc {st : St} {t : T} {lv : Nat} : stV (st ++ [(t, lv)]) = stV st ++ [.tup [enc t, .int lv]] := by simp [stV]
theorem sizes_sum : ∀ l : List T, sizes l = (l.map size).sum
  | [] => rfl
  | t :: r => by simp [sizes, sizes_sum r]
theorem placess_sum : ∀ l : List T, placess l = (l.map places).sum
  | [] => rfl
  | t :: r => by simp [placess, placess_sum r]
theorem namess_flat : ∀ l : List T, namess l = (l.map names).flatten
  | [] => rfl
  | t :: r => by simp [namess, namess_flat r]
theorem levelss_le : ∀ {l : List T} {n : Nat}, levelss l ≤ n ↔ ∀ t ∈ l, levels t ≤ n
  | [], n => by simp [levelss]
  | t :: r, n => by
    have := levelss_le (l := r) (n := n)
    simp [levelss, Nat.max_le, this]
def kids (l : List T) (lv : Nat) : St := l.map fun t => (t, lv + 1)
def nsOf (h : Hd) (ns : List Str) : List Str := match h with
  | .name s => addN ns s
  | _ => ns
theorem nsOf_mem {h : Hd} {ns : List Str} {x : Str} : x ∈ nsOf h ns ↔ x ∈ ns ∨ x ∈ hdNm h := by
  cases h <;> simp [nsOf, hdNm, addN_mem]
theorem nsOf_nodup {h : Hd} {ns : List Str} (a : ns.Nodup) : (nsOf h ns).Nodup := by
  cases h with
  | name s => exact addN_nodup a
  | _ => exact a
theorem st_size {st : St} {h : Hd} {l : List T} {lv : Nat} : stSize (st ++ [(.node h l, lv)]) = stSize st + 1 + sizes l ∧ stSize (st ++ kids l lv) = stSize st + sizes l := by
  constructor
  · simp [stSize, size]; omega
  · simp [stSize, kids, sizes_sum, Function.comp_def]
theorem st_pl {st : St} {h : Hd} {l : List T} {lv : Nat} : stPl (st ++ [(.node h l, lv)]) = stPl st + (hdPl h + placess l) ∧ stPl (st ++ kids l lv) = stPl st + placess l := by
  constructor
  · simp [stPl, places]
  · simp [stPl, kids, placess_sum, Function.comp_def]
theorem st_nm {st : St} {h : Hd} {l : List T} {lv : Nat} : stNm (st ++ [(.node h l, lv)]) = stNm st ++ (hdNm h ++ namess l) ∧ stNm (st ++ kids l lv) = stNm st ++ namess l := by
  constructor
  · simp [stNm, names]
  · simp [stNm, kids, namess_flat, Function.comp_def]
theorem fits_step {h : Hd} {l : List T} {lv many pl : Nat} {ns : List Str} {st : St} (hlv : lv ≤ 12) : Fits many pl ns (st ++ [(.node h l, lv)]) ↔ Fits (many + 1) (pl + hdPl h) (nsOf h ns) (st ++ kids l lv) := by
  unfold Fits
  rw [st_size.1, (st_size (h := h)).2, st_pl.1, (st_pl (h := h)).2, st_nm.1, (st_nm (h := h)).2]
  have c : Cover 4 (ns ++ (stNm st ++ (hdNm h ++ namess l))) ↔ Cover 4 (nsOf h ns ++ (stNm st ++ namess l)) := by
    constructor
    · rintro ⟨vs, h1, h2⟩
      refine ⟨vs, h1, fun x hx => h2 x ?_⟩
      simp only [List.mem_append, nsOf_mem] at hx ⊢
      rcases hx with (hx | hx) | hx | hx <;> simp [hx]
    · rintro ⟨vs, h1, h2⟩
      refine ⟨vs, h1, fun x hx => h2 x ?_⟩
      simp only [List.mem_append, nsOf_mem] at hx ⊢
      rcases hx with hx | hx | hx | hx <;> simp [hx]
  rw [c]
  have d : (∀ q ∈ st ++ [((.node h l : T), lv)], q.2 + levels q.1 ≤ 13) ↔ ∀ q ∈ st ++ kids l lv, q.2 + levels q.1 ≤ 13 := by
    constructor
    · intro a q hq
      rcases List.mem_append.mp hq with hq | hq
      · exact a q (by simp [hq])
      · obtain ⟨t, ht, rfl⟩ := List.mem_map.mp hq
        have := a (.node h l, lv) (by simp)
        simp only [levels] at this
        have := (levelss_le (n := levelss l)).mp (Nat.le_refl _) t ht
        show lv + 1 + levels t ≤ 13
        omega
    · intro a q hq
      rcases List.mem_append.mp hq with hq | hq
      · exact a q (by simp [hq])
      · simp at hq
        subst hq
        have : levelss l ≤ 12 - lv := levelss_le.mpr fun t ht => by
          have := a (t, lv + 1) (by simp [kids]; exact .inr ht)
          simp at this
          omega
        simp only [levels]
        omega
  rw [d]
  constructor
  · rintro ⟨a, b, c, d⟩; exact ⟨by omega, by omega, c, d⟩
  · rintro ⟨a, b, c, d⟩; exact ⟨by omega, by omega, c, d⟩
theorem fits_names {many pl : Nat} {ns : List Str} {st : St} (nd : ns.Nodup) (f : Fits many pl ns st) : ns.length ≤ 4 := by
  obtain ⟨vs, h1, h2⟩ := f.2.2.1
  exact Nat.le_trans (nodup_le nd fun x hx => h2 x (by simp [hx])) h1
def word : Hd → Str
  | .name _ => "name"
  | .call _ => "call"
  | .cmp _ => "compare"
  | .op w => w
theorem head_ok {h : Hd} {es : List MV} {m : Mem} {Q : MV → Mem → Prop} {E : Exn → Mem → Prop} : MI.W (gItem (encH h es) (.int 0) m) Q E = Q (.str (word h)) m := by
  cases h <;> simp [encH, word]
noncomputable def rest (ck : Fnm → MF) : MS := (mSeq (mAsg (mBin gAdd (mVar 4) (mCall (ck .u_own_places) (mCons (mVar 5) mNil))) (nName 4))
    (mSeq (mIfS (mOrT (mB (mBin gGt (mCall gLen (mCons (mVar 2) mNil)) (mC c_MOST_VARIABLES))) (mB (mBin gGt (mVar 4) (mC c_MOST_PLACES))))
    (mRaise "InvalidExpression")
    mSkip)
    (mDrop (mBM gExtend (mVar 1) (mCons (mLc (mAnyI (mCall (ck .operands) (mCons (mVar 5) mNil))) (ngName 7) mYes (mTup (mCons (mVar 7) (mCons (mBin gAdd (mVar 6) (mC (.int 1))) mNil))) [7]) mNil)))))
/-! ### the same for values -/
def stW (st : List (MV × Nat)) : List MV := st.map fun p => .tup [p.1, .int p.2]
def kidsV (es : List MV) (lv : Nat) : List (MV × Nat) := es.map fun e => (e, lv + 1)
def FitsV (many pl : Nat) (ns : List Str) (st : List (MV × Nat)) : Prop := ∃ ts : St, st = ts.map (fun p => (enc p.1, p.2)) ∧ (∀ q ∈ ts, Ok q.1) ∧ Fits many pl ns ts
theorem stW_snoc {st : List (MV × Nat)} {d : MV} {lv : Nat} : stW (st ++ [(d, lv)]) = stW st ++ [.tup [d, .int lv]] := by simp [stW]
theorem hd_len {h : Hd} {n : Nat} (ok : HdOk h n) : n ≤ 5 := by
  cases h with
  | name s => have : n = 0 := ok.2; omega
  | call s => have : n ≤ 3 := ok.2; omega
  | cmp sg => obtain ⟨c1, c2, c3, c4⟩ := (show sg.length + 1 = n ∧ 1 ≤ sg.length ∧ sg.length ≤ 4 ∧ ∀ s ∈ sg, s ∈ (["<", "<=", ">", ">=", "==", "!="] : List Str) from ok); omega
  | op w => obtain ⟨n1, n2, n3, n4⟩ := op_word ok; omega
theorem zip_inj : ∀ {sg sg' : List Str} {es es' : List MV}, sg.length = es.length → sg'.length = es'.length → List.zipWith (fun s x => MV.tup [.str s, x]) sg es = List.zipWith (fun s x => MV.tup [.str s, x]) sg' es' → sg = sg' ∧ es = es'
  | [], [], [], [], _, _, _ => ⟨rfl, rfl⟩
  | [], s :: sg', [], e :: es', _, _, h => by simp at h
  | s :: sg, [], e :: es, [], _, _, h => by simp at h
  | s :: sg, s' :: sg', e :: es, e' :: es', h1, h2, h => by
    simp at h
    obtain ⟨⟨a, b⟩, c⟩ := h
    obtain ⟨d, f⟩ := zip_inj (by simpa using h1) (by simpa using h2) c
    exact ⟨by rw [a, d], by rw [b, f]⟩
  | [], _, _ :: _, _, h, _, _ => by simp at h
  | _ :: _, _, [], _, h, _, _ => by simp at h
  | _, [], _, _ :: _, _, h, _ => by simp at h
  | _, _ :: _, _, [], _, h, _ => by simp at h
theorem encH_inj {h h' : Hd} {es es' : List MV} (o : HdOk h es.length) (o' : HdOk h' es'.length) (e : encH h es = encH h' es') : h = h' ∧ es = es' := by
  have len0 : ∀ {s : Str} {n : Nat}, HdOk (.name s) n → n = 0 := fun h => h.2
  cases h with
  | name s =>
    have e1 : es = [] := List.length_eq_zero_iff.mp (len0 o)
    cases h' with
    | name s' =>
      have e2 : es' = [] := List.length_eq_zero_iff.mp (len0 o')
      simp [encH] at e
      exact ⟨by rw [e], by rw [e1, e2]⟩
    | call s' => simp [encH] at e
    | cmp sg' => simp [encH] at e
    | op w => simp [encH] at e; exact absurd e.1.symm (op_word o').1
  | call s =>
    cases h' with
    | name s' => simp [encH] at e
    | call s' => simp [encH] at e; exact ⟨by rw [e.1], e.2⟩
    | cmp sg' => simp [encH, show ¬ (("call" : Str) = "compare") by decide] at e
    | op w => simp [encH] at e; exact absurd e.1.symm (op_word o').2.1
  | cmp sg =>
    obtain ⟨c1, c2, c3, c4⟩ := (show sg.length + 1 = es.length ∧ 1 ≤ sg.length ∧ sg.length ≤ 4 ∧ ∀ s ∈ sg, s ∈ (["<", "<=", ">", ">=", "==", "!="] : List Str) from o)
    cases h' with
    | name s' => simp [encH] at e
    | call s' => simp [encH, show ¬ (("compare" : Str) = "call") by decide] at e
    | cmp sg' =>
      obtain ⟨d1, d2, d3, d4⟩ := (show sg'.length + 1 = es'.length ∧ 1 ≤ sg'.length ∧ sg'.length ≤ 4 ∧ ∀ s ∈ sg', s ∈ (["<", "<=", ">", ">=", "==", "!="] : List Str) from o')
      cases es with
      | nil => simp at c1
      | cons a es =>
        cases es' with
        | nil => simp at d1
        | cons a' es' =>
          simp [encH] at e
          obtain ⟨x, y⟩ := zip_inj (by simpa using c1) (by simpa using d1) e.2
          exact ⟨by rw [x], by rw [e.1, y]⟩
    | op w => simp [encH] at e; exact absurd e.1.symm (op_word o').2.2.1
  | op w =>
    cases h' with
    | name s' => simp [encH] at e; exact absurd e.1 (op_word o).1
    | call s' => simp [encH] at e; exact absurd e.1 (op_word o).2.1
    | cmp sg' => simp [encH] at e; exact absurd e.1 (op_word o).2.2.1
    | op w' => simp [encH] at e; exact ⟨by rw [e.1], e.2⟩
theorem encs_map : ∀ l : List T, encs l = l.map enc
  | [] => rfl
  | t :: r => by simp [encs, encs_map r]
theorem Oks.of : ∀ {l : List T}, (∀ t ∈ l, Ok t) → Oks l
  | [], _ => .nil
  | t :: r, h => .cons (h t List.mem_cons_self) (Oks.of fun x hx => h x (List.mem_cons_of_mem _ hx))
theorem fitsV_step {h : Hd} {es : List MV} {lv many pl : Nat} {ns : List Str} {st : List (MV × Nat)} (o : HdOk h es.length) (hlv : lv ≤ 12) : FitsV many pl ns (st ++ [(encH h es, lv)]) ↔ FitsV (many + 1) (pl + hdPl h) (nsOf h ns) (st ++ kidsV es lv) := by
  constructor
  · rintro ⟨ts, e, ok, f⟩
    obtain ⟨ts', t, rfl⟩ : ∃ ts' t, ts = ts' ++ [t] := by
      cases hn : ts.reverse with
      | nil => rw [List.reverse_eq_nil_iff] at hn; subst hn; simp at e
      | cons t r => exact ⟨r.reverse, t, by rw [← List.reverse_reverse ts, hn]; simp⟩
    rw [List.map_append] at e
    obtain ⟨e1, e2⟩ := List.append_inj' e rfl
    obtain ⟨⟨h', l⟩, lv'⟩ := t
    simp at e2
    obtain ⟨e2, rfl⟩ := e2
    obtain ⟨o1, o2⟩ := (ok (.node h' l, lv) (by simp)).hd
    rw [enc_node] at e2
    obtain ⟨rfl, rfl⟩ := encH_inj o o1 e2
    refine ⟨ts' ++ kids l lv, ?_, fun q hq => ?_, (fits_step hlv).mp f⟩
    · rw [List.map_append, e1]
      congr 1
      unfold kidsV kids
      rw [encs_map, List.map_map, List.map_map]
      rfl
    · rcases List.mem_append.mp hq with hq | hq
      · exact ok q (by simp [hq])
      · obtain ⟨t, ht, rfl⟩ := List.mem_map.mp hq
        exact o2.mem ht
  · rintro ⟨ts, e, ok, f⟩
    have hl : st.length ≤ ts.length := by have := congrArg List.length e; simp [kidsV] at this; omega
    have e1 : st = (ts.take st.length).map (fun p => (enc p.1, p.2)) := by
      have := congrArg (List.take st.length) e
      rw [List.take_left, ← List.map_take] at this
      exact this
    have e2 : kidsV es lv = (ts.drop st.length).map (fun p => (enc p.1, p.2)) := by
      have := congrArg (List.drop st.length) e
      rw [List.drop_left, ← List.map_drop] at this
      exact this
    have split : ts = ts.take st.length ++ ts.drop st.length := (List.take_append_drop _ _).symm
    generalize ts.take st.length = t1 at e1 split
    generalize ts.drop st.length = t2 at e2 split
    subst split
    have k2 : t2 = kids (t2.map (·.1)) lv := by
      unfold kids
      rw [List.map_map]
      have : ∀ p ∈ t2, p.2 = lv + 1 := fun p hp => by
        have : (enc p.1, p.2) ∈ kidsV es lv := by rw [e2]; exact List.mem_map_of_mem hp
        obtain ⟨x, _, hx⟩ := List.mem_map.mp this
        injection hx with _ hx
        exact hx.symm
      conv => lhs; rw [← List.map_id t2]
      refine List.map_congr_left fun p hp => ?_
      rw [← this p hp]
      rfl
    have ee : es = encs (t2.map (·.1)) := by
      have := congrArg (List.map Prod.fst) e2
      unfold kidsV at this
      rw [List.map_map, List.map_map] at this
      rw [encs_map, List.map_map]
      have i : (Prod.fst ∘ fun e : MV => (e, lv + 1)) = id := rfl
      rw [i, List.map_id] at this
      exact this
    have okl : Oks (t2.map (·.1)) := Oks.of fun t ht => by
      obtain ⟨p, hp, rfl⟩ := List.mem_map.mp ht
      exact ok p (by simp [hp])
    refine ⟨t1 ++ [(.node h (t2.map (·.1)), lv)], ?_, fun q hq => ?_, ?_⟩
    · rw [List.map_append, e1]
      simp [enc_node, ← ee]
    · rcases List.mem_append.mp hq with hq | hq
      · exact ok q (by simp [hq])
      · simp at hq
        subst hq
        exact .node (by rw [ee, encs_length] at o; exact o) okl
    · rw [fits_step hlv, ← k2]
      exact f
end K01
namespace K01
open PySem L2 MI
theorem mem_sum : ∀ {l : List Nat} {x : Nat}, x ∈ l → x ≤ l.sum
  | y :: r, x, h => by
    rcases List.mem_cons.mp h with rfl | h
    · simp
    · have := mem_sum h; simp; omega
theorem restV_ok {k : Nat} {m0 M : Mem} {e0 x7 : Option MV} {w nm many pl lv : Nat} {h : Hd} {es : List MV} {ns : List Str} {st : List (MV × Nat)} {A : MI.Env → Mem → Prop} {R : Mem → Prop} (ok : HdOk h es.length)
    (h2 : M[w]? = some (.lst (stW st))) (h3 : M[nm]? = some (.dct (nmD ns))) (hl : st.length ≤ 500) (hm : many ≤ 100) (h5 : m0.length ≤ w) (k0 : Kp [] m0 M)
    (bad : ∀ m', Kp [] m0 m' → (4 < ns.length ∨ 6 < pl + hdPl h) → R m') (good : ∀ m' x7', Kp [] m0 m' → m'[w]? = some (.lst (stW (st ++ kidsV es lv))) → m'[nm]? = some (.dct (nmD ns)) → ns.length ≤ 4 → pl + hdPl h ≤ 6 → A [e0, some (.ref w), some (.ref nm), some (.int many), some (.int (pl + hdPl h : Nat)), some (encH h es), some (.int lv), x7'] m') :
    MI.W (rest (Tab (k + 3)) [e0, some (.ref w), some (.ref nm), some (.int many), some (.int pl), some (encH h es), some (.int lv), x7] M) (fun a m2 => match a with | .nx ρ' => A ρ' m2 | .ex x _ => x = ⟨"InvalidExpression"⟩ ∧ R m2 | _ => False) E0 := by
  unfold rest
  simp
  refine (own_ok (k := k + 2) ok).mono ?_
  rintro d m' ⟨rfl, rfl⟩
  have lw : w < m'.length := (List.getElem?_eq_some_iff.mp h2).1
  have ln : nm < m'.length := (List.getElem?_eq_some_iff.mp h3).1
  have wn : w ≠ nm := fun e => by rw [e, h3] at h2; cases h2
  have es4 := hd_len ok
  simp [h3, nmD]
  split
  · exact bad _ k0 (.inl (by omega))
  split
  · exact bad _ k0 (.inr (by omega))
  simp [h2]
  refine (ops_ok (k := k + 2) ok).mono ?_
  rintro d m2 ⟨rfl, k2⟩
  simp
  have s2 : 2 ≤ sizeLine := szl (by decide)
  refine W_pure (fun d => .tup [d, .int (lv + 1)]) (fun _ => true) trivial (fun d _ => ⟨rfl, fun _ => ?_⟩) (by omega) ?_
  · simp [mTup, mCons, mVar, mNil, mBin, mC, gAdd, Re.bind, wipeM, s2]
  · have e1 : (es.filter fun _ => true).map (fun d => MV.tup [d, .int (lv + 1)]) = stW (kidsV es lv) := by
      rw [filter_all]
      unfold stW kidsV
      rw [List.map_map]
      rfl
    rw [e1]
    have w2 : (m2 ++ [MO.lst (stW (kidsV es lv))])[w]? = some (.lst (stW st)) := (k2.trans Kp.push).get h2 (by simp)
    have n2 : (m2 ++ [MO.lst (stW (kidsV es lv))])[nm]? = some (.dct (nmD ns)) := (k2.trans Kp.push).get h3 (by simp)
    have lw2 : w < (m2 ++ [MO.lst (stW (kidsV es lv))]).length := (List.getElem?_eq_some_iff.mp w2).1
    simp only [w2]
    have cap : (stW st).length + (stW (kidsV es lv)).length ≤ sizeLine := szl (by
      simp [stW, kidsV]; omega)
    refine ⟨cap, ?_⟩
    have := good (((m2 ++ [MO.lst (stW (kidsV es lv))]).set w (.lst (stW st ++ stW (kidsV es lv))))) x7 ((k0.trans (k2.trans Kp.push)).wrNew h5) (by rw [List.getElem?_set_self lw2]; simp [stW]) (by rw [List.getElem?_set_ne wn]; exact n2) (by omega) (by omega)
    simpa using this
theorem b_ck (ck : Fnm → MF) : b_check_expression ck = (mSeq (mAsg (mLst (mCons (mTup (mCons (mVar 0) (mCons (mC (.int 1)) mNil))) mNil)) (nName 1))
    (mSeq (mAsg mDNew (nName 2)) (mSeq (mAsg (mC (.int 0)) (nName 3)) (mSeq (mAsg (mC (.int 0)) (nName 4))
    (whileM (mTru (mVar 1)) (mSeq (mAsg (mBM gPop (mVar 1) mNil) (nTup 2 (nCons (nName 5) (nCons (nName 6) nNil)))) (mSeq (mAug 3 gAddI (mC (.int 1)))
    (mSeq (mIfS (mOrT (mB (mBin gGt (mVar 3) (mC c_MOST_PARTS))) (mOrT (mB (mBin gGt (mVar 6) (mC c_MOST_LEVELS))) (mNotT (mTru (mCall (ck .u_has_form) (mCons (mVar 5) mNil)))))) (mRaise "InvalidExpression") mSkip)
    (mSeq (mIfS (mB (mBin (gEqA false) (mBin gItem (mVar 5) (mC (.int 0))) (mC (.str "name")))) (mStore (mVar 2) (mBin gItem (mVar 5) (mC (.int 1))) (mC (.bl true))) mSkip) (rest ck))))) turns))))) := rfl
/-- an expression by the words of the document -/
def IsE (d : MV) : Prop := ∃ t, d = enc t ∧ Ok t ∧ Fits 0 0 [] [(t, 1)]
structure CkV (S : List Nat) (m0 : Mem) (e0 : MV) (F : Prop) (n : Nat) (ρ : MI.Env) (m : Mem) : Prop where
  ex : ∃ (st : List (MV × Nat)) (many pl w nm : Nat) (ns : List Str) (x5 x6 x7 : Option MV), n + many = 42 ∧ ρ = [some e0, some (.ref w), some (.ref nm), some (.int many), some (.int pl), x5, x6, x7] ∧ m[w]? = some (.lst (stW st)) ∧ m[nm]? = some (.dct (nmD ns)) ∧ w ≠ nm ∧
    m0.length ≤ w ∧ m0.length ≤ nm ∧ Kp [] m0 m ∧ ns.Nodup ∧ ns.length ≤ 4 ∧ many ≤ 40 ∧ pl ≤ 6 ∧ (∀ q ∈ st, TyV S m0 q.1) ∧ st.length ≤ 1 + 5 * many ∧ (F ↔ FitsV many pl ns st)
theorem encH_items {S : List Nat} {m : Mem} {h : Hd} {es : List MV} (o : HdOk h es.length) (t : TyV S m (encH h es)) : ∀ e ∈ es, TyV S m e := by
  intro e he
  cases h with
  | name s => have : es.length = 0 := o.2; rw [List.length_eq_zero_iff] at this; subst this; cases he
  | call s => exact (t.items.1 (.tup es) (by simp [encH])).items.1 e he
  | op w => exact t.items.1 e (by simp [encH, he])
  | cmp sg =>
    obtain ⟨c1, c2, c3, c4⟩ := (show sg.length + 1 = es.length ∧ 1 ≤ sg.length ∧ sg.length ≤ 4 ∧ ∀ s ∈ sg, s ∈ (["<", "<=", ">", ">=", "==", "!="] : List Str) from o)
    cases es with
    | nil => cases he
    | cons a es =>
      have ce : sg.length = es.length := by simpa using c1
      rcases List.mem_cons.mp he with rfl | he
      · exact t.items.1 e (by simp [encH])
      · obtain ⟨i, hi, rfl⟩ := List.mem_iff_getElem.mp he
        have h1 := t.items.1 (.tup (List.zipWith (fun s x => MV.tup [.str s, x]) sg es)) (by simp [encH])
        have h2 := h1.items.1 (.tup [.str (sg[i]'(by omega)), es[i]]) (by
          refine List.mem_iff_getElem.mpr ⟨i, by simp; omega, by simp⟩)
        exact h2.items.1 _ (by simp)
theorem fitsV_nil {many pl : Nat} {ns : List Str} (h1 : many ≤ 40) (h2 : pl ≤ 6) (h3 : ns.length ≤ 4) : FitsV many pl ns [] := ⟨[], rfl, by simp, by simp [stSize]; omega, by simp [stPl]; omega, ⟨ns, h3, by simp [stNm]⟩, by simp⟩
theorem fitsV_form {many pl lv : Nat} {ns : List Str} {st : List (MV × Nat)} {d : MV} (f : FitsV many pl ns (st ++ [(d, lv)])) : many + 1 ≤ 40 ∧ lv ≤ 12 ∧ FormV d := by
  obtain ⟨ts, e, ok, f⟩ := f
  have hm : (d, lv) ∈ ts.map (fun p => (enc p.1, p.2)) := by rw [← e]; simp
  obtain ⟨⟨t, lv'⟩, ht, e2⟩ := List.mem_map.mp hm
  simp at e2
  obtain ⟨rfl, rfl⟩ := e2
  have o := ok _ ht
  have l1 := f.2.2.2 _ ht
  have s1 := f.1
  have s2 : 1 ≤ stSize ts := by
    unfold stSize
    have : size t ≤ (ts.map fun p => size p.1).sum := mem_sum (List.mem_map_of_mem (f := fun p : T × Nat => size p.1) ht)
    cases t with
    | node h l => simp [size] at this; omega
  cases t with
  | node h l =>
    simp [levels] at l1
    exact ⟨by omega, by omega, h, encs l, rfl, o.hd.1⟩
theorem fitsV_names {many pl : Nat} {ns : List Str} {st : List (MV × Nat)} (nd : ns.Nodup) (f : FitsV many pl ns st) : ns.length ≤ 4 ∧ pl ≤ 6 := by
  obtain ⟨ts, e, ok, f⟩ := f
  exact ⟨fits_names nd f, by have := f.2.1; omega⟩
theorem fitsV_one {d : MV} : FitsV 0 0 [] [(d, 1)] ↔ IsE d := by
  constructor
  · rintro ⟨ts, e, ok, f⟩
    match ts, e with
    | [(t, lv)], e =>
      simp at e
      obtain ⟨rfl, rfl⟩ := e
      exact ⟨t, rfl, ok (t, 1) (by simp), f⟩
  · rintro ⟨t, rfl, o, f⟩
    exact ⟨[(t, 1)], rfl, by simpa using o, f⟩
end K01
namespace K01
open PySem L2 MI
theorem checkV_ok {S : List Nat} {d : MV} {k : Nat} {m : Mem} (td : TyV S m d) : MI.W (Tab (k + 4) .check_expression [d] m) (fun v m' => v = .non ∧ IsE d ∧ Kp [] m m') (fun x m' => x = ⟨"InvalidExpression"⟩ ∧ ¬ IsE d ∧ Kp [] m m') := by
  show MI.W (f_check_expression (Tab (k + 3)) [d] m) _ _
  unfold f_check_expression
  rw [b_ck]
  simp [startM]
  refine ⟨szl (by decide), szl (by decide), ?_⟩
  refine W_while (CkV S m d (IsE d)) ?_ turns 42 _ _ ?_ (show 42 < 1000000 by omega)
  · rintro n ρ m1 ⟨st, many, pl, w, nm, ns, x5, x6, x7, h1, rfl, h2, h3, h4, h5, h6, h7, h8, h9, h10, h11, h12, h13, h14⟩
    by_cases hne : st = []
    · subst hne
      simp [h2, truO, stW]
      exact ⟨h14.mpr (fitsV_nil h10 h11 h9), h7⟩
    · obtain ⟨st', d1, lv, rfl⟩ : ∃ (st' : List (MV × Nat)) (d1 : MV) (lv : Nat), st = st' ++ [(d1, lv)] := ⟨st.dropLast, (st.getLast hne).1, (st.getLast hne).2, (List.dropLast_concat_getLast hne).symm⟩
      rw [stW_snoc] at h2
      have t1 := h12 (d1, lv) (by simp)
      have lw : w < m1.length := (List.getElem?_eq_some_iff.mp h2).1
      have ln : nm < m1.length := (List.getElem?_eq_some_iff.mp h3).1
      have kM : Kp [] m (m1.set w (.lst (stW st'))) := h7.wrNew h5
      have wM : (m1.set w (.lst (stW st')))[w]? = some (.lst (stW st')) := List.getElem?_set_self lw
      have nM : (m1.set w (.lst (stW st')))[nm]? = some (.dct (nmD ns)) := by rw [List.getElem?_set_ne h4]; exact h3
      simp [h2, truO, W_asgT, nCons, nName, nNil]
      generalize m1.set w (.lst (stW st')) = M at kM wM nM ⊢
      refine ⟨n - 1, by omega, ?_⟩
      have h13' : st'.length ≤ 5 * many := by simp at h13; omega
      split
      · exact ⟨fun f => by have := (fitsV_form (h14.mp f)).1; omega, kM⟩
      split
      · exact ⟨fun f => by have := (fitsV_form (h14.mp f)).2.1; omega, kM⟩
      have hlv : lv ≤ 12 := by omega
      refine (hasform_ok (k := k) (S := S) (TyV.kp kM _ t1)).mono ?_
      rintro v m2 ⟨⟨b, rfl, hb⟩, k2⟩
      cases b with
      | false =>
        simp
        exact ⟨(fun f => by have := hb.mpr (fitsV_form (h14.mp f)).2.2; cases this), kM.trans k2⟩
      | true =>
        obtain ⟨h, es, rfl, o1⟩ := hb.mp rfl
        have nd2 := nsOf_nodup (h := h) h8
        have lE := hd_len o1
        have itE := encH_items o1 t1
        have go : ∀ (M2 : Mem), Kp [] m M2 → M2[w]? = some (.lst (stW st')) → M2[nm]? = some (.dct (nmD (nsOf h ns))) →
            MI.W (rest (Tab (k + 3)) [some d, some (.ref w), some (.ref nm), some (.int ((many : Int) + 1)), some (.int pl), some (encH h es), some (.int lv), x7] M2) (fun a m2 => match a with
              | .nx ρ' => ∃ j, j ≤ n - 1 ∧ CkV S m d (IsE d) j ρ' m2
              | .ct ρ' => ∃ j, j ≤ n - 1 ∧ CkV S m d (IsE d) j ρ' m2
              | .bk ρ' => IsE d ∧ Kp [] m m2
              | a => fin (fun v m' => v = MV.non ∧ IsE d ∧ Kp [] m m') (fun x m' => x = ⟨"InvalidExpression"⟩ ∧ ¬ IsE d ∧ Kp [] m m') a m2) E0 := by
          intro M2 g1 g2 g3
          have r := restV_ok (k := k) (m0 := m) (M := M2) (e0 := some d) (x7 := x7) (w := w) (nm := nm) (many := many + 1) (pl := pl) (lv := lv) (h := h) (es := es) (ns := nsOf h ns) (st := st')
            (A := fun ρ' m2 => ∃ j, j ≤ n - 1 ∧ CkV S m d (IsE d) j ρ' m2) (R := fun m2 => ¬ IsE d ∧ Kp [] m m2) o1 g2 g3 (by omega) (by omega) h5 g1
            (fun m' q1 q2 => ⟨fun f => by
              have f2 := (fitsV_step o1 hlv).mp (h14.mp f)
              have := fitsV_names nd2 f2
              omega, q1⟩)
            (fun m' x7' q1 q2 q3 q4 q5 => ⟨n - 1, Nat.le_refl _, ⟨st' ++ kidsV es lv, many + 1, pl + hdPl h, w, nm, nsOf h ns, _, _, x7', by omega, rfl, q2, q3, h4, h5, h6, q1, nd2, q4, by omega, q5, fun q hq => by
              rcases List.mem_append.mp hq with hq | hq
              · exact h12 q (by simp [hq])
              · obtain ⟨e, he, rfl⟩ := List.mem_map.mp hq
                exact itE e he, by simp [kidsV]; omega, h14.trans (fitsV_step o1 hlv)⟩⟩)
          refine r.mono ?_
          intro a m2 q
          cases a with
          | nx ρ' => exact q
          | ex x ρ' => exact q
          | rt d => exact q.elim
          | bk ρ' => exact q.elim
          | ct ρ' => exact q.elim
        have w2 := k2.get wM (by simp)
        have n2 := k2.get nM (by simp)
        simp [head_ok]
        cases h with
        | name s =>
          have ln2 : nm < m2.length := (List.getElem?_eq_some_iff.mp n2).1
          have hn4 : (nmD ns).length < sizeLine := Nat.lt_of_lt_of_le (by simp [nmD]; omega) (szl (n := 1000) (Nat.le_refl _))
          simp [word, n2, encH, MI.keyOf, hn4, putM_nm]
          exact go _ ((kM.trans k2).wrNew h6) (by rw [List.getElem?_set_ne (Ne.symm h4)]; exact w2) (by rw [List.getElem?_set_self ln2]; rfl)
        | call s =>
          simp [word, show ¬ (("call" : Str) = "name") by decide]
          exact go _ (kM.trans k2) w2 n2
        | cmp sg =>
          simp [word, show ¬ (("compare" : Str) = "name") by decide]
          exact go _ (kM.trans k2) w2 n2
        | op wd =>
          obtain ⟨n1, n2', n3, n4⟩ := op_word o1
          simp [word, n1]
          exact go _ (kM.trans k2) w2 n2
  · refine ⟨[(d, 1)], 0, 0, m.length, m.length + 1, [], none, none, none, by omega, rfl, by simp [stW], by simp [nmD], by omega, by omega, by omega, ?_, by simp, by simp, by omega, by omega, by simpa using td, by simp, fitsV_one.symm⟩
    exact Kp.app
end K01
namespace K01
open PySem L2 MI
/-! ### the statement's own looks: names -/
theorem W_badL {chk : Mem → Prop} {i : Nat} {t : MT} {ρ : MI.Env} {m : Mem} (P : MV → Prop) (l : List MV) (hc : ∀ m', Kp [] m m' → chk m') (hi : i < ρ.length) (hl : l.length ≤ 1000)
    (ht : ∀ d ∈ l, ∀ m', Kp [] m m' → MI.W (t (ρ.set i (some d)) m') (fun b m2 => (b = false ↔ P d) ∧ Kp [] m' m2) E0) :
    MI.W (lcM chk (ngName i) t (mVar i) ρ l [] m) (fun acc m' => (acc = [] ↔ ∀ d ∈ l, P d) ∧ acc.length ≤ l.length ∧ Kp [] m m') E0 := by
  refine W_lcs (fun rem acc m' => ∃ dn, l = dn ++ rem ∧ (acc = [] ↔ ∀ d ∈ dn, P d) ∧ acc.length ≤ dn.length ∧ Kp [] m m') l [] m ⟨[], rfl, by simp, by simp, Kp.refl⟩ (fun _ _ m' ⟨_, _, _, _, k⟩ => hc m' k) ?_ ?_
  · rintro d rem acc m' ⟨dn, e, h1, h2, k⟩
    refine ⟨[(i, d)], rfl, ?_⟩
    show MI.W (t (ρ.set i (some d)) m') _ E0
    refine (ht d (by rw [e]; simp) m' k).mono ?_
    rintro b m2 ⟨hb, k2⟩
    have ll : l.length = dn.length + rem.length + 1 := by rw [e]; simp; omega
    cases b with
    | false =>
      simp
      have pd := hb.mp rfl
      refine ⟨dn ++ [d], by rw [e]; simp, ?_, by simp; omega, k.trans k2⟩
      rw [h1]
      constructor
      · intro h x hx
        rcases List.mem_append.mp hx with hx | hx
        · exact h x hx
        · simp at hx; subst hx; exact pd
      · intro h x hx
        exact h x (by simp [hx])
    | true =>
      simp only [if_true]
      show MI.W (mVar i (ρ.set i (some d)) m2) _ _
      rw [W_vr, List.getElem?_set_self hi]
      refine ⟨Nat.lt_of_lt_of_le (m := 1000) (by omega) (szl (by decide)), dn ++ [d], by rw [e]; simp, ?_, by simp; omega, k.trans k2⟩
      simp
      have np : ¬ P d := fun z => by have := hb.mpr z; cases this
      exact .inr np
  · rintro acc m' ⟨dn, e, h1, h2, k⟩
    rw [List.append_nil] at e
    subst e
    exact ⟨h1, h2, k⟩
theorem name_len {s : Str} (h : IsName s) : s.length ≤ 100 := by have := h.2.1; omega
theorem sign_len : ∀ s ∈ (["<", "<=", ">", ">=", "==", "!="] : List Str), s.length ≤ 100 := by decide
theorem op_len {w : Str} {n : Nat} (h : k_LENGTHS.lookup w = some (.int (n + 1))) : w.length ≤ 100 := by
  have c : (w, MV.int (n + 1)) ∈ k_LENGTHS := lookup_mem h
  simp [k_LENGTHS] at c
  rcases c with ⟨rfl, c⟩ | ⟨rfl, c⟩ | ⟨rfl, c⟩ | ⟨rfl, c⟩ | ⟨rfl, c⟩ | ⟨rfl, c⟩ | ⟨rfl, c⟩ | ⟨rfl, c⟩ | ⟨rfl, c⟩ <;> decide
theorem ty_s {S : List Nat} {m : Mem} {s : Str} (h : s.length ≤ 100) : TyV S m (.str s) := by unfold TyV; exact h
theorem ty_t {S : List Nat} {m : Mem} {l : List MV} (h : ∀ d ∈ l, TyV S m d) (hl : l.length ≤ 100) (hh : ∀ a ls x y, l = [.str "compare", a, .tup ls] → .tup [x, y] ∈ ls → HeadOk m x) : TyV S m (.tup l) := by unfold TyV; exact ⟨TyVs.of h, hl, hh⟩
theorem ty_p {S : List Nat} {m : Mem} {l : List MV} (h : ∀ d ∈ l, TyV S m d) (hl : l.length ≤ 100) (hn : ∀ a ls, l ≠ [.str "compare", a, .tup ls]) : TyV S m (.tup l) := ty_t h hl fun a ls _ _ e => absurd e (hn a ls)
/-- with that head and those operands -/
theorem encH_TyV {S : List Nat} {m : Mem} {h : Hd} {es : List MV} (o : HdOk h es.length) (he : ∀ e ∈ es, TyV S m e) (hne : ∀ e ∈ es, e ≠ .str "compare") : TyV S m (encH h es) := by
  have l5 := hd_len o
  cases h with
  | name s =>
    refine ty_p (fun d hd => ?_) (by simp) (fun a ls e => by simp at e)
    simp at hd
    rcases hd with rfl | rfl
    · exact ty_s (by decide)
    · exact ty_s (name_len o.1)
  | call s =>
    refine ty_p (fun d hd => ?_) (by simp) (fun a ls e => by simp at e; exact absurd e.1 (by decide))
    simp at hd
    rcases hd with rfl | rfl | rfl
    · exact ty_s (by decide)
    · exact ty_s (name_len o.1)
    · exact ty_p he (by omega) (fun a ls e => hne (.str "compare") (by rw [e]; simp) rfl)
  | op w =>
    refine ty_p (fun d hd => ?_) (by simp; omega) (fun a ls e => by simp at e; exact absurd e.1 (op_word o).2.2.1)
    rcases List.mem_cons.mp hd with rfl | hd
    · exact ty_s (op_len o)
    · exact he d hd
  | cmp sg =>
    obtain ⟨c1, c2, c3, c4⟩ := (show sg.length + 1 = es.length ∧ 1 ≤ sg.length ∧ sg.length ≤ 4 ∧ ∀ s ∈ sg, s ∈ (["<", "<=", ">", ">=", "==", "!="] : List Str) from o)
    cases es with
    | nil => simp at c1
    | cons a es =>
      have ce : sg.length = es.length := by simpa using c1
      have lk : ∀ d ∈ List.zipWith (fun s x => MV.tup [.str s, x]) sg es, ∃ s x, d = .tup [.str s, x] ∧ s ∈ sg ∧ x ∈ es := fun d hd => by
        obtain ⟨i, hi, rfl⟩ := List.mem_iff_getElem.mp hd
        simp at hi
        exact ⟨sg[i], es[i], by simp, List.getElem_mem _, List.getElem_mem _⟩
      refine ty_t (fun d hd => ?_) (by simp) (fun a' ls x y e hx => ?_)
      · simp only [List.headD_cons, List.tail_cons, List.mem_cons, List.not_mem_nil, or_false] at hd
        rcases hd with rfl | rfl | rfl
        · exact ty_s (by decide)
        · exact he d (by simp)
        · refine ty_p (fun d hd => ?_) (by simp; omega) (fun a ls e => ?_)
          · obtain ⟨s, x, rfl, h1, h2⟩ := lk d hd
            refine ty_p (fun d hd => ?_) (by simp) (fun a ls e => by simp at e)
            simp at hd
            rcases hd with rfl | rfl
            · exact ty_s (sign_len s (c4 s h1))
            · exact he d (by simp [h2])
          · obtain ⟨s, x, e2, _⟩ := lk (.str "compare") (by rw [e]; simp)
            cases e2
      · simp at e
        obtain ⟨rfl, rfl⟩ := e
        obtain ⟨s, x', e2, _⟩ := lk _ hx
        cases e2
        exact .inl ⟨s, rfl⟩
theorem enc_tup {t : T} : ∃ l, enc t = .tup l := by
  cases t with
  | node h l => rw [enc_node]; cases h <;> exact ⟨_, rfl⟩
mutual
theorem enc_TyV {S : List Nat} {m : Mem} : ∀ (t : T), Ok t → TyV S m (enc t)
  | .node h l, o => by
    obtain ⟨o1, o2⟩ := o.hd
    rw [enc_node]
    refine encH_TyV o1 (encs_TyV l o2) fun e he => ?_
    rw [encs_map] at he
    obtain ⟨t, _, rfl⟩ := List.mem_map.mp he
    obtain ⟨l', e'⟩ := enc_tup (t := t)
    rw [e']
    intro z
    cases z
theorem encs_TyV {S : List Nat} {m : Mem} : ∀ (l : List T), Oks l → ∀ e ∈ encs l, TyV S m e
  | [], _, e, he => by cases he
  | t :: r, o, e, he => by
    cases o with
    | cons a b =>
      simp only [encs, List.mem_cons] at he
      rcases he with rfl | he
      · exact enc_TyV t a
      · exact encs_TyV r b e he
end
theorem alph : ("abcdefghijklmnopqrstuvwxyz" : Str).cps.toList = [97, 98, 99, 100, 101, 102, 103, 104, 105, 106, 107, 108, 109, 110, 111, 112, 113, 114, 115, 116, 117, 118, 119, 120, 121, 122] := by decide +kernel
theorem in_alph {c : Nat} : c ∈ ("abcdefghijklmnopqrstuvwxyz" : Str).cps.toList ↔ 97 ≤ c ∧ c ≤ 122 := by
  rw [alph]
  simp
  omega
theorem lisname_ok {k : Nat} {m : Mem} {v : MV} (h : Typed m v) (hs : ∀ s, v = .str s → s.length ≤ 1000) : MI.W (Tab (k + 1) .l_is_name [v] m) (fun d m' => d = .bl (nameB v) ∧ Kp [] m m') E0 := by
  show MI.W (f_l_is_name (Tab k) [v] m) _ _
  unfold f_l_is_name b_l_is_name
  have e := isi_str h
  by_cases c : isStr v = true
  · cases v with
    | str s =>
      have ls := hs s rfl
      simp [startM, kit_ss, szl ls]
      refine ⟨szl (by decide), ?_⟩
      have kA : ∀ r : Mem, Kp [] m (m ++ r) := fun r => Kp.app
      by_cases c1 : (s.length : Int) < 1
      · have hn : ¬ IsName s := fun h => by have := h.1; omega
        rw [if_pos c1]
        exact ⟨by simp [nameB, hn], kA _⟩
      rw [if_neg c1]
      by_cases c2 : (8 : Int) < s.length
      · have hn : ¬ IsName s := fun h => by have := h.2.1; omega
        rw [if_pos c2]
        exact ⟨by simp [nameB, hn], kA _⟩
      rw [if_neg c2]
      refine ⟨szl (by decide), ?_⟩
      refine (W_add_l (xs := _) (ys := _) (by rw [List.getElem?_append_right (by omega), Nat.sub_self]; rfl) (by rw [at_app]; rfl)).mpr ⟨szl (by simp), ?_⟩
      refine W_inStr (ns := barred) (by rw [List.getElem?_concat_length]; rfl) fun z hz => ?_
      cases z with
      | true =>
        have hn : ¬ IsName s := fun h => h.2.2.2 (hz.mp rfl)
        simp only [Bool.false_eq_true, if_false, if_true]
        exact ⟨by simp [nameB, hn], by rw [List.append_assoc]; exact kA _⟩
      | false =>
        have h3 : s ∉ barred := fun h => by have := hz.mpr h; cases this
        simp only [Bool.false_eq_true, if_false]
        refine W_pure id (fun d => match d with | .str z => !decide (97 ≤ z.cps.toList.headD 0 ∧ z.cps.toList.headD 0 ≤ 122) | _ => true) trivial (fun d hd => ?_) (by simpa using (show s.cps.size ≤ 1000 from ls)) ?_
        · obtain ⟨c, hc, rfl⟩ := List.mem_map.mp hd
          refine ⟨?_, fun _ => rfl⟩
          show mB (mBin (gInB true) (mVar 2) (mC (.str "abcdefghijklmnopqrstuvwxyz"))) _ _ = _
          simp [mB, mBin, mVar, mC, Re.bind, wipeM]
          unfold gInA
          rw [if_pos ⟨_, rfl⟩]
          simp [gInS]
          have a := in_alph (c := c)
          rw [Array.mem_toList_iff] at a
          rw [Bool.eq_iff_iff]
          simp [a]
        · simp only [List.map_id]
          refine ⟨?_, by rw [List.append_assoc, List.append_assoc]; exact kA _⟩
          rw [Bool.eq_iff_iff, List.isEmpty_iff, List.filter_eq_nil_iff]
          simp only [nameB, decide_eq_true_eq]
          constructor
          · intro h
            refine ⟨by omega, by omega, fun c hc => ?_, h3⟩
            have := h (.str ⟨#[c]⟩) (List.mem_map_of_mem hc)
            simp at this
            omega
          · rintro ⟨_, _, h, _⟩ d hd
            obtain ⟨c, hc, rfl⟩ := List.mem_map.mp hd
            have := h c hc
            simp
            omega
    | _ => cases c
  · rw [show isStr v = false by simpa using c] at e
    have e2 : ∀ r : Mem, ((tyM (m ++ r) v).bind fun t => kitB t "str") = some false := fun r => by
      obtain ⟨t, h1, h2⟩ := h
      have h1' : tyM (m ++ r) v = some t := by
        cases v with
        | ref n =>
          have h1 : tyO m[n]? = some t := h1
          show tyO (m ++ r)[n]? = some t
          cases q : m[n]? with
          | none => rw [q] at h1; cases h1
          | some o => rw [(Kp.app (S := [])).get q (by simp)]; rw [q] at h1; exact h1
        | _ => exact h1
      rw [h1'] ; rw [h1] at e; exact e
    simp [startM, e2]
    refine ⟨szl (by decide), ?_, Kp.push⟩
    cases v with
    | str s => exact absurd rfl c
    | _ => rfl
end K01
namespace K01
open PySem L2 MI
/-! ### the statement's own look at the form -/
def TreeV (lev : Nat) (d : MV) : Prop := ∃ t, d = enc t ∧ Ok t ∧ levels t ≤ lev
theorem treeV_zero {d : MV} : ¬ TreeV 0 d := by
  rintro ⟨t, _, _, h⟩
  cases t with
  | node h l => simp [levels] at h
theorem treeV_iff {lev : Nat} {d : MV} : TreeV (lev + 1) d ↔ ∃ h es, d = encH h es ∧ HdOk h es.length ∧ ∀ e ∈ es, TreeV lev e := by
  constructor
  · rintro ⟨⟨h, l⟩, rfl, o, hl⟩
    obtain ⟨o1, o2⟩ := o.hd
    refine ⟨h, encs l, rfl, o1, fun e he => ?_⟩
    rw [encs_map] at he
    obtain ⟨t, ht, rfl⟩ := List.mem_map.mp he
    have := levelss_mem ht
    simp [levels] at hl
    exact ⟨t, rfl, o2.mem ht, by omega⟩
  · rintro ⟨h, es, rfl, o, he⟩
    have : ∃ l : List T, es = encs l ∧ Oks l ∧ levelss l ≤ lev := by
      clear o
      induction es with
      | nil => exact ⟨[], rfl, .nil, Nat.zero_le _⟩
      | cons e r ih =>
        obtain ⟨t, rfl, o, hl⟩ := he e (by simp)
        obtain ⟨l, e1, e2, e3⟩ := ih fun x hx => he x (by simp [hx])
        exact ⟨t :: l, by rw [e1]; rfl, .cons o e2, by simp [levelss]; omega⟩
    obtain ⟨l, rfl, o2, hl⟩ := this
    exact ⟨.node h l, rfl, .node (by rw [encs_length] at o; exact o) o2, by simp [levels]; omega⟩
def LinkV (lev : Nat) (d : MV) : Prop := ∃ s x, d = .tup [.str s, x] ∧ s ∈ signs ∧ TreeV lev x
theorem treeV_hd {lev : Nat} {w : Str} {r : List MV} : TreeV (lev + 1) (.tup (.str w :: r)) ↔ (w = "name" ∧ ∃ s, r = [.str s] ∧ IsName s) ∨ (w = "call" ∧ ∃ s es, r = [.str s, .tup es] ∧ IsName s ∧ es.length ≤ 3 ∧ ∀ e ∈ es, TreeV lev e) ∨ (w = "compare" ∧ ∃ a ls, r = [a, .tup ls] ∧ 1 ≤ ls.length ∧ ls.length ≤ 4 ∧ TreeV lev a ∧ ∀ l ∈ ls, LinkV lev l) ∨ (k_LENGTHS.lookup w = some (.int (r.length + 1)) ∧ ∀ e ∈ r, TreeV lev e) := by
  rw [treeV_iff]
  constructor
  · rintro ⟨h, es, e, ok, he⟩
    cases h with
    | name s =>
      simp [encH] at e
      obtain ⟨rfl, rfl⟩ := e
      exact .inl ⟨rfl, s, rfl, ok.1⟩
    | call s =>
      simp [encH] at e
      obtain ⟨rfl, rfl⟩ := e
      exact .inr (.inl ⟨rfl, s, es, rfl, ok.1, ok.2, he⟩)
    | cmp sg =>
      obtain ⟨c1, c2, c3, c4⟩ := (show sg.length + 1 = es.length ∧ 1 ≤ sg.length ∧ sg.length ≤ 4 ∧ ∀ s ∈ sg, s ∈ (["<", "<=", ">", ">=", "==", "!="] : List Str) from ok)
      cases es with
      | nil => simp at c1
      | cons a es =>
        have ce : sg.length = es.length := by simpa using c1
        simp [encH] at e
        obtain ⟨rfl, rfl⟩ := e
        refine .inr (.inr (.inl ⟨rfl, a, _, rfl, by simp; omega, by simp; omega, he a (by simp), fun l hl => ?_⟩))
        obtain ⟨i, hi, rfl⟩ := List.mem_iff_getElem.mp hl
        simp at hi
        exact ⟨sg[i], es[i], by simp, c4 _ (List.getElem_mem _), he _ (by simp)⟩
    | op w' =>
      simp [encH] at e
      obtain ⟨rfl, rfl⟩ := e
      exact .inr (.inr (.inr ⟨ok, he⟩))
  · rintro (⟨rfl, s, rfl, hs⟩ | ⟨rfl, s, es, rfl, hs, hl, he⟩ | ⟨rfl, a, ls, rfl, l1, l2, ha, hl⟩ | ⟨h, he⟩)
    · exact ⟨.name s, [], rfl, ⟨hs, rfl⟩, by simp⟩
    · exact ⟨.call s, es, rfl, ⟨hs, hl⟩, he⟩
    · have : ∃ sg es, ls = List.zipWith (fun s x => MV.tup [.str s, x]) sg es ∧ sg.length = es.length ∧ sg.length = ls.length ∧ (∀ s ∈ sg, s ∈ signs) ∧ ∀ e ∈ es, TreeV lev e := by
        clear l1 l2
        induction ls with
        | nil => exact ⟨[], [], rfl, rfl, rfl, by simp, by simp⟩
        | cons d r ih =>
          obtain ⟨s, x, rfl, h1, h2⟩ := hl d (by simp)
          obtain ⟨sg, es, e1, e2, e3, e4, e5⟩ := ih fun y hy => hl y (by simp [hy])
          refine ⟨s :: sg, x :: es, by rw [e1]; rfl, by simp [e2], by simp [e3], fun y hy => ?_, fun y hy => ?_⟩
          · rcases List.mem_cons.mp hy with rfl | hy
            · exact h1
            · exact e4 y hy
          · rcases List.mem_cons.mp hy with rfl | hy
            · exact h2
            · exact e5 y hy
      obtain ⟨sg, es, e1, e2, e3, e4, e5⟩ := this
      refine ⟨.cmp sg, a :: es, by rw [e1]; rfl, ⟨by simp; omega, by omega, by omega, e4⟩, fun e he => ?_⟩
      rcases List.mem_cons.mp he with rfl | he
      · exact ha
      · exact e5 e he
    · exact ⟨.op w, r, rfl, h, he⟩
theorem treeV_no {lev : Nat} {d : MV} (h : ∀ w r, d ≠ .tup (.str w :: r)) : ¬ TreeV lev d := by
  cases lev with
  | zero => exact treeV_zero
  | succ n =>
    rw [treeV_iff]
    rintro ⟨hd, es, rfl, _⟩
    obtain ⟨w, r, e⟩ := encH_tup (h := hd) (es := es)
    exact h w r e
abbrev many9 : List (Key × MV) := [(.inr "none", .int 0), (.inr "true", .int 0), (.inr "false", .int 0), (.inr "not", .int 1), (.inr "isnone", .int 1), (.inr "and", .int 2), (.inr "or", .int 2), (.inr "default", .int 2), (.inr "if", .int 3)]
theorem many_get {w : Str} : ∃ v : Int, (valM (foldM many9 []) (.inr w)).getD (.int (-9)) = .int v ∧ ∀ n : Nat, ((n : Int) + 1 = 1 + v ↔ k_LENGTHS.lookup w = some (.int (n + 1))) := by
  have e : foldM many9 [] = many9 := rfl
  rw [e]
  have fin : ∀ (v c : Int), c = 1 + v → k_LENGTHS.lookup w = some (.int c) → ∀ n : Nat, ((n : Int) + 1 = 1 + v ↔ k_LENGTHS.lookup w = some (.int (n + 1))) := fun v c hc hl n => by
    rw [hl]
    simp
    omega
  by_cases h : w ∈ (["none", "true", "false", "not", "isnone", "and", "or", "default", "if"] : List Str)
  · simp only [List.mem_cons, List.not_mem_nil, or_false] at h
    rcases h with rfl | rfl | rfl | rfl | rfl | rfl | rfl | rfl | rfl
    · exact ⟨0, rfl, fin 0 1 rfl rfl⟩
    · exact ⟨0, rfl, fin 0 1 rfl rfl⟩
    · exact ⟨0, rfl, fin 0 1 rfl rfl⟩
    · exact ⟨1, rfl, fin 1 2 rfl rfl⟩
    · exact ⟨1, rfl, fin 1 2 rfl rfl⟩
    · exact ⟨2, rfl, fin 2 3 rfl rfl⟩
    · exact ⟨2, rfl, fin 2 3 rfl rfl⟩
    · exact ⟨2, rfl, fin 2 3 rfl rfl⟩
    · exact ⟨3, rfl, fin 3 4 rfl rfl⟩
  · have h1 : valM many9 (.inr w) = none := by
      unfold valM
      rw [Option.map_eq_none_iff, List.find?_eq_none]
      intro p hp
      simp only [List.mem_cons, List.not_mem_nil, or_false] at h hp
      simp only [not_or] at h
      obtain ⟨a1, a2, a3, a4, a5, a6, a7, a8, a9⟩ := h
      rcases hp with rfl | rfl | rfl | rfl | rfl | rfl | rfl | rfl | rfl <;> simp [Ne.symm a1, Ne.symm a2, Ne.symm a3, Ne.symm a4, Ne.symm a5, Ne.symm a6, Ne.symm a7, Ne.symm a8, Ne.symm a9]
    refine ⟨-9, by rw [h1]; rfl, fun n => ?_⟩
    constructor
    · intro z; omega
    · intro z
      exfalso
      have c : (w, MV.int (n + 1)) ∈ k_LENGTHS := lookup_mem z
      apply h
      simp [k_LENGTHS] at c
      simp only [List.mem_cons, List.not_mem_nil, or_false]
      rcases c with ⟨rfl, c⟩ | ⟨rfl, c⟩ | ⟨rfl, c⟩ | ⟨rfl, c⟩ | ⟨rfl, c⟩ | ⟨rfl, c⟩ | ⟨rfl, c⟩ | ⟨rfl, c⟩ | ⟨rfl, c⟩ <;> simp
def HasOk (lev : Nat) : Prop := ∀ (S : List Nat) (k : Nat) (m : Mem) (d : MV), TyV S m d → MI.W (Tab (k + 2 + 2 * lev) .l_has_form [d, .int lev] m) (BI (TreeV lev d) m) E0
theorem llink_ok {lev : Nat} (ih : HasOk lev) {S : List Nat} {k : Nat} {m : Mem} {d : MV} (h : TyV S m d) : MI.W (Tab (k + 3 + 2 * lev) .l_is_link [d, .int lev] m) (BI (LinkV lev d) m) E0 := by
  rw [show k + 3 + 2 * lev = (k + 2 + 2 * lev) + 1 by omega]
  show MI.W (f_l_is_link (Tab (k + 2 + 2 * lev)) [d, .int lev] m) _ _
  unfold f_l_is_link b_l_is_link
  have e := isi_tup h.typed
  have ktt := kit_tt
  have kss := kit_ss
  by_cases c : isTup d = true
  · cases d with
    | tup l =>
      obtain ⟨hi, hl⟩ := h.items
      by_cases l2 : l.length = 2
      · obtain ⟨x, y, rfl⟩ := len2 l2
        have tx := hi x (by simp)
        have ty := hi y (by simp)
        by_cases cx : isStr x = true
        · cases x with
          | str s =>
            simp [startM, ktt, kss]
            refine ⟨szl (by decide), W_inStr (ns := signs) (by rw [List.getElem?_concat_length]; rfl) fun z hz => ?_⟩
            cases z with
            | false =>
              simp
              refine BI.no ?_ Kp.push
              rintro ⟨s', x', e', h1, _⟩
              cases e'
              have := hz.mpr h1
              cases this
            | true =>
              have hs := hz.mp rfl
              simp
              refine (ih S k _ y (TyV.kp Kp.push _ ty)).mono ?_
              rintro v m2 ⟨⟨b, rfl, hb⟩, k2⟩
              refine BI.is (hb.trans ?_) (Kp.push.trans k2)
              constructor
              · intro t; exact ⟨s, y, rfl, hs, t⟩
              · rintro ⟨s', x', e', _, t⟩; cases e'; exact t
          | _ => cases cx
        · have ex := isi_str tx.typed
          rw [show isStr x = false by simpa using cx] at ex
          simp [startM, ktt, ex]
          refine BI.no ?_ Kp.refl
          rintro ⟨s', x', e', _⟩
          cases e'
          exact cx rfl
      · have l3 : ¬ ((l.length : Int) = 2) := by omega
        simp [startM, ktt, l3]
        refine BI.no ?_ Kp.refl
        rintro ⟨s', x', e', _⟩
        cases e'
        exact l2 rfl
    | _ => cases c
  · rw [show isTup d = false by simpa using c] at e
    simp [startM, e]
    refine BI.no ?_ Kp.refl
    rintro ⟨s', x', e', _⟩
    subst e'
    exact c rfl
end K01
namespace K01
open PySem L2 MI
theorem nodup_nil {m : Mem} {n : Nat} {l : List MV} : (l = [] ↔ True) ↔ l = [] := by simp
theorem lhas_ok : ∀ lev : Nat, HasOk lev := by
  intro lev
  induction lev with
  | zero =>
    intro S k m d h
    show MI.W (f_l_has_form (Tab (k + 1)) [d, .int 0] m) _ _
    unfold f_l_has_form b_l_has_form
    simp [startM]
    exact BI.no treeV_zero Kp.refl
  | succ lev ih =>
    intro S k m d h
    rw [show k + 2 + 2 * (lev + 1) = (k + 3 + 2 * lev) + 1 by omega]
    show MI.W (f_l_has_form (Tab (k + 3 + 2 * lev)) [d, .int ((lev + 1 : Nat) : Int)] m) _ _
    unfold f_l_has_form b_l_has_form
    have e := isi_tup h.typed
    have ktt := kit_tt
    have kss := kit_ss
    have l0 : ¬ ((lev : Int) + 1 = 0) := by omega
    have lm : ((lev : Int) + 1 - 1) = lev := by omega
    have rec1 : ∀ (d : MV), TyV S m d → ∀ m', Kp [] m m' → MI.W (Tab (k + 3 + 2 * lev) .l_has_form [d, .int lev] m') (BI (TreeV lev d) m') E0 := fun d td m' km => by
      rw [show k + 3 + 2 * lev = (k + 1) + 2 + 2 * lev by omega]
      exact ih S (k + 1) m' d (TyV.kp km _ td)
    by_cases c : isTup d = true
    · cases d with
      | tup l =>
        obtain ⟨hi, hl⟩ := h.items
        cases l with
        | nil =>
          simp [startM, ktt, l0]
          exact BI.no (treeV_no (fun w r z => by cases z)) Kp.refl
        | cons x r =>
          simp [startM, ktt, l0]
          have tx := hi x (by simp)
          by_cases cx : isStr x = true
          · cases x with
            | str w =>
              simp [kss]
              by_cases w1 : w = "name"
              · subst w1
                simp
                by_cases l2 : r.length = 1
                · obtain ⟨y, rfl⟩ : ∃ y, r = [y] := List.length_eq_one_iff.mp l2
                  have ty := hi y (by simp)
                  simp
                  rw [show k + 3 + 2 * lev = (k + 2 + 2 * lev) + 1 by omega]
                  refine (lisname_ok (k := k + 2 + 2 * lev) ty.typed ty.str).mono ?_
                  rintro d m1 ⟨rfl, k1⟩
                  refine BI.is ?_ k1
                  rw [treeV_hd]
                  constructor
                  · intro hy
                    cases y with
                    | str s => exact .inl ⟨rfl, s, rfl, by simpa [nameB] using hy⟩
                    | _ => cases hy
                  · rintro (⟨_, s, e, hs⟩ | ⟨e, _⟩ | ⟨e, _⟩ | ⟨e, _⟩)
                    · cases e; simpa [nameB] using hs
                    · exact absurd e (by decide)
                    · exact absurd e (by decide)
                    · exact absurd rfl (lookup_int e).choose_spec.2.1
                · have l3 : ¬ ((r.length : Int) + 1 = 2) := by omega
                  simp [l3]
                  refine BI.no ?_ Kp.refl
                  rw [treeV_hd]
                  rintro (⟨_, s, e, hs⟩ | ⟨e, _⟩ | ⟨e, _⟩ | ⟨e, _⟩)
                  · subst e; simp at l2
                  · exact absurd e (by decide)
                  · exact absurd e (by decide)
                  · exact absurd rfl (lookup_int e).choose_spec.2.1
              · by_cases w2 : w = "call"
                · subst w2
                  simp [show ¬ (("call" : Str) = "name") by decide]
                  by_cases l2 : r.length = 2
                  · obtain ⟨y, z, rfl⟩ := len2 l2
                    have ty := hi y (by simp)
                    have tz := hi z (by simp)
                    simp
                    by_cases cz : isTup z = true
                    · cases z with
                      | tup es =>
                        obtain ⟨hie, hle⟩ := tz.items
                        simp [ktt]
                        refine (W_badL (TreeV lev) es (fun _ _ => trivial) (by simp [wipeM]) (by omega) (fun d hd m' km => ?_)).mono ?_
                        · simp [wipeM, lm]
                          refine (rec1 d (hie d hd) m' km).mono ?_
                          rintro v m2 ⟨⟨b, rfl, hb⟩, k2⟩
                          simp
                          exact ⟨hb, k2⟩
                        · rintro acc m1 ⟨h1, h2, k1⟩
                          rw [show k + 3 + 2 * lev = (k + 2 + 2 * lev) + 1 by omega]
                          have kp : Kp [] m (m1 ++ [MO.lst acc]) := k1.trans Kp.push
                          refine (lisname_ok (k := k + 2 + 2 * lev) (TyV.kp kp _ ty).typed ty.str).mono ?_
                          rintro d m2 ⟨rfl, k2⟩
                          have ga : (m2 ++ [MO.lst []])[m1.length]? = some (.lst acc) := (k2.trans Kp.push).get List.getElem?_concat_length (by simp)
                          have q : (nameB y = true ∧ es.length ≤ 3 ∧ acc = [] ↔ TreeV (lev + 1) (.tup [.str "call", y, .tup es])) := by
                            rw [treeV_hd, h1]
                            constructor
                            · rintro ⟨hy, q1, q2⟩
                              cases y with
                              | str s => exact .inr (.inl ⟨rfl, s, es, rfl, by simpa [nameB] using hy, q1, q2⟩)
                              | _ => cases hy
                            · rintro (⟨e, _⟩ | ⟨_, s, es', e, hs, hl', he⟩ | ⟨e, _⟩ | ⟨e, _⟩)
                              · exact absurd e (by decide)
                              · cases e; exact ⟨by simpa [nameB] using hs, hl', he⟩
                              · exact absurd e (by decide)
                              · exact absurd rfl (lookup_int e).choose_spec.2.2.1
                          cases hn : nameB y with
                          | false =>
                            simp
                            exact BI.no (fun z => by have := (q.mpr z).1; rw [hn] at this; cases this) (kp.trans k2)
                          | true =>
                            by_cases l4 : (es.length : Int) < 4
                            · simp only [tru_bl, l4, decide_true, ga]
                              refine BI.is ?_ (kp.trans (k2.trans Kp.push))
                              rw [← q, List.isEmpty_iff]
                              exact ⟨fun z => ⟨hn, by omega, z⟩, fun z => z.2.2⟩
                            · simp only [tru_bl, l4, decide_false]
                              exact BI.no (fun z => by have := (q.mpr z).2.1; omega) (kp.trans k2)
                      | _ => cases cz
                    · have ez := isi_tup tz.typed
                      rw [show isTup z = false by simpa using cz] at ez
                      simp [ez]
                      refine BI.no ?_ Kp.refl
                      rw [treeV_hd]
                      rintro (⟨e, _⟩ | ⟨_, s, es, e, hs⟩ | ⟨e, _⟩ | ⟨e, _⟩)
                      · exact absurd e (by decide)
                      · cases e; exact cz rfl
                      · exact absurd e (by decide)
                      · exact absurd rfl (lookup_int e).choose_spec.2.2.1
                  · have l3 : ¬ ((r.length : Int) + 1 = 3) := by omega
                    simp [l3]
                    refine BI.no ?_ Kp.refl
                    rw [treeV_hd]
                    rintro (⟨e, _⟩ | ⟨_, s, es, e, hs⟩ | ⟨e, _⟩ | ⟨e, _⟩)
                    · exact absurd e (by decide)
                    · subst e; simp at l2
                    · exact absurd e (by decide)
                    · exact absurd rfl (lookup_int e).choose_spec.2.2.1
                · by_cases w3 : w = "compare"
                  · subst w3
                    simp [show ¬ (("compare" : Str) = "name") by decide, show ¬ (("compare" : Str) = "call") by decide]
                    by_cases l2 : r.length = 2
                    · obtain ⟨y, z, rfl⟩ := len2 l2
                      have ty := hi y (by simp)
                      have tz := hi z (by simp)
                      simp
                      by_cases cz : isTup z = true
                      · cases z with
                        | tup ls =>
                          obtain ⟨hie, hle⟩ := tz.items
                          simp [ktt]
                          refine (W_badL (LinkV lev) ls (fun _ _ => trivial) (by simp [wipeM]) (by omega) (fun d hd m' km => ?_)).mono ?_
                          · simp [wipeM, lm]
                            refine (llink_ok ih (k := k) (TyV.kp km _ (hie d hd))).mono ?_
                            rintro v m2 ⟨⟨b, rfl, hb⟩, k2⟩
                            simp
                            exact ⟨hb, k2⟩
                          · rintro acc m1 ⟨h1, h2, k1⟩
                            have kp : Kp [] m (m1 ++ [MO.lst acc]) := k1.trans Kp.push
                            refine (rec1 y ty _ kp).mono ?_
                            rintro d m2 ⟨⟨b, rfl, hb⟩, k2⟩
                            have ga : (m2 ++ [MO.lst []])[m1.length]? = some (.lst acc) := (k2.trans Kp.push).get List.getElem?_concat_length (by simp)
                            have q : (b = true ∧ 1 ≤ ls.length ∧ ls.length ≤ 4 ∧ acc = [] ↔ TreeV (lev + 1) (.tup [.str "compare", y, .tup ls])) := by
                              rw [treeV_hd, h1, hb]
                              constructor
                              · rintro ⟨q1, q2, q3, q4⟩
                                exact .inr (.inr (.inl ⟨rfl, y, ls, rfl, q2, q3, q1, q4⟩))
                              · rintro (⟨e, _⟩ | ⟨e, _⟩ | ⟨_, a, ls', e, q2, q3, q1, q4⟩ | ⟨e, _⟩)
                                · exact absurd e (by decide)
                                · exact absurd e (by decide)
                                · cases e; exact ⟨q1, q2, q3, q4⟩
                                · exact absurd rfl (lookup_int e).choose_spec.2.2.2
                            cases b with
                            | false =>
                              simp
                              exact BI.no (fun z => by have := (q.mpr z).1; cases this) (kp.trans k2)
                            | true =>
                              by_cases l4 : 0 < ls.length
                              · by_cases l5 : (ls.length : Int) < 5
                                · simp only [tru_bl, l4, l5, decide_true, ga]
                                  refine BI.is ?_ (kp.trans (k2.trans Kp.push))
                                  rw [← q, List.isEmpty_iff]
                                  exact ⟨fun z => ⟨rfl, by omega, by omega, z⟩, fun z => z.2.2.2⟩
                                · simp only [tru_bl, l4, l5, decide_true, decide_false]
                                  exact BI.no (fun z => by have := (q.mpr z).2.2.1; omega) (kp.trans k2)
                              · simp only [tru_bl, l4, decide_false]
                                exact BI.no (fun z => by have := (q.mpr z).2.1; omega) (kp.trans k2)
                        | _ => cases cz
                      · have ez := isi_tup tz.typed
                        rw [show isTup z = false by simpa using cz] at ez
                        simp [ez]
                        refine BI.no ?_ Kp.refl
                        rw [treeV_hd]
                        rintro (⟨e, _⟩ | ⟨e, _⟩ | ⟨_, a, ls, e, _⟩ | ⟨e, _⟩)
                        · exact absurd e (by decide)
                        · exact absurd e (by decide)
                        · cases e; exact cz rfl
                        · exact absurd rfl (lookup_int e).choose_spec.2.2.2
                    · have l3 : ¬ ((r.length : Int) + 1 = 3) := by omega
                      simp [l3]
                      refine BI.no ?_ Kp.refl
                      rw [treeV_hd]
                      rintro (⟨e, _⟩ | ⟨e, _⟩ | ⟨_, a, ls, e, _⟩ | ⟨e, _⟩)
                      · exact absurd e (by decide)
                      · exact absurd e (by decide)
                      · subst e; simp at l2
                      · exact absurd rfl (lookup_int e).choose_spec.2.2.2
                  · simp [w1, w2, w3]
                    obtain ⟨v, hv1, hv2⟩ := many_get (w := w)
                    simp only [MI.keyOf, hv1, W_add_i, W_eq_i]
                    have q : (k_LENGTHS.lookup w = some (.int (r.length + 1)) ∧ (∀ e ∈ r, TreeV lev e) ↔ TreeV (lev + 1) (.tup (.str w :: r))) := by
                      rw [treeV_hd]
                      constructor
                      · exact fun z => .inr (.inr (.inr z))
                      · rintro (⟨e, _⟩ | ⟨e, _⟩ | ⟨e, _⟩ | z)
                        · exact absurd e w1
                        · exact absurd e w2
                        · exact absurd e w3
                        · exact z
                    by_cases c3 : (r.length : Int) + 1 = 1 + v
                    · have c4 := (hv2 r.length).mp c3
                      simp [c3, cut1]
                      have km0 : Kp [] m (m ++ [MO.dct (foldM many9 [])]) := Kp.push
                      refine (W_badL (TreeV lev) r (fun _ _ => trivial) (by simp [wipeM]) (by simp at hl; omega) (fun d hd m' km => ?_)).mono ?_
                      · simp [wipeM, lm]
                        refine (rec1 d (hi d (by simp [hd])) m' (km0.trans km)).mono ?_
                        rintro v m2 ⟨⟨b, rfl, hb⟩, k2⟩
                        simp
                        exact ⟨hb, k2⟩
                      · rintro acc m1 ⟨h1, h2, k1⟩
                        refine BI.is ?_ ((km0.trans k1).trans Kp.app)
                        rw [← q, List.isEmpty_iff, h1]
                        exact ⟨fun z => ⟨c4, z⟩, fun z => z.2⟩
                    · have c4 : ¬ k_LENGTHS.lookup w = some (.int (r.length + 1)) := fun z => c3 ((hv2 r.length).mpr z)
                      simp [c3]
                      exact BI.no (fun z => c4 (q.mpr z).1) Kp.push
            | _ => cases cx
          · have ex := isi_str tx.typed
            rw [show isStr x = false by simpa using cx] at ex
            simp [ex]
            refine BI.no (treeV_no (fun w r' z => ?_)) Kp.refl
            cases z
            exact cx rfl
      | _ => cases c
    · rw [show isTup d = false by simpa using c] at e
      simp [startM, e, l0]
      refine BI.no (treeV_no (fun w r z => ?_)) Kp.refl
      subst z
      exact c rfl
end K01
namespace K01
open PySem L2 MI
def rootN : T → List Str
  | .node h _ => hdNm h
def rootP : T → Nat
  | .node h _ => hdPl h
mutual
theorem names_parts : ∀ t : T, names t = ((parts t).map rootN).flatten
  | .node h l => by simp [names, parts, rootN, namess_parts l]
theorem namess_parts : ∀ l : List T, namess l = ((partss l).map rootN).flatten
  | [] => rfl
  | t :: r => by simp [namess, partss, names_parts t, namess_parts r]
end
mutual
theorem places_parts : ∀ t : T, places t = ((parts t).map rootP).sum
  | .node h l => by simp [places, parts, rootP, placess_parts l]
theorem placess_parts : ∀ l : List T, placess l = ((partss l).map rootP).sum
  | [] => rfl
  | t :: r => by simp [placess, partss, places_parts t, placess_parts r]
end
mutual
theorem parts_Ok : ∀ (t : T), Ok t → ∀ p ∈ parts t, Ok p
  | .node h l, o, p, hp => by
    simp only [parts, List.mem_cons] at hp
    rcases hp with rfl | hp
    · exact o
    · cases o with
      | node a b => exact partss_Ok l b p hp
theorem partss_Ok : ∀ (l : List T), Oks l → ∀ p ∈ partss l, Ok p
  | [], _, p, hp => by simp [partss] at hp
  | t :: r, o, p, hp => by
    cases o with
    | cons a b =>
      simp only [partss, List.mem_append] at hp
      rcases hp with hp | hp
      · exact parts_Ok t a p hp
      · exact partss_Ok r b p hp
end
theorem at_set {m : Mem} {n : Nat} {o o' : MO} (h : m[n]? = some o) : (m.set n o')[n]? = some o' := List.getElem?_set_self (List.getElem?_eq_some_iff.mp h).1
theorem Kp.wrN {S : List Nat} {m m' : Mem} {n : Nat} {o : MO} (a : Kp S m m') (h : m.length ≤ n) : Kp S m (m'.set n o) := ⟨by simpa using a.1, fun i h1 h2 => by rw [List.getElem?_set_ne (by omega)]; exact a.2 i h1 h2⟩
structure NmI (m : Mem) (n nf : Nat) (e0 : MV) (l : List T) (rem : List MV) (ρ : MI.Env) (m' : Mem) : Prop where
  ex : ∃ (dn r : List T) (x2 : Option MV) (ns : List Str), l = dn ++ r ∧ rem = encs r ∧ ρ = [some e0, some (.ref nf), x2] ∧ m'[nf]? = some (.lst (ns.map .str)) ∧ m'[n]? = some (.lst (encs l)) ∧ ns.Nodup ∧ ns.length ≤ dn.length ∧ (∀ x, x ∈ ns ↔ x ∈ (dn.map rootN).flatten) ∧ Kp [] m m'
structure NmL (t : T) (m : Mem) (d : MV) (m' : Mem) : Prop where
  ex : ∃ (n : Nat) (ns : List Str), d = .ref n ∧ m'[n]? = some (.lst ((sortM ns).map .str)) ∧ ns.Nodup ∧ (∀ x, x ∈ ns ↔ x ∈ names t) ∧ ns.length ≤ size t
  kp : Kp [] m m'
theorem lnames_ok {t : T} {k j : Nat} {m : Mem} (ok : Ok t) (hl : levels t ≤ j) (hs : size t ≤ 60) : MI.W (Tab (k + 2 + j) .l_names [enc t] m) (NmL t m) E0 := by
  rw [show k + 2 + j = (k + 1 + j) + 1 by omega]
  show MI.W (f_l_names (Tab (k + 1 + j)) [enc t] m) _ _
  unfold f_l_names b_l_names
  simp [startM]
  refine (parts_ok j t k (m ++ [.lst []]) ok hl (by omega)).mono ?_
  rintro d m1 ⟨n, rfl, h1, h2, k1⟩
  have hne : n ≠ m.length := by simp at h2; omega
  simp [h1]
  have pl := parts_len t
  have fr : ∀ {m' : Mem}, m'[n]? = some (.lst (encs (parts t))) → ((match m'[n]? with | some (MO.lst l) => some l | some (MO.frz l) => some l | x => none) = some (encs (parts t))) := fun h => by rw [h]
  refine W_loop (NmI m n m.length (enc t) (parts t)) _ _ _ ?_ ?_ ?_ ?_
  · have h0 : m1[m.length]? = some (.lst []) := k1.get (n := m.length) (by simp) (by simp)
    exact ⟨[], parts t, none, [], rfl, rfl, rfl, h0, h1, by simp, by simp, by simp, Kp.push.trans k1⟩
  · rintro rem ρ m' ⟨dn, r, x2, ns, q1, q2, q3, q4, q5, q6, q7, q8, q9⟩
    exact fr q5
  · rintro d rem ρ m' ⟨dn, r, x2, ns, q1, q2, rfl, q4, q5, q6, q7, q8, q9⟩
    cases r with
    | nil => cases q2
    | cons p r =>
      cases q2
      have pm : p ∈ parts t := by rw [q1]; simp
      have po := parts_Ok t ok p pm
      have cap : size t = dn.length + r.length + 1 := by rw [← pl, q1]; simp; omega
      have skip : rootN p = [] → ∀ x2 : Option MV, NmI m n m.length (enc t) (parts t) (encs r) [some (enc t), some (.ref m.length), x2] m' := fun e x2 =>
        ⟨dn ++ [p], r, _, ns, by rw [q1]; simp, rfl, rfl, q4, q5, q6, by simp; omega, fun x => by simp [e, q8], q9⟩
      cases p with
      | node h l =>
        obtain ⟨o1, o2⟩ := po.hd
        simp
        rw [enc_node] at *
        cases h with
        | name s =>
          simp [encH]
          refine W_inStr q4 fun z hz => ?_
          cases z with
          | true =>
            have hm := hz.mp rfl
            simp
            exact ⟨dn ++ [.node (.name s) l], r, _, ns, by rw [q1]; simp, rfl, rfl, q4, q5, q6, by simp; omega, fun x => by
              have := q8 x
              simp [rootN, hdNm, ← this]
              rintro rfl
              exact hm, q9⟩
          | false =>
            have hm : s ∉ ns := fun h => by have := hz.mpr h; cases this
            simp [q4]
            refine ⟨Nat.lt_of_lt_of_le (m := 1000) (by omega) (szl (by decide)), dn ++ [.node (.name s) l], r, _, ns ++ [s], by rw [q1]; simp, rfl, rfl, by rw [at_set q4]; simp, by rw [List.getElem?_set_ne (Ne.symm hne)]; exact q5, ?_, by simp; omega, fun x => ?_, q9.wrN (Nat.le_refl _)⟩
            · rw [List.nodup_append]
              refine ⟨q6, by simp, fun a ha b hb => ?_⟩
              simp at hb
              subst hb
              rintro rfl
              exact hm ha
            · have := q8 x
              simp [rootN, hdNm, ← this]
        | call s =>
          simp [encH, show ¬ (("call" : Str) = "name") by decide]
          exact skip rfl _
        | cmp sg =>
          simp [encH, show ¬ (("compare" : Str) = "name") by decide]
          exact skip rfl _
        | op w =>
          obtain ⟨n1, n2, n3, n4⟩ := op_word o1
          simp [encH, n1]
          exact skip rfl _
  · rintro ρ m' ⟨dn, r, x2, ns, q1, q2, rfl, q4, q5, q6, q7, q8, q9⟩
    cases r with
    | cons t r => cases q2
    | nil =>
      rw [List.append_nil] at q1
      have q8' : ∀ x, x ∈ ns ↔ x ∈ names t := fun x => by rw [q8, ← q1, ← names_parts]
      have l60 : ns.length ≤ size t := by rw [← pl, q1]; exact q7
      simp [q4, strs_map]
      exact ⟨by omega, ⟨_, ns, rfl, List.getElem?_concat_length, q6, q8', l60⟩, q9.trans Kp.push⟩
/-! ### the program's own parts -/
structure PtA (m : Mem) (e0 : MV) (acc0 : List MV) (f : T → List MV) (l : List T) (rem : List MV) (ρ : MI.Env) (m' : Mem) : Prop where
  ex : ∃ (dn r : List T) (x2 : Option MV) (nf : Nat), l = dn ++ r ∧ rem = encs r ∧ ρ = [some e0, some (.ref nf), x2] ∧ m'[nf]? = some (.lst (acc0 ++ (dn.map f).flatten)) ∧ Kp [] m m' ∧ m.length ≤ nf
theorem allparts_ok : ∀ (j : Nat) (t : T) (k : Nat) (m : Mem), Ok t → levels t ≤ j → size t ≤ 1000 → MI.W (Tab (k + 1 + j) .all_parts [enc t] m) (NewL m (encs (parts t))) E0 := by
  intro j
  induction j with
  | zero =>
    intro t k m ok hl
    cases t with
    | node h l => simp [levels] at hl
  | succ j ih =>
    intro t k m ok hl hs
    cases t with
    | node h l =>
      obtain ⟨o1, o2⟩ := ok.hd
      have hl2 : levelss l ≤ j := by simp [levels] at hl; omega
      have hs2 : 1 + sizes l ≤ 1000 := by simpa [size] using hs
      show MI.W (f_all_parts (Tab (k + 1 + j)) [enc (.node h l)] m) _ _
      unfold f_all_parts b_all_parts
      simp [startM]
      refine ⟨szl (by decide), ?_⟩
      rw [enc_node, show k + 1 + j = (k + j) + 1 by omega]
      refine (ops_ok (k := k + j) (h := h) (es := encs l) o1).mono ?_
      rintro d m1 ⟨rfl, k1⟩
      simp
      refine W_loop (PtA m (encH h (encs l)) [enc (.node h l)] (fun t => encs (parts t)) l) _ _ _ ?_ (fun _ _ _ _ => trivial) ?_ ?_
      · have h0 : m1[m.length]? = some (.lst [enc (.node h l)]) := k1.get (n := m.length) (by simp [enc_node]) (by simp)
        exact ⟨[], l, none, m.length, rfl, rfl, rfl, by simpa using h0, Kp.push.trans k1, Nat.le_refl _⟩
      · rintro d rem ρ m' ⟨dn, r, x2, nf, q1, q2, rfl, q4, q6, q7⟩
        cases r with
        | nil => cases q2
        | cons t r =>
          cases q2
          have tm : t ∈ l := by rw [q1]; simp
          simp
          rw [show k + j + 1 = k + 1 + j by omega]
          refine (ih t k m' (o2.mem tm) (Nat.le_trans (levelss_mem tm) hl2) (Nat.le_trans (sizes_mem tm) (by omega))).mono ?_
          rintro d2 m2 ⟨n2, rfl, g1, g2, g3⟩
          rw [W_add_l (g3.get q4 (by simp)) g1]
          have cap : sizes l = sizes dn + size t + sizes r := by rw [q1, sizes_app]; simp [sizes]; omega
          refine ⟨szl ?_, ⟨dn ++ [t], r, _, _, by rw [q1]; simp, rfl, rfl, ?_, q6.trans (g3.trans Kp.push), Nat.le_trans q6.1 g3.1⟩⟩
          · rw [encs_flat]
            simp [encs_length, parts_len, partss_len]
            omega
          · rw [List.getElem?_concat_length]
            simp
      · rintro ρ m' ⟨dn, r, x2, nf, q1, q2, rfl, q4, q6, q7⟩
        cases r with
        | cons t r => cases q2
        | nil =>
          rw [List.append_nil] at q1
          subst q1
          rw [encs_flat] at q4
          simp
          exact ⟨nf, rfl, by simpa [parts, encs] using q4, q7, q6⟩
end K01
namespace K01
open PySem L2 MI
theorem namess_app' {dn : List T} {t : T} {x : Str} : x ∈ namess (dn ++ [t]) ↔ x ∈ namess dn ∨ x ∈ names t := by rw [namess_app]; simp [namess]
structure VoO (m : Mem) (q : Nat) (ts : List T) (rem : List MV) (ρ : MI.Env) (m' : Mem) : Prop where
  ex : ∃ (dn r : List T) (nd : Nat) (ns : List Str) (x2 x3 : Option MV), ts = dn ++ r ∧ rem = encs r ∧ ρ = [some (.ref q), some (.ref nd), x2, x3] ∧ m'[nd]? = some (.dct (nmD ns)) ∧ ns.Nodup ∧ (∀ x, x ∈ ns ↔ x ∈ namess dn) ∧ ns.length ≤ sizes dn ∧ m.length ≤ nd ∧ Kp [] m m'
structure VoN (m : Mem) (q n nd : Nat) (x2 : Option MV) (n0 : Nat) (P0 : Str → Prop) (l : List T) (rem : List MV) (ρ : MI.Env) (m' : Mem) : Prop where
  ex : ∃ (dn r : List T) (ns : List Str) (x3 : Option MV), l = dn ++ r ∧ rem = encs r ∧ ρ = [some (.ref q), some (.ref nd), x2, x3] ∧ m'[nd]? = some (.dct (nmD ns)) ∧ m'[n]? = some (.lst (encs l)) ∧ ns.Nodup ∧ (∀ x, x ∈ ns ↔ P0 x ∨ x ∈ (dn.map rootN).flatten) ∧ ns.length ≤ n0 + dn.length ∧ Kp [] m m'
structure VsL (P : Str → Prop) (m : Mem) (d : MV) (m' : Mem) : Prop where
  ex : ∃ (n : Nat) (ns : List Str), d = .ref n ∧ m'[n]? = some (.lst ((sortM ns).map .str)) ∧ ns.Nodup ∧ (∀ x, x ∈ ns ↔ P x) ∧ m.length ≤ n
  kp : Kp [] m m'
theorem addN_len {ns : List Str} {s : Str} : (addN ns s).length ≤ ns.length + 1 := by unfold addN; split <;> simp
theorem nmD_len {ns : List Str} : (nmD ns).length = ns.length := by simp [nmD]
theorem keys_nmD : ∀ ns : List Str, (nmD ns).map (fun kv => keyM kv.1) = ns.map .str
  | [] => rfl
  | s :: r => by
    have := keys_nmD r
    unfold nmD at *
    simp only [List.map_cons, this]
    rfl
theorem Oks.split : ∀ {a b : List T}, Oks (a ++ b) → Oks b
  | [], _, h => h
  | _ :: a, b, .cons _ h => Oks.split (a := a) h
theorem vars_ok {ts : List T} {k j q : Nat} {m : Mem} (ok : Oks ts) (hl : levelss ts ≤ j) (hs : sizes ts ≤ 60) (hq : m[q]? = some (.lst (encs ts))) : MI.W (Tab (k + 2 + j) .variables_of [.ref q] m) (VsL (fun x => x ∈ namess ts) m) E0 := by
  rw [show k + 2 + j = (k + 1 + j) + 1 by omega]
  show MI.W (f_variables_of (Tab (k + 1 + j)) [.ref q] m) _ _
  unfold f_variables_of b_variables_of
  have lq := (List.getElem?_eq_some_iff.mp hq).1
  have hq0 : (m ++ [MO.dct []])[q]? = some (.lst (encs ts)) := (Kp.push (S := [])).get hq (by simp)
  simp [startM, hq0]
  refine W_loop (VoO m q ts) _ _ _ ?_ (fun _ _ m' h => by obtain ⟨_, _, _, _, _, _, _, _, _, _, _, _, _, _, kp⟩ := h.ex; rw [kp.get hq (by simp)]) ?_ ?_
  · exact ⟨[], ts, m.length, [], none, none, rfl, rfl, rfl, by simp [nmD], by simp, by simp [namess], by simp, Nat.le_refl _, Kp.push⟩
  · rintro d rem ρ m' ⟨dn, r, nd, ns, x2, x3, q1, q2, rfl, q4, q5, q6, q7, q8, q9⟩
    cases r with
    | nil => cases q2
    | cons t r =>
      cases q2
      have tm : t ∈ ts := by rw [q1]; simp
      have ot : Ok t := ok.mem tm
      have cap : sizes ts = sizes dn + size t + sizes r := by rw [q1, sizes_app]; simp [sizes]; omega
      simp
      refine (allparts_ok j t k m' ot (Nat.le_trans (levelss_mem tm) hl) (by omega)).mono ?_
      rintro d m1 ⟨n, rfl, h1, h2, k1⟩
      have ln := (List.getElem?_eq_some_iff.mp q4).1
      have hne : n ≠ nd := by omega
      simp [h1]
      refine W_loop (VoN m q n nd (some (enc t)) ns.length (fun x => x ∈ namess dn) (parts t)) _ _ _ ?_ (fun _ _ m' h => by obtain ⟨_, _, _, _, _, _, _, _, q5, _⟩ := h.ex; rw [q5]) ?_ ?_
      · exact ⟨[], parts t, ns, _, rfl, rfl, rfl, k1.get q4 (by simp), h1, q5, by simpa using q6, by simp, q9.trans k1⟩
      · rintro d rem ρ m2 ⟨dn2, r2, ns2, x3', p1, p2, rfl, p4, p5, p6, p7, p8, p9⟩
        cases r2 with
        | nil => cases p2
        | cons p r2 =>
          cases p2
          have pm : p ∈ parts t := by rw [p1]; simp
          have po := parts_Ok t ot p pm
          have cap2 : size t = dn2.length + r2.length + 1 := by rw [← parts_len t, p1]; simp; omega
          have skip : rootN p = [] → ∀ x3 : Option MV, VoN m q n nd (some (enc t)) ns.length (fun x => x ∈ namess dn) (parts t) (encs r2) [some (.ref q), some (.ref nd), some (enc t), x3] m2 := fun e x3 =>
            ⟨dn2 ++ [p], r2, ns2, _, by rw [p1]; simp, rfl, rfl, p4, p5, p6, fun x => by rw [p7]; simp [e], by simp; omega, p9⟩
          cases p with
          | node h l =>
            obtain ⟨o1, o2⟩ := po.hd
            simp
            rw [enc_node] at *
            cases h with
            | name s =>
              have hn4 : (nmD ns2).length < sizeLine := Nat.lt_of_lt_of_le (by rw [nmD_len]; omega) (szl (n := 1000) (Nat.le_refl _))
              simp [encH, p4, MI.keyOf, hn4, putM_nm]
              refine ⟨dn2 ++ [.node (.name s) l], r2, addN ns2 s, _, by rw [p1]; simp, rfl, rfl, at_set p4, by rw [List.getElem?_set_ne (Ne.symm hne)]; exact p5, addN_nodup p6, fun x => ?_, by have := addN_len (ns := ns2) (s := s); simp; omega, p9.wrN q8⟩
              rw [addN_mem, p7]
              simp [rootN, hdNm]
              constructor
              · rintro ((h | h) | h)
                · exact .inl h
                · exact .inr (.inl h)
                · exact .inr (.inr h)
              · rintro (h | h | h)
                · exact .inl (.inl h)
                · exact .inl (.inr h)
                · exact .inr h
            | call s =>
              simp [encH, show ¬ (("call" : Str) = "name") by decide]
              exact skip rfl _
            | cmp sg =>
              simp [encH, show ¬ (("compare" : Str) = "name") by decide]
              exact skip rfl _
            | op w =>
              obtain ⟨n1, n2, n3, n4⟩ := op_word o1
              simp [encH, n1]
              exact skip rfl _
      · rintro ρ m2 ⟨dn2, r2, ns2, x3', p1, p2, rfl, p4, p5, p6, p7, p8, p9⟩
        cases r2 with
        | cons _ _ => cases p2
        | nil =>
          rw [List.append_nil] at p1
          have ld : dn2.length = size t := by rw [← p1, parts_len]
          refine ⟨dn ++ [t], r, nd, ns2, _, _, by rw [q1]; simp, rfl, rfl, p4, p6, fun x => ?_, by rw [sizes_app]; simp [sizes]; omega, q8, p9⟩
          rw [p7, namess_app', names_parts t, p1]
  · rintro ρ m' ⟨dn, r, nd, ns, x2, x3, q1, q2, rfl, q4, q5, q6, q7, q8, q9⟩
    cases r with
    | cons t r => cases q2
    | nil =>
      rw [List.append_nil] at q1
      subst q1
      simp [q4, keys_nmD, strs_map]
      refine ⟨by omega, ⟨_, ns, rfl, by simp, q5, q6, by have := q9.1; omega⟩, ?_⟩
      have a : Kp [] m (m' ++ [MO.lst (ns.map .str)]) := q9.trans Kp.push
      have b := a.trans (Kp.push (o := MO.lst ((sortM ns).map .str)))
      simpa using b
end K01
namespace K01
open PySem L2 MI
/-! ### the doors -/
abbrev Rf (d : MV) (m : Mem) : Exn → Mem → Prop := fun x m' => x = ⟨"InvalidExpression"⟩ ∧ Kp [] m m'
abbrev No : MV → Mem → Prop := fun _ _ => False
theorem check_no {S : List Nat} {k : Nat} {m : Mem} {d : MV} (h : TyV S m d) (n : ¬ IsE d) : MI.W (Tab (k + 4) .check_expression [d] m) No (Rf d m) :=
  (checkV_ok (k := k) h).mono (fun _ _ q => n q.2.1) (fun _ _ q => ⟨q.1, q.2.2⟩)
theorem check_yes {S : List Nat} {k : Nat} {m : Mem} {d : MV} (h : TyV S m d) (n : IsE d) : MI.W (Tab (k + 4) .check_expression [d] m) (fun v m' => v = .non ∧ Kp [] m m') E0 :=
  (checkV_ok (k := k) h).mono (fun _ _ q => ⟨q.1, q.2.2⟩) (fun _ _ q => q.2.1 n)
theorem vars_no {S : List Nat} {k : Nat} {m : Mem} {d : MV} (h : TyV S m d) (n : ¬ IsE d) : MI.W (Tab (k + 5) .variables [d] m) No (Rf d m) := by
  show MI.W (f_variables (Tab (k + 4)) [d] m) _ _
  unfold f_variables b_variables
  simp [startM]
  exact (check_no (k := k) h n).mono (fun _ _ q => q.elim) (fun x m' q => q)
theorem size_no {S : List Nat} {k : Nat} {m : Mem} {d : MV} (h : TyV S m d) (n : ¬ IsE d) : MI.W (Tab (k + 5) .size [d] m) No (Rf d m) := by
  show MI.W (f_size (Tab (k + 4)) [d] m) _ _
  unfold f_size b_size
  simp [startM]
  exact (check_no (k := k) h n).mono (fun _ _ q => q.elim) (fun x m' q => q)
theorem places_no {S : List Nat} {k : Nat} {m : Mem} {d : MV} (h : TyV S m d) (n : ¬ IsE d) : MI.W (Tab (k + 5) .event_places [d] m) No (Rf d m) := by
  show MI.W (f_event_places (Tab (k + 4)) [d] m) _ _
  unfold f_event_places b_event_places
  simp [startM]
  exact (check_no (k := k) h n).mono (fun _ _ q => q.elim) (fun x m' q => q)
theorem text_no {S : List Nat} {k : Nat} {m : Mem} {d : MV} (h : TyV S m d) (n : ¬ IsE d) : MI.W (Tab (k + 5) .expression_text [d] m) No (Rf d m) := by
  show MI.W (f_expression_text (Tab (k + 4)) [d] m) _ _
  unfold f_expression_text b_expression_text
  simp [startM]
  exact (check_no (k := k) h n).mono (fun _ _ q => q.elim) (fun x m' q => q)
theorem run_no {S : List Nat} {k : Nat} {m : Mem} {d a b : MV} (h : TyV S m d) (n : ¬ IsE d) : MI.W (Tab (k + 5) .run_once [d, a, b] m) No (Rf d m) := by
  show MI.W (f_run_once (Tab (k + 4)) [d, a, b] m) _ _
  unfold f_run_once b_run_once
  simp [startM]
  exact (check_no (k := k) h n).mono (fun _ _ q => q.elim) (fun x m' q => q)
theorem eval_no {S : List Nat} {k : Nat} {m : Mem} {d a b : MV} (h : TyV S m d) (n : ¬ IsE d) : MI.W (Tab (k + 6) .evaluate [d, a, b] m) No (Rf d m) := by
  show MI.W (f_evaluate (Tab (k + 5)) [d, a, b] m) _ _
  unfold f_evaluate b_evaluate
  simp [startM, W_asgT]
  exact (run_no (k := k) h n).mono (fun _ _ q => q.elim) (fun x m' q => q)
theorem tree_no {S : List Nat} {k : Nat} {m : Mem} {d a : MV} (h : TyV S m d) (n : ¬ IsE d) : MI.W (Tab (k + 5) .call_tree [d, a] m) No (Rf d m) := by
  show MI.W (f_call_tree (Tab (k + 4)) [d, a] m) _ _
  unfold f_call_tree b_call_tree
  simp [startM]
  exact (check_no (k := k) h n).mono (fun _ _ q => q.elim) (fun x m' q => q)
structure SvI (S : List Nat) (m : Mem) (q : Nat) (d : MV) (rem : List MV) (ρ : MI.Env) (m' : Mem) : Prop where
  ex : ∃ (pre : List MV) (x1 : Option MV), rem = pre ++ [d] ∧ (∀ p ∈ pre, TyV S m p ∧ IsE p) ∧ ρ = [some (.ref q), x1]
  kp : Kp [] m m'
theorem survey_no {S : List Nat} {k q : Nat} {m : Mem} {d : MV} {pre : List MV} (h : TyV S m d) (n : ¬ IsE d) (hp : ∀ p ∈ pre, TyV S m p ∧ IsE p) (hq : m[q]? = some (.lst (pre ++ [d]))) : MI.W (Tab (k + 5) .check_surveyable [.ref q] m) No (Rf d m) := by
  show MI.W (f_check_surveyable (Tab (k + 4)) [.ref q] m) _ _
  unfold f_check_surveyable b_check_surveyable
  simp [startM, hq]
  refine W_loop (SvI S m q d) _ _ _ ⟨⟨pre, none, rfl, hp, rfl⟩, Kp.refl⟩ (fun _ _ m' h => by rw [h.kp.get hq (by simp)]) ?_ ?_
  · rintro x rem ρ m1 ⟨⟨pre', x1, e, hp', rfl⟩, kp⟩
    simp
    cases pre' with
    | nil =>
      simp at e
      obtain ⟨rfl, rfl⟩ := e
      refine (check_no (k := k) (TyV.kp kp _ h) n).mono (fun _ _ q => q.elim) ?_
      rintro x m2 ⟨rfl, k2⟩
      exact ⟨rfl, kp.trans k2⟩
    | cons p pre' =>
      simp at e
      obtain ⟨rfl, rfl⟩ := e
      obtain ⟨t1, t2⟩ := hp' x (by simp)
      refine (check_yes (k := k) (TyV.kp kp _ t1) t2).mono ?_
      rintro v m2 ⟨rfl, k2⟩
      exact ⟨⟨pre', _, rfl, fun p hp => hp' p (by simp [hp]), rfl⟩, kp.trans k2⟩
  · rintro ρ m1 ⟨⟨pre', x1, e, _⟩, _⟩
    simp at e
theorem form_no {S : List Nat} {k : Nat} {m : Mem} {d : MV} (h : TyV S m d) (n : ¬ IsE d) : MI.W (Tab (k + 6) .form [d] m) No (Rf d m) := by
  show MI.W (f_form (Tab (k + 5)) [d] m) _ _
  unfold f_form b_form
  simp [startM]
  refine ⟨szl (by decide), ?_⟩
  refine (survey_no (k := k) (pre := []) (TyV.kp Kp.push _ h) n (by simp) List.getElem?_concat_length).mono (fun _ _ q => q.elim) ?_
  rintro x m1 ⟨rfl, k1⟩
  exact ⟨rfl, Kp.push.trans k1⟩
def nmA : MV := .tup [.str "name", .str "a"]
theorem nmA_ok {S : List Nat} {m : Mem} : TyV S m nmA ∧ IsE nmA := by
  have o : Ok (.node (.name "a") []) := .node ⟨by decide, rfl⟩ .nil
  refine ⟨enc_TyV _ o, .node (.name "a") [], rfl, o, ?_⟩
  exact ⟨by simp [stSize, size, sizes], by simp [stPl, places, placess, hdPl], ⟨["a"], by simp, by simp [stNm, names, namess, hdNm]⟩, by simp [levels, levelss]⟩
theorem least_no {S : List Nat} {k : Nat} {m : Mem} {d : MV} (h : TyV S m d) (n : ¬ IsE d) : MI.W (Tab (k + 6) .u_least_parting [nmA, d, .bl false] m) No (Rf d m) := by
  show MI.W (f_u_least_parting (Tab (k + 5)) [nmA, d, .bl false] m) _ _
  unfold f_u_least_parting b_u_least_parting
  simp [startM]
  refine ⟨szl (by decide), ?_⟩
  refine (survey_no (k := k) (S := S) (pre := [nmA]) (TyV.kp Kp.push _ h) n (by simpa using nmA_ok) List.getElem?_concat_length).mono (fun _ _ q => q.elim) ?_
  rintro x m1 ⟨rfl, k1⟩
  exact ⟨rfl, Kp.push.trans k1⟩
theorem part_no {S : List Nat} {k : Nat} {m : Mem} {d : MV} (h : TyV S m d) (n : ¬ IsE d) : MI.W (Tab (k + 7) .parting [nmA, d] m) No (Rf d m) := by
  show MI.W (f_parting (Tab (k + 6)) [nmA, d] m) _ _
  unfold f_parting b_parting
  simp [startM]
  exact (least_no (k := k) h n).mono (fun _ _ q => q.elim) (fun x m' q => q)
theorem asked_no {S : List Nat} {k : Nat} {m : Mem} {d : MV} (w : Nat) (hw : w < 9) (h : TyV S m d) (n : ¬ IsE d) : MI.W (Tab (k + 8) .l_asked [d, .int w] m) No (Rf d m) := by
  show MI.W (f_l_asked (Tab (k + 7)) [d, .int w] m) _ _
  unfold f_l_asked b_l_asked
  have cs : w = 0 ∨ w = 1 ∨ w = 2 ∨ w = 3 ∨ w = 4 ∨ w = 5 ∨ w = 6 ∨ w = 7 ∨ w = 8 := by omega
  rcases cs with rfl | rfl | rfl | rfl | rfl | rfl | rfl | rfl | rfl
  · simp [startM]
    exact (check_no (k := k + 3) h n).mono (fun _ _ q => q.elim) (fun x m' q => q)
  · simp [startM]
    exact (vars_no (k := k + 2) h n).mono (fun _ _ q => q.elim) (fun x m' q => q)
  · simp [startM]
    exact (size_no (k := k + 2) h n).mono (fun _ _ q => q.elim) (fun x m' q => q)
  · simp [startM]
    exact (places_no (k := k + 2) h n).mono (fun _ _ q => q.elim) (fun x m' q => q)
  · simp [startM]
    exact (eval_no (k := k + 1) h n).mono (fun _ _ q => q.elim) (fun x m' q => q)
  · simp [startM]
    refine (tree_no (k := k + 2) (TyV.kp Kp.push _ h) n).mono (fun _ _ q => q.elim) ?_
    rintro x m1 ⟨rfl, k1⟩
    exact ⟨rfl, Kp.push.trans k1⟩
  · simp [startM]
    exact (form_no (k := k + 1) h n).mono (fun _ _ q => q.elim) (fun x m' q => q)
  · simp [startM]
    exact ⟨szl (by decide), (part_no (k := k) h n).mono (fun _ _ q => q.elim) (fun x m' q => q)⟩
  · simp [startM]
    exact (text_no (k := k + 2) h n).mono (fun _ _ q => q.elim) (fun x m' q => q)
theorem refused_ok {S : List Nat} {k : Nat} {m : Mem} {d : MV} (w : Nat) (hw : w < 9) (h : TyV S m d) (n : ¬ IsE d) : MI.W (Tab (k + 9) .l_refused [d, .int w] m) (fun v m' => v = .bl true ∧ Kp [] m m') E0 := by
  show MI.W (f_l_refused (Tab (k + 8)) [d, .int w] m) _ _
  unfold f_l_refused b_l_refused
  simp [startM]
  refine (asked_no (k := k) w hw h n).mono (fun _ _ q => q.elim) ?_
  rintro x m1 ⟨rfl, k1⟩
  rw [show p_OperandError "InvalidExpression" = some true by decide]
  simp [isxV, exnOf, show p_InvalidExpression "InvalidExpression" = some true by decide, show p_ValueError "InvalidExpression" = some true by decide]
  exact k1.trans Kp.push
end K01
namespace K01
open PySem L2 MI
/-! ### fits -/
def isW (w : Str) : MV → Bool
  | .tup (.str z :: _) => decide (z = w)
  | _ => false
def lnk : MV → MV
  | .tup [_, _, .tup l] => .int (l.length : Nat)
  | _ => .int 0
theorem isW_enc {w : Str} {p : T} (o : Ok p) : ∃ z l, enc p = .tup (.str z :: l) ∧ isW w (enc p) = decide (z = w) := by
  cases p with
  | node h l =>
    obtain ⟨o1, o2⟩ := o.hd
    rw [enc_node]
    cases h with
    | name s => exact ⟨_, _, rfl, rfl⟩
    | call s => exact ⟨_, _, rfl, rfl⟩
    | cmp s => exact ⟨_, _, rfl, rfl⟩
    | op w => exact ⟨_, _, rfl, rfl⟩
theorem fit_sum : ∀ (ps : List T), (∀ p ∈ ps, Ok p) → ∃ ns : List Int, ((encs ps).filter (isW "compare")).map lnk = ns.map .int ∧ (((encs ps).filter (isW "call")).length : Int) + ns.sum = ((ps.map rootP).sum : Nat)
  | [], _ => ⟨[], rfl, rfl⟩
  | p :: r, h => by
    obtain ⟨ns, h1, h2⟩ := fit_sum r fun q hq => h q (List.mem_cons_of_mem _ hq)
    have po := h p List.mem_cons_self
    cases p with
    | node hd l =>
      obtain ⟨o1, o2⟩ := po.hd
      cases hd with
      | name s =>
        refine ⟨ns, ?_, ?_⟩
        · simpa [encs, enc_node, encH, isW, show ¬ (("name" : Str) = "compare") by decide] using h1
        · simpa [encs, enc_node, encH, isW, show ¬ (("name" : Str) = "call") by decide, rootP, hdPl] using h2
      | call s =>
        refine ⟨ns, ?_, ?_⟩
        · simpa [encs, enc_node, encH, isW, show ¬ (("call" : Str) = "compare") by decide] using h1
        · simp [encs, enc_node, encH, isW, rootP, hdPl] at h2 ⊢
          omega
      | cmp sg =>
        obtain ⟨c1, c2, c3, c4⟩ := (show sg.length + 1 = (encs l).length ∧ 1 ≤ sg.length ∧ sg.length ≤ 4 ∧ ∀ s ∈ sg, s ∈ (["<", "<=", ">", ">=", "==", "!="] : List Str) from o1)
        have lt : min sg.length ((encs l).length - 1) = sg.length := by omega
        refine ⟨(sg.length : Nat) :: ns, ?_, ?_⟩
        · simp [encs, enc_node, encH, isW, lnk, lt] at h1 ⊢
          exact h1
        · simp [encs, enc_node, encH, isW, show ¬ (("compare" : Str) = "call") by decide, rootP, hdPl] at h2 ⊢
          omega
      | op w =>
        obtain ⟨n1, n2, n3, n4⟩ := op_word o1
        refine ⟨ns, ?_, ?_⟩
        · simpa [encs, enc_node, encH, isW, n3] using h1
        · simpa [encs, enc_node, encH, isW, n2, rootP, hdPl] using h2
theorem lnk_enc {p : T} (o : Ok p) (h : isW "compare" (enc p) = true) : ∃ a b l, enc p = .tup [a, b, .tup l] ∧ l.length ≤ 4 := by
  cases p with
  | node hd l =>
    obtain ⟨o1, o2⟩ := o.hd
    rw [enc_node] at h ⊢
    cases hd with
    | name s => simp [encH, isW, show ¬ (("name" : Str) = "compare") by decide] at h
    | call s => simp [encH, isW, show ¬ (("call" : Str) = "compare") by decide] at h
    | op w =>
      obtain ⟨n1, n2, n3, n4⟩ := op_word o1
      simp [encH, isW, n3] at h
    | cmp sg =>
      obtain ⟨c1, c2, c3, c4⟩ := (show sg.length + 1 = (encs l).length ∧ 1 ≤ sg.length ∧ sg.length ≤ 4 ∧ ∀ s ∈ sg, s ∈ (["<", "<=", ">", ">=", "==", "!="] : List Str) from o1)
      exact ⟨_, _, _, rfl, by simp; omega⟩
theorem fits_iff {t : T} : Fits 0 0 [] [(t, 1)] ↔ size t ≤ 40 ∧ levels t ≤ 12 ∧ Cover 4 (names t) ∧ places t ≤ 6 := by
  unfold Fits
  simp [stSize, stPl, stNm]
  intro _
  constructor
  · rintro ⟨b, c, d⟩; exact ⟨by omega, c, b⟩
  · rintro ⟨b, c, d⟩; exact ⟨d, c, by omega⟩
theorem encs_mem : ∀ {l : List T} {d : MV}, d ∈ encs l → ∃ t ∈ l, d = enc t
  | t :: r, d, h => by
    simp only [encs, List.mem_cons] at h
    rcases h with rfl | h
    · exact ⟨t, by simp, rfl⟩
    · obtain ⟨u, h1, h2⟩ := encs_mem h
      exact ⟨u, by simp [h1], h2⟩

/-! ### what the program tells of an expression -/
structure PoI (m : Mem) (n : Nat) (l : List T) (rem acc : List MV) (m' : Mem) : Prop where
  ex : ∃ (dn r : List T), l = dn ++ r ∧ rem = encs r ∧ acc = dn.map (fun t => MV.int (rootP t)) ∧ m'[n]? = some (.lst (encs l)) ∧ Kp [] m m'
theorem places_ok {t : T} {k j : Nat} {m : Mem} (ok : Ok t) (hl : levels t ≤ j) (hs : size t ≤ 900) : MI.W (Tab (k + 2 + j) .places_of [enc t] m) (fun d m' => d = .int (places t) ∧ Kp [] m m') E0 := by
  rw [show k + 2 + j = (k + 1 + j) + 1 by omega]
  show MI.W (f_places_of (Tab (k + 1 + j)) [enc t] m) _ _
  unfold f_places_of b_places_of
  simp [startM]
  refine (allparts_ok j t k m ok hl (by omega)).mono ?_
  rintro d m1 ⟨n, rfl, h1, h2, k1⟩
  simp [h1]
  have pl := parts_len t
  refine W_lcs (PoI m n (parts t)) _ _ _ ⟨[], parts t, rfl, rfl, rfl, h1, k1⟩ (fun _ _ m' h => by obtain ⟨_, _, _, _, _, q, _⟩ := h.ex; rw [q]) ?_ ?_
  · rintro d rem acc m' ⟨dn, r, q1, q2, rfl, q5, q6⟩
    cases r with
    | nil => cases q2
    | cons p r =>
      cases q2
      have po := parts_Ok t ok p (by rw [q1]; simp)
      have cap : (parts t).length = dn.length + r.length + 1 := by rw [q1]; simp; omega
      cases p with
      | node h l =>
        obtain ⟨o1, o2⟩ := po.hd
        refine ⟨_, rfl, ?_⟩
        simp [mYes, wipeM, setE]
        rw [enc_node, show k + 1 + j = (k + j) + 1 by omega]
        refine (own_ok (k := k + j) o1).mono ?_
        rintro d m2 ⟨rfl, rfl⟩
        exact ⟨Nat.lt_of_lt_of_le (m := 1000) (by omega) (szl (by decide)), dn ++ [.node h l], r, by rw [q1]; simp, rfl, by simp [rootP], q5, q6⟩
  · rintro acc m' ⟨dn, r, q1, q2, rfl, q5, q6⟩
    cases r with
    | cons _ _ => cases q2
    | nil =>
      rw [List.append_nil] at q1
      have e : dn.map (fun t => MV.int (rootP t)) = (dn.map fun t => (rootP t : Int)).map .int := by rw [List.map_map]; rfl
      rw [e]
      simp only [ints_map]
      refine ⟨?_, q6.trans Kp.push⟩
      congr 1
      rw [places_parts, q1]
      clear q1 e
      induction dn with
      | nil => rfl
      | cons x r ih => simp [ih]
theorem fits_size {t : T} (f : Fits 0 0 [] [(t, 1)]) : size t ≤ 40 ∧ levels t ≤ 12 := by
  have := fits_iff.mp f
  exact ⟨this.1, this.2.1⟩
theorem isE_enc {t : T} (ok : Ok t) (f : Fits 0 0 [] [(t, 1)]) : IsE (enc t) := ⟨t, rfl, ok, f⟩
theorem vars_yes {t : T} {k : Nat} {m : Mem} (ok : Ok t) (f : Fits 0 0 [] [(t, 1)]) : MI.W (Tab (k + 15) .variables [enc t] m) (VsL (fun x => x ∈ names t) m) E0 := by
  obtain ⟨f1, f2⟩ := fits_size f
  show MI.W (f_variables (Tab (k + 14)) [enc t] m) _ _
  unfold f_variables b_variables
  simp [startM]
  refine (check_yes (k := k + 10) (S := []) (enc_TyV t ok) (isE_enc ok f)).mono ?_
  rintro v m1 ⟨rfl, k1⟩
  refine ⟨szl (by decide), ?_⟩
  refine (vars_ok (k := k) (j := 12) (ts := [t]) (.cons ok .nil) (by simp [levelss]; omega) (by simp [sizes]; omega) List.getElem?_concat_length).mono ?_
  rintro d m2 ⟨⟨n, ns, rfl, h1, h2, h3, h4⟩, k2⟩
  exact ⟨⟨n, ns, rfl, h1, h2, fun x => by rw [h3]; simp [namess], by have := k1.1; simp at h4; omega⟩, k1.trans (Kp.push.trans k2)⟩
theorem size_yes {t : T} {k : Nat} {m : Mem} (ok : Ok t) (f : Fits 0 0 [] [(t, 1)]) : MI.W (Tab (k + 14) .size [enc t] m) (fun d m' => d = .int (size t) ∧ Kp [] m m') E0 := by
  obtain ⟨f1, f2⟩ := fits_size f
  show MI.W (f_size (Tab (k + 13)) [enc t] m) _ _
  unfold f_size b_size
  simp [startM]
  refine (check_yes (k := k + 9) (S := []) (enc_TyV t ok) (isE_enc ok f)).mono ?_
  rintro v m1 ⟨rfl, k1⟩
  refine (allparts_ok 12 t k m1 ok f2 (by omega)).mono ?_
  rintro d m2 ⟨n, rfl, h1, h2, k2⟩
  simp [h1, encs_length, parts_len]
  exact k1.trans k2
theorem evp_yes {t : T} {k : Nat} {m : Mem} (ok : Ok t) (f : Fits 0 0 [] [(t, 1)]) : MI.W (Tab (k + 15) .event_places [enc t] m) (fun d m' => d = .int (places t) ∧ Kp [] m m') E0 := by
  obtain ⟨f1, f2⟩ := fits_size f
  show MI.W (f_event_places (Tab (k + 14)) [enc t] m) _ _
  unfold f_event_places b_event_places
  simp [startM]
  refine (check_yes (k := k + 10) (S := []) (enc_TyV t ok) (isE_enc ok f)).mono ?_
  rintro v m1 ⟨rfl, k1⟩
  refine (places_ok (k := k) (j := 12) ok f2 (by omega)).mono ?_
  rintro d m2 ⟨rfl, k2⟩
  exact ⟨rfl, k1.trans k2⟩
theorem eval_yes {t : T} {k : Nat} {m : Mem} (ok : Ok t) (f : Fits 0 0 [] [(t, 1)]) : MI.W (Tab (k + 16) .evaluate [enc t, .non, .non] m) No (fun x m' => x = ⟨"InvalidWorld"⟩ ∧ Kp [] m m') := by
  obtain ⟨f1, f2⟩ := fits_size f
  show MI.W (f_evaluate (Tab (k + 15)) [enc t, .non, .non] m) _ _
  unfold f_evaluate b_evaluate
  simp [startM, W_asgT]
  show MI.W (f_run_once (Tab (k + 14)) [enc t, .non, .non] m) _ _
  unfold f_run_once b_run_once
  simp [startM]
  refine (check_yes (k := k + 10) (S := []) (enc_TyV t ok) (isE_enc ok f)).mono ?_
  rintro v m1 ⟨rfl, k1⟩
  refine ⟨szl (by decide), ?_⟩
  refine (vars_ok (k := k) (j := 12) (ts := [t]) (.cons ok .nil) (by simp [levelss]; omega) (by simp [sizes]; omega) List.getElem?_concat_length).mono ?_
  rintro d m2 ⟨⟨n, ns, rfl, h1, h2, h3, h4⟩, k2⟩
  show MI.W (f_check_kinds (Tab (k + 13)) [.non, .ref n] m2) _ _
  unfold f_check_kinds b_check_kinds
  simp [startM, show kitB "NoneType" "dict" = some false from rfl]
  exact k1.trans (Kp.push.trans k2)
end K01
namespace K01
open PySem L2 MI
theorem each_w {t : T} (ok : Ok t) (w : Str) (m : Mem) (i N : Nat) (hi : i < N) : ∀ d ∈ encs (parts t), ∀ ρ : MI.Env, ρ.length = N → mB (mBin (gEqA false) (mBin gItem (mVar i) (mC (.int 0))) (mC (.str w))) (ρ.set i (some d)) m = .ok (isW w d) m := by
  intro d hd ρ hρ
  obtain ⟨p, hp, rfl⟩ := encs_mem hd
  obtain ⟨z, l, e, e2⟩ := isW_enc (w := w) (parts_Ok t ok p hp)
  rw [e2, e]
  simp [mB, mBin, mVar, mC, Re.bind, gItem_t, gEqA_s, List.getElem?_set, hρ, hi]
theorem each_l {t : T} (ok : Ok t) (m : Mem) (i N : Nat) (hi : i < N) : ∀ d ∈ encs (parts t), isW "compare" d = true → ∀ ρ : MI.Env, ρ.length = N → mCall gLen (mCons (mBin gItem (mVar i) (mC (.int 2))) mNil) (ρ.set i (some d)) m = .ok (lnk d) m := by
  intro d hd q ρ hρ
  obtain ⟨p, hp, rfl⟩ := encs_mem hd
  obtain ⟨a, b, l, e, hl⟩ := lnk_enc (parts_Ok t ok p hp) q
  rw [e]
  simp [mCall, mCons, mNil, mBin, mVar, mC, Re.bind, gItem_t, lnk, gLen, List.getElem?_set, hρ, hi]
theorem isE_iff {d : MV} : IsE d ↔ ∃ t, d = enc t ∧ Ok t ∧ size t ≤ 40 ∧ levels t ≤ 12 ∧ Cover 4 (names t) ∧ places t ≤ 6 := by
  constructor
  · rintro ⟨t, e, o, f⟩
    rw [fits_iff] at f
    exact ⟨t, e, o, f⟩
  · rintro ⟨t, e, o, f⟩
    exact ⟨t, e, o, fits_iff.mpr f⟩
theorem enc_inj : ∀ {t t' : T}, Ok t → Ok t' → enc t = enc t' → t = t' := by
  intro t
  suffices h : ∀ n, ∀ t, size t ≤ n → ∀ t', Ok t → Ok t' → enc t = enc t' → t = t' from fun {t'} => h _ t (Nat.le_refl _) t'
  intro n
  induction n with
  | zero => intro t h; cases t with | node h l => simp [size] at h
  | succ n ih =>
    intro t hs t' o o' e
    cases t with
    | node h l =>
      cases t' with
      | node h' l' =>
        obtain ⟨a, b⟩ := o.hd
        obtain ⟨a', b'⟩ := o'.hd
        rw [enc_node, enc_node] at e
        obtain ⟨rfl, e2⟩ := encH_inj a a' e
        have key : ∀ {l l' : List T}, sizes l ≤ n → Oks l → Oks l' → encs l = encs l' → l = l' := by
          intro l
          induction l with
          | nil =>
            intro l' _ _ _ e
            cases l' with
            | nil => rfl
            | cons x r => simp [encs] at e
          | cons x r ihl =>
            intro l' hs o o' e
            cases l' with
            | nil => simp [encs] at e
            | cons x' r' =>
              cases o with
              | cons o1 o2 =>
                cases o' with
                | cons o1' o2' =>
                  simp [encs] at e
                  simp [sizes] at hs
                  rw [ih x (by omega) x' o1 o1' e.1, ihl (by omega) o2 o2' e.2]
        rw [key (by simp [size] at hs; omega) b b' e2]
theorem lisexpr_ok {S : List Nat} {k : Nat} {m : Mem} {d : MV} (h : TyV S m d) (hs : ∀ t, d = enc t → Ok t → size t ≤ 900) : MI.W (Tab (k + 30) .l_is_expr [d] m) (BI (IsE d) m) E0 := by
  show MI.W (f_l_is_expr (Tab (k + 29)) [d] m) _ _
  unfold f_l_is_expr b_l_is_expr
  simp [startM]
  refine (lhas_ok 12 S (k + 3) m d h).mono ?_
  rintro v m1 ⟨⟨b, rfl, hb⟩, k1⟩
  cases b with
  | false =>
    simp
    refine BI.no (fun z => ?_) k1
    obtain ⟨t, rfl, o, z1, z2, _⟩ := isE_iff.mp z
    have := hb.mpr ⟨t, rfl, o, z2⟩
    cases this
  | true =>
    obtain ⟨t, rfl, ok, lv⟩ := hb.mp rfl
    have hz := hs t rfl ok
    simp
    refine (parts_ok 12 t (k + 16) m1 ok lv (by omega)).mono ?_
    rintro d m2 ⟨n, rfl, h1, h2, k2⟩
    have pl : (encs (parts t)).length = size t := by rw [encs_length, parts_len]
    simp [h1]
    have this := places_parts t
    obtain ⟨ns, s1, s2⟩ := fit_sum (parts t) (parts_Ok t ok)
    rw [← this] at s2
    have iff : IsE (enc t) ↔ size t ≤ 40 ∧ Cover 4 (names t) ∧ places t ≤ 6 := by
      rw [isE_iff]
      constructor
      · rintro ⟨t', e, o', q1, q2, q3, q4⟩
        obtain rfl := enc_inj ok o' e
        exact ⟨q1, q3, q4⟩
      · rintro ⟨q1, q3, q4⟩
        exact ⟨t, rfl, ok, q1, lv, q3, q4⟩
    refine W_pure id (isW "call") (by rw [h1]) (fun d hd => ⟨each_w ok _ _ 3 4 (by omega) d hd _ rfl, fun _ => ?_⟩) (by omega) ?_
    · simp [mVar, wipeM]
    simp only [List.map_id]
    have g1 : (m2 ++ [MO.lst ((encs (parts t)).filter (isW "call"))])[n]? = some (.lst (encs (parts t))) := (Kp.push (S := [])).get h1 (by simp)
    simp [g1]
    refine W_pure lnk (isW "compare") (by rw [g1]) (fun d hd => ⟨each_w ok _ _ 3 4 (by omega) d hd _ rfl, fun q => each_l ok _ 3 4 (by omega) d hd q _ rfl⟩) (by omega) ?_
    rw [s1]
    have kk : Kp [] m (m2 ++ [MO.lst ((encs (parts t)).filter (isW "call"))] ++ [MO.lst (ns.map MV.int)]) := (k1.trans k2).trans (Kp.push.trans Kp.push)
    have g2 : (m2 ++ [MO.lst ((encs (parts t)).filter (isW "call"))] ++ [MO.lst (ns.map MV.int)])[n]? = some (.lst (encs (parts t))) := (Kp.push (S := [])).get g1 (by simp)
    rw [ints_map]
    generalize (m2 ++ [MO.lst ((encs (parts t)).filter (isW "call"))] ++ [MO.lst (ns.map MV.int)]) = m3 at kk g2 ⊢
    rw [g2]
    simp only [pl]
    by_cases c1 : size t < 41
    · have c1' : ((size t : Nat) : Int) < 41 := by omega
      simp only [c1', decide_true]
      refine (lnames_ok (k := k + 15) (j := 12) ok lv (by omega)).mono ?_
      rintro d m4 ⟨⟨q, us, rfl, u1, u2, u3, u4⟩, k4⟩
      have us4 : us.length ≤ 4 ↔ Cover 4 (names t) := by
        constructor
        · intro h; exact ⟨us, h, fun x hx => (u3 x).mpr hx⟩
        · rintro ⟨vs, v1, v2⟩
          have := nodup_le u2 fun x hx => v2 x ((u3 x).mp hx)
          omega
      have le : (sortM us).length = us.length := (List.mergeSort_perm us leS).length_eq
      have kf : Kp [] m m4 := kk.trans k4
      simp [u1, le]
      by_cases c3 : us.length < 5
      · have c3' : ((us.length : Nat) : Int) < 5 := by omega
        simp only [c3', decide_true]
        refine BI.is ?_ kf
        rw [iff, decide_eq_true_eq]
        constructor
        · intro z; exact ⟨by omega, us4.mp (by omega), by omega⟩
        · rintro ⟨_, _, z⟩; omega
      · have c3' : ¬ ((us.length : Nat) : Int) < 5 := by omega
        simp only [c3', decide_false]
        refine BI.no (fun z => ?_) kf
        have := us4.mpr (iff.mp z).2.1
        omega
    · have c1' : ¬ ((size t : Nat) : Int) < 41 := by omega
      simp only [c1', decide_false]
      refine BI.no (fun z => ?_) kk
      have := (iff.mp z).1
      omega
end K01
namespace K01
open PySem L2 MI
theorem name_strOk {s : Str} (h : IsName s) : PyData.strOk s = true := by
  unfold PyData.strOk
  rw [← Array.all_toList, List.all_eq_true]
  intro c hc
  have := h.2.2.1 c hc
  simp; omega
theorem das_strs : ∀ {ss : List Str}, (∀ s ∈ ss, PyData.strOk s = true) → pus (ss.map .str) = true ∧ fls (ss.map .str) = ss.length ∧ dps (ss.map .str) = 0
  | [], _ => ⟨rfl, rfl, rfl⟩
  | s :: r, h => by
    obtain ⟨a, b, c⟩ := das_strs (ss := r) fun x hx => h x (List.mem_cons_of_mem _ hx)
    refine ⟨by simp [pus, pu, h s List.mem_cons_self, a], ?_, ?_⟩
    · simp only [List.map_cons, fls, fl, b, List.length_cons]; omega
    · simp only [List.map_cons, dps, MI.dp, c]; rfl
theorem das_names {ss : List Str} (h : ∀ s ∈ ss, IsName s) (hl : ss.length ≤ 1000) : Das (ss.map .str) := by
  obtain ⟨a, b, c⟩ := das_strs fun s hs => name_strOk (h s hs)
  exact ⟨a, by omega, by omega⟩
theorem sortM_mem {ns : List Str} {x : Str} : x ∈ sortM ns ↔ x ∈ ns := (List.mergeSort_perm ns leS).mem_iff
theorem sortM_eq {a b : List Str} (h : a.Perm b) : sortM a = sortM b :=
  List.Perm.eq_of_pairwise (fun a b _ _ => leS_anti) (List.pairwise_mergeSort leS_trans leS_total a) (List.pairwise_mergeSort leS_trans leS_total b) (((List.mergeSort_perm a leS).trans h).trans (List.mergeSort_perm b leS).symm)
mutual
theorem names_ok : ∀ (t : T), Ok t → ∀ x ∈ names t, IsName x
  | .node h l, o, x, hx => by
    cases o with
    | node a b =>
      simp only [names, List.mem_append] at hx
      rcases hx with hx | hx
      · cases h with
        | name s => simp [hdNm] at hx; subst hx; exact a.1
        | _ => simp [hdNm] at hx
      · exact namess_ok l b x hx
theorem namess_ok : ∀ (l : List T), Oks l → ∀ x ∈ namess l, IsName x
  | [], _, x, hx => by simp [namess] at hx
  | t :: r, o, x, hx => by
    cases o with
    | cons a b =>
      simp only [namess, List.mem_append] at hx
      rcases hx with hx | hx
      · exact names_ok t a x hx
      · exact namess_ok r b x hx
end
theorem lfits_ok {S : List Nat} {k : Nat} {m : Mem} {d : MV} (h : TyV S m d) (hs : ∀ t, d = enc t → Ok t → size t ≤ 900) : MI.W (Tab (k + 31) .l_fits [d] m) (fun v m' => v = .bl true ∧ Kp [] m m') E0 := by
  show MI.W (f_l_fits (Tab (k + 30)) [d] m) _ _
  unfold f_l_fits b_l_fits
  simp [startM]
  refine (lisexpr_ok (k := k) h hs).mono ?_
  rintro v m1 ⟨⟨b, rfl, hb⟩, k1⟩
  cases b with
  | false =>
    have nE : ¬ IsE d := fun z => by have := hb.mpr z; cases this
    simp
    refine (W_badL (fun _ => True) (rngL 0 9) (fun _ _ => trivial) (by simp [wipeM]) (by simp [rngL]) (fun x hx m' km => ?_)).mono ?_
    · obtain ⟨w, hw, rfl⟩ : ∃ w : Nat, w < 9 ∧ x = .int w := by
        obtain ⟨i, hi, rfl⟩ := List.mem_iff_getElem.mp hx
        rw [rngL_length] at hi
        exact ⟨i, hi, by simp [rngL]⟩
      simp [wipeM]
      rw [show k + 30 = (k + 21) + 9 by omega]
      refine (refused_ok (k := k + 21) w hw (TyV.kp (k1.trans km) _ h) nE).mono ?_
      rintro v m2 ⟨rfl, k2⟩
      simp
      exact k2
    · rintro acc m2 ⟨h1, h2, k2⟩
      have e : acc = [] := h1.mpr fun _ _ => trivial
      subst e
      simp
      exact (k1.trans k2).trans Kp.app
  | true =>
    obtain ⟨t, rfl, ok, sz, lv, cv, pc⟩ := isE_iff.mp (hb.mp rfl)
    have fit : Fits 0 0 [] [(t, 1)] := fits_iff.mpr ⟨sz, lv, cv, pc⟩
    simp
    refine (parts_ok 12 t (k + 17) m1 ok lv (by omega)).mono ?_
    rintro d m2 ⟨n, rfl, h1, h2, k2⟩
    have pl : (encs (parts t)).length = size t := by rw [encs_length, parts_len]
    simp [h1]
    have this := places_parts t
    obtain ⟨ns, s1, s2⟩ := fit_sum (parts t) (parts_Ok t ok)
    rw [← this] at s2
    refine W_pure id (isW "call") (by rw [h1]) (fun d hd => ⟨each_w ok _ _ 6 9 (by omega) d hd _ rfl, fun _ => ?_⟩) (by omega) ?_
    · simp [mVar, wipeM]
    simp only [List.map_id]
    have g1 : (m2 ++ [MO.lst ((encs (parts t)).filter (isW "call"))])[n]? = some (.lst (encs (parts t))) := (Kp.push (S := [])).get h1 (by simp)
    simp [g1]
    refine W_pure lnk (isW "compare") (by rw [g1]) (fun d hd => ⟨each_w ok _ _ 6 9 (by omega) d hd _ rfl, fun q => each_l ok _ 6 9 (by omega) d hd q _ rfl⟩) (by omega) ?_
    rw [s1]
    have kk : Kp [] m (m2 ++ [MO.lst ((encs (parts t)).filter (isW "call"))] ++ [MO.lst (ns.map MV.int)]) := (k1.trans k2).trans (Kp.push.trans Kp.push)
    have g2 : (m2 ++ [MO.lst ((encs (parts t)).filter (isW "call"))] ++ [MO.lst (ns.map MV.int)])[n]? = some (.lst (encs (parts t))) := (Kp.push (S := [])).get g1 (by simp)
    rw [ints_map]
    generalize (m2 ++ [MO.lst ((encs (parts t)).filter (isW "call"))] ++ [MO.lst (ns.map MV.int)]) = m3 at kk g2 ⊢
    refine (check_yes (k := k + 26) (S := S) (TyV.kp kk _ h) (hb.mp rfl)).mono ?_
    rintro v m4 ⟨rfl, k4⟩
    simp
    refine (vars_yes (k := k + 15) ok fit).mono ?_
    rintro v m5 ⟨⟨n5, us, rfl, u1, u2, u3, u4⟩, k5⟩
    refine (lnames_ok (k := k + 16) (j := 12) ok lv (by omega)).mono ?_
    rintro v m6 ⟨⟨n6, ws, rfl, w1, w2, w3, w4⟩, k6⟩
    have eqs : sortM us = sortM ws := sortM_eq ((List.perm_ext_iff_of_nodup u2 w2).mpr fun x => by rw [u3, w3])
    have lw : (sortM ws).length = ws.length := (List.mergeSort_perm ws leS).length_eq
    have dw : Das ((sortM ws).map MV.str) := das_names (fun s hs => names_ok t ok s ((w3 s).mp (sortM_mem.mp hs))) (by omega)
    refine W_eqL (k6.get u1 (by simp)) w1 (by rw [eqs]; exact dw) dw fun z hz => ?_
    obtain rfl := hz.mpr (by rw [eqs])
    simp
    refine (size_yes (k := k + 16) ok fit).mono ?_
    rintro v m7 ⟨rfl, k7⟩
    refine (evp_yes (k := k + 15) ok fit).mono ?_
    rintro v m8 ⟨rfl, k8⟩
    refine ⟨szl (by decide), ?_⟩
    refine W_pure id (fun _ => false) (by simp) (fun d hd => ⟨?_, fun q => by cases q⟩) (by simp) ?_
    · simp at hd
      rcases hd with rfl | rfl <;> rfl
    simp
    have k38 : Kp [] m3 (m8 ++ [MO.lst [.int (size t), .int (places t)], MO.lst [], MO.lst []]) := k4.trans (k5.trans (k6.trans (k7.trans (k8.trans Kp.app))))
    have e0 : Das ([] : List MV) := ⟨rfl, by simp [fls], by simp [dps]⟩
    refine W_eqL (l := []) (k := []) (by rw [at_app] <;> rfl) (by rw [show m8.length + 1 + 1 = m8.length + 2 by omega, at_app] <;> rfl) e0 e0 fun z hz => ?_
    obtain rfl := hz.mpr rfl
    refine ⟨by simp, ?_⟩
    rw [k38.get g2 (by simp)]
    simp only [pl]
    refine ⟨szl (by decide), ?_⟩
    have ev : (((encs (parts t)).filter (isW "call")).length : Int) + ns.sum = places t := by rw [s2]
    rw [ev]
    have dI : ∀ a b : Int, Das [.int a, .int b] := fun a b => ⟨by simp [pus, pu], by simp [fls, fl], by simp [dps, MI.dp]⟩
    refine W_eqL (l := [.int (size t), .int (places t)]) (k := [.int (size t), .int (places t)]) (by rw [List.getElem?_append_left (by simp)] <;> simp) List.getElem?_concat_length (dI _ _) (dI _ _) fun z hz => ?_
    obtain rfl := hz.mpr rfl
    refine ⟨by simp, ?_⟩
    refine (eval_yes (k := k + 14) ok fit).mono (fun _ _ q => q.elim) ?_
    rintro x m9 ⟨rfl, k9⟩
    rw [show p_InvalidWorld "InvalidWorld" = some true by decide]
    exact kk.trans (k38.trans (Kp.push.trans (k9.trans Kp.push)))
end K01
namespace K01
open PySem L2 MI
/-! ### how large a value is -/
mutual
def nz : MV → Nat
  | .tup l => 1 + nzs l
  | _ => 0
def nzs : List MV → Nat
  | [] => 0
  | d :: l => nz d + nzs l
end
theorem nzs_zip : ∀ (sg : List Str) (es : List MV), sg.length = es.length → nzs (List.zipWith (fun s x => MV.tup [.str s, x]) sg es) = sg.length + nzs es
  | [], [], _ => rfl
  | [], _ :: _, h => by simp at h
  | _ :: _, [], h => by simp at h
  | s :: sg, e :: es, h => by
    have := nzs_zip sg es (by simpa using h)
    simp only [List.zipWith_cons_cons, nzs, nz, this, List.length_cons]; omega
theorem nz_encH {h : Hd} {es : List MV} (o : HdOk h es.length) : 1 + nzs es ≤ nz (encH h es) ∧ nz (encH h es) ≤ nzs es + 6 := by
  cases h with
  | name s =>
    have : es.length = 0 := o.2
    rw [List.length_eq_zero_iff] at this
    subst this
    simp [encH, nz, nzs]
  | call s => simp [encH, nz, nzs]; omega
  | op w => simp [encH, nz, nzs]; omega
  | cmp sg =>
    obtain ⟨c1, c2, c3, c4⟩ := (show sg.length + 1 = es.length ∧ 1 ≤ sg.length ∧ sg.length ≤ 4 ∧ ∀ s ∈ sg, s ∈ (["<", "<=", ">", ">=", "==", "!="] : List Str) from o)
    cases es with
    | nil => simp at c1
    | cons a es =>
      have ce : sg.length = es.length := by simpa using c1
      have := nzs_zip sg es ce
      simp only [encH, List.headD_cons, List.tail_cons, nz, nzs, this]
      omega
mutual
theorem size_nz : ∀ (t : T), Ok t → size t ≤ nz (enc t) ∧ nz (enc t) ≤ 7 * size t
  | .node h l, o => by
    obtain ⟨o1, o2⟩ := o.hd
    obtain ⟨a, b⟩ := sizes_nz l o2
    obtain ⟨c, d⟩ := nz_encH o1
    rw [enc_node]
    simp only [size]
    omega
theorem sizes_nz : ∀ (l : List T), Oks l → sizes l ≤ nzs (encs l) ∧ nzs (encs l) ≤ 7 * sizes l
  | [], _ => ⟨Nat.le_refl _, Nat.le_refl _⟩
  | t :: r, o => by
    cases o with
    | cons o1 o2 =>
      obtain ⟨a, b⟩ := size_nz t o1
      obtain ⟨c, d⟩ := sizes_nz r o2
      simp only [sizes, encs, nzs]
      omega
end
theorem small_nz {d : MV} (h : nz d ≤ 900) : ∀ t, d = enc t → Ok t → size t ≤ 900 := by
  rintro t rfl o
  have := (size_nz t o).1
  omega
/-! ### written values -/
mutual
def tyB : MV → Bool
  | .tup l => tyBs l && decide (l.length ≤ 100) && (match l with
    | [.str w, _, .tup ls] => !decide (w = "compare") || ls.all fun d => match d with
      | .tup [.str _, _] => true
      | .tup [_, _] => false
      | _ => true
    | _ => true)
  | .str s => decide (s.length ≤ 100)
  | .int _ => true
  | .bl _ => true
  | .non => true
  | _ => false
def tyBs : List MV → Bool
  | [] => true
  | d :: l => tyB d && tyBs l
end
mutual
theorem tyB_ok {S : List Nat} {m : Mem} : ∀ (d : MV), tyB d = true → TyV S m d
  | .tup l, h => by
    simp only [tyB, Bool.and_eq_true, decide_eq_true_eq] at h
    obtain ⟨⟨h1, h2⟩, h3⟩ := h
    refine ty_t (fun d hd => (tyBs_ok l h1).mem hd) h2 fun a ls x y e hx => ?_
    subst e
    simp only [decide_true, Bool.not_true, Bool.false_or, List.all_eq_true] at h3
    have := h3 _ hx
    cases x with
    | str s => exact .inl ⟨s, rfl⟩
    | _ => simp at this
  | .str s, h => by simp only [tyB, decide_eq_true_eq] at h; exact ty_s h
  | .int _, _ => by unfold TyV; trivial
  | .bl _, _ => by unfold TyV; trivial
  | .non, _ => by unfold TyV; trivial
  | .ref _, h => by simp [tyB] at h
  | .kl _, h => by simp [tyB] at h
theorem tyBs_ok {S : List Nat} {m : Mem} : ∀ (l : List MV), tyBs l = true → TyVs S m l
  | [], _ => by unfold TyVs; trivial
  | x :: r, h => by
    simp only [tyBs, Bool.and_eq_true] at h
    unfold TyVs
    exact ⟨tyB_ok x h.1, tyBs_ok r h.2⟩
end
/-- a value that may be asked -/
structure G (S : List Nat) (m : Mem) (N : Nat) (d : MV) : Prop where
  ty : TyV S m d
  nz : K01.nz d ≤ N
  ne : d ≠ .str "compare"
theorem G.kp {S : List Nat} {m m' : Mem} {N : Nat} {d : MV} (g : G S m N d) (k : Kp [] m m') : G S m' N d := ⟨TyV.kp k _ g.ty, g.nz, g.ne⟩
def okB (N : Nat) (d : MV) : Bool := tyB d && decide (nz d ≤ N) && (match d with | .str w => !decide (w = "compare") | _ => true)
theorem okB_G {S : List Nat} {m : Mem} {N : Nat} {d : MV} (h : okB N d = true) : G S m N d := by
  simp only [okB, Bool.and_eq_true, decide_eq_true_eq] at h
  refine ⟨tyB_ok d h.1.1, h.1.2, ?_⟩
  rintro rfl
  simp at h
theorem ty_r {S : List Nat} {m : Mem} {n : Nat} {l : List MV} (hn : n ∉ S) (h : m[n]? = some (.lst l)) (d : Das l) : TyV S m (.ref n) := by unfold TyV; exact ⟨hn, .inl ⟨l, h, d⟩⟩
theorem ty_d {S : List Nat} {m : Mem} {n : Nat} {l : List (Key × MV)} (hn : n ∉ S) (h : m[n]? = some (.dct l)) : TyV S m (.ref n) := by unfold TyV; exact ⟨hn, .inr ⟨l, h⟩⟩
structure AllG (S : List Nat) (m : Mem) (N : Nat) (l : List MV) : Prop where
  h : ∀ d ∈ l, G S m N d
theorem AllG.nil {S : List Nat} {m : Mem} {N : Nat} : AllG S m N [] := ⟨by simp⟩
theorem AllG.cons {S : List Nat} {m : Mem} {N : Nat} {d : MV} {l : List MV} (a : G S m N d) (b : AllG S m N l) : AllG S m N (d :: l) := ⟨fun x hx => by
  rcases List.mem_cons.mp hx with rfl | hx
  · exact a
  · exact b.h x hx⟩
theorem G.mono {S : List Nat} {m : Mem} {N N' : Nat} {d : MV} (g : G S m N d) (h : N ≤ N') : G S m N' d := ⟨g.ty, Nat.le_trans g.nz h, g.ne⟩
theorem allG30 {S : List Nat} {m : Mem} {N : Nat} {l : List MV} (hN : 30 ≤ N) (h : l.all (okB 30) = true) : AllG S m N l := ⟨fun d hd => (okB_G (List.all_eq_true.mp h d hd)).mono hN⟩
theorem g30 {S : List Nat} {m : Mem} {N : Nat} {d : MV} (hN : 30 ≤ N) (h : okB 30 d = true) : G S m N d := (okB_G h).mono hN
/-- the list at slot 3 -/
structure OdI (S : List Nat) (m0 : Mem) (N ln : Nat) (a b c : Option MV) (ρ : MI.Env) (m : Mem) : Prop where
  ex : ∃ (nf : Nat) (l : List MV), ρ = [a, b, c, some (.ref nf)] ∧ m[nf]? = some (.lst l) ∧ (∃ mb, (∀ d ∈ l, G S mb N d) ∧ Kp [] mb m ∧ mb.length ≤ nf) ∧ l.length ≤ ln ∧ l ≠ [] ∧ m0.length ≤ nf
  kp : Kp [] m0 m
theorem od_step {S : List Nat} {m0 : Mem} {N ln : Nat} {a b c : Option MV} {A : MA} {rest : MS} {ρ : MI.Env} {m : Mem} {Q : Fl → Mem → Prop} {E : Exn → Mem → Prop} (h : OdI S m0 N ln a b c ρ m) (hln : ln ≤ 400)
    (hA : ∀ nf : Nat, MI.W (A [a, b, c, some (.ref nf)] m) (fun ds m1 => ds.length ≤ 20 ∧ AllG S m1 N ds ∧ Kp [] m m1) E0)
    (hr : ∀ ρ' m', OdI S m0 N (ln + 20) a b c ρ' m' → MI.W (rest ρ' m') Q E) :
    MI.W (mSeq (mAsg (mBin gAdd (mVar 3) (mLst A)) (nName 3)) rest ρ m) Q E := by
  obtain ⟨⟨nf, l, rfl, h1, h2, h3, h4, h5⟩, k⟩ := h
  simp only [W_seq, W_asg, W_bin, W_vr, W_lst]
  show MI.W (A _ m) _ _
  refine (hA nf).mono ?_
  rintro ds m1 ⟨g1, g2, g3⟩
  refine ⟨szl (by omega), ?_⟩
  refine (W_add_l (xs := l) (ys := ds) ((g3.trans Kp.push).get h1 (by simp)) List.getElem?_concat_length).mpr ⟨szl (by omega), ?_⟩
  show MI.W (rest _ _) Q E
  have kk : Kp [] m (m1 ++ [MO.lst ds] ++ [MO.lst (l ++ ds)]) := g3.trans (Kp.push.trans Kp.push)
  obtain ⟨mb, b1, b2, b3⟩ := h2
  refine hr _ _ ⟨⟨_, l ++ ds, rfl, List.getElem?_concat_length, ⟨m1 ++ [MO.lst ds], fun d hd => ?_, Kp.push, Nat.le_refl _⟩, by simp; omega, by simp [h4], by have := g3.1; have := k.1; simp; omega⟩, k.trans kk⟩
  rcases List.mem_append.mp hd with hd | hd
  · exact (b1 d hd).kp (b2.trans (g3.trans Kp.push))
  · exact (g2.h d hd).kp Kp.push
end K01
namespace K01
open PySem L2 MI
/-! ### expressions are data -/
theorem sign_strOk : ∀ s ∈ (["<", "<=", ">", ">=", "==", "!="] : List Str), PyData.strOk s = true := by decide +kernel
theorem op_strOk {w : Str} {n : Nat} (h : k_LENGTHS.lookup w = some (.int (n + 1))) : PyData.strOk w = true := by
  have c : (w, MV.int (n + 1)) ∈ k_LENGTHS := lookup_mem h
  simp [k_LENGTHS] at c
  rcases c with ⟨rfl, c⟩ | ⟨rfl, c⟩ | ⟨rfl, c⟩ | ⟨rfl, c⟩ | ⟨rfl, c⟩ | ⟨rfl, c⟩ | ⟨rfl, c⟩ | ⟨rfl, c⟩ | ⟨rfl, c⟩ <;> decide +kernel
def sm : List MV → Nat
  | [] => 0
  | d :: l => 1 + fl d + sm l
theorem fls_sm : ∀ l : List MV, fls l ≤ sm l
  | [] => Nat.le_refl _
  | d :: l => by have := fls_sm l; simp only [fls, sm]; omega
theorem zip_meas : ∀ (sg : List Str) (es : List MV), sg.length = es.length → (∀ s ∈ sg, PyData.strOk s = true) → pus es = true →
    pus (List.zipWith (fun s x => MV.tup [.str s, x]) sg es) = true ∧ sm (List.zipWith (fun s x => MV.tup [.str s, x]) sg es) ≤ 3 * sg.length + sm es ∧ dps (List.zipWith (fun s x => MV.tup [.str s, x]) sg es) ≤ 1 + dps es
  | [], [], _, _, _ => ⟨rfl, Nat.le_refl _, by simp [dps]⟩
  | [], _ :: _, h, _, _ => by simp at h
  | _ :: _, [], h, _, _ => by simp at h
  | s :: sg, e :: es, h, hs, hp => by
    simp [pus] at hp
    obtain ⟨a, b, c⟩ := zip_meas sg es (by simpa using h) (fun x hx => hs x (List.mem_cons_of_mem _ hx)) hp.2
    have s1 := hs s List.mem_cons_self
    refine ⟨by simp [pus, pu, s1, hp.1, a], ?_, ?_⟩
    · simp only [List.zipWith_cons_cons, sm, List.length_cons, fl, fls]; omega
    · simp only [List.zipWith_cons_cons, dps, MI.dp]; omega
mutual
theorem enc_meas : ∀ (t : T), Ok t → pu (enc t) = true ∧ fl (enc t) + 1 ≤ 18 * size t ∧ MI.dp (enc t) ≤ 3 * levels t
  | .node h l, ok => by
    obtain ⟨o1, o2⟩ := ok.hd
    obtain ⟨a, b, c⟩ := encs_meas l o2
    have f := fls_sm (encs l)
    rw [enc_node]
    cases h with
    | name s =>
      refine ⟨by simp [encH, pu, pus, name_strOk o1.1, show PyData.strOk "name" = true by decide +kernel], ?_, ?_⟩
      · simp [encH, fl, fls, size]; omega
      · simp [encH, MI.dp, dps, levels]; omega
    | call s =>
      refine ⟨by simp [encH, pu, pus, name_strOk o1.1, show PyData.strOk "call" = true by decide +kernel, a], ?_, ?_⟩
      · simp [encH, fl, fls, size]; omega
      · simp [encH, MI.dp, dps, levels]; omega
    | op w =>
      refine ⟨by simp [encH, pu, pus, op_strOk o1, a], ?_, ?_⟩
      · simp [encH, fl, fls, size]; omega
      · simp [encH, MI.dp, dps, levels]; omega
    | cmp sg =>
      obtain ⟨c1, c2, c3, c4⟩ := (show sg.length + 1 = (encs l).length ∧ 1 ≤ sg.length ∧ sg.length ≤ 4 ∧ ∀ s ∈ sg, s ∈ (["<", "<=", ">", ">=", "==", "!="] : List Str) from o1)
      cases hE : encs l with
      | nil => rw [hE] at c1; simp at c1
      | cons x es =>
        rw [hE] at a b c c1
        simp [pus] at a
        simp only [sm] at b
        simp only [dps] at c
        obtain ⟨z1, z2, z3⟩ := zip_meas sg es (by simpa using c1) (fun s hs => sign_strOk s (c4 s hs)) a.2
        have zf := fls_sm (List.zipWith (fun s x => MV.tup [.str s, x]) sg es)
        refine ⟨by simp [encH, pu, pus, show PyData.strOk "compare" = true by decide +kernel, a.1, z1], ?_, ?_⟩
        · simp only [encH, List.headD_cons, List.tail_cons, fl, fls, size]; omega
        · simp only [encH, List.headD_cons, List.tail_cons, MI.dp, dps, levels]; omega
theorem encs_meas : ∀ (l : List T), Oks l → pus (encs l) = true ∧ sm (encs l) ≤ 18 * sizes l ∧ dps (encs l) ≤ 3 * levelss l
  | [], _ => ⟨rfl, Nat.le_refl _, Nat.le_refl _⟩
  | t :: r, o => by
    cases o with
    | cons o1 o2 =>
      obtain ⟨a, b, c⟩ := enc_meas t o1
      obtain ⟨a', b', c'⟩ := encs_meas r o2
      refine ⟨by simp [encs, pus, a, a'], ?_, ?_⟩
      · simp only [encs, sm, sizes]; omega
      · simp only [encs, dps, levelss]; omega
end
theorem enc_da {t : T} (ok : Ok t) (hs : size t ≤ 100) (hl : levels t ≤ 20) : Da (enc t) := by
  obtain ⟨a, b, c⟩ := enc_meas t ok
  exact ⟨a, by omega, by omega⟩

theorem enc_tup4 {t : T} (ok : Ok t) : ∃ l, enc t = .tup l ∧ l.length ≤ 6 ∧ l ≠ [] ∧ ∀ r, l = .str "compare" :: r → r.length = 2 := by
  cases t with
  | node h l =>
    obtain ⟨o1, o2⟩ := ok.hd
    have l5 := hd_len o1
    rw [enc_node]
    cases h with
    | name s => exact ⟨_, rfl, by simp, by simp, fun r e => by simp at e; exact absurd e.1 (by decide)⟩
    | call s => exact ⟨_, rfl, by simp, by simp, fun r e => by simp at e; exact absurd e.1 (by decide)⟩
    | cmp sg => exact ⟨_, rfl, by simp, by simp, fun r e => by simp at e; rw [← e]; rfl⟩
    | op w => exact ⟨_, rfl, by simp; omega, by simp, fun r e => by simp at e; exact absurd e.1 (op_word o1).2.2.1⟩
theorem nzs_take : ∀ (l : List MV) (n : Nat), nzs (l.take n) ≤ nzs l
  | [], n => by simp [nzs]
  | d :: r, 0 => by simp [nzs]
  | d :: r, n + 1 => by have := nzs_take r n; simp [nzs]; omega
theorem nzs_drop : ∀ (l : List MV) (n : Nat), nzs (l.drop n) ≤ nzs l
  | [], n => by simp [nzs]
  | d :: r, 0 => by simp
  | d :: r, n + 1 => by have := nzs_drop r n; simp [nzs]; omega
theorem nzs_app : ∀ (a b : List MV), nzs (a ++ b) = nzs a + nzs b
  | [], b => by simp [nzs]
  | d :: r, b => by simp [nzs, nzs_app r b, Nat.add_assoc]
theorem nzs_cut (l : List MV) (lo hi : Option Int) : nzs (cutM l lo hi) ≤ nzs l := Nat.le_trans (nzs_take _ _) (nzs_drop _ _)
theorem mem_cut {l : List MV} {lo hi : Option Int} {d : MV} (h : d ∈ cutM l lo hi) : d ∈ l := List.mem_of_mem_drop (List.mem_of_mem_take h)
theorem len_cut {l : List MV} {lo hi : Option Int} : (cutM l lo hi).length ≤ l.length := by unfold cutM; simp; omega
theorem cut_last {l : List MV} (h : l ≠ []) : cutM l none (some (-1)) = l.take (l.length - 1) := by
  have : 0 < l.length := List.length_pos_iff.mpr h
  unfold cutM HT.sIx
  simp
  congr 1
  omega
end K01
namespace K01
open PySem L2 MI
noncomputable def oddT (ck : Fnm → MF) : MS :=    (mSeq (mAsg (mBin gAdd (mVar 3) (mLst (mCons (mTup (mCons (mC (.str "none")) (mCons (mC (.int 1)) mNil))) (mCons (mTup (mCons (mC (.str "name")) (mCons (mC (.str "if")) mNil))) (mCons (mTup (mCons (mC (.str "name")) (mCons (mC (.str "keep")) mNil))) (mCons (mTup (mCons (mC (.str "name")) (mCons (mC (.str "x1")) mNil))) (mCons (mTup (mCons (mC (.str "name")) (mCons (mC .non) mNil))) (mCons (mTup (mCons (mC (.str "name")) (mCons (mLst (mCons (mC (.str "a")) mNil)) mNil))) mNil)))))))) (nName 3))
    (mSeq (mAsg (mBin gAdd (mVar 3) (mLst (mCons (mLst (mCons (mC (.str "none")) mNil)) (mCons (mTup (mCons (mC (.str "None")) mNil)) (mCons (mTup (mCons (mC (.str "not")) mNil)) (mCons (mTup (mCons (mC (.str "not")) (mCons (mVar 2) (mCons (mVar 2) mNil)))) (mCons (mTup (mCons (mC (.str "and")) (mCons (mVar 2) mNil))) (mCons (mTup (mCons (mC (.str "or")) (mCons (mVar 2) (mCons (mVar 2) (mCons (mVar 2) mNil))))) mNil)))))))) (nName 3))
    (mSeq (mAsg (mBin gAdd (mVar 3) (mLst (mCons (mTup (mCons (mC (.str "if")) (mCons (mVar 2) (mCons (mVar 2) mNil)))) (mCons (mTup (mCons (mC (.str "xor")) (mCons (mVar 2) mNil))) (mCons (mTup (mCons (mC (.str "call")) (mCons (mC (.str "f")) mNil))) (mCons (mTup (mCons (mC (.str "call")) (mCons (mC (.str "f")) (mCons (mLst (mCons (mVar 2) mNil)) mNil)))) (mCons (mTup (mCons (mC (.str "call")) (mCons (mC (.str "f")) (mCons (mVar 2) mNil)))) mNil))))))) (nName 3))
    (mSeq (mAsg (mBin gAdd (mVar 3) (mLst (mCons (mTup (mCons (mC (.str "call")) (mCons (mC (.str "f")) (mCons (mBin gMul (mTup (mCons (mVar 2) mNil)) (mC (.int 4))) mNil)))) (mCons (mTup (mCons (mC (.str "call")) (mCons (mC (.str "F")) (mCons (mTup mNil) mNil)))) (mCons (mTup (mCons (mC (.str "compare")) (mCons (mVar 2) (mCons (mTup mNil) mNil)))) (mCons (mTup (mCons (mC .non) (mCons (mVar 2) mNil))) (mCons mDNew mNil))))))) (nName 3))
    (mSeq (mAsg (mBin gAdd (mVar 3) (mLst (mCons (mTup (mCons (mC (.str "compare")) (mCons (mVar 2) (mCons (mLst (mCons (mTup (mCons (mC (.str "<")) (mCons (mVar 2) mNil))) mNil)) mNil)))) (mCons (mTup (mCons (mC (.str "compare")) (mCons (mVar 2) (mCons (mTup (mCons (mTup (mCons (mC (.str "=")) (mCons (mVar 2) mNil))) mNil)) mNil)))) (mCons (mTup (mCons (mLst (mCons (mC (.str "name")) mNil)) (mCons (mC (.str "a")) mNil))) (mCons (mTup (mCons (mC (.int 0)) (mCons (mVar 2) mNil))) mNil)))))) (nName 3))
    (mSeq (mAsg (mBin gAdd (mVar 3) (mLst (mCons (mTup (mCons (mC (.str "compare")) (mCons (mVar 2) (mCons (mBin gMul (mTup (mCons (mTup (mCons (mC (.str "<")) (mCons (mVar 2) mNil))) mNil)) (mC (.int 5))) mNil)))) (mCons (mTup (mCons (mC (.str "compare")) (mCons (mVar 2) (mCons (mTup (mCons (mTup (mCons (mC (.str "<")) (mCons (mVar 2) (mCons (mVar 2) mNil)))) mNil)) mNil)))) mNil)))) (nName 3))
    (mSeq (mAsg (mBin gAdd (mVar 3) (mLst (mCons (mTup (mCons (mC (.str "compare")) (mCons (mVar 2) (mCons (mTup (mCons (mC (.str "<")) (mCons (mVar 2) mNil))) mNil)))) (mCons (mTup (mCons (mC (.str "compare")) (mCons (mVar 2) (mCons (mTup (mCons (mTup (mCons (mLst (mCons (mC (.str "<")) mNil)) (mCons (mVar 2) mNil))) mNil)) mNil)))) (mCons (mTup (mCons (mC (.str "call")) (mCons (mLst (mCons (mC (.str "f")) mNil)) (mCons (mTup mNil) mNil)))) mNil))))) (nName 3))
    (mSeq (mAsg (mBin gAdd (mVar 3) (mLst (mCons (mTup (mCons (mC (.str "compare")) (mCons (mVar 2) (mCons (mTup (mCons (mLst (mCons (mC (.str "<")) (mCons (mVar 2) mNil))) mNil)) mNil)))) (mCons (mTup (mCons (mC (.str "compare")) (mCons (mVar 2) (mCons (mTup (mCons (mTup (mCons (mC (.str "<")) mNil)) mNil)) mNil)))) (mCons (mLst (mCons (mC (.str "not")) (mCons (mVar 2) mNil))) mNil))))) (nName 3))
    (mSeq (mDrop (mBM gAppend (mVar 3) (mCons (mTup (mCons (mC (.str "compare")) (mCons (mVar 2) (mCons (mTup (mCons (mTup mNil) mNil)) mNil)))) mNil)))
    (mSeq (mAsg (mBin gAdd (mVar 3) (mLst (mCons (mCall gListA (mCons (mVar 1) mNil)) (mCons (mBin gAdd (mVar 1) (mTup (mCons (mVar 2) mNil))) (mCons (mSl (mVar 1) mNo (mEnd (mNeg (mC (.int 1))))) (mCons (mVar 1) (mCons (mTup (mCons (mC (.str "not")) (mCons (mVar 1) mNil))) (mCons (mTup (mCons (mC (.str "name")) (mCons (mC (.str "ab")) mNil))) (mCons (mTup (mCons (mC (.str "name")) (mCons (mC (.str "abcdefgh")) mNil))) mNil))))))))) (nName 3))
    (mRet (mCall (ck .l_pick) (mCons (mVar 0) (mCons (mVar 3) mNil))))))))))))))
theorem b_odd (ck : Fnm → MF) : b_l_odd ck = mSeq (mAsg (mTup (mCons (mC (.str "name")) (mCons (mC (.str "a")) mNil))) (nName 2)) (mSeq (mAsg (mLst (mCons (mC .non) (mCons (mC (.bl true)) (mCons (mC (.int 7)) (mCons (mC (.str "a")) (mCons (mC (.str "none")) (mCons (mLst mNil) (mCons (mTup mNil) (mCons (mTup (mCons (mC (.str "name")) mNil)) (mCons (mTup (mCons (mC (.str "name")) (mCons (mC (.str "")) mNil))) (mCons (mTup (mCons (mC (.str "name")) (mCons (mC (.str "A")) mNil))) (mCons (mTup (mCons (mC (.str "name")) (mCons (mC (.str "abcdefghi")) mNil))) mNil)))))))))))) (nName 3)) (oddT ck)) := rfl
theorem HeadOk.kpS {S : List Nat} {m m' : Mem} {x : MV} (h : HeadOk m x) (t : TyV S m x) (k : Kp S m m') : HeadOk m' x := by
  rcases h with h | ⟨n, l, rfl, h2, h3⟩
  · exact .inl h
  · unfold TyV at t
    exact .inr ⟨n, l, rfl, k.get h2 t.1, h3⟩
mutual
theorem TyV.kpS {S : List Nat} {m m' : Mem} (k : Kp S m m') : ∀ (d : MV), TyV S m d → TyV S m' d
  | .tup l, h => by
    have h0 := h
    unfold TyV at h ⊢
    refine ⟨TyVs.kpS k l h.1, h.2.1, fun a ls x y e hx => (h.2.2 a ls x y e hx).kpS (S := S) ?_ k⟩
    have h1 : TyV S m (.tup ls) := h0.items.1 _ (by rw [e]; simp)
    exact (h1.items.1 _ hx).items.1 _ (by simp)
  | .str s, h => by unfold TyV at h ⊢; exact h
  | .ref n, h => by
    unfold TyV at h ⊢
    refine ⟨h.1, ?_⟩
    rcases h.2 with ⟨l, a, b⟩ | ⟨l, a⟩
    · exact .inl ⟨l, k.get a h.1, b⟩
    · exact .inr ⟨l, k.get a h.1⟩
  | .int _, _ => by unfold TyV; trivial
  | .bl _, _ => by unfold TyV; trivial
  | .non, _ => by unfold TyV; trivial
  | .kl _, h => by unfold TyV at h; exact h.elim
theorem TyVs.kpS {S : List Nat} {m m' : Mem} (k : Kp S m m') : ∀ (l : List MV), TyVs S m l → TyVs S m' l
  | [], _ => by unfold TyVs; trivial
  | x :: r, h => by
    unfold TyVs at h ⊢
    exact ⟨TyV.kpS k x h.1, TyVs.kpS k r h.2⟩
end
theorem G.kpS {S : List Nat} {m m' : Mem} {N : Nat} {d : MV} (g : G S m N d) (k : Kp S m m') : G S m' N d := ⟨TyV.kpS k _ g.ty, g.nz, g.ne⟩
theorem take_len {l : List MV} {r : List MV} {n : Nat} (h : l.take n = .str "compare" :: r) : ∃ r', l = .str "compare" :: r' := by
  cases l with
  | nil => simp at h
  | cons a b =>
    cases n with
    | zero => simp at h
    | succ n => simp at h; rw [h.1]; exact ⟨b, rfl⟩
theorem tys_nil {S : List Nat} {m : Mem} : TyVs S m [] := by unfold TyVs; trivial
theorem tys_cons {S : List Nat} {m : Mem} {d : MV} {l : List MV} (a : TyV S m d) (b : TyVs S m l) : TyVs S m (d :: l) := by unfold TyVs; exact ⟨a, b⟩
theorem tyT {S : List Nat} {m : Mem} {l : List MV} (h : TyVs S m l) (hl : l.length ≤ 100) (hh : ∀ a ls x y, l = [.str "compare", a, .tup ls] → .tup [x, y] ∈ ls → HeadOk m x) : TyV S m (.tup l) := ty_t (fun _ hd => h.mem hd) hl hh
theorem tyP {S : List Nat} {m : Mem} {l : List MV} (h : TyVs S m l) (hl : l.length ≤ 100) (hn : ∀ a ls, l ≠ [.str "compare", a, .tup ls]) : TyV S m (.tup l) := ty_p (fun _ hd => h.mem hd) hl hn
theorem gT {S : List Nat} {m : Mem} {N : Nat} {l : List MV} (h : TyV S m (.tup l)) (hz : nz (.tup l) ≤ N) : G S m N (.tup l) := ⟨h, hz, fun e => by cases e⟩
theorem gR {S : List Nat} {m : Mem} {N n : Nat} (h : TyV S m (.ref n)) : G S m N (.ref n) := ⟨h, Nat.zero_le _, fun e => by cases e⟩
theorem tB {S : List Nat} {m : Mem} {d : MV} (h : tyB d = true) : TyV S m d := tyB_ok d h
theorem dS {l : List MV} (h : (pus l && decide (fls l ≤ 1900) && decide (dps l ≤ 60)) = true) : Das l := by
  simp only [Bool.and_eq_true, decide_eq_true_eq] at h
  exact ⟨h.1.1, h.1.2, h.2⟩
theorem no_mem {s c n : Nat} (h1 : s < n) (h2 : c < n) : n ∉ [s, c] := by simp; omega
theorem odd_ok {t : T} {k s c : Nat} {m : Mem} {t0 : Int} (a : Src m s c t0) (ok : Ok t) (hs : size t ≤ 40) (hl : levels t ≤ 12) (ht : t0 < 2 ^ 58) : MI.W (Tab (k + 3) .l_odd [.ref s, enc t] m) (fun d m' => G [s, c] m' (nz (enc t) + 30) d ∧ Src m' s c (t0 + 1) ∧ Kp [s, c] m m') E0 := by
  show MI.W (f_l_odd (Tab (k + 2)) [.ref s, enc t] m) _ _
  unfold f_l_odd
  rw [b_odd]
  have s1 : 1 ≤ sizeLine := szl (by decide)
  have s2 : 2 ≤ sizeLine := szl (by decide)
  have s3 : 3 ≤ sizeLine := szl (by decide)
  have s4 : 4 ≤ sizeLine := szl (by decide)
  have s5 : 5 ≤ sizeLine := szl (by decide)
  have sl : s < m.length ∧ c < m.length := by
    obtain ⟨_, _, h1, h2⟩ := a.ex
    exact ⟨(List.getElem?_eq_some_iff.mp h1).1, (List.getElem?_eq_some_iff.mp h2).1⟩
  have hN : 30 ≤ nz (enc t) + 30 := by omega
  have hNp : nz (enc t) + 3 ≤ nz (enc t) + 30 := by omega
  generalize hNe : nz (enc t) + 30 = N at hN hNp
  have nm : ∀ n, m.length ≤ n → n ∉ [s, c] := fun n hn => no_mem (by omega) (by omega)
  simp [startM, s1, s2]
  refine ⟨szl (by decide), ?_⟩
  have main : ∀ ρ0 m0, OdI [s, c] m N 11 (some (.ref s)) (some (enc t)) (some (.tup [.str "name", .str "a"])) ρ0 m0 → MI.W (oddT (Tab (k + 2)) ρ0 m0) (fin (fun d m' => G [s, c] m' N d ∧ Src m' s c (t0 + 1) ∧ Kp [s, c] m m') E0) E0 := by
    intro ρ0 m0 i0
    unfold oddT
    refine od_step i0 (by omega) (fun nf => ?_) fun ρ1 m1 i1 => ?_
    · have l0 := i0.kp.1
      simp [s1, s2, s3, s4]
      exact ⟨.cons (g30 hN (by decide +kernel)) (.cons (g30 hN (by decide +kernel)) (.cons (g30 hN (by decide +kernel)) (.cons (g30 hN (by decide +kernel)) (.cons (g30 hN (by decide +kernel))
        (.cons (gT (tyP (tys_cons (tB (by decide +kernel)) (tys_cons (ty_r (nm _ l0) (l := [.str "a"]) (by simp) (dS (by decide +kernel))) tys_nil)) (by simp) (by simp)) (by simp [nz, nzs]; omega)) .nil))))), Kp.push⟩
    refine od_step i1 (by omega) (fun nf => ?_) fun ρ2 m2 i2 => ?_
    · have l0 := i1.kp.1
      simp [s1, s2, s3, s4]
      exact ⟨.cons (gR (ty_r (nm _ l0) (l := [.str "none"]) (by simp) (dS (by decide +kernel)))) (allG30 hN (by decide +kernel)), Kp.push⟩
    refine od_step i2 (by omega) (fun nf => ?_) fun ρ3 m3 i3 => ?_
    · have l0 := i2.kp.1
      simp [s1, s2, s3, s4]
      exact ⟨.cons (g30 hN (by decide +kernel)) (.cons (g30 hN (by decide +kernel)) (.cons (g30 hN (by decide +kernel))
        (.cons (gT (tyP (tys_cons (tB (by decide +kernel)) (tys_cons (tB (by decide +kernel)) (tys_cons (ty_r (nm _ l0) (l := [.tup [.str "name", .str "a"]]) (by simp) (dS (by decide +kernel))) tys_nil))) (by simp) (by simp)) (by simp [nz, nzs]; omega)) (allG30 hN (by decide +kernel))))), Kp.push⟩
    refine od_step i3 (by omega) (fun nf => ?_) fun ρ4 m4 i4 => ?_
    · have l0 := i3.kp.1
      simp [s1, s2, s3, s4]
      exact ⟨.cons (g30 hN (by decide +kernel)) (.cons (g30 hN (by decide +kernel)) (.cons (g30 hN (by decide +kernel)) (.cons (g30 hN (by decide +kernel))
        (.cons (gR (ty_d (nm _ l0) (l := []) (by simp))) .nil)))), Kp.push⟩
    refine od_step i4 (by omega) (fun nf => ?_) fun ρ5 m5 i5 => ?_
    · have l0 := i4.kp.1
      simp [s1, s2, s3, s4]
      exact ⟨.cons (gT (tyP (tys_cons (tB (by decide +kernel)) (tys_cons (tB (by decide +kernel)) (tys_cons (ty_r (nm _ l0) (l := [.tup [.str "<", .tup [.str "name", .str "a"]]]) (by simp) (dS (by decide +kernel))) tys_nil))) (by simp) (by simp)) (by simp [nz, nzs]; omega))
        (.cons (g30 hN (by decide +kernel)) (.cons (gT (tyP (tys_cons (ty_r (nm _ (by omega)) (l := [.str "name"]) (by simp) (dS (by decide +kernel))) (tys_cons (tB (by decide +kernel)) tys_nil)) (by simp) (by simp)) (by simp [nz, nzs]; omega)) (allG30 hN (by decide +kernel)))), Kp.app⟩
    refine od_step i5 (by omega) (fun nf => ?_) fun ρ6 m6 i6 => ?_
    · simp [s1, s2, s3, s4]
      exact ⟨allG30 hN (by decide +kernel), Kp.refl⟩
    refine od_step i6 (by omega) (fun nf => ?_) fun ρ7 m7 i7 => ?_
    · have l0 := i6.kp.1
      simp [s1, s2, s3, s4]
      exact ⟨.cons (g30 hN (by decide +kernel)) (.cons (gT (tyT (tys_cons (tB (by decide +kernel)) (tys_cons (tB (by decide +kernel)) (tys_cons (tyP (tys_cons (tyP (tys_cons (ty_r (nm _ l0) (l := [.str "<"]) (by simp) (dS (by decide +kernel))) (tys_cons (tB (by decide +kernel)) tys_nil)) (by simp) (by simp)) tys_nil) (by simp) (by simp)) tys_nil))) (by simp) (fun a ls x y e hx => by
          simp at e
          obtain ⟨_, rfl⟩ := e
          simp at hx
          obtain ⟨rfl, _⟩ := hx
          exact .inr ⟨_, [.str "<"], rfl, by simp, dS (by decide +kernel)⟩)) (by simp [nz, nzs]; omega))
        (.cons (gT (tyP (tys_cons (tB (by decide +kernel)) (tys_cons (ty_r (nm _ (by omega)) (l := [.str "f"]) (by simp) (dS (by decide +kernel))) (tys_cons (tB (by decide +kernel)) tys_nil))) (by simp) (fun a ls e => by simp at e; exact absurd e.1 (by decide))) (by simp [nz, nzs]; omega)) .nil)), Kp.app⟩
    refine od_step i7 (by omega) (fun nf => ?_) fun ρ8 m8 i8 => ?_
    · have l0 := i7.kp.1
      simp [s1, s2, s3, s4]
      exact ⟨.cons (gT (tyT (tys_cons (tB (by decide +kernel)) (tys_cons (tB (by decide +kernel)) (tys_cons (tyP (tys_cons (ty_r (nm _ l0) (l := [.str "<", .tup [.str "name", .str "a"]]) (by simp) (dS (by decide +kernel))) tys_nil) (by simp) (by simp)) tys_nil))) (by simp) (fun a ls x y e hx => by
          simp at e
          obtain ⟨_, rfl⟩ := e
          simp at hx)) (by simp [nz, nzs]; omega))
        (.cons (g30 hN (by decide +kernel)) (.cons (gR (ty_r (nm _ (by omega)) (l := [.str "not", .tup [.str "name", .str "a"]]) (by simp) (dS (by decide +kernel)))) .nil)), Kp.app⟩
    -- the row that appends
    obtain ⟨⟨nf, l, rfl, j1, ⟨mb, b1, b2, b3⟩, j3, j4, j5⟩, kj⟩ := i8
    rw [W_seq]
    simp [s1, s3, j1]
    refine ⟨Nat.lt_of_lt_of_le (m := 1000) (by omega) (szl (by decide)), ?_⟩
    obtain ⟨lt, et, lt6, ltn, ltc⟩ := enc_tup4 ok
    have dt := enc_da ok (by omega) (by omega)
    have tyt : ∀ m9, TyV [s, c] m9 (enc t) := fun m9 => enc_TyV t ok
    have km8 := kj.1
    generalize hm9 : m8.set nf (.lst (l ++ [.tup [.str "compare", .tup [.str "name", .str "a"], .tup [.tup []]]])) = m9
    have k9 : Kp [] m m9 := by rw [← hm9]; exact kj.wrN (by omega)
    have j9 : m9[nf]? = some (.lst (l ++ [.tup [.str "compare", .tup [.str "name", .str "a"], .tup [.tup []]]])) := by rw [← hm9]; exact at_set j1
    have g9 : ∀ d ∈ l ++ [.tup [.str "compare", .tup [.str "name", .str "a"], .tup [.tup []]]], G [s, c] m9 N d := by
      intro d hd
      rcases List.mem_append.mp hd with hd | hd
      · exact (b1 d hd).kp (by rw [← hm9]; exact b2.wrN b3)
      · simp at hd
        subst hd
        exact g30 hN (by decide +kernel)
    have dl : Das lt := by
      have h1 := dt.1
      have h2 := dt.2
      have h3 := dt.3
      rw [et] at h1 h2 h3
      simp only [pu] at h1
      simp only [fl] at h2
      simp only [MI.dp] at h3
      exact ⟨h1, by omega, by omega⟩
    have nzt : nz (enc t) = 1 + nzs lt := by rw [et]; rfl
    have tyl : ∀ m9 : Mem, ∀ d ∈ lt, TyV [s, c] m9 d := fun m9 d hd => ((by have := tyt m9; rw [et] at this; exact this : TyV [s, c] m9 (.tup lt)).items.1 d hd)
    have kA : Kp [] m9 (m9 ++ [MO.lst lt, MO.lst [.ref m9.length, .tup (lt ++ [.tup [.str "name", .str "a"]]), .tup (cutM lt none (some (-1))), .tup lt, .tup [.str "not", .tup lt], .tup [.str "name", .str "ab"], .tup [.str "name", .str "abcdefgh"]]]) := Kp.app
    rw [et]
    simp
    refine ⟨Nat.lt_of_lt_of_le (m := 10) (by omega) (szl (by decide)), s2, szl (by decide), ?_⟩
    refine (W_add_l (kA.get j9 (by simp)) (by rw [at_app]; rfl)).mpr ⟨Nat.le_trans (m := 1000) (by simp; omega) (szl (by decide)), ?_⟩
    generalize hMA : m9 ++ [MO.lst lt, MO.lst [.ref m9.length, .tup (lt ++ [.tup [.str "name", .str "a"]]), .tup (cutM lt none (some (-1))), .tup lt, .tup [.str "not", .tup lt], .tup [.str "name", .str "ab"], .tup [.str "name", .str "abcdefgh"]]] = MA at kA ⊢
    have lA : MA[m9.length]? = some (.lst lt) := by rw [← hMA]; simp
    have l9 := k9.1
    have lA2 := kA.1
    have gt9 : ∀ M, G [s, c] M N (.tup lt) := fun M => gT (by rw [← et]; exact tyt M) (by rw [← et]; omega)
    have all : ∀ M, Kp [] MA M → AllG [s, c] M N [.ref m9.length, .tup (lt ++ [.tup [.str "name", .str "a"]]), .tup (cutM lt none (some (-1))), .tup lt, .tup [.str "not", .tup lt], .tup [.str "name", .str "ab"], .tup [.str "name", .str "abcdefgh"]] := fun M kM =>
      .cons (gR (ty_r (nm _ l9) (kM.get lA (by simp)) dl))
      (.cons (gT (ty_p (fun d hd => by
          rcases List.mem_append.mp hd with hd | hd
          · exact tyl M d hd
          · simp at hd
            subst hd
            exact tB (by decide +kernel)) (by simp; omega) (fun a ls e => by
          cases lt with
          | nil => exact ltn rfl
          | cons x xs =>
            simp at e
            obtain ⟨e1, e2⟩ := e
            have := ltc xs (by rw [e1])
            have e3 := congrArg List.length e2
            simp at e3
            omega)) (by simp only [nz, nzs_app]; simp [nz, nzs]; omega))
      (.cons (gT (ty_p (fun d hd => tyl M d (mem_cut hd)) (by have := len_cut (l := lt) (lo := none) (hi := some (-1)); omega) (fun a ls e => by
          rw [cut_last ltn] at e
          obtain ⟨r', er⟩ := take_len e
          have h1 := ltc r' er
          have h2 := congrArg List.length e
          rw [er] at h2
          simp at h2
          omega)) (by have := nzs_cut lt none (some (-1)); simp only [nz]; omega))
      (.cons (gt9 M)
      (.cons (gT (ty_p (fun d hd => by
          simp at hd
          rcases hd with rfl | rfl
          · exact tB (by decide +kernel)
          · exact (gt9 M).ty) (by simp) (fun a ls e => by simp at e)) (by simp only [nz, nzs]; omega))
      (.cons (g30 hN (by decide +kernel)) (.cons (g30 hN (by decide +kernel)) .nil))))))
    have kF : Kp [] m (MA ++ [MO.lst (l ++ [.tup [.str "compare", .tup [.str "name", .str "a"], .tup [.tup []]]] ++ [.ref m9.length, .tup (lt ++ [.tup [.str "name", .str "a"]]), .tup (cutM lt none (some (-1))), .tup lt, .tup [.str "not", .tup lt], .tup [.str "name", .str "ab"], .tup [.str "name", .str "abcdefgh"]])]) := k9.trans (kA.trans Kp.push)
    refine (pick_ok (k := k) (a.kp kF (by simp) (by simp)) List.getElem?_concat_length (by simp) (by simp; omega) (by omega) (by omega) (by omega)).mono ?_
    rintro d mz ⟨hd, az, kz, _⟩
    refine ⟨?_, az, (kF.mono (by simp)).trans kz⟩
    refine G.kpS ?_ kz
    rcases List.mem_append.mp hd with hd | hd
    · exact (g9 d hd).kp (kA.trans Kp.push)
    · exact (all _ Kp.push).h d hd
  refine main _ _ ⟨⟨m.length + 1, _, rfl, by rw [at_app]; rfl, ⟨m ++ [.lst []], ?_, by rw [show m ++ [MO.lst [], MO.lst [.non, .bl true, .int 7, .str "a", .str "none", .ref m.length, .tup [], .tup [.str "name"], .tup [.str "name", .str ""], .tup [.str "name", .str "A"], .tup [.str "name", .str "abcdefghi"]]] = (m ++ [MO.lst []]) ++ [MO.lst [.non, .bl true, .int 7, .str "a", .str "none", .ref m.length, .tup [], .tup [.str "name"], .tup [.str "name", .str ""], .tup [.str "name", .str "A"], .tup [.str "name", .str "abcdefghi"]]] by simp]; exact Kp.push, by simp⟩, by simp, by simp, by omega⟩, Kp.app⟩
  have h : AllG [s, c] (m ++ [.lst []]) N [.non, .bl true, .int 7, .str "a", .str "none", .ref m.length, .tup [], .tup [.str "name"], .tup [.str "name", .str ""], .tup [.str "name", .str "A"], .tup [.str "name", .str "abcdefghi"]] :=
    .cons (g30 hN (by decide +kernel)) (.cons (g30 hN (by decide +kernel)) (.cons (g30 hN (by decide +kernel)) (.cons (g30 hN (by decide +kernel)) (.cons (g30 hN (by decide +kernel))
      (.cons ⟨ty_r (nm _ (Nat.le_refl _)) (l := []) (by simp) ⟨rfl, by simp [fls], by simp [dps]⟩, Nat.zero_le _, by simp⟩ (allG30 hN (by decide +kernel)))))))
  exact h.h
end K01
namespace K01
open PySem L2 MI
theorem hd_cmp {sg : List Str} {n : Nat} (o : HdOk (.cmp sg) n) : sg.length + 1 = n ∧ 1 ≤ sg.length ∧ sg.length ≤ 4 ∧ ∀ s ∈ sg, s ∈ (["<", "<=", ">", ">=", "==", "!="] : List Str) := o
theorem atM_nat {l : List MV} {i : Nat} {d : MV} (h : l[i]? = some d) : atM l (i : Int) = some d := by
  have hi : i < l.length := (List.getElem?_eq_some_iff.mp h).1
  unfold atM ixN
  rw [if_pos (by omega), if_pos (by omega)]
  simpa using h
noncomputable def linkT : MS := (mSeq (mAsg (mLc (mRng (mCons (mCall gLen (mCons (mBin gItem (mVar 1) (mC (.int 2))) mNil)) mNil)) (ngName 6) mYes (mTup (mCons (mBin gItem (mBin gItem (mBin gItem (mVar 1) (mC (.int 2))) (mVar 6)) (mC (.int 0))) (mCons (mBin gItem (mVar 4) (mBin gAdd (mC (.int 1)) (mVar 6))) mNil))) [6]) (nName 5))
    (mRet (mTup (mCons (mC (.str "compare")) (mCons (mBin gItem (mVar 4) (mC (.int 0))) (mCons (mCall gTuple (mCons (mVar 5) mNil)) mNil))))))
noncomputable def bentT (ck : Fnm → MF) : MS := (mSeq (mIfS (mB (mBin (gEqA false) (mBin gItem (mVar 1) (mC (.int 0))) (mC (.str "call"))))
    (mRet (mTup (mCons (mC (.str "call")) (mCons (mBin gItem (mVar 1) (mC (.int 1))) (mCons (mCall gTuple (mCons (mVar 4) mNil)) mNil)))))
    mSkip)
    (mSeq (mIfS (mB (mBin (gEqA false) (mBin gItem (mVar 1) (mC (.int 0))) (mC (.str "compare"))))
    linkT
    mSkip)
    (mRet (mCall gTuple (mCons (mBin gAdd (mLst (mCons (mBin gItem (mVar 1) (mC (.int 0))) mNil)) (mVar 4)) mNil)))))
theorem b_bent (ck : Fnm → MF) : b_l_bent ck = mSeq (mAsg (mCall (ck .l_operands) (mCons (mVar 1) mNil)) (nName 2))
    (mSeq (mIfS (mOrT (mB (mBin gEqE (mVar 2) (mLst mNil))) (mB (mBin (gEqA false) (mCall (ck .l_draw) (mCons (mVar 0) (mCons (mC (.int 4)) mNil))) (mC (.int 0)))))
    (mRet (mCall (ck .l_odd) (mCons (mVar 0) (mCons (mVar 1) mNil))))
    mSkip)
    (mSeq (mAsg (mCall (ck .l_draw) (mCons (mVar 0) (mCons (mCall gLen (mCons (mVar 2) mNil)) mNil))) (nName 3))
    (mSeq (mAsg (mBin gAdd (mBin gAdd (mSl (mVar 2) mNo (mEnd (mVar 3))) (mLst (mCons (mCall (ck .l_bent) (mCons (mVar 0) (mCons (mBin gItem (mVar 2) (mVar 3)) mNil))) mNil))) (mSl (mVar 2) (mEnd (mBin gAdd (mVar 3) (mC (.int 1)))) mNo)) (nName 4))
    (bentT ck)))) := rfl
theorem rng_links {sg : List Str} {es : List MV} (h : sg.length = es.length) : ((rngL 0 sg.length).filter fun _ => true).map (fun d => match d with | .int i => MV.tup [.str (sg.getD i.toNat ""), es.getD i.toNat .non] | _ => .non) = List.zipWith (fun s x => MV.tup [.str s, x]) sg es := by
  have fa : (rngL 0 sg.length).filter (fun _ => true) = rngL 0 sg.length := by simp
  rw [fa]
  refine List.ext_getElem (by simp [rngL_length, h]) fun i h1 h2 => ?_
  simp [rngL_length] at h1 h2
  have h3 : i < es.length := by omega
  simp [rngL, h1, h3]
theorem bentT_call {k : Nat} {w : Str} {es es' : List MV} {m : Mem} {n : Nat} {s : MV} {x2 x3 : Option MV} (hn : m[n]? = some (.lst es')) : MI.W (bentT (Tab k) [some s, some (encH (.call w) es), x2, x3, some (.ref n), none, none] m) (fin (fun d m' => d = encH (.call w) es' ∧ Kp [] m m') E0) E0 := by
  unfold bentT
  simp [encH, hn]
  exact ⟨szl (by decide), Kp.refl⟩
theorem linkT_ok {sg : List Str} {es es' : List MV} {m : Mem} {n : Nat} {s v w a r : MV} {ls : List MV} {x2 x3 : Option MV} (c1 : sg.length = es.length) (c3 : sg.length ≤ 4) (hl : es'.length = es.length + 1) (hn : m[n]? = some (.lst es')) (hv : v = .tup [w, a, .tup ls]) (hls : ls = List.zipWith (fun (s : Str) x => MV.tup [.str s, x]) sg es) (hr : r = .tup [.str "compare", es'.headD .non, .tup (List.zipWith (fun (s : Str) x => MV.tup [.str s, x]) sg es'.tail)]) : MI.W (linkT [some s, some v, x2, x3, some (.ref n), none, none] m) (fun x m' => x = .rt r ∧ Kp [] m m') E0 := by
  have lz : ls.length = sg.length := by rw [hls]; simp; omega
  cases es' with
  | nil => simp at hl
  | cons a' es' =>
    have ce' : sg.length = es'.length := by simp at hl; omega
    unfold linkT
    simp [hv, hn, lz]
    refine ⟨by omega, ?_⟩
    refine W_pure (fun d => match d with | .int i => MV.tup [.str (sg.getD i.toNat ""), es'.getD i.toNat .non] | _ => .non) (fun _ => true) trivial (fun d hd => ?_) (by rw [rngL_length]; omega) ?_
    · obtain ⟨i, hi, rfl⟩ := List.mem_iff_getElem.mp hd
      rw [rngL_length] at hi
      refine ⟨rfl, fun _ => ?_⟩
      have g1 : (rngL 0 sg.length)[i]'(by rw [rngL_length]; exact hi) = .int (i : Nat) := by simp [rngL]
      rw [g1]
      have g2 : atM ls (i : Nat) = some (.tup [.str sg[i], es[i]]) := atM_nat (by
        rw [List.getElem?_eq_getElem (by rw [lz]; exact hi)]
        simp [hls])
      have g3 : atM (a' :: es') (1 + (i : Nat)) = some es'[i] := by
        rw [show (1 : Int) + (i : Nat) = ((i + 1 : Nat) : Int) by omega]
        exact atM_nat (by simp)
      simp [mTup, mCons, mBin, mVar, mC, mNil, Re.bind, wipeM, gItem_t, g2, gItem_l hn, gAdd_i, g3, szl (n := 2) (by decide), hi, show i < es'.length by omega]
    · rw [rng_links ce']
      have hn2 : (m ++ [MO.lst (List.zipWith (fun s x => MV.tup [.str s, x]) sg es')])[n]? = some (.lst (a' :: es')) := (Kp.push (S := [])).get hn (by simp)
      simp [hn2, hr]
      exact ⟨szl (by decide), Kp.push⟩
theorem bentT_cmp {k : Nat} {sg : List Str} {es es' : List MV} {m : Mem} {n : Nat} {s v a r : MV} {ls : List MV} {x2 x3 : Option MV} (c1 : sg.length = es.length) (c3 : sg.length ≤ 4) (hl : es'.length = es.length + 1) (hn : m[n]? = some (.lst es')) (hv : v = .tup [.str "compare", a, .tup ls]) (hls : ls = List.zipWith (fun (s : Str) x => MV.tup [.str s, x]) sg es) (hr : r = .tup [.str "compare", es'.headD .non, .tup (List.zipWith (fun (s : Str) x => MV.tup [.str s, x]) sg es'.tail)]) : MI.W (bentT (Tab k) [some s, some v, x2, x3, some (.ref n), none, none] m) (fin (fun d m' => d = r ∧ Kp [] m m') E0) E0 := by
  have e1 : ¬ (("compare" : Str) = "call") := by decide
  unfold bentT
  have L := linkT_ok (s := s) (x2 := x2) (x3 := x3) c1 c3 hl hn hv hls hr
  have i0 : ∀ (m : Mem) (Q : MV → Mem → Prop) (E : Exn → Mem → Prop), MI.W (gItem v (.int 0) m) Q E = Q (.str "compare") m := fun m Q E => by rw [hv]; simp
  clear hv
  simp [i0, e1]
  refine L.mono ?_
  rintro x m' ⟨rfl, h2⟩
  exact ⟨rfl, h2⟩
theorem bentT_op {k : Nat} {w : Str} {es es' : List MV} {m : Mem} {n : Nat} {s : MV} {x2 x3 : Option MV} (hok : HdOk (.op w) es.length) (hl : es'.length = es.length) (hn : m[n]? = some (.lst es')) : MI.W (bentT (Tab k) [some s, some (encH (.op w) es), x2, x3, some (.ref n), none, none] m) (fin (fun d m' => d = encH (.op w) es' ∧ Kp [] m m') E0) E0 := by
  unfold bentT
  obtain ⟨n1, n2, n3, n4⟩ := op_word hok
  simp [encH, n1, n2, n3]
  refine ⟨szl (by decide), ?_⟩
  have hn2 : (m ++ [MO.lst [.str w]])[n]? = some (.lst es') := (Kp.push (S := [])).get hn (by simp)
  rw [W_add_l List.getElem?_concat_length hn2]
  simp
  exact ⟨szl (by omega), by simpa using (Kp.push (S := []) (m := m) (o := MO.lst [.str w])).trans Kp.push⟩
theorem bentT_ok {k : Nat} {h : Hd} {es es' : List MV} {m : Mem} {n : Nat} {s v : MV} {x2 x3 : Option MV} (hok : HdOk h es.length) (hl : es'.length = es.length) (h0 : es ≠ []) (hn : m[n]? = some (.lst es')) (hv : v = encH h es) : MI.W (bentT (Tab k) [some s, some v, x2, x3, some (.ref n), none, none] m) (fin (fun d m' => d = encH h es' ∧ Kp [] m m') E0) E0 := by
  cases h with
  | name _ => exact absurd (List.length_eq_zero_iff.mp hok.2) h0
  | call _ =>
    subst hv
    exact bentT_call hn
  | cmp _ =>
    have c0 := hd_cmp hok
    cases es with
    | nil => exact absurd rfl h0
    | cons a es => exact bentT_cmp (by simpa using c0.1) c0.2.2.1 (by simpa using hl) hn hv rfl rfl
  | op _ =>
    subst hv
    exact bentT_op hok hl hn
theorem cut_take {l : List MV} {i : Nat} (h : i < l.length) : cutM l none (some (i : Int)) = l.take i := by
  unfold cutM HT.sIx
  have e : ¬ ((i : Int) < 0) := by omega
  simp [e]
theorem cut_drop {l : List MV} {i : Nat} (h : i < l.length) : cutM l (some ((i : Int) + 1)) none = l.drop (i + 1) := by
  unfold cutM HT.sIx
  have e : ¬ ((i : Int) + 1 < 0) := by omega
  simp [e]
  rw [show min (i + 1) l.length = i + 1 by omega, List.take_of_length_le (by simp)]
def hc : Hd → Nat
  | .name _ => 1
  | .call _ => 2
  | .op _ => 1
  | .cmp sg => 2 + sg.length
theorem nz_hc {h : Hd} {es : List MV} (o : HdOk h es.length) : nz (encH h es) = hc h + nzs es := by
  cases h with
  | name s =>
    have : es.length = 0 := o.2
    rw [List.length_eq_zero_iff] at this
    subst this
    simp [encH, nz, nzs, hc]
  | call s => simp [encH, nz, nzs, hc]; omega
  | op w => simp [encH, nz, nzs, hc]
  | cmp sg =>
    obtain ⟨c1, c2, c3, c4⟩ := hd_cmp o
    cases es with
    | nil => simp at c1
    | cons a es =>
      have := nzs_zip sg es (by simpa using c1)
      simp only [encH, List.headD_cons, List.tail_cons, nz, nzs, this, hc]
      omega
theorem nzs_at : ∀ (l : List MV) (i : Nat) (h : i < l.length), nzs (l.take i) + nz l[i] + nzs (l.drop (i + 1)) = nzs l
  | [], i, h => by simp at h
  | d :: r, 0, h => by simp [nzs]
  | d :: r, i + 1, h => by
    have := nzs_at r i (by simpa using h)
    simp [nzs]
    omega
theorem atM_encs {l : List T} {i : Nat} (h : i < l.length) : atM (encs l) (i : Int) = some (enc l[i]) := by
  refine atM_nat ?_
  rw [encs_map, List.getElem?_map, List.getElem?_eq_getElem h]
  rfl
theorem bent_ok : ∀ (n k s c : Nat) (t : T) (m : Mem) (t0 : Int), Src m s c t0 → Ok t → size t ≤ 40 → levels t ≤ n → n ≤ 12 → t0 + 2 * n < 2 ^ 58 → MI.W (Tab (k + 4 + n) .l_bent [.ref s, enc t] m) (fun d m' => G [s, c] m' (nz (enc t) + 30) d ∧ (∃ t1, Src m' s c t1 ∧ t0 ≤ t1 ∧ t1 ≤ t0 + 2 * n) ∧ Kp [s, c] m m') E0 := by
  intro n
  induction n with
  | zero =>
    intro k s c t m t0 a ok hs hl
    cases t with
    | node h l => simp [levels] at hl
  | succ n ih =>
    intro k s c t m t0 a ok hs hl hn ht
    cases t with
    | node h l =>
      obtain ⟨o1, o2⟩ := ok.hd
      show MI.W (f_l_bent (Tab (k + 4 + n)) [.ref s, enc (.node h l)] m) _ _
      unfold f_l_bent
      rw [b_bent]
      simp [startM]
      rw [enc_node, show k + 4 + n = (k + 3 + n) + 1 by omega]
      refine (opl_ok (k := k + 3 + n) o1).mono ?_
      rintro d m1 ⟨n1, rfl, g1, l1, k1⟩
      have a1 : Src (m1 ++ [.lst []]) s c t0 := (a.kp k1 (by simp) (by simp)).kp (S := []) Kp.push (by simp) (by simp)
      have e0 : lstOf (m1 ++ [MO.lst []]) (.ref n1) = some (encs l) := (at_lst ((Kp.push (S := [])).get g1 (by simp))).1
      rw [e0]
      dsimp only
      have kk : Kp [] m (m1 ++ [MO.lst []]) := k1.trans Kp.push
      have g2 : (m1 ++ [MO.lst []])[n1]? = some (.lst (encs l)) := (Kp.push (S := [])).get g1 (by simp)
      generalize hM : m1 ++ [MO.lst []] = M at a1 kk g2
      have sl : s < m.length ∧ c < m.length := by
        obtain ⟨_, _, h1, h2⟩ := a.ex
        exact ⟨(List.getElem?_eq_some_iff.mp h1).1, (List.getElem?_eq_some_iff.mp h2).1⟩
      have odd : ∀ (M' : Mem) (t1 : Int), Src M' s c t1 → Kp [s, c] m M' → t0 ≤ t1 → t1 ≤ t0 + 1 → MI.W (Tab (k + 3 + n + 1) .l_odd [.ref s, encH h (encs l)] M') (fun d m' => G [s, c] m' (nz (encH h (encs l)) + 30) d ∧ (∃ t1, Src m' s c t1 ∧ t0 ≤ t1 ∧ t1 ≤ t0 + 2 * ((n : Int) + 1)) ∧ Kp [s, c] m m') E0 := by
        intro M' t1 a' k' h1 h2
        rw [show k + 3 + n + 1 = (k + n + 1) + 3 by omega]
        refine (odd_ok (k := k + n + 1) a' ok hs (by omega) (by omega)).mono ?_
        rintro d m' ⟨q1, q2, q3⟩
        exact ⟨q1, ⟨_, q2, by omega, by omega⟩, k'.trans q3⟩
      split
      · exact odd M t0 a1 (kk.mono (by simp)) (by omega) (by omega)
      rename_i hne
      refine (draw_ok (k := k + 3 + n) (lim := 4) a1 (by decide) (by decide) (by omega)).mono ?_
      rintro d m2 ⟨v, rfl, v0, v1, a2, k2, -⟩
      have kk2 : Kp [s, c] m m2 := (kk.mono (by simp)).trans k2
      simp only [W_eq_i]
      simp
      split
      · exact odd m2 _ a2 kk2 (by omega) (by omega)
      have g3 : m2[n1]? = some (.lst (encs l)) := k2.get g2 (by simp; omega)
      rw [g3]
      dsimp only
      have ll : 0 < l.length := by
        cases l with
        | nil => exact absurd rfl hne
        | cons _ _ => simp
      have l5 := hd_len o1
      rw [encs_length] at l5
      refine (draw_ok (k := k + 3 + n) (lim := (encs l).length) a2 (by rw [encs_length]; omega) (by rw [encs_length]; omega) (by omega)).mono ?_
      rintro d m3 ⟨v, rfl, v0, v1, a3, k3, -⟩
      obtain ⟨i, rfl⟩ : ∃ i : Nat, v = i := ⟨v.toNat, by omega⟩
      have hi : i < l.length := by rw [encs_length] at v1; omega
      have kk3 : Kp [s, c] m m3 := kk2.trans k3
      have g4 : m3[n1]? = some (.lst (encs l)) := k3.get g3 (by simp; omega)
      rw [g4]
      dsimp only
      have g5 : (m3 ++ [MO.lst (cutM (encs l) none (some (i : Int)))])[n1]? = some (.lst (encs l)) := (Kp.push (S := [])).get g4 (by simp)
      rw [W_item_r, g5]
      dsimp only
      rw [atM_encs hi]
      dsimp only
      have cc := o2.mem (List.getElem_mem hi)
      have cs := sizes_mem (List.getElem_mem hi)
      have cl := levelss_mem (List.getElem_mem hi)
      have hs' : size l[i] ≤ 40 := by simp only [size] at hs; omega
      have hl' : levels l[i] ≤ n := by simp only [levels] at hl; omega
      have sl3 := kk3.1
      have n1s : n1 ∉ [s, c] := by simp; omega
      have m3s : m3.length ∉ [s, c] := by simp; omega
      have a4 : Src (m3 ++ [MO.lst (cutM (encs l) none (some (i : Int)))]) s c (t0 + 1 + 1) := a3.kp (S := []) Kp.push (by simp) (by simp)
      rw [show k + 3 + n + 1 = k + 4 + n by omega]
      refine (ih k s c l[i] _ _ a4 cc hs' hl' (by omega) (by omega)).mono ?_
      rintro d m4 ⟨gd, ⟨t1, a5, t2, t3⟩, k4⟩
      refine ⟨szl (by decide), ?_⟩
      have g6 : m4[m3.length]? = some (.lst (cutM (encs l) none (some (i : Int)))) := k4.get (by simp) m3s
      have g7 : m4[n1]? = some (.lst (encs l)) := k4.get g5 n1s
      have ct : cutM (encs l) none (some (i : Int)) = (encs l).take i := cut_take (by rw [encs_length]; omega)
      have cd : cutM (encs l) (some ((i : Int) + 1)) none = (encs l).drop (i + 1) := cut_drop (by rw [encs_length]; omega)
      rw [ct] at g6
      have le5 : (encs l).length ≤ 9 := by rw [encs_length]; omega
      refine (W_add_l ((Kp.push (S := [])).get g6 (by simp)) List.getElem?_concat_length).mpr ⟨Nat.le_trans (m := 100) (by simp; omega) (szl (by decide)), ?_⟩
      rw [W_add_i]
      dsimp only
      have g8 : (m4 ++ [MO.lst [d]] ++ [MO.lst ((encs l).take i ++ [d])])[n1]? = some (.lst (encs l)) := (Kp.push (S := [])).get ((Kp.push (S := [])).get g7 (by simp)) (by simp)
      rw [g8]
      dsimp only
      rw [cd]
      refine (W_add_l (xs := (encs l).take i ++ [d]) (ys := (encs l).drop (i + 1)) ((Kp.push (S := [])).get (by rw [show (m4 ++ [MO.lst [d]]).length = (m4 ++ [MO.lst [d]]).length + 0 from rfl, at_app]; rfl) (by simp)) List.getElem?_concat_length).mpr ⟨Nat.le_trans (m := 100) (by simp; omega) (szl (by decide)), ?_⟩
      have k5 : Kp [] m4 (m4 ++ [MO.lst [d]] ++ [MO.lst ((encs l).take i ++ [d])] ++ [MO.lst ((encs l).drop (i + 1))] ++ [MO.lst ((encs l).take i ++ [d] ++ (encs l).drop (i + 1))]) := Kp.push.trans (Kp.push.trans (Kp.push.trans Kp.push))
      have lp : 1 ≤ 1 := Nat.le_refl _
      have hL : ((encs l).take i ++ [d] ++ (encs l).drop (i + 1)).length = (encs l).length := by simp [encs_length]; omega
      have kf : Kp [s, c] m (m4 ++ [MO.lst [d]] ++ [MO.lst ((encs l).take i ++ [d])] ++ [MO.lst ((encs l).drop (i + 1))] ++ [MO.lst ((encs l).take i ++ [d] ++ (encs l).drop (i + 1))]) := kk3.trans (Kp.push.trans (k4.trans (k5.mono (by simp))))
      have af := a5.kp k5 (by simp) (by simp)
      have gf := gd.kp k5
      generalize m4 ++ [MO.lst [d]] ++ [MO.lst ((encs l).take i ++ [d])] ++ [MO.lst ((encs l).drop (i + 1))] = m5 at kf af gf ⊢
      have mem : ∀ x ∈ (encs l).take i ++ [d] ++ (encs l).drop (i + 1), x ∈ encs l ∨ x = d := by
        intro x hx
        simp only [List.mem_append, List.mem_singleton] at hx
        rcases hx with (hx | hx) | hx
        · exact .inl (List.mem_of_mem_take hx)
        · exact .inr hx
        · exact .inl (List.mem_of_mem_drop hx)
      have nzl : nzs ((encs l).take i ++ [d] ++ (encs l).drop (i + 1)) ≤ nzs (encs l) + 30 := by
        have h1 := nzs_at (encs l) i (by rw [encs_length]; exact hi)
        have h2 : (encs l)[i]'(by rw [encs_length]; exact hi) = enc l[i] := by simp [encs_map]
        have h3 := gd.nz
        rw [h2] at h1
        rw [nzs_app, nzs_app]
        simp only [nzs]
        omega
      have oL : HdOk h ((encs l).take i ++ [d] ++ (encs l).drop (i + 1)).length := by rw [hL]; exact o1
      have tE : ∀ M', TyV [s, c] M' d → TyV [s, c] M' (encH h ((encs l).take i ++ [d] ++ (encs l).drop (i + 1))) := fun M' hd => encH_TyV oL (fun e he => by
        rcases mem e he with he | rfl
        · exact encs_TyV l o2 e he
        · exact hd) (fun e he => by
        rcases mem e he with he | rfl
        · rw [encs_map] at he
          obtain ⟨t, _, rfl⟩ := List.mem_map.mp he
          obtain ⟨lt, et, _⟩ := enc_tup4 (o2.mem ‹_›)
          rw [et]
          simp
        · exact gd.ne)
      have e5 := nz_hc o1
      have e6 := nz_hc oL
      have tup : encH h ((encs l).take i ++ [d] ++ (encs l).drop (i + 1)) ≠ .str "compare" := by cases h <;> simp [encH]
      refine (bentT_ok (k := k + 4 + n) o1 hL hne List.getElem?_concat_length rfl).mono ?_
      intro x m' hx
      revert hx
      have key : ∀ (x : MV) (m' : Mem), x = encH h ((encs l).take i ++ [d] ++ (encs l).drop (i + 1)) ∧ Kp [] (m5 ++ [MO.lst ((encs l).take i ++ [d] ++ (encs l).drop (i + 1))]) m' → G [s, c] m' (nz (encH h (encs l)) + 30) x ∧ (∃ t1, Src m' s c t1 ∧ t0 ≤ t1 ∧ t1 ≤ t0 + 2 * ((n : Int) + 1)) ∧ Kp [s, c] m m' := by
        rintro x m' ⟨rfl, k6⟩
        exact ⟨⟨tE _ (TyV.kp k6 _ gf.ty), by omega, tup⟩, ⟨t1, af.kp k6 (by simp) (by simp), by omega, by omega⟩, kf.trans (k6.mono (by simp))⟩
      cases x with
      | nx ρ => exact key _ _
      | rt d => exact key _ _
      | ex x ρ => exact fun h => h
      | bk ρ => exact fun h => h
      | ct ρ => exact fun h => h
end K01
namespace K01
open PySem L2 MI
/-! ### the values at the bounds -/
structure Fd (m0 : Mem) (f : MV) (ln : Nat) (m : Mem) : Prop where
  ex : ∃ n l, f = .ref n ∧ m[n]? = some (.lst l) ∧ l.all (okB 900) = true ∧ l.length ≤ ln ∧ m0.length ≤ n ∧ Kp [] m0 m
theorem add1 {ρ : MI.Env} {m0 m : Mem} {f : MV} {ln : Nat} {A : MA} (h : Fd m0 f ln m) (h3 : ρ[3]? = some (some f)) (hln : ln ≤ 900) (hA : MI.W (A ρ m) (fun ds m1 => ds.length ≤ 20 ∧ ds.all (okB 900) = true ∧ m1 = m) E0) :
    MI.W (mBin gAdd (mVar 3) (mLst A) ρ m) (fun d m' => Fd m0 d (ln + 20) m' ∧ Kp [] m m') E0 := by
  obtain ⟨n, l, rfl, h1, h2, h4, h5, h6⟩ := h
  simp only [W_bin, W_vr, h3, W_lst]
  refine hA.mono ?_
  rintro ds m1 ⟨g1, g2, rfl⟩
  refine ⟨szl (by omega), ?_⟩
  refine (W_add_l (xs := l) (ys := ds) ((Kp.push (S := [])).get h1 (by simp)) List.getElem?_concat_length).mpr ⟨szl (by omega), ?_⟩
  exact ⟨⟨_, l ++ ds, rfl, List.getElem?_concat_length, by simp [h2, g2], by simp; omega, by have := h6.1; simp; omega, h6.trans (Kp.push.trans Kp.push)⟩, Kp.push.trans Kp.push⟩
theorem addS {ρ : MI.Env} {m0 m : Mem} {f : MV} {ln : Nat} {A : MA} (h : Fd m0 f ln m) (h3 : ρ[3]? = some (some f)) (hln : ln ≤ 900) (hA : MI.W (A ρ m) (fun ds m1 => ds.length ≤ 20 ∧ ds.all (okB 900) = true ∧ m1 = m) E0) {Q : Fl → Mem → Prop} (hr : ∀ f' m', Fd m0 f' (ln + 20) m' → Kp [] m m' → Q (.nx (ρ.set 3 (some f'))) m') :
    MI.W (mAsg (mBin gAdd (mVar 3) (mLst A)) (nName 3) ρ m) Q E0 := by
  simp only [W_asg]
  refine (add1 h h3 hln hA).mono ?_
  rintro d m' ⟨a, b⟩
  exact hr _ _ a b
def OkV (N : Nat) (d : MV) : Prop := tyB d = true ∧ nz d ≤ N
theorem ok_not {N : Nat} {d : MV} (h : OkV N d) : OkV (N + 1) (.tup [.str "not", d]) := by
  obtain ⟨a, b⟩ := h
  constructor
  · simp [tyB, tyBs, a]; decide
  · simp [nz, nzs]; omega
theorem ok_two {N N2 : Nat} {w : Str} {d e : MV} (hw : w.length ≤ 100) (hc : w ≠ "compare") (h : OkV N d) (h2 : OkV N2 e) : OkV (N + N2 + 1) (.tup [.str w, d, e]) := by
  obtain ⟨a, b⟩ := h
  obtain ⟨a2, b2⟩ := h2
  constructor
  · cases e <;> simp [tyB, tyBs, a, a2, hw, hc] <;> simpa [tyB, tyBs] using a2
  · simp [nz, nzs]; omega
theorem ok_three {N N2 N3 : Nat} {w : Str} {d e g : MV} (hw : w.length ≤ 100) (h : OkV N d) (h2 : OkV N2 e) (h3 : OkV N3 g) : OkV (N + N2 + N3 + 1) (.tup [.str w, d, e, g]) := by
  obtain ⟨a, b⟩ := h
  obtain ⟨a2, b2⟩ := h2
  obtain ⟨a3, b3⟩ := h3
  constructor
  · simp [tyB, tyBs, a, a2, a3, hw]
  · simp [nz, nzs]; omega
theorem ok_ok {N : Nat} {l : List MV} (h : OkV N (.tup l)) (hN : N ≤ 900) : okB 900 (.tup l) = true := by
  obtain ⟨a, b⟩ := h
  simp [okB, a]
  omega
noncomputable def lp1 : MS := (mFor (mRng2 (mCons (mC (.int 2)) (mCons (mC (.int 15)) mNil))) (nName 4)
    (mSeq (mAsg (mTup (mCons (mC (.str "not")) (mCons (mVar 2) mNil))) (nName 2))
    (mDrop (mBM gAppend (mVar 3) (mCons (mVar 2) mNil)))))
abbrev N12 (r : List (Option MV)) : Prop := ∃ x, r = [x, none, none, none, none, none, none, none, none, none, none, none]
structure L1 (m0 : Mem) (nm cl : MV) (rem : List MV) (ρ : MI.Env) (m : Mem) : Prop where
  ex : ∃ ch n l r, ρ = some nm :: some cl :: some ch :: some (.ref n) :: r ∧ N12 r ∧ m[n]? = some (.lst l) ∧ l.all (okB 900) = true ∧ l.length + rem.length = 13 ∧ OkV (20 - rem.length) ch ∧ rem.length ≤ 13 ∧ m0.length ≤ n ∧ Kp [] m0 m
structure A1 (m0 : Mem) (nm cl : MV) (ln : Nat) (a : Fl) (m : Mem) : Prop where
  ex : ∃ ch f r, a = .nx (some nm :: some cl :: some ch :: some f :: r) ∧ N12 r ∧ Fd m0 f ln m
theorem lp1_ok {m0 : Mem} {nm cl ch : MV} {n : Nat} {r : List (Option MV)} {m : Mem} (hk : m0.length ≤ n ∧ Kp [] m0 m) (hr : N12 r) (hn : m[n]? = some (.lst [])) (hc : OkV 7 ch) : MI.W (lp1 (some nm :: some cl :: some ch :: some (.ref n) :: r) m) (A1 m0 nm cl 13) E0 := by
  unfold lp1
  simp
  refine W_loop (L1 m0 nm cl) _ _ _ ⟨ch, n, [], r, rfl, hr, hn, rfl, by simp [rngL_length], by simp [rngL_length]; exact hc, by simp [rngL_length], hk.1, hk.2⟩ (fun _ _ _ _ => trivial) ?_ ?_
  · rintro d rem ρ m1 ⟨ch, n, l, r, rfl, h1, h2, h3, h4, h5, h6, h7, h8⟩
    simp at h4 h5 h6
    simp [h2, szl (n := 2) (by decide)]
    have o := ok_not h5
    refine ⟨Nat.lt_of_lt_of_le (m := 100) (by omega) (szl (by decide)), ⟨_, n, _, _, rfl, by obtain ⟨x, rfl⟩ := h1; exact ⟨_, rfl⟩, at_set h2, by simp only [List.all_append, h3, List.all_cons, ok_ok o (by omega), List.all_nil, Bool.and_self], by simp; omega, ?_, by omega, h7, h8.wrN h7⟩⟩
    rw [show 20 - rem.length = 19 - rem.length + 1 by omega]
    exact o
  · rintro ρ m1 ⟨ch, n, l, r, rfl, h1, h2, h3, h4, h5, h6, h7, h8⟩
    exact ⟨ch, _, r, rfl, h1, ⟨n, l, rfl, h2, h3, by simpa using Nat.le_of_eq h4, h7, h8⟩⟩
theorem len12 {r : List (Option MV)} (h : r.length = 12) : ∃ a b c d e f g i j k l o, r = [a, b, c, d, e, f, g, i, j, k, l, o] := by
  match r, h with
  | [a, b, c, d, e, f, g, i, j, k, l, o], _ => exact ⟨a, b, c, d, e, f, g, i, j, k, l, o, rfl⟩
/-- the env of the bounds -/
abbrev EV (nm cl ch f : MV) (x4 x5 x6 x7 x8 x9 x10 x11 x12 x13 : Option MV) : MI.Env := [some nm, some cl, some ch, some f, x4, x5, x6, x7, x8, x9, x10, x11, x12, x13, none, none]
noncomputable def lp2 : MS := (mFor (mRng (mCons (mC (.int 3)) mNil)) (nName 6)
    (mAsg (mTup (mCons (mC (.str "or")) (mCons (mVar 5) (mCons (mVar 5) mNil)))) (nName 5)))
structure L2' (nm cl ch f : MV) (x4 : Option MV) (m0 : Mem) (rem : List MV) (ρ : MI.Env) (m : Mem) : Prop where
  ex : ∃ w x6 N, ρ = EV nm cl ch f x4 (some w) x6 none none none none none none none ∧ OkV N w ∧ (N + 1) * 2 ^ rem.length = 32 ∧ m = m0 ∧ w ≠ .str "compare"
structure A2 (nm cl ch f : MV) (x4 : Option MV) (m0 : Mem) (a : Fl) (m : Mem) : Prop where
  ex : ∃ w x6, a = .nx (EV nm cl ch f x4 (some w) x6 none none none none none none none) ∧ OkV 31 w ∧ m = m0 ∧ w ≠ .str "compare"
theorem lp2_ok {nm cl ch f w : MV} {x4 : Option MV} {m : Mem} (h : OkV 3 w) (hw : w ≠ .str "compare") : MI.W (lp2 (EV nm cl ch f x4 (some w) none none none none none none none none) m) (A2 nm cl ch f x4 m) E0 := by
  unfold lp2
  simp
  refine W_loop (L2' nm cl ch f x4 m) _ _ _ ⟨w, none, 3, rfl, h, rfl, rfl, hw⟩ (fun _ _ _ _ => trivial) ?_ ?_
  · rintro d rem ρ m1 ⟨w, x6, N, rfl, h1, h2, rfl, h4⟩
    simp [szl (n := 3) (by decide)]
    refine ⟨_, _, N + N + 1, rfl, ok_two (by decide) (by decide) h1 h1, ?_, rfl, by simp⟩
    rw [← h2, List.length_cons, Nat.pow_succ, show N + N + 1 + 1 = (N + 1) * 2 by omega, Nat.mul_assoc, Nat.mul_comm 2]
  · rintro ρ m1 ⟨w, x6, N, rfl, h1, h2, rfl, h4⟩
    simp at h2
    have : N = 31 := by omega
    subst this
    exact ⟨w, x6, rfl, h1, rfl, h4⟩
noncomputable def lp3 : MS := (mFor (mAnyI (mLst (mCons (mVar 0) (mCons (mTup (mCons (mC (.str "not")) (mCons (mVar 0) mNil))) (mCons (mTup (mCons (mC (.str "not")) (mCons (mTup (mCons (mC (.str "not")) (mCons (mVar 0) mNil))) mNil))) (mCons (mTup (mCons (mC (.str "not")) (mCons (mTup (mCons (mC (.str "not")) (mCons (mTup (mCons (mC (.str "not")) (mCons (mVar 0) mNil))) mNil))) mNil))) mNil)))))) (nName 7)
    (mDrop (mBM gAppend (mVar 3) (mCons (mTup (mCons (mC (.str "and")) (mCons (mVar 5) (mCons (mTup (mCons (mC (.str "if")) (mCons (mVar 0) (mCons (mVar 0) (mCons (mTup (mCons (mC (.str "if")) (mCons (mVar 0) (mCons (mVar 0) (mCons (mVar 7) mNil))))) mNil))))) mNil)))) mNil))))
structure L3 (m0 : Mem) (nm cl ch w : MV) (x4 x6 : Option MV) (nl : Nat) (ls : List MV) (rem : List MV) (ρ : MI.Env) (m : Mem) : Prop where
  ex : ∃ n l x7, ρ = EV nm cl ch (.ref n) x4 (some w) x6 x7 none none none none none none ∧ m[n]? = some (.lst l) ∧ l.all (okB 900) = true ∧ l.length + rem.length ≤ 17 ∧ n ≠ nl ∧ m[nl]? = some (.lst ls) ∧ (∀ d ∈ rem, OkV 4 d) ∧ m0.length ≤ n ∧ Kp [] m0 m
structure A3 (m0 : Mem) (nm cl ch w : MV) (x4 x6 : Option MV) (a : Fl) (m : Mem) : Prop where
  ex : ∃ f x7, a = .nx (EV nm cl ch f x4 (some w) x6 x7 none none none none none none) ∧ Fd m0 f 17 m
theorem OkV.mono {N M : Nat} {d : MV} (h : OkV N d) (l : N ≤ M) : OkV M d := ⟨h.1, Nat.le_trans h.2 l⟩
theorem lp3_ok {m0 : Mem} {nm cl ch f w : MV} {x4 x6 : Option MV} {m : Mem} (hnm : OkV 1 nm) (h : OkV 31 w) (hf : Fd m0 f 13 m) : MI.W (lp3 (EV nm cl ch f x4 (some w) x6 none none none none none none none) m) (A3 m0 nm cl ch w x4 x6) E0 := by
  obtain ⟨n, l, rfl, h1, h2, h3, k1, k2⟩ := hf
  unfold lp3
  simp [szl (n := 2) (by decide), szl (n := 4) (by decide)]
  have ln := (List.getElem?_eq_some_iff.mp h1).1
  refine W_loop (L3 m0 nm cl ch w x4 x6 m.length [nm, .tup [.str "not", nm], .tup [.str "not", .tup [.str "not", nm]], .tup [.str "not", .tup [.str "not", .tup [.str "not", nm]]]]) _ _ _ ⟨n, l, none, rfl, (Kp.push (S := [])).get h1 (by simp), h2, by simp; omega, by omega, List.getElem?_concat_length, ?_, k1, k2.trans Kp.push⟩ ?_ ?_ ?_
  · intro d hd
    simp only [List.mem_cons, List.not_mem_nil, or_false] at hd
    rcases hd with rfl | rfl | rfl | rfl
    · exact hnm.mono (by omega)
    · exact (ok_not hnm).mono (by omega)
    · exact (ok_not (ok_not hnm)).mono (by omega)
    · exact (ok_not (ok_not (ok_not hnm))).mono (by omega)
  · rintro rem ρ m1 ⟨n, l, x7, rfl, h1, h2, h3, h4, h5, h6, h7, h8⟩
    simp [h5]
  · rintro d rem ρ m1 ⟨n, l, x7, rfl, h1, h2, h3, h4, h5, h6, h7, h8⟩
    have od := h6 d (by simp)
    have o := ok_two (w := "and") (by decide) (by decide) h (ok_three (w := "if") (by decide) hnm hnm (ok_three (w := "if") (by decide) hnm hnm od))
    simp at h3
    simp [h1, szl (n := 3) (by decide), szl (n := 4) (by decide)]
    refine ⟨Nat.lt_of_lt_of_le (m := 100) (by omega) (szl (by decide)), ⟨n, _, some d, rfl, at_set h1, by simp only [List.all_append, h2, List.all_cons, ok_ok o (by omega), List.all_nil, Bool.and_self], by simp; omega, h4, by rw [List.getElem?_set_ne h4]; exact h5, fun x hx => h6 x (by simp [hx]), h7, h8.wrN h7⟩⟩
  · rintro ρ m1 ⟨n, l, x7, rfl, h1, h2, h3, h4, h5, h6, h7, h8⟩
    exact ⟨_, x7, rfl, n, l, rfl, h1, h2, by simpa using h3, h7, h8⟩
/-! words -/
def isW9 (d : MV) : Bool := match d with | .str s => decide (s.length ≤ 9) | _ => false
noncomputable def wb : MS := (mAsg (mBin gAdd (mVar 3) (mLst (mCons (mTup (mCons (mC (.str "name")) (mCons (mVar 13) mNil))) (mCons (mTup (mCons (mC (.str "call")) (mCons (mVar 13) (mCons (mTup mNil) mNil)))) mNil)))) (nName 3))
structure L4 (m0 : Mem) (nm cl ch : MV) (x4 x5 x6 x7 x8 x9 x10 x11 x12 : Option MV) (b nl : Nat) (ls : List MV) (rem : List MV) (ρ : MI.Env) (m : Mem) : Prop where
  ex : ∃ f ln x13, ρ = EV nm cl ch f x4 x5 x6 x7 x8 x9 x10 x11 x12 x13 ∧ Fd m0 f ln m ∧ ln + 20 * rem.length ≤ b ∧ m[nl]? = some (.lst ls) ∧ rem.all isW9 = true
structure A4 (m0 : Mem) (nm cl ch : MV) (x4 x5 x6 x7 x8 x9 x10 x11 x12 : Option MV) (b : Nat) (a : Fl) (m : Mem) : Prop where
  ex : ∃ f x13, a = .nx (EV nm cl ch f x4 x5 x6 x7 x8 x9 x10 x11 x12 x13) ∧ Fd m0 f b m
theorem Fd.mono {m0 m : Mem} {f : MV} {a b : Nat} (h : Fd m0 f a m) (hb : a ≤ b) : Fd m0 f b m := by
  obtain ⟨n, l, h1, h2, h3, h4, h5⟩ := h
  exact ⟨n, l, h1, h2, h3, by omega, h5⟩
theorem wl_ok {m0 : Mem} {nm cl ch f : MV} {x4 x5 x6 x7 x8 x9 x10 x11 x12 x13 : Option MV} {m : Mem} {chk : Mem → Prop} {nl ln b : Nat} {ls : List MV} (hF : Fd m0 f ln m) (hl : m[nl]? = some (.lst ls)) (hb : ln + 20 * ls.length ≤ b) (hb9 : b ≤ 900) (hw : ls.all isW9 = true) (hc : ∀ m', m'[nl]? = some (.lst ls) → chk m') : MI.W (loopM chk (nName 13) wb ls (EV nm cl ch f x4 x5 x6 x7 x8 x9 x10 x11 x12 x13) m) (A4 m0 nm cl ch x4 x5 x6 x7 x8 x9 x10 x11 x12 b) E0 := by
  refine W_loop (L4 m0 nm cl ch x4 x5 x6 x7 x8 x9 x10 x11 x12 b nl ls) _ _ _ ⟨f, ln, x13, rfl, hF, hb, hl, hw⟩ ?_ ?_ ?_
  · rintro rem ρ m1 ⟨f, ln, x13, rfl, h1, h2, h3, h4⟩
    exact hc _ h3
  · rintro d rem ρ m1 ⟨f, ln, x13, rfl, h1, h2, h3, h4⟩
    simp at h2
    rw [List.all_cons, Bool.and_eq_true] at h4
    obtain ⟨z, rfl, hz⟩ : ∃ z : Str, d = .str z ∧ z.length ≤ 9 := by
      have := h4.1
      unfold isW9 at this
      split at this
      · exact ⟨_, rfl, by simpa using this⟩
      · cases this
    unfold wb
    refine addS h1 rfl (by omega) ?_ fun f' m' a b => ⟨f', ln + 20, some (.str z), rfl, a, by omega, b.get h3 (by simp), h4.2⟩
    simp [szl (n := 2) (by decide), szl (n := 3) (by decide), szl (n := 0) (by decide), okB, tyB, tyBs, nz, nzs]
    have e1 : (4 : Nat) ≤ 100 := by decide
    exact ⟨⟨show ("name" : Str).length ≤ 100 by decide, by omega⟩, show ("call" : Str).length ≤ 100 by decide, by omega⟩
  · rintro ρ m1 ⟨f, ln, x13, rfl, h1, h2, h3, h4⟩
    exact ⟨f, x13, rfl, h1.mono (by simpa using h2)⟩
end K01
namespace K01
open PySem L2 MI
noncomputable def bT4 : MS := (mSeq (mAsg (mLst (mCons (mC (.str "and")) (mCons (mC (.str "or")) (mCons (mC (.str "not")) (mCons (mC (.str "if")) (mCons (mC (.str "else")) (mCons (mC (.str "is")) (mCons (mC (.str "none")) (mCons (mC (.str "true")) (mCons (mC (.str "false")) (mCons (mC (.str "set")) (mCons (mC (.str "give")) (mCons (mC (.str "try")) (mCons (mC (.str "except")) (mCons (mC (.str "end")) mNil))))))))))))))) (nName 12))
    (mSeq (mFor (mAnyI (mBin gAdd (mVar 12) (mLst (mCons (mC (.str "then")) (mCons (mC (.str "program")) (mCons (mC (.str "keep")) (mCons (mC (.str "self")) (mCons (mC (.str "name")) (mCons (mC (.str "yes")) (mCons (mC (.str "event")) (mCons (mC (.str "abcdefgh")) (mCons (mC (.str "abcdefghi")) mNil)))))))))))) (nName 13) wb)
    (mSeq (mFor (mAnyI (mLst (mCons (mC (.str "a
")) (mCons (mC (.str "a ")) (mCons (mC (.str " a")) (mCons (mC (.str "	a")) (mCons (mC (.str "a	")) (mCons (mC (.str "a b")) mNil)))))))) (nName 13) wb)
    (mRet (mBin gAdd (mVar 3) (mLst (mCons (mTup (mCons (mC (.str "compare")) (mCons (mVar 10) (mCons (mSl (mVar 11) mNo (mEnd (mC (.int 3)))) mNil)))) (mCons (mTup (mCons (mC (.str "compare")) (mCons (mVar 10) (mCons (mVar 11) mNil)))) (mCons (mTup (mCons (mC (.str "compare")) (mCons (mVar 1) (mCons (mVar 11) mNil)))) mNil)))))))))
noncomputable def bT3c : MS := (mSeq (mAsg (mCall gTuple (mCons (mLc (mRng (mCons (mC (.int 4)) mNil)) (ngName 15) mYes (mTup (mCons (mC (.str "<")) (mCons (mVar 0) mNil))) [15]) mNil)) (nName 11))
    bT4)
noncomputable def bT3b : MS := (mSeq (mAsg (mBin gAdd (mVar 3) (mLst (mCons (mTup (mCons (mC (.str "and")) (mCons (mVar 10) (mCons (mVar 10) mNil)))) (mCons (mTup (mCons (mC (.str "and")) (mCons (mTup (mCons (mC (.str "and")) (mCons (mVar 10) (mCons (mVar 10) mNil)))) (mCons (mVar 1) mNil)))) (mCons (mTup (mCons (mC (.str "call")) (mCons (mC (.str "g")) (mCons (mTup (mCons (mVar 10) (mCons (mVar 1) (mCons (mVar 1) mNil)))) mNil)))) mNil))))) (nName 3))
    bT3c)
noncomputable def bT3 : MS := (mSeq (mAsg (mTup (mCons (mC (.str "call")) (mCons (mC (.str "f")) (mCons (mTup (mCons (mVar 1) (mCons (mVar 1) mNil))) mNil)))) (nName 10))
    bT3b)
noncomputable def bT2c : MS := (mSeq (mAsg (mBin gAdd (mVar 3) (mLst (mCons (mVar 9) (mCons (mTup (mCons (mC (.str "or")) (mCons (mVar 9) (mCons (mBin gItem (mVar 8) (mC (.int 4))) mNil)))) (mCons (mTup (mCons (mC (.str "and")) (mCons (mVar 9) (mCons (mBin gItem (mVar 8) (mC (.int 0))) mNil)))) mNil))))) (nName 3))
    bT3)
noncomputable def bT2b : MS := (mSeq (mAsg (mTup (mCons (mC (.str "or")) (mCons (mTup (mCons (mC (.str "and")) (mCons (mBin gItem (mVar 8) (mC (.int 0))) (mCons (mBin gItem (mVar 8) (mC (.int 1))) mNil)))) (mCons (mTup (mCons (mC (.str "and")) (mCons (mBin gItem (mVar 8) (mC (.int 2))) (mCons (mBin gItem (mVar 8) (mC (.int 3))) mNil)))) mNil)))) (nName 9))
    bT2c)
noncomputable def bT2 : MS := (mSeq (mAsg (mLc (mAnyI (mC (.str "abcde"))) (ngName 14) mYes (mTup (mCons (mC (.str "name")) (mCons (mVar 14) mNil))) [14]) (nName 8))
    bT2b)
noncomputable def bT1 : MS := (mSeq (mAsg (mBin gAdd (mVar 3) (mLst (mCons (mTup (mCons (mC (.str "and")) (mCons (mVar 5) (mCons (mVar 5) mNil)))) (mCons (mTup (mCons (mC (.str "call")) (mCons (mC (.str "g")) (mCons (mTup (mCons (mVar 5) (mCons (mVar 0) mNil))) mNil)))) (mCons (mTup (mCons (mC (.str "compare")) (mCons (mVar 5) (mCons (mTup (mCons (mTup (mCons (mC (.str "<")) (mCons (mVar 0) mNil))) (mCons (mTup (mCons (mC (.str "<")) (mCons (mVar 0) mNil))) mNil))) mNil)))) mNil))))) (nName 3))
    bT2)
noncomputable def bT0 : MS := (mSeq (mAsg (mVar 0) (nName 2))
    (mSeq (mAsg (mLst mNil) (nName 3))
    (mSeq lp1
    (mSeq (mAsg (mTup (mCons (mC (.str "and")) (mCons (mVar 0) (mCons (mVar 0) mNil)))) (nName 5))
    (mSeq lp2 (mSeq lp3 bT1))))))
theorem b_bounds (ck : Fnm → MF) : b_l_bounds ck = mSeq (mAsg (mTup (mCons (mTup (mCons (mC (.str "name")) (mCons (mC (.str "a")) mNil))) (mCons (mTup (mCons (mC (.str "call")) (mCons (mC (.str "f")) (mCons (mTup mNil) mNil)))) mNil))) (nTup 2 (nCons (nName 0) (nCons (nName 1) nNil)))) bT0 := rfl
/-- what is left of them -/
abbrev FinB (m0 : Mem) : Fl → Mem → Prop := fin (fun d m' => Fd m0 d 900 m') E0
theorem Fd.app {m0 m r : Mem} {f : MV} {a : Nat} (h : Fd m0 f a m) : Fd m0 f a (m ++ r) := by
  obtain ⟨n, l, h1, h2, h3, h4, h5, h6⟩ := h
  exact ⟨n, l, h1, Kp.app.get (S := []) h2 (by simp), h3, h4, h5, h6.trans Kp.app⟩
theorem lt3 {nm : MV} : cutM [MV.tup [MV.str "<", nm], .tup [.str "<", nm], .tup [.str "<", nm], .tup [.str "<", nm]] none (some 3) = [MV.tup [MV.str "<", nm], .tup [.str "<", nm], .tup [.str "<", nm]] := rfl
theorem ok_cmp2 {N : Nat} {d nm : MV} (h : OkV N d) (hn : OkV 1 nm) (hN : N ≤ 100) : okB 900 (.tup [.str "compare", d, .tup [MV.tup [MV.str "<", nm], MV.tup [MV.str "<", nm]]]) = true := by
  obtain ⟨a, b⟩ := h
  obtain ⟨c, e⟩ := hn
  have l1 : ("compare" : Str).length ≤ 100 := by decide
  have l2 : ("<" : Str).length ≤ 100 := by decide
  simp [okB, tyB, tyBs, nz, nzs, a, c, l1, l2]
  omega
theorem ok_cmp3 {N : Nat} {d nm : MV} (h : OkV N d) (hn : OkV 1 nm) (hN : N ≤ 100) : okB 900 (.tup [.str "compare", d, .tup [MV.tup [MV.str "<", nm], MV.tup [MV.str "<", nm], MV.tup [MV.str "<", nm]]]) = true := by
  obtain ⟨a, b⟩ := h
  obtain ⟨c, e⟩ := hn
  have l1 : ("compare" : Str).length ≤ 100 := by decide
  have l2 : ("<" : Str).length ≤ 100 := by decide
  simp [okB, tyB, tyBs, nz, nzs, a, c, l1, l2]
  omega
theorem ok_cmp4 {N : Nat} {d nm : MV} (h : OkV N d) (hn : OkV 1 nm) (hN : N ≤ 100) : okB 900 (.tup [.str "compare", d, .tup [MV.tup [MV.str "<", nm], MV.tup [MV.str "<", nm], MV.tup [MV.str "<", nm], MV.tup [MV.str "<", nm]]]) = true := by
  obtain ⟨a, b⟩ := h
  obtain ⟨c, e⟩ := hn
  have l1 : ("compare" : Str).length ≤ 100 := by decide
  have l2 : ("<" : Str).length ≤ 100 := by decide
  simp [okB, tyB, tyBs, nz, nzs, a, c, l1, l2]
  omega
theorem bT4_ok {m0 : Mem} {nm cl ch f th : MV} {lk : List MV} {x4 x5 x6 x7 x8 x9 : Option MV} {m : Mem} (hF : Fd m0 f 100 m) (hc : OkV 2 cl) (ht : OkV 6 th) (hk : lk = [.tup [.str "<", nm], .tup [.str "<", nm], .tup [.str "<", nm], .tup [.str "<", nm]]) (hn : OkV 1 nm) : MI.W (bT4 (EV nm cl ch f x4 x5 x6 x7 x8 x9 (some th) (some (.tup lk)) none none) m) (FinB m0) E0 := by
  obtain ⟨n, l, rfl, h1, h2, h3, h4, h5⟩ := hF
  have hF : Fd m0 (.ref n) 100 m := ⟨n, l, rfl, h1, h2, h3, h4, h5⟩
  unfold bT4
  simp
  refine ⟨szl (by decide), szl (by decide), ?_⟩
  refine (W_add_l (by rw [List.getElem?_append_right (by omega), Nat.sub_self]; rfl) (by rw [at_app]; rfl)).mpr ⟨szl (by decide), ?_⟩
  rw [W_it_r, List.getElem?_concat_length]
  dsimp only
  refine (wl_ok (m0 := m0) (nl := _) (b := 600) hF.app.app List.getElem?_concat_length (by simp) (by decide) (by decide +kernel) (fun m' h => (at_lst h).1)).mono ?_
  rintro a m1 ⟨f, x13, rfl, hF⟩
  rw [nxt_nx]
  simp
  refine ⟨szl (by decide), ?_⟩
  refine (wl_ok (m0 := m0) (nl := _) (b := 800) hF.app List.getElem?_concat_length (by simp) (by decide) (by decide +kernel) (fun m' h => by simp [h])).mono ?_
  rintro a m2 ⟨f, x13, rfl, hF⟩
  rw [nxt_nx, W_ret]
  refine (add1 (A := _) hF rfl (by decide) ?_).mono ?_
  · simp
    subst hk
    rw [lt3]
    exact ⟨szl (by decide), ok_cmp3 ht hn (by decide), ok_cmp4 ht hn (by decide), ok_cmp4 hc hn (by decide)⟩
  · rintro d m' ⟨h, _⟩
    exact h.mono (by decide)
theorem okB_of {N : Nat} {l : List MV} (h : OkV N (.tup l)) (hN : N ≤ 900) : okB 900 (.tup l) = true := ok_ok h hN
theorem ok_call {w : Str} {l : List MV} {N : Nat} (hw : w.length ≤ 100) (h : tyBs l = true) (hl : l.length ≤ 3) (hN : nzs l ≤ N) (hh : ∀ d r, l = d :: r → d ≠ .str "compare") : OkV (N + 2) (.tup [.str "call", .str w, .tup l]) := by
  have l1 : ("call" : Str).length ≤ 100 := by decide
  have l2 : ¬ (("call" : Str) = "compare") := by decide
  have l3 : l.length ≤ 100 := by omega
  have q : tyB (.tup l) = true := by
    unfold tyB
    simp only [h, l3, decide_true, Bool.true_and]
    split
    · rename_i w x ls
      have : w ≠ "compare" := fun e => hh (.str w) _ rfl (by rw [e])
      simp [this]
    · rfl
  constructor
  · unfold tyB
    simp [tyBs, q, l1, hw, l2, show tyB (.str "call") = true by decide, show tyB (.str w) = true by simp [tyB, hw]]
  · simp [nz, nzs]; omega
theorem bT3c_ok {m0 : Mem} {nm cl ch f th : MV} {x4 x5 x6 x7 x8 x9 : Option MV} {m : Mem} (hF : Fd m0 f 80 m) (hc : OkV 2 cl) (hn : OkV 1 nm) (ht : OkV 6 th) : MI.W (bT3c (EV nm cl ch f x4 x5 x6 x7 x8 x9 (some th) none none none) m) (FinB m0) E0 := by
  unfold bT3c
  rw [W_seq]
  simp
  refine W_pure (fun _ => MV.tup [.str "<", nm]) (fun _ => true) trivial (fun d hd => ⟨rfl, fun _ => ?_⟩) (by rw [rngL_length]; decide) ?_
  · simp [EV, wipeM, mTup, mCons, mC, mVar, mNil, Re.bind, szl (n := 2) (by decide)]
  refine bT4_ok (lk := _) ?_ hc ht ?_ hn
  · exact (hF.app).mono (by decide)
  · rfl
theorem bT3_ok {m0 : Mem} {nm cl ch f : MV} {x4 x5 x6 x7 x8 x9 : Option MV} {m : Mem} (hF : Fd m0 f 60 m) (hc : OkV 2 cl) (hn : OkV 1 nm) (hcs : cl ≠ .str "compare") : MI.W (bT3 (EV nm cl ch f x4 x5 x6 x7 x8 x9 none none none none) m) (FinB m0) E0 := by
  have ht : OkV 6 (.tup [.str "call", .str "f", .tup [cl, cl]]) := ok_call (N := 4) (by decide) (by simp [tyBs, hc.1]) (by simp) (by simp [nzs]; have := hc.2; omega) (fun d r e => by cases e; exact hcs)
  generalize hth : (MV.tup [.str "call", .str "f", .tup [cl, cl]]) = th at ht
  have tn : th ≠ .str "compare" := by rw [← hth]; simp
  have o1 := ok_two (w := "and") (by decide) (by decide) ht ht
  have o2 := ok_two (w := "and") (by decide) (by decide) o1 hc
  have o3 : OkV 12 (.tup [.str "call", .str "g", .tup [th, cl, cl]]) := ok_call (N := 10) (by decide) (by simp [tyBs, hc.1, ht.1]) (by simp) (by simp [nzs]; have := hc.2; have := ht.2; omega) (fun d r e => by cases e; exact tn)
  unfold bT3
  simp
  refine ⟨szl (by decide), szl (by decide), ?_⟩
  rw [hth]
  unfold bT3b
  rw [W_seq]
  refine addS hF rfl (by decide) ?_ fun f' m' a b => ?_
  · simp
    exact ⟨szl (by decide), ok_ok o1 (by decide), ok_ok o2 (by decide), ok_ok o3 (by decide)⟩
  · rw [nxt_nx]
    exact bT3c_ok a hc hn ht
theorem abcde : (("abcde" : Str).cps.toList.map fun c => MV.str ⟨#[c]⟩) = [.str "a", .str "b", .str "c", .str "d", .str "e"] := rfl
theorem bT2c_ok {m0 : Mem} {nm cl ch f fo a b c d e : MV} {x4 x5 x6 x7 : Option MV} {m : Mem} {n8 : Nat} (hF : Fd m0 f 40 m) (hc : OkV 2 cl) (hn : OkV 1 nm) (hcs : cl ≠ .str "compare") (ho : OkV 7 fo) (hf : ∃ l, fo = .tup l) (h8 : m[n8]? = some (.lst [a, b, c, d, e])) (ha : OkV 1 a) (he : OkV 1 e) : MI.W (bT2c (EV nm cl ch f x4 x5 x6 x7 (some (.ref n8)) (some fo) none none none none) m) (FinB m0) E0 := by
  have o1 := ok_two (w := "or") (by decide) (by decide) ho he
  have o2 := ok_two (w := "and") (by decide) (by decide) ho ha
  unfold bT2c
  rw [W_seq]
  refine addS hF rfl (by decide) ?_ fun f' m' a b => ?_
  · simp [h8, show atM [a, b, c, d, e] 4 = some e from rfl, show atM [a, b, c, d, e] 0 = some a from rfl]
    obtain ⟨l, rfl⟩ := hf
    exact ⟨szl (by decide), ok_ok ho (by decide), ok_ok o1 (by decide), ok_ok o2 (by decide)⟩
  · rw [nxt_nx]
    exact bT3_ok a hc hn hcs
theorem bT2b_ok {m0 : Mem} {nm cl ch f a b c d e : MV} {x4 x5 x6 x7 : Option MV} {m : Mem} {n8 : Nat} (hF : Fd m0 f 40 m) (hc : OkV 2 cl) (hn : OkV 1 nm) (hcs : cl ≠ .str "compare") (h8 : m[n8]? = some (.lst [a, b, c, d, e])) (ha : OkV 1 a) (hb : OkV 1 b) (hc' : OkV 1 c) (hd : OkV 1 d) (he : OkV 1 e) : MI.W (bT2b (EV nm cl ch f x4 x5 x6 x7 (some (.ref n8)) none none none none none) m) (FinB m0) E0 := by
  have fo := ok_two (w := "or") (by decide) (by decide) (ok_two (w := "and") (by decide) (by decide) ha hb) (ok_two (w := "and") (by decide) (by decide) hc' hd)
  unfold bT2b
  rw [W_seq]
  simp [h8, show atM [a, b, c, d, e] 3 = some d from rfl, show atM [a, b, c, d, e] 2 = some c from rfl, show atM [a, b, c, d, e] 1 = some b from rfl, show atM [a, b, c, d, e] 0 = some a from rfl]
  refine ⟨szl (by decide), ?_⟩
  exact bT2c_ok hF hc hn hcs fo ⟨_, rfl⟩ h8 ha he
theorem bT2_ok {m0 : Mem} {nm cl ch f : MV} {x4 x5 x6 x7 : Option MV} {m : Mem} (hF : Fd m0 f 40 m) (hc : OkV 2 cl) (hn : OkV 1 nm) (hcs : cl ≠ .str "compare") : MI.W (bT2 (EV nm cl ch f x4 x5 x6 x7 none none none none none none) m) (FinB m0) E0 := by
  unfold bT2
  rw [W_seq]
  simp
  refine W_pure (fun d => MV.tup [.str "name", d]) (fun _ => true) trivial (fun d hd => ⟨rfl, fun _ => ?_⟩) (by decide) ?_
  · simp [EV, wipeM, mTup, mCons, mC, mVar, mNil, Re.bind, szl (n := 2) (by decide)]
  have e1 : ((("abcde" : Str).cps.toList.map fun c => MV.str ⟨#[c]⟩).filter fun _ => true).map (fun d => MV.tup [.str "name", d]) = [.tup [.str "name", .str "a"], .tup [.str "name", .str "b"], .tup [.str "name", .str "c"], .tup [.str "name", .str "d"], .tup [.str "name", .str "e"]] := rfl
  rw [e1]
  have ok : ∀ z : Str, z.length ≤ 100 → OkV 1 (.tup [.str "name", .str z]) := fun z hz => ⟨by simp [tyB, tyBs, hz]; decide, by simp [nz, nzs]⟩
  have oa := ok "a" (by decide)
  have ob := ok "b" (by decide)
  have oc := ok "c" (by decide)
  have od := ok "d" (by decide)
  have oe := ok "e" (by decide)
  exact bT2b_ok hF.app hc hn hcs (by simp) oa ob oc od oe
noncomputable abbrev EV0 := EV
theorem bT1_ok {m0 : Mem} {nm cl ch f w : MV} {x4 x6 x7 : Option MV} {m : Mem} (hF : Fd m0 f 20 m) (hc : OkV 2 cl) (hn : OkV 1 nm) (hcs : cl ≠ .str "compare") (hw : OkV 31 w) (hws : w ≠ .str "compare") : MI.W (bT1 (EV nm cl ch f x4 (some w) x6 x7 none none none none none none) m) (FinB m0) E0 := by
  have o1 := ok_two (w := "and") (by decide) (by decide) hw hw
  have o3 : OkV 34 (.tup [.str "call", .str "g", .tup [w, nm]]) := ok_call (N := 32) (by decide) (by simp [tyBs, hw.1, hn.1]) (by simp) (by simp [nzs]; have := hw.2; have := hn.2; omega) (fun d r e => by cases e; exact hws)
  unfold bT1
  rw [W_seq]
  refine addS hF rfl (by decide) ?_ fun f' m' a b => ?_
  · simp
    exact ⟨szl (by decide), szl (by decide), szl (by decide), szl (by decide), szl (by decide), ok_ok o1 (by decide), ok_ok o3 (by decide), ok_cmp2 hw hn (by decide)⟩
  · rw [nxt_nx]
    exact bT2_ok a hc hn hcs
noncomputable def bT0c : MS := (mSeq (mAsg (mTup (mCons (mC (.str "and")) (mCons (mVar 0) (mCons (mVar 0) mNil)))) (nName 5))
    (mSeq lp2 (mSeq lp3 bT1)))
noncomputable def bT0b : MS := (mSeq lp1 bT0c)
theorem bT0_eq : bT0 = (mSeq (mAsg (mVar 0) (nName 2)) (mSeq (mAsg (mLst mNil) (nName 3)) bT0b)) := rfl
theorem bT0c_ok {m0 : Mem} {nm cl ch f : MV} {x4 : Option MV} {m : Mem} (hF : Fd m0 f 13 m) (hc : OkV 2 cl) (hn : OkV 1 nm) (hcs : cl ≠ .str "compare") : MI.W (bT0c (EV nm cl ch f x4 none none none none none none none none none) m) (FinB m0) E0 := by
  have o1 := ok_two (w := "and") (by decide) (by decide) hn hn
  unfold bT0c
  rw [W_seq]
  simp
  refine ⟨szl (by decide), ?_⟩
  refine (lp2_ok o1 (by simp)).mono ?_
  rintro a m1 ⟨w, x6, rfl, h1, rfl, h2⟩
  rw [nxt_nx, W_seq]
  refine (lp3_ok hn h1 hF).mono ?_
  rintro a m1 ⟨f, x7, rfl, hF⟩
  rw [nxt_nx]
  exact bT1_ok (hF.mono (by decide)) hc hn hcs h1 h2
theorem bT0_ok {nm cl : MV} {m : Mem} (hn : OkV 1 nm) (hc : OkV 2 cl) (hcs : cl ≠ .str "compare") : MI.W (bT0 [some nm, some cl, none, none, none, none, none, none, none, none, none, none, none, none, none, none] m) (FinB m) E0 := by
  rw [bT0_eq]
  simp
  unfold bT0b
  rw [W_seq]
  refine (lp1_ok (m0 := m) (nm := nm) (cl := cl) (ch := nm) (n := m.length) (r := [none, none, none, none, none, none, none, none, none, none, none, none]) ⟨Nat.le_refl _, Kp.push⟩ ⟨none, rfl⟩ List.getElem?_concat_length (hn.mono (by decide))).mono ?_
  rintro a m1 ⟨ch, f, r, rfl, ⟨x4, rfl⟩, hF⟩
  rw [nxt_nx]
  exact bT0c_ok hF hc hn hcs
theorem bounds_ok {k : Nat} {m : Mem} : MI.W (Tab (k + 1) .l_bounds [] m) (fun d m' => Fd m d 900 m') E0 := by
  show MI.W (f_l_bounds (Tab k) [] m) _ _
  unfold f_l_bounds
  rw [b_bounds]
  have on : OkV 1 (.tup [.str "name", .str "a"]) := ⟨by decide +kernel, by decide +kernel⟩
  have oc : OkV 2 (.tup [.str "call", .str "f", .tup []]) := ⟨by decide +kernel, by decide +kernel⟩
  have cs : (MV.tup [.str "call", .str "f", .tup []]) ≠ .str "compare" := by simp
  simp [startM, W_asgT, nCons, nName, nNil]
  refine ⟨szl (by decide), szl (by decide), szl (by decide), ?_⟩
  exact bT0_ok on oc cs
end K01
namespace K01
open PySem L2 MI
theorem drop_rng {lo : Int} {n i : Nat} (h : i < n) : (rngL lo n).drop i = .int (lo + i) :: (rngL lo n).drop (i + 1) := by
  rw [List.drop_eq_getElem_cons (by rw [rngL_length]; exact h)]
  simp [rngL]
theorem Src.lt {m : Mem} {s c : Nat} {t : Int} (a : Src m s c t) : s < m.length ∧ c < m.length := by
  obtain ⟨_, _, h1, h2⟩ := a.ex
  exact ⟨(List.getElem?_eq_some_iff.mp h1).1, (List.getElem?_eq_some_iff.mp h2).1⟩
theorem ixN_nat {n i : Nat} (h : i < n) : ixN n (i : Int) = some i := by
  unfold ixN
  rw [if_pos (by omega), if_pos (by omega)]
  simp
/-! ### the source -/
structure SoI (m : Mem) (e0 : MV) (rem : List MV) (ρ : MI.Env) (m' : Mem) : Prop where
  ex : ∃ (i c N : Nat) (cs : List Int) (x2 : Option MV), rem = (rngL 0 N).drop i ∧ ρ = [some e0, some (.ref c), x2] ∧ m'[c]? = some (.lst (cs.map .int)) ∧ cs.length = N ∧ m.length ≤ c ∧ Kp [] m m'
theorem source_ok {k : Nat} {m : Mem} {ns : List Int} : MI.W (Tab (k + 1) .l_source [.kl (ns.map .int)] m) (fun d m' => ∃ s c, d = .ref s ∧ Src m' s c 0 ∧ m.length ≤ s ∧ m.length ≤ c ∧ Kp [] m m') E0 := by
  show MI.W (f_l_source (Tab k) [.kl (ns.map .int)] m) _ _
  unfold f_l_source b_l_source
  simp [startM]
  have hcut : ∃ cs : List Int, cutM (ns.map MV.int) none (some 63) = cs.map .int ∧ cs.length ≤ 63 := ⟨cutM ns none (some 63), by unfold cutM; simp [List.map_take, List.map_drop], by unfold cutM HT.sIx; simp; omega⟩
  obtain ⟨cs, e1, e2⟩ := hcut
  rw [e1]
  simp
  refine ⟨by omega, ?_⟩
  refine W_loop (SoI m (.kl (ns.map .int))) _ _ _ ⟨0, _, _, cs, none, rfl, rfl, List.getElem?_concat_length, by simp, Nat.le_refl _, Kp.push⟩ (fun _ _ _ _ => trivial) ?_ ?_
  · rintro d rem ρ m1 ⟨i, c, N, cs, x2, q1, rfl, q3, q4, q5, q6⟩
    by_cases hi : i < N
    · rw [drop_rng hi] at q1
      cases q1
      have ea : atM (cs.map MV.int) (i : Nat) = some (.int cs[i]) := atM_nat (by simp [q4, hi])
      have pw1 : CPowW 10 18 := by decide
      have pw2 : CPowW 10 60 := by decide
      have pw3 : CPowW 1000000000000000000000000000000000000000000000000000000000000 20 := by decide
      have st : ∀ v : Int, SoI m (.kl (ns.map .int)) ((rngL 0 N).drop (i + 1)) [some (.kl (ns.map .int)), some (.ref c), some (.int (i : Nat))] (m1.set c (.lst ((cs.map MV.int).set i (.int v)))) := fun v =>
        ⟨i + 1, c, N, cs.set i v, _, rfl, rfl, by rw [at_set q3, List.map_set], by simpa using q4, q5, q6.wrN q5⟩
      have nx : SoI m (.kl (ns.map .int)) ((rngL 0 N).drop (i + 1)) [some (.kl (ns.map .int)), some (.ref c), some (.int (i : Nat))] m1 := ⟨i + 1, c, N, cs, _, rfl, rfl, q3, q4, q5, q6⟩
      simp [q3, ea, pw1, pw2, pw3, ixN_nat, q4, hi]
      split
      · split
        · exact st _
        · exact nx
      · split
        · exact st _
        · exact nx
    · rw [List.drop_of_length_le (by rw [rngL_length]; omega)] at q1
      cases q1
  · rintro ρ m1 ⟨i, c, N, cs, x2, q1, rfl, q3, q4, q5, q6⟩
    simp
    have lc : c < m1.length := (List.getElem?_eq_some_iff.mp q3).1
    have q3' : (m1 ++ [MO.lst []])[c]? = some (.lst (cs.map .int)) := (Kp.push (S := [])).get q3 (by simp)
    rw [q3']
    simp
    have lm := q6.1
    split
    · refine ⟨szl (by decide), szl (by decide), m1.length + 1, ⟨⟨[0], by simp, ?_, ?_⟩, by omega, by omega⟩, by omega, by omega, q6.trans Kp.app⟩
      · rw [show m1.length + 1 + 1 = m1.length + 2 by omega, at_app]; rfl
      · rw [at_app]; rfl
    · refine ⟨szl (by decide), c, ⟨⟨cs, by assumption, ?_, ?_⟩, by omega, by omega⟩, by omega, by omega, q6.trans Kp.app⟩
      · rw [at_app]; rfl
      · exact (Kp.app (S := [])).get q3 (by simp)
/-! ### expressions that are drawn -/
structure Any (s c : Nat) (m : Mem) (t : Int) (d : MV) (m' : Mem) : Prop where
  ex : ∃ x, d = enc x ∧ Ok x ∧ size x ≤ 40 ∧ levels x ≤ 12
  src : ∃ t', Src m' s c t' ∧ t ≤ t' ∧ t' ≤ t + 1300000000
  len : m.length ≤ m'.length
theorem any_ok {k s c : Nat} {m : Mem} {t : Int} (a : Src m s c t) (ht : t < 2 ^ 57) : MI.W (Tab (k + 31) .l_any_expr [.ref s] m) (Any s c m t) E0 := by
  show MI.W (f_l_any_expr (Tab (k + 30)) [.ref s] m) _ _
  unfold f_l_any_expr b_l_any_expr
  simp [startM, W_asgT, nCons, nName, nNil]
  refine ⟨szl (by decide), szl (by decide), ?_⟩
  have sl := a.lt
  refine (pick_ok (k := k + 28) (t := t) (l := [.tup [.int 3, .int 3], .tup [.int 7, .int 4], .tup [.int 12, .int 5], .tup [.int 24, .int 8], .tup [.int 39, .int 12]]) (a.kp (S := []) Kp.push (by simp) (by simp)) (by simp) (by simp) (by simp) (by omega) (by omega) (by omega)).mono ?_
  rintro d m3 ⟨hd, a3, k3, _⟩
  obtain ⟨p, dp, rfl, p0, p1, dp1, hB⟩ : ∃ (p : Int) (dp : Nat), d = .tup [.int p, .int ((dp + 1 : Nat) : Int)] ∧ 0 ≤ p ∧ p ≤ 39 ∧ dp ≤ 11 ∧ B (dp + 1) ≤ 1299999990 := by
    simp only [List.mem_cons, List.not_mem_nil, or_false] at hd
    rcases hd with rfl | rfl | rfl | rfl | rfl
    · exact ⟨3, 2, rfl, by omega, by omega, by omega, by decide⟩
    · exact ⟨7, 3, rfl, by omega, by omega, by omega, by decide⟩
    · exact ⟨12, 4, rfl, by omega, by omega, by omega, by decide⟩
    · exact ⟨24, 7, rfl, by omega, by omega, by omega, by decide⟩
    · exact ⟨39, 11, rfl, by omega, by omega, by omega, by decide⟩
  simp
  refine (draw_ok (k := k + 29) (lim := 7) a3 (by decide) (by decide) (by omega)).mono ?_
  rintro d m4 ⟨e, rfl, e0, e1, a4, k4, _⟩
  refine ⟨szl (by decide), ?_⟩
  have s4 := a4.lt
  have dr : Dr s c m4.length m4.length ["a", "b", "cd", "z"] (m4 ++ [MO.lst [.int p, .int e]]) (t + 1 + 1) p e := ⟨a4.kp (S := []) Kp.push (by simp) (by simp), List.getElem?_concat_length, ⟨rfl, rfl⟩, by omega, by omega, p0, e0⟩
  have nm : Nms ["a", "b", "cd", "z"] := ⟨by simp, by simp, by decide⟩
  rw [show k + 30 = (k + 26 - 2 * dp) + 4 + 2 * dp by omega]
  refine (expr_ok dp (k + 26 - 2 * dp) s c m4.length m4.length _ _ _ p e dr nm (by omega)).mono ?_
  rintro d m5 ⟨⟨x, t', p', e', rfl, ox, h1, h2, h3, h4, h5, h6, D⟩, k5⟩
  have px := D.p0
  have l1 := k3.1
  have l2 := k4.1
  have l3 := k5.1
  simp at l1 l3
  exact ⟨⟨x, rfl, ox, by omega, by omega⟩, ⟨t', D.src, by omega, by omega⟩, by omega⟩
/-! ### the law -/
structure LvI (m0 : Mem) (s c nf : Nat) (k : MV) (l : List MV) (rem : List MV) (ρ : MI.Env) (m' : Mem) : Prop where
  ex : ∃ x2, ρ = [some k, some (.ref s), x2, none, none] ∧ rem.all (okB 900) = true ∧ m'[nf]? = some (.lst l) ∧ Src m' s c 0
structure LaI (s c : Nat) (k : MV) (x2 : Option MV) (rem : List MV) (ρ : MI.Env) (m' : Mem) : Prop where
  ex : ∃ (j : Nat) (x3 x4 : Option MV) (t : Int), rem = (rngL 0 30).drop j ∧ j ≤ 30 ∧ ρ = [some k, some (.ref s), x2, x3, x4] ∧ 0 ≤ t ∧ t ≤ j * 1300000100 ∧ Src m' s c t
theorem law_ok {k : Nat} {ns : List Int} : MI.W (Tab (k + 32) .law [.kl (ns.map .int)] []) (fun d m' => d = .bl true) E0 := by
  have e : Tab (k + 32) .law = f_law (Tab (k + 31)) := rfl
  rw [e]
  unfold f_law b_law
  simp [startM]
  refine (source_ok (k := k + 30)).mono ?_
  rintro d m1 ⟨s, c, rfl, a1, l1, l2, k1⟩
  refine (bounds_ok (k := k + 30)).mono ?_
  rintro d m2 ⟨n, l, rfl, h1, h2, h3, h4, h5⟩
  have a2 := a1.kp h5 (by simp) (by simp)
  rw [W_it_r, h1]
  dsimp only
  refine W_loop (LvI m1 s c n (.kl (ns.map .int)) l) _ _ _ ⟨none, rfl, h2, h1, a2⟩ (fun _ _ m' h => ?_) ?_ ?_
  · obtain ⟨_, _, _, h, _⟩ := h
    exact (at_lst h).1
  · rintro d rem ρ m3 ⟨x2, rfl, g1, g2, g3⟩
    rw [List.all_cons, Bool.and_eq_true] at g1
    simp
    have gd : G [] m3 900 d := okB_G g1.1
    refine (lfits_ok (k := k) gd.ty (small_nz gd.nz)).mono ?_
    rintro v m4 ⟨rfl, k4⟩
    simp
    exact ⟨_, rfl, g1.2, k4.get g2 (by simp), g3.kp k4 (by simp) (by simp)⟩
  · rintro ρ m3 ⟨x2, rfl, g1, g2, g3⟩
    rw [nxt_nx]
    simp
    refine W_loop (LaI s c (.kl (ns.map .int)) x2) _ _ _ ⟨0, none, none, 0, rfl, by omega, rfl, by omega, by omega, g3⟩ (fun _ _ _ _ => trivial) ?_ ?_
    · rintro d rem ρ m4 ⟨j, x3, x4, t, q1, q2, rfl, t0, t1, a4⟩
      by_cases hj : j < 30
      · rw [drop_rng hj] at q1
        cases q1
        simp
        refine (any_ok (k := k) a4 (by omega)).mono ?_
        rintro d m5 ⟨⟨x, rfl, ox, sx, lx⟩, ⟨t', a5, t2, t3⟩, _⟩
        refine (lfits_ok (k := k) (S := [s, c]) (enc_TyV x ox) (fun y e oy => by rw [← enc_inj ox oy e]; omega)).mono ?_
        rintro v m6 ⟨rfl, k6⟩
        simp
        have a6 := a5.kp k6 (by simp) (by simp)
        rw [show k + 31 = (k + 15) + 4 + 12 by omega]
        refine (bent_ok 12 (k + 15) s c x m6 t' a6 ox sx lx (by omega) (by omega)).mono ?_
        rintro d m7 ⟨gd, ⟨t4, a7, t5, t6⟩, _⟩
        have n1 := (size_nz x ox).2
        rw [show k + 15 + 4 + 12 = k + 31 by omega]
        refine (lfits_ok (k := k) gd.ty (small_nz (by have := gd.nz; omega))).mono ?_
        rintro v m8 ⟨rfl, k8⟩
        simp
        exact ⟨j + 1, _, _, t4, rfl, by omega, rfl, by omega, by omega, a7.kp k8 (by simp) (by simp)⟩
      · rw [List.drop_of_length_le (by rw [rngL_length]; omega)] at q1
        cases q1
    · rintro ρ m4 ⟨j, x3, x4, t, q1, q2, rfl, t0, t1, a4⟩
      simp
end K01
namespace K01
open PySem L2 MI
theorem of_W {r : Re MV} (h : MI.W r (fun d _ => d = .bl true) E0) : ∃ m', r = .ok (.bl true) m' := by
  cases r with
  | ok d m => exact ⟨m, by rw [show d = .bl true from h]⟩
  | ex x m => exact h.elim
  | stuck => exact h.elim
theorem law_all {ns : List Int} (j : Nat) (hj : j = 118 + 32) : MI.W (Tab j .law [.kl (ns.map .int)] []) (fun d m' => d = .bl true) E0 := by
  subst hj
  with_reducible exact law_ok (k := 118) (ns := ns)
theorem law_true : ∀ ns : List Int, ns.length ≤ 63 → (∀ z ∈ ns, Builtin.Int.intBits z ≤ 1048576) → ∃ m', Tab 150 .law [.kl (ns.map .int)] [] = .ok (.bl true) m' := by
  intro ns _ _
  apply of_W
  with_reducible exact law_all (ns := ns) 150 rfl
end K01
open PySem PySem.W PyProof.Rows
set_option maxRecDepth 100000 in
set_option maxHeartbeats 0 in
theorem PySem.Challenge.cw_keptops_k01_expressions_holds : PySem.Challenge.rw_keptops_k01_expressions.Holds := by
  w_on; o_law; k_head; (case hw => w_witness2)
  k_fill
  refine MI.walkM (l := PySem.Challenge.rw_keptops_k01_expressions) (k := 150) (x := "_law_script") (F := K01.Tab 150 .law) rfl rfl ⟨rfl, by decide, by decide⟩ (fun w h Y => PySem.W.km_in_of Y) ?G K01.law_true
  case G =>
    intro w mg fa h KX G hmg
    refine K01.law_at ?D ?T 149 hmg
    case D =>
      refine ⟨?d0, ?d1, ?d2, ?d3, ?d4, ?d5, ?d6, ?d7, ?d8, ?d9, ?d10, ?d11, ?d12, ?d13, ?d14, ?d15, ?d16, ?d17, ?d18, ?d19, ?d20, ?d21, ?d22, ?d23, ?d24, ?d25, ?d26, ?d27, ?d28, ?d29, ?d30, ?d31, ?d32, ?d33, ?d34, ?d35, ?d36, ?d37, ?d38, ?d39, ?d40, ?d41, ?d42, ?d43⟩
      (case d0 => refine' MI.def_mk KX G ?a ?l ?c ?k (fun _ _ _ _ _ _ us hl => match us, hl with | [_], _ => rfl); (case a => k_is); (case l => k_is); (case c => k_is); (case k => k_is))
      (case d1 => refine' MI.def_mk KX G ?a ?l ?c ?k (fun _ _ _ _ _ _ us hl => match us, hl with | [_], _ => rfl); (case a => k_is); (case l => k_is); (case c => k_is); (case k => k_is))
      (case d2 => refine' MI.def_mk KX G ?a ?l ?c ?k (fun _ _ _ _ _ _ us hl => match us, hl with | [_], _ => rfl); (case a => k_is); (case l => k_is); (case c => k_is); (case k => k_is))
      (case d3 => refine' MI.def_mk KX G ?a ?l ?c ?k (fun _ _ _ _ _ _ us hl => match us, hl with | [_, _, _], _ => rfl); (case a => k_is); (case l => k_is); (case c => k_is); (case k => k_is))
      (case d4 => refine' MI.def_mk KX G ?a ?l ?c ?k (fun _ _ _ _ _ _ us hl => match us, hl with | [_], _ => rfl); (case a => k_is); (case l => k_is); (case c => k_is); (case k => k_is))
      (case d5 => refine' MI.def_mk KX G ?a ?l ?c ?k (fun _ _ _ _ _ _ us hl => match us, hl with | [_], _ => rfl); (case a => k_is); (case l => k_is); (case c => k_is); (case k => k_is))
      (case d6 => refine' MI.def_mk KX G ?a ?l ?c ?k (fun _ _ _ _ _ _ us hl => match us, hl with | [_, _], _ => rfl); (case a => k_is); (case l => k_is); (case c => k_is); (case k => k_is))
      (case d7 => refine' MI.def_mk KX G ?a ?l ?c ?k (fun _ _ _ _ _ _ us hl => match us, hl with | [_], _ => rfl); (case a => k_is); (case l => k_is); (case c => k_is); (case k => k_is))
      (case d8 => refine' MI.def_mk KX G ?a ?l ?c ?k (fun _ _ _ _ _ _ us hl => match us, hl with | [_], _ => rfl); (case a => k_is); (case l => k_is); (case c => k_is); (case k => k_is))
      (case d9 => refine' MI.def_mk KX G ?a ?l ?c ?k (fun _ _ _ _ _ _ us hl => match us, hl with | [_], _ => rfl); (case a => k_is); (case l => k_is); (case c => k_is); (case k => k_is))
      (case d10 => refine' MI.def_mk KX G ?a ?l ?c ?k (fun _ _ _ _ _ _ us hl => match us, hl with | [_], _ => rfl); (case a => k_is); (case l => k_is); (case c => k_is); (case k => k_is))
      (case d11 => refine' MI.def_mk KX G ?a ?l ?c ?k (fun _ _ _ _ _ _ us hl => match us, hl with | [_], _ => rfl); (case a => k_is); (case l => k_is); (case c => k_is); (case k => k_is))
      (case d12 => refine' MI.def_mk KX G ?a ?l ?c ?k (fun _ _ _ _ _ _ us hl => match us, hl with | [_], _ => rfl); (case a => k_is); (case l => k_is); (case c => k_is); (case k => k_is))
      (case d13 => refine' MI.def_mk KX G ?a ?l ?c ?k (fun _ _ _ _ _ _ us hl => match us, hl with | [_], _ => rfl); (case a => k_is); (case l => k_is); (case c => k_is); (case k => k_is))
      (case d14 => refine' MI.def_mk KX G ?a ?l ?c ?k (fun _ _ _ _ _ _ us hl => match us, hl with | [_, _], _ => rfl); (case a => k_is); (case l => k_is); (case c => k_is); (case k => k_is))
      (case d15 => refine' MI.def_mk KX G ?a ?l ?c ?k (fun _ _ _ _ _ _ us hl => match us, hl with | [_, _, _], _ => rfl); (case a => k_is); (case l => k_is); (case c => k_is); (case k => k_is))
      (case d16 => refine' MI.def_mk KX G ?a ?l ?c ?k (fun _ _ _ _ _ _ us hl => match us, hl with | [_, _, _], _ => rfl); (case a => k_is); (case l => k_is); (case c => k_is); (case k => k_is))
      (case d17 => refine' MI.def_mk KX G ?a ?l ?c ?k (fun _ _ _ _ _ _ us hl => match us, hl with | [_, _], _ => rfl); (case a => k_is); (case l => k_is); (case c => k_is); (case k => k_is))
      (case d18 => refine' MI.def_mk KX G ?a ?l ?c ?k (fun _ _ _ _ _ _ us hl => match us, hl with | [_], _ => rfl); (case a => k_is); (case l => k_is); (case c => k_is); (case k => k_is))
      (case d19 => refine' MI.def_mk KX G ?a ?l ?c ?k (fun _ _ _ _ _ _ us hl => match us, hl with | [_, _], _ => rfl); (case a => k_is); (case l => k_is); (case c => k_is); (case k => k_is))
      (case d20 => refine' MI.def_mk KX G ?a ?l ?c ?k (fun _ _ _ _ _ _ us hl => match us, hl with | [_, _, _], _ => rfl); (case a => k_is); (case l => k_is); (case c => k_is); (case k => k_is))
      (case d21 => refine' MI.def_mk KX G ?a ?l ?c ?k (fun _ _ _ _ _ _ us hl => match us, hl with | [_], _ => rfl); (case a => k_is); (case l => k_is); (case c => k_is); (case k => k_is))
      (case d22 => refine' MI.def_mk KX G ?a ?l ?c ?k (fun _ _ _ _ _ _ us hl => match us, hl with | [_], _ => rfl); (case a => k_is); (case l => k_is); (case c => k_is); (case k => k_is))
      (case d23 => refine' MI.def_mk KX G ?a ?l ?c ?k (fun _ _ _ _ _ _ us hl => match us, hl with | [_], _ => rfl); (case a => k_is); (case l => k_is); (case c => k_is); (case k => k_is))
      (case d24 => refine' MI.def_mk KX G ?a ?l ?c ?k (fun _ _ _ _ _ _ us hl => match us, hl with | [_, _], _ => rfl); (case a => k_is); (case l => k_is); (case c => k_is); (case k => k_is))
      (case d25 => refine' MI.def_mk KX G ?a ?l ?c ?k (fun _ _ _ _ _ _ us hl => match us, hl with | [_, _], _ => rfl); (case a => k_is); (case l => k_is); (case c => k_is); (case k => k_is))
      (case d26 => refine' MI.def_mk KX G ?a ?l ?c ?k (fun _ _ _ _ _ _ us hl => match us, hl with | [_, _], _ => rfl); (case a => k_is); (case l => k_is); (case c => k_is); (case k => k_is))
      (case d27 => refine' MI.def_mk KX G ?a ?l ?c ?k (fun _ _ _ _ _ _ us hl => match us, hl with | [_, _, _], _ => rfl); (case a => k_is); (case l => k_is); (case c => k_is); (case k => k_is))
      (case d28 => refine' MI.def_mk KX G ?a ?l ?c ?k (fun _ _ _ _ _ _ us hl => match us, hl with | [_, _, _], _ => rfl); (case a => k_is); (case l => k_is); (case c => k_is); (case k => k_is))
      (case d29 => refine' MI.def_mk KX G ?a ?l ?c ?k (fun _ _ _ _ _ _ us hl => match us, hl with | [_], _ => rfl); (case a => k_is); (case l => k_is); (case c => k_is); (case k => k_is))
      (case d30 => refine' MI.def_mk KX G ?a ?l ?c ?k (fun _ _ _ _ _ _ us hl => match us, hl with | [_], _ => rfl); (case a => k_is); (case l => k_is); (case c => k_is); (case k => k_is))
      (case d31 => refine' MI.def_mk KX G ?a ?l ?c ?k (fun _ _ _ _ _ _ us hl => match us, hl with | [_], _ => rfl); (case a => k_is); (case l => k_is); (case c => k_is); (case k => k_is))
      (case d32 => refine' MI.def_mk KX G ?a ?l ?c ?k (fun _ _ _ _ _ _ us hl => match us, hl with | [_], _ => rfl); (case a => k_is); (case l => k_is); (case c => k_is); (case k => k_is))
      (case d33 => refine' MI.def_mk KX G ?a ?l ?c ?k (fun _ _ _ _ _ _ us hl => match us, hl with | [_], _ => rfl); (case a => k_is); (case l => k_is); (case c => k_is); (case k => k_is))
      (case d34 => refine' MI.def_mk KX G ?a ?l ?c ?k (fun _ _ _ _ _ _ us hl => match us, hl with | [_, _], _ => rfl); (case a => k_is); (case l => k_is); (case c => k_is); (case k => k_is))
      (case d35 => refine' MI.def_mk KX G ?a ?l ?c ?k (fun _ _ _ _ _ _ us hl => match us, hl with | [_, _], _ => rfl); (case a => k_is); (case l => k_is); (case c => k_is); (case k => k_is))
      (case d36 => refine' MI.def_mk KX G ?a ?l ?c ?k (fun _ _ _ _ _ _ us hl => match us, hl with | [_], _ => rfl); (case a => k_is); (case l => k_is); (case c => k_is); (case k => k_is))
      (case d37 => refine' MI.def_mk KX G ?a ?l ?c ?k (fun _ _ _ _ _ _ us hl => match us, hl with | [_, _], _ => rfl); (case a => k_is); (case l => k_is); (case c => k_is); (case k => k_is))
      (case d38 => refine' MI.def_mk KX G ?a ?l ?c ?k (fun _ _ _ _ _ _ us hl => match us, hl with | [_, _], _ => rfl); (case a => k_is); (case l => k_is); (case c => k_is); (case k => k_is))
      (case d39 => refine' MI.def_mk KX G ?a ?l ?c ?k (fun _ _ _ _ _ _ us hl => match us, hl with | [_, _], _ => rfl); (case a => k_is); (case l => k_is); (case c => k_is); (case k => k_is))
      (case d40 => refine' MI.def_mk KX G ?a ?l ?c ?k (fun _ _ _ _ _ _ us hl => match us, hl with | [_, _], _ => rfl); (case a => k_is); (case l => k_is); (case c => k_is); (case k => k_is))
      (case d41 => refine' MI.def_mk KX G ?a ?l ?c ?k (fun _ _ _ _ _ _ us hl => match us, hl with | [_], _ => rfl); (case a => k_is); (case l => k_is); (case c => k_is); (case k => k_is))
      (case d42 => refine' MI.def_mk KX G ?a ?l ?c ?k (fun _ _ _ _ _ _ us hl => match us, hl with | [], _ => rfl); (case a => k_is); (case l => k_is); (case c => k_is); (case k => k_is))
      (case d43 => refine' MI.def_mk KX G ?a ?l ?c ?k (fun _ _ _ _ _ _ us hl => match us, hl with | [_], _ => rfl); (case a => k_is); (case l => k_is); (case c => k_is); (case k => k_is))
    case T =>
      refine ⟨?t0, ?t1, ?t2, ?t3, ?t4, ?t5, ?t6, ?t7, ?t8, ?t9, ?t10, ?t11, ?t12, ?t13, ?t14, ?t15, ?t16, ?t17, ?t18, ?t19, ?t20, ?t21, ?t22, ?t23, ?t24, ?t25, ?t26, ?t27, ?t28, ?t29, ?t30, ?t31, ?t32, ?t33, ?t34, ?t35⟩
      (case t0 => (refine' PySem.W.mg_none_of KX G ?a; (case a => k_is)))
      (case t1 => (refine' PySem.W.mg_none_of KX G ?a; (case a => k_is)))
      (case t2 => (refine' PySem.W.mg_none_of KX G ?a; (case a => k_is)))
      (case t3 => (refine' PySem.W.mg_none_of KX G ?a; (case a => k_is)))
      (case t4 => (refine' PySem.W.mg_none_of KX G ?a; (case a => k_is)))
      (case t5 => (refine' PySem.W.mg_none_of KX G ?a; (case a => k_is)))
      (case t6 => (refine' PySem.W.mg_none_of KX G ?a; (case a => k_is)))
      (case t7 => (refine' PySem.W.mg_none_of KX G ?a; (case a => k_is)))
      (case t8 => (refine' PySem.W.mg_none_of KX G ?a; (case a => k_is)))
      (case t9 => (refine' PySem.W.mg_none_of KX G ?a; (case a => k_is)))
      (case t10 => (refine' PySem.W.mg_none_of KX G ?a; (case a => k_is)))
      (case t11 => (refine' PySem.W.mg_none_of KX G ?a; (case a => k_is)))
      (case t12 => (refine' PySem.W.mg_none_of KX G ?a; (case a => k_is)))
      (case t13 => (refine' PySem.W.mg_none_of KX G ?a; (case a => k_is)))
      (case t14 => (refine' PySem.W.mg_none_of KX G ?a; (case a => k_is)))
      (case t15 => (refine' PySem.W.mg_none_of KX G ?a; (case a => k_is)))
      (case t16 => (refine' MI.con_any 3 KX G ?a ?e; (case a => k_is); (case e => rfl)))
      (case t17 => (refine' MI.con_any 3 KX G ?a ?e; (case a => k_is); (case e => rfl)))
      (case t18 => (refine' MI.con_any 3 KX G ?a ?e; (case a => k_is); (case e => rfl)))
      (case t19 => (refine' MI.con_any 3 KX G ?a ?e; (case a => k_is); (case e => rfl)))
      (case t20 => (refine' MI.con_any 3 KX G ?a ?e; (case a => k_is); (case e => rfl)))
      (case t21 => (refine' MI.con_any 3 KX G ?a ?e; (case a => k_is); (case e => rfl)))
      (case t22 => (refine' MI.con_any 3 KX G ?a ?e; (case a => k_is); (case e => rfl)))
      (case t23 => (refine' MI.con_any 3 KX G ?a ?e; (case a => k_is); (case e => rfl)))
      (case t24 => (refine' MI.con_any 3 KX G ?a ?e; (case a => k_is); (case e => rfl)))
      (case t25 => (refine' MI.con_any 3 KX G ?a ?e; (case a => k_is); (case e => rfl)))
      (case t26 => (refine' MI.con_any 3 KX G ?a ?e; (case a => k_is); (case e => rfl)))
      (case t27 => (refine' MI.con_any 3 KX G ?a ?e; (case a => k_is); (case e => rfl)))
      (case t28 => (refine' MI.tab_mk KX G ?a ?l ?c ?e ?z; (case a => k_is); (case l => k_is); (case c => repeat (first | exact True.intro | refine ⟨⟨_, _, rfl, rfl⟩, ?_⟩)); (case e => rfl); (case z => rfl)))
      (case t29 => (refine' MI.exf_mk KX G ?a ?b ?c ?d ?e; (case a => k_is); (case b => k_exc); (case c => k_is); (case d => k_is); (case e => k_is)))
      (case t30 => (refine' MI.exf_mk KX G ?a ?b ?c ?d ?e; (case a => k_is); (case b => k_exc); (case c => k_is); (case d => k_is); (case e => k_is)))
      (case t31 => (refine' MI.exf_mk KX G ?a ?b ?c ?d ?e; (case a => k_is); (case b => k_exc); (case c => k_is); (case d => k_is); (case e => k_is)))
      (case t32 => (refine' MI.hnd_mk KX G ?a ?e; (case a => k_is); (case e => rfl)))
      (case t33 => (refine' MI.hnd_mk KX G ?a ?e; (case a => k_is); (case e => rfl)))
      (case t34 => (refine' MI.isx_own KX G ?a ?e; (case a => k_is); (case e => rfl)))
      (case t35 => (refine' MI.isx_blt (T := "ValueError") KX G ?a (by decide +kernel) ?e; (case a => k_is); (case e => rfl)))
