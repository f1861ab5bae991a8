import PyProof.Rows.All
import Wide.All
import OpenK.AllK
import Wide.FinOn
import HandS.ForMost
import HandS.ForExc
import HandS.Flow
import HandS.Wide
import HandS.NoneIn
import HandS.Conv
import HandS.Star
import HandS.IsInst
import HandS.TupAny
import HandS.TupMul
import HandS.Deep
import HandS.Text
import HandS.CallSlots
import HandS.Walk
import HandS.Flt
import HandS.More
import HandS.Iter
import HandS.ExcOwn
import HandS.TryOnly
import HandS.ExcCtx
import HandS.SuiteRaise
import HandS.RaiseFrom
import HandS.ExcIs
import KE.GoesEnum
import KE.KDictZip
import HandS.Zip
import HandS.SetFor
import HandS.EndBits
import HandS.Words
import HandS.Style
import HandS.DictComp
import HandS.NestedK
import HandS.ClsMeth
import HandS.EndTab
import HandS.Comp
import PyProof.NeKinds
import HandS.Property
import PySem.Challenge.RW_keptops_k17_parts_of_values
set_option Elab.async false
set_option linter.all false
set_option maxRecDepth 100000
namespace MI
open PySem L2
/-- the code objects that a run makes: what each place's is called, by line and column; the tables that stand at the start -/
class Nms where
  nm : Nat → Nat → Str
  tb : PySem.W.Frag → List Addr
/-- values: tuples are told by what they hold, mutable objects by their number -/
inductive MV where
  | non | bl (b : Bool) | int (i : Int) | str (s : Str) | tup (l : List MV) | ref (n : Nat) | kl (l : List MV) | clo (c : Addr) (β : List Addr)
/-- an exception: its class's name -/
structure Exn where
  cls : Str
/-- objects -/
inductive MO where
  | lst (l : List MV) | frz (l : List MV) | dct (l : List (Key × MV)) | exn (x : Exn) | own (c : Str) (l : List (Str × MV))
abbrev Mem := List MO
abbrev Env := List (Option MV)
inductive Re (α : Type) where
  | ok (a : α) (m : Mem) | ex (x : Exn) (m : Mem) | stuck
/-- how a statement ends -/
inductive Fl where
  | nx (ρ : Env) | rt (d : MV) | bk (ρ : Env) | ct (ρ : Env) | ex (x : Exn) (ρ : Env)
abbrev ME := Env → Mem → Re MV
abbrev MT := Env → Mem → Re Bool
abbrev MA := Env → Mem → Re (List MV)
abbrev MS := Env → Mem → Re Fl
abbrev MF := List MV → Mem → Re MV
def Re.bind {α γ : Type} : Re α → (α → Mem → Re γ) → Re γ
  | .ok a m, f => f a m
  | .ex x m, _ => .ex x m
  | .stuck, _ => .stuck
/-- a list that nobody writes: the script, or one of the module -/
def KL (K : PySem.W.Frag) (β : List Addr) (H : Hp) (a : Addr) (vs : List V) : Prop :=
  (a ∉ β ∧ ∃ ob, H a = some (.frz ob (.lst vs))) ∨ ∃ (o : Obj) (its : Array Value) (n : Nat), K.lookup a = some o ∧ o.cls = .type "list" ∧ o.dict = none ∧ o.data = .seq its n ∧ its.size ≤ sizeLine ∧ Vals vs its.toList
mutual
inductive RV (K : PySem.W.Frag) (β : List Addr) (H : Hp) : MV → V → Prop
  | non : RV K β H .non .non
  | bl (b : Bool) : RV K β H (.bl b) (.bl b)
  | int (i : Int) : RV K β H (.int i) (.int i)
  | str (x : Str) : RV K β H (.str x) (.str x)
  | tup {a : Addr} {ds : List MV} {vs : List V} : SqT K H a vs → RVs K β H ds vs → RV K β H (.tup ds) (.ref a)
  | ref {n : Nat} {a : Addr} : β[n]? = some a → RV K β H (.ref n) (.ref a)
  | kl {a : Addr} {ds : List MV} {vs : List V} : KL K β H a vs → RVs K β H ds vs → RV K β H (.kl ds) (.ref a)
  | clo {c : Addr} {β0 : List Addr} : (∀ (n : Nat) (a : Addr), β0[n]? = some a → β[n]? = some a) → RV K β H (.clo c β0) (.ref c)
inductive RVs (K : PySem.W.Frag) (β : List Addr) (H : Hp) : List MV → List V → Prop
  | nil : RVs K β H [] []
  | cons {d : MV} {v : V} {ds : List MV} {vs : List V} : RV K β H d v → RVs K β H ds vs → RVs K β H (d :: ds) (v :: vs)
end
/-- pairs of a dict -/
inductive RKs (K : PySem.W.Frag) (β : List Addr) (H : Hp) : List (Key × MV) → List (Key × V) → Prop
  | nil : RKs K β H [] []
  | cons {k : Key} {d : MV} {v : V} {ds : List (Key × MV)} {vs : List (Key × V)} : RV K β H d v → RKs K β H ds vs → RKs K β H ((k, d) :: ds) ((k, v) :: vs)
/-- values of an object -/
inductive RFs (K : PySem.W.Frag) (β : List Addr) (H : Hp) : List (Str × MV) → List (Str × V) → Prop
  | nil : RFs K β H [] []
  | cons {k : Str} {d : MV} {v : V} {ds : List (Str × MV)} {vs : List (Str × V)} : RV K β H d v → RFs K β H ds vs → RFs K β H ((k, d) :: ds) ((k, v) :: vs)
/-- the class of that name -/
def ClsN (K : PySem.W.Frag) (x : Str) (C : Addr) : Prop := PySem.W.nsIn K mainGlobals x = some (some (.ref C))
/-- an exception object that is kept -/
def ExH (cls : Value) (a : Addr) : HO := .ext fun h => ∃ (oe : Obj) (vs : Array Value), h.get? a = some oe ∧ oe.cls = cls ∧ oe.dict = none ∧ oe.data = .fields vs
def RO (K : PySem.W.Frag) (β : List Addr) (H : Hp) (o : MO) (a : Addr) : Prop :=
  match o with
  | .lst l => ∃ vs, H a = some (.lst vs) ∧ RVs K β H l vs
  | .frz l => ∃ vs ob, H a = some (.frz ob (.lst vs)) ∧ RVs K β H l vs
  | .dct l => ∃ vs, H a = some (.dK vs) ∧ RKs K β H l vs
  | .exn x => ∃ C, ClsN K x.cls C ∧ H a = some (ExH (.ref C) a)
  | .own c l => ∃ C dx vs, ClsN K c C ∧ H a = some (.ins C dx vs) ∧ RFs K β H l vs
/-- a code object that a run made: it is known, and stays -/
def CodeF (o : Obj) : HO := .frz o (.own 0)
/-- the object o, at c, is a code object of the name q with its table at P -/
def CodeIs (o : Obj) (q : Str) (c P : Addr) : Prop := ∀ h : Heap, h.get? c = some o → PySem.W.CodeHd h c P ∧ h.CodeRec (.ref c) q
/-- a table of code objects that can be come to -/
inductive Rch (tb : List Addr) (H : Hp) : Addr → Prop
  | st {P : Addr} : P ∈ tb → Rch tb H P
  | en {P c P' : Addr} {ps : Array Value} {pos : Pos} {o : Obj} {q : Str} : Rch tb H P → H P = some (.tbl ps) → codeAmong pos ps.toList = some (.ref c) → H c = some (CodeF o) → CodeIs o q c P' → Rch tb H P'
section
variable [Nms]
/-- every table that can be come to is one, and tells code objects of the right names -/
def GoodT (K : PySem.W.Frag) (H : Hp) : Prop := ∀ P, Rch (Nms.tb K) H P → ∃ ps, H P = some (.tbl ps) ∧ TriplesOk ps.toList ∧
  ∀ (pos : Pos) (cv : Value), codeAmong pos ps.toList = some cv → ∃ c o P', cv = .ref c ∧ H c = some (CodeF o) ∧ CodeIs o (Nms.nm pos.line pos.col) c P'
structure RM (K : PySem.W.Frag) (β : List Addr) (H : Hp) (m : Mem) : Prop where
  tabs : GoodT K H
  len : β.length = m.length
  nd : β.Nodup
  ob : ∀ (n : Nat) (o : MO) (a : Addr), m[n]? = some o → β[n]? = some a → RO K β H o a
structure RE (K : PySem.W.Frag) (β : List Addr) (H : Hp) (ρ : Env) (σ : L2.St) : Prop where
  len : ρ.length = σ.length
  at_ : ∀ (i : Nat) (d : MV), ρ[i]? = some (some d) → ∃ v, σ[i]? = some (some v) ∧ RV K β H d v
end
structure Ext (β : List Addr) (H : Hp) (β' : List Addr) (H' : Hp) : Prop where
  pre : ∃ r, β' = β ++ r
  old : ∀ a o, H a = some o → a ∉ β → (∀ ps, o ≠ .tbl ps) → H' a = some o
  tab : ∀ a ps, H a = some (.tbl ps) → a ∉ β → ∃ more, H' a = some (.tbl (ps ++ more))
  new : ∀ a, a ∈ β' → a ∈ β ∨ H a = none
section
variable [Nms] {K : PySem.W.Frag} {β β' β'' : List Addr} {H H' H'' : Hp} {m m' : Mem}
theorem Ext.refl : Ext β H β H := ⟨⟨[], by simp⟩, fun _ _ h _ _ => h, fun _ ps h _ => ⟨#[], by rw [h]; simp⟩, fun _ h => .inl h⟩
theorem Ext.get (e : Ext β H β' H') {n : Nat} {a : Addr} (h : β[n]? = some a) : β'[n]? = some a := by
  obtain ⟨r, rfl⟩ := e.pre
  have hl : n < β.length := (List.getElem?_eq_some_iff.mp h).1
  rw [List.getElem?_append_left hl]; exact h
theorem Ext.mem (e : Ext β H β' H') {a : Addr} (h : a ∈ β) : a ∈ β' := by
  obtain ⟨r, rfl⟩ := e.pre
  exact List.mem_append_left _ h
theorem Ext.trans (e : Ext β H β' H') (f : Ext β' H' β'' H'') : Ext β H β'' H'' := by
  refine ⟨?_, fun a o h n t => ?_, fun a ps h n => ?_, fun a h => ?_⟩
  · obtain ⟨r, rfl⟩ := e.pre
    obtain ⟨q, rfl⟩ := f.pre
    exact ⟨r ++ q, by simp⟩
  · refine f.old a o (e.old a o h n t) (fun z => ?_) t
    rcases e.new a z with z | z
    · exact n z
    · rw [h] at z; cases z
  · obtain ⟨m1, h1⟩ := e.tab a ps h n
    obtain ⟨m2, h2⟩ := f.tab a _ h1 fun z => by
      rcases e.new a z with z | z
      · exact n z
      · rw [h] at z; cases z
    exact ⟨m1 ++ m2, by rw [h2, Array.append_assoc]⟩
  · rcases f.new a h with z | z
    · exact e.new a z
    · by_cases q : a ∈ β
      · exact .inl q
      · refine .inr ?_
        cases w : H a with
        | none => rfl
        | some o =>
          by_cases t : ∃ ps, o = .tbl ps
          · obtain ⟨ps, rfl⟩ := t
            obtain ⟨ps', h'⟩ := e.tab a ps w q
            rw [h'] at z; cases z
          · rw [e.old a o w q fun ps z => t ⟨ps, z⟩] at z; cases z
theorem RM.at_ (R : RM K β H m) {a : Addr} (h : a ∈ β) : ∃ (n : Nat) (o : MO), m[n]? = some o ∧ β[n]? = some a ∧ RO K β H o a := by
  obtain ⟨n, hn⟩ := List.mem_iff_getElem?.mp h
  have hl : n < m.length := by rw [← R.len]; exact (List.getElem?_eq_some_iff.mp hn).1
  exact ⟨n, m[n], by simp [hl], hn, R.ob n _ a (by simp [hl]) hn⟩
theorem RM.notup (R : RM K β H m) {a : Addr} {xs : List V} (h : Rd H a (.tup xs)) : a ∉ β := fun z => by
  obtain ⟨n, o, _, _, r⟩ := R.at_ z
  rcases h with h | ⟨ob, h⟩
  · cases o with
    | lst l => obtain ⟨vs, e, _⟩ := r; rw [h] at e; cases e
    | frz l => obtain ⟨vs, ob, e, _⟩ := r; rw [h] at e; cases e
    | dct l => obtain ⟨vs, e, _⟩ := r; rw [h] at e; cases e
    | exn x => obtain ⟨C, _, e⟩ := r; rw [h] at e; unfold ExH at e; cases e
    | own c l => obtain ⟨C, dx, vs, _, e, _⟩ := r; rw [h] at e; cases e
  · cases o with
    | lst l => obtain ⟨vs, e, _⟩ := r; rw [h] at e; cases e
    | frz l => obtain ⟨vs, ob, e, _⟩ := r; rw [h] at e; cases e
    | dct l => obtain ⟨vs, e, _⟩ := r; rw [h] at e; cases e
    | exn x => obtain ⟨C, _, e⟩ := r; rw [h] at e; unfold ExH at e; cases e
    | own c l => obtain ⟨C, dx, vs, _, e, _⟩ := r; rw [h] at e; cases e
theorem RM.sqt (R : RM K β H m) (e : Ext β H β' H') {a : Addr} {xs : List V} (h : SqT K H a xs) : SqT K H' a xs := by
  rcases h with h | h
  · have n := R.notup h
    rcases h with h | ⟨o, h⟩
    · exact .inl (.inl (e.old _ _ h n fun _ z => by cases z))
    · exact .inl (.inr ⟨o, e.old _ _ h n fun _ z => by cases z⟩)
  · exact .inr h
theorem KL.ext (e : Ext β H β' H') {a : Addr} {vs : List V} (h : KL K β H a vs) : KL K β' H' a vs := by
  rcases h with ⟨n, ob, h⟩ | h
  · refine .inl ⟨fun z => ?_, ob, e.old _ _ h n fun _ z => by cases z⟩
    rcases e.new a z with z | z
    · exact n z
    · rw [h] at z; cases z
  · exact .inr h
mutual
theorem RV.ext (R : RM K β H m) (e : Ext β H β' H') : ∀ {d : MV} {v : V}, RV K β H d v → RV K β' H' d v
  | _, _, .non => .non
  | _, _, .bl b => .bl b
  | _, _, .int i => .int i
  | _, _, .str x => .str x
  | _, _, .tup h r => .tup (R.sqt e h) (RVs.ext R e r)
  | _, _, .ref h => .ref (e.get h)
  | _, _, .kl h r => .kl (KL.ext e h) (RVs.ext R e r)
  | _, _, .clo h => .clo fun n a q => e.get (h n a q)
theorem RVs.ext (R : RM K β H m) (e : Ext β H β' H') : ∀ {d : List MV} {v : List V}, RVs K β H d v → RVs K β' H' d v
  | _, _, .nil => .nil
  | _, _, .cons h r => .cons (RV.ext R e h) (RVs.ext R e r)
end
theorem RKs.ext (R : RM K β H m) (e : Ext β H β' H') : ∀ {d : List (Key × MV)} {v : List (Key × V)}, RKs K β H d v → RKs K β' H' d v
  | _, _, .nil => .nil
  | _, _, .cons h r => .cons (RV.ext R e h) (RKs.ext R e r)
theorem RFs.ext (R : RM K β H m) (e : Ext β H β' H') : ∀ {d : List (Str × MV)} {v : List (Str × V)}, RFs K β H d v → RFs K β' H' d v
  | _, _, .nil => .nil
  | _, _, .cons h r => .cons (RV.ext R e h) (RFs.ext R e r)
theorem RE.ext {ρ : Env} {σ : L2.St} (R : RM K β H m) (e : Ext β H β' H') (r : RE K β H ρ σ) : RE K β' H' ρ σ :=
  ⟨r.len, fun i d h => let ⟨v, h1, h2⟩ := r.at_ i d h; ⟨v, h1, h2.ext R e⟩⟩
theorem RE.set {ρ : Env} {σ : L2.St} {i : Nat} {d : MV} {v : V} (r : RE K β H ρ σ) (h : RV K β H d v) : RE K β H (ρ.set i (some d)) (σ.set i (some v)) := by
  refine ⟨by simp [r.len], fun j e q => ?_⟩
  by_cases hj : i = j
  · subst hj
    by_cases hl : i < ρ.length
    · rw [List.getElem?_set_self hl] at q
      cases q
      exact ⟨v, List.getElem?_set_self (by rw [← r.len]; exact hl), h⟩
    · rw [List.getElem?_eq_none (by simp; omega)] at q; cases q
  · rw [List.getElem?_set_ne hj] at q
    obtain ⟨u, h1, h2⟩ := r.at_ j e q
    exact ⟨u, by rw [List.getElem?_set_ne hj]; exact h1, h2⟩
theorem RVs.length : ∀ {ds : List MV} {vs : List V}, RVs K β H ds vs → ds.length = vs.length
  | _, _, .nil => rfl
  | _, _, .cons _ r => by simp [RVs.length r]
theorem RVs.get : ∀ {ds : List MV} {vs : List V} {i : Nat} {d : MV}, RVs K β H ds vs → ds[i]? = some d → ∃ v, vs[i]? = some v ∧ RV K β H d v
  | _, _, _, _, .nil, e => by simp at e
  | _, _, 0, _, .cons h r, e => by simp at e; subst e; exact ⟨_, rfl, h⟩
  | _, _, i + 1, d, .cons h r, e => by
    obtain ⟨v, h1, h2⟩ := RVs.get (i := i) r (by simpa using e)
    exact ⟨v, by simpa using h1, h2⟩
theorem RVs.app : ∀ {ds es : List MV} {vs us : List V}, RVs K β H ds vs → RVs K β H es us → RVs K β H (ds ++ es) (vs ++ us)
  | _, _, _, _, .nil, q => q
  | _, _, _, _, .cons h r, q => .cons h (RVs.app r q)
theorem RVs.take : ∀ {ds : List MV} {vs : List V} (n : Nat), RVs K β H ds vs → RVs K β H (ds.take n) (vs.take n)
  | _, _, 0, _ => by simp; exact .nil
  | _, _, n + 1, .nil => by simp; exact .nil
  | _, _, n + 1, .cons h r => .cons h (RVs.take n r)
theorem RVs.drop : ∀ {ds : List MV} {vs : List V} (n : Nat), RVs K β H ds vs → RVs K β H (ds.drop n) (vs.drop n)
  | _, _, 0, r => r
  | _, _, n + 1, .nil => .nil
  | _, _, n + 1, .cons h r => RVs.drop n r
theorem RVs.set : ∀ {ds : List MV} {vs : List V} {d : MV} {v : V} (n : Nat), RVs K β H ds vs → RV K β H d v → RVs K β H (ds.set n d) (vs.set n v)
  | _, _, _, _, _, .nil, _ => .nil
  | _, _, _, _, 0, .cons h r, q => .cons q r
  | _, _, _, _, n + 1, .cons h r, q => .cons h (RVs.set n r q)
/-- a new object is laid -/
theorem RM.fresh (R : RM K β H m) {p : Addr} (hp : H p = none) : p ∉ β := fun z => by
  obtain ⟨n, o, _, _, r⟩ := R.at_ z
  cases o with
  | lst l => obtain ⟨vs, e, _⟩ := r; rw [hp] at e; cases e
  | frz l => obtain ⟨vs, ob, e, _⟩ := r; rw [hp] at e; cases e
  | dct l => obtain ⟨vs, e, _⟩ := r; rw [hp] at e; cases e
  | exn x => obtain ⟨C, _, e⟩ := r; rw [hp] at e; cases e
  | own c l => obtain ⟨C, dx, vs, _, e, _⟩ := r; rw [hp] at e; cases e
theorem Ext.tup {p : Addr} {o : HO} (hp : H p = none) : Ext β H β (upd H p o) :=
  ⟨⟨[], by simp⟩, fun a u h _ _ => by rw [upd_ne (ne_of_none h hp)]; exact h, fun a ps h _ => ⟨#[], by rw [upd_ne (ne_of_none h hp), h]; simp⟩, fun _ h => .inl h⟩
theorem Ext.push {p : Addr} {o : HO} (hp : H p = none) : Ext β H (β ++ [p]) (upd H p o) :=
  ⟨⟨[p], rfl⟩, fun a u h _ _ => by rw [upd_ne (ne_of_none h hp)]; exact h, fun a ps h _ => ⟨#[], by rw [upd_ne (ne_of_none h hp), h]; simp⟩, fun a h => by
    rcases List.mem_append.mp h with z | z
    · exact .inl z
    · simp at z; subst z; exact .inr hp⟩
theorem RO.ext (R : RM K β H m) (e : Ext β H β' H') {o : MO} {a : Addr} (ha : H' a = H a) (r : RO K β H o a) : RO K β' H' o a := by
  cases o with
  | lst l => obtain ⟨vs, h, q⟩ := r; exact ⟨vs, by rw [ha]; exact h, q.ext R e⟩
  | frz l => obtain ⟨vs, ob, h, q⟩ := r; exact ⟨vs, ob, by rw [ha]; exact h, q.ext R e⟩
  | dct l => obtain ⟨vs, h, q⟩ := r; exact ⟨vs, by rw [ha]; exact h, q.ext R e⟩
  | exn x => obtain ⟨C, h1, h2⟩ := r; exact ⟨C, h1, by rw [ha]; exact h2⟩
  | own c l => obtain ⟨C, dx, vs, h1, h2, h3⟩ := r; exact ⟨C, dx, vs, h1, by rw [ha]; exact h2, h3.ext R e⟩
/-- tables and code objects the same -/
theorem Rch.same {tb : List Addr} (hT : ∀ a ps, H' a = some (.tbl ps) → H a = some (.tbl ps)) (hF : ∀ a o, H' a = some (CodeF o) → H a = some (CodeF o)) {P : Addr} (r : Rch tb H' P) : Rch tb H P := by
  induction r with
  | st h => exact .st h
  | en _ h1 h2 h3 h4 ih => exact .en ih (hT _ _ h1) h2 (hF _ _ h3) h4
theorem GoodT.same (G : GoodT K H) (hT : ∀ a ps, H' a = some (.tbl ps) ↔ H a = some (.tbl ps)) (hF : ∀ a o, H' a = some (CodeF o) ↔ H a = some (CodeF o)) : GoodT K H' := fun P r => by
  obtain ⟨ps, h1, h2, h3⟩ := G P (r.same (fun a ps => (hT a ps).mp) fun a o => (hF a o).mp)
  refine ⟨ps, (hT _ _).mpr h1, h2, fun pos cv hc => ?_⟩
  obtain ⟨c, o, P', e1, e2, e3⟩ := h3 pos cv hc
  exact ⟨c, o, P', e1, (hF _ _).mpr e2, e3⟩
/-- neither a table nor a code object of a run -/
def NoTab (o : HO) : Prop := (∀ ps, o ≠ .tbl ps) ∧ ∀ b, o ≠ CodeF b
theorem GoodT.upd (G : GoodT K H) {p : Addr} {o : HO} (n : NoTab o) (h : ∀ u, H p = some u → NoTab u) : GoodT K (upd H p o) := by
  refine G.same (fun a ps => ?_) fun a b => ?_
  · by_cases e : a = p
    · subst e
      rw [upd_same]
      exact ⟨fun z => absurd (Option.some.inj z) (n.1 ps), fun z => absurd rfl ((h _ z).1 ps)⟩
    · rw [upd_ne e]
  · by_cases e : a = p
    · subst e
      rw [upd_same]
      exact ⟨fun z => absurd (Option.some.inj z) (n.2 b), fun z => absurd rfl ((h _ z).2 b)⟩
    · rw [upd_ne e]
theorem RO.noTab {o : MO} {a : Addr} (r : RO K β H o a) : ∀ u, H a = some u → NoTab u := fun u e => by
  cases o with
  | lst l => obtain ⟨vs, z, _⟩ := r; rw [z] at e; cases e; exact ⟨fun _ z => (by cases z), fun _ z => (by unfold CodeF at z; cases z)⟩
  | frz l => obtain ⟨vs, ob, z, _⟩ := r; rw [z] at e; cases e; exact ⟨fun _ z => (by cases z), fun _ z => (by unfold CodeF at z; cases z)⟩
  | dct l => obtain ⟨vs, z, _⟩ := r; rw [z] at e; cases e; exact ⟨fun _ z => (by cases z), fun _ z => (by unfold CodeF at z; cases z)⟩
  | exn x => obtain ⟨C, _, z⟩ := r; rw [z] at e; cases e; exact ⟨fun _ z => (by unfold ExH at z; cases z), fun _ z => (by unfold ExH CodeF at z; cases z)⟩
  | own c l => obtain ⟨C, dx, vs, _, z, _⟩ := r; rw [z] at e; cases e; exact ⟨fun _ z => (by cases z), fun _ z => (by unfold CodeF at z; cases z)⟩
theorem RM.noTab (R : RM K β H m) {a : Addr} (h : a ∈ β) : ∀ u, H a = some u → NoTab u := by
  obtain ⟨n, o, _, _, r⟩ := R.at_ h
  exact r.noTab
/-- a thing that the small world does not number: the objects stay -/
theorem RM.tup (R : RM K β H m) {p : Addr} {o : HO} (hp : H p = none) (nt : NoTab o := by exact ⟨fun _ z => (by cases z), fun _ z => (by unfold CodeF at z; cases z)⟩) : RM K β (upd H p o) m :=
  ⟨R.tabs.upd nt fun u e => (by rw [hp] at e; cases e), R.len, R.nd, fun n ob a h1 h2 => (R.ob n ob a h1 h2).ext R (Ext.tup hp) (upd_ne fun z => R.fresh hp (z ▸ List.mem_of_getElem? h2))⟩
theorem RM.push (R : RM K β H m) {p : Addr} {o : HO} {mo : MO} (hp : H p = none) (h : RO K (β ++ [p]) (upd H p o) mo p) : RM K (β ++ [p]) (upd H p o) (m ++ [mo]) := by
  refine ⟨R.tabs.upd (h.noTab _ upd_same) fun u e => (by rw [hp] at e; cases e), by simp [R.len], ?_, fun n ob a h1 h2 => ?_⟩
  · have := R.fresh hp
    have nd := R.nd
    rw [List.nodup_append]
    refine ⟨nd, by simp, fun a ha b hb => ?_⟩
    simp at hb
    subst hb
    intro z
    subst z
    exact this ha
  · by_cases hn : n < m.length
    · rw [List.getElem?_append_left hn] at h1
      rw [List.getElem?_append_left (by rw [R.len]; exact hn)] at h2
      exact (R.ob n ob a h1 h2).ext R (Ext.push hp) (upd_ne fun z => R.fresh hp (z ▸ List.mem_of_getElem? h2))
    · rw [List.getElem?_append_right (by omega)] at h1
      rw [List.getElem?_append_right (by rw [R.len]; omega), R.len] at h2
      cases hk : n - m.length with
      | zero =>
        rw [hk] at h1 h2
        simp at h1 h2
        subst h1; subst h2
        exact h
      | succ k => rw [hk] at h1; simp at h1
/-- an object is written -/
theorem Ext.wr {p : Addr} {o : HO} (hp : p ∈ β) : Ext β H β (upd H p o) :=
  ⟨⟨[], by simp⟩, fun a u h n _ => by rw [upd_ne (show a ≠ p from fun z => n (by rw [z]; exact hp))]; exact h, fun a ps h n => ⟨#[], by rw [upd_ne (show a ≠ p from fun z => n (by rw [z]; exact hp)), h]; simp⟩, fun _ h => .inl h⟩
theorem RM.wr (R : RM K β H m) {n : Nat} {p : Addr} {o : HO} {mo : MO} (hb : β[n]? = some p) (h : RO K β (upd H p o) mo p) : RM K β (upd H p o) (m.set n mo) := by
  refine ⟨R.tabs.upd (h.noTab _ upd_same) (R.noTab (List.mem_of_getElem? hb)), by simp [R.len], R.nd, fun i ob a h1 h2 => ?_⟩
  have hp : p ∈ β := List.mem_of_getElem? hb
  by_cases hi : n = i
  · subst hi
    rw [hb] at h2; cases h2
    have hl : n < m.length := by rw [← R.len]; exact (List.getElem?_eq_some_iff.mp hb).1
    rw [List.getElem?_set_self hl] at h1
    cases h1
    exact h
  · rw [List.getElem?_set_ne hi] at h1
    refine (R.ob i ob a h1 h2).ext R (Ext.wr hp) (upd_ne fun z => hi ?_)
    subst z
    obtain ⟨l1, e1⟩ := List.getElem?_eq_some_iff.mp hb
    obtain ⟨l2, e2⟩ := List.getElem?_eq_some_iff.mp h2
    exact (List.getElem_inj R.nd).mp (e1.trans e2.symm)
end
/-- an exception's class and own values, as the machine has them -/
def XR (K : PySem.W.Frag) (x : Exn) (cls : Value) (d : Option Addr) : Prop := ∃ C : Addr, cls = .ref C ∧ ClsN K x.cls C ∧ d = none
section
variable [Nms] (X : Cx) (W : WX)
def Post {α γ : Type} (r : Re α) (β : List Addr) (H : Hp) (σ : L2.St) (R : List Addr → Hp → α → γ → Prop) (Q : γ → Hp → Prop) : Prop :=
  match r with
  | .ok d m' => ∀ v H' β', Ext β H β' H' → RM X.K β' H' m' → R β' H' d v → Q v H'
  | .ex x m' => ∀ cls dd H' β', Ext β H β' H' → RM X.K β' H' m' → XR X.K x cls dd → W cls dd σ H'
  | .stuck => False
def tE (f : ME) : TE := fun σ H Q => ∃ ρ m β, RE X.K β H ρ σ ∧ RM X.K β H m ∧ Post X W (f ρ m) β H σ (fun β' H' d v => RV X.K β' H' d v) Q
def tT (f : MT) : TT := fun σ H Q => ∃ ρ m β, RE X.K β H ρ σ ∧ RM X.K β H m ∧ Post X W (f ρ m) β H σ (fun _ _ d v => d = v) Q
def tA (f : MA) : TA := fun σ H Q => ∃ ρ m β, RE X.K β H ρ σ ∧ RM X.K β H m ∧ Post X W (f ρ m) β H σ (fun β' H' d v => RVs X.K β' H' d v) Q
def tS (f : MS) : TS := fun D σ H => ∃ ρ m β, RE X.K β H ρ σ ∧ RM X.K β H m ∧
  match f ρ m with
  | .ok (.nx ρ') m' => ∀ σ' H' β', Ext β H β' H' → RM X.K β' H' m' → RE X.K β' H' ρ' σ' → D.nx σ' H'
  | .ok (.bk ρ') m' => ∀ σ' H' β', Ext β H β' H' → RM X.K β' H' m' → RE X.K β' H' ρ' σ' → D.bk σ' H'
  | .ok (.ct ρ') m' => ∀ σ' H' β', Ext β H β' H' → RM X.K β' H' m' → RE X.K β' H' ρ' σ' → D.ct σ' H'
  | .ok (.rt d) m' => ∀ v H' β', Ext β H β' H' → RM X.K β' H' m' → RV X.K β' H' d v → D.rt v H'
  | .ok (.ex x ρ') m' => ∀ cls dd σ' H' β', Ext β H β' H' → RM X.K β' H' m' → RE X.K β' H' ρ' σ' → XR X.K x cls dd → W cls dd σ' H'
  | .ex _ _ => False
  | .stuck => False
end
section
variable [Nms]
structure JE (X : Cx) (W : WX) (e : Expr) (f : ME) : Prop where
  run : PE X e (tE X W f)
structure JT (X : Cx) (W : WX) (e : Expr) (f : MT) : Prop where
  run : PT X e (tT X W f)
structure JA (X : Cx) (W : WX) (es : List Expr) (f : MA) : Prop where
  run : PA X es (tA X W f)
structure JS (X : Cx) (W : WX) (st : Stmt) (f : MS) : Prop where
  run : PS X st (tS X W f)
structure JB (X : Cx) (W : WX) (st : List Stmt) (f : MS) : Prop where
  run : PSs X st (tS X W f)
end
/-- a stronger reading does -/
theorem pe_imp {X : Cx} {e : Expr} {t t' : TE} (h : PE X e t) (i : ∀ σ H Q, t' σ H Q → t σ H Q) : PE X e t' := ⟨fun pins s σ H Q I q => h.run pins s σ H Q I (i σ H Q q)⟩
theorem pt_imp {X : Cx} {e : Expr} {t t' : TT} (h : PT X e t) (i : ∀ σ H Q, t' σ H Q → t σ H Q) : PT X e t' := ⟨fun pins s σ H Q I q => h.run pins s σ H Q I (i σ H Q q)⟩
theorem pa_imp {X : Cx} {e : List Expr} {t t' : TA} (h : PA X e t) (i : ∀ σ H Q, t' σ H Q → t σ H Q) : PA X e t' := ⟨fun p pins s σ H Q I q => h.run p pins s σ H Q I (i σ H Q q)⟩
theorem ps_imp {X : Cx} {e : Stmt} {t t' : TS} (h : PS X e t) (i : ∀ D σ H, t' D σ H → t D σ H) : PS X e t' := ⟨fun pins s σ H D I q => h.run pins s σ H D I (i D σ H q)⟩
theorem pss_imp {X : Cx} {e : List Stmt} {t t' : TS} (h : PSs X e t) (i : ∀ D σ H, t' D σ H → t D σ H) : PSs X e t' := ⟨fun pins s σ H D I q => h.run pins s σ H D I (i D σ H q)⟩
section
variable [Nms] {X : Cx} {W : WX} {α γ δ ε : Type} {r : Re α} {β β1 : List Addr} {H H1 : Hp} {σ : L2.St}
theorem Post.later {R : List Addr → Hp → α → γ → Prop} {Q : γ → Hp → Prop} (p : Post X W r β H σ R Q) (e : Ext β H β1 H1) : Post X W r β1 H1 σ R Q := by
  cases r with
  | ok d m => exact fun v H' β' e' => p v H' β' (e.trans e')
  | ex x m => exact fun c d H' β' e' => p c d H' β' (e.trans e')
  | stuck => exact p
theorem Post.bind {k : α → Mem → Re δ} {R : List Addr → Hp → δ → ε → Prop} {R1 : List Addr → Hp → α → γ → Prop} {Q : ε → Hp → Prop} {Q1 : γ → Hp → Prop} (p : Post X W (r.bind k) β H σ R Q)
    (h : ∀ d m1 v H1 β1, r = .ok d m1 → Ext β H β1 H1 → RM X.K β1 H1 m1 → R1 β1 H1 d v → Post X W (k d m1) β1 H1 σ R Q → Q1 v H1) : Post X W r β H σ R1 Q1 := by
  cases r with
  | ok d m => exact fun v H' β' e M V => h d m v H' β' rfl e M V (Post.later (r := k d m) p e)
  | ex x m => exact p
  | stuck => exact p
theorem Post.ok {d : α} {m : Mem} {R : List Addr → Hp → α → γ → Prop} {Q : γ → Hp → Prop} (p : Post X W (.ok d m) β H σ R Q) {v : γ} (M : RM X.K β H m) (h : R β H d v) : Q v H := p v H β Ext.refl M h
theorem Post.not_stuck {R : List Addr → Hp → α → γ → Prop} {Q : γ → Hp → Prop} {Z : Prop} (p : Post X W (.stuck : Re α) β H σ R Q) : Z := p.elim
end
section
variable [Nms] {X : Cx} {W : WX} {pos : Pos}
def mVar (i : Nat) : ME := fun ρ m => match ρ[i]? with
  | some (some d) => .ok d m
  | _ => .stuck
theorem j_var (i : Nat) {x : Str} (hN : X.N[i]? = some x := by rfl) (hv : Vis X.env.scope x := by first | exact Or.inl rfl | exact Or.inr (Or.inl rfl) | exact Or.inr (Or.inr rfl)) (hd : (x == ("__debug__" : Str)) = false := by decide)
    (hcd : (x == ("__classdict__" : Str)) = false := by decide) : JE X W (.Name x pos) (mVar i) := by
  refine ⟨pe_imp (pe_var hN hv hd hcd) fun σ H Q ⟨ρ, m, β, hE, hM, p⟩ => ?_⟩
  unfold mVar at p
  split at p
  · rename_i d e
    obtain ⟨v, h1, h2⟩ := hE.at_ i d e
    exact ⟨v, h1, p.ok hM h2⟩
  · exact p.not_stuck
def mC (d : MV) : ME := fun _ m => .ok d m
theorem j_int {i : Int} {j : Nat} : JE X W (.Constant (.int i) j pos) (mC (.int i)) := ⟨pe_imp pe_int fun _ _ _ ⟨_, _, _, _, hM, p⟩ => p.ok hM (.int i)⟩
theorem j_bl {b : Bool} {j : Nat} : JE X W (.Constant (.bool b) j pos) (mC (.bl b)) := ⟨pe_imp pe_bl fun _ _ _ ⟨_, _, _, _, hM, p⟩ => p.ok hM (.bl b)⟩
theorem j_non {j : Nat} : JE X W (.Constant .none j pos) (mC .non) := ⟨pe_imp pe_non fun _ _ _ ⟨_, _, _, _, hM, p⟩ => p.ok hM .non⟩
theorem j_str {x : Str} {j : Nat} : JE X W (.Constant (.str x) j pos) (mC (.str x)) := ⟨pe_imp pe_str fun _ _ _ ⟨_, _, _, _, hM, p⟩ => p.ok hM (.str x)⟩
/-- a constant of the module -/
structure Con (K : PySem.W.Frag) (mg : Str → Option Value) (x : Str) (d : MV) : Prop where
  ex : ∃ (u : Value) (v : V), mg x = some u ∧ RelV v u ∧ ∀ β H, RV K β H d v
theorem j_con {x : Str} {d : MV} (c : Con X.K X.mg x d) (hg : Gl X x := by rfl) (hd : (x == ("__debug__" : Str)) = false := by decide) : JE X W (.Name x pos) (mC d) := by
  obtain ⟨u, v, h1, h2, h3⟩ := c.ex
  exact ⟨pe_imp (pe_glob hg h1 h2 hd) fun _ H _ ⟨_, _, β, _, hM, p⟩ => p.ok hM (h3 β H)⟩
def mBin (g : MV → MV → Mem → Re MV) (fa fb : ME) : ME := fun ρ m => (fa ρ m).bind fun a m1 => (fb ρ m1).bind fun b m2 => g a b m2
/-- an operator's rule does what g says -/
def OpM (X : Cx) (r : R2) (g : MV → MV → Mem → Re MV) : Prop := ∀ (W : WX) (σ : L2.St) (d e : MV) (m : Mem) (β : List Addr) (H : Hp) (x y : V) (Q : VK), RM X.K β H m → RV X.K β H d x → RV X.K β H e y →
  Post X W (g d e m) β H σ (fun β' H' d v => RV X.K β' H' d v) Q → r x y H Q
theorem j_op {op : Operator} {r : R2} {g : MV → MV → Mem → Re MV} {a b : Expr} {fa fb : ME} (ho : OpR X (binaryOp op) r) (hm : OpM X r g) (ha : JE X W a fa) (hb : JE X W b fb) : JE X W (.BinOp a op b pos) (mBin g fa fb) :=
  ⟨pe_imp (pe_op ho ha.run hb.run) fun σ H Q ⟨ρ, m, β, hE, hM, p⟩ => ⟨ρ, m, β, hE, hM, p.bind fun d m1 x H1 β1 _ e1 M1 V1 p1 => ⟨ρ, m1, β1, hE.ext hM e1, M1, p1.bind fun d2 m2 y H2 β2 _ e2 M2 V2 p2 =>
    hm W σ d d2 m2 β2 H2 x y Q M2 (V1.ext M1 e2) V2 p2⟩⟩⟩
theorem j_cmp {op : CmpOp} {r : R2} {g : MV → MV → Mem → Re MV} {a b : Expr} {fa fb : ME} (ho : OpR X (compareOp op) r) (hm : OpM X r g) (ha : JE X W a fa) (hb : JE X W b fb) (hk : behindInMarks op b = false := by first | exact nobehind _ (by decide) (by decide) | rfl) :
    JE X W (.Compare a [op] [b] pos) (mBin g fa fb) :=
  ⟨pe_imp (pe_cmpR ho ha.run hb.run hk) fun σ H Q ⟨ρ, m, β, hE, hM, p⟩ => ⟨ρ, m, β, hE, hM, p.bind fun d m1 x H1 β1 _ e1 M1 V1 p1 => ⟨ρ, m1, β1, hE.ext hM e1, M1, p1.bind fun d2 m2 y H2 β2 _ e2 M2 V2 p2 =>
    hm W σ d d2 m2 β2 H2 x y Q M2 (V1.ext M1 e2) V2 p2⟩⟩⟩
/-- a new object -/
def alloc (o : MO) (m : Mem) : Re MV := .ok (.ref m.length) (m ++ [o])
theorem Post.alloc {β : List Addr} {H : Hp} {σ : L2.St} {o : MO} {m : Mem} {Q : VK} (M : RM X.K β H m) (p : Post X W (alloc o m) β H σ (fun β' H' d v => RV X.K β' H' d v) Q) {a : Addr} {ho : HO} (na : H a = none) (h : RO X.K (β ++ [a]) (upd H a ho) o a) : Q (.ref a) (upd H a ho) :=
  p (.ref a) _ (β ++ [a]) (Ext.push na) (M.push na h) (.ref (by rw [← M.len]; simp))
theorem Post.newtup {β : List Addr} {H : Hp} {σ : L2.St} {ds : List MV} {m : Mem} {vs : List V} {Q : VK} (M : RM X.K β H m) (p : Post X W (.ok (.tup ds) m) β H σ (fun β' H' d v => RV X.K β' H' d v) Q) {a : Addr} (na : H a = none) (h : RVs X.K β H ds vs) : Q (.ref a) (upd H a (.tup vs)) :=
  p (.ref a) _ β (Ext.tup na) (M.tup na) (.tup (SqT.of upd_same) (h.ext M (Ext.tup na)))
/-- ints alone -/
def gII (C : Int → Int → Prop) [∀ i j, Decidable (C i j)] (f : Int → Int → MV) : MV → MV → Mem → Re MV
  | .int i, .int j, m => if C i j then .ok (f i j) m else .stuck
  | _, _, _ => .stuck
theorem om_I {C : Int → Int → Prop} [∀ i j, Decidable (C i j)] {f : Int → Int → MV} {g : Int → Int → V} (h : ∀ K β H i j, RV K β H (f i j) (g i j)) : OpM X (rI C g) (gII C f) := by
  intro W σ d e m β H x y Q M rx ry p
  unfold gII at p
  split at p
  · cases rx; cases ry
    split at p
    · rename_i i j hc
      exact ⟨i, j, rfl, rfl, hc, p.ok M (h _ _ _ i j)⟩
    · exact p.not_stuck
  · exact p.not_stuck
def gI0 (f : Int → Int → MV) : MV → MV → Mem → Re MV
  | .int i, .int j, m => .ok (f i j) m
  | _, _, _ => .stuck
theorem om_I0 {f : Int → Int → MV} {g : Int → Int → V} (h : ∀ K β H i j, RV K β H (f i j) (g i j)) : OpM X (rI0 g) (gI0 f) := by
  intro W σ d e m β H x y Q M rx ry p
  unfold gI0 at p
  split at p
  · cases rx; cases ry
    exact ⟨_, _, rfl, rfl, p.ok M (h _ _ _ _ _)⟩
  · exact p.not_stuck
end
end MI
namespace MI
open PySem L2
variable [Nms]
section
variable {X : Cx} {W : WX} {pos : Pos} {K : PySem.W.Frag} {β : List Addr} {H : Hp} {m : Mem}
def lstOf (m : Mem) (d : MV) : Option (List MV) := match d with
  | .ref n => match m[n]? with
    | some (.lst l) => some l
    | some (.frz l) => some l
    | _ => none
  | .kl l => some l
  | _ => none
/-- a list or a tuple -/
def seqOf (m : Mem) (d : MV) : Option (List MV) := match d with
  | .tup l => some l
  | d => lstOf m d
theorem RM.lst (R : RM K β H m) {d : MV} {v : V} {l : List MV} (r : RV K β H d v) (h : lstOf m d = some l) : ∃ a vs, v = .ref a ∧ SqL K H a vs ∧ RVs K β H l vs := by
  unfold lstOf at h
  split at h
  · rename_i n
    cases r with
    | ref hb =>
      split at h
      · rename_i l' e
        cases h
        obtain ⟨vs, q1, q2⟩ := R.ob n _ _ e hb
        exact ⟨_, vs, rfl, SqL.of q1, q2⟩
      · rename_i l' e
        cases h
        obtain ⟨vs, ob, q1, q2⟩ := R.ob n _ _ e hb
        exact ⟨_, vs, rfl, .inl (.inr ⟨ob, q1⟩), q2⟩
      · cases h
  · cases h
    cases r with
    | kl h1 h2 =>
      refine ⟨_, _, rfl, ?_, h2⟩
      rcases h1 with ⟨_, ob, h1⟩ | h1
      · exact .inl (.inr ⟨ob, h1⟩)
      · exact .inr h1
  · cases h
theorem RM.seq (R : RM K β H m) {d : MV} {v : V} {l : List MV} (r : RV K β H d v) (h : seqOf m d = some l) : ∃ a vs, v = .ref a ∧ (SqL K H a vs ∨ SqT K H a vs) ∧ RVs K β H l vs := by
  unfold seqOf at h
  split at h
  · rename_i l'
    cases h
    cases r with
    | tup h1 h2 => exact ⟨_, _, rfl, .inr h1, h2⟩
  · obtain ⟨a, vs, h1, h2, h3⟩ := R.lst r h
    exact ⟨a, vs, h1, .inl h2, h3⟩
/-- a list that may be written -/
def mutOf (m : Mem) (d : MV) : Option (Nat × List MV) := match d with
  | .ref n => match m[n]? with
    | some (.lst l) => some (n, l)
    | _ => none
  | _ => none
theorem mutOf_some {d : MV} {n : Nat} {l : List MV} (h : mutOf m d = some (n, l)) : d = .ref n ∧ m[n]? = some (.lst l) := by
  unfold mutOf at h
  split at h
  · split at h
    · rename_i e
      cases h
      exact ⟨rfl, e⟩
    · cases h
  · cases h
theorem RM.mut (R : RM K β H m) {d : MV} {v : V} {n : Nat} {l : List MV} (r : RV K β H d v) (h : mutOf m d = some (n, l)) : ∃ a vs, v = .ref a ∧ β[n]? = some a ∧ H a = some (.lst vs) ∧ RVs K β H l vs := by
  obtain ⟨rfl, e⟩ := mutOf_some h
  cases r with
  | ref hb =>
    obtain ⟨vs, q1, q2⟩ := R.ob n _ _ e hb
    exact ⟨_, vs, rfl, hb, q1, q2⟩
def gAdd : MV → MV → Mem → Re MV
  | .int i, .int j, m => .ok (.int (i + j)) m
  | .str a, .str b, m => if a.length + b.length ≤ sizeLine then .ok (.str (a ++ b)) m else .stuck
  | .tup a, .tup b, m => if a.length + b.length ≤ sizeLine then .ok (.tup (a ++ b)) m else .stuck
  | .ref a, .ref b, m => match mutOf m (.ref a), mutOf m (.ref b) with
    | some (_, xs), some (_, ys) => if xs.length + ys.length ≤ sizeLine then alloc (.lst (xs ++ ys)) m else .stuck
    | _, _ => .stuck
  | _, _, _ => .stuck
abbrev rAddA (K : PySem.W.Frag) : R2 := fun x y H Q => (rI0 (fun i j => V.int (i + j))) x y H Q ∨ (∃ i j, x = V.str i ∧ y = V.str j ∧ i.length + j.length ≤ sizeLine ∧ Q (V.str (i ++ j)) H) ∨ rCatA K x y H Q ∨ rCat x y H Q
theorem op_addA : OpR X (binaryOp .Add) (rAddA X.K) := OpR.or op_add (OpR.or op_add_str (OpR.or op_catA op_cat))
theorem om_add : OpM X (rAddA X.K) gAdd := by
  intro W σ d e m β H x y Q M rx ry p
  unfold gAdd at p
  split at p
  · cases rx; cases ry
    exact .inl ⟨_, _, rfl, rfl, p.ok M (.int _)⟩
  · cases rx; cases ry
    split at p
    · rename_i h
      exact .inr (.inl ⟨_, _, rfl, rfl, h, p.ok M (.str _)⟩)
    · exact p.not_stuck
  · cases rx with
    | tup h1 r1 =>
      cases ry with
      | tup h2 r2 =>
        split at p
        · rename_i h
          refine .inr (.inr (.inl ⟨_, _, _, _, rfl, rfl, h1, h2, by rw [← r1.length, ← r2.length]; exact h, fun z => ?_, fun _ z => ?_, fun _ _ q hq => ?_⟩))
          · subst z
            cases r1
            exact p.ok M (.tup h2 r2)
          · subst z
            cases r2
            rw [List.append_nil] at p
            exact p.ok M (.tup h1 r1)
          · exact p.newtup M hq (r1.app r2)
        · exact p.not_stuck
  · split at p
    · rename_i n1 xs n2 ys e1 e2
      split at p
      · rename_i h
        obtain ⟨a1, vs1, rfl, hb1, q1, r1⟩ := M.mut rx e1
        obtain ⟨a2, vs2, rfl, hb2, q2, r2⟩ := M.mut ry e2
        exact .inr (.inr (.inr ⟨_, _, _, _, rfl, rfl, q1, q2, by rw [← r1.length, ← r2.length]; exact h, fun q hq => p.alloc M hq ⟨_, upd_same, (r1.app r2).ext M (Ext.push hq)⟩⟩))
      · exact p.not_stuck
    · exact p.not_stuck
  · exact p.not_stuck
def gMul : MV → MV → Mem → Re MV
  | .int i, .int j, m => if (-(2 ^ 64) < i ∧ i < 2 ^ 64) ∨ (-(2 ^ 64) < j ∧ j < 2 ^ 64) then .ok (.int (i * j)) m else .stuck
  | .ref a, .int k, m => match mutOf m (.ref a) with
    | some (_, xs) => if 0 ≤ k ∧ k ≤ 1000 ∧ xs.length ≤ 1000 then alloc (.lst (List.replicate k.toNat xs).flatten) m else .stuck
    | _ => .stuck
  | .tup xs, .int k, m => if 0 < xs.length ∧ 2 ≤ k ∧ k ≤ 1000 ∧ xs.length ≤ 1000 then .ok (.tup (List.replicate k.toNat xs).flatten) m else .stuck
  | _, _, _ => .stuck
theorem RVs.rep {ds : List MV} {vs : List V} (h : RVs K β H ds vs) : ∀ k : Nat, RVs K β H (List.replicate k ds).flatten (List.replicate k vs).flatten
  | 0 => .nil
  | k + 1 => by rw [List.replicate_succ, List.replicate_succ, List.flatten_cons, List.flatten_cons]; exact h.app (RVs.rep h k)
abbrev rMulA (K : PySem.W.Frag) : R2 := fun x y H Q => (rI CMul (fun i j => V.int (i * j))) x y H Q ∨ rRep x y H Q ∨ rRepT K x y H Q
theorem op_mulA : OpR X (binaryOp .Mult) (rMulA X.K) := OpR.or op_mul (OpR.or op_rep op_repT)
theorem om_mul : OpM X (rMulA X.K) gMul := by
  intro W σ d e m β H x y Q M rx ry p
  unfold gMul at p
  split at p
  · cases rx; cases ry
    split at p
    · rename_i h
      exact .inl ⟨_, _, rfl, rfl, h, p.ok M (.int _)⟩
    · exact p.not_stuck
  · cases ry
    split at p
    · rename_i n1 xs e1
      split at p
      · rename_i h
        obtain ⟨a1, vs1, rfl, hb1, q1, r1⟩ := M.mut rx e1
        have hl := r1.length
        have hb : xs.length * (Int.toNat ‹Int›) ≤ 1000 * 1000 := Nat.mul_le_mul h.2.2 (by omega)
        exact .inr (.inl ⟨_, _, _, rfl, rfl, q1, by omega, by omega, by rw [← hl]; exact Nat.le_trans hb (by decide), fun q hq => p.alloc M hq ⟨_, upd_same, (r1.rep _).ext M (Ext.push hq)⟩⟩)
      · exact p.not_stuck
    · exact p.not_stuck
  · cases ry
    cases rx with
    | tup h1 r1 =>
      split at p
      · rename_i h
        have hl := r1.length
        exact .inr (.inr ⟨_, _, _, rfl, rfl, h1, fun z => by rw [z] at hl; simp at hl; rw [hl] at h; simp at h, h.2.1, h.2.2.1, by rw [← hl]; exact h.2.2.2, fun q hq => p.newtup M hq (r1.rep _)⟩)
      · exact p.not_stuck
  · exact p.not_stuck
theorem om_sub : OpM X (rI0 fun i j => V.int (i - j)) (gI0 fun i j => .int (i - j)) := om_I0 fun _ _ _ _ _ => .int _
theorem om_mod : OpM X (rI (fun _ j => 0 < j) fun i j => V.int (i % j)) (gII (fun _ j => 0 < j) fun i j => .int (i % j)) := om_I fun _ _ _ _ _ => .int _
instance (i j : Int) : Decidable (CDivW i j) := by unfold CDivW; exact inferInstance
theorem om_div : OpM X (rI CDivW fun i j => V.int (i / j)) (gII CDivW fun i j => .int (i / j)) := om_I fun _ _ _ _ _ => .int _
/-- a power, by its size in bits -/
def CPowW (i j : Int) : Prop := 0 ≤ j ∧ (Builtin.Int.intBits i : Int) * j ≤ 2 ^ 27
instance (i j : Int) : Decidable (CPowW i j) := by unfold CPowW; exact inferInstance
theorem op_powW : OpR X (binaryOp .Pow) (rI CPowW fun i j => V.int (i ^ j.toNat)) := by
  intro pins s σ H x y v u Q I rx ry h
  obtain ⟨i, j, rfl, rfl, ⟨h1, h2⟩, q⟩ := h
  obtain ⟨t, rfl⟩ := rx
  obtain ⟨t', rfl⟩ := ry
  exact PyProof.Rows.pow_int h1 h2 ⟨.int _, H, I.tok _, ⟨_, rfl⟩, q⟩
theorem om_pow : OpM X (rI CPowW fun i j => V.int (i ^ j.toNat)) (gII CPowW fun i j => .int (i ^ j.toNat)) := om_I fun _ _ _ _ _ => .int _
theorem om_lt : OpM X (rI0 fun i j => V.bl (decide (i < j))) (gI0 fun i j => .bl (decide (i < j))) := om_I0 fun _ _ _ _ _ => .bl _
theorem om_gt : OpM X (rI0 fun i j => V.bl (decide (j < i))) (gI0 fun i j => .bl (decide (j < i))) := om_I0 fun _ _ _ _ _ => .bl _
theorem om_ge : OpM X (rI0 fun i j => V.bl (decide (j ≤ i))) (gI0 fun i j => .bl (decide (j ≤ i))) := om_I0 fun _ _ _ _ _ => .bl _
/-- texts in their order -/
def gLeS : MV → MV → Mem → Re MV
  | .str a, .str b, m => .ok (.bl (!decide (b.cps.toList < a.cps.toList))) m
  | .int i, .int j, m => .ok (.bl (decide (i ≤ j))) m
  | _, _, _ => .stuck
abbrev rLeA : R2 := fun x y H Q => (rI0 (fun i j => V.bl (decide (i ≤ j)))) x y H Q ∨ (∃ i j, x = V.str i ∧ y = V.str j ∧ Q (V.bl (!decide (j.cps.toList < i.cps.toList))) H)
theorem op_leA : OpR X (compareOp .LtE) rLeA := OpR.or op_le op_le_str
theorem om_leA : OpM X rLeA gLeS := by
  intro W σ d e m β H x y Q M rx ry p
  unfold gLeS at p
  split at p
  · cases rx; cases ry
    exact .inr ⟨_, _, rfl, rfl, p.ok M (.bl _)⟩
  · cases rx; cases ry
    exact .inl ⟨_, _, rfl, rfl, p.ok M (.bl _)⟩
  · exact p.not_stuck
/-- is None -/
def gIsN : MV → MV → Mem → Re MV
  | d, .non, m => .ok (.bl (match d with | .non => true | _ => false)) m
  | _, _, _ => .stuck
def gNotN : MV → MV → Mem → Re MV
  | d, .non, m => .ok (.bl (match d with | .non => false | _ => true)) m
  | _, _, _ => .stuck
theorem om_isN : OpM X (fun x y H Q => y = V.non ∧ Q (V.bl (decide (x = V.non))) H) gIsN := by
  intro W σ d e m β H x y Q M rx ry p
  unfold gIsN at p
  split at p
  · cases ry
    refine ⟨rfl, p.ok M ?_⟩
    cases rx <;> exact .bl _
  · exact p.not_stuck
mutual
def dat (m : Mem) : Nat → MV → Option PyData
  | _, .non => some .none
  | _, .bl b => some (.bool b)
  | _, .int i => some (.int i)
  | _, .str s => some (.str s)
  | _, .kl _ => none
  | _, .clo _ _ => none
  | 0, _ => none
  | n + 1, .tup l => (dats m n l).map .tuple
  | n + 1, .ref r => match lstOf m (.ref r) with
    | some l => (dats m n l).map .list
    | none => none
def dats (m : Mem) : Nat → List MV → Option (List PyData)
  | _, [] => some []
  | 0, _ :: _ => none
  | n + 1, d :: ds => match dat m n d, dats m n ds with
    | some a, some b => some (a :: b)
    | _, _ => none
end
mutual
theorem RM.dat1 (R : RM K β H m) : ∀ {n : Nat} {d : MV} {v : V} {e : PyData}, RV K β H d v → dat m n d = some e → Dp K H v e
  | _, .non, _, _, .non, h => by unfold MI.dat at h; cases h; exact .non
  | _, .bl b, _, _, .bl _, h => by unfold MI.dat at h; cases h; exact .bl b
  | _, .int i, _, _, .int _, h => by unfold MI.dat at h; cases h; exact .int i
  | _, .str s, _, _, .str _, h => by unfold MI.dat at h; cases h; exact .str s
  | 0, .tup l, _, _, _, h => by unfold MI.dat at h; cases h
  | 0, .ref l, _, _, _, h => by unfold MI.dat at h; cases h
  | _, .kl l, _, _, _, h => by unfold MI.dat at h; cases h
  | _, .clo _ _, _, _, _, h => by unfold MI.dat at h; cases h
  | n + 1, .tup l, _, _, .tup h1 h2, h => by
    unfold MI.dat at h
    cases e : dats m n l with
    | none => rw [e] at h; cases h
    | some es => rw [e] at h; cases h; exact .tup h1 (RM.dats1 R h2 e)
  | n + 1, .ref r, v, _, hr, h => by
    unfold MI.dat at h
    split at h
    · rename_i l e
      obtain ⟨a, vs, rfl, h1, h2⟩ := R.lst hr e
      cases e : dats m n l with
      | none => rw [e] at h; cases h
      | some es => rw [e] at h; cases h; exact .lst h1 (RM.dats1 R h2 e)
    · cases h
theorem RM.dats1 (R : RM K β H m) : ∀ {n : Nat} {d : List MV} {v : List V} {e : List PyData}, RVs K β H d v → dats m n d = some e → DpAll K H v e
  | _, [], _, _, .nil, h => by unfold MI.dats at h; cases h; exact .nil
  | 0, _ :: _, _, _, _, h => by unfold MI.dats at h; cases h
  | n + 1, d :: ds, _, _, .cons h1 h2, h => by
    unfold MI.dats at h
    split at h
    · rename_i a b e1 e2
      cases h
      exact .cons (RM.dat1 R h1 e1) (RM.dats1 R h2 e2)
    · cases h
end
def fuel : Nat := 2000
def gEq (neg : Bool) (d e : MV) (m : Mem) : Re MV := match dat m fuel d, dat m fuel e with
  | some a, some b => if SeqAt.shaped a = true ∧ SeqAt.shaped b = true then .ok (.bl (if neg then !a.eqv b else a.eqv b)) m else .stuck
  | _, _ => .stuck
theorem om_eq : OpM X (rEqD X.K) (gEq false) := by
  intro W σ d e m β H x y Q M rx ry p
  unfold gEq at p
  split at p
  · rename_i a b e1 e2
    split at p
    · rename_i h
      exact ⟨a, b, M.dat1 rx e1, M.dat1 ry e2, h.1, h.2, p.ok M (.bl _)⟩
    · exact p.not_stuck
  · exact p.not_stuck
theorem om_ne : OpM X (rNeD X.K) (gEq true) := by
  intro W σ d e m β H x y Q M rx ry p
  unfold gEq at p
  split at p
  · rename_i a b e1 e2
    split at p
    · rename_i h
      exact ⟨a, b, M.dat1 rx e1, M.dat1 ry e2, h.1, h.2, p.ok M (.bl _)⟩
    · exact p.not_stuck
  · exact p.not_stuck
end
end MI
namespace MI
open PySem L2
variable [Nms]
section
variable {X : Cx} {W : WX} {pos : Pos} {K : PySem.W.Frag} {β : List Addr} {H : Hp} {m : Mem}
def truO : Option MO → Option Bool
  | some (.lst l) => some (!l.isEmpty)
  | some (.frz l) => some (!l.isEmpty)
  | some (.dct l) => some (!l.isEmpty)
  | _ => none
def tru (m : Mem) : MV → Option Bool
  | .non => some false
  | .bl b => some b
  | .int i => some (i != 0)
  | .str y => if y.length ≤ sizeLine then some ((y.length : Int) != 0) else none
  | .tup l => some (!l.isEmpty)
  | .ref n => truO m[n]?
  | .kl _ => none
  | .clo _ _ => none
theorem RVs.isEmpty {ds : List MV} {vs : List V} (h : RVs K β H ds vs) : ds.isEmpty = vs.isEmpty := by
  cases h <;> rfl
theorem RKs.isEmpty {ds : List (Key × MV)} {vs : List (Key × V)} (h : RKs K β H ds vs) : ds.isEmpty = vs.isEmpty := by
  cases h <;> rfl
theorem RM.tru (R : RM K β H m) {d : MV} {v : V} {b : Bool} (r : RV K β H d v) (h : tru m d = some b) : TruV K v H b := by
  cases r with
  | non => cases h; rfl
  | bl k => cases h; rfl
  | int i => cases h; rfl
  | str x =>
    have h' : (if x.length ≤ sizeLine then some ((x.length : Int) != 0) else none) = some b := h
    by_cases q : x.length ≤ sizeLine
    · rw [if_pos q] at h'; cases h'; exact ⟨q, rfl⟩
    · rw [if_neg q] at h'; cases h'
  | tup h1 h2 => cases h; exact .inr (.inl ⟨_, h1, by rw [h2.isEmpty]⟩)
  | @ref n a hb =>
    have h' : truO m[n]? = some b := h
    cases e : m[n]? with
    | none => rw [e] at h'; cases h'
    | some o =>
      rw [e] at h'
      have q := R.ob n o a e hb
      cases o with
      | lst l => cases h'; obtain ⟨vs, q1, q2⟩ := q; exact .inl ⟨_, SqL.of q1, by rw [q2.isEmpty]⟩
      | frz l => cases h'; obtain ⟨vs, ob, q1, q2⟩ := q; exact .inl ⟨_, .inl (.inr ⟨ob, q1⟩), by rw [q2.isEmpty]⟩
      | dct l => cases h'; obtain ⟨vs, q1, q2⟩ := q; exact .inr (.inr ⟨_, q1, by rw [q2.isEmpty]⟩)
      | exn x => cases h'
      | own c l => cases h'
  | kl h1 h2 => cases h
  | clo h1 => cases h
def mTru (f : ME) : MT := fun ρ m => (f ρ m).bind fun d m1 => match tru m1 d with
  | some b => .ok b m1
  | none => .stuck
theorem jt_tru {a : Expr} {f : ME} (h : JE X W a f) (he : ∀ whole, PySem.isTrue a X.env whole = (do let v ← whole; standAt a.pos; holding [v] (truthy v)) := by intro _; rfl) : JT X W a (mTru f) :=
  ⟨pt_imp (pt_truth h.run he) fun σ H Q ⟨ρ, m, β, hE, hM, p⟩ => ⟨ρ, m, β, hE, hM, p.bind fun d m1 x H1 β1 _ e1 M1 V1 p1 => by
    split at p1
    · rename_i b e; exact ⟨b, M1.tru V1 e, p1.ok M1 rfl⟩
    · exact p1.not_stuck⟩⟩
/-- a value that is a bool, as a test -/
def mB (f : ME) : MT := fun ρ m => (f ρ m).bind fun d m1 => match d with
  | .bl b => .ok b m1
  | _ => .stuck
theorem jt_cmp {op : CmpOp} {r : R2} {g : MV → MV → Mem → Re MV} {a b : Expr} {fa fb : ME} (ho : OpR X (compareOp op) r) (hm : OpM X r g) (ha : JE X W a fa) (hb : JE X W b fb) (hk : behindInMarks op b = false := by first | exact nobehind _ (by decide) (by decide) | rfl) :
    JT X W (.Compare a [op] [b] pos) (mB (mBin g fa fb)) := by
  refine ⟨pt_imp (pt_cmpR ho ha.run hb.run hk) fun σ H Q ⟨ρ, m, β, hE, hM, p⟩ => ⟨ρ, m, β, hE, hM, ?_⟩⟩
  unfold mB mBin at p
  have p' : Post X W ((fa ρ m).bind fun a m1 => ((fb ρ m1).bind fun b m2 => g a b m2).bind fun d m1 => match d with | .bl b => .ok b m1 | _ => .stuck) β H σ (fun _ _ d v => d = v) Q := by
    cases hh : fa ρ m with
    | ok d m1 => rw [hh] at p; exact p
    | ex x m1 => rw [hh] at p; exact p
    | stuck => rw [hh] at p; exact p
  refine p'.bind fun d m1 x H1 β1 _ e1 M1 V1 p1 => ⟨ρ, m1, β1, hE.ext hM e1, M1, ?_⟩
  have p1' : Post X W ((fb ρ m1).bind fun b m2 => (g d b m2).bind fun d m1 => match d with | .bl b => .ok b m1 | _ => .stuck) β1 H1 σ (fun _ _ d v => d = v) Q := by
    cases hh : fb ρ m1 with
    | ok d m1 => rw [hh] at p1; exact p1
    | ex x m1 => rw [hh] at p1; exact p1
    | stuck => rw [hh] at p1; exact p1
  refine p1'.bind fun d2 m2 y H2 β2 _ e2 M2 V2 p2 => hm W σ d d2 m2 β2 H2 x y _ M2 (V1.ext M1 e2) V2 (p2.bind fun d3 m3 z H3 β3 _ e3 M3 V3 p3 => ?_)
  split at p3
  · cases V3; exact ⟨_, rfl, p3.ok M3 rfl⟩
  · exact p3.not_stuck
structure JW (X : Cx) (W : WX) (e : Expr) (f : MT) : Prop where
  run : PW X e (tT X W f)
theorem pw_imp {X : Cx} {e : Expr} {t t' : TT} (h : PW X e t) (i : ∀ σ H Q, t' σ H Q → t σ H Q) : PW X e t' := ⟨fun wh pins s σ H Q I q => h.run wh pins s σ H Q I (i σ H Q q)⟩
def mNotT (f : MT) : MT := fun ρ m => (f ρ m).bind fun b m1 => .ok (!b) m1
def mAndT (f g : MT) : MT := fun ρ m => (f ρ m).bind fun b m1 => if b = true then g ρ m1 else .ok false m1
def mOrT (f g : MT) : MT := fun ρ m => (f ρ m).bind fun b m1 => if b = true then .ok true m1 else g ρ m1
theorem jt_not {a : Expr} {f : MT} (h : JT X W a f) : JT X W (.UnaryOp .Not a pos) (mNotT f) :=
  ⟨pt_imp (pt_not h.run) fun σ H Q ⟨ρ, m, β, hE, hM, p⟩ => ⟨ρ, m, β, hE, hM, p.bind fun d m1 x H1 β1 _ e1 M1 V1 p1 => by cases V1; exact p1.ok M1 rfl⟩⟩
theorem jw_and1 {a : Expr} {f : MT} (h : JT X W a f) : JW X W (.BoolOp .And [a] pos) f := ⟨pw_and1 h.run⟩
theorem jw_or1 {a : Expr} {f : MT} (h : JT X W a f) : JW X W (.BoolOp .Or [a] pos) f := ⟨pw_or1 h.run⟩
theorem jw_and {a b : Expr} {rest : List Expr} {f g : MT} (h : JT X W a f) (h2 : JW X W (.BoolOp .And (b :: rest) pos) g) : JW X W (.BoolOp .And (a :: b :: rest) pos) (mAndT f g) :=
  ⟨pw_imp (pw_and h.run h2.run) fun σ H Q ⟨ρ, m, β, hE, hM, p⟩ => ⟨ρ, m, β, hE, hM, p.bind fun d m1 x H1 β1 _ e1 M1 V1 p1 => by
    cases V1
    cases d with
    | true => exact ⟨ρ, m1, β1, hE.ext hM e1, M1, p1⟩
    | false => exact p1.ok M1 rfl⟩⟩
theorem jw_or {a b : Expr} {rest : List Expr} {f g : MT} (h : JT X W a f) (h2 : JW X W (.BoolOp .Or (b :: rest) pos) g) : JW X W (.BoolOp .Or (a :: b :: rest) pos) (mOrT f g) :=
  ⟨pw_imp (pw_or h.run h2.run) fun σ H Q ⟨ρ, m, β, hE, hM, p⟩ => ⟨ρ, m, β, hE, hM, p.bind fun d m1 x H1 β1 _ e1 M1 V1 p1 => by
    cases V1
    cases d with
    | false => exact ⟨ρ, m1, β1, hE.ext hM e1, M1, p1⟩
    | true => exact p1.ok M1 rfl⟩⟩
theorem JW.jt {e : Expr} {f : MT} (h : JW X W e f) : JT X W e f := ⟨h.run.pt⟩
/-- .. as values -/
def mAnd (f g : ME) : ME := fun ρ m => (f ρ m).bind fun d m1 => match tru m1 d with
  | some true => g ρ m1
  | some false => .ok d m1
  | none => .stuck
def mOr (f g : ME) : ME := fun ρ m => (f ρ m).bind fun d m1 => match tru m1 d with
  | some true => .ok d m1
  | some false => g ρ m1
  | none => .stuck
def mNot (f : ME) : ME := fun ρ m => (f ρ m).bind fun d m1 => match tru m1 d with
  | some b => .ok (.bl (!b)) m1
  | none => .stuck
theorem je_one {op : BoolOp} {a : Expr} {f : ME} (h : JE X W a f) : JE X W (.BoolOp op [a] pos) f := ⟨pe_one h.run⟩
theorem je_and {a b : Expr} {rest : List Expr} {f g : ME} (h : JE X W a f) (h2 : JE X W (.BoolOp .And (b :: rest) pos) g) : JE X W (.BoolOp .And (a :: b :: rest) pos) (mAnd f g) :=
  ⟨pe_imp (pe_andT h.run h2.run) fun σ H Q ⟨ρ, m, β, hE, hM, p⟩ => ⟨ρ, m, β, hE, hM, p.bind fun d m1 x H1 β1 _ e1 M1 V1 p1 => by
    split at p1
    · rename_i e; exact ⟨true, M1.tru V1 e, ⟨ρ, m1, β1, hE.ext hM e1, M1, p1⟩⟩
    · rename_i e; exact ⟨false, M1.tru V1 e, p1.ok M1 V1⟩
    · exact p1.not_stuck⟩⟩
theorem je_or {a b : Expr} {rest : List Expr} {f g : ME} (h : JE X W a f) (h2 : JE X W (.BoolOp .Or (b :: rest) pos) g) : JE X W (.BoolOp .Or (a :: b :: rest) pos) (mOr f g) :=
  ⟨pe_imp (pe_orT h.run h2.run) fun σ H Q ⟨ρ, m, β, hE, hM, p⟩ => ⟨ρ, m, β, hE, hM, p.bind fun d m1 x H1 β1 _ e1 M1 V1 p1 => by
    split at p1
    · rename_i e; exact ⟨true, M1.tru V1 e, p1.ok M1 V1⟩
    · rename_i e; exact ⟨false, M1.tru V1 e, ⟨ρ, m1, β1, hE.ext hM e1, M1, p1⟩⟩
    · exact p1.not_stuck⟩⟩
theorem je_not {a : Expr} {f : ME} (h : JE X W a f) : JE X W (.UnaryOp .Not a pos) (mNot f) :=
  ⟨pe_imp (pe_notT h.run) fun σ H Q ⟨ρ, m, β, hE, hM, p⟩ => ⟨ρ, m, β, hE, hM, p.bind fun d m1 x H1 β1 _ e1 M1 V1 p1 => by
    split at p1
    · rename_i b e; exact ⟨b, M1.tru V1 e, p1.ok M1 (.bl _)⟩
    · exact p1.not_stuck⟩⟩
def mIf (c : MT) (f g : ME) : ME := fun ρ m => (c ρ m).bind fun b m1 => if b = true then f ρ m1 else g ρ m1
theorem je_if {c a b : Expr} {fc : MT} {f g : ME} (hc : JT X W c fc) (ha : JE X W a f) (hb : JE X W b g) : JE X W (.IfExp c a b pos) (mIf fc f g) :=
  ⟨pe_imp (pe_ifExp hc.run ha.run hb.run) fun σ H Q ⟨ρ, m, β, hE, hM, p⟩ => ⟨ρ, m, β, hE, hM, p.bind fun d m1 x H1 β1 _ e1 M1 V1 p1 => by
    cases V1
    cases d with
    | true => exact ⟨ρ, m1, β1, hE.ext hM e1, M1, p1⟩
    | false => exact ⟨ρ, m1, β1, hE.ext hM e1, M1, p1⟩⟩⟩
def mNil : MA := fun _ m => .ok [] m
def mCons (f : ME) (g : MA) : MA := fun ρ m => (f ρ m).bind fun d m1 => (g ρ m1).bind fun ds m2 => .ok (d :: ds) m2
theorem ja_nil : JA X W [] mNil := ⟨pa_imp pa_nil fun _ _ _ ⟨_, _, _, _, hM, p⟩ => p.ok hM .nil⟩
theorem ja_cons {e : Expr} {es : List Expr} {f : ME} {g : MA} (h : JE X W e f) (h2 : JA X W es g) (he : starEach (e :: es) X.env = (false, eval e X.env) :: starEach es X.env := by rfl) : JA X W (e :: es) (mCons f g) :=
  ⟨pa_imp (pa_cons h.run h2.run he) fun σ H Q ⟨ρ, m, β, hE, hM, p⟩ => ⟨ρ, m, β, hE, hM, p.bind fun d m1 x H1 β1 _ e1 M1 V1 p1 => ⟨ρ, m1, β1, hE.ext hM e1, M1, p1.bind fun d2 m2 y H2 β2 _ e2 M2 V2 p2 =>
    p2.ok M2 (.cons (V1.ext M1 e2) V2)⟩⟩⟩
/-- *e within a display or a call -/
def mStar (f : ME) (g : MA) : MA := fun ρ m => (f ρ m).bind fun d m1 => match seqOf m1 d with
  | some l => (g ρ m1).bind fun ds m2 => .ok (l ++ ds) m2
  | none => .stuck
def mTup (g : MA) : ME := fun ρ m => (g ρ m).bind fun ds m1 => if ds.length ≤ sizeLine then .ok (.tup ds) m1 else .stuck
def mLst (g : MA) : ME := fun ρ m => (g ρ m).bind fun ds m1 => if ds.length ≤ sizeLine then alloc (.lst ds) m1 else .stuck
theorem je_tup {es : List Expr} {k : Nat} {g : MA} (h : JA X W es g) : JE X W (.Tuple es k pos) (mTup g) :=
  ⟨pe_imp (pe_tup h.run) fun σ H Q ⟨ρ, m, β, hE, hM, p⟩ => ⟨ρ, m, β, hE, hM, p.bind fun d m1 x H1 β1 _ e1 M1 V1 p1 => by
    split at p1
    · rename_i q; exact ⟨by rw [← V1.length]; exact q, fun a ha => p1.newtup M1 ha V1⟩
    · exact p1.not_stuck⟩⟩
theorem je_lst {es : List Expr} {g : MA} (h : JA X W es g) : JE X W (.List es pos) (mLst g) :=
  ⟨pe_imp (pe_lst h.run) fun σ H Q ⟨ρ, m, β, hE, hM, p⟩ => ⟨ρ, m, β, hE, hM, p.bind fun d m1 x H1 β1 _ e1 M1 V1 p1 => by
    split at p1
    · rename_i q; exact ⟨by rw [← V1.length]; exact q, fun a ha => p1.alloc M1 ha ⟨_, upd_same, V1.ext M1 (Ext.push ha)⟩⟩
    · exact p1.not_stuck⟩⟩
end
end MI
namespace MI
open PySem L2
variable [Nms]
section
variable {X : Cx} {W : WX} {pos : Pos} {K : PySem.W.Frag} {β : List Addr} {H : Hp} {m : Mem}
theorem ja_star {e : Expr} {es : List Expr} {f : ME} {g : MA} {p : Pos} (h : JE X W e f) (h2 : JA X W es g) (hs : starEach (.Starred e p :: es) X.env = (true, eval e X.env) :: starEach es X.env := by rfl) : JA X W (.Starred e p :: es) (mStar f g) :=
  ⟨pa_imp (StX.pa_star h.run h2.run hs) fun σ H Q ⟨ρ, m, β, hE, hM, p⟩ => ⟨ρ, m, β, hE, hM, p.bind fun d m1 x H1 β1 _ e1 M1 V1 p1 => by
    split at p1
    · rename_i l q
      obtain ⟨a, vs, rfl, hs, hr⟩ := M1.seq V1 q
      refine ⟨a, vs, rfl, hs.symm, ⟨ρ, m1, β1, hE.ext hM e1, M1, p1.bind fun d2 m2 y H2 β2 _ e2 M2 V2 p2 => p2.ok M2 ((hr.ext M1 e2).app V2)⟩⟩
    · exact p1.not_stuck⟩⟩
def atM (l : List MV) (i : Int) : Option MV := (ixN l.length i).bind fun j => l[j]?
theorem RVs.at_ {ds : List MV} {vs : List V} {i : Int} {d : MV} (h : RVs K β H ds vs) (e : atM ds i = some d) : ∃ v, atI vs i = some v ∧ RV K β H d v := by
  unfold atM at e
  unfold atI
  rw [← h.length]
  cases q : ixN ds.length i with
  | none => rw [q] at e; cases e
  | some j =>
    rw [q] at e
    obtain ⟨v, h1, h2⟩ := h.get (show ds[j]? = some d from e)
    exact ⟨v, h1, h2⟩
/-- x[i] by values: a list, a tuple, a text -/
def gIx : MV → MV → Mem → Re MV
  | .str z, .int i, m => if z.length ≤ sizeLine then match atI z.cps.toList i with
      | some c => .ok (.str ⟨#[c]⟩) m
      | none => .stuck
    else .stuck
  | d, .int i, m => match seqOf m d with
    | some l => match atM l i with
      | some e => .ok e m
      | none => .stuck
    | none => .stuck
  | _, _, _ => .stuck
theorem om_ix : OpM X (rIx X.K) gIx := by
  intro W σ d e m β H x y Q M rx ry p
  unfold gIx at p
  split at p
  · cases rx; cases ry
    split at p
    · rename_i h
      split at p
      · rename_i c hc
        exact .inr (.inr ⟨_, _, c, rfl, rfl, h, hc, p.ok M (.str _)⟩)
      · exact p.not_stuck
    · exact p.not_stuck
  · cases ry
    split at p
    · rename_i l hl
      split at p
      · rename_i e he
        obtain ⟨a, vs, rfl, hs, hr⟩ := M.seq rx hl
        obtain ⟨v, h1, h2⟩ := hr.at_ he
        rcases hs with hs | hs
        · exact .inl ⟨a, vs, _, v, rfl, rfl, hs, h1, p.ok M h2⟩
        · exact .inr (.inl ⟨a, vs, _, v, rfl, rfl, hs, h1, p.ok M h2⟩)
      · exact p.not_stuck
    · exact p.not_stuck
  · exact p.not_stuck
theorem je_ix {a b : Expr} {fa fb : ME} (ha : JE X W a fa) (hb : JE X W b fb) (hs : PlainIx b := by intro _ _; rfl) : JE X W (.Subscript a b pos) (mBin gIx fa fb) :=
  ⟨pe_imp (pe_ix ix_seq ha.run hb.run hs) fun σ H Q ⟨ρ, m, β, hE, hM, p⟩ => ⟨ρ, m, β, hE, hM, p.bind fun d m1 x H1 β1 _ e1 M1 V1 p1 => ⟨ρ, m1, β1, hE.ext hM e1, M1, p1.bind fun d2 m2 y H2 β2 _ e2 M2 V2 p2 =>
    om_ix W σ d d2 m2 β2 H2 x y Q M2 (V1.ext M1 e2) V2 p2⟩⟩⟩
/-- d[k], d a dict with ints and texts for keys -/
def keyOf : MV → Option Key
  | .int i => some (.inl i)
  | .str x => some (.inr x)
  | _ => none
def dctOf (m : Mem) : MV → Option (Nat × List (Key × MV))
  | .ref n => match m[n]? with
    | some (.dct l) => some (n, l)
    | _ => none
  | _ => none
def valM (l : List (Key × MV)) (k : Key) : Option MV := Option.map (fun x => x.snd) (List.find? (fun kv => decide (kv.fst = k)) l)
def putM (l : List (Key × MV)) (k : Key) (d : MV) : List (Key × MV) :=
  if (l.any fun kv => decide (kv.fst = k)) = true then List.map (fun kv => if kv.fst = k then (kv.fst, d) else kv) l else l ++ [(k, d)]
theorem dctOf_some {d : MV} {n : Nat} {l : List (Key × MV)} (h : dctOf m d = some (n, l)) : d = .ref n ∧ m[n]? = some (.dct l) := by
  unfold dctOf at h
  split at h
  · split at h
    · rename_i e
      cases h
      exact ⟨rfl, e⟩
    · cases h
  · cases h
theorem RM.dct (R : RM K β H m) {d : MV} {v : V} {n : Nat} {l : List (Key × MV)} (r : RV K β H d v) (h : dctOf m d = some (n, l)) : ∃ a vs, v = .ref a ∧ β[n]? = some a ∧ H a = some (.dK vs) ∧ RKs K β H l vs := by
  obtain ⟨rfl, e⟩ := dctOf_some h
  cases r with
  | ref hb =>
    obtain ⟨vs, q1, q2⟩ := R.ob n _ _ e hb
    exact ⟨_, vs, rfl, hb, q1, q2⟩
theorem keyOf_some {d : MV} {v : V} {k : Key} (r : RV K β H d v) (h : keyOf d = some k) : v = kV k := by
  cases r <;> cases h <;> rfl
theorem RKs.val : ∀ {l : List (Key × MV)} {vs : List (Key × V)} {k : Key}, RKs K β H l vs → (∀ d, valM l k = some d → ∃ v, valV vs k = some v ∧ RV K β H d v) ∧ (valM l k = none → valV vs k = none)
  | _, _, k, .nil => ⟨fun d h => (by cases h), fun _ => rfl⟩
  | _, _, k, .cons (k := q) (ds := ds) (vs := vs) h r => by
    obtain ⟨i1, i2⟩ := RKs.val (k := k) r
    unfold valM valV at *
    rw [List.find?_cons, List.find?_cons]
    by_cases e : q = k
    · simp only [e, decide_true]
      exact ⟨fun d z => (by cases z; exact ⟨_, rfl, h⟩), fun z => (by cases z)⟩
    · simp only [e, decide_false]
      exact ⟨i1, i2⟩
theorem RKs.length : ∀ {l : List (Key × MV)} {vs : List (Key × V)}, RKs K β H l vs → l.length = vs.length
  | _, _, .nil => rfl
  | _, _, .cons _ r => by simp [RKs.length r]
theorem RKs.any : ∀ {l : List (Key × MV)} {vs : List (Key × V)} {k : Key}, RKs K β H l vs → (l.any fun kv => decide (kv.fst = k)) = (vs.any fun kv => decide (kv.fst = k))
  | _, _, _, .nil => rfl
  | _, _, k, .cons _ r => by simp only [List.any_cons, RKs.any (k := k) r]
theorem RKs.map : ∀ {l : List (Key × MV)} {vs : List (Key × V)} {k : Key} {d : MV} {v : V}, RKs K β H l vs → RV K β H d v →
    RKs K β H (l.map fun kv => if kv.fst = k then (kv.fst, d) else kv) (vs.map fun kv => if kv.fst = k then (kv.fst, v) else kv)
  | _, _, _, _, _, .nil, _ => .nil
  | _, _, k, _, _, .cons (k := q) h r, z => by
    simp only [List.map_cons]
    by_cases e : q = k
    · simp only [e, if_true]; exact .cons z (RKs.map r z)
    · simp only [e, if_false]; exact .cons h (RKs.map r z)
theorem RKs.app : ∀ {l l2 : List (Key × MV)} {vs v2 : List (Key × V)}, RKs K β H l vs → RKs K β H l2 v2 → RKs K β H (l ++ l2) (vs ++ v2)
  | _, _, _, _, .nil, q => q
  | _, _, _, _, .cons h r, q => .cons h (RKs.app r q)
theorem RKs.put {l : List (Key × MV)} {vs : List (Key × V)} {k : Key} {d : MV} {v : V} (r : RKs K β H l vs) (h : RV K β H d v) : RKs K β H (putM l k d) (putK vs k v) := by
  unfold putM putK
  rw [r.any (k := k)]
  split
  · exact r.map h
  · exact r.app (.cons h .nil)
/-- d[k] -/
def gDGet (d k : MV) (m : Mem) : Re MV := match dctOf m d, keyOf k with
  | some (_, l), some q => match valM l q with
    | some e => .ok e m
    | none => .stuck
  | _, _ => .stuck
theorem je_dget {a b : Expr} {fa fb : ME} (hu : X.A.units + 1 < cLine) (ha : JE X W a fa) (hb : JE X W b fb) (hs : NoSl b := by intro _ _; rfl) : JE X W (.Subscript a b pos) (mBin gDGet fa fb) :=
  ⟨pe_imp (pe_dget hu ha.run hb.run hs) fun σ H Q ⟨ρ, m, β, hE, hM, p⟩ => ⟨ρ, m, β, hE, hM, p.bind fun d m1 x H1 β1 _ e1 M1 V1 p1 => ⟨ρ, m1, β1, hE.ext hM e1, M1, p1.bind fun d2 m2 y H2 β2 _ e2 M2 V2 p2 => by
    unfold gDGet at p2
    split at p2
    · rename_i n l q h1 h2
      split at p2
      · rename_i e he
        obtain ⟨a, vs, rfl, hb, hH, hr⟩ := M2.dct (V1.ext M1 e2) h1
        have hy := keyOf_some V2 h2
        subst hy
        obtain ⟨v, z1, z2⟩ := hr.val.1 e he
        exact ⟨a, v, rfl, .inl ⟨vs, q, .inl hH, rfl, z1.symm⟩, p2.ok M2 z2⟩
      · exact p2.not_stuck
    · exact p2.not_stuck⟩⟩⟩
/-- k in d, k not in d -/
def gDIn (neg : Bool) (k d : MV) (m : Mem) : Re MV := match dctOf m d, keyOf k with
  | some (_, l), some q => .ok (.bl (if neg then !(valM l q).isSome else (valM l q).isSome)) m
  | _, _ => .stuck
theorem RKs.isSome {l : List (Key × MV)} {vs : List (Key × V)} {k : Key} (r : RKs K β H l vs) : (valV vs k).isSome = (valM l k).isSome := by
  obtain ⟨h1, h2⟩ := r.val (k := k)
  cases e : valM l k with
  | none => rw [h2 e] <;> rfl
  | some d => obtain ⟨v, z, _⟩ := h1 d e; rw [z] <;> rfl
theorem je_din {a b : Expr} {fa fb : ME} (hu : X.A.units + 1 < cLine) (ha : JE X W a fa) (hb : JE X W b fb) (hk : behindInMarks .In b = false := by rfl) : JE X W (.Compare a [.In] [b] pos) (mBin (gDIn false) fa fb) :=
  ⟨pe_imp (pe_cmp (pc_din hu ha.run hb.run) hk) fun σ H Q ⟨ρ, m, β, hE, hM, p⟩ => ⟨ρ, m, β, hE, hM, p.bind fun d m1 x H1 β1 _ e1 M1 V1 p1 => ⟨ρ, m1, β1, hE.ext hM e1, M1, p1.bind fun d2 m2 y H2 β2 _ e2 M2 V2 p2 => by
    unfold gDIn at p2
    split at p2
    · rename_i n l q h1 h2
      obtain ⟨a, vs, rfl, hb, hH, hr⟩ := M2.dct V2 h1
      have hy := keyOf_some (V1.ext M1 e2) h2
      subst hy
      exact ⟨a, valV vs q, rfl, .inl ⟨vs, q, .inl hH, rfl, rfl⟩, p2.ok M2 (by rw [hr.isSome]; exact .bl _)⟩
    · exact p2.not_stuck⟩⟩⟩
theorem je_dnotin {a b : Expr} {fa fb : ME} (hu : X.A.units + 1 < cLine) (ha : JE X W a fa) (hb : JE X W b fb) (hk : behindInMarks .NotIn b = false := by rfl) : JE X W (.Compare a [.NotIn] [b] pos) (mBin (gDIn true) fa fb) :=
  ⟨pe_imp (pe_cmp (pc_dnotin hu ha.run hb.run) hk) fun σ H Q ⟨ρ, m, β, hE, hM, p⟩ => ⟨ρ, m, β, hE, hM, p.bind fun d m1 x H1 β1 _ e1 M1 V1 p1 => ⟨ρ, m1, β1, hE.ext hM e1, M1, p1.bind fun d2 m2 y H2 β2 _ e2 M2 V2 p2 => by
    unfold gDIn at p2
    split at p2
    · rename_i n l q h1 h2
      obtain ⟨a, vs, rfl, hb, hH, hr⟩ := M2.dct V2 h1
      have hy := keyOf_some (V1.ext M1 e2) h2
      subst hy
      exact ⟨a, valV vs q, rfl, .inl ⟨vs, q, .inl hH, rfl, rfl⟩, p2.ok M2 (by rw [hr.isSome]; exact .bl _)⟩
    · exact p2.not_stuck⟩⟩⟩
def mDNew : ME := fun _ m => alloc (.dct []) m
theorem je_dnew : JE X W (.Dict [] [] pos) mDNew :=
  ⟨pe_imp pe_dnewK fun σ H Q ⟨ρ, m, β, hE, hM, p⟩ => fun a ha => p.alloc hM ha ⟨[], upd_same, .nil⟩⟩
def cutM {α : Type} (xs : List α) (lo hi : Option Int) : List α := (xs.drop (HT.sIx xs.length 0 lo)).take (HT.sIx xs.length xs.length hi - HT.sIx xs.length 0 lo)
theorem RVs.cut {ds : List MV} {vs : List V} (h : RVs K β H ds vs) (lo hi : Option Int) : RVs K β H (cutM ds lo hi) (cutV vs lo hi) := by
  unfold cutM cutV
  rw [h.length]
  exact (h.drop _).take _
def gSl (d : MV) (lo hi : Option Int) (m : Mem) : Re MV := match d with
  | .str z => if z.length ≤ sizeLine then .ok (.str ⟨(cutM z.cps.toList lo hi).toArray⟩) m else .stuck
  | .tup l => .ok (.tup (cutM l lo hi)) m
  | d => match lstOf m d with
    | some l => alloc (.lst (cutM l lo hi)) m
    | none => .stuck
abbrev rSlAll (K : PySem.W.Frag) : V → Option Int → Option Int → Hp → VK → Prop := fun x lo hi H Q => rSlL K x lo hi H Q ∨ rSlA K x lo hi H Q ∨ rSlS x lo hi H Q
theorem sl_all : SlR X (rSlAll X.K) := SlR.or sl_list (SlR.or sl_tupA sl_str)
theorem cut_all {α : Type} {xs : List α} {lo hi : Option Int} (h : HT.sIx xs.length 0 lo = 0 ∧ HT.sIx xs.length xs.length hi = xs.length) : cutM xs lo hi = xs := by
  unfold cutM
  rw [h.1, h.2]; simp
theorem om_sl {σ : L2.St} {d : MV} {lo hi : Option Int} {m : Mem} {β : List Addr} {H : Hp} {x : V} {Q : VK} (M : RM X.K β H m) (rx : RV X.K β H d x) (p : Post X W (gSl d lo hi m) β H σ (fun β' H' d v => RV X.K β' H' d v) Q) : rSlAll X.K x lo hi H Q := by
  unfold gSl at p
  split at p
  · rename_i z
    cases rx
    split at p
    · rename_i h
      refine .inr (.inr ⟨_, rfl, h, ?_⟩)
      have e : cutS z lo hi = ⟨(cutM z.cps.toList lo hi).toArray⟩ := by
        unfold cutS cutM
        rw [show z.cps.toList.length = z.length from by simp [Str.length]]
      rw [e]
      exact p.ok M (.str _)
    · exact p.not_stuck
  · cases rx with
    | tup h1 r1 =>
      refine .inr (.inl ⟨_, _, rfl, h1, fun q => ?_, fun q a ha => p.newtup M ha (r1.cut lo hi)⟩)
      rw [← r1.length] at q
      rw [cut_all q] at p
      exact p.ok M (.tup h1 r1)
  · split at p
    · rename_i l hl
      obtain ⟨a, vs, rfl, hs, hr⟩ := M.lst rx hl
      exact .inl ⟨a, vs, rfl, hs, fun q hq => p.alloc M hq ⟨_, upd_same, (hr.cut lo hi).ext M (Ext.push hq)⟩⟩
    · exact p.not_stuck
/-- an end of a slice -/
abbrev MO' := Env → Mem → Re (Option Int)
structure JO (X : Cx) (W : WX) (e : Option Expr) (f : MO') : Prop where
  run : PO X e (fun σ H Q => ∃ ρ m β, RE X.K β H ρ σ ∧ RM X.K β H m ∧ Post X W (f ρ m) β H σ (fun _ _ d v => d = v) Q)
def mNo : MO' := fun _ m => .ok none m
def mEnd (f : ME) : MO' := fun ρ m => (f ρ m).bind fun d m1 => match d with
  | .int i => .ok (some i) m1
  | _ => .stuck
theorem po_imp {e : Option Expr} {t t' : TO} (h : PO X e t) (i : ∀ σ H Q, t' σ H Q → t σ H Q) : PO X e t' := ⟨fun pins s σ H Q I q => h.run pins s σ H Q I (i σ H Q q)⟩
theorem jo_no : JO X W none mNo := ⟨po_imp po_none fun σ H Q ⟨ρ, m, β, hE, hM, p⟩ => p.ok hM rfl⟩
theorem jo_end {e : Expr} {f : ME} (h : JE X W e f) : JO X W (some e) (mEnd f) :=
  ⟨po_imp (po_some h.run) fun σ H Q ⟨ρ, m, β, hE, hM, p⟩ => ⟨ρ, m, β, hE, hM, p.bind fun d m1 x H1 β1 _ e1 M1 V1 p1 => by
    split at p1
    · cases V1; exact ⟨_, rfl, p1.ok M1 rfl⟩
    · exact p1.not_stuck⟩⟩
def mSl (f : ME) (l h : MO') : ME := fun ρ m => (f ρ m).bind fun d m1 => (l ρ m1).bind fun lo m2 => (h ρ m2).bind fun hi m3 => gSl d lo hi m3
theorem je_sl {e : Expr} {lo hi : Option Expr} {p2 : Pos} {f : ME} {l h : MO'} (he : JE X W e f) (hl : JO X W lo l) (hh : JO X W hi h) : JE X W (.Subscript e (.Slice lo hi none p2) pos) (mSl f l h) :=
  ⟨pe_imp (pe_slice sl_all he.run hl.run hh.run) fun σ H Q ⟨ρ, m, β, hE, hM, p⟩ => ⟨ρ, m, β, hE, hM, p.bind fun d m1 x H1 β1 _ e1 M1 V1 p1 => ⟨ρ, m1, β1, hE.ext hM e1, M1, p1.bind fun o m2 o' H2 β2 _ e2 M2 V2 p2 => by
    subst V2
    exact ⟨ρ, m2, β2, (hE.ext hM e1).ext M1 e2, M2, p2.bind fun u m3 u' H3 β3 _ e3 M3 V3 p3 => by
      subst V3
      exact om_sl M3 ((V1.ext M1 e2).ext M2 e3) p3⟩⟩⟩⟩
end
end MI
namespace MI
open PySem L2
variable [Nms]
section
variable {X : Cx} {W : WX} {pos : Pos} {K : PySem.W.Frag} {β : List Addr} {H : Hp} {m : Mem}
def PostS (X : Cx) (W : WX) (r : Re Fl) (β : List Addr) (H : Hp) (D : Ends) : Prop :=
  match r with
  | .ok (.nx ρ') m' => ∀ σ' H' β', Ext β H β' H' → RM X.K β' H' m' → RE X.K β' H' ρ' σ' → D.nx σ' H'
  | .ok (.bk ρ') m' => ∀ σ' H' β', Ext β H β' H' → RM X.K β' H' m' → RE X.K β' H' ρ' σ' → D.bk σ' H'
  | .ok (.ct ρ') m' => ∀ σ' H' β', Ext β H β' H' → RM X.K β' H' m' → RE X.K β' H' ρ' σ' → D.ct σ' H'
  | .ok (.rt d) m' => ∀ v H' β', Ext β H β' H' → RM X.K β' H' m' → RV X.K β' H' d v → D.rt v H'
  | .ok (.ex x ρ') m' => ∀ cls dd σ' H' β', Ext β H β' H' → RM X.K β' H' m' → RE X.K β' H' ρ' σ' → XR X.K x cls dd → W cls dd σ' H'
  | .ex _ _ => False
  | .stuck => False
theorem tS_of {f : MS} {D : Ends} {σ : L2.St} {H : Hp} (h : tS X W f D σ H) : ∃ ρ m β, RE X.K β H ρ σ ∧ RM X.K β H m ∧ PostS X W (f ρ m) β H D := h
theorem PostS.later {r : Re Fl} {β β1 : List Addr} {H H1 : Hp} {D : Ends} (p : PostS X W r β H D) (e : Ext β H β1 H1) : PostS X W r β1 H1 D := by
  cases r with
  | ok a m =>
    cases a with
    | nx ρ => exact fun σ' H' β' e' => p σ' H' β' (e.trans e')
    | bk ρ => exact fun σ' H' β' e' => p σ' H' β' (e.trans e')
    | ct ρ => exact fun σ' H' β' e' => p σ' H' β' (e.trans e')
    | rt d => exact fun σ' H' β' e' => p σ' H' β' (e.trans e')
    | ex x ρ => exact fun c d σ' H' β' e' => p c d σ' H' β' (e.trans e')
  | ex x m => exact p
  | stuck => exact p
/-- an expression within a statement -/
def onE {α : Type} (ρ : Env) (r : Re α) (k : α → Mem → Re Fl) : Re Fl := match r with
  | .ok a m => k a m
  | .ex x m => .ok (.ex x ρ) m
  | .stuck => .stuck
theorem PostS.on {α γ : Type} {r : Re α} {k : α → Mem → Re Fl} {β : List Addr} {H : Hp} {σ : L2.St} {ρ : Env} {D : Ends} {R : List Addr → Hp → α → γ → Prop} {Q : γ → Hp → Prop} (hE : RE X.K β H ρ σ) (hM : RM X.K β H m) (p : PostS X W (onE ρ r k) β H D)
    (h : ∀ d m1 v H1 β1, r = .ok d m1 → Ext β H β1 H1 → RM X.K β1 H1 m1 → R β1 H1 d v → PostS X W (k d m1) β1 H1 D → Q v H1) : Post X W r β H σ R Q := by
  cases r with
  | ok d m => exact fun v H' β' e M V => h d m v H' β' rfl e M V (PostS.later (r := k d m) p e)
  | ex x m => exact fun c d H' β' e M z => p c d σ H' β' e M (hE.ext hM e) z
  | stuck => exact p
/-- another end for what follows: the same but nx -/
theorem PostS.seq {r : Re Fl} {k : Env → Mem → Re Fl} {β : List Addr} {H : Hp} {D : Ends} {N : L2.St → Hp → Prop} (p : PostS X W (match r with | .ok (.nx ρ) m => k ρ m | r => r) β H D)
    (h : ∀ ρ' m' σ' H' β', r = .ok (.nx ρ') m' → Ext β H β' H' → RM X.K β' H' m' → RE X.K β' H' ρ' σ' → PostS X W (k ρ' m') β' H' D → N σ' H') : PostS X W r β H { D with nx := N } := by
  cases r with
  | ok a m =>
    cases a with
    | nx ρ => exact fun σ' H' β' e M E => h ρ m σ' H' β' rfl e M E (PostS.later (r := k ρ m) p e)
    | bk ρ => exact p
    | ct ρ => exact p
    | rt d => exact p
    | ex x ρ => exact p
  | ex x m => exact p
  | stuck => exact p
def mSkip : MS := fun ρ m => .ok (.nx ρ) m
def mSeq (f g : MS) : MS := fun ρ m => match f ρ m with
  | .ok (.nx ρ') m' => g ρ' m'
  | r => r
theorem jb_nil : JB X W [] mSkip := ⟨pss_imp pss_nil fun D σ H ⟨ρ, m, β, hE, hM, p⟩ => p σ H β Ext.refl hM hE⟩
theorem jb_cons {st : Stmt} {rest : List Stmt} {f g : MS} (h : JS X W st f) (h2 : JB X W rest g) : JB X W (st :: rest) (mSeq f g) :=
  ⟨pss_imp (pss_cons h.run h2.run) fun D σ H ⟨ρ, m, β, hE, hM, p⟩ => ⟨ρ, m, β, hE, hM, PostS.seq (k := g) (r := f ρ m) (D := D) p fun ρ' m' σ' H' β' _ e M E q => ⟨ρ', m', β', E, M, q⟩⟩⟩
theorem jb_one {st : Stmt} {f : MS} (h : JS X W st f) : JB X W [st] f := ⟨pss_one h.run⟩
def mRet (f : ME) : MS := fun ρ m => onE ρ (f ρ m) fun d m1 => .ok (.rt d) m1
theorem js_ret {e : Expr} {f : ME} (h : JE X W e f) : JS X W (.Return (some e) pos) (mRet f) :=
  ⟨ps_imp (ps_ret h.run) fun D σ H ⟨ρ, m, β, hE, hM, p⟩ => ⟨ρ, m, β, hE, hM, PostS.on (D := D) (k := fun d m1 => .ok (.rt d) m1) hE hM p fun d m1 v H1 β1 _ e M V q => q v H1 β1 Ext.refl M V⟩⟩
def mDrop (f : ME) : MS := fun ρ m => onE ρ (f ρ m) fun _ m1 => .ok (.nx ρ) m1
theorem js_expr {e : Expr} {f : ME} (h : JE X W e f) (hs : swapsWith e none pos.line X.env = pure false := by rfl) : JS X W (.Expr e pos) (mDrop f) :=
  ⟨ps_imp (ps_expr h.run hs) fun D σ H ⟨ρ, m, β, hE, hM, p⟩ => ⟨ρ, m, β, hE, hM, PostS.on (D := D) (k := fun _ m1 => .ok (.nx ρ) m1) (R := fun β' H' d v => RV X.K β' H' d v) hE hM p fun d m1 v H1 β1 _ e M V q => q σ H1 β1 Ext.refl M (hE.ext hM e)⟩⟩
def mIfS (c : MT) (f g : MS) : MS := fun ρ m => onE ρ (c ρ m) fun b m1 => if b = true then f ρ m1 else g ρ m1
theorem js_if {c : Expr} {a b : List Stmt} {fc : MT} {f g : MS} (hc : JT X W c fc) (ha : JB X W a f) (hb : JB X W b g) : JS X W (.If c a b pos) (mIfS fc f g) :=
  ⟨ps_imp (ps_if hc.run ha.run hb.run) fun D σ H ⟨ρ, m, β, hE, hM, p⟩ => ⟨ρ, m, β, hE, hM, PostS.on (D := D) (k := fun b m1 => if b = true then f ρ m1 else g ρ m1) (R := fun _ _ d v => d = v) hE hM p fun d m1 v H1 β1 _ e M V q => by
    subst V
    cases d with
    | true => exact ⟨ρ, m1, β1, hE.ext hM e, M, q⟩
    | false => exact ⟨ρ, m1, β1, hE.ext hM e, M, q⟩⟩⟩
abbrev MG := MV → Env → Mem → Re Env
def tG (X : Cx) (g : MG) : TG := fun v σ H Q => ∃ d ρ m β, RV X.K β H d v ∧ RE X.K β H ρ σ ∧ RM X.K β H m ∧
  match g d ρ m with
  | .ok ρ' m' => ∀ σ' H' β', Ext β H β' H' → RM X.K β' H' m' → RE X.K β' H' ρ' σ' → Q σ' H'
  | _ => False
abbrev MGs := List MV → Env → Mem → Re Env
def tGs (X : Cx) (g : MGs) : TGs := fun vs σ H Q => ∃ ds ρ m β, RVs X.K β H ds vs ∧ RE X.K β H ρ σ ∧ RM X.K β H m ∧
  match g ds ρ m with
  | .ok ρ' m' => ∀ σ' H' β', Ext β H β' H' → RM X.K β' H' m' → RE X.K β' H' ρ' σ' → Q σ' H'
  | _ => False
structure JG (X : Cx) (tg : Expr) (g : MG) : Prop where
  run : PG X tg (tG X g)
structure JGs (X : Cx) (tg : List Expr) (g : MGs) : Prop where
  run : PGs X tg (tGs X g)
theorem pg_imp {e : Expr} {t t' : TG} (h : PG X e t) (i : ∀ v σ H Q, t' v σ H Q → t v σ H Q) : PG X e t' := ⟨fun pins s σ H v u Q I r q => h.run pins s σ H v u Q I r (i v σ H Q q)⟩
theorem pgs_imp {e : List Expr} {t t' : TGs} (h : PGs X e t) (i : ∀ v σ H Q, t' v σ H Q → t v σ H Q) : PGs X e t' := ⟨fun pins s σ H v u Q I r q => h.run pins s σ H v u Q I r (i v σ H Q q)⟩
def nName (i : Nat) : MG := fun d ρ m => .ok (ρ.set i (some d)) m
theorem jg_name (i : Nat) {x : Str} (hN : X.N.Nodup) (hi : X.N[i]? = some x := by rfl) (hx : Loc X.env.scope x := by first | exact Or.inl rfl | exact Or.inr rfl) (hf : X.fn x = true ∨ X.env.scope.names.lookup x = some .local := by first | exact .inl rfl | exact .inr rfl | assumption) : JG X (.Name x pos) (nName i) :=
  ⟨pg_imp (pg_name hN hi hx hf) fun v σ H Q ⟨d, ρ, m, β, V, hE, hM, p⟩ => p _ H β Ext.refl hM (hE.set V)⟩
def nNil : MGs := fun ds ρ m => match ds with
  | [] => .ok ρ m
  | _ => .stuck
def nCons (g : MG) (k : MGs) : MGs := fun ds ρ m => match ds with
  | d :: r => match g d ρ m with
    | .ok ρ' m' => k r ρ' m'
    | _ => .stuck
  | _ => .stuck
theorem jgs_nil : JGs X [] nNil := ⟨pgs_imp pgs_nil fun v σ H Q ⟨ds, ρ, m, β, V, hE, hM, p⟩ => by
  cases V with
  | nil => exact ⟨rfl, p σ H β Ext.refl hM hE⟩
  | cons _ _ => exact p.elim⟩
theorem jgs_cons {e : Expr} {es : List Expr} {g : MG} {k : MGs} (h1 : JG X e g) (h2 : JGs X es k) (hs : (assignEach (e :: es) X.env).map (·.2) = assign e X.env :: (assignEach es X.env).map (·.2) := by rfl) : JGs X (e :: es) (nCons g k) :=
  ⟨pgs_imp (pgs_cons h1.run h2.run hs) fun v σ H Q ⟨ds, ρ, m, β, V, hE, hM, p⟩ => by
    cases V with
    | nil => exact p.elim
    | @cons d v ds vs h r =>
      refine ⟨v, vs, rfl, d, ρ, m, β, h, hE, hM, ?_⟩
      have p' : match (match g d ρ m with | .ok ρ' m' => k ds ρ' m' | _ => .stuck : Re Env) with
        | .ok ρ' m' => ∀ σ' H' β', Ext β H β' H' → RM X.K β' H' m' → RE X.K β' H' ρ' σ' → Q σ' H'
        | _ => False := p
      cases e1 : g d ρ m with
      | ok ρ1 m1 =>
        rw [e1] at p'
        intro σ1 H1 β1 x1 M1 E1
        refine ⟨ds, ρ1, m1, β1, r.ext hM x1, E1, M1, ?_⟩
        have p2 : match k ds ρ1 m1 with
          | .ok ρ' m' => ∀ σ' H' β', Ext β H β' H' → RM X.K β' H' m' → RE X.K β' H' ρ' σ' → Q σ' H'
          | _ => False := p'
        cases e2 : k ds ρ1 m1 with
        | ok ρ2 m2 => rw [e2] at p2; exact fun σ2 H2 β2 x2 => p2 σ2 H2 β2 (x1.trans x2)
        | ex x m => rw [e2] at p2; exact p2
        | stuck => rw [e2] at p2; exact p2
      | ex x m => rw [e1] at p'; exact p'.elim
      | stuck => rw [e1] at p'; exact p'.elim⟩
/-- (a, b, ..) = a list or a tuple of that length -/
def nTup (n : Nat) (k : MGs) : MG := fun d ρ m => match seqOf m d with
  | some l => if l.length = n then k l ρ m else .stuck
  | none => .stuck
theorem pg_or {e : Expr} {t t' : TG} (h : PG X e t) (h' : PG X e t') : PG X e (fun v σ H Q => t v σ H Q ∨ t' v σ H Q) := ⟨fun pins s σ H v u Q I r q => q.elim (h.run pins s σ H v u Q I r) (h'.run pins s σ H v u Q I r)⟩
theorem jg_tup {es : List Expr} {k : Nat} {g : MGs} {n : Nat} (hc : X.calm = true) (h : JGs X es g) (hn : (assignEach es X.env).length = n := by rfl) (hst : (assignEach es X.env).findIdx? (·.1) = none := by rfl) : JG X (.Tuple es k pos) (nTup n g) :=
  ⟨pg_imp (pg_or (pg_tup hc h.run hn hst) (pg_unl hc h.run hn hst)) fun v σ H Q ⟨d, ρ, m, β, V, hE, hM, p⟩ => by
    unfold nTup at p
    cases e : seqOf m d with
    | none => rw [e] at p; exact p.elim
    | some l =>
      rw [e] at p
      obtain ⟨a, vs, rfl, hs, hr⟩ := hM.seq V e
      by_cases q : l.length = n
      · simp only [q, if_true] at p
        rcases hs with hs | hs
        · exact .inr ⟨a, vs, rfl, hs, by rw [← hr.length]; exact q, l, ρ, m, β, hr, hE, hM, p⟩
        · exact .inl ⟨a, vs, rfl, hs, by rw [← hr.length]; exact q, l, ρ, m, β, hr, hE, hM, p⟩
      · simp only [q, if_false] at p⟩
def mAsg (f : ME) (g : MG) : MS := fun ρ m => onE ρ (f ρ m) fun d m1 => match g d ρ m1 with
  | .ok ρ' m' => .ok (.nx ρ') m'
  | _ => .stuck
theorem js_asg {tg e : Expr} {f : ME} {g : MG} (he : JE X W e f) (hg : JG X tg g) (hs : swapsWithSole [tg] e pos.line X.env = pure false := by rfl) (hw : swappedStores [tg] e X.env = pure none := by rfl)
    (h1 : (assignEach [tg] X.env).map (·.2) = [assign tg X.env] := by rfl) : JS X W (.Assign [tg] e pos) (mAsg f g) :=
  ⟨ps_imp (ps_asg he.run hg.run hs hw h1) fun D σ H ⟨ρ, m, β, hE, hM, p⟩ => ⟨ρ, m, β, hE, hM, PostS.on (D := D) (R := fun β' H' d v => RV X.K β' H' d v) hE hM p fun d m1 v H1 β1 _ e M V q => ⟨d, ρ, m1, β1, V, hE.ext hM e, M, by
    split at q
    · rename_i ρ' m' e1; exact q
    · exact q.elim⟩⟩⟩
theorem js_set (i : Nat) {x : Str} {e : Expr} {f : ME} {pos' : Pos} (hN : X.N.Nodup) (he : JE X W e f) (hi : X.N[i]? = some x := by rfl) (hx : Loc X.env.scope x := by first | exact Or.inl rfl | exact Or.inr rfl) (hs : swapsWith e (some (.Name x pos')) pos.line X.env = pure false := by rfl)
    (hf : X.fn x = true ∨ X.env.scope.names.lookup x = some .local := by first | exact .inl rfl | exact .inr rfl | assumption) : JS X W (.Assign [.Name x pos'] e pos) (mAsg f (nName i)) :=
  ⟨ps_imp (ps_set hN hi hx he.run hs hf) fun D σ H ⟨ρ, m, β, hE, hM, p⟩ => ⟨ρ, m, β, hE, hM, PostS.on (D := D) (R := fun β' H' d v => RV X.K β' H' d v) hE hM p fun d m1 v H1 β1 _ e M V q => q _ H1 β1 Ext.refl M ((hE.ext hM e).set V)⟩⟩
/-- o[i] = .. in a list -/
def nSubL (fo fi : ME) : MG := fun d ρ m => match fo ρ m with
  | .ok o m1 => match fi ρ m1 with
    | .ok (.int k) m2 => match mutOf m2 o with
      | some (n, l) => match ixN l.length k with
        | some j => .ok ρ (m2.set n (.lst (l.set j d)))
        | none => .stuck
      | none => .stuck
    | _ => .stuck
  | _ => .stuck
end
def spM (K : PySem.W.Frag) (n : Nat) (F : MF) : Sp := fun vs H Q E => vs.length = n ∧ ∃ ds m β, RVs K β H ds vs ∧ RM K β H m ∧
  match F ds m with
  | .ok d m' => ∀ v H' β', Ext β H β' H' → RM K β' H' m' → RV K β' H' d v → Q v H'
  | .ex x m' => ∀ cls dd H' β', Ext β H β' H' → RM K β' H' m' → XR K x cls dd → E cls dd H'
  | .stuck => False
/-- a body's end as a call's -/
def endOf (r : Re Fl) : Re MV := match r with
  | .ok (.nx _) m => .ok .non m
  | .ok (.rt d) m => .ok d m
  | .ok (.ex x _) m => .ex x m
  | _ => .stuck
def startM (n : Nat) (ds : List MV) : Env := ds.map some ++ List.replicate (n - ds.length) none
theorem RE.start {K : PySem.W.Frag} {β : List Addr} {H : Hp} {N : List Str} {ds : List MV} {vs : List V} (h : RVs K β H ds vs) : RE K β H (startM N.length ds) (L2.start N vs) := by
  unfold startM L2.start
  refine ⟨by simp [h.length], fun i d e => ?_⟩
  by_cases hi : i < ds.length
  · rw [List.getElem?_append_left (by simpa using hi), List.getElem?_map] at e
    cases q : ds[i]? with
    | none => rw [q] at e; cases e
    | some d' =>
      rw [q] at e
      cases e
      obtain ⟨v, h1, h2⟩ := h.get q
      refine ⟨v, ?_, h2⟩
      rw [List.getElem?_append_left (by rw [List.length_map, ← h.length]; exact hi), List.getElem?_map, h1] <;> rfl
  · rw [List.getElem?_append_right (by simpa using hi), List.getElem?_replicate] at e
    split at e <;> cases e
section
variable {P : Program} {w : World} {K : PySem.W.Frag} {mg : Str → Option Value} {base : Heap}
/-- f(e, ..) -/
def mCall (F : MF) (g : MA) : ME := fun ρ m => (g ρ m).bind fun ds m1 => F ds m1
end
end MI
namespace MI
open PySem L2
variable [Nms]
section
variable {X : Cx} {W : WX} {pos : Pos} {K : PySem.W.Frag} {β : List Addr} {H : Hp} {m : Mem}
/-- the items, and what must hold of the objects at every turn -/
structure IterM where
  items : List MV
  chk : Mem → Prop
structure WalkM (K : PySem.W.Frag) (β0 : List Addr) (H0 : Hp) (it : IterM) (J : It) : Prop where
  ex : ∃ (G : Hp → Prop) (Y : Nat → Hp → V → Hp → Prop), Walk J it.items.length G Y ∧ (∀ β1 H1 m1, Ext β0 H0 β1 H1 → RM K β1 H1 m1 → it.chk m1 → G H1) ∧
    (∀ i H1 x H2 β1 m1 d, Ext β0 H0 β1 H1 → RM K β1 H1 m1 → it.chk m1 → it.items[i]? = some d → Y i H1 x H2 → Ext β1 H1 β1 H2 ∧ RM K β1 H2 m1 ∧ RV K β1 H2 d x)
abbrev MI' := Env → Mem → Re IterM
def tI (X : Cx) (W : WX) (h : MI') : TI := fun σ H R => ∃ ρ m β, RE X.K β H ρ σ ∧ RM X.K β H m ∧
  match h ρ m with
  | .ok it m' => ∀ H' β' J, Ext β H β' H' → RM X.K β' H' m' → WalkM X.K β' H' it J → R J H'
  | .ex x m' => ∀ cls dd H' β', Ext β H β' H' → RM X.K β' H' m' → XR X.K x cls dd → W cls dd σ H'
  | .stuck => False
structure JI (X : Cx) (W : WX) (tg iter : Expr) (h : MI') : Prop where
  run : PI X tg iter (tI X W h)
theorem pi_imp {tg e : Expr} {t t' : TI} (h : PI X tg e t) (i : ∀ σ H R, t' σ H R → t σ H R) : PI X tg e t' := ⟨fun pins s σ H R I q => h.run pins s σ H R I (i σ H R q)⟩
theorem pi_or {tg e : Expr} {t t' : TI} (h : PI X tg e t) (h' : PI X tg e t') : PI X tg e (fun σ H R => t σ H R ∨ t' σ H R) := ⟨fun pins s σ H R I q => q.elim (h.run pins s σ H R I) (h'.run pins s σ H R I)⟩
theorem walkM_tup {a : Addr} {l : List MV} {vs : List V} (M : RM K β H m) (h : SqT K H a vs) (r : RVs K β H l vs) : WalkM K β H ⟨l, fun _ => True⟩ (Itt K a) := by
  refine ⟨fun H1 => SqT K H1 a vs, YAt vs, ?_, fun β1 H1 m1 e M1 _ => M.sqt e h, fun i H1 x H2 β1 m1 d e M1 _ hi y => ?_⟩
  · show Walk _ l.length _ _
    rw [r.length]; exact walk_tup
  · obtain ⟨rfl, hx⟩ := y
    obtain ⟨v, h1, h2⟩ := (r.ext M e).get hi
    rw [h1] at hx; cases hx
    exact ⟨Ext.refl, M1, h2⟩
theorem walkM_lst {a : Addr} {d : MV} {l : List MV} (M : RM K β H m) (rd : RV K β H d (.ref a)) (h : lstOf m d = some l) : WalkM K β H ⟨l, fun m' => lstOf m' d = some l⟩ (Itl K a) := by
  refine ⟨fun H1 => ∃ vs, SqL K H1 a vs ∧ vs.length = l.length, fun i H1 x H2 => H2 = H1 ∧ ∀ vs, SqL K H1 a vs → vs[i]? = some x, ⟨fun i H1 hi g => ?_, fun H1 g => ?_, fun i H1 x H2 _ _ y => y⟩, fun β1 H1 m1 e M1 hc => ?_, fun i H1 x H2 β1 m1 d' e M1 hc hi y => ?_⟩
  · obtain ⟨vs, g1, g2⟩ := g
    have hi' : i < vs.length := by rw [g2]; exact hi
    exact ⟨vs, vs[i], g1, by simp [hi']⟩
  · obtain ⟨vs, g1, g2⟩ := g
    exact ⟨vs, g1, by rw [g2]; exact Nat.le_refl _⟩
  · obtain ⟨a', vs, e1, h1, h2⟩ := M1.lst (rd.ext M e) hc
    cases e1
    exact ⟨vs, h1, h2.length.symm⟩
  · obtain ⟨rfl, hx⟩ := y
    obtain ⟨a', vs, e1, h1, h2⟩ := M1.lst (rd.ext M e) hc
    cases e1
    obtain ⟨v, q1, q2⟩ := h2.get hi
    have := hx vs h1
    rw [q1] at this; cases this
    exact ⟨Ext.refl, M1, q2⟩
/-- range(n), range(a, b) -/
def rngL (lo : Int) (n : Nat) : List MV := (List.range n).map fun i => MV.int (lo + (i : Nat))
theorem walkM_rng {lo : Int} {n : Nat} : WalkM K β H ⟨rngL lo n, fun _ => True⟩ (Itr lo n) := by
  refine ⟨fun _ => True, YFn fun i => .int (lo + i), ?_, fun _ _ _ _ _ _ => trivial, fun i H1 x H2 β1 m1 d e M1 _ hi y => ?_⟩
  · show Walk _ (rngL lo n).length _ _
    rw [show (rngL lo n).length = n by simp [rngL]]; exact walk_range
  · obtain ⟨rfl, rfl⟩ := y
    unfold rngL at hi
    rw [List.getElem?_map] at hi
    cases q : (List.range n)[i]? with
    | none => rw [q] at hi; cases hi
    | some j =>
      rw [q] at hi
      obtain ⟨hj, e2⟩ := List.getElem?_eq_some_iff.mp q
      simp at e2
      subst e2
      cases hi
      exact ⟨Ext.refl, M1, .int _⟩
def rngOf : List MV → Mem → Re IterM
  | [.int j], m => if -(2 ^ 62) ≤ j ∧ j < 2 ^ 62 then .ok ⟨rngL 0 j.toNat, fun _ => True⟩ m else .stuck
  | _, _ => .stuck
def mRng (g : MA) : MI' := fun ρ m => (g ρ m).bind rngOf
/-- a reading of what is walked, from there on -/
def PostI (X : Cx) (W : WX) (r : Re IterM) (β : List Addr) (H : Hp) (σ : L2.St) (R : It → Hp → Prop) : Prop :=
  match r with
  | .ok it m' => ∀ H' β' J, Ext β H β' H' → RM X.K β' H' m' → WalkM X.K β' H' it J → R J H'
  | .ex x m' => ∀ cls dd H' β', Ext β H β' H' → RM X.K β' H' m' → XR X.K x cls dd → W cls dd σ H'
  | .stuck => False
theorem ji_rng1 {tg a : Expr} {g : MA} {p : Pos} (hm : X.mg "range" = none) (ha : JA X W [a] g) (hg : Gl X "range" := by rfl) (hs : starEach [a] X.env = [(false, eval a X.env)] := by rfl) : JI X W tg (.Call (.Name "range" p) [a] [] pos) (mRng g) := by
  refine ⟨pi_imp (pi_range1 hg hm ha.run hs) fun σ H R ⟨ρ, m, β, hE, hM, p⟩ => ⟨ρ, m, β, hE, hM, ?_⟩⟩
  have p : PostI X W ((g ρ m).bind rngOf) β H σ R := p
  cases hf : g ρ m with
  | stuck => rw [hf] at p; exact p.elim
  | ex x m1 => rw [hf] at p; exact p
  | ok ds m1 =>
    rw [hf] at p
    intro vs H1 β1 e1 M1 V1
    have p : PostI X W (rngOf ds m1) β H σ R := p
    unfold rngOf at p
    split at p
    · split at p
      · rename_i hj
        cases V1 with
        | cons h r =>
          cases h; cases r
          exact ⟨_, rfl, hj.1, hj.2, p _ _ _ e1 M1 walkM_rng⟩
      · exact p.elim
    · exact p.elim
open Classical in
noncomputable def loopM (chk : Mem → Prop) (g : MG) (body : MS) : List MV → Env → Mem → Re Fl
  | [], ρ, m => if chk m then .ok (.nx ρ) m else .stuck
  | d :: r, ρ, m => if chk m then (match g d ρ m with
    | .ok ρ1 m1 => match body ρ1 m1 with
      | .ok (.nx ρ2) m2 => loopM chk g body r ρ2 m2
      | .ok (.ct ρ2) m2 => loopM chk g body r ρ2 m2
      | .ok (.bk ρ2) m2 => .ok (.nx ρ2) m2
      | q => q
    | _ => .stuck) else .stuck
noncomputable def mFor (h : MI') (g : MG) (body : MS) : MS := fun ρ m => onE ρ (h ρ m) fun it m1 => loopM it.chk g body it.items ρ m1
theorem js_for {tg iter : Expr} {body : List Stmt} {h : MI'} {g : MG} {f : MS} (hp : PassesOwn (model X.prog X.w) X.A X.env X.xe) (hc : X.calm = true) (hi : JI X W tg iter h) (hg : JG X tg g) (hb : JB X W body f)
    (hs : ∀ x, foldedSetIterable iter X.env x = pure x := by intro _; rfl) : JS X W (.For tg iter body [] pos) (mFor h g f) := by
  refine ⟨ps_imp (ps_for hp hc hi.run hg.run hb.run hs) fun D σ H q => ?_⟩
  obtain ⟨ρ, m, β, hE, hM, p⟩ := tS_of q
  refine ⟨ρ, m, β, hE, hM, ?_⟩
  unfold mFor at p
  cases hh : h ρ m with
  | stuck => rw [hh] at p; exact p.elim
  | ex x m1 => rw [hh] at p; exact fun c d H' β' e M z => p c d σ H' β' e M (hE.ext hM e) z
  | ok it m1 =>
    rw [hh] at p
    intro H1 β1 J e1 M1 w1
    obtain ⟨G, Y, wk, hG, hY⟩ := w1.ex
    have p1 : PostS X W (loopM it.chk g f it.items ρ m1) β1 H1 D := PostS.later (r := loopM it.chk g f it.items ρ m1) p e1
    refine for_it wk (fun i σ2 H2 => ∃ ρ2 m2 β2, Ext β1 H1 β2 H2 ∧ RE X.K β2 H2 ρ2 σ2 ∧ RM X.K β2 H2 m2 ∧ PostS X W (loopM it.chk g f (it.items.drop i) ρ2 m2) β2 H2 D) ⟨ρ, m1, β1, Ext.refl, hE.ext hM e1, M1, by rw [List.drop_zero]; exact p1⟩
      (fun i σ2 H2 hi ⟨ρ2, m2, β2, e2, E2, M2, p2⟩ => ?_) (fun i x σ2 H2 H3 hi ⟨ρ2, m2, β2, e2, E2, M2, p2⟩ y => ?_) (fun σ2 H2 ⟨ρ2, m2, β2, e2, E2, M2, p2⟩ => ?_)
    · refine hG β2 H2 m2 e2 M2 (Classical.byContradiction fun nc => ?_)
      cases hd : it.items.drop i with
      | nil => rw [hd] at p2; unfold loopM at p2; rw [if_neg nc] at p2; exact p2
      | cons d r => rw [hd] at p2; unfold loopM at p2; rw [if_neg nc] at p2; exact p2
    · have hdr : it.items.drop i = it.items[i] :: it.items.drop (i + 1) := List.drop_eq_getElem_cons hi
      rw [hdr] at p2
      unfold loopM at p2
      by_cases hk : it.chk m2
      · rw [if_pos hk] at p2
        obtain ⟨e3, M3, V3⟩ := hY i H2 x H3 β2 m2 it.items[i] e2 M2 hk (by simp [hi]) y
        refine ⟨it.items[i], ρ2, m2, β2, V3, E2.ext M2 e3, M3, ?_⟩
        cases hgd : g it.items[i] ρ2 m2 with
        | stuck => rw [hgd] at p2; exact p2.elim
        | ex x m => rw [hgd] at p2; exact p2.elim
        | ok ρ3 m3 =>
          rw [hgd] at p2
          intro σ4 H4 β4 e4 M4 E4
          refine ⟨ρ3, m3, β4, E4, M4, ?_⟩
          have p3 : PostS X W (match f ρ3 m3 with
            | .ok (.nx ρ2) m2 => loopM it.chk g f (it.items.drop (i + 1)) ρ2 m2
            | .ok (.ct ρ2) m2 => loopM it.chk g f (it.items.drop (i + 1)) ρ2 m2
            | .ok (.bk ρ2) m2 => .ok (.nx ρ2) m2
            | q => q) β4 H4 D := PostS.later p2 (e3.trans e4)
          have e24 : Ext β1 H1 β4 H4 := (e2.trans e3).trans e4
          cases hf : f ρ3 m3 with
          | stuck => rw [hf] at p3; exact p3
          | ex x m => rw [hf] at p3; exact p3
          | ok a m5 =>
            rw [hf] at p3
            cases a with
            | nx ρ5 => exact fun σ5 H5 β5 e5 M5 E5 => ⟨ρ5, m5, β5, e24.trans e5, E5, M5, PostS.later (r := loopM it.chk g f (it.items.drop (i + 1)) ρ5 m5) p3 e5⟩
            | ct ρ5 => exact fun σ5 H5 β5 e5 M5 E5 => ⟨ρ5, m5, β5, e24.trans e5, E5, M5, PostS.later (r := loopM it.chk g f (it.items.drop (i + 1)) ρ5 m5) p3 e5⟩
            | bk ρ5 => exact p3
            | rt d => exact p3
            | ex x ρ5 => exact p3
      · rw [if_neg hk] at p2; exact p2.elim
    · rw [List.drop_length] at p2
      unfold loopM at p2
      by_cases hk : it.chk m2
      · rw [if_pos hk] at p2; exact p2 σ2 H2 β2 Ext.refl M2 E2
      · rw [if_neg hk] at p2; exact p2.elim
def whileM (c : MT) (f : MS) : Nat → Env → Mem → Re Fl
  | 0, _, _ => .stuck
  | n + 1, ρ, m => onE ρ (c ρ m) fun b m1 => if b = true then (match f ρ m1 with
    | .ok (.nx ρ2) m2 => whileM c f n ρ2 m2
    | .ok (.ct ρ2) m2 => whileM c f n ρ2 m2
    | .ok (.bk ρ2) m2 => .ok (.nx ρ2) m2
    | q => q) else .ok (.nx ρ) m1
theorem js_while {c : Expr} {body : List Stmt} {fc : MT} {f : MS} (n : Nat) (hp : PassesOwn (model X.prog X.w) X.A X.env X.xe) (hc : JT X W c fc) (hb : JB X W body f) : JS X W (.While c body [] pos) (fun ρ m => whileM fc f n ρ m) := by
  refine ⟨ps_imp (ps_while hp hc.run hb.run) fun D σ H q => ?_⟩
  obtain ⟨ρ, m, β, hE, hM, p⟩ := tS_of q
  refine ⟨fun k σ H => ∃ ρ m β, RE X.K β H ρ σ ∧ RM X.K β H m ∧ PostS X W (whileM fc f k ρ m) β H D, ⟨n, ρ, m, β, hE, hM, p⟩, ?_⟩
  rintro k σ1 H1 ⟨ρ1, m1, β1, E1, M1, p1⟩
  cases k with
  | zero => exact p1.elim
  | succ k =>
    unfold whileM at p1
    refine ⟨ρ1, m1, β1, E1, M1, PostS.on (D := D) (R := fun _ _ d v => d = v) E1 M1 p1 fun b m2 v H2 β2 _ e2 M2 V2 p2 => ?_⟩
    subst V2
    cases b with
    | false => exact p2 σ1 H2 β2 Ext.refl M2 (E1.ext M1 e2)
    | true =>
      rw [if_pos rfl] at p2 ⊢
      refine ⟨fun σ' H' => ∃ ρ m β, RE X.K β H' ρ σ' ∧ RM X.K β H' m ∧ PostS X W (whileM fc f k ρ m) β H' D, fun σ' H' w => ⟨k, Nat.lt_succ_self k, w⟩, ρ1, m2, β2, E1.ext M1 e2, M2, ?_⟩
      cases hf : f ρ1 m2 with
      | stuck => rw [hf] at p2; exact p2
      | ex x m => rw [hf] at p2; exact p2
      | ok a m5 =>
        rw [hf] at p2
        cases a with
        | nx ρ5 => exact fun σ5 H5 β5 e5 M5 E5 => ⟨ρ5, m5, β5, E5, M5, PostS.later (r := whileM fc f k ρ5 m5) p2 e5⟩
        | ct ρ5 => exact fun σ5 H5 β5 e5 M5 E5 => ⟨ρ5, m5, β5, E5, M5, PostS.later (r := whileM fc f k ρ5 m5) p2 e5⟩
        | bk ρ5 => exact p2
        | rt d => exact p2
        | ex x ρ5 => exact p2
end
end MI
namespace MI
open PySem L2
variable [Nms]
section
variable {X : Cx} {W : WX} {pos : Pos} {K : PySem.W.Frag} {β : List Addr} {H : Hp} {m : Mem}
abbrev NG := MV → Mem → Option (List (Nat × MV))
def setE (ρ : Env) : List (Nat × MV) → Env
  | [] => ρ
  | (i, d) :: r => setE (ρ.set i (some d)) r
def setS (σ : L2.St) : List (Nat × V) → L2.St
  | [] => σ
  | (i, v) :: r => setS (σ.set i (some v)) r
inductive RAs (K : PySem.W.Frag) (β : List Addr) (H : Hp) : List (Nat × MV) → List (Nat × V) → Prop
  | nil : RAs K β H [] []
  | cons {i : Nat} {d : MV} {v : V} {ds : List (Nat × MV)} {vs : List (Nat × V)} : RV K β H d v → RAs K β H ds vs → RAs K β H ((i, d) :: ds) ((i, v) :: vs)
theorem RE.setAs : ∀ {ds : List (Nat × MV)} {vs : List (Nat × V)}, RAs K β H ds vs → ∀ {ρ : Env} {σ : L2.St}, RE K β H ρ σ → RE K β H (setE ρ ds) (setS σ vs)
  | _, _, .nil, _, _, h => h
  | _, _, .cons v r, _, _, h => RE.setAs r (h.set v)
theorem RAs.app : ∀ {ds es : List (Nat × MV)} {vs us : List (Nat × V)}, RAs K β H ds vs → RAs K β H es us → RAs K β H (ds ++ es) (vs ++ us)
  | _, _, _, _, .nil, q => q
  | _, _, _, _, .cons h r, q => .cons h (RAs.app r q)
theorem RAs.fst : ∀ {ds : List (Nat × MV)} {vs : List (Nat × V)}, RAs K β H ds vs → ds.map (·.1) = vs.map (·.1)
  | _, _, .nil => rfl
  | _, _, .cons _ r => by simp [RAs.fst r]
theorem RAs.ext (R : RM K β H m) {β' : List Addr} {H' : Hp} (e : Ext β H β' H') : ∀ {ds : List (Nat × MV)} {vs : List (Nat × V)}, RAs K β H ds vs → RAs K β' H' ds vs
  | _, _, .nil => .nil
  | _, _, .cons h r => .cons (h.ext R e) (RAs.ext R e r)
/-- what the target does, at the slots themselves -/
def tNG (X : Cx) (g : NG) : TG := fun v σ H Q => ∃ d m β, RV X.K β H d v ∧ RM X.K β H m ∧ ∃ as, g d m = some as ∧ ∀ vs, RAs X.K β H as vs → Q (setS σ vs) H
structure JNG (X : Cx) (tg : Expr) (g : NG) : Prop where
  run : PG X tg (tNG X g)
def ngName (i : Nat) : NG := fun d _ => some [(i, d)]
theorem jn_name (i : Nat) {x : Str} (hN : X.N.Nodup) (hi : X.N[i]? = some x := by rfl) (hx : Loc X.env.scope x := by first | exact Or.inl rfl | exact Or.inr rfl) (hf : X.fn x = true ∨ X.env.scope.names.lookup x = some .local := by first | exact .inl rfl | exact .inr rfl | assumption) : JNG X (.Name x pos) (ngName i) :=
  ⟨pg_imp (pg_name hN hi hx hf) fun v σ H Q ⟨d, m, β, V, hM, as, h, p⟩ => by
    unfold ngName at h
    cases h
    exact p [(i, v)] (.cons V .nil)⟩
/-- several: each a name -/
abbrev NGs := List MV → Mem → Option (List (Nat × MV))
def tNGs (X : Cx) (g : NGs) : TGs := fun us σ H Q => ∃ ds m β, RVs X.K β H ds us ∧ RM X.K β H m ∧ ∃ as, g ds m = some as ∧ ∀ vs, RAs X.K β H as vs → Q (setS σ vs) H
structure JNGs (X : Cx) (tg : List Expr) (g : NGs) : Prop where
  run : PGs X tg (tNGs X g)
def ngNil : NGs := fun ds _ => match ds with
  | [] => some []
  | _ => none
def ngCons (g : NG) (k : NGs) : NGs := fun ds m => match ds with
  | d :: r => match g d m, k r m with
    | some a, some b => some (a ++ b)
    | _, _ => none
  | _ => none
theorem setS_app {σ : L2.St} : ∀ {a b : List (Nat × V)}, setS σ (a ++ b) = setS (setS σ a) b := by
  intro a
  induction a generalizing σ with
  | nil => intro b; rfl
  | cons p r ih => intro b; obtain ⟨i, v⟩ := p; exact ih
theorem jn_nil : JNGs X [] ngNil := ⟨pgs_imp pgs_nil fun v σ H Q ⟨ds, m, β, V, hM, as, h, p⟩ => by
  cases V with
  | nil => cases h; exact ⟨rfl, p [] .nil⟩
  | cons _ _ => cases h⟩
theorem jn_cons {e : Expr} {es : List Expr} {g : NG} {k : NGs} (h1 : JNG X e g) (h2 : JNGs X es k) (hs : (assignEach (e :: es) X.env).map (·.2) = assign e X.env :: (assignEach es X.env).map (·.2) := by rfl) : JNGs X (e :: es) (ngCons g k) :=
  ⟨pgs_imp (pgs_cons h1.run h2.run hs) fun us σ H Q ⟨ds, m, β, V, hM, as, h, p⟩ => by
    cases V with
    | nil => cases h
    | @cons d v ds vs q r =>
      unfold ngCons at h
      have h : (match g d m, k ds m with | some a, some b => some (a ++ b) | _, _ => none) = some as := h
      split at h
      · rename_i a b e1 e2
        cases h
        exact ⟨v, vs, rfl, d, m, β, q, hM, a, e1, fun ws hw => ⟨ds, m, β, r, hM, b, e2, fun zs hz => by rw [← setS_app]; exact p _ (hw.app hz)⟩⟩
      · cases h⟩
def ngTup (n : Nat) (k : NGs) : NG := fun d m => match seqOf m d with
  | some l => if l.length = n then k l m else none
  | none => none
theorem jn_tup {es : List Expr} {k : Nat} {g : NGs} {n : Nat} (hc : X.calm = true) (h : JNGs X es g) (hn : (assignEach es X.env).length = n := by rfl) (hst : (assignEach es X.env).findIdx? (·.1) = none := by rfl) : JNG X (.Tuple es k pos) (ngTup n g) :=
  ⟨pg_imp (pg_or (pg_tup hc h.run hn hst) (pg_unl hc h.run hn hst)) fun v σ H Q ⟨d, m, β, V, hM, as, h, p⟩ => by
    unfold ngTup at h
    cases e : seqOf m d with
    | none => rw [e] at h; cases h
    | some l =>
      rw [e] at h
      obtain ⟨a, vs, rfl, hs, hr⟩ := hM.seq V e
      by_cases q : l.length = n
      · simp only [q, if_true] at h
        rcases hs with hs | hs
        · exact .inr ⟨a, vs, rfl, hs, by rw [← hr.length]; exact q, l, m, β, hr, hM, as, h, p⟩
        · exact .inl ⟨a, vs, rfl, hs, by rw [← hr.length]; exact q, l, m, β, hr, hM, as, h, p⟩
      · simp only [q, if_false] at h; cases h⟩
def wipeM (ρ : Env) : List Nat → Env
  | [] => ρ
  | v :: vs => (wipeM ρ vs).set v none
theorem RE.wipe {ρ : Env} {σ : L2.St} (h : RE K β H ρ σ) : ∀ vs : List Nat, RE K β H (wipeM ρ vs) (L2.wipe σ vs)
  | [] => h
  | v :: vs => by
    have ih := RE.wipe h vs
    refine ⟨by show ((wipeM ρ vs).set v none).length = ((L2.wipe σ vs).set v none).length; simp [ih.len], fun i d e => ?_⟩
    have e : ((wipeM ρ vs).set v none)[i]? = some (some d) := e
    show ∃ u, ((L2.wipe σ vs).set v none)[i]? = some (some u) ∧ _
    by_cases q : v = i
    · subst q
      rw [List.getElem?_set_self'] at e
      cases z : (wipeM ρ vs)[v]? with
      | none => rw [z] at e; cases e
      | some w => rw [z] at e; cases e
    · rw [List.getElem?_set_ne q] at e ⊢
      exact ih.at_ i d e
theorem wipe_set {σ : L2.St} {i : Nat} {o : Option V} : ∀ {vs : List Nat}, i ∈ vs → L2.wipe (σ.set i o) vs = L2.wipe σ vs := by
  intro vs
  induction vs with
  | nil => intro h; cases h
  | cons v vs ih =>
    intro h
    show (L2.wipe (σ.set i o) vs).set v none = (L2.wipe σ vs).set v none
    by_cases q : i ∈ vs
    · rw [ih q]
    · have hv : i = v := by
        rcases List.mem_cons.mp h with z | z
        · exact z
        · exact absurd z q
      subst hv
      have comm : ∀ (ws : List Nat), i ∉ ws → L2.wipe (σ.set i o) ws = (L2.wipe σ ws).set i o := by
        intro ws
        induction ws with
        | nil => intro _; rfl
        | cons w ws ih2 =>
          intro hn
          show (L2.wipe (σ.set i o) ws).set w none = ((L2.wipe σ ws).set w none).set i o
          rw [ih2 (fun z => hn (List.mem_cons_of_mem _ z)), List.set_comm]
          intro z
          exact hn (by rw [z]; exact List.mem_cons_self)
      rw [comm vs q, List.set_set]
theorem wipe_setS {vs : List Nat} : ∀ {as : List (Nat × V)} {σ : L2.St}, (∀ p ∈ as, p.1 ∈ vs) → L2.wipe (setS σ as) vs = L2.wipe σ vs
  | [], _, _ => rfl
  | (i, v) :: r, σ, h => by
    show L2.wipe (setS (σ.set i (some v)) r) vs = _
    rw [wipe_setS (as := r) fun p hp => h p (List.mem_cons_of_mem _ hp)]
    exact wipe_set (h (i, v) List.mem_cons_self)
theorem wipe_wipe {σ : L2.St} {vs : List Nat} : L2.wipe (L2.wipe σ vs) vs = L2.wipe σ vs := by
  have gen : ∀ (ws us : List Nat) (σ : L2.St), (∀ w ∈ ws, w ∈ us) → L2.wipe (L2.wipe σ ws) us = L2.wipe σ us := by
    intro ws
    induction ws with
    | nil => intro us σ _; rfl
    | cons w ws ih =>
      intro us σ h
      show L2.wipe ((L2.wipe σ ws).set w none) us = _
      rw [wipe_set (h w List.mem_cons_self)]
      exact ih us σ fun z hz => h z (List.mem_cons_of_mem _ hz)
  exact gen vs vs σ fun _ h => h
open Classical in
noncomputable def lcM (chk : Mem → Prop) (g : NG) (t : MT) (e : ME) (ρ : Env) : List MV → List MV → Mem → Re (List MV)
  | [], acc, m => if chk m then .ok acc m else .stuck
  | d :: r, acc, m => if chk m then (match g d m with
    | some as => match t (setE ρ as) m with
      | .ok true m2 => match e (setE ρ as) m2 with
        | .ok y m3 => if acc.length < sizeLine then lcM chk g t e ρ r (acc ++ [y]) m3 else .stuck
        | _ => .stuck
      | .ok false m2 => lcM chk g t e ρ r acc m2
      | _ => .stuck
    | none => .stuck) else .stuck
noncomputable def mLc (h : MI') (g : NG) (t : MT) (e : ME) (vs : List Nat) : ME := fun ρ m => (h ρ m).bind fun it m1 => (lcM it.chk g t e (wipeM ρ vs) it.items [] m1).bind fun l m2 => alloc (.lst l) m2
end
end MI
namespace MI
open PySem L2
variable [Nms]
section
variable {X : Cx} {W : WX} {pos : Pos} {K : PySem.W.Frag} {β : List Addr} {H : Hp} {m : Mem}
structure JTs (X : Cx) (W : WX) (es : List Expr) (f : MT) : Prop where
  run : PTs X es (tT X W f)
theorem pts_imp {e : List Expr} {t t' : TT} (h : PTs X e t) (i : ∀ σ H Q, t' σ H Q → t σ H Q) : PTs X e t' := ⟨fun pins s σ H Q I q => h.run pins s σ H Q I (i σ H Q q)⟩
def mYes : MT := fun _ m => .ok true m
theorem jts_nil : JTs X W [] mYes := ⟨pts_imp pts_nil fun σ H Q ⟨ρ, m, β, hE, hM, p⟩ => p.ok hM rfl⟩
theorem jts_one {c : Expr} {f : MT} (h : JT X W c f) : JTs X W [c] f := ⟨pts_one h.run⟩
/-- nothing is raised -/
abbrev W0 : WX := fun _ _ _ _ => False
abbrev blk (X : Cx) (scope : Scope) (s : Shared) (H : Hp) (C : Addr) (cl : List (Str × Addr)) (fp : List Addr) : Cx := X.blk s H scope (PySem.compEnvC scope cl C X.env) fp
mutual
theorem RV.grow {β β' : List Addr} {H H' : Hp} (hb : ∀ (n : Nat) a, β[n]? = some a → β'[n]? = some a) (ht : ∀ a xs, SqT K H a xs → SqT K H' a xs) (hk : ∀ a xs, KL K β H a xs → KL K β' H' a xs) : ∀ {d : MV} {v : V}, RV K β H d v → RV K β' H' d v
  | _, _, .non => .non
  | _, _, .bl b => .bl b
  | _, _, .int i => .int i
  | _, _, .str x => .str x
  | _, _, .tup h r => .tup (ht _ _ h) (RVs.grow hb ht hk r)
  | _, _, .ref h => .ref (hb _ _ h)
  | _, _, .kl h r => .kl (hk _ _ h) (RVs.grow hb ht hk r)
  | _, _, .clo h => .clo fun n a q => hb n a (h n a q)
theorem RVs.grow {β β' : List Addr} {H H' : Hp} (hb : ∀ (n : Nat) a, β[n]? = some a → β'[n]? = some a) (ht : ∀ a xs, SqT K H a xs → SqT K H' a xs) (hk : ∀ a xs, KL K β H a xs → KL K β' H' a xs) : ∀ {d : List MV} {v : List V}, RVs K β H d v → RVs K β' H' d v
  | _, _, .nil => .nil
  | _, _, .cons h r => .cons (RV.grow hb ht hk h) (RVs.grow hb ht hk r)
end
theorem RKs.grow {β β' : List Addr} {H H' : Hp} (hb : ∀ (n : Nat) a, β[n]? = some a → β'[n]? = some a) (ht : ∀ a xs, SqT K H a xs → SqT K H' a xs) (hk : ∀ a xs, KL K β H a xs → KL K β' H' a xs) : ∀ {d : List (Key × MV)} {v : List (Key × V)}, RKs K β H d v → RKs K β' H' d v
  | _, _, .nil => .nil
  | _, _, .cons h r => .cons (RV.grow hb ht hk h) (RKs.grow hb ht hk r)
theorem RFs.grow {β β' : List Addr} {H H' : Hp} (hb : ∀ (n : Nat) a, β[n]? = some a → β'[n]? = some a) (ht : ∀ a xs, SqT K H a xs → SqT K H' a xs) (hk : ∀ a xs, KL K β H a xs → KL K β' H' a xs) : ∀ {d : List (Str × MV)} {v : List (Str × V)}, RFs K β H d v → RFs K β' H' d v
  | _, _, .nil => .nil
  | _, _, .cons h r => .cons (RV.grow hb ht hk h) (RFs.grow hb ht hk r)
theorem RO.grow {β β' : List Addr} {H H' : Hp} (hb : ∀ (n : Nat) a, β[n]? = some a → β'[n]? = some a) (ht : ∀ a xs, SqT K H a xs → SqT K H' a xs) (hk : ∀ a xs, KL K β H a xs → KL K β' H' a xs) {o : MO} {a : Addr} (ha : H' a = H a) (r : RO K β H o a) : RO K β' H' o a := by
  cases o with
  | lst l => obtain ⟨vs, h, q⟩ := r; exact ⟨vs, by rw [ha]; exact h, q.grow hb ht hk⟩
  | frz l => obtain ⟨vs, ob, h, q⟩ := r; exact ⟨vs, ob, by rw [ha]; exact h, q.grow hb ht hk⟩
  | dct l => obtain ⟨vs, h, q⟩ := r; exact ⟨vs, by rw [ha]; exact h, q.grow hb ht hk⟩
  | exn x => obtain ⟨C, h1, h2⟩ := r; exact ⟨C, h1, by rw [ha]; exact h2⟩
  | own c l => obtain ⟨C, dx, vs, h1, h2, h3⟩ := r; exact ⟨C, dx, vs, h1, by rw [ha]; exact h2, h3.grow hb ht hk⟩
/-- a list that the small world does not number is written -/
theorem sqt_off {H : Hp} {D a : Addr} {l l' xs : List V} (hD : H D = some (.lst l)) (h : SqT K H a xs) : SqT K (upd H D (.lst l')) a xs := by
  rcases h with (h | ⟨o, h⟩) | h
  · exact .inl (.inl (by rw [upd_ne (ne_of h hD (by intro z; cases z))]; exact h))
  · exact .inl (.inr ⟨o, by rw [upd_ne (ne_of h hD (by intro z; cases z))]; exact h⟩)
  · exact .inr h
theorem kl_off {H : Hp} {D a : Addr} {l l' xs : List V} {β : List Addr} (hD : H D = some (.lst l)) (h : KL K β H a xs) : KL K β (upd H D (.lst l')) a xs := by
  rcases h with ⟨n, o, h⟩ | h
  · exact .inl ⟨n, o, by rw [upd_ne (ne_of h hD (by intro z; cases z))]; exact h⟩
  · exact .inr h
theorem kl_adopt {H : Hp} {D a : Addr} {l xs : List V} {β : List Addr} (hD : H D = some (.lst l)) (h : KL K β H a xs) : KL K (β ++ [D]) H a xs := by
  rcases h with ⟨n, o, h⟩ | h
  · refine .inl ⟨fun z => ?_, o, h⟩
    rcases List.mem_append.mp z with z | z
    · exact n z
    · simp at z
      subst z
      rw [hD] at h
      cases h
  · exact .inr h
theorem RM.off {β : List Addr} {H : Hp} {m : Mem} (R : RM K β H m) {D : Addr} {l l' : List V} (n : D ∉ β) (hD : H D = some (.lst l)) : RM K β (upd H D (.lst l')) m :=
  ⟨R.tabs.upd ⟨fun _ z => (by cases z), fun _ z => (by unfold CodeF at z; cases z)⟩ (fun u e => (by rw [hD] at e; cases e; exact ⟨fun _ z => (by cases z), fun _ z => (by unfold CodeF at z; cases z)⟩)), R.len, R.nd, fun i o a h1 h2 => (R.ob i o a h1 h2).grow (fun _ _ h => h) (fun _ _ h => sqt_off hD h) (fun _ _ h => kl_off hD h) (upd_ne fun z => n (z ▸ List.mem_of_getElem? h2))⟩
/-- .. and gets a number -/
theorem RM.adopt {β : List Addr} {H : Hp} {m : Mem} (R : RM K β H m) {D : Addr} {l : List V} {ds : List MV} (n : D ∉ β) (hD : H D = some (.lst l)) (r : RVs K β H ds l) : RM K (β ++ [D]) H (m ++ [.lst ds]) := by
  have hb : ∀ (n : Nat) a, β[n]? = some a → (β ++ [D])[n]? = some a := fun n a h => by rw [List.getElem?_append_left (List.getElem?_eq_some_iff.mp h).1]; exact h
  refine ⟨R.tabs, by simp [R.len], ?_, fun i ob a h1 h2 => ?_⟩
  · rw [List.nodup_append]
    refine ⟨R.nd, by simp, fun a ha b hb => ?_⟩
    simp at hb
    subst hb
    intro z
    subst z
    exact n ha
  · by_cases hn : i < m.length
    · rw [List.getElem?_append_left hn] at h1
      rw [List.getElem?_append_left (by rw [R.len]; exact hn)] at h2
      exact (R.ob i ob a h1 h2).grow hb (fun _ _ h => h) (fun _ _ h => kl_adopt hD h) rfl
    · rw [List.getElem?_append_right (by omega)] at h1
      rw [List.getElem?_append_right (by rw [R.len]; omega), R.len] at h2
      cases hk : i - m.length with
      | zero =>
        rw [hk] at h1 h2
        simp at h1 h2
        subst h1; subst h2
        exact ⟨l, hD, r.grow hb (fun _ _ h => h) fun _ _ h => kl_adopt hD h⟩
      | succ k => rw [hk] at h1; simp at h1
theorem Ext.later {β β' : List Addr} {H H' : Hp} (e : Ext β H β' H') {D : Addr} {o : HO} (h : H D = none) : Ext β H β' (upd H' D o) :=
  ⟨e.pre, fun a u q n t => by rw [upd_ne (ne_of_none q h)]; exact e.old a u q n t, fun a ps q n => by rw [upd_ne (ne_of_none q h)]; exact e.tab a ps q n, e.new⟩
theorem Ext.adopt {β β' : List Addr} {H H' : Hp} (e : Ext β H β' H') {D : Addr} (h : H D = none) : Ext β H (β' ++ [D]) H' :=
  ⟨by obtain ⟨r, rfl⟩ := e.pre; exact ⟨r ++ [D], by simp⟩, e.old, e.tab, fun a q => by
    rcases List.mem_append.mp q with q | q
    · exact e.new a q
    · simp at q; subst q; exact .inr h⟩
theorem lc_imp {h : MI'} {g : NG} {t : MT} {e : ME} (own : List (Str × Nat)) (hgs : ∀ d m as, g d m = some as → ∀ p ∈ as, p.1 ∈ own.map (·.2)) {σ : L2.St} {H : Hp} {Q : VK} (q : tE X W (mLc h g t e (own.map (·.2))) σ H Q) :
    tLc (tI X W h) (tNG X g) (tT X W0 t) (tE X W0 e) (own.map (·.2)) σ H Q := by
  obtain ⟨ρ, m, β, hE, hM, p⟩ := q
  refine ⟨ρ, m, β, hE, hM, ?_⟩
  have p : Post X W ((h ρ m).bind fun it m1 => (lcM it.chk g t e (wipeM ρ (own.map (·.2))) it.items [] m1).bind fun l m2 => alloc (.lst l) m2) β H σ (fun β' H' d v => RV X.K β' H' d v) Q := p
  cases hh : h ρ m with
  | stuck => rw [hh] at p; exact p.elim
  | ex x m1 => rw [hh] at p; exact p
  | ok it m1 =>
    rw [hh] at p
    intro H1 β1 J e1 M1 w1 D hD
    have p1 : Post X W ((lcM it.chk g t e (wipeM ρ (own.map (·.2))) it.items [] m1).bind fun l m2 => alloc (.lst l) m2) β1 H1 σ (fun β' H' d v => RV X.K β' H' d v) Q := Post.later p e1
    obtain ⟨G, Y, wk, hG, hY⟩ := w1.ex
    have hE1 := hE.ext hM e1
    have old : ∀ {β2 : List Addr} {H2 : Hp}, Ext β1 H1 β2 H2 → D ∉ β2 → True := fun _ _ => trivial
    -- what holds at turn i
    let Pv : Nat → Hp → Prop := fun i H2 => ∃ m2 β2 acc accV, Ext β1 H1 β2 H2 ∧ D ∉ β2 ∧ RM X.K β2 H2 m2 ∧ H2 D = some (.lst accV) ∧ RVs X.K β2 H2 acc accV ∧
      Post X W ((lcM it.chk g t e (wipeM ρ (own.map (·.2))) (it.items.drop i) acc m2).bind fun l m2 => alloc (.lst l) m2) β1 H1 σ (fun β' H' d v => RV X.K β' H' d v) Q
    have nD : D ∉ β1 := M1.fresh hD
    refine lc_it wk Pv ⟨m1, β1, [], [], Ext.tup hD, nD, M1.tup hD, upd_same, .nil, by rw [List.drop_zero]; exact p1⟩ (fun i H2 hi ⟨m2, β2, acc, accV, e2, n2, M2, h2, r2, p2⟩ => ?_) (fun i x H2 H3 hi ⟨m2, β2, acc, accV, e2, n2, M2, h2, r2, p2⟩ y => ?_) (fun H2 ⟨m2, β2, acc, accV, e2, n2, M2, h2, r2, p2⟩ => ?_)
    · refine hG β2 H2 m2 e2 M2 (Classical.byContradiction fun nc => ?_)
      cases hd : it.items.drop i with
      | nil => rw [hd] at p2; unfold lcM at p2; rw [if_neg nc] at p2; exact p2
      | cons d r => rw [hd] at p2; unfold lcM at p2; rw [if_neg nc] at p2; exact p2
    · have hdr : it.items.drop i = it.items[i] :: it.items.drop (i + 1) := List.drop_eq_getElem_cons hi
      rw [hdr] at p2
      unfold lcM at p2
      by_cases hk : it.chk m2
      · rw [if_pos hk] at p2
        obtain ⟨e3, M3, V3⟩ := hY i H2 x H3 β2 m2 it.items[i] e2 M2 hk (by simp [hi]) y
        have h3 : H3 D = some (.lst accV) := e3.old D _ h2 n2 fun _ z => (by cases z)
        cases hgd : g it.items[i] m2 with
        | none => rw [hgd] at p2; exact p2.elim
        | some as =>
          rw [hgd] at p2
          dsimp only at p2
          refine ⟨it.items[i], m2, β2, V3, M3, as, hgd, fun ws hw => ⟨?_, ?_⟩⟩
          · rw [wipe_setS fun q hq => ?_, wipe_wipe]
            have hm : q.1 ∈ ws.map (·.1) := List.mem_map_of_mem hq
            rw [← hw.fst] at hm
            obtain ⟨q', hq', e'⟩ := List.mem_map.mp hm
            rw [← e']
            exact hgs _ _ _ hgd q' hq'
          · have hW : RE X.K β2 H3 (wipeM ρ (own.map (·.2))) (L2.wipe σ (own.map (·.2))) := ((hE1.ext M1 e2).ext M2 e3).wipe _
            have hW2 := RE.setAs (ρ := wipeM ρ (own.map (·.2))) (σ := L2.wipe σ (own.map (·.2))) hw hW
            refine ⟨_, m2, β2, hW2, M3, ?_⟩
            cases hT : t (setE (wipeM ρ (own.map (·.2))) as) m2 with
            | stuck => rw [hT] at p2; exact p2.elim
            | ex x m => rw [hT] at p2; exact p2.elim
            | ok b m4 =>
              rw [hT] at p2
              intro b' H4 β4 e4 M4 V4
              subst V4
              have h4 : H4 D = some (.lst accV) := e4.old D _ h3 n2 fun _ z => (by cases z)
              have n4 : D ∉ β4 := fun z => by
                rcases e4.new D z with z | z
                · exact n2 z
                · rw [h3] at z; cases z
              cases b with
              | false =>
                exact ⟨m4, β4, acc, accV, (e2.trans e3).trans e4, n4, M4, h4, (r2.ext M2 e3).ext M3 e4, p2⟩
              | true =>
                rw [if_pos rfl]
                refine ⟨_, m4, β4, hW2.ext M3 e4, M4, ?_⟩
                cases hv : e (setE (wipeM ρ (own.map (·.2))) as) m4 with
                | stuck => simp only [hv] at p2; exact p2.elim
                | ex x m => simp only [hv] at p2; exact p2.elim
                | ok d m5 =>
                  simp only [hv] at p2
                  intro v H5 β5 e5 M5 V5
                  have h5 : H5 D = some (.lst accV) := e5.old D _ h4 n4 fun _ z => (by cases z)
                  have n5 : D ∉ β5 := fun z => by
                    rcases e5.new D z with z | z
                    · exact n4 z
                    · rw [h4] at z; cases z
                  have r5 := ((r2.ext M2 e3).ext M3 e4).ext M4 e5
                  by_cases hl : acc.length < sizeLine
                  · rw [if_pos hl] at p2
                    -- D grows; it is no object of the small world
                    have e15 : Ext β1 H1 β5 H5 := ((e2.trans e3).trans e4).trans e5
                    exact ⟨accV, h5, by rw [← r5.length]; exact hl, m5, β5, acc ++ [d], accV ++ [v], e15.later hD, n5, M5.off n5 h5, upd_same, (r5.app (.cons V5 .nil)).grow (fun _ _ h => h) (fun _ _ h => sqt_off h5 h) (fun _ _ h => kl_off h5 h), p2⟩
                  · rw [if_neg hl] at p2; exact p2.elim
      · rw [if_neg hk] at p2; exact p2.elim
    · rw [List.drop_length] at p2
      unfold lcM at p2
      by_cases hk : it.chk m2
      · rw [if_pos hk] at p2
        exact p2 (.ref D) H2 (β2 ++ [D]) (e2.adopt hD) (M2.adopt n2 h2 r2) (.ref (by rw [← M2.len]; simp))
      · rw [if_neg hk] at p2; exact p2.elim
theorem je_lc {elt tg iter : Expr} {ifs : List Expr} {scope : Scope} {h : MI'} {g : NG} {t : MT} {e : ME} {vs : List Nat} (own : List (Str × Nat)) (hvs : own.map (·.2) = vs) (hc : X.calm = true) (hN : X.N.Nodup) (hi : JI X W tg iter h) (ok : BlkOk X.N X.env.scope scope own)
    (hg : ∀ s H C cl fp, JNG (blk X scope s H C cl fp) tg g) (ht : ∀ s H C cl fp, JTs (blk X scope s H C cl fp) W0 ifs t) (he : ∀ s H C cl fp, JE (blk X scope s H C cl fp) W0 elt e)
    (hgs : ∀ d m as, g d m = some as → ∀ p ∈ as, p.1 ∈ vs) (hs : ∀ x, foldedSetIterable iter X.env x = pure x := by intro _; rfl) :
    JE X W (.ListComp elt [⟨tg, iter, ifs, 0⟩] scope pos) (mLc h g t e vs) := by
  subst hvs
  exact ⟨pe_imp (pe_lc (g := tNG X g) (tt := tT X W0 t) (te := tE X W0 e) hc hN hi.run ok (fun s H C cl fp => (hg s H C cl fp).run) (fun s H C cl fp => (ht s H C cl fp).run) (fun s H C cl fp => (he s H C cl fp).run) hs) fun σ H Q q => lc_imp own hgs q⟩
/-- name = [..] -/
theorem js_setLc (i : Nat) {y : Str} {py spos : Pos} {elt tg iter : Expr} {ifs : List Expr} {scope : Scope} {h : MI'} {g : NG} {t : MT} {e : ME} {vs : List Nat} (own : List (Str × Nat)) (hvs : own.map (·.2) = vs) (hc : X.calm = true) (hN : X.N.Nodup) (hi : JI X W tg iter h) (ok : BlkOk X.N X.env.scope scope own)
    (hg : ∀ s H C cl fp, JNG (blk X scope s H C cl fp) tg g) (ht : ∀ s H C cl fp, JTs (blk X scope s H C cl fp) W0 ifs t) (he : ∀ s H C cl fp, JE (blk X scope s H C cl fp) W0 elt e)
    (hgs : ∀ d m as, g d m = some as → ∀ p ∈ as, p.1 ∈ vs) (hy : X.N[i]? = some y := by rfl) (hyl : X.env.scope.names.lookup y = some .local := by rfl) (hsw : swapsWith (.ListComp elt [⟨tg, iter, ifs, 0⟩] scope pos) (some (.Name y py)) spos.line X.env = pure true := by rfl) (hs : ∀ x, foldedSetIterable iter X.env x = pure x := by intro _; rfl) :
    JS X W (.Assign [.Name y py] (.ListComp elt [⟨tg, iter, ifs, 0⟩] scope pos) spos) (mAsg (mLc h g t e vs) (nName i)) := by
  subst hvs
  refine ⟨ps_imp (ps_setLc (g := tNG X g) (tt := tT X W0 t) (te := tE X W0 e) hc hN hy hyl hsw hi.run ok (fun s H C cl fp => (hg s H C cl fp).run) (fun s H C cl fp => (ht s H C cl fp).run) (fun s H C cl fp => (he s H C cl fp).run) hs) fun D σ H ⟨ρ, m, β, hE, hM, p⟩ => ?_⟩
  refine lc_imp own hgs (Q := fun x H1 => gName i x σ H1 D.nx) ⟨ρ, m, β, hE, hM, ?_⟩
  exact PostS.on (D := D) (R := fun β' H' d v => RV X.K β' H' d v) hE hM p fun d m1 v H1 β1 _ e M V q => q _ H1 β1 Ext.refl M ((hE.ext hM e).set V)
end
end MI
namespace MI
open PySem L2
variable [Nms]
section
variable {X : Cx} {W : WX} {pos : Pos} {K : PySem.W.Frag} {β : List Addr} {H : Hp} {m : Mem}
def CrM (X : Cx) (r : List V → Hp → VK → Prop) (g : List MV → Mem → Re MV) : Prop := ∀ (W : WX) (σ : L2.St) (ds : List MV) (m : Mem) (β : List Addr) (H : Hp) (vs : List V) (Q : VK), RM X.K β H m → RVs X.K β H ds vs →
  Post X W (g ds m) β H σ (fun β' H' d v => RV X.K β' H' d v) Q → r vs H Q
theorem cr_or {f : Value} {r r' : List V → Hp → VK → Prop} (h : CallR X f r) (h' : CallR X f r') : CallR X f (fun xs H Q => r xs H Q ∨ r' xs H Q) := by
  intro pins s σ H vs us Q I rv q
  rcases q with q | q
  · exact h pins s σ H vs us Q I rv q
  · exact h' pins s σ H vs us Q I rv q
theorem je_callB {id : String} {r : List V → Hp → VK → Prop} {g : List MV → Mem → Re MV} {ga : MA} {x : Str} {p : Pos} {e : Expr} {es : List Expr} (hc : CallR X (.builtin id) r) (hm : CrM X r g) (mg : X.mg x = none) (hv : bootBuiltins x = some (.builtin id)) (ha : JA X W (e :: es) ga) (hg : Gl X x := by rfl)
    (hn : x ≠ "__name__" := by decide) (hdb : (x == ("__debug__" : Str)) = false := by decide) (he : starEach (e :: es) X.env = (false, eval e X.env) :: starEach es X.env := by rfl) (hpl : (backTo pos (starEach es X.env)).any (·.1) = false := by rfl) :
    JE X W (.Call (.Name x p) (e :: es) [] pos) (mCall g ga) :=
  ⟨pe_imp (pe_callB hc hg mg hv ha.run hn hdb he hpl) fun σ H Q ⟨ρ, m, β, hE, hM, p⟩ => ⟨ρ, m, β, hE, hM, p.bind fun ds m1 vs H1 β1 _ e1 M1 V1 p1 => hm W σ ds m1 β1 H1 vs Q M1 V1 p1⟩⟩
theorem je_callTy {T : String} {r : List V → Hp → VK → Prop} {g : List MV → Mem → Re MV} {ga : MA} {x : Str} {p : Pos} {e : Expr} {es : List Expr} (hc : CallR X (.type T) r) (hm : CrM X r g) (mg : X.mg x = none) (hv : bootBuiltins x = some (.type T)) (ha : JA X W (e :: es) ga) (hg : Gl X x := by rfl)
    (hn : x ≠ "__name__" := by decide) (hdb : (x == ("__debug__" : Str)) = false := by decide) (he : starEach (e :: es) X.env = (false, eval e X.env) :: starEach es X.env := by rfl) (hpl : (backTo pos (starEach es X.env)).any (·.1) = false := by rfl) :
    JE X W (.Call (.Name x p) (e :: es) [] pos) (mCall g ga) :=
  ⟨pe_imp (pe_callTy hc hg mg hv ha.run hn hdb he hpl) fun σ H Q ⟨ρ, m, β, hE, hM, p⟩ => ⟨ρ, m, β, hE, hM, p.bind fun ds m1 vs H1 β1 _ e1 M1 V1 p1 => hm W σ ds m1 β1 H1 vs Q M1 V1 p1⟩⟩
/-- len -/
def lenM (m : Mem) : MV → Option Nat
  | .str z => if z.length ≤ sizeLine then some z.length else none
  | .ref n => match dctOf m (.ref n) with
    | some (_, l) => some l.length
    | none => (lstOf m (.ref n)).map List.length
  | d => (seqOf m d).map List.length
def gLen : List MV → Mem → Re MV
  | [d], m => match lenM m d with
    | some n => .ok (.int (n : Int)) m
    | none => .stuck
  | _, _ => .stuck
abbrev rLenA (K : PySem.W.Frag) : List V → Hp → VK → Prop := fun xs H Q => (∃ p ys, xs = [V.ref p] ∧ (SqL K H p ys ∨ SqT K H p ys) ∧ Q (V.int ys.length) H) ∨ (∃ z, xs = [V.str z] ∧ z.length ≤ sizeLine ∧ Q (V.int z.length) H) ∨ (∃ a kvs, xs = [V.ref a] ∧ H a = some (.dK kvs) ∧ Q (V.int kvs.length) H)
theorem cr_len : CallR X (.builtin "len") (rLenA X.K) := cr_or call_len_seq (cr_or call_len_str call_lenD)
theorem cm_len : CrM X (rLenA X.K) gLen := by
  intro W σ ds m β H vs Q M V p
  unfold gLen at p
  split at p
  · cases V with
    | cons h r =>
      cases r
      split at p
      · rename_i n e
        have p : Q (V.int (n : Int)) H := p.ok M (.int _)
        unfold lenM at e
        split at e
        · cases h
          split at e
          · rename_i q
            cases e
            exact .inr (.inl ⟨_, rfl, q, p⟩)
          · cases e
        · split at e
          · rename_i n' l e1
            cases e
            obtain ⟨a, vs, rfl, h1, h2, h3⟩ := M.dct h e1
            exact .inr (.inr ⟨a, vs, rfl, h2, by rw [← h3.length]; exact p⟩)
          · cases q : lstOf m (.ref ‹Nat›) with
            | none => rw [q] at e; cases e
            | some l =>
              rw [q] at e
              cases e
              obtain ⟨a, vs, rfl, h1, h2⟩ := M.lst h q
              exact .inl ⟨a, vs, rfl, .inl h1, by rw [← h2.length]; exact p⟩
        · obtain ⟨l, q, e2⟩ := Option.map_eq_some_iff.mp e
          subst e2
          obtain ⟨a, vs, rfl, h1, h2⟩ := M.seq h q
          exact .inl ⟨a, vs, rfl, h1, by rw [← h2.length]; exact p⟩
      · exact p.not_stuck
  · exact p.not_stuck
/-- int of an int, of a bool -/
def gInt : List MV → Mem → Re MV
  | [.int i], m => .ok (.int i) m
  | [.bl b], m => .ok (.int (if b = true then 1 else 0)) m
  | _, _ => .stuck
theorem cm_int : CrM X (fun xs H Q => (∃ i, xs = [V.int i] ∧ Q (V.int i) H) ∨ ∃ k, xs = [V.bl k] ∧ Q (V.int (if k = true then 1 else 0)) H) gInt := by
  intro W σ ds m β H vs Q M V p
  unfold gInt at p
  split at p
  · cases V with | cons h r => cases r; cases h; exact .inl ⟨_, rfl, p.ok M (.int _)⟩
  · cases V with | cons h r => cases r; cases h; exact .inr ⟨_, rfl, p.ok M (.int _)⟩
  · exact p.not_stuck
def gAbs : List MV → Mem → Re MV
  | [.int i], m => .ok (.int (if i < 0 then -i else i)) m
  | _, _ => .stuck
theorem cm_abs : CrM X (fun xs H Q => ∃ i, xs = [V.int i] ∧ Q (V.int (if i < 0 then -i else i)) H) gAbs := by
  intro W σ ds m β H vs Q M V p
  unfold gAbs at p
  split at p
  · cases V with | cons h r => cases r; cases h; exact ⟨_, rfl, p.ok M (.int _)⟩
  · exact p.not_stuck
/-- list(..), tuple(..) -/
def gList : List MV → Mem → Re MV
  | [d], m => match seqOf m d with
    | some l => alloc (.lst l) m
    | none => .stuck
  | _, _ => .stuck
theorem cm_list : CrM X (fun xs H Q => ∃ p ys, xs = [V.ref p] ∧ (SqL X.K H p ys ∨ SqT X.K H p ys) ∧ ∀ l, H l = none → Q (V.ref l) (upd H l (.lst ys))) gList := by
  intro W σ ds m β H vs Q M V p
  unfold gList at p
  split at p
  · cases V with
    | cons h r =>
      cases r
      split at p
      · rename_i l e
        obtain ⟨a, vs, rfl, h1, h2⟩ := M.seq h e
        exact ⟨a, vs, rfl, h1, fun q hq => p.alloc M hq ⟨_, upd_same, h2.ext M (Ext.push hq)⟩⟩
      · exact p.not_stuck
  · exact p.not_stuck
def gTuple : List MV → Mem → Re MV
  | [d], m => match seqOf m d with
    | some l => .ok (.tup l) m
    | none => .stuck
  | _, _ => .stuck
theorem cm_tuple : CrM X (fun xs H Q => ∃ p ys, xs = [V.ref p] ∧ ((SqL X.K H p ys ∧ ∀ l, H l = none → Q (V.ref l) (upd H l (.tup ys))) ∨ (SqT X.K H p ys ∧ Q (V.ref p) H))) gTuple := by
  intro W σ ds m β H vs Q M V p
  unfold gTuple at p
  split at p
  · cases V with
    | cons h r =>
      cases r
      split at p
      · rename_i l e
        obtain ⟨a, vs, rfl, h1, h2⟩ := M.seq h e
        rcases h1 with h1 | h1
        · exact ⟨a, vs, rfl, .inl ⟨h1, fun q hq => p.newtup M hq h2⟩⟩
        · exact ⟨a, vs, rfl, .inr ⟨h1, p.ok M (.tup h1 h2)⟩⟩
      · exact p.not_stuck
  · exact p.not_stuck
/-- ints alone, bools alone -/
def intsOf : List MV → Option (List Int)
  | [] => some []
  | .int i :: r => (intsOf r).map (i :: ·)
  | _ :: _ => none
def blsOf : List MV → Option (List Bool)
  | [] => some []
  | .bl i :: r => (blsOf r).map (i :: ·)
  | _ :: _ => none
def strsOf : List MV → Option (List Str)
  | [] => some []
  | .str i :: r => (strsOf r).map (i :: ·)
  | _ :: _ => none
theorem RVs.bls : ∀ {l : List MV} {vs : List V} {ns : List Bool}, RVs K β H l vs → blsOf l = some ns → vs = ns.map V.bl
  | [], _, _, .nil, h => by cases h; rfl
  | .bl i :: r, _, _, .cons (.bl _) q, h => by
    unfold blsOf at h
    cases e : blsOf r with
    | none => rw [e] at h; cases h
    | some ns => rw [e] at h; cases h; rw [RVs.bls q e]; rfl
def gSum : List MV → Mem → Re MV
  | [d], m => match (lstOf m d).bind intsOf with
    | some ns => .ok (.int ns.sum) m
    | none => .stuck
  | _, _ => .stuck
theorem lst_bls {d : MV} {ns : List Bool} (h : (lstOf m d).bind blsOf = some ns) : ∃ l, lstOf m d = some l ∧ blsOf l = some ns := by
  cases e : lstOf m d with
  | none => rw [e] at h; cases h
  | some l => rw [e] at h; exact ⟨l, rfl, h⟩
def gAll : List MV → Mem → Re MV
  | [d], m => match (lstOf m d).bind blsOf with
    | some bs => .ok (.bl (bs.all id)) m
    | none => .stuck
  | _, _ => .stuck
theorem cm_all : CrM X (rAll X.K) gAll := by
  intro W σ ds m β H vs Q M V p
  unfold gAll at p
  split at p
  · cases V with
    | cons h r =>
      cases r
      split at p
      · rename_i ns e
        obtain ⟨l, h1, h2⟩ := lst_bls e
        obtain ⟨a, vs, rfl, q1, q2⟩ := M.lst h h1
        exact ⟨a, ns, rfl, by rw [← q2.bls h2]; exact q1, p.ok M (.bl _)⟩
      · exact p.not_stuck
  · exact p.not_stuck
/-- the greatest -/
def maxL : List Int → Option Int
  | [] => none
  | a :: r => some (r.foldl (fun x y => if x < y then y else x) a)
def gMax : List MV → Mem → Re MV
  | [d], m => match ((lstOf m d).bind intsOf).bind maxL with
    | some k => .ok (.int k) m
    | none => .stuck
  | _, _ => .stuck
end
end MI
namespace MI
open PySem L2
variable [Nms]
section
variable {X : Cx} {W : WX} {pos : Pos} {K : PySem.W.Frag} {β : List Addr} {H : Hp} {m : Mem}
theorem pe_or' {e : Expr} {t t' : TE} (h : PE X e t) (h' : PE X e t') : PE X e (fun σ H Q => t σ H Q ∨ t' σ H Q) := ⟨fun pins s σ H Q I q => q.elim (h.run pins s σ H Q I) (h'.run pins s σ H Q I)⟩
theorem pt_or' {e : Expr} {t t' : TT} (h : PT X e t) (h' : PT X e t') : PT X e (fun σ H Q => t σ H Q ∨ t' σ H Q) := ⟨fun pins s σ H Q I q => q.elim (h.run pins s σ H Q I) (h'.run pins s σ H Q I)⟩
theorem ps_or' {e : Stmt} {t t' : TS} (h : PS X e t) (h' : PS X e t') : PS X e (fun D σ H => t D σ H ∨ t' D σ H) := ⟨fun pins s σ H D I q => q.elim (h.run pins s σ H D I) (h'.run pins s σ H D I)⟩
/-- one of two works, by what the small world says -/
theorem JE.or {e : Expr} {f f1 f2 : ME} (h1 : JE X W e f1) (h2 : JE X W e f2) (hh : ∀ ρ m, f ρ m = .stuck ∨ f ρ m = f1 ρ m ∨ f ρ m = f2 ρ m) : JE X W e f :=
  ⟨pe_imp (pe_or' h1.run h2.run) fun σ H Q ⟨ρ, m, β, hE, hM, p⟩ => by
    rcases hh ρ m with q | q | q
    · rw [q] at p; exact p.elim
    · rw [q] at p; exact .inl ⟨ρ, m, β, hE, hM, p⟩
    · rw [q] at p; exact .inr ⟨ρ, m, β, hE, hM, p⟩⟩
theorem JT.or {e : Expr} {f f1 f2 : MT} (h1 : JT X W e f1) (h2 : JT X W e f2) (hh : ∀ ρ m, f ρ m = .stuck ∨ f ρ m = f1 ρ m ∨ f ρ m = f2 ρ m) : JT X W e f :=
  ⟨pt_imp (pt_or' h1.run h2.run) fun σ H Q ⟨ρ, m, β, hE, hM, p⟩ => by
    rcases hh ρ m with q | q | q
    · rw [q] at p; exact p.elim
    · rw [q] at p; exact .inl ⟨ρ, m, β, hE, hM, p⟩
    · rw [q] at p; exact .inr ⟨ρ, m, β, hE, hM, p⟩⟩
theorem JS.or {e : Stmt} {f f1 f2 : MS} (h1 : JS X W e f1) (h2 : JS X W e f2) (hh : ∀ ρ m, f ρ m = .stuck ∨ f ρ m = f1 ρ m ∨ f ρ m = f2 ρ m) : JS X W e f :=
  ⟨ps_imp (ps_or' h1.run h2.run) fun D σ H ⟨ρ, m, β, hE, hM, p⟩ => by
    rcases hh ρ m with q | q | q
    · rw [q] at p; exact p.elim
    · rw [q] at p; exact .inl ⟨ρ, m, β, hE, hM, p⟩
    · rw [q] at p; exact .inr ⟨ρ, m, β, hE, hM, p⟩⟩
/-- an operation on two values, of which one of two serves -/
theorem mBin_or {g g1 g2 : MV → MV → Mem → Re MV} {fa fb : ME} (h : ∀ a b m, g a b m = g1 a b m ∨ g a b m = g2 a b m) (ρ : Env) (m : Mem) : mBin g fa fb ρ m = .stuck ∨ mBin g fa fb ρ m = mBin g1 fa fb ρ m ∨ mBin g fa fb ρ m = mBin g2 fa fb ρ m := by
  unfold mBin
  cases fa ρ m with
  | stuck => exact .inl rfl
  | ex x m1 => exact .inr (.inl rfl)
  | ok a m1 =>
    show ((fb ρ m1).bind fun b m2 => g a b m2) = .stuck ∨ ((fb ρ m1).bind fun b m2 => g a b m2) = ((fb ρ m1).bind fun b m2 => g1 a b m2) ∨ ((fb ρ m1).bind fun b m2 => g a b m2) = ((fb ρ m1).bind fun b m2 => g2 a b m2)
    cases fb ρ m1 with
    | stuck => exact .inl rfl
    | ex x m1 => exact .inr (.inl rfl)
    | ok b m2 =>
      rcases h a b m2 with q | q
      · exact .inr (.inl q)
      · exact .inr (.inr q)
/-- x[i]: a dict's, or of a list, a tuple, a text -/
def gItem (a b : MV) (m : Mem) : Re MV := match dctOf m a with
  | some _ => gDGet a b m
  | none => gIx a b m
theorem je_item {a b : Expr} {fa fb : ME} (hu : X.A.units + 1 < cLine) (ha : JE X W a fa) (hb : JE X W b fb) (hs : PlainIx b := by intro _ _; rfl) : JE X W (.Subscript a b pos) (mBin gItem fa fb) :=
  JE.or (je_dget hu ha hb hs) (je_ix ha hb hs) (mBin_or fun a b m => by
    unfold gItem
    cases dctOf m a with
    | none => exact .inr rfl
    | some q => exact .inl rfl)
def toV : MV → V
  | .non => .non
  | .bl b => .bl b
  | .int i => .int i
  | .str s => .str s
  | _ => .ref 0
def flat (d : MV) : Bool := match d with
  | .non => true
  | .bl _ => true
  | .int _ => true
  | .str _ => true
  | _ => false
theorem RV.flat {d : MV} {v : V} (h : RV K β H d v) (f : flat d = true) : v = toV d ∧ flatV v = true := by
  cases h with
  | non => exact ⟨rfl, rfl⟩
  | bl b => exact ⟨rfl, rfl⟩
  | int i => exact ⟨rfl, rfl⟩
  | str s => exact ⟨rfl, rfl⟩
  | tup _ _ => cases f
  | ref _ => cases f
  | kl _ _ => cases f
  | clo _ => cases f
theorem RVs.flat : ∀ {ds : List MV} {vs : List V}, RVs K β H ds vs → ds.all flat = true → vs = ds.map toV ∧ vs.all flatV = true
  | _, _, .nil, _ => ⟨rfl, rfl⟩
  | _, _, .cons h r, f => by
    rw [List.all_cons, Bool.and_eq_true] at f
    obtain ⟨e1, e2⟩ := h.flat f.1
    obtain ⟨e3, e4⟩ := RVs.flat r f.2
    exact ⟨by rw [e1, e3]; rfl, by rw [List.all_cons, e2, e4]; rfl⟩
/-- x in a list or a tuple of flat things -/
def gInF (neg : Bool) (a b : MV) (m : Mem) : Re MV := match seqOf m b with
  | some l => if flat a = true ∧ l.all flat = true then .ok (.bl (if neg then !inV (toV a) (l.map toV) else inV (toV a) (l.map toV))) m else .stuck
  | none => .stuck
theorem om_inF {neg : Bool} : OpM X (rIn X.K neg) (gInF neg) := by
  intro W σ d e m β H x y Q M rx ry p
  unfold gInF at p
  split at p
  · rename_i l hl
    split at p
    · rename_i hf
      obtain ⟨a, vs, rfl, hs, hr⟩ := M.seq ry hl
      obtain ⟨e1, e2⟩ := rx.flat hf.1
      obtain ⟨e3, e4⟩ := hr.flat hf.2
      exact ⟨a, vs, rfl, hs, e2, e4, by rw [e1, e3]; exact p.ok M (.bl _)⟩
    · exact p.not_stuck
  · exact p.not_stuck
/-- a sign in a text -/
def gInS (neg : Bool) (a b : MV) (m : Mem) : Re MV := match a, b with
  | .str z, .str y => match z.cps.toList with
    | [c] => .ok (.bl (if neg then !decide (c ∈ y.cps.toList) else decide (c ∈ y.cps.toList))) m
    | _ => .stuck
  | _, _ => .stuck
theorem om_inS : OpM X (fun x y H Q => ∃ (c : Nat) (z : Str), x = V.str ⟨#[c]⟩ ∧ y = V.str z ∧ Q (V.bl (decide (c ∈ z.cps.toList))) H) (gInS false) := by
  intro W σ d e m β H x y Q M rx ry p
  unfold gInS at p
  split at p
  · cases rx; cases ry
    split at p
    · rename_i c hc
      rename_i z y _
      refine ⟨c, y, ?_, rfl, p.ok M (.bl _)⟩
      cases z with
      | mk cps => simp at hc; rw [show cps = #[c] from by apply Array.toList_inj.mp; rw [hc]]
    · exact p.not_stuck
  · exact p.not_stuck
theorem om_ninS : OpM X (fun x y H Q => ∃ (c : Nat) (z : Str), x = V.str ⟨#[c]⟩ ∧ y = V.str z ∧ Q (V.bl (!decide (c ∈ z.cps.toList))) H) (gInS true) := by
  intro W σ d e m β H x y Q M rx ry p
  unfold gInS at p
  split at p
  · cases rx; cases ry
    split at p
    · rename_i c hc
      rename_i z y _
      refine ⟨c, y, ?_, rfl, p.ok M (.bl _)⟩
      cases z with
      | mk cps => simp at hc; rw [show cps = #[c] from by apply Array.toList_inj.mp; rw [hc]]
    · exact p.not_stuck
  · exact p.not_stuck
/-- data in a list -/
def gInD (neg : Bool) (a b : MV) (m : Mem) : Re MV := match dat m fuel a, dat m fuel b with
  | some d, some (.list ds) => if SeqAt.shaped d = true ∧ SeqAt.shaped (.list ds) = true then .ok (.bl (if neg then !ds.any (fun z => PyData.eqv z d) else ds.any (fun z => PyData.eqv z d))) m else .stuck
  | _, _ => .stuck
theorem om_inD : OpM X (rInD X.K) (gInD false) := by
  intro W σ d e m β H x y Q M rx ry p
  unfold gInD at p
  split at p
  · rename_i a b e1 e2
    split at p
    · rename_i h
      exact ⟨a, b, M.dat1 rx e1, M.dat1 ry e2, h.1, h.2, p.ok M (.bl _)⟩
    · exact p.not_stuck
  · exact p.not_stuck
theorem om_ninD : OpM X (rNotInD X.K) (gInD true) := by
  intro W σ d e m β H x y Q M rx ry p
  unfold gInD at p
  split at p
  · rename_i a b e1 e2
    split at p
    · rename_i h
      exact ⟨a, b, M.dat1 rx e1, M.dat1 ry e2, h.1, h.2, p.ok M (.bl _)⟩
    · exact p.not_stuck
  · exact p.not_stuck
open Classical in
noncomputable def gInA (neg : Bool) (a b : MV) (m : Mem) : Re MV :=
  if (∃ z, b = .str z) then gInS neg a b m else if (dctOf m b).isSome = true then gDIn neg a b m else if (∃ l, seqOf m b = some l ∧ flat a = true ∧ l.all flat = true) then gInF neg a b m else gInD neg a b m
theorem je_in {a b : Expr} {fa fb : ME} (hu : X.A.units + 1 < cLine) (hu2 : X.A.units + 65 < cLine) (ha : JE X W a fa) (hb : JE X W b fb) (hk : behindInMarks .In b = false := by rfl) : JE X W (.Compare a [.In] [b] pos) (mBin (gInA false) fa fb) := by
  have j1 : JE X W (.Compare a [.In] [b] pos) (mBin (gInS false) fa fb) := j_cmp op_in_sign om_inS ha hb hk
  have j2 : JE X W (.Compare a [.In] [b] pos) (mBin (gDIn false) fa fb) := je_din hu ha hb hk
  have j3 : JE X W (.Compare a [.In] [b] pos) (mBin (gInF false) fa fb) := j_cmp op_in_seq om_inF ha hb hk
  have j4 : JE X W (.Compare a [.In] [b] pos) (mBin (gInD false) fa fb) := j_cmp (op_inD hu2) om_inD ha hb hk
  classical
  have j34 : JE X W (.Compare a [.In] [b] pos) (mBin (fun a b m => if (∃ l, seqOf m b = some l ∧ flat a = true ∧ l.all flat = true) then gInF false a b m else gInD false a b m) fa fb) := JE.or j3 j4 (mBin_or fun a b m => by split <;> simp)
  have j234 : JE X W (.Compare a [.In] [b] pos) (mBin (fun a b m => if (dctOf m b).isSome = true then gDIn false a b m else if (∃ l, seqOf m b = some l ∧ flat a = true ∧ l.all flat = true) then gInF false a b m else gInD false a b m) fa fb) := JE.or j2 j34 (mBin_or fun a b m => by
    by_cases q : (dctOf m b).isSome = true
    · exact .inl (if_pos q)
    · exact .inr (if_neg q))
  exact JE.or j1 j234 (mBin_or fun a b m => by
    unfold gInA
    by_cases q : ∃ z, b = .str z
    · exact .inl (if_pos q)
    · exact .inr (if_neg q))
theorem je_nin {a b : Expr} {fa fb : ME} (hu : X.A.units + 1 < cLine) (hu2 : X.A.units + 65 < cLine) (ha : JE X W a fa) (hb : JE X W b fb) (hk : behindInMarks .NotIn b = false := by rfl) : JE X W (.Compare a [.NotIn] [b] pos) (mBin (gInA true) fa fb) := by
  have j1 : JE X W (.Compare a [.NotIn] [b] pos) (mBin (gInS true) fa fb) := j_cmp op_notIn_sign om_ninS ha hb hk
  have j2 : JE X W (.Compare a [.NotIn] [b] pos) (mBin (gDIn true) fa fb) := je_dnotin hu ha hb hk
  have j3 : JE X W (.Compare a [.NotIn] [b] pos) (mBin (gInF true) fa fb) := j_cmp op_notIn_seq om_inF ha hb hk
  have j4 : JE X W (.Compare a [.NotIn] [b] pos) (mBin (gInD true) fa fb) := j_cmp (op_notInD hu2) om_ninD ha hb hk
  classical
  have j34 : JE X W (.Compare a [.NotIn] [b] pos) (mBin (fun a b m => if (∃ l, seqOf m b = some l ∧ flat a = true ∧ l.all flat = true) then gInF true a b m else gInD true a b m) fa fb) := JE.or j3 j4 (mBin_or fun a b m => by split <;> simp)
  have j234 : JE X W (.Compare a [.NotIn] [b] pos) (mBin (fun a b m => if (dctOf m b).isSome = true then gDIn true a b m else if (∃ l, seqOf m b = some l ∧ flat a = true ∧ l.all flat = true) then gInF true a b m else gInD true a b m) fa fb) := JE.or j2 j34 (mBin_or fun a b m => by
    by_cases q : (dctOf m b).isSome = true
    · exact .inl (if_pos q)
    · exact .inr (if_neg q))
  exact JE.or j1 j234 (mBin_or fun a b m => by
    unfold gInA
    by_cases q : ∃ z, b = .str z
    · exact .inl (if_pos q)
    · exact .inr (if_neg q))
def MtMm (X : Cx) (r : V → List V → Hp → VK → Prop) (g : MV → List MV → Mem → Re MV) : Prop := ∀ (W : WX) (σ : L2.St) (d : MV) (ds : List MV) (m : Mem) (β : List Addr) (H : Hp) (x : V) (vs : List V) (Q : VK), RM X.K β H m → RV X.K β H d x → RVs X.K β H ds vs →
  Post X W (g d ds m) β H σ (fun β' H' d v => RV X.K β' H' d v) Q → r x vs H Q
def mBM (g : MV → List MV → Mem → Re MV) (fo : ME) (ga : MA) : ME := fun ρ m => (fo ρ m).bind fun d m1 => if (lstOf m1 d).isSome = true then (ga ρ m1).bind fun ds m2 => g d ds m2 else .stuck
theorem je_bmL {o e : Expr} {es : List Expr} {fo : ME} {ga : MA} {name : Str} {apos : Pos} {id : String} {r : V → List V → Hp → VK → Prop} {g : MV → List MV → Mem → Re MV} (slot : Slot "list" name id) (hty : typeOf (.builtin id) = pure (.type "method_descriptor")) (hm : MtR X id r) (hg : MtMm X r g) (ho : JE X W o fo) (ha : JA X W (e :: es) ga)
    (h1 : attributeBase o name X.env (eval o X.env) = eval o X.env := by rfl) (h2 : (((((backTo pos (starEach (e :: es) X.env)).all fun x => !x.fst) && (backToKw pos (keywordEach [] X.env)).all fun x => x.fst.isSome) && decide (((e :: es).length + ([] : List Keyword).length + if ([] : List Keyword).isEmpty = true then 0 else 1) < 30)) = true) := by rfl) (h3 : (apos.endLine == pos.line) = true := by rfl)
    (h4 : starEach (e :: es) X.env = (false, eval e X.env) :: starEach es X.env := by rfl) (h5 : (backTo pos (starEach es X.env)).any (·.1) = false := by rfl) : JE X W (.Call (.Attribute o name apos) (e :: es) [] pos) (mBM g fo ga) :=
  ⟨pe_imp (pe_bm PySem.F.plainAttrs_list slot hty hm ho.run ha.run h1 h2 h3 h4 h5) fun σ H Q ⟨ρ, m, β, hE, hM, p⟩ => ⟨ρ, m, β, hE, hM, p.bind fun d m1 x H1 β1 _ e1 M1 V1 p1 => by
    split at p1
    · rename_i q
      obtain ⟨l, hl⟩ := Option.isSome_iff_exists.mp q
      obtain ⟨a, vs, rfl, hs, _⟩ := M1.lst V1 hl
      exact ⟨.inl ⟨rfl, vs, hs⟩, ρ, m1, β1, hE.ext hM e1, M1, p1.bind fun ds m2 us H2 β2 _ e2 M2 V2 p2 => hg W σ d ds m2 β2 H2 _ us Q M2 (V1.ext M1 e2) V2 p2⟩
    · exact p1.not_stuck⟩⟩
theorem je_bmL0 {o : Expr} {fo : ME} {name : Str} {apos : Pos} {id : String} {r : V → List V → Hp → VK → Prop} {g : MV → List MV → Mem → Re MV} (slot : Slot "list" name id) (hty : typeOf (.builtin id) = pure (.type "method_descriptor")) (hm : MtR X id r) (hg : MtMm X r g) (ho : JE X W o fo)
    (h1 : attributeBase o name X.env (eval o X.env) = eval o X.env := by rfl) (h3 : (apos.endLine == pos.line) = true := by rfl) : JE X W (.Call (.Attribute o name apos) [] [] pos) (mBM g fo mNil) :=
  ⟨pe_imp (pe_bm0 PySem.F.plainAttrs_list slot hty hm ho.run h1 h3) fun σ H Q ⟨ρ, m, β, hE, hM, p⟩ => ⟨ρ, m, β, hE, hM, p.bind fun d m1 x H1 β1 _ e1 M1 V1 p1 => by
    split at p1
    · rename_i q
      obtain ⟨l, hl⟩ := Option.isSome_iff_exists.mp q
      obtain ⟨a, vs, rfl, hs, _⟩ := M1.lst V1 hl
      exact ⟨.inl ⟨rfl, vs, hs⟩, hg W σ d [] m1 β1 H1 _ [] Q M1 V1 .nil p1⟩
    · exact p1.not_stuck⟩⟩
def gAppend (d : MV) (ds : List MV) (m : Mem) : Re MV := match ds with
  | [e] => match mutOf m d with
    | some (n, l) => if l.length < sizeLine then .ok .non (m.set n (.lst (l ++ [e]))) else .stuck
    | none => .stuck
  | _ => .stuck
theorem mm_append : MtMm X rAppend gAppend := by
  intro W σ d ds m β H x vs Q M rx rv p
  unfold gAppend at p
  split at p
  · cases rv with
    | @cons _ y _ _ h r =>
      cases r
      split at p
      · rename_i n l e
        split at p
        · rename_i hl
          obtain ⟨a, us, rfl, hb, hH, hr⟩ := M.mut rx e
          have eE : Ext β H β (upd H a (.lst (us ++ [y]))) := Ext.wr (List.mem_of_getElem? hb)
          exact ⟨a, us, _, rfl, rfl, hH, by rw [← hr.length]; exact hl, p .non _ β eE (M.wr hb ⟨_, upd_same, (hr.app (.cons h .nil)).ext M eE⟩) .non⟩
        · exact p.not_stuck
      · exact p.not_stuck
  · exact p.not_stuck
def gExtend (d : MV) (ds : List MV) (m : Mem) : Re MV := match ds with
  | [e] => match mutOf m d, mutOf m e with
    | some (n, l), some (_, k) => if l.length + k.length ≤ sizeLine then .ok .non (m.set n (.lst (l ++ k))) else .stuck
    | _, _ => .stuck
  | _ => .stuck
theorem mm_extend : MtMm X rExtend gExtend := by
  intro W σ d ds m β H x vs Q M rx rv p
  unfold gExtend at p
  split at p
  · cases rv with
    | cons h r =>
      cases r
      split at p
      · rename_i n l n2 k e e2
        split at p
        · rename_i hl
          obtain ⟨a, us, rfl, hb, hH, hr⟩ := M.mut rx e
          obtain ⟨a2, us2, rfl, hb2, hH2, hr2⟩ := M.mut h e2
          have eE : Ext β H β (upd H a (.lst (us ++ us2))) := Ext.wr (List.mem_of_getElem? hb)
          exact ⟨a, a2, us, us2, rfl, rfl, hH, hH2, by rw [← hr.length, ← hr2.length]; exact hl, p .non _ β eE (M.wr hb ⟨_, upd_same, (hr.app hr2).ext M eE⟩) .non⟩
        · exact p.not_stuck
      · exact p.not_stuck
  · exact p.not_stuck
theorem RVs.dropLast : ∀ {ds : List MV} {vs : List V}, RVs K β H ds vs → RVs K β H ds.dropLast vs.dropLast := fun {ds vs} h => by
  rw [List.dropLast_eq_take, List.dropLast_eq_take, ← h.length]
  exact h.take _
def gPop (d : MV) (ds : List MV) (m : Mem) : Re MV := match ds with
  | [] => match mutOf m d with
    | some (n, l) => match l[l.length - 1]? with
      | some e => .ok e (m.set n (.lst l.dropLast))
      | none => .stuck
    | none => .stuck
  | _ => .stuck
theorem mm_pop : MtMm X rPop gPop := by
  intro W σ d ds m β H x vs Q M rx rv p
  unfold gPop at p
  split at p
  · cases rv
    split at p
    · rename_i n l e
      split at p
      · rename_i y hy
        obtain ⟨a, us, rfl, hb, hH, hr⟩ := M.mut rx e
        obtain ⟨v, h1, h2⟩ := hr.get hy
        have eE : Ext β H β (upd H a (.lst us.dropLast)) := Ext.wr (List.mem_of_getElem? hb)
        exact ⟨a, us, v, rfl, rfl, hH, by rw [← hr.length]; exact h1, p v _ β eE (M.wr hb ⟨_, upd_same, hr.dropLast.ext M eE⟩) (h2.ext M eE)⟩
      · exact p.not_stuck
    · exact p.not_stuck
  · exact p.not_stuck
theorem jg_subL {o i : Expr} {fo fi : ME} (ho : JE X W0 o fo) (hi : JE X W0 i fi)
    (ha : ∀ v, assign (.Subscript o i pos) X.env v = (do
      let ov ← holding [v] (eval o X.env)
      let iv ← holding [v, ov] (eval i X.env)
      standAt pos
      holding [v, ov, iv] (setItem ov iv v)
      release [v, ov, iv] []) := by intro _; rfl) : JG X (.Subscript o i pos) (nSubL fo fi) :=
  ⟨pg_imp (pg_sub ho.run hi.run set_list ha) fun v σ H Q ⟨d, ρ, m, β, V, hE, hM, p⟩ => by
    refine ⟨ρ, m, β, hE, hM, ?_⟩
    unfold nSubL at p
    cases e1 : fo ρ m with
    | stuck => rw [e1] at p; exact p.elim
    | ex x m1 => rw [e1] at p; exact p.elim
    | ok od m1 =>
      rw [e1] at p
      dsimp only at p
      intro ov H1 β1 x1 M1 V1
      refine ⟨ρ, m1, β1, hE.ext hM x1, M1, ?_⟩
      cases e2 : fi ρ m1 with
      | stuck => rw [e2] at p; exact p.elim
      | ex x m1 => rw [e2] at p; exact p.elim
      | ok id m2 =>
        rw [e2] at p
        intro iv H2 β2 x2 M2 V2
        cases id with
        | int k =>
          dsimp only at p
          cases V2
          cases e3 : mutOf m2 od with
          | none => rw [e3] at p; exact p.elim
          | some nl =>
            obtain ⟨n, l⟩ := nl
            rw [e3] at p
            dsimp only at p
            obtain ⟨a, us, rfl, hb, hH, hr⟩ := M2.mut (V1.ext M1 x2) e3
            cases e4 : ixN l.length k with
            | none => rw [e4] at p; exact p.elim
            | some j =>
              rw [e4] at p
              have eE : Ext β2 H2 β2 (upd H2 a (.lst (us.set j v))) := Ext.wr (List.mem_of_getElem? hb)
              refine ⟨a, us, k, j, rfl, rfl, hH, by rw [← hr.length]; exact e4, p σ _ β2 ((x1.trans x2).trans eE) (M2.wr hb ⟨_, upd_same, (hr.set j ((V.ext hM x1).ext M1 x2)).ext M2 eE⟩) (((hE.ext hM x1).ext M1 x2).ext M2 eE)⟩
        | _ => exact p.elim⟩
/-- d[k] = v in a dict -/
def mDPut (fd fk fv : ME) : MS := fun ρ m => onE ρ (fv ρ m) fun v m1 => onE ρ (fd ρ m1) fun d m2 => onE ρ (fk ρ m2) fun k m3 => match dctOf m3 d, keyOf k with
  | some (n, l), some q => if l.length < sizeLine then .ok (.nx ρ) (m3.set n (.dct (putM l q v))) else .stuck
  | _, _ => .stuck
theorem js_dput {o i value : Expr} {pos' : Pos} {fo fi fv : ME} (hu : X.A.units + 1 < cLine) (ho : JE X W o fo) (hi : JE X W i fi) (hv : JE X W value fv) (hs : swapsWith value (some (.Subscript o i pos')) pos.line X.env = pure false := by rfl) : JS X W (.Assign [.Subscript o i pos'] value pos) (mDPut fo fi fv) :=
  ⟨ps_imp (ps_dput hu ho.run hi.run hv.run hs) fun D σ H ⟨ρ, m, β, hE, hM, p⟩ => ⟨ρ, m, β, hE, hM, PostS.on (D := D) (R := fun β' H' d v => RV X.K β' H' d v) hE hM p fun d1 m1 v1 H1 β1 _ e1 M1 V1 p1 => ⟨ρ, m1, β1, hE.ext hM e1, M1, PostS.on (D := D) (R := fun β' H' d v => RV X.K β' H' d v) (hE.ext hM e1) M1 p1 fun d2 m2 v2 H2 β2 _ e2 M2 V2 p2 => ⟨ρ, m2, β2, (hE.ext hM e1).ext M1 e2, M2,
    PostS.on (D := D) (R := fun β' H' d v => RV X.K β' H' d v) ((hE.ext hM e1).ext M1 e2) M2 p2 fun d3 m3 v3 H3 β3 _ e3 M3 V3 p3 => by
      split at p3
      · rename_i n l q h1 h2
        split at p3
        · rename_i hl
          obtain ⟨a, us, rfl, hb, hH, hr⟩ := M3.dct (V2.ext M2 e3) h1
          have hk := keyOf_some V3 h2
          subst hk
          have eE : Ext β3 H3 β3 (upd H3 a (.dK (putK us q v1))) := Ext.wr (List.mem_of_getElem? hb)
          exact ⟨a, _, rfl, .inl ⟨us, q, hH, rfl, by rw [← hr.length]; exact hl, rfl⟩, p3 σ _ β3 eE (M3.wr hb ⟨_, upd_same, (hr.put ((V1.ext M1 e2).ext M2 e3)).ext M3 eE⟩) ((((hE.ext hM e1).ext M1 e2).ext M2 e3).ext M3 eE)⟩
        · exact p3.elim
      · exact p3.elim⟩⟩⟩⟩
end
end MI
namespace MI
open PySem L2
variable [Nms]
section
variable {X : Cx} {W : WX} {pos : Pos} {K : PySem.W.Frag} {β : List Addr} {H : Hp} {m : Mem}
theorem OpM.or {r1 r2 : R2} {g g1 g2 : MV → MV → Mem → Re MV} (h1 : OpM X r1 g1) (h2 : OpM X r2 g2) (h : ∀ a b m, g a b m = .stuck ∨ g a b m = g1 a b m ∨ g a b m = g2 a b m) : OpM X (fun x y H Q => r1 x y H Q ∨ r2 x y H Q) g := by
  intro W σ d e m β H x y Q M rx ry p
  rcases h d e m with q | q | q
  · rw [q] at p; exact p.elim
  · rw [q] at p; exact .inl (h1 W σ d e m β H x y Q M rx ry p)
  · rw [q] at p; exact .inr (h2 W σ d e m β H x y Q M rx ry p)
/-- equal scalars -/
def eqS : MV → MV → Option Bool
  | .non, .non => some true
  | .non, .int _ => some false
  | .int _, .non => some false
  | .non, .bl _ => some false
  | .bl _, .non => some false
  | .non, .str _ => some false
  | .str _, .non => some false
  | .int i, .int j => some (decide (i = j))
  | .bl i, .bl j => some (decide (i = j))
  | .str i, .str j => some (decide (i = j))
  | .int _, .str _ => some false
  | .str _, .int _ => some false
  | .bl _, .str _ => some false
  | .str _, .bl _ => some false
  | _, _ => none
def gEqS (neg : Bool) (a b : MV) (m : Mem) : Re MV := match eqS a b with
  | some k => .ok (.bl (if neg then !k else k)) m
  | none => .stuck
theorem eqS_scal {a b : MV} {k : Bool} {x y : V} (h : eqS a b = some k) (rx : RV K β H a x) (ry : RV K β H b y) : scal x y = true ∧ decide (x = y) = k := by
  cases rx <;> cases ry <;> first | (cases h; exact ⟨rfl, by simp⟩) | (cases h)
theorem om_eqS : OpM X rEq (gEqS false) := by
  intro W σ d e m β H x y Q M rx ry p
  unfold gEqS at p
  split at p
  · rename_i k hk
    obtain ⟨h1, h2⟩ := eqS_scal hk rx ry
    exact ⟨h1, by rw [h2]; exact p.ok M (.bl _)⟩
  · exact p.not_stuck
theorem om_neS : OpM X rNe (gEqS true) := by
  intro W σ d e m β H x y Q M rx ry p
  unfold gEqS at p
  split at p
  · rename_i k hk
    obtain ⟨h1, h2⟩ := eqS_scal hk rx ry
    exact ⟨h1, by rw [h2]; exact p.ok M (.bl _)⟩
  · exact p.not_stuck
def gEqA (neg : Bool) (a b : MV) (m : Mem) : Re MV := match eqS a b with
  | some _ => gEqS neg a b m
  | none => gEq neg a b m
abbrev rEqAll (K : PySem.W.Frag) : R2 := fun x y H Q => rEq x y H Q ∨ rEqD K x y H Q
abbrev rNeAll (K : PySem.W.Frag) : R2 := fun x y H Q => rNe x y H Q ∨ rNeD K x y H Q
theorem om_eqA : OpM X (rEqAll X.K) (gEqA false) := om_eqS.or om_eq fun a b m => by
  unfold gEqA
  cases eqS a b with
  | none => exact .inr (.inr rfl)
  | some k => exact .inr (.inl rfl)
theorem om_neA : OpM X (rNeAll X.K) (gEqA true) := om_neS.or om_ne fun a b m => by
  unfold gEqA
  cases eqS a b with
  | none => exact .inr (.inr rfl)
  | some k => exact .inr (.inl rfl)
theorem op_eqA (hu : X.A.units + 64 < cLine) : OpR X (compareOp .Eq) (rEqAll X.K) := OpR.or op_eq (op_eqD hu)
theorem op_neA (hu : X.A.units + 64 < cLine) : OpR X (compareOp .NotEq) (rNeAll X.K) := OpR.or op_ne (op_neD hu)
theorem hu1 {k : Nat} (hr : Room k X.A) : X.A.units + 1 < cLine := hu_of hr
theorem hu64 {k : Nat} (hr : Room k X.A) : X.A.units + 64 < cLine := by have := hr.un; omega
theorem hu65 {k : Nat} (hr : Room k X.A) : X.A.units + 65 < cLine := by have := hr.un; omega
theorem mB_or {g g1 g2 : MV → MV → Mem → Re MV} {fa fb : ME} (h : ∀ a b m, g a b m = g1 a b m ∨ g a b m = g2 a b m) (ρ : Env) (m : Mem) : mB (mBin g fa fb) ρ m = .stuck ∨ mB (mBin g fa fb) ρ m = mB (mBin g1 fa fb) ρ m ∨ mB (mBin g fa fb) ρ m = mB (mBin g2 fa fb) ρ m := by
  unfold mB
  rcases mBin_or (fa := fa) (fb := fb) h ρ m with q | q | q
  · rw [q]; exact .inl rfl
  · rw [q]; exact .inr (.inl rfl)
  · rw [q]; exact .inr (.inr rfl)
theorem jt_of {op : CmpOp} {a b : Expr} {t : TE} {f : ME} (h : PC X op a b t) (hk : behindInMarks op b = false) (i : ∀ σ H (Q : VK), tE X W f σ H Q → t σ H Q) : JT X W (.Compare a [op] [b] pos) (mB f) :=
  ⟨pt_imp (pt_cmp h hk) fun σ H Q ⟨ρ, m, β, hE, hM, p⟩ => i σ H _ ⟨ρ, m, β, hE, hM, by
    unfold mB at p
    exact p.bind fun d m1 x H1 β1 _ e1 M1 V1 p1 => by
      split at p1
      · cases V1; exact ⟨_, rfl, p1.ok M1 rfl⟩
      · exact p1.not_stuck⟩⟩
theorem tdin {neg : Bool} {fa fb : ME} {σ : L2.St} {H : Hp} {Q : VK} (h : tE X W (mBin (gDIn neg) fa fb) σ H Q) : (fun σ H (Q : VK) => tE X W fa σ H fun y H1 => tE X W fb σ H1 fun x H2 => ∃ a o, x = V.ref a ∧ DGet H2 a y o ∧ Q (.bl (if neg then !o.isSome else o.isSome)) H2) σ H Q := by
  obtain ⟨ρ, m, β, hE, hM, p⟩ := h
  exact ⟨ρ, m, β, hE, hM, p.bind fun d m1 x H1 β1 _ e1 M1 V1 p1 => ⟨ρ, m1, β1, hE.ext hM e1, M1, p1.bind fun d2 m2 y H2 β2 _ e2 M2 V2 p2 => by
    unfold gDIn at p2
    split at p2
    · rename_i n l q h1 h2
      obtain ⟨a, vs, rfl, hb, hH, hr⟩ := M2.dct V2 h1
      have hy := keyOf_some (V1.ext M1 e2) h2
      subst hy
      exact ⟨a, valV vs q, rfl, .inl ⟨vs, q, .inl hH, rfl, rfl⟩, p2.ok M2 (by rw [hr.isSome]; exact .bl _)⟩
    · exact p2.not_stuck⟩⟩
theorem jt_nin {a b : Expr} {fa fb : ME} (hu : X.A.units + 1 < cLine) (hu2 : X.A.units + 65 < cLine) (ha : JE X W a fa) (hb : JE X W b fb) (hk : behindInMarks .NotIn b = false := by rfl) : JT X W (.Compare a [.NotIn] [b] pos) (mB (mBin (gInA true) fa fb)) := by
  have j1 : JT X W (.Compare a [.NotIn] [b] pos) (mB (mBin (gInS true) fa fb)) := jt_cmp op_notIn_sign om_ninS ha hb hk
  have j2 : JT X W (.Compare a [.NotIn] [b] pos) (mB (mBin (gDIn true) fa fb)) := jt_of (pc_dnotin hu ha.run hb.run) hk fun σ H Q h => tdin h
  have j3 : JT X W (.Compare a [.NotIn] [b] pos) (mB (mBin (gInF true) fa fb)) := jt_cmp op_notIn_seq om_inF ha hb hk
  have j4 : JT X W (.Compare a [.NotIn] [b] pos) (mB (mBin (gInD true) fa fb)) := jt_cmp (op_notInD hu2) om_ninD ha hb hk
  classical
  have j34 : JT X W (.Compare a [.NotIn] [b] pos) (mB (mBin (fun a b m => if (∃ l, seqOf m b = some l ∧ flat a = true ∧ l.all flat = true) then gInF true a b m else gInD true a b m) fa fb)) := JT.or j3 j4 (mB_or fun a b m => by split <;> simp)
  have j234 : JT X W (.Compare a [.NotIn] [b] pos) (mB (mBin (fun a b m => if (dctOf m b).isSome = true then gDIn true a b m else if (∃ l, seqOf m b = some l ∧ flat a = true ∧ l.all flat = true) then gInF true a b m else gInD true a b m) fa fb)) := JT.or j2 j34 (mB_or fun a b m => by
    by_cases q : (dctOf m b).isSome = true
    · exact .inl (if_pos q)
    · exact .inr (if_neg q))
  exact JT.or j1 j234 (mB_or fun a b m => by
    unfold gInA
    by_cases q : ∃ z, b = .str z
    · exact .inl (if_pos q)
    · exact .inr (if_neg q))
def mStore (fo fi fv : ME) : MS := fun ρ m => onE ρ (fv ρ m) fun v m1 => onE ρ (fo ρ m1) fun d m2 => match dctOf m2 d with
  | some _ => onE ρ (fi ρ m2) fun k m3 => match dctOf m3 d, keyOf k with
    | some (n, l), some q => if l.length < sizeLine then .ok (.nx ρ) (m3.set n (.dct (putM l q v))) else .stuck
    | _, _ => .stuck
  | none => match fi ρ m2 with
    | .ok (.int k) m3 => match mutOf m3 d with
      | some (n, l) => match ixN l.length k with
        | some j => .ok (.nx ρ) (m3.set n (.lst (l.set j v)))
        | none => .stuck
      | none => .stuck
    | _ => .stuck
theorem js_store {o i value : Expr} {pos' : Pos} {fo fi fv : ME} (hu : X.A.units + 1 < cLine) (ho : JE X W o fo) (hi : JE X W i fi) (ho0 : JE X W0 o fo) (hi0 : JE X W0 i fi) (hv : JE X W value fv)
    (hs : swapsWith value (some (.Subscript o i pos')) pos.line X.env = pure false := by rfl) (hs1 : swapsWithSole [.Subscript o i pos'] value pos.line X.env = pure false := by rfl) (hw : swappedStores [.Subscript o i pos'] value X.env = pure none := by rfl)
    (h1 : (assignEach [.Subscript o i pos'] X.env).map (·.2) = [assign (.Subscript o i pos') X.env] := by rfl)
    (ha : ∀ v, assign (.Subscript o i pos') X.env v = (do
      let ov ← holding [v] (eval o X.env)
      let iv ← holding [v, ov] (eval i X.env)
      standAt pos'
      holding [v, ov, iv] (setItem ov iv v)
      release [v, ov, iv] []) := by intro _; rfl) : JS X W (.Assign [.Subscript o i pos'] value pos) (mStore fo fi fv) := by
  have j1 : JS X W (.Assign [.Subscript o i pos'] value pos) (mDPut fo fi fv) := js_dput hu ho hi hv hs
  have j2 : JS X W (.Assign [.Subscript o i pos'] value pos) (mAsg fv (nSubL fo fi)) := js_asg hv (jg_subL ho0 hi0 ha) hs1 hw h1
  refine JS.or j1 j2 fun ρ m => ?_
  unfold mStore mDPut mAsg nSubL
  cases fv ρ m with
  | stuck => exact .inl rfl
  | ex x m1 => exact .inr (.inl rfl)
  | ok v m1 =>
    dsimp only [onE]
    cases fo ρ m1 with
    | stuck => exact .inl rfl
    | ex x m2 => exact .inr (.inl rfl)
    | ok d m2 =>
      dsimp only
      cases hd : dctOf m2 d with
      | some q => exact .inr (.inl rfl)
      | none =>
        dsimp only
        cases fi ρ m2 with
        | stuck => exact .inl rfl
        | ex x m3 => exact .inl rfl
        | ok k m3 =>
          cases k with
          | int k =>
            dsimp only
            cases mutOf m3 d with
            | none => exact .inl rfl
            | some nl =>
              obtain ⟨n, l⟩ := nl
              dsimp only
              cases ixN l.length k with
              | none => exact .inl rfl
              | some j => exact .inr (.inr rfl)
          | _ => exact .inl rfl
def mAug (i : Nat) (g : MV → MV → Mem → Re MV) (f : ME) : MS := fun ρ m => match ρ[i]? with
  | some (some d) => onE ρ (f ρ m) fun e m1 => onE ρ (g d e m1) fun r m2 => .ok (.nx (ρ.set i (some r))) m2
  | _ => .stuck
theorem js_aug (i : Nat) {x : Str} {e : Expr} {f : ME} {op : Operator} {r : R2} {g : MV → MV → Mem → Re MV} {pos' : Pos} (hN : X.N.Nodup) (he : JE X W e f) (ho : PIp X op r) (hm : OpM X r g) (hi : X.N[i]? = some x := by rfl) (hx : Loc X.env.scope x := by first | exact Or.inl rfl | exact Or.inr rfl)
    (hf : X.fn x = true ∨ X.env.scope.names.lookup x = some .local := by first | exact .inl rfl | exact .inr rfl | assumption) : JS X W (.AugAssign (.Name x pos') op e pos) (mAug i g f) :=
  ⟨ps_imp (ps_aug hN hi hx he.run ho hf) fun D σ H q => by
    obtain ⟨ρ, m, β, hE, hM, p⟩ := tS_of q
    unfold mAug at p
    split at p
    · rename_i d hd
      obtain ⟨v, h1, h2⟩ := hE.at_ i d hd
      refine ⟨v, h1, ρ, m, β, hE, hM, PostS.on (D := D) (R := fun β' H' d v => RV X.K β' H' d v) hE hM p fun e1 m1 y H1 β1 _ x1 M1 V1 p1 => ?_⟩
      refine hm W σ d e1 m1 β1 H1 v y _ M1 (h2.ext hM x1) V1 (PostS.on (D := D) (hE.ext hM x1) M1 p1 fun r m2 z H2 β2 _ x2 M2 V2 p2 => ?_)
      exact p2 _ H2 β2 Ext.refl M2 (((hE.ext hM x1).ext M1 x2).set V2)
    · exact p.elim⟩
theorem ip_addI : PIp X .Add (rI0 fun i j => V.int (i + j)) := ip_add
end
end MI
namespace MI
open PySem L2
variable [Nms]
section
variable {X : Cx} {W : WX} {pos : Pos} {K : PySem.W.Frag} {β : List Addr} {H : Hp} {m : Mem}
abbrev gSub := gI0 fun i j => MV.int (i - j)
abbrev gMod := gII (fun _ j => 0 < j) fun i j => MV.int (i % j)
abbrev gDiv := gII CDivW fun i j => MV.int (i / j)
abbrev gPow := gII CPowW fun i j => MV.int (i ^ j.toNat)
abbrev gLt := gI0 fun i j => MV.bl (decide (i < j))
abbrev gGt := gI0 fun i j => MV.bl (decide (j < i))
abbrev gGe := gI0 fun i j => MV.bl (decide (j ≤ i))
/-- -x -/
def mNeg (f : ME) : ME := fun ρ m => (f ρ m).bind fun d m1 => match d with
  | .int i => .ok (.int (-i)) m1
  | _ => .stuck
theorem je_neg {a : Expr} {f : ME} (ha : JE X W a f) : JE X W (.UnaryOp .USub a pos) (mNeg f) :=
  ⟨pe_imp (pe_un un_neg ha.run) fun σ H Q ⟨ρ, m, β, hE, hM, p⟩ => ⟨ρ, m, β, hE, hM, p.bind fun d m1 x H1 β1 _ e1 M1 V1 p1 => by
    split at p1
    · cases V1; exact ⟨_, rfl, p1.ok M1 (.int _)⟩
    · exact p1.not_stuck⟩⟩
/-- a < b < c -/
def mChain (g g' : MV → MV → Mem → Re MV) (fa fb fc : ME) : ME := fun ρ m => (fa ρ m).bind fun a m1 => (fb ρ m1).bind fun b m2 => (g a b m2).bind fun r m3 => match r with
  | .bl true => (fc ρ m3).bind fun c m4 => g' b c m4
  | .bl false => .ok (.bl false) m3
  | _ => .stuck
theorem t_chain {r r' : R2} {g g' : MV → MV → Mem → Re MV} {fa fb fc : ME} (hm : OpM X r g) (hm' : OpM X r' g') {σ : L2.St} {H : Hp} {Q : VK} (h : tE X W (mChain g g' fa fb fc) σ H Q) : tChain r r' (tE X W fa) (tE X W fb) (tE X W fc) σ H Q := by
  obtain ⟨ρ, m, β, hE, hM, p⟩ := h
  refine ⟨ρ, m, β, hE, hM, p.bind fun d m1 x H1 β1 _ e1 M1 V1 p1 => ⟨ρ, m1, β1, hE.ext hM e1, M1, p1.bind fun d2 m2 y H2 β2 _ e2 M2 V2 p2 => hm W σ d d2 m2 β2 H2 x y _ M2 (V1.ext M1 e2) V2 (p2.bind fun d3 m3 z H3 β3 _ e3 M3 V3 p3 => ?_)⟩⟩
  split at p3
  · cases V3
    exact ⟨true, rfl, by rw [if_pos rfl]; exact ⟨ρ, m3, β3, ((hE.ext hM e1).ext M1 e2).ext M2 e3, M3, p3.bind fun d4 m4 u H4 β4 _ e4 M4 V4 p4 => hm' W σ d2 d4 m4 β4 H4 y u Q M4 ((V2.ext M2 e3).ext M3 e4) V4 p4⟩⟩
  · cases V3
    exact ⟨false, rfl, by rw [if_neg Bool.false_ne_true]; exact p3.ok M3 (.bl _)⟩
  · exact p3.not_stuck
theorem je_chain {op op' : CmpOp} {r r' : R2} {g g' : MV → MV → Mem → Re MV} {a b c : Expr} {fa fb fc : ME} (ho : OpR X (compareOp op) r) (ho' : OpR X (compareOp op') r') (hm : OpM X r g) (hm' : OpM X r' g') (ha : JE X W a fa) (hb : JE X W b fb) (hc : JE X W c fc) (hk : lastMarks [op, op'] [b, c] = false := by rfl) :
    JE X W (.Compare a [op, op'] [b, c] pos) (mChain g g' fa fb fc) := ⟨pe_imp (pe_chain ho ho' ha.run hb.run hc.run hk) fun σ H Q h => t_chain hm hm' h⟩
theorem jt_chain {op op' : CmpOp} {r r' : R2} {g g' : MV → MV → Mem → Re MV} {a b c : Expr} {fa fb fc : ME} (ho : OpR X (compareOp op) r) (ho' : OpR X (compareOp op') r') (hm : OpM X r g) (hm' : OpM X r' g') (ha : JE X W a fa) (hb : JE X W b fb) (hc : JE X W c fc) (hk : lastMarks [op, op'] [b, c] = false := by rfl) :
    JT X W (.Compare a [op, op'] [b, c] pos) (mB (mChain g g' fa fb fc)) :=
  ⟨pt_imp (pt_chain ho ho' ha.run hb.run hc.run hk) fun σ H Q ⟨ρ, m, β, hE, hM, p⟩ => t_chain hm hm' ⟨ρ, m, β, hE, hM, by
    unfold mB at p
    exact p.bind fun d m1 x H1 β1 _ e1 M1 V1 p1 => by
      split at p1
      · cases V1; exact ⟨_, rfl, p1.ok M1 rfl⟩
      · exact p1.not_stuck⟩⟩
theorem mNil_len : ∀ ρ m ds m1, mNil ρ m = .ok ds m1 → ds.length = 0 := fun _ _ _ _ h => by cases h; rfl
theorem mCons_len {f : ME} {g : MA} {n : Nat} (h : ∀ ρ m ds m1, g ρ m = .ok ds m1 → ds.length = n) : ∀ ρ m ds m1, mCons f g ρ m = .ok ds m1 → ds.length = n + 1 := fun ρ m ds m1 e => by
  unfold mCons at e
  cases e1 : f ρ m with
  | stuck => rw [e1] at e; cases e
  | ex x m2 => rw [e1] at e; cases e
  | ok d m2 =>
    rw [e1] at e
    have e : ((g ρ m2).bind fun ds m2 => .ok (d :: ds) m2) = .ok ds m1 := e
    cases e2 : g ρ m2 with
    | stuck => rw [e2] at e; cases e
    | ex x m3 => rw [e2] at e; cases e
    | ok es m3 =>
      rw [e2] at e
      cases e
      rw [List.length_cons, h ρ m2 es _ e2]
def mRetN : MS := fun _ m => .ok (.rt .non) m
def gMin : List MV → Mem → Re MV
  | [.int i, .int j], m => .ok (.int (if j < i then j else i)) m
  | [.int i, .int j, .int k], m => .ok (.int (if k < (if j < i then j else i) then k else (if j < i then j else i))) m
  | _, _ => .stuck
abbrev rMinA : List V → Hp → VK → Prop := fun xs H Q => (∃ i j, xs = [V.int i, V.int j] ∧ Q (V.int (if j < i then j else i)) H) ∨ rNuC3 nuMin3 xs H Q
theorem cr_min (hc : X.calm = true) : CallR X (.builtin "min") rMinA := cr_or (call_min2 hc) (call_min3Nu hc)
theorem cm_min : CrM X rMinA gMin := by
  intro W σ ds m β H vs Q M V p
  unfold gMin at p
  split at p
  · cases V with | cons h r => cases r with | cons h2 r => cases r; cases h; cases h2; exact .inl ⟨_, _, rfl, p.ok M (.int _)⟩
  · cases V with
    | cons h r =>
      cases r with
      | cons h2 r =>
        cases r with
        | cons h3 r =>
          cases r; cases h; cases h2; cases h3
          rename_i i j k
          refine .inr ⟨_, _, _, _, rfl, ?_, p.ok M (.int _)⟩
          show (nuMin2 (V.int i) (V.int j)).bind (fun m => nuMin2 m (V.int k)) = _
          have e : ∀ a b : Int, nuMin2 (V.int a) (V.int b) = some (V.int (if b < a then b else a)) := fun a b => by
            show Option.map (fun c => if c = true then V.int b else V.int a) (some (decide (b < a))) = _
            by_cases h : b < a <;> simp [h]
          rw [e]
          show nuMin2 (V.int _) (V.int k) = _
          rw [e]
  · exact p.not_stuck
abbrev gAddI := gI0 fun i j => MV.int (i + j)
theorem om_addI : OpM X (rI0 fun i j => V.int (i + j)) gAddI := om_I0 fun _ _ _ _ _ => .int _
/-- more turns than any while here takes -/
def turns : Nat := 1000000
theorem hgs_name {i : Nat} : ∀ d m as, ngName i d m = some as → ∀ p ∈ as, p.1 ∈ [i] := fun d m as h p hp => by
  unfold ngName at h
  cases h
  simp at hp
  subst hp
  simp
end
end MI
namespace MI
open PySem L2
variable [Nms]
section
variable {X : Cx} {W : WX} {pos : Pos} {K : PySem.W.Frag} {β : List Addr} {H : Hp} {m : Mem}
def tyO : Option MO → Option String
  | some (.lst _) => some "list"
  | some (.frz _) => some "list"
  | some (.dct _) => some "dict"
  | _ => none
def tyM (m : Mem) : MV → Option String
  | .non => some "NoneType"
  | .bl _ => some "bool"
  | .int _ => some "int"
  | .str _ => some "str"
  | .tup _ => some "tuple"
  | .ref n => tyO m[n]?
  | .kl _ => none
  | .clo _ _ => none
theorem RM.ty (R : RM K β H m) {d : MV} {v : V} {t : String} (r : RV K β H d v) (h : tyM m d = some t) : TyX K H v (.type t) := by
  cases r with
  | non => cases h; exact .base .non
  | bl k => cases h; exact .base (.bl k)
  | int i => cases h; exact .base (.int i)
  | str x => cases h; exact .base (.str x)
  | tup h1 h2 =>
    cases h
    rcases h1 with (h1 | ⟨o, h1⟩) | ⟨o, its, n, h1, h2, _⟩
    · exact .base (.tup h1)
    · exact .fTuple h1
    · exact .kTuple h1 h2
  | @ref n a hb =>
    have h' : tyO m[n]? = some t := h
    cases e : m[n]? with
    | none => rw [e] at h'; cases h'
    | some o =>
      rw [e] at h'
      have q := R.ob n o a e hb
      cases o with
      | lst l => cases h'; obtain ⟨vs, q1, q2⟩ := q; exact .base (.lst q1)
      | frz l => cases h'; obtain ⟨vs, ob, q1, q2⟩ := q; exact .base (.frz q1)
      | dct l => cases h'; obtain ⟨vs, q1, q2⟩ := q; exact .base (.dK q1)
      | exn x => cases h'
      | own c l => cases h'
  | kl _ _ => cases h
  | clo _ => cases h
def mIsi (T : String) (f : ME) : ME := fun ρ m => (f ρ m).bind fun d m1 => match (tyM m1 d).bind fun t => kitB t T with
  | some b => .ok (.bl b) m1
  | none => .stuck
theorem je_isi (T : String) {e : Expr} {x : Str} {p q : Pos} {f : ME} (h : JE X W e f) (hm : X.mg "isinstance" = none) (hmt : X.mg x = none) (hv : bootBuiltins x = some (.type T)) (hg : Gl X "isinstance" := by rfl) (hgt : Gl X x := by rfl) (hn : x ≠ "__name__" := by decide) (hd : (x == ("__debug__" : Str)) = false := by decide)
    (he : starEach (e :: [.Name x q]) X.env = (false, eval e X.env) :: starEach [.Name x q] X.env := by rfl) (hpl : (backTo pos (starEach [.Name x q] X.env)).any (·.1) = false := by rfl) : JE X W (.Call (.Name "isinstance" p) [e, .Name x q] [] pos) (mIsi T f) :=
  ⟨pe_imp (pe_callB call_isi hg hm (by decide +kernel) (pa_cons h.run (pa_cons (pe_bltn (v := .ty T) hgt hmt hv rfl hn hd) pa_nil) he) (by decide) (by decide) he hpl) fun σ H Q ⟨ρ, m, β, hE, hM, p⟩ => ⟨ρ, m, β, hE, hM, p.bind fun d m1 x H1 β1 _ e1 M1 V1 p1 => by
    split at p1
    · rename_i b hb
      cases ht : tyM m1 d with
      | none => rw [ht] at hb; cases hb
      | some t =>
        rw [ht] at hb
        exact ⟨x, _, _, _, b, rfl, .ty T, M1.ty V1 ht, kit_ty hb, p1.ok M1 (.bl _)⟩
    · exact p1.not_stuck⟩⟩
end
end MI
namespace MI
open PySem L2
variable [Nms]
/-- what a class of the text must say, to be raised with a text -/
structure ExF (K : PySem.W.Frag) (mg : Str → Option Value) (x : Str) : Prop where
  ex : ∃ C : Addr, ClsN K x C ∧ mg x = some (.ref C) ∧ PySem.W.excIn K C [.type "ValueError", .type "Exception", .type "BaseException", .type "object"] "ValueError.__new__" = true ∧ PySem.W.keepIn K (.ref C) = true ∧
    PySem.W.subIn K (.ref C) (.type "BaseException") = some true ∧ PySem.W.typeIn K (.ref C) = some (.type "type")
structure Mode where
  CX : Program → World → CXT
  Tk : Cx → WX → Prop
  tk0 : ∀ {X : Cx}, Tk X fun _ _ _ _ => False
  pass : ∀ {X : Cx} {W : WX}, Tk X W → ∀ σ, PassesAt (CX X.prog X.w) X σ (WE W σ)
  raise : ∀ {X : Cx} {W : WX} {x m : Str} {j : Nat} {p p2 pos pos' : Pos} {C : Addr}, X.calm = true → Tk X W → PySem.W.excIn X.K C [.type "ValueError", .type "Exception", .type "BaseException", .type "object"] "ValueError.__new__" = true → X.mg x = some (.ref C) → PySem.W.keepIn X.K (.ref C) = true → Raises X (.ref C) → Gl X x → (x == ("__debug__" : Str)) = false →
    PS X (.Raise (some (.Call (.Name x p) [.Constant (.str m) j p2] [] pos)) none pos') (fun _ σ H => W (.ref C) none σ H)
  no : ∀ {P : Program} {w : World} {st : List PySem.Env} {H : Hp} {s : Shared} {e : Value} {s' : Shared}, CX P w st H s (fun _ _ _ => False) e s' → False
  of : ∀ {X : Cx} {E : XK} {E₁ : Value → Shared → Prop}, X.stack = X.env :: X.outer → X.env.frame = some X.env.locals → X.ex = [] →
    (X.xe = fun e s' => wpAny (model X.prog X.w) X.A (leaving X.env e) (fun _ s'' => CX X.prog X.w X.outer X.H_0 X.s_0 E e s'') E₁ s') → Tk X (fun cls d _ H => E cls d H)
def M2 : Mode where
  CX := L2.CX
  Tk := L2.Takes
  tk0 := takes0
  pass := fun tk σ => L2.passAt tk σ
  raise := fun hc tk q gC kC r hg hd => L2.ps_raise hc tk (L2.pmk_own PySem.F.excBase_ValueError q gC kC r hg hd)
  no := fun ⟨_, _, _, _, _, _, _, _, _, _, _, _, z⟩ => z
  of := fun hs hf hex hx => L2.takes_of hs hf hex hx
def MN : Mode where
  CX := L2N.CX
  Tk := L2N.Takes
  tk0 := fun u s' ⟨_, _, _, _, _, _, _, _, _, _, _, _, _, _, _, _, h⟩ => h.elim
  pass := fun tk σ => L2N.passAt tk σ
  raise := fun hc tk q gC kC r hg hd => L2N.ps_raise hc tk (L2N.pmk_own PySem.F.excBase_ValueError q gC kC r hg hd)
  no := fun ⟨_, _, _, _, _, _, _, _, _, _, _, _, z⟩ => z
  of := fun hs hf hex hx => L2N.takes_of hs hf hex hx
/-- a global def that does F, at level k, with n parameters -/
structure FnX (M : Mode) (P : Program) (w : World) (K : PySem.W.Frag) (mg : Str → Option Value) (base : Heap) (k : Nat) (x : Str) (n : Nat) (F : MF) : Prop where
  ex : ∃ (f : Addr) (fd : FuncData) (ps : List Str), FnOk P w K mg base (M.CX P w) k f fd ps (spM K n F) ∧ mg x = some (.ref f) ∧ PySem.W.keepIn K (.ref f) = true ∧ Binds K fd ps []
section
variable {M : Mode} {X : Cx} {W : WX} {pos : Pos} {K : PySem.W.Frag} {β : List Addr} {H : Hp} {m : Mem}
def mRaise (x : Str) : MS := fun ρ m => .ok (.ex ⟨x⟩ ρ) m
theorem jx_raise {x msg : Str} {j : Nat} {p p2 pos pos' : Pos} (T : ExF X.K X.mg x) (hc : X.calm = true) (tk : M.Tk X W) (hg : Gl X x := by rfl) (hd : (x == ("__debug__" : Str)) = false := by decide) : JS X W (.Raise (some (.Call (.Name x p) [.Constant (.str msg) j p2] [] pos)) none pos') (mRaise x) := by
  obtain ⟨C, h1, h2, h3, h4, h5, h6⟩ := T.ex
  exact ⟨ps_imp (M.raise hc tk h3 h2 h4 (raises_own h5 h6) hg hd) fun D σ H ⟨ρ, m, β, hE, hM, p⟩ => p _ _ σ H β Ext.refl hM hE ⟨C, rfl, h1, rfl⟩⟩
theorem jx_call {k j n : Nat} {x : Str} {F : MF} {e : Expr} {es : List Expr} {g : MA} {p pos : Pos} (Fk : FnX M X.prog X.w X.K X.mg X.base k x n F) (hr : Room j X.A) (hk : k ≤ j) (tk : M.Tk X W) (ha : JA X W (e :: es) g)
    (hg : Gl X x := by rfl) (hdb : (x == ("__debug__" : Str)) = false := by decide) (he : starEach (e :: es) X.env = (false, eval e X.env) :: starEach es X.env := by rfl) (hpl : (backTo pos (starEach es X.env)).any (·.1) = false := by rfl)
    (hlen : ∀ ρ m ds m1, g ρ m = .ok ds m1 → ds.length = n) : JE X W (.Call (.Name x p) (e :: es) [] pos) (mCall F g) := by
  obtain ⟨f, fd, ps, h1, h2, h3, h4⟩ := Fk.ex
  refine ⟨pe_imp (pe_callS h1 (hr.mono hk) hg h2 h3 h4 (fun σ => M.pass tk σ) ha.run hdb he hpl) fun σ H Q ⟨ρ, m, β, hE, hM, p⟩ => ⟨ρ, m, β, hE, hM, ?_⟩⟩
  refine p.bind fun ds m1 vs H1 β1 e0 e1 M1 V1 p1 => ⟨by rw [← V1.length]; exact hlen ρ m ds m1 e0, ds, m1, β1, V1, M1, ?_⟩
  revert p1
  generalize F ds m1 = r
  intro p1
  cases r with
  | ok d m2 => exact p1
  | ex x m2 => exact p1
  | stuck => exact p1
end
section
variable {M : Mode} {P : Program} {w : World} {K : PySem.W.Frag} {mg : Str → Option Value} {base : Heap}
theorem fnx_ok {x qual : Str} {st : Stmt} {f : Addr} {fd : FuncData} {N ps : List Str} {k n : Nat} {g : MS} {F : MF} (Fu : Fun K x qual st f fd) (S : FnScope N ps (defScope st)) (hn : ps.length = n)
    (hF : ∀ ds m, ds.length = n → F ds m = endOf (g (startM N.length ds) m))
    (hb : ∀ (cdv : Value) (A : Around) (outer : List PySem.Env) (s : Shared) (H : Hp) (E : XK), Room k (A.deeper (PyProof.Rows.envOfC qual (defScope st) s.heap.objs.size f cdv)) →
      ∀ W, M.Tk (cxOf (M.CX P w) P w K mg base N qual (defScope st) f cdv A outer s H E) W → PassesOwn (model P w) (cxOf (M.CX P w) P w K mg base N qual (defScope st) f cdv A outer s H E).A (cxOf (M.CX P w) P w K mg base N qual (defScope st) f cdv A outer s H E).env (cxOf (M.CX P w) P w K mg base N qual (defScope st) f cdv A outer s H E).xe →
        JB (cxOf (M.CX P w) P w K mg base N qual (defScope st) f cdv A outer s H E) W (defBody st) g) :
    FnOk P w K mg base (M.CX P w) (k + 1) f fd ps (spM K n F) := by
  obtain ⟨oc, od, kV, doc, pm, an, cdv, ct, osl, rfl, lk, hcd⟩ := Fu.ex
  refine fn_of lk hcd S (fun vs H Q E h => by rw [hn]; exact h.1) fun A outer s H vs Q E hr hsp => ?_
  obtain ⟨hl, ds, m, β, V, Mm, p⟩ := hsp
  have tk : M.Tk (cxOf (M.CX P w) P w K mg base N qual (defScope st) f cdv A outer s H E) (fun cls d _ H' => E cls d H') := M.of rfl rfl rfl rfl
  refine ⟨_, (hb cdv A outer s H E hr _ tk (passes_of rfl)).run, ?_⟩
  refine ⟨startM N.length ds, m, β, RE.start V, Mm, ?_⟩
  rw [hF ds m (by rw [V.length]; exact hl)] at p
  revert p
  generalize g (startM N.length ds) m = r
  intro p
  cases r with
  | ok a m' =>
    cases a with
    | nx ρ => exact fun σ' H' β' e M' _ => p .non H' β' e M' .non
    | bk ρ => exact p.elim
    | ct ρ => exact p.elim
    | rt d => exact fun v H' β' e M' V' => p v H' β' e M' V'
    | ex x ρ => exact fun c d σ' H' β' e M' _ z => p c d H' β' e M' z
  | ex x m' => exact p.elim
  | stuck => exact p
/-- level 0: nothing is promised -/
theorem fnx_0 {x : Str} {n : Nat} {f : Addr} {fd : FuncData} {ps : List Str} (hn : ps.length = n) (h2 : mg x = some (.ref f)) (h3 : PySem.W.keepIn K (.ref f) = true) (h4 : Binds K fd ps []) : FnX M P w K mg base 0 x n (fun _ _ => .stuck) :=
  ⟨f, fd, ps, ⟨fun vs H Q E h => by rw [hn]; exact h.1, fun A outer s H args us vs Q E _ _ _ _ h => by obtain ⟨_, _, _, _, _, _, q⟩ := h; exact q.elim⟩, h2, h3, h4⟩
end
section
variable {X : Cx} {W : WX} {pos : Pos} {K : PySem.W.Frag} {β : List Addr} {H : Hp} {m : Mem}
/-- which classes a clause takes -/
def Exm (K : PySem.W.Frag) (c : Value) (P : Str → Option Bool) : Prop := ∀ (y : Str) (C : Addr) (b : Bool), ClsN K y C → P y = some b → PySem.W.exmOne K (.ref C) c = some b
end
end MI
namespace MI
open PySem L2
variable [Nms]
section
variable {X : Cx} {pins : List (Addr × Obj)} {σ : L2.St} {H : Hp} {s : Shared}
/-- an object that was made behind the entry is known from now on -/
theorem track {a : Addr} {oe : Obj} {vs : Array Value} {o : HO} (I : L2.Inv X pins σ H s) (he : s.heap.get? a = some oe) (hd : oe.data = .fields vs) (n : H a = none) (h0 : X.s_0.heap.get? a = none) (nL : a ≠ X.env.locals)
    (np : ∀ p ∈ X.pn ++ pins, p.1 ≠ a) (ok : ObjOk X.prog X.w (upd H a o) s.heap a o) : L2.Inv X pins σ (upd H a o) s where
  ok := I.ok
  os := I.os
  bare := I.bare
  base :=
    { keep := I.base.keep
      slot := I.base.slot
      free := fun b u q z hx => by
        have hb : b ≠ a := fun e => by rw [e, h0] at q; cases q
        rw [upd_ne hb]
        exact I.base.free b u q z hx
      there := I.base.there
      tups := fun b xs q => by
        have q1 := I.base.tups b xs q
        rw [upd_ne (ne_of_none q1 n)]
        exact q1
      frzs := fun b u xs q => by
        have q1 := I.base.frzs b u xs q
        rw [upd_ne (ne_of_none q1 n)]
        exact q1
      tbls := fun b ps q => by
        obtain ⟨more, q1⟩ := I.base.tbls b ps q
        exact ⟨more, by rw [upd_ne (ne_of_none q1 n)]; exact q1⟩ }
  loc := I.loc
  cell := I.cell
  free := by rw [upd_ne (Ne.symm nL)]; exact I.free
  freeC := fun x c e => by
    have hc : c ≠ a := fun z => by
      obtain ⟨v, ob, q1, q2⟩ := I.cell x c e
      rw [z, he] at q1
      cases q1
      rw [hd] at q2
      cases q2
    rw [upd_ne hc]
    exact I.freeC x c e
  pin := fun p hp => by
    obtain ⟨q1, q2, q3⟩ := I.pin p hp
    exact ⟨q1, by rw [upd_ne (np p hp)]; exact q2, q3⟩
  hok := fun b u q => by
    by_cases hb : b = a
    · subst hb
      rw [upd_same] at q
      cases q
      exact ok
    · rw [upd_ne hb] at q
      exact (I.hok b u q).stay (fun _ _ _ z => z) (fun c z => by rw [upd_ne (ne_of_none z n)]; exact z) fun c xs z => by rw [upd_ne (ne_of_none z n)]; exact z
  len := I.len
end
section
variable {X : Cx} {x n y : Str} {c : Value} {i j : Nat} {body : List Stmt} {np py pn' spos pos pos' : Pos} {tb : WX → TS} {Wout : WX}
/-- what is wanted of an exception in the body: it is taken, and then both names have it, the clause's own goes again; or it goes on -/
def wKeep (K : PySem.W.Frag) (c : Value) (i j : Nat) (Wout : WX) (D : Ends) : WX := fun cls d σ H =>
  ∃ b, PySem.W.exmOne K cls c = some b ∧ (b = true → d = none ∧ ∀ a, H a = none → D.nx (((σ.set i (some (.ref a))).set j (some (.ref a))).set i none) (upd H a (ExH cls a))) ∧ (b = false → Wout cls d σ H)
abbrev keepH (x n y : Str) (np py pn' spos pos' : Pos) : ExceptHandler := .ExceptHandler (some (.Name x np)) (some n) [.Assign [.Name y py] (.Name n pn') spos] pos'
theorem ps_try_keep (hs : X.stack = X.env :: X.outer) (hf : X.env.frame = some X.env.locals) (hex : X.ex = []) (hN : X.N.Nodup) (hi : X.N[i]? = some n) (hln : X.env.kindOf n = some .local) (hj : X.N[j]? = some y) (hly : X.env.kindOf y = some .local) (hc : Names X x c) (tk : Takes X Wout)
    (hd1 : (n == ("__debug__" : Str)) = false) (hd2 : (n == ("__classdict__" : Str)) = false)
    (hb : ∀ (W : WX) (pn : List (Addr × Obj)) (xe : Value → Shared → Prop), Takes (X.tr pn xe) W → PassesOwn (model X.prog X.w) X.A X.env xe → PSs (X.tr pn xe) body (tb W)) :
    PS X (.Try body [keepH x n y np py pn' spos pos'] [] [] pos) (fun D σ H => tb (wKeep X.K c i j Wout D) D σ H) := by
  constructor
  intro pins s σ H D I h
  have ok := I.ok
  have fr : X.A.frames = some (X.env :: X.outer) := ok.frames.trans (congrArg some hs)
  apply wpAny_Try_except
  let M := model X.prog X.w
  let Eb : Value → Shared → Prop := fun e s₁ => wpAny M X.A (noteFrame e X.env) (fun _ s₂ => wpAny M X.A (setFlight e none) (fun _ s₃ => wpAny M X.A (handleBy e X.env [keepH x n y np py pn' spos pos']) (SP X pins D) X.xe s₃) X.xe s₂) X.xe s₁
  have catch_ : Takes (X.tr (X.pn ++ pins) Eb) (wKeep X.K c i j Wout D) := by
    rintro u s' ⟨a, B, sI, ps', σ', H', cls, d, rfl, J', nb, up, sky, na, os, ag, b, hb1, yes, no⟩
    have J : L2.Inv X pins σ' H' sI := J'.ofTry ok
    have sky2 : Sky B (X.env :: X.outer) a (Zc cls d) X.env.locals s'.heap := hs ▸ sky
    refine Sky.land Zc.steady fr hf sky2 ?_
    intro h3 fl3 up3
    obtain ⟨oe3, vs3, he3, hz3, hd3⟩ := fl3.there
    -- the object is no frame's
    have apart : ∀ {h : Heap} {o : Obj} {vs : Array Value}, h.FunFrames B (X.env :: X.outer) → h.get? a = some o → o.data = .fields vs → a ∉ frs (X.env :: X.outer) := by
      intro h o vs ff e dd hm
      obtain ⟨_, o', e', far⟩ := ff.mem hm
      rw [e] at e'
      cases e'
      exact far _ dd
    have nfr := apart fl3.2.2.1 he3 hd3
    have nL : a ≠ X.env.locals := by
      intro z
      exact nfr (List.mem_filterMap.mpr ⟨X.env, List.mem_cons_self, hf.trans (by rw [z])⟩)
    have nF : a ∉ X.fs := by
      intro hm
      obtain ⟨e, he, q⟩ := List.mem_filterMap.mp hm
      exact nfr (List.mem_filterMap.mpr ⟨e, List.mem_cons_of_mem _ he, q⟩)
    -- it is new
    have newI : sI.heap.get? a = none := by
      cases q : sI.heap.get? a with
      | none => rfl
      | some o =>
        have := nb a o q (by rw [hs]; exact nfr)
        rw [fl3.2.1] at this
        cases this
    have new0 : X.s_0.heap.get? a = none := by
      cases q : X.s_0.heap.get? a with
      | none => rfl
      | some o =>
        obtain ⟨o', q'⟩ := J.base.there a o q (by rw [hex]; exact List.not_mem_nil)
        rw [newI] at q'
        cases q'
    have newp : ∀ p ∈ X.pn ++ pins, p.1 ≠ a := by
      intro p hp z
      have := (J.pin p hp).1
      rw [z, newI] at this
      cases this
    have J3 : L2.Inv X pins σ' H' { s' with heap := h3 } := J.landed nb fl3.1 (up.trans up3) os ag
    have S3 := J3.suite he3 hd3 na nL nF
    apply wpAny_handleBy_cons (codeAny_handlers_test ?_) (by intro q; cases q)
    have ty : PySem.W.Looks M h3 (typeOf (.ref a)) cls := fun A Q E s k q => wpAny_typeOf_ref (k _ _ he3) (by rw [hz3.1]; exact q)
    have asks := PySem.W.exm_one (M := M) J3.kIn ty hb1
    have clause : ∀ {Q : Value → Shared → Prop} {E : Value → Shared → Prop}, Q c { s' with heap := h3 } → wpAny M (X.A.mark (some (.ref a))) (eval (.Name x np) X.env) Q E { s' with heap := h3 } := by
      intro Q E q
      obtain ⟨hg, hdbg, hm | ⟨hm, hv, hnn⟩⟩ := hc
      · exact ld_glob (X := X.suite a ((a, oe3) :: (X.pn ++ pins))) S3 hg hm q hdbg
      · exact ld_blt (X := X.suite a ((a, oe3) :: (X.pn ++ pins))) S3 hg hm hv q hnn hdbg
    apply clause
    apply asks.here
    cases b with
    | true =>
      obtain ⟨ed, goes⟩ := yes rfl
      subst ed
      apply codeAny_handlers_suite_as
      apply HandSPX.lands_againZ fl3
      intro h4 fl4 up4
      have J4 : L2.Inv X pins σ' H' { s' with heap := h4 } := J.landed nb fl4.1 ((up.trans up3).trans up4) os ag
      obtain ⟨oe4, vs4, he4, hz4, hd4⟩ := fl4.there
      have S4 := J4.suite he4 hd4 na nL nF
      refine store_ok (X := X.suite a ((a, oe4) :: (X.pn ++ pins))) (v := .ref a) S4 hN hi (.inl hln) rfl ?_ (.inr hln)
      intro s5 S5
      have il : i < σ'.length := by rw [J.len]; exact (List.getElem?_eq_some_iff.mp hi).1
      have one : PSs (X.suite a ((a, oe4) :: (X.pn ++ pins))) [.Assign [.Name y py] (.Name n pn') spos] (tAsg (tVar i) (gName j)) :=
        pss_one (ps_set hN hj (.inl hly) (pe_var hi (.inl hln) hd1 hd2) (by rfl) (.inr hly))
      refine wpAny_mono (one.run [] s5 (σ'.set i (some (.ref a))) H' { nx := fun σ6 H6 => σ6 = (σ'.set i (some (.ref a))).set j (some (.ref a)) ∧ H6 = H', rt := fun _ _ => False } S5 ⟨.ref a, List.getElem?_set_self il, rfl, rfl⟩) ?_ (fun _ _ z => z.elim)
      intro f s6 q6
      cases f with
      | next =>
        obtain ⟨σ6, H6, S6, rfl, rfl⟩ := q6
        obtain ⟨p1, p2, p3, p4, _⟩ := S6.pin (a, oe4) (List.mem_append_left _ List.mem_cons_self)
        have J6 : L2.Inv X pins ((σ'.set i (some (.ref a))).set j (some (.ref a))) H6 s6 := S6.unsuite ok
        have known : ObjOk X.prog X.w (upd H6 a (ExH cls a)) s6.heap a (ExH cls a) :=
          ⟨⟨oe4, vs4, p1, hz4.1, hz4.2, hd4⟩, ⟨oe4, p1⟩, fun _ _ ⟨o, v, q1, q2⟩ st => ⟨o, v, st o q1, q2⟩⟩
        have J7 := track J6 p1 hd4 na new0 nL newp known
        exact gone_ok J7 hN hi hln fun s7 J8 => ⟨_, _, J8, goes a na⟩
      | ret u => obtain ⟨v, σ6, H6, _, _, q⟩ := q6; exact q.elim
      | brk => obtain ⟨σ6, H6, _, q⟩ := q6; exact q.elim
      | cont => obtain ⟨σ6, H6, _, q⟩ := q6; exact q.elim
    | false =>
      show wpAny _ X.A (handleBy (.ref a) X.env []) _ _ _
      apply wpAny_handleBy_nil
      obtain ⟨k1, k2, k3, oe, vs, T, oT, ts', he, hz, hd, h1, hr⟩ := id fl3
      unfold PySem.passOn
      apply wpAny_bind
      apply wpAny_field he hd h1
      rw [if_neg (show ¬ ((Value.ref T == Value.none) = true) from by simp)]
      have fin : wpAny M X.A (setFlight (.ref a) X.env.frame) (fun _ s4 => wpAny M X.A (throw (.ref a) : Sem Flow) (SP X pins D) X.xe s4) X.xe { s' with heap := h3 } := by
        rw [hf]
        apply HandSPX.setFlight_upZ fl3
        intro h4 hh4 up4
        apply wpAny_throw
        apply tk
        exact ⟨a, B, sI, pins, σ', H', cls, d, rfl, J, nb, (up.trans up3).trans up4, .inr (.inr (by rw [hs]; exact hh4)), na, os, ag, no rfl⟩
      first
        | exact wpAny_bind (wpAny_pure (wpAny_bind fin))
        | exact wpAny_bind fin
  refine wpAny_mono ((hb _ (X.pn ++ pins) Eb catch_ PassesOwn.looking).run [] s σ H D (I.toTry _) h) ?_ (fun e s1 he => he)
  intro f s1 q1
  cases f with
  | next =>
    obtain ⟨σ1, H1, J1, q⟩ := q1
    exact wpAny_execs_nil ⟨σ1, H1, J1.ofTry ok, q⟩
  | ret u =>
    obtain ⟨v, σ1, H1, J1, r, q⟩ := q1
    exact ⟨v, σ1, H1, J1.ofTry ok, r, q⟩
  | brk =>
    obtain ⟨σ1, H1, J1, q⟩ := q1
    exact ⟨σ1, H1, J1.ofTry ok, q⟩
  | cont =>
    obtain ⟨σ1, H1, J1, q⟩ := q1
    exact ⟨σ1, H1, J1.ofTry ok, q⟩
end
end MI
namespace MI
open PySem L2
variable [Nms]
section
variable {X : Cx} {W : WX} {pos : Pos} {K : PySem.W.Frag} {β : List Addr} {H : Hp} {m : Mem}
theorem RE.setN {ρ : Env} {σ : L2.St} {i : Nat} (r : RE K β H ρ σ) : RE K β H (ρ.set i none) (σ.set i none) := by
  refine ⟨by simp [r.len], fun j e q => ?_⟩
  by_cases hj : i = j
  · subst hj
    rw [List.getElem?_set_self'] at q
    cases z : ρ[i]? with
    | none => rw [z] at q; cases q
    | some w => rw [z] at q; cases q
  · rw [List.getElem?_set_ne hj] at q ⊢
    exact r.at_ j e q
def mTryK (P : Str → Option Bool) (i j : Nat) (f : MS) : MS := fun ρ m => match f ρ m with
  | .ok (.ex x ρ') m' => match P x.cls with
    | some true => .ok (.nx (((ρ'.set i (some (.ref m'.length))).set j (some (.ref m'.length))).set i none)) (m' ++ [.exn x])
    | some false => .ok (.ex x ρ') m'
    | none => .stuck
  | r => r
theorem jx_tryK (i j : Nat) {x n y : Str} {c : Value} {body : List Stmt} {np py pn' spos pos' : Pos} {f : MS} {P : Str → Option Bool} (hs : X.stack = X.env :: X.outer) (hf : X.env.frame = some X.env.locals) (hex : X.ex = []) (hN : X.N.Nodup) (hc : Names X x c) (he : Exm X.K c P) (tk : Takes X W)
    (hb : ∀ (W' : WX) (pn : List (Addr × Obj)) (xe : Value → Shared → Prop), Takes (X.tr pn xe) W' → PassesOwn (model X.prog X.w) X.A X.env xe → JB (X.tr pn xe) W' body f)
    (hi : X.N[i]? = some n := by rfl) (hln : X.env.kindOf n = some .local := by rfl) (hj : X.N[j]? = some y := by rfl) (hly : X.env.kindOf y = some .local := by rfl)
    (hd1 : (n == ("__debug__" : Str)) = false := by decide) (hd2 : (n == ("__classdict__" : Str)) = false := by decide) :
    JS X W (.Try body [.ExceptHandler (some (.Name x np)) (some n) [.Assign [.Name y py] (.Name n pn') spos] pos'] [] [] pos) (mTryK P i j f) := by
  refine ⟨ps_imp (ps_try_keep (tb := fun W' => tS X W' f) hs hf hex hN hi hln hj hly hc tk hd1 hd2 (fun W' pn xe t h => (hb W' pn xe t h).run)) fun D σ H q => ?_⟩
  obtain ⟨ρ, m, β, hE, hM, p⟩ := tS_of q
  refine ⟨ρ, m, β, hE, hM, ?_⟩
  unfold mTryK at p
  cases hf' : f ρ m with
  | stuck => rw [hf'] at p; exact p
  | ex x m' => rw [hf'] at p; exact p
  | ok a m' =>
    rw [hf'] at p
    cases a with
    | nx ρ' => exact p
    | bk ρ' => exact p
    | ct ρ' => exact p
    | rt d => exact p
    | ex x ρ' =>
      intro cls dd σ' H' β' e M E hx
      obtain ⟨C, rfl, hC, rfl⟩ := hx
      dsimp only at p
      cases hP : P x.cls with
      | none => rw [hP] at p; exact p.elim
      | some b =>
        refine ⟨b, he _ C b hC hP, fun hb1 => ⟨rfl, fun a ha => ?_⟩, fun hb0 => ?_⟩
        · subst hb1
          rw [hP] at p
          have V : RV X.K (β' ++ [a]) (upd H' a (ExH (.ref C) a)) (.ref m'.length) (.ref a) := .ref (by rw [← M.len]; simp)
          exact p _ _ _ (e.trans (Ext.push ha)) (M.push ha ⟨C, hC, upd_same⟩) ((((E.ext M (Ext.push ha)).set V).set V).setN)
        · subst hb0
          rw [hP] at p
          exact p _ none σ' H' β' e M E ⟨C, rfl, hC, rfl⟩
def mTryF (P : Str → Option Bool) (y : Str) (f : MS) : MS := fun ρ m => match f ρ m with
  | .ok (.ex x ρ') m' => match P x.cls with
    | some true => .ok (.ex ⟨y⟩ ρ') m'
    | some false => .ok (.ex x ρ') m'
    | none => .stuck
  | r => r
def rIsX (K : PySem.W.Frag) : List V → Hp → VK → Prop := fun xs H Q => ∃ (a D : Addr) (c : V) (cv : Value) (b : Bool), xs = [.ref a, c] ∧ H a = some (ExH (.ref D) a) ∧ ExcC K D ∧ (∀ u, RelV c u → u = cv) ∧ PySem.W.kitOne K (.ref D) cv = some b ∧ Q (.bl b) H
theorem call_isx : CallR X (.builtin "isinstance") (rIsX X.K) := by
  intro pins s σ H xs us Q I r h
  obtain ⟨a, D, c, cv, b, rfl, hH, C, hcv, e, q⟩ := h
  cases r with
  | cons rx rr =>
    cases rr with
    | cons rt rr =>
      cases rr
      cases rx
      obtain rfl := hcv _ rt
      obtain ⟨⟨oe, vs, g1, g2, g3, g4⟩, _, _⟩ := I.hok a _ hH
      have J : PySem.W.InstAt s.heap a oe D none := by
        cases oe
        dsimp only at g2 g3 g4
        subst g2 g3 g4
        exact ⟨g1, rfl, rfl, trivial⟩
      exact PySem.W.kia_one (PySem.W.handS_kitx_exc C.hg C.hk C.hs C.hd C.ha C.hn C.ht C.hm) I.kIn J e (fun z => nomatch z) fun tk => ⟨.bl b, H, I.kept (t' := tk) fun _ _ z => z, rfl, q⟩
/-- what a class says of the exceptions' classes -/
structure Isx (K : PySem.W.Frag) (cv : Value) (P : Str → Option Bool) : Prop where
  one : ∀ (y : Str) (D : Addr) (b : Bool), ClsN K y D → P y = some b → ExcC K D ∧ PySem.W.kitOne K (.ref D) cv = some b
  non : PySem.W.kitOne K (.type "NoneType") cv = some false
def exnOf (m : Mem) : MV → Option Exn
  | .ref n => match m[n]? with
    | some (.exn x) => some x
    | _ => none
  | _ => none
def isxV (P : Str → Option Bool) (m : Mem) : MV → Option Bool
  | .non => some false
  | d => (exnOf m d).bind fun x => P x.cls
def mIsx (P : Str → Option Bool) (f : ME) : ME := fun ρ m => (f ρ m).bind fun d m1 => match isxV P m1 d with
  | some b => .ok (.bl b) m1
  | none => .stuck
theorem je_isx {e ce : Expr} {p : Pos} {f : ME} {c : V} {cv : Value} {P : Str → Option Bool} (h : JE X W e f) (hcv : ∀ u, RelV c u → u = cv) (hcl : ClsV c cv) (hce : PE X ce (tC c)) (T : Isx X.K cv P) (hm : X.mg "isinstance" = none) (hg : Gl X "isinstance" := by rfl)
    (he : starEach (e :: [ce]) X.env = (false, eval e X.env) :: starEach [ce] X.env := by rfl) (he2 : starEach (ce :: []) X.env = (false, eval ce X.env) :: starEach [] X.env := by rfl) (hpl : (backTo pos (starEach [ce] X.env)).any (·.1) = false := by rfl) : JE X W (.Call (.Name "isinstance" p) [e, ce] [] pos) (mIsx P f) :=
  ⟨pe_imp (pe_callB (cr_or call_isi call_isx) hg hm (by decide +kernel) (pa_cons h.run (pa_cons hce pa_nil he2) he) (by decide) (by decide) he hpl) fun σ H Q ⟨ρ, m, β, hE, hM, p⟩ => ⟨ρ, m, β, hE, hM, p.bind fun d m1 x H1 β1 _ e1 M1 V1 p1 => by
    show rIsi X.K [x, c] H1 Q ∨ rIsX X.K [x, c] H1 Q
    split at p1
    · rename_i b hb
      unfold isxV at hb
      split at hb
      · cases hb
        cases V1
        exact .inl ⟨_, _, _, _, false, rfl, hcl, .base .non, T.non, p1.ok M1 (.bl _)⟩
      · cases hx : exnOf m1 d with
        | none => rw [hx] at hb; cases hb
        | some y =>
          rw [hx] at hb
          unfold exnOf at hx
          split at hx
          · split at hx
            · rename_i x' hm1
              cases hx
              cases V1 with
              | ref hbn =>
                obtain ⟨C, hC, hH⟩ := M1.ob _ _ _ hm1 hbn
                obtain ⟨t1, t2⟩ := T.one _ C b hC hb
                exact .inr ⟨_, C, c, cv, b, rfl, hH, t1, hcv, t2, p1.ok M1 (.bl _)⟩
            · cases hx
          · cases hx
    · exact p1.not_stuck⟩⟩
end
end MI
namespace PySem
open Sem (wp)
end PySem
namespace MI
open PySem L2
variable [Nms]
section
variable {X : Cx} {W : WX} {pos : Pos} {K : PySem.W.Frag} {β : List Addr} {H : Hp} {m : Mem}
/-- the items with their numbers -/
def numd (l : List MV) : List MV := (List.range l.length).zipWith (fun (i : Nat) x => .tup [.int i, x]) l
def enumOf : List MV → Mem → Re IterM
  | [.tup l], m => .ok ⟨numd l, fun _ => True⟩ m
  | [.ref n], m => match lstOf m (.ref n) with
    | some l => .ok ⟨numd l, fun m' => lstOf m' (.ref n) = some l⟩ m
    | none => .stuck
  | _, _ => .stuck
def mEnum (g : MA) : MI' := fun ρ m => (g ρ m).bind enumOf
@[simp] theorem zw_len {l : List MV} : (numd l).length = l.length := by simp [numd]
end
end MI
namespace PySem
open Sem (wp)
structure ZSet (z TI TO i1 i2 l1 l2 S N : Addr) : Prop where
  D : ZipApart z TI TO i1 i2 l1 l2
  Sz : S ≠ z
  SI : S ≠ TI
  SO : S ≠ TO
  S1 : S ≠ i1
  S2 : S ≠ i2
  Sl1 : S ≠ l1
  Sl2 : S ≠ l2
  Lz : z < N
  LI : TI < N
  LO : TO < N
  L1 : i1 < N
  L2 : i2 < N
  LS : S < N
structure ZFin (h0 : Heap) (S N : Addr) (xs ys acc : Array Value) (h : Heap) : Prop where
  keep : ∀ b o, h0.get? b = some o → h.get? b = some o
  lst : ∃ c, h.get? S = some { cls := .type "list", dict := none, data := .seq acc c, slots := #[] }
  items : ∀ (j : Nat) (v : Value), acc[j]? = some v → ∃ T x y, v = .ref T ∧ N ≤ T ∧ IsPair h T x y ∧ xs[j]? = some x ∧ ys[j]? = some y
  above : h0.objs.size ≤ N
  inc : ∀ (j k T U : Nat), acc[j]? = some (.ref T) → acc[k]? = some (.ref U) → j < k → T < U
structure ZAt (h0 : Heap) (z TI TO i1 i2 l1 l2 S N : Addr) (xs ys : Array Value) (i : Nat) (acc : Array Value) (h : Heap) : Prop extends ZFin h0 S N xs ys acc h where
  zst : IsZip h z TI TO .none ∨ ∃ T f oT, IsZipHeld h z TI TO T f ∧ h.get? T = some oT ∧ N ≤ T
  ti : IsPair h TI (.ref i1) (.ref i2)
  to : ∃ a b, IsPair h TO a b
  it1 : h.IsListIter i1 l1 i
  it2 : h.IsListIter i2 l2 i
  low : N ≤ h.objs.size
  top : ∀ (j T : Nat), acc[j]? = some (.ref T) → T < h.objs.size
  in0 : ∀ b o, h0.get? b = some o → b ≠ z ∧ b ≠ TI ∧ b ≠ TO ∧ b ≠ i1 ∧ b ≠ i2 ∧ b ≠ S
section
variable {prog : Program} {w : World} {A : Around} {R : Result → Shared → Prop} {h0 : Heap} {z TI TO i1 i2 l1 l2 S N : Addr} {xs ys : Array Value}
theorem ZAt.put {i T : Nat} {h : Heap} {acc : Array Value} {x y : Value} {c : Nat} (Z : ZSet z TI TO i1 i2 l1 l2 S N) (a : ZAt h0 z TI TO i1 i2 l1 l2 S N xs ys (i + 1) acc h) (hi : acc.size = i) (hS : h.get? S = some { cls := .type "list", dict := none, data := .seq acc c, slots := #[] })
    (hT : IsPair h T x y) (hN : N ≤ T) (new : ∀ (j U : Nat), acc[j]? = some (.ref U) → U < T) (hx : xs[i]? = some x) (hy : ys[i]? = some y) : ZAt h0 z TI TO i1 i2 l1 l2 S N xs ys (i + 1) (acc.push (.ref T)) (h.update S (Obj.mapSeq (·.push (.ref T)))) := by
  have oth : ∀ b o, b ≠ S → h.get? b = some o → (h.update S (Obj.mapSeq (·.push (.ref T)))).get? b = some o := fun b o hb e => (Heap.get?_update_other _ _ (Ne.symm hb)).trans e
  have ge : ∀ b, N ≤ b → b ≠ S := fun b hb => Nat.ne_of_gt (Nat.lt_of_lt_of_le Z.LS hb)
  exact
    { keep := fun b o e => oth b o (a.in0 b o e).2.2.2.2.2 (a.keep b o e)
      lst := ⟨_, Heap.get?_update_self _ hS rfl⟩
      items := fun j v e => by
        rw [Array.getElem?_push] at e
        split at e
        · rename_i ej
          cases e
          rw [hi] at ej
          subst ej
          exact ⟨T, x, y, rfl, hN, oth _ _ (ge T hN) hT, hx, hy⟩
        · obtain ⟨T', x', y', e1, e2, e3, e4⟩ := a.items j v e
          exact ⟨T', x', y', e1, e2, oth _ _ (ge T' e2) e3, e4⟩
      above := a.above
      inc := fun j k U V e1 e2 hjk => by
        rw [Array.getElem?_push] at e1 e2
        split at e2
        · rename_i ek
          cases e2
          rw [if_neg (by omega)] at e1
          exact new j U e1
        · split at e1
          · have : k < acc.size := by
              rw [Array.getElem?_eq_some_iff] at e2
              exact e2.1
            omega
          · exact a.inc j k U V e1 e2 hjk
      top := fun j U e => by
        rw [Heap.size_update]
        rw [Array.getElem?_push] at e
        split at e
        · cases e; exact Heap.lt_size hT
        · exact a.top j U e
      zst := a.zst.elim (fun q => .inl (oth _ _ (Ne.symm Z.Sz) q)) fun ⟨T', f, oT, q, qT, qN⟩ => .inr ⟨T', f, oT, oth _ _ (Ne.symm Z.Sz) q, oth _ _ (ge T' qN) qT, qN⟩
      ti := oth _ _ (Ne.symm Z.SI) a.ti
      to := let ⟨u, v, q⟩ := a.to; ⟨u, v, oth _ _ (Ne.symm Z.SO) q⟩
      it1 := a.it1.at fun o e => oth _ _ (Ne.symm Z.S1) e
      it2 := a.it2.at fun o e => oth _ _ (Ne.symm Z.S2) e
      low := by rw [Heap.size_update]; exact a.low
      in0 := a.in0 }
end
end PySem
namespace MI
open PySem L2
variable [Nms]
section
variable {X : Cx} {W : WX} {pins : List (Addr × Obj)} {σ : L2.St} {H : Hp} {s : Shared} {pos : Pos} {K : PySem.W.Frag} {β : List Addr} {m : Mem}
/-- the items of both, side by side -/
def gZip : List MV → Mem → Re MV
  | [d, e], m => match lstOf m d, lstOf m e with
    | some l, some k => .ok (.tup ((l.zip k).map fun p => .tup [p.1, p.2])) m
    | _, _ => .stuck
  | _, _ => .stuck
end
end MI
namespace MI
open PySem L2
variable [Nms]
section
variable {X : Cx} {W : WX} {pos : Pos} {K : PySem.W.Frag} {β : List Addr} {H : Hp} {m : Mem}
def rEqE (K : PySem.W.Frag) : R2 := fun x y H Q => ∃ a b xs ys, x = .ref a ∧ y = .ref b ∧ SqL K H a xs ∧ SqL K H b ys ∧ ((xs = [] ∧ Q (.bl ys.isEmpty) H) ∨ (ys = [] ∧ Q (.bl xs.isEmpty) H))
theorem op_eqE (hu : X.A.units < cLine) : OpR X (compareOp .Eq) (rEqE X.K) := by
  intro pins s σ H x y v u Q I rx ry h
  obtain ⟨a, b, xs, ys, rfl, rfl, hx, hy, q⟩ := h
  cases rx
  cases ry
  obtain ⟨i1, r1, p1, _⟩ := I.list hx
  obtain ⟨i2, r2, p2, _⟩ := I.list hy
  have n1 := r1.length
  have n2 := r2.length
  have both : ∀ {c : Bool}, (i1.toArray.size = 0 ∨ i2.toArray.size = 0) → c = (decide (i1.length = i2.length)) → Q (.bl c) H → wpAny (model X.prog X.w) X.A (compareOp .Eq (.ref a) (.ref b)) (EP X pins σ Q) X.xe s := by
    intro c he hc z
    by_cases e : i1.length = i2.length
    · refine SeqAt.eq_listAt (e := fun _ => true) p1.isList p2.isList (by simpa using e) hu (fun j h1 h2 => ?_) ?_
      · rcases he with he | he <;> omega
      · rw [hc, decide_eq_true e] at z
        have : ((List.range i1.toArray.size).all fun _ => true) = true := List.all_eq_true.mpr fun _ _ => rfl
        rw [this]
        exact ⟨.bl true, H, I, rfl, z⟩
    · refine SeqAt.eq_list_lengthsAt p1.isList p2.isList (by simpa using e) hu ?_
      rw [hc, decide_eq_false e] at z
      exact ⟨.bl false, H, I, rfl, z⟩
  rcases q with ⟨rfl, q⟩ | ⟨rfl, q⟩
  · refine both (.inl (by simp; simpa using n1.symm)) ?_ q
    cases ys with
    | nil => simp only [List.isEmpty_nil]; exact (decide_eq_true (by simp at n1 n2; omega)).symm
    | cons y r => simp only [List.isEmpty_cons]; exact (decide_eq_false (by simp at n1 n2; omega)).symm
  · refine both (.inr (by simp; simpa using n2.symm)) ?_ q
    cases xs with
    | nil => simp only [List.isEmpty_nil]; exact (decide_eq_true (by simp at n1 n2; omega)).symm
    | cons y r => simp only [List.isEmpty_cons]; exact (decide_eq_false (by simp at n1 n2; omega)).symm
def gEqE (a b : MV) (m : Mem) : Re MV := match lstOf m a, lstOf m b with
  | some l, some [] => .ok (.bl l.isEmpty) m
  | _, _ => .stuck
theorem om_eqE : OpM X (rEqE X.K) gEqE := by
  intro W σ d e m β H x y Q M rx ry p
  unfold gEqE at p
  split at p
  · rename_i l h1 h2
    obtain ⟨a, xs, rfl, q1, q2⟩ := M.lst rx h1
    obtain ⟨b, ys, rfl, q3, q4⟩ := M.lst ry h2
    have n1 := q2.length
    have n2 := q4.length
    have e2 : ys = [] := by cases ys with | nil => rfl | cons _ _ => simp at n2
    refine ⟨a, b, xs, ys, rfl, rfl, q1, q3, .inr ⟨e2, ?_⟩⟩
    have : xs.isEmpty = l.isEmpty := by cases xs <;> cases l <;> simp_all
    rw [this]
    exact p.ok M (.bl _)
  · exact p.not_stuck
def fV : MV → Option V
  | .non => some .non
  | .bl b => some (.bl b)
  | .int i => some (.int i)
  | .str s => some (.str s)
  | _ => none
def fVs : List MV → Option (List V)
  | [] => some []
  | d :: r => match fV d, fVs r with
    | some v, some vs => some (v :: vs)
    | _, _ => none
def gCnt (d : MV) (ds : List MV) (m : Mem) : Re MV := match ds with
  | [e] => match (lstOf m d).bind fVs, fV e with
    | some us, some u => .ok (.int ((us.countP fun z => eqV z u : Nat) : Int)) m
    | _, _ => .stuck
  | _ => .stuck
def gIdx (d : MV) (ds : List MV) (m : Mem) : Re MV := match ds with
  | [e] => match (lstOf m d).bind fVs, fV e with
    | some us, some u => match us.findIdx? fun z => eqV z u with
      | some j => .ok (.int (j : Nat)) m
      | none => .stuck
    | _, _ => .stuck
  | _ => .stuck
def leS (a b : Str) : Bool := !Spec.ltCps b.cps.toList a.cps.toList
def sortM (xs : List Str) : List Str := xs.mergeSort leS
def gSortS : List MV → Mem → Re MV
  | [d], m => match (lstOf m d).bind strsOf with
    | some xs => if xs.length < 64 then alloc (.lst ((sortM xs).map .str)) m else .stuck
    | none => .stuck
  | _, _ => .stuck
end
end MI
namespace MI
open PySem L2
variable [Nms]
section
variable {X : Cx} {W : WX} {pos : Pos} {K : PySem.W.Frag} {β : List Addr} {H : Hp} {m : Mem}
inductive Ents (K : PySem.W.Frag) : List DictEntry → List (Str × MV) → Prop
  | nil : Ents K [] []
  | cons {e : DictEntry} {k : Str} {t : Tok} {u : Value} {v : V} {d : MV} {l : List DictEntry} {r : List (Str × MV)} : e.key = .str k t → e.val = u → RelV v u → (∀ β H, RV K β H d v) → Ents K l r → Ents K (e :: l) ((k, d) :: r)
structure KTab (K : PySem.W.Frag) (w : World) (mg : Str → Option Value) (x : Str) (tbl : List (Str × MV)) : Prop where
  ex : ∃ (d : Addr) (es : Array DictEntry) (n : Nat), mg x = some (.ref d) ∧ KDict K w d es n ∧ Ents K es.toList tbl
theorem Ents.find {z : Str} : ∀ {l : List DictEntry} {r : List (Str × MV)}, Ents K l r → l.any (·.refKey) = false ∧ match r.lookup z with
    | some d => ∃ (e : DictEntry) (v : V), l.find? (·.key.isStr z) = some e ∧ RelV v e.val ∧ ∀ β H, RV K β H d v
    | none => l.find? (·.key.isStr z) = none
  | _, _, .nil => ⟨rfl, rfl⟩
  | _, _, .cons (e := e) (k := k) (v := v) (d := d) (l := l) (r := r) h1 h2 h3 h4 h5 => by
    obtain ⟨i1, i2⟩ := Ents.find (z := z) h5
    refine ⟨?_, ?_⟩
    · rw [List.any_cons, i1, Bool.or_false]
      unfold DictEntry.refKey
      rw [h1]
    · rw [List.lookup_cons, List.find?_cons]
      have e1 : e.key.isStr z = (k == z) := by rw [h1]; rfl
      rw [e1]
      by_cases hk : k = z
      · subst hk
        simp only [beq_self_eq_true]
        exact ⟨e, v, rfl, by rw [h2]; exact h3, h4⟩
      · rw [beq_eq_false_iff_ne.mpr hk, beq_eq_false_iff_ne.mpr (Ne.symm hk)]
        exact i2
theorem KTab.at_ {w : World} {mg : Str → Option Value} {x : Str} {tbl : List (Str × MV)} (T : KTab K w mg x tbl) : ∃ (d : Addr) (es : Array DictEntry) (n : Nat), mg x = some (.ref d) ∧ KDict K w d es n ∧ ∀ z, match tbl.lookup z with
    | some c => ∃ (u : Value) (v : V), PySem.W.nsIn K d z = some (some u) ∧ RelV v u ∧ ∀ β H, RV K β H c v
    | none => PySem.W.nsIn K d z = some none := by
  obtain ⟨d, es, n, h1, h2, h3⟩ := T.ex
  refine ⟨d, es, n, h1, h2, fun z => ?_⟩
  obtain ⟨i1, i2⟩ := h3.find (z := z)
  have e : PySem.W.nsIn K d z = match es.toList.find? (·.key.isStr z) with
      | some e => some (some e.val)
      | none => if es.toList.any (·.refKey) then none else some none := by
    unfold PySem.W.nsIn
    rw [h2.at_] <;> rfl
  cases hl : tbl.lookup z with
  | some c =>
    rw [hl] at i2
    obtain ⟨en, v, q1, q2, q3⟩ := i2
    exact ⟨en.val, v, by rw [e, q1], q2, q3⟩
  | none =>
    rw [hl] at i2
    rw [e, i2, i1]
    rfl
def mInK (tbl : List (Str × MV)) (f : ME) : ME := fun ρ m => (f ρ m).bind fun d m1 => match d with
  | .str z => .ok (.bl (tbl.lookup z).isSome) m1
  | _ => .stuck
theorem je_inK {e : Expr} {x : Str} {p : Pos} {f : ME} {tbl : List (Str × MV)} (h : JE X W e f) (T : KTab X.K X.w X.mg x tbl) (hg : Gl X x := by rfl) (hd : (x == ("__debug__" : Str)) = false := by decide) (hk : behindInMarks .In (.Name x p) = false := by rfl) : JE X W (.Compare e [.In] [.Name x p] pos) (mInK tbl f) := by
  obtain ⟨d, es, n, h1, h2, h3⟩ := T.at_
  refine ⟨pe_imp (pe_cmpR (op_in_kd h2) h.run (pe_glob (v := .ref d) hg h1 rfl hd) hk) fun σ H Q ⟨ρ, m, β, hE, hM, q⟩ => ⟨ρ, m, β, hE, hM, q.bind fun c m1 y H1 β1 _ e1 M1 V1 p1 => ?_⟩⟩
  split at p1
  · rename_i z _
    cases V1
    have q3 := h3 z
    cases hl : tbl.lookup z with
    | some c =>
      rw [hl] at q3 p1
      obtain ⟨u, v, q4, _⟩ := q3
      exact ⟨z, some u, rfl, rfl, q4, p1.ok M1 (.bl _)⟩
    | none =>
      rw [hl] at q3 p1
      exact ⟨z, none, rfl, rfl, q3, p1.ok M1 (.bl _)⟩
  · exact p1.not_stuck
def mItemK (tbl : List (Str × MV)) (f : ME) : ME := fun ρ m => (f ρ m).bind fun d m1 => match d with
  | .str z => match tbl.lookup z with
    | some c => .ok c m1
    | none => .stuck
  | _ => .stuck
theorem je_itemK {e : Expr} {x : Str} {p : Pos} {f : ME} {tbl : List (Str × MV)} (h : JE X W e f) (T : KTab X.K X.w X.mg x tbl) (hg : Gl X x := by rfl) (hd : (x == ("__debug__" : Str)) = false := by decide) (hs : PlainIx e := by intro _ _; rfl) : JE X W (.Subscript (.Name x p) e pos) (mItemK tbl f) := by
  obtain ⟨d, es, n, h1, h2, h3⟩ := T.at_
  refine ⟨pe_imp (pe_ix (ix_kdict (X := X)) (pe_glob (v := .ref d) hg h1 rfl hd) h.run hs) fun σ H Q ⟨ρ, m, β, hE, hM, q⟩ => ⟨ρ, m, β, hE, hM, q.bind fun c m1 y H1 β1 _ e1 M1 V1 p1 => ?_⟩⟩
  split at p1
  · rename_i z _
    cases V1
    have q3 := h3 z
    split at p1
    · rename_i c hl
      rw [hl] at q3
      obtain ⟨u, v, q4, q5, q6⟩ := q3
      exact ⟨d, z, v, rfl, rfl, ⟨es, n, u, h2.at_, h2.lit, q4, q5⟩, p1.ok M1 (q6 _ _)⟩
    · exact p1.not_stuck
  · exact p1.not_stuck
end
end MI
namespace MI
open PySem L2
variable [Nms]
section
variable {X : Cx} {W : WX} {pos : Pos} {K : PySem.W.Frag} {β : List Addr} {H : Hp} {m : Mem}
/-- a list, a tuple, or a text by its signs -/
def seqIt : MV → Mem → Re IterM
  | .str z, m => .ok ⟨z.cps.toList.map fun c => .str ⟨#[c]⟩, fun _ => True⟩ m
  | .tup l, m => .ok ⟨l, fun _ => True⟩ m
  | .ref n, m => match lstOf m (.ref n) with
    | some l => .ok ⟨l, fun m' => lstOf m' (.ref n) = some l⟩ m
    | none => .stuck
  | _, _ => .stuck
def mAnyI (f : ME) : MI' := fun ρ m => (f ρ m).bind seqIt
theorem walkM_str {z : Str} : WalkM K β H ⟨z.cps.toList.map fun c => .str ⟨#[c]⟩, fun _ => True⟩ (Its z) := by
  refine ⟨fun _ => True, fun i H v H' => H' = H ∧ ∃ c, z.cps[i]? = some c ∧ v = .str ⟨#[c]⟩, ?_, fun _ _ _ _ _ _ => trivial, fun i H1 x H2 β1 m1 d e M1 _ hi y => ?_⟩
  · show Walk _ (List.map _ _).length _ _
    rw [List.length_map, Array.length_toList]
    exact walk_str
  · obtain ⟨rfl, c, h1, rfl⟩ := y
    rw [List.getElem?_map, Array.getElem?_toList, h1] at hi
    cases hi
    exact ⟨Ext.refl, M1, .str _⟩
theorem ji_any {tg e : Expr} {f : ME} (h : JE X W e f) : JI X W tg e (mAnyI f) := by
  refine ⟨pi_imp (pi_or (pi_str h.run) (pi_or (pi_list h.run) (pi_tup h.run))) fun σ H R ⟨ρ, m, β, hE, hM, p⟩ => ?_⟩
  have p : PostI X W ((f ρ m).bind seqIt) β H σ R := p
  have go : ∀ (t : V → Hp → Prop), (∀ d m1 β1 H1 v, f ρ m = .ok d m1 → Ext β H β1 H1 → RM X.K β1 H1 m1 → RV X.K β1 H1 d v → t v H1) → tE X W f σ H t := by
    intro t q
    refine ⟨ρ, m, β, hE, hM, ?_⟩
    cases hf : f ρ m with
    | stuck => rw [hf] at p; exact p.elim
    | ex x m1 => rw [hf] at p; exact p
    | ok d m1 => exact fun v H1 β1 e1 M1 V1 => q d m1 β1 H1 v hf e1 M1 V1
  cases hf : f ρ m with
  | stuck => rw [hf] at p; exact p.elim
  | ex x m1 => exact .inl (go _ fun d m2 β1 H1 v e => by rw [hf] at e; cases e)
  | ok d m1 =>
    rw [hf] at p
    have p : PostI X W (seqIt d m1) β H σ R := p
    cases d with
    | str z =>
      refine .inl (go _ fun d m2 β1 H1 v e e1 M1 V1 => ?_)
      rw [hf] at e
      cases e
      cases V1
      exact ⟨z, rfl, p _ _ _ e1 M1 walkM_str⟩
    | tup l =>
      refine .inr (.inr (go _ fun d m2 β1 H1 v e e1 M1 V1 => ?_))
      rw [hf] at e
      cases e
      cases V1 with
      | tup h1 h2 => exact ⟨_, rfl, ⟨_, h1⟩, p _ _ _ e1 M1 (walkM_tup M1 h1 h2)⟩
    | ref n =>
      refine .inr (.inl (go _ fun d m2 β1 H1 v e e1 M1 V1 => ?_))
      rw [hf] at e
      cases e
      have p : PostI X W (match lstOf m1 (.ref n) with
        | some l => .ok ⟨l, fun m' => lstOf m' (.ref n) = some l⟩ m1
        | none => .stuck) β H σ R := p
      cases hl : lstOf m1 (.ref n) with
      | none => rw [hl] at p; exact p.elim
      | some l =>
        rw [hl] at p
        obtain ⟨a, vs, rfl, h1, h2⟩ := M1.lst V1 hl
        exact ⟨a, rfl, ⟨vs, h1⟩, p _ _ _ e1 M1 (walkM_lst M1 V1 hl)⟩
    | non => exact p.elim
    | bl _ => exact p.elim
    | int _ => exact p.elim
    | kl _ => exact p.elim
    | clo _ _ => exact p.elim
/-- which classes a clause by that name takes -/
structure HndN (K : PySem.W.Frag) (mg : Str → Option Value) (x : Str) (P : Str → Option Bool) : Prop where
  ex : ∃ C : Addr, mg x = some (.ref C) ∧ Exm K (.ref C) P
/-- what isinstance(.., x) says of exceptions -/
structure IsxN (K : PySem.W.Frag) (mg : Str → Option Value) (x : Str) (P : Str → Option Bool) : Prop where
  ex : ∃ (c : V) (cv : Value), RelV c cv ∧ (∀ u, RelV c u → u = cv) ∧ ClsV c cv ∧ (mg x = some cv ∨ (mg x = none ∧ bootBuiltins x = some cv)) ∧ Isx K cv P
theorem je_isxN {e : Expr} {x : Str} {p q : Pos} {f : ME} {P : Str → Option Bool} (h : JE X W e f) (T : IsxN X.K X.mg x P) (hm : X.mg "isinstance" = none) (hg : Gl X "isinstance" := by rfl) (hgx : Gl X x := by rfl) (hn : x ≠ "__name__" := by decide) (hd : (x == ("__debug__" : Str)) = false := by decide)
    (he : starEach (e :: [.Name x q]) X.env = (false, eval e X.env) :: starEach [.Name x q] X.env := by rfl) (he2 : starEach (.Name x q :: []) X.env = (false, eval (.Name x q) X.env) :: starEach [] X.env := by rfl) (hpl : (backTo pos (starEach [.Name x q] X.env)).any (·.1) = false := by rfl) : JE X W (.Call (.Name "isinstance" p) [e, .Name x q] [] pos) (mIsx P f) := by
  obtain ⟨c, cv, r, hcv, hcl, hx, T⟩ := T.ex
  rcases hx with hx | ⟨hx, hb⟩
  · exact je_isx h hcv hcl (pe_glob hgx hx r hd) T hm hg he he2 hpl
  · exact je_isx h hcv hcl (pe_bltn hgx hx hb r hn hd) T hm hg he he2 hpl
section
variable {body : List Stmt} {f : MS} {P : Str → Option Bool}
theorem jx_tryKN (i j : Nat) {x n y : Str} {np py pn' spos pos' : Pos} (hs : X.stack = X.env :: X.outer) (hf : X.env.frame = some X.env.locals) (hex : X.ex = []) (hN : X.N.Nodup) (T : HndN X.K X.mg x P) (tk : Takes X W)
    (hb : ∀ (W' : WX) (pn : List (Addr × Obj)) (xe : Value → Shared → Prop), Takes (X.tr pn xe) W' → PassesOwn (model X.prog X.w) X.A X.env xe → JB (X.tr pn xe) W' body f)
    (hg : Gl X x := by rfl) (hdb : (x == ("__debug__" : Str)) = false := by decide) (hi : X.N[i]? = some n := by rfl) (hln : X.env.kindOf n = some .local := by rfl) (hj : X.N[j]? = some y := by rfl) (hly : X.env.kindOf y = some .local := by rfl)
    (hd1 : (n == ("__debug__" : Str)) = false := by decide) (hd2 : (n == ("__classdict__" : Str)) = false := by decide) :
    JS X W (.Try body [.ExceptHandler (some (.Name x np)) (some n) [.Assign [.Name y py] (.Name n pn') spos] pos'] [] [] pos) (mTryK P i j f) := by
  obtain ⟨C, h1, h2⟩ := T.ex
  exact jx_tryK i j hs hf hex hN ⟨hg, hdb, .inl h1⟩ h2 tk hb hi hln hj hly hd1 hd2
end
end
end MI
namespace MI
open PySem L2
variable [Nms]
theorem hu0 {k : Nat} {X : L2.Cx} (hr : L2.Room k X.A) : X.A.units < PySem.cLine := Nat.lt_of_succ_lt (hu1 hr)
/-- a def of the module -/
structure DefAt (K : PySem.W.Frag) (mg : Str → Option Value) (x : Str) (st : Stmt) (ps : List Str) : Prop where
  ex : ∃ (f : Addr) (fd : FuncData), Fun K x x st f fd ∧ mg x = some (.ref f) ∧ PySem.W.keepIn K (.ref f) = true ∧ Binds K fd ps []
section
variable {K : PySem.W.Frag} {h : Heap} {mg : Str → Option Value} {w : World}
theorem def_mk {x : Str} {st : Stmt} {ps : List Str} {f : Addr} {oc : Value} {od an : Option Addr} {osl : Array (Option Value)} {kV doc pm cdv ct : Value} (X : K.In h) (G : h.Ns mainGlobals mg)
    (a : PySem.W.nsIn K mainGlobals x = some (some (.ref f))) (l : K.lookup f = some ⟨oc, od, .func (PySem.W.fnOf x x (defArgs st) (defBody st) (defScope st) .none kV doc pm an cdv ct), osl⟩) (c : PySem.W.codeIn K cdv x = true) (k : PySem.W.keepIn K (.ref f) = true)
    (b : ∀ (kV doc pm : Value) (an : Option Addr) (cdv ct : Value) (us : List Value), us.length = ps.length → bindArgs (PySem.W.fnOf x x (defArgs st) (defBody st) (defScope st) .none kV doc pm an cdv ct) ⟨us, []⟩ = pure (ps.zip us)) : DefAt K mg x st ps :=
  ⟨f, _, fun_mk l c k, PySem.W.mg_of X G a, k, (fun_mk l c k).binds b⟩
theorem DefAt.fnx {P : Program} {base : Heap} {M : Mode} {x : Str} {st : Stmt} {ps : List Str} {k n : Nat} {F : MF} (D : DefAt K mg x st ps) (hok : ∀ f fd, Fun K x x st f fd → FnOk P w K mg base (M.CX P w) k f fd ps (spM K n F)) : FnX M P w K mg base k x n F := by
  obtain ⟨f, fd, h1, h2, h3, h4⟩ := D.ex
  exact ⟨f, fd, ps, hok f fd h1, h2, h3, h4⟩
theorem DefAt.fn0 {P : Program} {base : Heap} {M : Mode} {x : Str} {st : Stmt} {ps : List Str} {n : Nat} (D : DefAt K mg x st ps) (hn : ps.length = n) : FnX M P w K mg base 0 x n (fun _ _ => .stuck) := by
  obtain ⟨f, fd, h1, h2, h3, h4⟩ := D.ex
  exact fnx_0 hn h2 h3 h4
/-- a written constant, as it stands in the fragment; n bounds the depth -/
def conB (K : PySem.W.Frag) : Nat → MV → Value → Bool
  | _, .non, .none => true
  | _, .bl a, .bool b => a == b
  | _, .int a, .int b _ => a == b
  | _, .str a, .str b _ => a == b
  | n + 1, .tup l, .ref a => match K.lookup a with
    | some ⟨.type c, _, .seq its _, _⟩ => c == "tuple" && (l.length == its.size && decide (its.size ≤ 1000)) && (l.zip its.toList).all fun p => conB K n p.1 p.2
    | _ => false
  | _, _, _ => false
theorem conB_ok : ∀ {n : Nat} {d : MV} {u : Value}, conB K n d u = true → ∃ v, RelV v u ∧ ∀ β H, RV K β H d v := by
  intro n
  induction n with
  | zero =>
    intro d u e
    cases d <;> cases u <;> simp [conB] at e
    · exact ⟨.non, rfl, fun _ _ => .non⟩
    · subst e; exact ⟨.bl _, rfl, fun _ _ => .bl _⟩
    · subst e; exact ⟨.int _, ⟨_, rfl⟩, fun _ _ => .int _⟩
    · subst e; exact ⟨.str _, ⟨_, rfl⟩, fun _ _ => .str _⟩
  | succ n ih =>
    intro d u e
    cases d <;> cases u <;> simp [conB] at e
    · exact ⟨.non, rfl, fun _ _ => .non⟩
    · subst e; exact ⟨.bl _, rfl, fun _ _ => .bl _⟩
    · subst e; exact ⟨.int _, ⟨_, rfl⟩, fun _ _ => .int _⟩
    · subst e; exact ⟨.str _, ⟨_, rfl⟩, fun _ _ => .str _⟩
    · rename_i l a
      split at e
      · rename_i c dd its k sl hl
        rw [Bool.and_eq_true, Bool.and_eq_true, Bool.and_eq_true, beq_iff_eq, beq_iff_eq, decide_eq_true_eq, List.all_eq_true] at e
        obtain ⟨⟨rfl, e2, e4⟩, e3⟩ := e
        have key : ∀ (l : List MV) (us : List Value), l.length = us.length → (∀ p ∈ l.zip us, conB K n p.1 p.2 = true) → ∃ vs, Vals vs us ∧ ∀ β H, RVs K β H l vs := by
          intro l
          induction l with
          | nil =>
            intro us h1 _
            cases us with
            | nil => exact ⟨[], .nil, fun _ _ => .nil⟩
            | cons _ _ => simp at h1
          | cons d l il =>
            intro us h1 h2
            cases us with
            | nil => simp at h1
            | cons u us =>
              obtain ⟨v, r1, r2⟩ := ih (h2 (d, u) (by simp))
              obtain ⟨vs, r3, r4⟩ := il us (by simpa using h1) fun p hp => h2 p (by simp [hp])
              exact ⟨v :: vs, .cons r1 r3, fun β H => .cons (r2 β H) (r4 β H)⟩
        obtain ⟨vs, r1, r2⟩ := key l its.toList (by simpa using e2) (fun p hp => e3 p hp)
        refine ⟨.ref a, rfl, fun β H => .tup (.inr ⟨_, its, k, hl, rfl, rfl, Nat.le_of_lt (small1000 e4), r1⟩) (r2 β H)⟩
      · cases e
theorem con_any {x : Str} {d : MV} {u : Value} (n : Nat) (X : K.In h) (G : h.Ns mainGlobals mg) (a : PySem.W.nsIn K mainGlobals x = some (some u)) (e : conB K n d u = true) : Con K mg x d := by
  obtain ⟨v, r1, r2⟩ := conB_ok e
  exact ⟨u, v, PySem.W.mg_of X G a, r1, r2⟩
def entB (K : PySem.W.Frag) : List DictEntry → List (Str × MV) → Bool
  | [], [] => true
  | e :: l, p :: r => (match e.key with
    | .str k _ => k == p.1 && conB K 4 p.2 e.val
    | _ => false) && entB K l r
  | _, _ => false
theorem entB_ok : ∀ {l : List DictEntry} {r : List (Str × MV)}, entB K l r = true → Ents K l r
  | [], [], _ => .nil
  | [], _ :: _, e => by cases e
  | _ :: _, [], e => by cases e
  | e :: l, (k, d) :: r, h => by
    unfold entB at h
    rw [Bool.and_eq_true] at h
    have ih := entB_ok h.2
    have h1 := h.1
    split at h1
    · rename_i k' t e1
      simp only [Bool.and_eq_true, beq_iff_eq] at h1
      obtain ⟨rfl, h2⟩ := h1
      obtain ⟨v, r1, r2⟩ := conB_ok h2
      exact .cons e1 rfl r1 r2 ih
    · cases h1
theorem tab_mk {x : Str} {tbl : List (Str × MV)} {d : Addr} {es : Array DictEntry} {n : Nat} (X : K.In h) (G : h.Ns mainGlobals mg) (a : PySem.W.nsIn K mainGlobals x = some (some (.ref d))) (l : K.lookup d = some ⟨.type "dict", none, .dict es n, #[]⟩)
    (c : PySem.W.KeysLit w.params es.toList) (e : entB K es.toList tbl = true) (z : (d == sysModules) = false) : KTab K w mg x tbl := ⟨d, es, n, PySem.W.mg_of X G a, ⟨l, c, z⟩, entB_ok e⟩
theorem exf_mk {x : Str} {C : Addr} (X : K.In h) (G : h.Ns mainGlobals mg) (a : PySem.W.nsIn K mainGlobals x = some (some (.ref C))) (b : PySem.W.excIn K C [.type "ValueError", .type "Exception", .type "BaseException", .type "object"] "ValueError.__new__" = true)
    (c : PySem.W.keepIn K (.ref C) = true) (d : PySem.W.subIn K (.ref C) (.type "BaseException") = some true) (e : PySem.W.typeIn K (.ref C) = some (.type "type")) : ExF K mg x := ⟨C, a, PySem.W.mg_of X G a, b, c, d, e⟩
def hndB (K : PySem.W.Frag) (c : Value) (l : List (Str × Bool)) : Bool := l.all fun p => match PySem.W.nsIn K mainGlobals p.1 with
  | some (some (.ref C)) => PySem.W.exmOne K (.ref C) c == some p.2
  | _ => false
theorem lookup_mem {α : Type} : ∀ {l : List (Str × α)} {y : Str} {b : α}, l.lookup y = some b → (y, b) ∈ l
  | (k, c) :: l, y, b, h => by
    rw [List.lookup_cons] at h
    split at h
    · rename_i e
      cases h
      rw [eq_of_beq e]
      exact List.mem_cons_self
    · exact List.mem_cons_of_mem _ (lookup_mem h)
theorem hnd_mk {x : Str} {C : Addr} {l : List (Str × Bool)} (X : K.In h) (G : h.Ns mainGlobals mg) (a : PySem.W.nsIn K mainGlobals x = some (some (.ref C))) (e : hndB K (.ref C) l = true) : HndN K mg x (fun y => l.lookup y) := by
  refine ⟨C, PySem.W.mg_of X G a, fun y D b hy hb => ?_⟩
  have q := List.all_eq_true.mp e (y, b) (lookup_mem hb)
  have hy : PySem.W.nsIn K mainGlobals y = some (some (.ref D)) := hy
  simp only [hy] at q
  exact eq_of_beq q
def excB (K : PySem.W.Frag) (D : Addr) : Bool :=
  PySem.W.findIn K (.ref D) "__getattribute__" == some (some (.builtin "BaseException.__getattribute__")) && PySem.W.findIn K (.ref D) "__getattr__" == some none && PySem.W.subIn K (.ref D) (.type "BaseException") == some true && PySem.W.hasDictIn K D &&
    PySem.W.findIn K (.ref D) "__class__" == some (some (.builtin "object.__class__")) && PySem.W.specialIn K (.builtin "object.__class__") "__get__" == some (some (.builtin "getset_descriptor.__get__")) && PySem.W.takesIn K (.builtin "object.__class__") == some true && PySem.W.mroIn K D (.type "object") == some true
theorem excB_ok {D : Addr} (e : excB K D = true) : ExcC K D := by
  unfold excB at e
  simp only [Bool.and_eq_true, beq_iff_eq] at e
  obtain ⟨⟨⟨⟨⟨⟨⟨e1, e2⟩, e3⟩, e4⟩, e5⟩, e6⟩, e7⟩, e8⟩ := e
  exact ⟨e1, e2, e3, e4, e5, e6, e7, e8⟩
def isxB (K : PySem.W.Frag) (c : Value) (l : List (Str × Bool)) : Bool := PySem.W.kitOne K (.type "NoneType") c == some false && l.all fun p => match PySem.W.nsIn K mainGlobals p.1 with
  | some (some (.ref D)) => excB K D && PySem.W.kitOne K (.ref D) c == some p.2
  | _ => false
theorem isx_of {c : Value} {l : List (Str × Bool)} (e : isxB K c l = true) : Isx K c (fun y => l.lookup y) := by
  unfold isxB at e
  rw [Bool.and_eq_true] at e
  refine ⟨fun y D b hy hb => ?_, eq_of_beq e.1⟩
  have q := List.all_eq_true.mp e.2 (y, b) (lookup_mem hb)
  have hy : PySem.W.nsIn K mainGlobals y = some (some (.ref D)) := hy
  simp only [hy, Bool.and_eq_true] at q
  exact ⟨excB_ok q.1, eq_of_beq q.2⟩
theorem isx_own {x : Str} {C : Addr} {l : List (Str × Bool)} (X : K.In h) (G : h.Ns mainGlobals mg) (a : PySem.W.nsIn K mainGlobals x = some (some (.ref C))) (e : isxB K (.ref C) l = true) : IsxN K mg x (fun y => l.lookup y) :=
  ⟨.ref C, .ref C, rfl, fun _ r => r, .own C, .inl (PySem.W.mg_of X G a), isx_of e⟩
theorem kl_of {H : Hp} {a : Addr} {xs : List V} (hO : Only H) (hS : SqL K H a xs) : KL K [] H a xs := by
  rcases hS with (h | ⟨ob, h⟩) | h
  · rcases hO a with z | ⟨o, ys, z⟩
    · rw [z] at h; cases h
    · rw [z] at h; cases h
  · exact .inl ⟨List.not_mem_nil, ob, h⟩
  · exact .inr h
theorem ints_rv {β : List Addr} {H : Hp} : ∀ ns : List Int, RVs K β H (ns.map MV.int) (ns.map V.int)
  | [] => .nil
  | n :: r => .cons (.int n) (ints_rv r)
theorem spM_law {F : MF} {H : Hp} {a : Addr} {ns : List Int} (ht : Nms.tb K = []) (hO : Only H) (hS : SqL K H a (ns.map V.int)) (hF : ∃ m', F [.kl (ns.map .int)] [] = .ok (.bl true) m') : spM K 1 F [.ref a] H (fun v _ => v = .bl true) fun _ _ _ => False := by
  refine ⟨rfl, [.kl (ns.map .int)], [], [], .cons (.kl (kl_of hO hS) (ints_rv ns)) .nil, ⟨fun P r => ?_, rfl, List.nodup_nil, fun n o a h => by simp at h⟩, ?_⟩
  · have no : ∀ Q, Rch (Nms.tb K) H Q → False := fun Q r => by
      induction r with
      | st h => rw [ht] at h; cases h
      | en _ _ _ _ _ ih => exact ih
    exact (no P r).elim
  obtain ⟨m', e⟩ := hF
  rw [e]
  intro v H' β' _ _ V
  cases V
  rfl
theorem walkM {l : PySem.W.OpenLaw} {k : Nat} {q : Program} {loose : List Str} {XP : (Str → Option Value) → Heap → Prop} {YP : World → Heap → Prop} {d : DefRec} {K : Params → PySem.W.Frag} {x : Str} {F : MF}
    (ht : ∀ K : PySem.W.Frag, Nms.tb K = []) (hn : l.most = some 63) (hdf : d.params.defaults = []) (hr : Room k callerA) (hY : ∀ (w : World) (h : Heap), YP w h → (K w.params).In h)
    (G : ∀ (w : World) (mg : Str → Option Value) (fa : Addr) (h : Heap), (K w.params).In h → h.Ns mainGlobals mg → mg d.name = some (.ref fa) →
      ∃ fd : FuncData, (∀ (s : Shared) (u : Value), BindsTo s fd ⟨[u], []⟩ [(x, u)]) ∧ ∀ base : Heap, FnOk l.prog w (K w.params) mg base (L2.CX l.prog w) k fa fd [x] (spM (K w.params) 1 F))
    (hF : ∀ ns : List Int, ns.length ≤ 63 → (∀ z ∈ ns, Builtin.Int.intBits z ≤ 1048576) → ∃ m', F [.kl (ns.map .int)] [] = .ok (.bl true) m') :
    PySem.W.WalkO q loose XP YP l.row.toRowW d [] (fun f vs => PySem.call f vs) :=
  walk_ofB (n := 63) (k := k) (x := x) (CX := fun w => L2.CX l.prog w) (sp := fun w => spM (K w.params) 1 F) hn (by decide) hdf hr hY (fun w mg fa h X N e => let ⟨fd, b, f⟩ := G w mg fa h X N e; ⟨fd, b, fun base _ _ => f base⟩)
    (fun w H a ns hl hb hO hS => spM_law (ht _) hO hS (hF ns hl hb)) fun w H s e s' z => by
      obtain ⟨_, _, _, _, _, _, _, _, _, _, _, _, z⟩ := z
      exact z
end
end MI
namespace MI
open PySem L2
def W {α : Type} (r : Re α) (Q : α → Mem → Prop) (E : Exn → Mem → Prop) : Prop := match r with
  | .ok a m => Q a m
  | .ex x m => E x m
  | .stuck => False
section
variable {α γ : Type} {Q Q' : α → Mem → Prop} {E E' : Exn → Mem → Prop}
@[simp] theorem W_ok {a : α} {m : Mem} : W (.ok a m) Q E = Q a m := rfl
@[simp] theorem W_ex {x : Exn} {m : Mem} : W (.ex x m : Re α) Q E = E x m := rfl
@[simp] theorem W_stuck : W (.stuck : Re α) Q E = False := rfl
@[simp] theorem W_bind {r : Re γ} {f : γ → Mem → Re α} : W (r.bind f) Q E = W r (fun a m => W (f a m) Q E) E := by
  cases r <;> rfl
theorem W.mono {r : Re α} (h : W r Q' E') (hq : ∀ a m, Q' a m → Q a m) (he : ∀ x m, E' x m → E x m := by first | (intro _ _ h; exact h.elim) | (intro _ _ h; exact h)) : W r Q E := by
  cases r with
  | ok a m => exact hq a m h
  | ex x m => exact he x m h
  | stuck => exact h
theorem W_ite {c : Prop} [Decidable c] {a b : Re α} : W (if c then a else b) Q E = if c then W a Q E else W b Q E := by split <;> rfl
end
abbrev E0 : Exn → Mem → Prop := fun _ _ => False
section
variable {ρ : Env} {m : Mem} {Q : Fl → Mem → Prop} {E : Exn → Mem → Prop}
@[simp] theorem W_onE {α : Type} {r : Re α} {k : α → Mem → Re Fl} : W (onE ρ r k) Q E = W r (fun a m => W (k a m) Q E) (fun x m => Q (.ex x ρ) m) := by
  cases r <;> rfl
/-- on to the next statement -/
def nxt (f : MS) (Q : Fl → Mem → Prop) (E : Exn → Mem → Prop) : Fl → Mem → Prop := fun a m => match a with
  | .nx ρ => W (f ρ m) Q E
  | a => Q a m
@[simp] theorem W_seq {f g : MS} : W (mSeq f g ρ m) Q E = W (f ρ m) (nxt g Q E) E := by
  unfold mSeq
  cases f ρ m with
  | ok a m => cases a <;> rfl
  | ex x m => rfl
  | stuck => rfl
@[simp] theorem nxt_nx {f : MS} : nxt f Q E (.nx ρ) m = W (f ρ m) Q E := rfl
@[simp] theorem nxt_rt {f : MS} {d : MV} : nxt f Q E (.rt d) m = Q (.rt d) m := rfl
@[simp] theorem nxt_ex {f : MS} {x : Exn} : nxt f Q E (.ex x ρ) m = Q (.ex x ρ) m := rfl
def fin (Q : MV → Mem → Prop) (E : Exn → Mem → Prop) : Fl → Mem → Prop := fun a m => match a with
  | .nx _ => Q .non m
  | .rt d => Q d m
  | .ex x _ => E x m
  | _ => False
@[simp] theorem W_end {r : Re Fl} {Q : MV → Mem → Prop} : W (endOf r) Q E = W r (fin Q E) E0 := by
  cases r with
  | ok a m => cases a <;> rfl
  | ex x m => rfl
  | stuck => rfl
@[simp] theorem fin_nx {Q : MV → Mem → Prop} : fin Q E (.nx ρ) m = Q .non m := rfl
@[simp] theorem fin_rt {Q : MV → Mem → Prop} {d : MV} : fin Q E (.rt d) m = Q d m := rfl
@[simp] theorem fin_ex {Q : MV → Mem → Prop} {x : Exn} : fin Q E (.ex x ρ) m = E x m := rfl
@[simp] theorem W_ifS {c : MT} {f g : MS} : W (mIfS c f g ρ m) Q E = W (c ρ m) (fun b m => if b = true then W (f ρ m) Q E else W (g ρ m) Q E) (fun x m => Q (.ex x ρ) m) := by
  unfold mIfS
  rw [W_onE]
  congr 1
  funext b m
  rw [W_ite]
@[simp] theorem W_asg {f : ME} {i : Nat} : W (mAsg f (nName i) ρ m) Q E = W (f ρ m) (fun d m => Q (.nx (ρ.set i (some d))) m) (fun x m => Q (.ex x ρ) m) := by
  unfold mAsg nName
  rw [W_onE]
  rfl
@[simp] theorem W_ret {f : ME} : W (mRet f ρ m) Q E = W (f ρ m) (fun d m => Q (.rt d) m) (fun x m => Q (.ex x ρ) m) := by
  unfold mRet
  rw [W_onE]
  rfl
@[simp] theorem W_drop {f : ME} : W (mDrop f ρ m) Q E = W (f ρ m) (fun _ m => Q (.nx ρ) m) (fun x m => Q (.ex x ρ) m) := by
  unfold mDrop
  rw [W_onE]
  rfl
@[simp] theorem W_skip : W (mSkip ρ m) Q E = Q (.nx ρ) m := rfl
@[simp] theorem W_retN : W (mRetN ρ m) Q E = Q (.rt .non) m := rfl
@[simp] theorem W_raise {x : Str} : W (mRaise x ρ m) Q E = Q (.ex ⟨x⟩ ρ) m := rfl
end
section
variable {ρ : Env} {m : Mem} {Q : MV → Mem → Prop} {E : Exn → Mem → Prop}
@[simp] theorem W_C {d : MV} : W (mC d ρ m) Q E = Q d m := rfl
@[simp] theorem W_bin {g : MV → MV → Mem → Re MV} {f k : ME} : W (mBin g f k ρ m) Q E = W (f ρ m) (fun a m => W (k ρ m) (fun b m => W (g a b m) Q E) E) E := by
  unfold mBin
  simp only [W_bind]
@[simp] theorem W_call {F : MF} {g : MA} : W (mCall F g ρ m) Q E = W (g ρ m) (fun ds m => W (F ds m) Q E) E := by
  unfold mCall
  simp only [W_bind]
@[simp] theorem W_nil {Q : List MV → Mem → Prop} : W (mNil ρ m) Q E = Q [] m := rfl
@[simp] theorem W_cons {f : ME} {g : MA} {Q : List MV → Mem → Prop} : W (mCons f g ρ m) Q E = W (f ρ m) (fun d m => W (g ρ m) (fun ds m => Q (d :: ds) m) E) E := by
  unfold mCons
  simp only [W_bind, W_ok]
@[simp] theorem W_B {f : ME} {Q : Bool → Mem → Prop} : W (mB f ρ m) Q E = W (f ρ m) (fun d m => match d with | .bl b => Q b m | _ => False) E := by
  unfold mB
  rw [W_bind]
  congr 1
  funext d m
  cases d <;> rfl
@[simp] theorem W_tru {f : ME} {Q : Bool → Mem → Prop} : W (mTru f ρ m) Q E = W (f ρ m) (fun d m => match tru m d with | some b => Q b m | none => False) E := by
  unfold mTru
  rw [W_bind]
  congr 1
  funext d m
  cases tru m d <;> rfl
@[simp] theorem W_notT {f : MT} {Q : Bool → Mem → Prop} : W (mNotT f ρ m) Q E = W (f ρ m) (fun b m => Q (!b) m) E := by
  unfold mNotT
  rw [W_bind]
  rfl
@[simp] theorem W_andT {f g : MT} {Q : Bool → Mem → Prop} : W (mAndT f g ρ m) Q E = W (f ρ m) (fun b m => if b = true then W (g ρ m) Q E else Q false m) E := by
  unfold mAndT
  rw [W_bind]
  congr 1
  funext b m
  rw [W_ite]
  rfl
@[simp] theorem W_orT {f g : MT} {Q : Bool → Mem → Prop} : W (mOrT f g ρ m) Q E = W (f ρ m) (fun b m => if b = true then Q true m else W (g ρ m) Q E) E := by
  unfold mOrT
  rw [W_bind]
  congr 1
  funext b m
  rw [W_ite]
  rfl
@[simp] theorem W_and {f g : ME} : W (mAnd f g ρ m) Q E = W (f ρ m) (fun d m => match tru m d with | some true => W (g ρ m) Q E | some false => Q d m | none => False) E := by
  unfold mAnd
  rw [W_bind]
  congr 1
  funext d m
  cases tru m d with
  | none => rfl
  | some b => cases b <;> rfl
@[simp] theorem W_or {f g : ME} : W (mOr f g ρ m) Q E = W (f ρ m) (fun d m => match tru m d with | some true => Q d m | some false => W (g ρ m) Q E | none => False) E := by
  unfold mOr
  rw [W_bind]
  congr 1
  funext d m
  cases tru m d with
  | none => rfl
  | some b => cases b <;> rfl
@[simp] theorem W_not {f : ME} : W (mNot f ρ m) Q E = W (f ρ m) (fun d m => match tru m d with | some b => Q (.bl (!b)) m | none => False) E := by
  unfold mNot
  rw [W_bind]
  congr 1
  funext d m
  cases tru m d <;> rfl
@[simp] theorem W_if {c : MT} {f g : ME} : W (mIf c f g ρ m) Q E = W (c ρ m) (fun b m => if b = true then W (f ρ m) Q E else W (g ρ m) Q E) E := by
  unfold mIf
  rw [W_bind]
  congr 1
  funext b m
  rw [W_ite]
@[simp] theorem W_tup {g : MA} : W (mTup g ρ m) Q E = W (g ρ m) (fun ds m => ds.length ≤ sizeLine ∧ Q (.tup ds) m) E := by
  unfold mTup
  rw [W_bind]
  congr 1
  funext ds m
  rw [W_ite]
  by_cases h : ds.length ≤ sizeLine
  · rw [if_pos h]; simp [h]
  · rw [if_neg h]; simp [h]
@[simp] theorem W_lst {g : MA} : W (mLst g ρ m) Q E = W (g ρ m) (fun ds m => ds.length ≤ sizeLine ∧ Q (.ref m.length) (m ++ [.lst ds])) E := by
  unfold mLst
  rw [W_bind]
  congr 1
  funext ds m
  rw [W_ite]
  by_cases h : ds.length ≤ sizeLine
  · rw [if_pos h]; simp [h, alloc]
  · rw [if_neg h]; simp [h]
@[simp] theorem W_star {f : ME} {g : MA} {Q : List MV → Mem → Prop} : W (mStar f g ρ m) Q E = W (f ρ m) (fun d m => match seqOf m d with | some l => W (g ρ m) (fun ds m => Q (l ++ ds) m) E | none => False) E := by
  unfold mStar
  rw [W_bind]
  congr 1
  funext d m
  cases seqOf m d with
  | none => rfl
  | some l => simp
@[simp] theorem W_sl {f : ME} {l h : MO'} : W (mSl f l h ρ m) Q E = W (f ρ m) (fun d m => W (l ρ m) (fun lo m => W (h ρ m) (fun hi m => W (gSl d lo hi m) Q E) E) E) E := by
  unfold mSl
  simp only [W_bind]
@[simp] theorem W_no {Q : Option Int → Mem → Prop} : W (mNo ρ m) Q E = Q none m := rfl
@[simp] theorem W_endO {f : ME} {Q : Option Int → Mem → Prop} : W (mEnd f ρ m) Q E = W (f ρ m) (fun d m => match d with | .int i => Q (some i) m | _ => False) E := by
  unfold mEnd
  rw [W_bind]
  congr 1
  funext d m
  cases d <;> rfl
@[simp] theorem W_dnew : W (mDNew ρ m) Q E = Q (.ref m.length) (m ++ [.dct []]) := rfl
@[simp] theorem W_isi {T : String} {f : ME} : W (mIsi T f ρ m) Q E = W (f ρ m) (fun d m => match (tyM m d).bind fun t => kitB t T with | some b => Q (.bl b) m | none => False) E := by
  unfold mIsi
  rw [W_bind]
  congr 1
  funext d m
  cases (tyM m d).bind fun t => kitB t T <;> rfl
@[simp] theorem W_bm {g : MV → List MV → Mem → Re MV} {f : ME} {a : MA} : W (mBM g f a ρ m) Q E = W (f ρ m) (fun d m => if (lstOf m d).isSome = true then W (a ρ m) (fun ds m => W (g d ds m) Q E) E else False) E := by
  unfold mBM
  rw [W_bind]
  congr 1
  funext d m
  rw [W_ite]
  simp only [W_bind, W_stuck]
@[simp] theorem W_chain {g g' : MV → MV → Mem → Re MV} {fa fb fc : ME} : W (mChain g g' fa fb fc ρ m) Q E = W (fa ρ m) (fun a m => W (fb ρ m) (fun b m => W (g a b m) (fun r m => match r with | .bl true => W (fc ρ m) (fun c m => W (g' b c m) Q E) E | .bl false => Q (.bl false) m | _ => False) E) E) E := by
  unfold mChain
  simp only [W_bind]
  congr 1
  funext a m
  congr 1
  funext b m
  congr 1
  funext r m
  cases r with
  | bl b => cases b <;> simp
  | _ => rfl
@[simp] theorem W_neg {f : ME} : W (mNeg f ρ m) Q E = W (f ρ m) (fun d m => match d with | .int i => Q (.int (-i)) m | _ => False) E := by
  unfold mNeg
  rw [W_bind]
  congr 1
  funext d m
  cases d <;> rfl
end
section
variable {ρ : Env} {m : Mem} {E : Exn → Mem → Prop}
@[simp] theorem W_for {h : MI'} {g : MG} {body : MS} {Q : Fl → Mem → Prop} : W (mFor h g body ρ m) Q E = W (h ρ m) (fun it m => W (loopM it.chk g body it.items ρ m) Q E) (fun x m => Q (.ex x ρ) m) := by
  unfold mFor
  rw [W_onE]
@[simp] theorem W_lc {h : MI'} {g : NG} {t : MT} {e : ME} {vs : List Nat} {Q : MV → Mem → Prop} : W (mLc h g t e vs ρ m) Q E = W (h ρ m) (fun it m => W (lcM it.chk g t e (wipeM ρ vs) it.items [] m) (fun l m => Q (.ref m.length) (m ++ [.lst l])) E) E := by
  unfold mLc
  simp only [W_bind]
  rfl
/-- a for loop over names: what holds at every turn -/
theorem W_loop {chk : Mem → Prop} {i : Nat} {body : MS} {Q : Fl → Mem → Prop} (I : List MV → Env → Mem → Prop) : ∀ (l : List MV) (ρ : Env) (m : Mem), I l ρ m → (∀ l ρ m, I l ρ m → chk m) →
    (∀ d l ρ m, I (d :: l) ρ m → W (body (ρ.set i (some d)) m) (fun a m => match a with | .nx ρ' => I l ρ' m | .ct ρ' => I l ρ' m | .bk ρ' => Q (.nx ρ') m | a => Q a m) E) → (∀ ρ m, I [] ρ m → Q (.nx ρ) m) → W (loopM chk (nName i) body l ρ m) Q E
  | [], ρ, m, h, hc, _, hd => by
    unfold loopM
    rw [if_pos (hc _ _ _ h)]
    exact hd _ _ h
  | d :: l, ρ, m, h, hc, hs, hd => by
    unfold loopM
    rw [if_pos (hc _ _ _ h)]
    show W (match body (ρ.set i (some d)) m with
      | .ok (.nx ρ2) m2 => loopM chk (nName i) body l ρ2 m2
      | .ok (.ct ρ2) m2 => loopM chk (nName i) body l ρ2 m2
      | .ok (.bk ρ2) m2 => .ok (.nx ρ2) m2
      | q => q) Q E
    have q := hs d l ρ m h
    cases hb : body (ρ.set i (some d)) m with
    | stuck => rw [hb] at q; exact q
    | ex x m' => rw [hb] at q; exact q
    | ok a m' =>
      rw [hb] at q
      cases a with
      | nx ρ' => exact W_loop I l ρ' m' q hc hs hd
      | ct ρ' => exact W_loop I l ρ' m' q hc hs hd
      | bk ρ' => exact q
      | rt d => exact q
      | ex x ρ' => exact q
/-- a comprehension: what holds at every turn -/
theorem W_lcs {chk : Mem → Prop} {g : NG} {t : MT} {e : ME} {Q : List MV → Mem → Prop} (I : List MV → List MV → Mem → Prop) : ∀ (l acc : List MV) (m : Mem), I l acc m → (∀ l acc m, I l acc m → chk m) →
    (∀ d l acc m, I (d :: l) acc m → ∃ as, g d m = some as ∧ W (t (setE ρ as) m) (fun b m => if b = true then W (e (setE ρ as) m) (fun y m => acc.length < sizeLine ∧ I l (acc ++ [y]) m) E0 else I l acc m) E0) → (∀ acc m, I [] acc m → Q acc m) → W (lcM chk g t e ρ l acc m) Q E
  | [], acc, m, h, hc, _, hd => by
    unfold lcM
    rw [if_pos (hc _ _ _ h)]
    exact hd _ _ h
  | d :: l, acc, m, h, hc, hs, hd => by
    unfold lcM
    rw [if_pos (hc _ _ _ h)]
    obtain ⟨as, e1, q⟩ := hs d l acc m h
    rw [e1]
    dsimp only
    cases ht : t (setE ρ as) m with
    | stuck => rw [ht] at q; exact q.elim
    | ex x m' => rw [ht] at q; exact q.elim
    | ok b m' =>
      rw [ht] at q
      cases b with
      | false => exact W_lcs I l acc m' q hc hs hd
      | true =>
        have q : W (e (setE ρ as) m') (fun y m => acc.length < sizeLine ∧ I l (acc ++ [y]) m) E0 := q
        dsimp only
        cases he : e (setE ρ as) m' with
        | stuck => rw [he] at q; exact q.elim
        | ex x m2 => rw [he] at q; exact q.elim
        | ok y m2 =>
          rw [he] at q
          dsimp only
          rw [if_pos q.1]
          exact W_lcs I l (acc ++ [y]) m2 q.2 hc hs hd
end
section
variable {ρ : Env} {m : Mem} {E : Exn → Mem → Prop}
@[simp] theorem W_vr {i : Nat} {Q : MV → Mem → Prop} : W (mVar i ρ m) Q E = match ρ[i]? with | some (some d) => Q d m | _ => False := by
  unfold mVar
  cases ρ[i]? with
  | none => rfl
  | some o => cases o <;> rfl
theorem W_asgT {f : ME} {n : Nat} {k : MGs} {Q : Fl → Mem → Prop} : W (mAsg f (nTup n k) ρ m) Q E = W (f ρ m) (fun d m => match seqOf m d with
    | some l => if l.length = n then (match k l ρ m with | .ok ρ' m' => Q (.nx ρ') m' | _ => False) else False
    | none => False) (fun x m => Q (.ex x ρ) m) := by
  unfold mAsg nTup
  rw [W_onE]
  congr 1
  funext d m
  cases seqOf m d with
  | none => rfl
  | some l =>
    by_cases h : l.length = n
    · simp only [h, if_true]
      cases k l ρ m <;> rfl
    · simp only [h, if_false]
      rfl
@[simp] theorem W_store {fo fi fv : ME} {Q : Fl → Mem → Prop} : W (mStore fo fi fv ρ m) Q E = W (fv ρ m) (fun v m1 => W (fo ρ m1) (fun d m2 => match dctOf m2 d with
    | some _ => W (fi ρ m2) (fun k m3 => match dctOf m3 d, keyOf k with
      | some (n, l), some q => if l.length < sizeLine then Q (.nx ρ) (m3.set n (.dct (putM l q v))) else False
      | _, _ => False) (fun x m => Q (.ex x ρ) m)
    | none => W (fi ρ m2) (fun k m3 => match k with
      | .int k => match mutOf m3 d with
        | some (n, l) => match ixN l.length k with
          | some j => Q (.nx ρ) (m3.set n (.lst (l.set j v)))
          | none => False
        | none => False
      | _ => False) E0) (fun x m => Q (.ex x ρ) m)) (fun x m => Q (.ex x ρ) m) := by
  unfold mStore
  simp only [W_onE]
  congr 1
  funext v m1
  congr 1
  funext d m2
  cases dctOf m2 d with
  | some p =>
    simp only [W_onE]
    congr 1
    funext k m3
    cases dctOf m3 d with
    | none => rfl
    | some p =>
      obtain ⟨n, l⟩ := p
      cases keyOf k with
      | none => rfl
      | some q => simp only [W_ite, W_ok, W_stuck]
  | none =>
    dsimp only
    cases fi ρ m2 with
    | stuck => rfl
    | ex x m => rfl
    | ok k m3 =>
      cases k with
      | int k =>
        dsimp only [W_ok]
        cases mutOf m3 d with
        | none => rfl
        | some p =>
          obtain ⟨n, l⟩ := p
          dsimp only
          cases ixN l.length k <;> rfl
      | _ => rfl
@[simp] theorem W_aug {i : Nat} {g : MV → MV → Mem → Re MV} {f : ME} {Q : Fl → Mem → Prop} : W (mAug i g f ρ m) Q E = match ρ[i]? with
    | some (some d) => W (f ρ m) (fun e m1 => W (g d e m1) (fun r m2 => Q (.nx (ρ.set i (some r))) m2) (fun x m => Q (.ex x ρ) m)) (fun x m => Q (.ex x ρ) m)
    | _ => False := by
  unfold mAug
  cases ρ[i]? with
  | none => rfl
  | some o =>
    cases o with
    | none => rfl
    | some d =>
      simp only [W_onE]
      rfl
end
end MI
namespace MI
open PySem L2
section
variable {m : Mem} {Q : MV → Mem → Prop} {E : Exn → Mem → Prop}
@[simp] theorem W_add_i {i j : Int} : W (gAdd (.int i) (.int j) m) Q E = Q (.int (i + j)) m := rfl
@[simp] theorem W_add_t {a b : List MV} : W (gAdd (.tup a) (.tup b) m) Q E = (a.length + b.length ≤ sizeLine ∧ Q (.tup (a ++ b)) m) := by
  show W (if a.length + b.length ≤ sizeLine then .ok (.tup (a ++ b)) m else .stuck) Q E = _
  by_cases h : a.length + b.length ≤ sizeLine <;> simp [h]
@[simp] theorem W_addI_i {i j : Int} : W (gAddI (.int i) (.int j) m) Q E = Q (.int (i + j)) m := rfl
theorem W_add_l {a b : Nat} {xs ys : List MV} (h1 : m[a]? = some (.lst xs)) (h2 : m[b]? = some (.lst ys)) : W (gAdd (.ref a) (.ref b) m) Q E = (xs.length + ys.length ≤ sizeLine ∧ Q (.ref m.length) (m ++ [.lst (xs ++ ys)])) := by
  have e1 : mutOf m (.ref a) = some (a, xs) := by simp [mutOf, h1]
  have e2 : mutOf m (.ref b) = some (b, ys) := by simp [mutOf, h2]
  show W (match mutOf m (.ref a), mutOf m (.ref b) with
    | some (_, xs), some (_, ys) => if xs.length + ys.length ≤ sizeLine then alloc (.lst (xs ++ ys)) m else .stuck
    | _, _ => .stuck) Q E = _
  rw [e1, e2]
  by_cases h : xs.length + ys.length ≤ sizeLine <;> simp [h, alloc]
@[simp] theorem W_sub_i {i j : Int} : W (gSub (.int i) (.int j) m) Q E = Q (.int (i - j)) m := rfl
@[simp] theorem W_mul_i {i j : Int} : W (gMul (.int i) (.int j) m) Q E = (((-(2 ^ 64) < i ∧ i < 2 ^ 64) ∨ (-(2 ^ 64) < j ∧ j < 2 ^ 64)) ∧ Q (.int (i * j)) m) := by
  show W (if (-(2 ^ 64) < i ∧ i < 2 ^ 64) ∨ (-(2 ^ 64) < j ∧ j < 2 ^ 64) then .ok (.int (i * j)) m else .stuck) Q E = _
  by_cases h : (-(2 ^ 64) < i ∧ i < 2 ^ 64) ∨ (-(2 ^ 64) < j ∧ j < 2 ^ 64)
  · rw [if_pos h]; simp only [W_ok, eq_iff_iff]; exact ⟨fun q => ⟨h, q⟩, fun q => q.2⟩
  · rw [if_neg h]; simp only [W_stuck, eq_iff_iff]; exact ⟨fun q => q.elim, fun q => h q.1⟩
@[simp] theorem W_mul_t {a : List MV} {k : Int} : W (gMul (.tup a) (.int k) m) Q E = ((0 < a.length ∧ 2 ≤ k ∧ k ≤ 1000 ∧ a.length ≤ 1000) ∧ Q (.tup (List.replicate k.toNat a).flatten) m) := by
  show W (if 0 < a.length ∧ 2 ≤ k ∧ k ≤ 1000 ∧ a.length ≤ 1000 then .ok (.tup (List.replicate k.toNat a).flatten) m else .stuck) Q E = _
  by_cases h : 0 < a.length ∧ 2 ≤ k ∧ k ≤ 1000 ∧ a.length ≤ 1000
  · rw [if_pos h]; simp only [W_ok, eq_iff_iff]; exact ⟨fun q => ⟨h, q⟩, fun q => q.2⟩
  · rw [if_neg h]; simp only [W_stuck, eq_iff_iff]; exact ⟨fun q => q.elim, fun q => h q.1⟩
@[simp] theorem W_mod_i {i j : Int} : W (gMod (.int i) (.int j) m) Q E = (0 < j ∧ Q (.int (i % j)) m) := by
  show W (if 0 < j then .ok (.int (i % j)) m else .stuck) Q E = _
  by_cases h : 0 < j <;> simp [h]
@[simp] theorem W_div_i {i j : Int} : W (gDiv (.int i) (.int j) m) Q E = (CDivW i j ∧ Q (.int (i / j)) m) := by
  show W (if CDivW i j then .ok (.int (i / j)) m else .stuck) Q E = _
  by_cases h : CDivW i j <;> simp [h]
@[simp] theorem W_pow_i {i j : Int} : W (gPow (.int i) (.int j) m) Q E = (CPowW i j ∧ Q (.int (i ^ j.toNat)) m) := by
  show W (if CPowW i j then .ok (.int (i ^ j.toNat)) m else .stuck) Q E = _
  by_cases h : CPowW i j <;> simp [h]
@[simp] theorem W_lt_i {i j : Int} : W (gLt (.int i) (.int j) m) Q E = Q (.bl (decide (i < j))) m := rfl
@[simp] theorem W_gt_i {i j : Int} : W (gGt (.int i) (.int j) m) Q E = Q (.bl (decide (j < i))) m := rfl
@[simp] theorem W_ge_i {i j : Int} : W (gGe (.int i) (.int j) m) Q E = Q (.bl (decide (j ≤ i))) m := rfl
@[simp] theorem W_le_i {i j : Int} : W (gLeS (.int i) (.int j) m) Q E = Q (.bl (decide (i ≤ j))) m := rfl
@[simp] theorem W_le_s {a b : Str} : W (gLeS (.str a) (.str b) m) Q E = Q (.bl (!decide (b.cps.toList < a.cps.toList))) m := rfl
@[simp] theorem W_isN {d : MV} : W (gIsN d .non m) Q E = Q (.bl (match d with | .non => true | _ => false)) m := rfl
@[simp] theorem W_notN {d : MV} : W (gNotN d .non m) Q E = Q (.bl (match d with | .non => false | _ => true)) m := rfl
@[simp] theorem W_int_i {i : Int} : W (gInt [.int i] m) Q E = Q (.int i) m := rfl
@[simp] theorem W_int_b {b : Bool} : W (gInt [.bl b] m) Q E = Q (.int (if b = true then 1 else 0)) m := rfl
@[simp] theorem W_abs_i {i : Int} : W (gAbs [.int i] m) Q E = Q (.int (if i < 0 then -i else i)) m := rfl
@[simp] theorem W_min2 {i j : Int} : W (gMin [.int i, .int j] m) Q E = Q (.int (if j < i then j else i)) m := rfl
@[simp] theorem W_min3 {i j k : Int} : W (gMin [.int i, .int j, .int k] m) Q E = Q (.int (if k < (if j < i then j else i) then k else (if j < i then j else i))) m := rfl
@[simp] theorem W_len {d : MV} : W (gLen [d] m) Q E = match lenM m d with | some n => Q (.int (n : Int)) m | none => False := by
  show W (match lenM m d with | some n => .ok (.int (n : Int)) m | none => .stuck) Q E = _
  cases lenM m d <;> rfl
@[simp] theorem W_list {d : MV} : W (gList [d] m) Q E = match seqOf m d with | some l => Q (.ref m.length) (m ++ [.lst l]) | none => False := by
  show W (match seqOf m d with | some l => alloc (.lst l) m | none => .stuck) Q E = _
  cases seqOf m d <;> rfl
@[simp] theorem W_tuple {d : MV} : W (gTuple [d] m) Q E = match seqOf m d with | some l => Q (.tup l) m | none => False := by
  show W (match seqOf m d with | some l => .ok (.tup l) m | none => .stuck) Q E = _
  cases seqOf m d <;> rfl
@[simp] theorem lstOf_ref {n : Nat} : lstOf m (.ref n) = match m[n]? with | some (.lst l) => some l | some (.frz l) => some l | _ => none := rfl
@[simp] theorem lstOf_kl {l : List MV} : lstOf m (.kl l) = some l := rfl
@[simp] theorem lstOf_tup {l : List MV} : lstOf m (.tup l) = none := rfl
@[simp] theorem lstOf_str {z : Str} : lstOf m (.str z) = none := rfl
@[simp] theorem lstOf_int {z : Int} : lstOf m (.int z) = none := rfl
@[simp] theorem lstOf_non : lstOf m .non = none := rfl
@[simp] theorem seqOf_tup {l : List MV} : seqOf m (.tup l) = some l := rfl
@[simp] theorem seqOf_ref {n : Nat} : seqOf m (.ref n) = match m[n]? with | some (.lst l) => some l | some (.frz l) => some l | _ => none := rfl
@[simp] theorem seqOf_kl {l : List MV} : seqOf m (.kl l) = some l := rfl
@[simp] theorem mutOf_ref {n : Nat} : mutOf m (.ref n) = match m[n]? with | some (.lst l) => some (n, l) | _ => none := rfl
@[simp] theorem mutOf_tup {l : List MV} : mutOf m (.tup l) = none := rfl
@[simp] theorem dctOf_ref {n : Nat} : dctOf m (.ref n) = match m[n]? with | some (.dct l) => some (n, l) | _ => none := rfl
@[simp] theorem dctOf_tup {l : List MV} : dctOf m (.tup l) = none := rfl
@[simp] theorem dctOf_str {l : Str} : dctOf m (.str l) = none := rfl
@[simp] theorem dctOf_kl {l : List MV} : dctOf m (.kl l) = none := rfl
@[simp] theorem lenM_tup {l : List MV} : lenM m (.tup l) = some l.length := rfl
@[simp] theorem lenM_kl {l : List MV} : lenM m (.kl l) = some l.length := rfl
@[simp] theorem lenM_str {z : Str} : lenM m (.str z) = if z.length ≤ sizeLine then some z.length else none := rfl
@[simp] theorem lenM_ref {n : Nat} : lenM m (.ref n) = match m[n]? with | some (.lst l) => some l.length | some (.frz l) => some l.length | some (.dct l) => some l.length | _ => none := by
  show (match dctOf m (.ref n) with
    | some (_, l) => some l.length
    | none => (lstOf m (.ref n)).map List.length) = _
  simp only [dctOf_ref, lstOf_ref]
  cases m[n]? with
  | none => rfl
  | some o => cases o <;> rfl
@[simp] theorem W_item_t {l : List MV} {i : Int} : W (gItem (.tup l) (.int i) m) Q E = match atM l i with | some e => Q e m | none => False := by
  show W (match atM l i with | some e => .ok e m | none => .stuck) Q E = _
  cases atM l i <;> rfl
@[simp] theorem W_item_k {l : List MV} {i : Int} : W (gItem (.kl l) (.int i) m) Q E = match atM l i with | some e => Q e m | none => False := by
  show W (match atM l i with | some e => .ok e m | none => .stuck) Q E = _
  cases atM l i <;> rfl
@[simp] theorem W_item_r {n : Nat} {i : Int} : W (gItem (.ref n) (.int i) m) Q E = match m[n]? with
    | some (.lst l) => (match atM l i with | some e => Q e m | none => False)
    | some (.frz l) => (match atM l i with | some e => Q e m | none => False)
    | some (.dct l) => (match valM l (.inl i) with | some e => Q e m | none => False)
    | _ => False := by
  unfold gItem gDGet gIx
  simp only [dctOf_ref, seqOf_ref]
  cases h : m[n]? with
  | none => simp [h]
  | some o =>
    cases o with
    | lst l => cases h2 : atM l i <;> simp [h, h2]
    | frz l => cases h2 : atM l i <;> simp [h, h2]
    | dct l => cases h2 : valM l (.inl i) <;> simp [h, h2, keyOf]
    | exn x => simp [h]
    | own c l => simp [h]
@[simp] theorem W_sl_t {l : List MV} {lo hi : Option Int} : W (gSl (.tup l) lo hi m) Q E = Q (.tup (cutM l lo hi)) m := rfl
@[simp] theorem W_sl_k {l : List MV} {lo hi : Option Int} : W (gSl (.kl l) lo hi m) Q E = Q (.ref m.length) (m ++ [.lst (cutM l lo hi)]) := rfl
@[simp] theorem W_append {n : Nat} {e : MV} : W (gAppend (.ref n) [e] m) Q E = match m[n]? with | some (.lst l) => l.length < sizeLine ∧ Q .non (m.set n (.lst (l ++ [e]))) | _ => False := by
  unfold gAppend
  simp only [mutOf_ref]
  cases h : m[n]? with
  | none => rfl
  | some o =>
    cases o with
    | lst l => by_cases q : l.length < sizeLine <;> simp [q]
    | _ => rfl
@[simp] theorem W_extend {n k : Nat} : W (gExtend (.ref n) [.ref k] m) Q E = match m[n]?, m[k]? with | some (.lst l), some (.lst l') => l.length + l'.length ≤ sizeLine ∧ Q .non (m.set n (.lst (l ++ l'))) | _, _ => False := by
  unfold gExtend
  simp only [mutOf_ref]
  cases h : m[n]? with
  | none => rfl
  | some o =>
    cases o with
    | lst l =>
      cases h2 : m[k]? with
      | none => rfl
      | some o2 =>
        cases o2 with
        | lst l' => by_cases q : l.length + l'.length ≤ sizeLine <;> simp [q]
        | _ => rfl
    | _ => rfl
@[simp] theorem W_pop {n : Nat} : W (gPop (.ref n) [] m) Q E = match m[n]? with | some (.lst l) => (match l[l.length - 1]? with | some e => Q e (m.set n (.lst l.dropLast)) | none => False) | _ => False := by
  unfold gPop
  simp only [mutOf_ref]
  cases h : m[n]? with
  | none => rfl
  | some o =>
    cases o with
    | lst l => cases q : l[l.length - 1]? <;> simp [q]
    | _ => rfl
@[simp] theorem W_eq_s {a b : Str} {neg : Bool} : W (gEqA neg (.str a) (.str b) m) Q E = Q (.bl (if neg = true then !decide (a = b) else decide (a = b))) m := by
  unfold gEqA gEqS
  simp [eqS]
@[simp] theorem W_eq_i {a b : Int} {neg : Bool} : W (gEqA neg (.int a) (.int b) m) Q E = Q (.bl (if neg = true then !decide (a = b) else decide (a = b))) m := by
  unfold gEqA gEqS
  simp [eqS]
@[simp] theorem tru_bl {b : Bool} : tru m (.bl b) = some b := rfl
@[simp] theorem tru_non : tru m .non = some false := rfl
@[simp] theorem tru_int {i : Int} : tru m (.int i) = some (i != 0) := rfl
@[simp] theorem tru_tup {l : List MV} : tru m (.tup l) = some (!l.isEmpty) := rfl
@[simp] theorem tru_ref {n : Nat} : tru m (.ref n) = truO m[n]? := rfl
@[simp] theorem W_any {ρ : Env} {f : ME} {Q : IterM → Mem → Prop} : W (mAnyI f ρ m) Q E = W (f ρ m) (fun d m => W (seqIt d m) Q E) E := by
  unfold mAnyI
  simp only [W_bind]
@[simp] theorem W_it_t {l : List MV} {Q : IterM → Mem → Prop} : W (seqIt (.tup l) m) Q E = Q ⟨l, fun _ => True⟩ m := rfl
@[simp] theorem W_it_s {z : Str} {Q : IterM → Mem → Prop} : W (seqIt (.str z) m) Q E = Q ⟨z.cps.toList.map fun c => .str ⟨#[c]⟩, fun _ => True⟩ m := rfl
@[simp] theorem W_it_r {n : Nat} {Q : IterM → Mem → Prop} : W (seqIt (.ref n) m) Q E = match m[n]? with
    | some (.lst l) => Q ⟨l, fun m' => lstOf m' (.ref n) = some l⟩ m
    | some (.frz l) => Q ⟨l, fun m' => lstOf m' (.ref n) = some l⟩ m
    | _ => False := by
  unfold seqIt
  simp only [lstOf_ref]
  cases h : m[n]? with
  | none => rfl
  | some o => cases o <;> rfl
@[simp] theorem W_rng {ρ : Env} {g : MA} {Q : IterM → Mem → Prop} : W (mRng g ρ m) Q E = W (g ρ m) (fun ds m => W (rngOf ds m) Q E) E := by
  unfold mRng
  simp only [W_bind]
@[simp] theorem W_rng1 {j : Int} {Q : IterM → Mem → Prop} : W (rngOf [.int j] m) Q E = ((-(2 ^ 62) ≤ j ∧ j < 2 ^ 62) ∧ Q ⟨rngL 0 j.toNat, fun _ => True⟩ m) := by
  show W (if -(2 ^ 62) ≤ j ∧ j < 2 ^ 62 then .ok ⟨rngL 0 j.toNat, fun _ => True⟩ m else .stuck) Q E = _
  by_cases h : -(2 ^ 62) ≤ j ∧ j < 2 ^ 62
  · rw [if_pos h]; simp only [W_ok, eq_iff_iff]; exact ⟨fun q => ⟨h, q⟩, fun q => q.2⟩
  · rw [if_neg h]; simp only [W_stuck, eq_iff_iff]; exact ⟨fun q => q.elim, fun q => h q.1⟩
@[simp] theorem W_enum {ρ : Env} {g : MA} {Q : IterM → Mem → Prop} : W (mEnum g ρ m) Q E = W (g ρ m) (fun ds m => W (enumOf ds m) Q E) E := by
  unfold mEnum
  simp only [W_bind]
@[simp] theorem W_enum_t {l : List MV} {Q : IterM → Mem → Prop} : W (enumOf [.tup l] m) Q E = Q ⟨numd l, fun _ => True⟩ m := rfl
end
end MI
namespace MI
open PySem L2
section
variable {m : Mem} {E : Exn → Mem → Prop}
theorem szl {n : Nat} (h : n ≤ 1000) : n ≤ sizeLine := Nat.le_of_lt (small1000 h)
/-- a comprehension that changes nothing -/
theorem lc_pure {chk : Mem → Prop} {i : Nat} {t : MT} {e : ME} {ρ : Env} (φ : MV → MV) (ψ : MV → Bool) : ∀ (l acc : List MV), chk m → (∀ d ∈ l, t (ρ.set i (some d)) m = .ok (ψ d) m ∧ (ψ d = true → e (ρ.set i (some d)) m = .ok (φ d) m)) → acc.length + l.length ≤ 1000 →
    lcM chk (ngName i) t e ρ l acc m = .ok (acc ++ (l.filter ψ).map φ) m
  | [], acc, hc, _, _ => by
    unfold lcM
    rw [if_pos hc]
    simp
  | d :: l, acc, hc, h, hl => by
    unfold lcM
    rw [if_pos hc]
    obtain ⟨h1, h2⟩ := h d List.mem_cons_self
    show (match t (ρ.set i (some d)) m with
      | .ok true m2 => match e (ρ.set i (some d)) m2 with
        | .ok y m3 => if acc.length < sizeLine then lcM chk (ngName i) t e ρ l (acc ++ [y]) m3 else .stuck
        | _ => .stuck
      | .ok false m2 => lcM chk (ngName i) t e ρ l acc m2
      | _ => .stuck) = _
    rw [h1]
    simp only [List.length_cons] at hl
    cases hp : ψ d with
    | false =>
      dsimp only
      rw [lc_pure φ ψ l acc hc (fun x hx => h x (List.mem_cons_of_mem _ hx)) (by omega), List.filter_cons, hp]
      simp
    | true =>
      dsimp only
      rw [h2 hp]
      dsimp only
      rw [if_pos (Nat.lt_of_lt_of_le (by omega) (szl (n := 1000) (Nat.le_refl _))), lc_pure φ ψ l (acc ++ [φ d]) hc (fun x hx => h x (List.mem_cons_of_mem _ hx)) (by simp; omega), List.filter_cons, hp]
      simp
theorem W_pure {chk : Mem → Prop} {i : Nat} {t : MT} {e : ME} {ρ : Env} {Q : List MV → Mem → Prop} (φ : MV → MV) (ψ : MV → Bool) {l : List MV} (hc : chk m) (h : ∀ d ∈ l, t (ρ.set i (some d)) m = .ok (ψ d) m ∧ (ψ d = true → e (ρ.set i (some d)) m = .ok (φ d) m)) (hl : l.length ≤ 1000) (q : Q ((l.filter ψ).map φ) m) :
    W (lcM chk (ngName i) t e ρ l [] m) Q E := by
  rw [lc_pure φ ψ l [] hc h (by simpa using hl)]
  simpa using q
theorem filter_all {l : List MV} : l.filter (fun _ => true) = l := by simp
/-- a for loop over any target -/
theorem W_loopG {chk : Mem → Prop} {g : MG} {body : MS} {Q : Fl → Mem → Prop} (I : List MV → Env → Mem → Prop) : ∀ (l : List MV) (ρ : Env) (m : Mem), I l ρ m → (∀ l ρ m, I l ρ m → chk m) →
    (∀ d l ρ m, I (d :: l) ρ m → ∃ ρ1, g d ρ m = .ok ρ1 m ∧ W (body ρ1 m) (fun a m => match a with | .nx ρ' => I l ρ' m | .ct ρ' => I l ρ' m | .bk ρ' => Q (.nx ρ') m | a => Q a m) E) → (∀ ρ m, I [] ρ m → Q (.nx ρ) m) → W (loopM chk g body l ρ m) Q E
  | [], ρ, m, h, hc, _, hd => by
    unfold loopM
    rw [if_pos (hc _ _ _ h)]
    exact hd _ _ h
  | d :: l, ρ, m, h, hc, hs, hd => by
    unfold loopM
    rw [if_pos (hc _ _ _ h)]
    obtain ⟨ρ1, e1, q⟩ := hs d l ρ m h
    rw [e1]
    dsimp only
    cases hb : body ρ1 m with
    | stuck => rw [hb] at q; exact q
    | ex x m' => rw [hb] at q; exact q
    | ok a m' =>
      rw [hb] at q
      cases a with
      | nx ρ' => exact W_loopG I l ρ' m' q hc hs hd
      | ct ρ' => exact W_loopG I l ρ' m' q hc hs hd
      | bk ρ' => exact q
      | rt d => exact q
      | ex x ρ' => exact q
@[simp] theorem W_inK {tbl : List (Str × MV)} {f : ME} {ρ : Env} {Q : MV → Mem → Prop} : W (mInK tbl f ρ m) Q E = W (f ρ m) (fun d m => match d with | .str z => Q (.bl (tbl.lookup z).isSome) m | _ => False) E := by
  unfold mInK
  rw [W_bind]
  congr 1
  funext d m
  cases d <;> rfl
@[simp] theorem W_itemK {tbl : List (Str × MV)} {f : ME} {ρ : Env} {Q : MV → Mem → Prop} : W (mItemK tbl f ρ m) Q E = W (f ρ m) (fun d m => match d with | .str z => (match tbl.lookup z with | some c => Q c m | none => False) | _ => False) E := by
  unfold mItemK
  rw [W_bind]
  congr 1
  funext d m
  cases d with
  | str z => dsimp only; cases tbl.lookup z <;> rfl
  | _ => rfl
/-- a while loop: I n, n the turns that may be left -/
theorem W_while {c : MT} {f : MS} {Q : Fl → Mem → Prop} (I : Nat → Env → Mem → Prop) (hs : ∀ n ρ m, I n ρ m → W (c ρ m) (fun b m1 => if b = true then ∃ n', n = n' + 1 ∧ W (f ρ m1) (fun a m2 => match a with | .nx ρ' => ∃ j, j ≤ n' ∧ I j ρ' m2 | .ct ρ' => ∃ j, j ≤ n' ∧ I j ρ' m2 | .bk ρ' => Q (.nx ρ') m2 | a => Q a m2) E else Q (.nx ρ) m1) E0) :
    ∀ (fuel n : Nat) (ρ : Env) (m : Mem), I n ρ m → n < fuel → W (whileM c f fuel ρ m) Q E
  | 0, n, ρ, m, _, hl => by omega
  | fuel + 1, n, ρ, m, h, hl => by
    have q := hs n ρ m h
    show W (onE ρ (c ρ m) fun b m1 => if b = true then (match f ρ m1 with
      | .ok (.nx ρ2) m2 => whileM c f fuel ρ2 m2
      | .ok (.ct ρ2) m2 => whileM c f fuel ρ2 m2
      | .ok (.bk ρ2) m2 => .ok (.nx ρ2) m2
      | q => q) else .ok (.nx ρ) m1) Q E
    cases hc : c ρ m with
    | stuck => rw [hc] at q; exact q.elim
    | ex x m1 => rw [hc] at q; exact q.elim
    | ok b m1 =>
      rw [hc] at q
      have q : if b = true then ∃ n', n = n' + 1 ∧ W (f ρ m1) (fun a m2 => match a with | .nx ρ' => ∃ j, j ≤ n' ∧ I j ρ' m2 | .ct ρ' => ∃ j, j ≤ n' ∧ I j ρ' m2 | .bk ρ' => Q (.nx ρ') m2 | a => Q a m2) E else Q (.nx ρ) m1 := q
      show W (if b = true then (match f ρ m1 with
        | .ok (.nx ρ2) m2 => whileM c f fuel ρ2 m2
        | .ok (.ct ρ2) m2 => whileM c f fuel ρ2 m2
        | .ok (.bk ρ2) m2 => .ok (.nx ρ2) m2
        | q => q) else .ok (.nx ρ) m1) Q E
      cases b with
      | false => exact q
      | true =>
        obtain ⟨n', en, q2⟩ := (show ∃ n', n = n' + 1 ∧ W (f ρ m1) (fun a m2 => match a with | .nx ρ' => ∃ j, j ≤ n' ∧ I j ρ' m2 | .ct ρ' => ∃ j, j ≤ n' ∧ I j ρ' m2 | .bk ρ' => Q (.nx ρ') m2 | a => Q a m2) E from q)
        rw [if_pos rfl]
        cases hf : f ρ m1 with
        | stuck => rw [hf] at q2; exact q2
        | ex x m2 => rw [hf] at q2; exact q2
        | ok a m2 =>
          rw [hf] at q2
          cases a with
          | nx ρ' => obtain ⟨j, hj, q⟩ := q2; exact W_while I hs fuel j ρ' m2 q (by omega)
          | ct ρ' => obtain ⟨j, hj, q⟩ := q2; exact W_while I hs fuel j ρ' m2 q (by omega)
          | bk ρ' => exact q2
          | rt d => exact q2
          | ex x ρ' => exact q2
end
end MI
namespace MI
open PySem L2
mutual
def pu : MV → Bool
  | .non => true
  | .int _ => true
  | .str s => PyData.strOk s
  | .tup l => pus l
  | _ => false
def pus : List MV → Bool
  | [] => true
  | d :: l => pu d && pus l
end
mutual
def pd : MV → PyData
  | .non => .none
  | .int i => .int i
  | .str s => .str s
  | .tup l => .tuple (pds l)
  | _ => .none
def pds : List MV → List PyData
  | [] => []
  | d :: l => pd d :: pds l
end
mutual
/-- the fuel that it takes -/
def fl : MV → Nat
  | .tup l => 1 + fls l
  | _ => 0
def fls : List MV → Nat
  | [] => 0
  | d :: l => 1 + max (fl d) (fls l)
end
mutual
/-- how deep it is -/
def dp : MV → Nat
  | .tup l => dps l + 1
  | _ => 0
def dps : List MV → Nat
  | [] => 0
  | d :: l => max (dp d) (dps l)
end
mutual
theorem dat_pu (m : Mem) : ∀ (d : MV) (n : Nat), pu d = true → fl d ≤ n → dat m n d = some (pd d)
  | .non, n, _, _ => by unfold dat; rfl
  | .int _, n, _, _ => by unfold dat; rfl
  | .str _, n, _, _ => by unfold dat; rfl
  | .bl _, _, h, _ => by simp [pu] at h
  | .ref _, _, h, _ => by simp [pu] at h
  | .kl _, _, h, _ => by simp [pu] at h
  | .clo _ _, _, h, _ => by simp [pu] at h
  | .tup l, 0, _, h => by simp [fl] at h
  | .tup l, n + 1, h, hn => by
    unfold dat
    rw [dats_pu m l n (by simpa [pu] using h) (by simp [fl] at hn; omega)]
    rfl
theorem dats_pu (m : Mem) : ∀ (l : List MV) (n : Nat), pus l = true → fls l ≤ n → dats m n l = some (pds l)
  | [], n, _, _ => by unfold dats; rfl
  | d :: l, 0, _, h => by simp [fls] at h
  | d :: l, n + 1, h, hn => by
    simp [pus] at h
    simp [fls] at hn
    unfold dats
    rw [dat_pu m d n h.1 (by omega), dats_pu m l n h.2 (by omega)]
    rfl
end
mutual
theorem lay_pu : ∀ (d : MV), pu d = true → (pd d).canLay0 = true
  | .non, _ => rfl
  | .int _, _ => rfl
  | .str s, h => by simpa [pd, PyData.canLay0, pu] using h
  | .bl _, h => by simp [pu] at h
  | .ref _, h => by simp [pu] at h
  | .kl _, h => by simp [pu] at h
  | .clo _ _, h => by simp [pu] at h
  | .tup l, h => by
    have := lays_pu l (by simpa [pu] using h)
    simpa [pd, PyData.canLay0] using this
theorem lays_pu : ∀ (l : List MV), pus l = true → PyData.canLayAll0 (pds l) = true
  | [], _ => rfl
  | d :: l, h => by
    simp [pus] at h
    simp [pds, PyData.canLayAll0, lay_pu d h.1, lays_pu l h.2]
end
mutual
theorem depth_pu : ∀ (d : MV), (pd d).depth = dp d
  | .non => by simp [pd, PyData.depth, dp]
  | .int _ => by simp [pd, PyData.depth, dp]
  | .str s => by simp [pd, PyData.depth, dp]
  | .bl _ => by simp [pd, PyData.depth, dp]
  | .ref _ => by simp [pd, PyData.depth, dp]
  | .kl _ => by simp [pd, PyData.depth, dp]
  | .clo _ _ => by simp [pd, PyData.depth, dp]
  | .tup l => by simp [pd, PyData.depth, dp, depths_pu l]
theorem depths_pu : ∀ (l : List MV), PyData.depthAll (pds l) = dps l
  | [] => by simp [pds, PyData.depthAll, dps]
  | d :: l => by simp [pds, PyData.depthAll, dps, depth_pu d, depths_pu l]
end
mutual
theorem eqv_pu : ∀ (a b : MV), pu a = true → pu b = true → (PyData.eqv (pd a) (pd b) = true ↔ a = b)
  | .bl _, _, h, _ => by simp [pu] at h
  | .ref _, _, h, _ => by simp [pu] at h
  | .kl _, _, h, _ => by simp [pu] at h
  | .clo _ _, _, h, _ => by simp [pu] at h
  | .non, b, _, h => by cases b <;> simp_all [pd, PyData.eqv, pu]
  | .int _, b, _, h => by cases b <;> simp_all [pd, PyData.eqv, pu]
  | .str _, b, _, h => by cases b <;> simp_all [pd, PyData.eqv, pu]
  | .tup l, b, h1, h => by
    cases b with
    | tup k =>
      have := eqvs_pu l k (by simpa [pu] using h1) (by simpa [pu] using h)
      simpa [pd, PyData.eqv] using this
    | _ => simp_all [pd, PyData.eqv, pu]
theorem eqvs_pu : ∀ (a b : List MV), pus a = true → pus b = true → (PyData.eqvAll (pds a) (pds b) = true ↔ a = b)
  | [], [], _, _ => by simp [pds, PyData.eqvAll]
  | [], _ :: _, _, _ => by simp [pds, PyData.eqvAll]
  | _ :: _, [], _, _ => by simp [pds, PyData.eqvAll]
  | a :: l, b :: k, h1, h2 => by
    simp [pus] at h1 h2
    simp [pds, PyData.eqvAll, eqv_pu a b h1.1 h2.1, eqvs_pu l k h1.2 h2.2]
end
theorem shaped_pu {d : MV} (h : pu d = true) (hd : dp d ≤ 64) : SeqAt.shaped (pd d) = true := by
  unfold SeqAt.shaped
  rw [lay_pu d h, depth_pu]
  simp [hd]
theorem shaped_pus {l : List MV} (h : pus l = true) (hd : dps l ≤ 63) : SeqAt.shaped (.list (pds l)) = true := by
  unfold SeqAt.shaped
  simp only [PyData.canLay0, PyData.depth, lays_pu l h, depths_pu]
  simp
  omega
/-- data that == can look at -/
structure Da (d : MV) : Prop where
  pu : MI.pu d = true
  fl : MI.fl d ≤ 1900
  dp : MI.dp d ≤ 60
structure Das (l : List MV) : Prop where
  pu : MI.pus l = true
  fl : MI.fls l ≤ 1900
  dp : MI.dps l ≤ 60
section
variable {m : Mem} {E : Exn → Mem → Prop} {Q : MV → Mem → Prop}
theorem eqS_pu {a b : MV} {k : Bool} (ha : pu a = true) (h : eqS a b = some k) : (k = true ↔ a = b) := by
  cases a <;> cases b <;> simp [eqS] at h <;> first | (subst h; simp) | (simp [pu] at ha)
theorem gEqA_pu {a b : MV} {neg : Bool} (ha : Da a) (hb : Da b) : ∃ k : Bool, (k = true ↔ a = b) ∧ gEqA neg a b m = .ok (.bl (if neg = true then !k else k)) m := by
  unfold gEqA
  cases h : eqS a b with
  | some k =>
    refine ⟨k, eqS_pu ha.pu h, ?_⟩
    dsimp only
    unfold gEqS
    rw [h]
  | none =>
    dsimp only
    unfold gEq
    rw [dat_pu m a fuel ha.pu (Nat.le_trans ha.fl (by decide)), dat_pu m b fuel hb.pu (Nat.le_trans hb.fl (by decide))]
    dsimp only
    rw [if_pos ⟨shaped_pu ha.pu (by have := ha.dp; omega), shaped_pu hb.pu (by have := hb.dp; omega)⟩]
    exact ⟨_, eqv_pu a b ha.pu hb.pu, rfl⟩
theorem W_eqD {a b : MV} {neg : Bool} (ha : Da a) (hb : Da b) (q : ∀ k : Bool, (k = true ↔ a = b) → Q (.bl (if neg = true then !k else k)) m) : W (gEqA neg a b m) Q E := by
  obtain ⟨k, h1, h2⟩ := gEqA_pu (m := m) (neg := neg) ha hb
  rw [h2]
  exact q k h1
theorem dat_l {n : Nat} {l : List MV} (h : m[n]? = some (.lst l)) (hl : Das l) : dat m fuel (.ref n) = some (.list (pds l)) := by
  show dat m (1999 + 1) (.ref n) = _
  unfold dat
  rw [(show lstOf m (.ref n) = some l by simp [h])]
  dsimp only
  rw [dats_pu m l 1999 hl.pu (Nat.le_trans hl.fl (by decide))]
  rfl
theorem W_eqL {a b : Nat} {l k : List MV} {neg : Bool} (ha : m[a]? = some (.lst l)) (hb : m[b]? = some (.lst k)) (da : Das l) (db : Das k) (q : ∀ z : Bool, (z = true ↔ l = k) → Q (.bl (if neg = true then !z else z)) m) : W (gEqA neg (.ref a) (.ref b) m) Q E := by
  unfold gEqA
  show W (gEq neg (.ref a) (.ref b) m) Q E
  unfold gEq
  rw [dat_l ha da, dat_l hb db]
  dsimp only
  rw [if_pos ⟨shaped_pus da.pu (by have := da.dp; omega), shaped_pus db.pu (by have := db.dp; omega)⟩]
  refine q _ ?_
  show (PyData.eqv (.list _) (.list _) = true ↔ _)
  simp only [PyData.eqv]
  exact eqvs_pu l k da.pu db.pu
theorem any_pds {l : List MV} {d : MV} (hl : pus l = true) (hd : pu d = true) : ((pds l).any (fun z => PyData.eqv z (pd d)) = true ↔ d ∈ l) := by
  induction l with
  | nil => simp [pds]
  | cons x r ih =>
    simp [pus] at hl
    have h1 := eqv_pu x d hl.1 hd
    simp [pds, h1] at *
    rw [ih hl.2, eq_comm]
theorem W_inD {d : MV} {n : Nat} {l : List MV} {neg : Bool} (hn : m[n]? = some (.lst l)) (hl : Das l) (hd : Da d) (nf : flat d = false) (q : ∀ z : Bool, (z = true ↔ d ∈ l) → Q (.bl (if neg = true then !z else z)) m) : W (gInA neg d (.ref n) m) Q E := by
  unfold gInA
  rw [if_neg (by rintro ⟨z, hz⟩; cases hz), if_neg (by simp [hn]), if_neg (by rintro ⟨z, _, hz, _⟩; rw [nf] at hz; cases hz)]
  unfold gInD
  rw [dat_pu m d fuel hd.pu (Nat.le_trans hd.fl (by decide)), dat_l hn hl]
  dsimp only
  rw [if_pos ⟨shaped_pu hd.pu (by have := hd.dp; omega), shaped_pus hl.pu (by have := hl.dp; omega)⟩]
  exact q _ (any_pds hl.pu hd.pu)
end
section
variable {m : Mem} {E : Exn → Mem → Prop} {Q : MV → Mem → Prop}
@[simp] theorem W_sl_r {n : Nat} {lo hi : Option Int} : W (gSl (.ref n) lo hi m) Q E = match lstOf m (.ref n) with | some l => Q (.ref m.length) (m ++ [.lst (cutM l lo hi)]) | none => False := by
  show W (match lstOf m (.ref n) with | some l => alloc (.lst (cutM l lo hi)) m | none => .stuck) Q E = _
  cases lstOf m (.ref n) <;> rfl
@[simp] theorem W_zip {a b : MV} : W (gZip [a, b] m) Q E = match lstOf m a, lstOf m b with | some l, some k => Q (.tup ((l.zip k).map fun p => .tup [p.1, p.2])) m | _, _ => False := by
  show W (match lstOf m a, lstOf m b with | some l, some k => .ok (.tup ((l.zip k).map fun p => .tup [p.1, p.2])) m | _, _ => .stuck) Q E = _
  cases lstOf m a <;> cases lstOf m b <;> rfl
end
end MI
namespace MI
open PySem L2
section
variable {m : Mem} {E : Exn → Mem → Prop} {Q : MV → Mem → Prop} {ρ : Env}
@[simp] theorem W_max {d : MV} : W (gMax [d] m) Q E = match ((lstOf m d).bind intsOf).bind maxL with | some k => Q (.int k) m | none => False := by
  show W (match ((lstOf m d).bind intsOf).bind maxL with | some k => .ok (.int k) m | none => .stuck) Q E = _
  cases ((lstOf m d).bind intsOf).bind maxL <;> rfl
@[simp] theorem W_sum {d : MV} : W (gSum [d] m) Q E = match (lstOf m d).bind intsOf with | some ns => Q (.int ns.sum) m | none => False := by
  show W (match (lstOf m d).bind intsOf with | some ns => .ok (.int ns.sum) m | none => .stuck) Q E = _
  cases (lstOf m d).bind intsOf <;> rfl
@[simp] theorem W_sortS {d : MV} : W (gSortS [d] m) Q E = match (lstOf m d).bind strsOf with | some xs => xs.length < 64 ∧ Q (.ref m.length) (m ++ [.lst ((sortM xs).map .str)]) | none => False := by
  show W (match (lstOf m d).bind strsOf with | some xs => (if xs.length < 64 then alloc (.lst ((sortM xs).map .str)) m else .stuck) | none => .stuck) Q E = _
  cases (lstOf m d).bind strsOf with
  | none => rfl
  | some xs => by_cases h : xs.length < 64 <;> simp [h, alloc]
@[simp] theorem W_isx {P : Str → Option Bool} {f : ME} : W (mIsx P f ρ m) Q E = W (f ρ m) (fun d m => match isxV P m d with | some b => Q (.bl b) m | none => False) E := by
  unfold mIsx
  rw [W_bind]
  congr 1
  funext d m
  cases isxV P m d <;> rfl
@[simp] theorem W_cnt {d e : MV} : W (gCnt d [e] m) Q E = match (lstOf m d).bind fVs, fV e with | some us, some u => Q (.int ((us.countP fun z => eqV z u : Nat) : Int)) m | _, _ => False := by
  show W (match (lstOf m d).bind fVs, fV e with | some us, some u => .ok (.int ((us.countP fun z => eqV z u : Nat) : Int)) m | _, _ => .stuck) Q E = _
  cases (lstOf m d).bind fVs <;> cases fV e <;> rfl
@[simp] theorem W_idx {d e : MV} : W (gIdx d [e] m) Q E = match (lstOf m d).bind fVs, fV e with | some us, some u => (match us.findIdx? fun z => eqV z u with | some j => Q (.int (j : Nat)) m | none => False) | _, _ => False := by
  show W (match (lstOf m d).bind fVs, fV e with | some us, some u => (match us.findIdx? fun z => eqV z u with | some j => .ok (.int (j : Nat)) m | none => .stuck) | _, _ => .stuck) Q E = _
  cases (lstOf m d).bind fVs with
  | none => rfl
  | some us => cases fV e with
    | none => rfl
    | some u => dsimp only; cases us.findIdx? fun z => eqV z u <;> rfl
@[simp] theorem W_eqE {a b : MV} : W (gEqE a b m) Q E = match lstOf m a, lstOf m b with | some l, some [] => Q (.bl l.isEmpty) m | _, _ => False := by
  unfold gEqE
  cases lstOf m a with
  | none => rfl
  | some l => cases lstOf m b with
    | none => rfl
    | some k => cases k <;> rfl
theorem inV_str {s : Str} : ∀ {ns : List Str}, (inV (toV (.str s)) ((ns.map MV.str).map toV) = true ↔ s ∈ ns)
  | [] => ⟨(fun h => by cases h), (fun h => by cases h)⟩
  | x :: r => by
    have ih := inV_str (s := s) (ns := r)
    show (((x == s) || inV (toV (.str s)) ((r.map MV.str).map toV)) = true ↔ _)
    rw [Bool.or_eq_true, ih, List.mem_cons, beq_iff_eq, eq_comm]
section
variable {Q : Fl → Mem → Prop}
@[simp] theorem W_tryK {P : Str → Option Bool} {i j : Nat} {f : MS} : W (mTryK P i j f ρ m) Q E = W (f ρ m) (fun a m' => match a with
    | .ex x ρ' => (match P x.cls with
      | some true => Q (.nx (((ρ'.set i (some (.ref m'.length))).set j (some (.ref m'.length))).set i none)) (m' ++ [.exn x])
      | some false => Q (.ex x ρ') m'
      | none => False)
    | a => Q a m') E := by
  unfold mTryK
  cases f ρ m with
  | stuck => rfl
  | ex x m => rfl
  | ok a m =>
    cases a with
    | ex x ρ' =>
      dsimp only [W_ok]
      cases P x.cls with
      | none => rfl
      | some b => cases b <;> rfl
    | _ => rfl
@[simp] theorem W_tryF {P : Str → Option Bool} {y : Str} {f : MS} : W (mTryF P y f ρ m) Q E = W (f ρ m) (fun a m' => match a with
    | .ex x ρ' => (match P x.cls with
      | some true => Q (.ex ⟨y⟩ ρ') m'
      | some false => Q (.ex x ρ') m'
      | none => False)
    | a => Q a m') E := by
  unfold mTryF
  cases f ρ m with
  | stuck => rfl
  | ex x m => rfl
  | ok a m =>
    cases a with
    | ex x ρ' =>
      dsimp only [W_ok]
      cases P x.cls with
      | none => rfl
      | some b => cases b <;> rfl
    | _ => rfl
end
end
end MI
namespace MI
open PySem L2
variable [Nms]
section
variable {X : Cx} {W : WX} {pos : Pos} {K : PySem.W.Frag} {β : List Addr} {H : Hp} {m : Mem}
def mStuck : MS := fun _ _ => .stuck
def foldM (tbl acc : List (Key × MV)) : List (Key × MV) := tbl.foldl (fun acc kv => putM acc kv.1 kv.2) acc
def mDisp (tbl : List (Key × MV)) : ME := fun _ m => alloc (.dct (foldM tbl [])) m
def gGet (d k x : MV) (m : Mem) : Re MV := match dctOf m d, keyOf k with
  | some (_, l), some q => .ok ((valM l q).getD x) m
  | _, _ => .stuck
def mGet2 (fd fy fx : ME) : ME := fun ρ m => (fd ρ m).bind fun d m1 => if (dctOf m1 d).isSome = true then (fy ρ m1).bind fun y m2 => (fx ρ m2).bind fun x m3 => gGet d y x m3 else .stuck
def mGet1 (fd fy : ME) : ME := fun ρ m => (fd ρ m).bind fun d m1 => if (dctOf m1 d).isSome = true then (fy ρ m1).bind fun y m2 => gGet d y .non m2 else .stuck
end
section
variable {m : Mem} {ρ : Env} {E : Exn → Mem → Prop} {Q : MV → Mem → Prop}
@[simp] theorem W_disp {tbl : List (Key × MV)} : MI.W (mDisp tbl ρ m) Q E = Q (.ref m.length) (m ++ [.dct (foldM tbl [])]) := rfl
@[simp] theorem W_gGet {d k x : MV} : MI.W (gGet d k x m) Q E = match dctOf m d, keyOf k with | some (_, l), some q => Q ((valM l q).getD x) m | _, _ => False := by
  unfold gGet
  cases dctOf m d with
  | none => rfl
  | some p => cases keyOf k <;> rfl
@[simp] theorem W_get2 {fd fy fx : ME} : MI.W (mGet2 fd fy fx ρ m) Q E = MI.W (fd ρ m) (fun d m => if (dctOf m d).isSome = true then MI.W (fy ρ m) (fun y m => MI.W (fx ρ m) (fun x m => MI.W (gGet d y x m) Q E) E) E else False) E := by
  unfold mGet2
  rw [W_bind]
  congr 1
  funext d m
  rw [W_ite]
  simp only [W_bind, W_stuck]
@[simp] theorem W_get1 {fd fy : ME} : MI.W (mGet1 fd fy ρ m) Q E = MI.W (fd ρ m) (fun d m => if (dctOf m d).isSome = true then MI.W (fy ρ m) (fun y m => MI.W (gGet d y .non m) Q E) E else False) E := by
  unfold mGet1
  rw [W_bind]
  congr 1
  funext d m
  rw [W_ite]
  simp only [W_bind, W_stuck]
@[simp] theorem W_mStuck {Q : Fl → Mem → Prop} : MI.W (mStuck ρ m) Q E = False := rfl
end
end MI
namespace MI
open PySem L2
variable [Nms]
section
variable {X : Cx} {W : WX} {pos : Pos} {K : PySem.W.Frag} {β : List Addr} {H : Hp} {m : Mem}
def rInT (K : PySem.W.Frag) (neg : Bool) : R2 := fun x y H Q => ∃ d ds, Dp K H x d ∧ Dp K H y (.tuple ds) ∧ SeqAt.shaped d = true ∧ SeqAt.shaped (.tuple ds) = true ∧ Q (.bl (if neg = true then !ds.any fun z => PyData.eqv z d else ds.any fun z => PyData.eqv z d)) H
theorem roomT {d : PyData} {ds : List PyData} {A : Around} (sd : SeqAt.shaped d = true) (hu : A.units + 65 < cLine) : A.units + 1 + min (PyData.depthAll ds) d.depth < cLine := by
  have h1 := SeqAt.depth_of_shaped sd
  have h2 : min (PyData.depthAll ds) d.depth ≤ d.depth := Nat.min_le_right _ _
  omega
theorem op_inT (hu : X.A.units + 65 < cLine) : OpR X (compareOp .In) (rInT X.K false) := by
  intro pins s σ H x y v u Q I rx ry h
  obtain ⟨d, ds, hd, he, sd, se, q⟩ := h
  obtain ⟨as, r1⟩ := Dp.reads I d x v hd rx
  obtain ⟨bs, r2⟩ := Dp.reads I (.tuple ds) y u he ry
  exact SeqAt.in_tuple_reads r2 r1 (by simpa [PyData.canLay0] using SeqAt.canLay_of_shaped se) (SeqAt.canLay_of_shaped sd) (roomT sd hu) ⟨.bl _, H, I, rfl, q⟩
theorem op_ninT (hu : X.A.units + 65 < cLine) : OpR X (compareOp .NotIn) (rInT X.K true) := by
  intro pins s σ H x y v u Q I rx ry h
  obtain ⟨d, ds, hd, he, sd, se, q⟩ := h
  obtain ⟨as, r1⟩ := Dp.reads I d x v hd rx
  obtain ⟨bs, r2⟩ := Dp.reads I (.tuple ds) y u he ry
  exact SeqAt.notIn_tuple_reads r2 r1 (by simpa [PyData.canLay0] using SeqAt.canLay_of_shaped se) (SeqAt.canLay_of_shaped sd) (roomT sd hu) ⟨.bl _, H, I, rfl, q⟩
def gInT (neg : Bool) (a b : MV) (m : Mem) : Re MV := match dat m fuel a, dat m fuel b with
  | some d, some (.tuple ds) => if SeqAt.shaped d = true ∧ SeqAt.shaped (.tuple ds) = true then .ok (.bl (if neg = true then !ds.any fun z => PyData.eqv z d else ds.any fun z => PyData.eqv z d)) m else .stuck
  | _, _ => .stuck
theorem om_inT {neg : Bool} : OpM X (rInT X.K neg) (gInT neg) := by
  intro W σ d e m β H x y Q M rx ry p
  unfold gInT at p
  split at p
  · rename_i a b e1 e2
    split at p
    · rename_i h
      exact ⟨a, b, M.dat1 rx e1, M.dat1 ry e2, h.1, h.2, p.ok M (.bl _)⟩
    · exact p.not_stuck
  · exact p.not_stuck
open Classical in
/-- x in a list, a dict, a text, a tuple -/
noncomputable def gInB (neg : Bool) (a b : MV) (m : Mem) : Re MV := if (∃ l, b = .tup l) ∧ flat a = false then gInT neg a b m else gInA neg a b m
theorem je_inB {a b : Expr} {fa fb : ME} (hu : X.A.units + 1 < cLine) (hu2 : X.A.units + 65 < cLine) (ha : JE X W a fa) (hb : JE X W b fb) (hk : behindInMarks .In b = false := by rfl) : JE X W (.Compare a [.In] [b] pos) (mBin (gInB false) fa fb) :=
  JE.or (j_cmp (op_inT hu2) om_inT ha hb hk) (je_in hu hu2 ha hb hk) (mBin_or fun a b m => by
    unfold gInB
    by_cases q : (∃ l, b = .tup l) ∧ flat a = false
    · exact .inl (if_pos q)
    · exact .inr (if_neg q))
theorem je_ninB {a b : Expr} {fa fb : ME} (hu : X.A.units + 1 < cLine) (hu2 : X.A.units + 65 < cLine) (ha : JE X W a fa) (hb : JE X W b fb) (hk : behindInMarks .NotIn b = false := by rfl) : JE X W (.Compare a [.NotIn] [b] pos) (mBin (gInB true) fa fb) :=
  JE.or (j_cmp (op_ninT hu2) om_inT ha hb hk) (je_nin hu hu2 ha hb hk) (mBin_or fun a b m => by
    unfold gInB
    by_cases q : (∃ l, b = .tup l) ∧ flat a = false
    · exact .inl (if_pos q)
    · exact .inr (if_neg q))
theorem jt_ninB {a b : Expr} {fa fb : ME} (hu : X.A.units + 1 < cLine) (hu2 : X.A.units + 65 < cLine) (ha : JE X W a fa) (hb : JE X W b fb) (hk : behindInMarks .NotIn b = false := by rfl) : JT X W (.Compare a [.NotIn] [b] pos) (mB (mBin (gInB true) fa fb)) :=
  JT.or (jt_cmp (op_ninT hu2) om_inT ha hb hk) (jt_nin hu hu2 ha hb hk) (mB_or fun a b m => by
    unfold gInB
    by_cases q : (∃ l, b = .tup l) ∧ flat a = false
    · exact .inl (if_pos q)
    · exact .inr (if_neg q))
end
section
variable {m : Mem} {E : Exn → Mem → Prop} {Q : MV → Mem → Prop}
@[simp] theorem gInB_ref {neg : Bool} {a : MV} {n : Nat} : gInB neg a (.ref n) m = gInA neg a (.ref n) m := by
  unfold gInB
  rw [if_neg (by rintro ⟨⟨l, h⟩, _⟩; cases h)]
@[simp] theorem gInB_str {neg : Bool} {a : MV} {z : Str} : gInB neg a (.str z) m = gInA neg a (.str z) m := by
  unfold gInB
  rw [if_neg (by rintro ⟨⟨l, h⟩, _⟩; cases h)]
@[simp] theorem gInB_s {neg : Bool} {s : Str} {b : MV} : gInB neg (.str s) b m = gInA neg (.str s) b m := by
  unfold gInB
  rw [if_neg (by rintro ⟨_, h⟩; cases h)]
end
end MI
namespace MI
open PySem L2
variable [Nms]
section
variable {X : Cx} {W : WX} {pos : Pos} {K : PySem.W.Frag} {β : List Addr} {H : Hp} {m : Mem}
def keyM : Key → MV
  | .inl i => .int i
  | .inr s => .str s
theorem RKs.keys : ∀ {l : List (Key × MV)} {vs : List (Key × V)}, RKs K β H l vs → ∀ {β' : List Addr} {H' : Hp}, RVs K β' H' (l.map fun kv => keyM kv.1) (vs.map fun kv => kV kv.1)
  | _, _, .nil, _, _ => .nil
  | _, _, .cons (k := k) h r, _, _ => by
    refine .cons ?_ (RKs.keys r)
    cases k with
    | inl i => exact .int i
    | inr s => exact .str s
def gListA : List MV → Mem → Re MV
  | [d], m => match dctOf m d with
    | some (_, l) => alloc (.lst (l.map fun kv => keyM kv.1)) m
    | none => gList [d] m
  | _, _ => .stuck
abbrev rListA (K : PySem.W.Frag) : List V → Hp → VK → Prop := fun xs H Q => (∃ (a : Addr) (kvs : List (Key × V)), xs = [.ref a] ∧ Rd H a (.dK kvs) ∧ ∀ p, H p = none → Q (.ref p) (upd H p (.lst (kvs.map fun kv => kV kv.1)))) ∨ ∃ p ys, xs = [.ref p] ∧ (SqL K H p ys ∨ SqT K H p ys) ∧ ∀ l, H l = none → Q (.ref l) (upd H l (.lst ys))
theorem cr_listA (hc : X.calm = true) : CallR X (.type "list") (rListA X.K) := cr_or (call_listD hc) call_list_of
theorem cm_listA : CrM X (rListA X.K) gListA := by
  intro W σ ds m β H vs Q M V p
  unfold gListA at p
  split at p
  · rename_i d
    split at p
    · rename_i n l h
      cases V with
      | cons h1 r =>
        cases r
        obtain ⟨a, vs, rfl, hb, hH, hr⟩ := M.dct h1 h
        exact .inl ⟨a, vs, rfl, .inl hH, fun q hq => p.alloc M hq ⟨_, upd_same, hr.keys⟩⟩
    · exact .inr (cm_list W σ _ m β H vs Q M V p)
  · exact p.not_stuck
end
section
variable {m : Mem} {E : Exn → Mem → Prop} {Q : MV → Mem → Prop}
@[simp] theorem W_listA_t {l : List MV} : MI.W (gListA [.tup l] m) Q E = MI.W (gList [.tup l] m) Q E := rfl
@[simp] theorem W_listA_r {n : Nat} : MI.W (gListA [.ref n] m) Q E = match m[n]? with
    | some (.dct l) => Q (.ref m.length) (m ++ [.lst (l.map fun kv => keyM kv.1)])
    | _ => MI.W (gList [.ref n] m) Q E := by
  show MI.W (match dctOf m (.ref n) with
    | some (_, l) => alloc (.lst (l.map fun kv => keyM kv.1)) m
    | none => gList [.ref n] m) Q E = _
  simp only [dctOf_ref]
  cases m[n]? with
  | none => rfl
  | some o => cases o <;> rfl
end
end MI
namespace MI
open PySem L2
variable [Nms]
section
variable {X : Cx} {W : WX} {pos : Pos} {K : PySem.W.Frag} {β : List Addr} {H : Hp} {m : Mem}
def gEqT (a b : MV) (m : Mem) : Re MV := match a, b with
  | .tup l, .tup [] => .ok (.bl l.isEmpty) m
  | _, _ => .stuck
end
section
variable {m : Mem} {E : Exn → Mem → Prop} {Q : MV → Mem → Prop}
@[simp] theorem W_eqT {l : List MV} : MI.W (gEqT (.tup l) (.tup []) m) Q E = Q (.bl l.isEmpty) m := rfl
end
end MI
namespace MI
open PySem L2
variable [Nms]
/-- attribute f of the classes that P takes -/
structure FldN (K : PySem.W.Frag) (f : Str) (P : Str → Bool) : Prop where
  ex : ∀ (c : Str) (C : Addr), P c = true → ClsN K c C → Cls K C ∧ NoAttr K C f
def ownOf (m : Mem) : MV → Option (Nat × Str × List (Str × MV))
  | .ref n => match m[n]? with
    | some (.own c l) => some (n, c, l)
    | _ => none
  | _ => none
section
variable {K : PySem.W.Frag} {β : List Addr} {H : Hp} {m : Mem}
theorem RFs.look (f : Str) : ∀ {l : List (Str × MV)} {vs : List (Str × V)}, RFs K β H l vs → ∀ {d : MV}, l.lookup f = some d → ∃ v, vs.lookup f = some v ∧ RV K β H d v
  | _, _, .nil, _, h => by simp at h
  | _, _, @RFs.cons _ _ _ k d' v' ds vs h r, d, q => by
    rw [List.lookup_cons] at q ⊢
    cases hk : f == k with
    | true => rw [hk] at q; cases q; exact ⟨v', by simp, h⟩
    | false => rw [hk] at q; simpa using r.look f q
def putFM (f : Str) (v : MV) : List (Str × MV) → List (Str × MV)
  | [] => [(f, v)]
  | (g, x) :: r => if g = f then (g, v) :: r else (g, x) :: putFM f v r
theorem RFs.put (f : Str) {d : MV} {v : V} (h : RV K β H d v) : ∀ {l : List (Str × MV)} {vs : List (Str × V)}, RFs K β H l vs → RFs K β H (putFM f d l) (putF f v vs)
  | _, _, .nil => .cons h .nil
  | _, _, @RFs.cons _ _ _ k d' v' ds vs h' r => by
    unfold putFM putF
    split
    · exact .cons h r
    · exact .cons h' (r.put f h)
theorem RFs.len : ∀ {l : List (Str × MV)} {vs : List (Str × V)}, RFs K β H l vs → l.length = vs.length
  | _, _, .nil => rfl
  | _, _, .cons _ r => by simp [r.len]
theorem RM.own (R : RM K β H m) {d : MV} {v : V} {n : Nat} {c : Str} {l : List (Str × MV)} (r : RV K β H d v) (h : ownOf m d = some (n, c, l)) : ∃ a C dx vs, v = .ref a ∧ m[n]? = some (.own c l) ∧ β[n]? = some a ∧ ClsN K c C ∧ H a = some (.ins C dx vs) ∧ RFs K β H l vs := by
  cases r with
  | @ref n' a hb =>
    have h : (match m[n']? with | some (.own c l) => some (n', c, l) | _ => none) = some (n, c, l) := h
    split at h
    · rename_i c' l' e
      cases h
      obtain ⟨C, dx, vs, q1, q2, q3⟩ := R.ob n _ a e hb
      exact ⟨a, C, dx, vs, rfl, e, hb, q1, q2, q3⟩
    · cases h
  | _ => cases h
end
section
variable {X : Cx} {W : WX} {pos : Pos}
def gFld (P : Str → Bool) (f : Str) (d : MV) (m : Mem) : Re MV := match ownOf m d with
  | some (_, c, l) => if P c = true then (match l.lookup f with | some v => .ok v m | none => .stuck) else .stuck
  | none => .stuck
def mFld (P : Str → Bool) (f : Str) (g : ME) : ME := fun ρ m => (g ρ m).bind fun d m1 => gFld P f d m1
theorem je_fld {P : Str → Bool} {f : Str} {e : Expr} {g : ME} (h : JE X W e g) (T : FldN X.K f P) (hb : attributeBase e f X.env (eval e X.env) = eval e X.env := by rfl) : JE X W (.Attribute e f pos) (mFld P f g) :=
  ⟨pe_imp (pe_fld h.run hb) fun σ H Q ⟨ρ, m, β, hE, hM, p⟩ => ⟨ρ, m, β, hE, hM, p.bind fun d m1 x H1 β1 _ e1 M1 V1 p1 => by
    unfold gFld at p1
    split at p1
    · rename_i n c l ho
      obtain ⟨a, C, dx, vs, rfl, h1, h2, h3, h4, h5⟩ := M1.own V1 ho
      split at p1
      · rename_i hP
        split at p1
        · rename_i v hv
          obtain ⟨u, q1, q2⟩ := h5.look f hv
          obtain ⟨c1, c2⟩ := T.ex c C hP h3
          exact ⟨a, C, dx, vs, u, rfl, h4, c1, c2, q1, p1.ok M1 q2⟩
        · exact p1.not_stuck
      · exact p1.not_stuck
    · exact p1.not_stuck⟩⟩
def mFldS (P : Str → Bool) (f : Str) (fo fv : ME) : MS := fun ρ m => onE ρ (fv ρ m) fun y m1 => onE ρ (fo ρ m1) fun d m2 => match ownOf m2 d with
  | some (n, c, l) => if P c = true ∧ l.length < 1000 then .ok (.nx ρ) (m2.set n (.own c (putFM f y l))) else .stuck
  | none => .stuck
theorem js_fld {P : Str → Bool} {f : Str} {o value : Expr} {pos' : Pos} {fo fv : ME} (ho : JE X W o fo) (hv : JE X W value fv) (T : FldN X.K f P) (hs : swapsWith value (some (.Attribute o f pos')) pos.line X.env = pure false := by rfl) :
    JS X W (.Assign [.Attribute o f pos'] value pos) (mFldS P f fo fv) :=
  ⟨ps_imp (ps_fld ho.run hv.run hs) fun D σ H ⟨ρ, m, β, hE, hM, p⟩ => ⟨ρ, m, β, hE, hM,
    PostS.on (D := D) (R := fun β' H' d v => RV X.K β' H' d v) hE hM p fun y m1 v H1 β1 _ e M V q => ⟨ρ, m1, β1, hE.ext hM e, M,
      PostS.on (D := D) (R := fun β' H' d v => RV X.K β' H' d v) (hE.ext hM e) M q fun d m2 x H2 β2 _ e2 M2 V2 q2 => by
        split at q2
        · rename_i n c l hown
          obtain ⟨a, C, dx, vs, rfl, h1, h2, h3, h4, h5⟩ := M2.own V2 hown
          split at q2
          · rename_i hP
            obtain ⟨c1, c2⟩ := T.ex c C hP.1 h3
            refine ⟨a, C, dx, vs, rfl, h4, c1, c2, by rw [← h5.len]; exact hP.2, ?_⟩
            have eX : Ext β2 H2 β2 (upd H2 a (.ins C dx (putF f v vs))) := Ext.wr (List.mem_of_getElem? h2)
            have V' := V.ext M e2
            exact q2 σ _ β2 eX (M2.wr h2 ⟨C, dx, _, h3, upd_same, (h5.put f V').ext M2 eX⟩) (((hE.ext hM e).ext M e2).ext M2 eX)
          · exact q2.elim
        · exact q2.elim⟩⟩⟩
/-- a class of the module whose __init__ does F; n arguments behind the object itself -/
structure MkX (M : Mode) (P : Program) (w : World) (K : PySem.W.Frag) (mg : Str → Option Value) (base : Heap) (k : Nat) (c : Str) (n : Nat) (F : MF) : Prop where
  ex : ∃ (C f : Addr) (fd : FuncData) (ps : List Str), FnOk P w K mg base (M.CX P w) k f fd ps (spM K (n + 1) F) ∧ ClsN K c C ∧ mg c = some (.ref C) ∧ Mk K C f ∧ Binds K fd ps []
def gMake (c : Str) (F : MF) (ds : List MV) (m : Mem) : Re MV := match F (.ref m.length :: ds) (m ++ [.own c []]) with
  | .ok .non m' => .ok (.ref m.length) m'
  | _ => .stuck
theorem jx_make {M : Mode} {k j n : Nat} {c : Str} {F : MF} {e : Expr} {es : List Expr} {g : MA} {p pos : Pos} (Fk : MkX M X.prog X.w X.K X.mg X.base k c n F) (hr : Room j X.A) (hk : k + 1 ≤ j) (ha : JA X W (e :: es) g)
    (hg : Gl X c := by rfl) (hdb : (c == ("__debug__" : Str)) = false := by decide) (he : starEach (e :: es) X.env = (false, eval e X.env) :: starEach es X.env := by rfl) (hpl : (backTo pos (starEach es X.env)).any (·.1) = false := by rfl)
    (hlen : ∀ ρ m ds m1, g ρ m = .ok ds m1 → ds.length = n) : JE X W (.Call (.Name c p) (e :: es) [] pos) (mCall (gMake c F) g) := by
  obtain ⟨C, f, fd, ps, h1, h2, h3, h4, h5⟩ := Fk.ex
  refine ⟨pe_imp (pe_make (E := fun _ _ _ => False) h4 h1 (hr.mono hk) hg h3 h5 .nil (fun _ _ _ _ _ _ _ z => (M.no z).elim) ha.run hdb he hpl) fun σ H Q ⟨ρ, m, β, hE, hM, p⟩ => ⟨ρ, m, β, hE, hM, ?_⟩⟩
  refine p.bind fun ds m1 vs H1 β1 e0 e1 M1 V1 p1 x dx nx ndx ne => ?_
  have nx' : upd H1 dx (.own x) x = none := by rw [upd_ne (Ne.symm ne)]; exact nx
  have eX : Ext β1 H1 (β1 ++ [x]) (upd (upd H1 dx (.own x)) x (.ins C dx [])) := (Ext.tup ndx).trans (Ext.push nx')
  have MX : RM X.K (β1 ++ [x]) (upd (upd H1 dx (.own x)) x (.ins C dx [])) (m1 ++ [.own c []]) := (M1.tup ndx).push nx' ⟨C, dx, [], h2, upd_same, .nil⟩
  have hx : (β1 ++ [x])[m1.length]? = some x := by rw [← M1.len]; simp
  refine ⟨by simp [← V1.length, hlen ρ m ds m1 e0], .ref m1.length :: ds, m1 ++ [.own c []], β1 ++ [x], .cons (.ref hx) (by rw [List.append_nil]; exact V1.ext M1 eX), MX, ?_⟩
  unfold gMake at p1
  revert p1
  generalize F (.ref m1.length :: ds) (m1 ++ [.own c []]) = r
  intro p1
  cases r with
  | ok d m2 =>
    cases d with
    | non =>
      intro v H' β' e' M' V'
      cases V'
      exact ⟨rfl, p1 (.ref x) H' β' (eX.trans e') M' (.ref (e'.get hx))⟩
    | _ => exact p1.not_stuck
  | ex x m2 => exact p1.not_stuck
  | stuck => exact p1.not_stuck
end
def lv (k : Nat) : Nat := Nat.rec 0 (fun _ n => n + 1) k
def clsS (st : Stmt) (j : Nat) : Stmt := match st with
  | .ClassDef _ _ _ body _ _ _ _ _ _ _ => body.getD j (.Pass ⟨0, 0, 0, 0⟩)
  | _ => .Pass ⟨0, 0, 0, 0⟩
/-- __init__ of a class of the module -/
structure IniAt (K : PySem.W.Frag) (mg : Str → Option Value) (c : Str) (qual : Str) (st : Stmt) (ps : List Str) : Prop where
  ex : ∃ (C f : Addr) (fd : FuncData), Fun K "__init__" qual st f fd ∧ ClsN K c C ∧ mg c = some (.ref C) ∧ Mk K C f ∧ Binds K fd ps []
section
variable {K : PySem.W.Frag} {h : Heap} {mg : Str → Option Value} {w : World}
theorem ini_mk {c qual : Str} {st : Stmt} {ps : List Str} {C f : Addr} {oc : Value} {od an : Option Addr} {osl : Array (Option Value)} {kV doc pm cdv ct : Value} (X : K.In h) (G : h.Ns mainGlobals mg)
    (a : PySem.W.nsIn K mainGlobals c = some (some (.ref C))) (i : PySem.W.findIn K (.ref C) "__init__" = some (some (.ref f))) (fn : PySem.W.isFn K (.ref f) = true) (mk : PySem.W.makesIn K C = true) (kp : PySem.W.keepIn K (.ref C) = true)
    (l : K.lookup f = some ⟨oc, od, .func (PySem.W.fnOf "__init__" qual (defArgs st) (defBody st) (defScope st) .none kV doc pm an cdv ct), osl⟩) (cd : PySem.W.codeIn K cdv qual = true) (k : PySem.W.keepIn K (.ref f) = true)
    (b : ∀ (kV doc pm : Value) (an : Option Addr) (cdv ct : Value) (us : List Value), us.length = ps.length → bindArgs (PySem.W.fnOf "__init__" qual (defArgs st) (defBody st) (defScope st) .none kV doc pm an cdv ct) ⟨us, []⟩ = pure (ps.zip us)) : IniAt K mg c qual st ps :=
  ⟨C, f, _, fun_mk l cd k, a, PySem.W.mg_of X G a, ⟨mk, i, fn, kp⟩, (fun_mk l cd k).binds b⟩
theorem IniAt.mkx {P : Program} {base : Heap} {M : Mode} {c qual : Str} {st : Stmt} {ps : List Str} {k n : Nat} {F : MF} (D : IniAt K mg c qual st ps) (hok : ∀ f fd, Fun K "__init__" qual st f fd → FnOk P w K mg base (M.CX P w) k f fd ps (spM K (n + 1) F)) : MkX M P w K mg base k c n F := by
  obtain ⟨C, f, fd, h1, h2, h3, h4, h5⟩ := D.ex
  exact ⟨C, f, fd, ps, hok f fd h1, h2, h3, h4, h5⟩
theorem IniAt.mk0 {P : Program} {base : Heap} {M : Mode} {c qual : Str} {st : Stmt} {ps : List Str} {n : Nat} (D : IniAt K mg c qual st ps) (hn : ps.length = n + 1) : MkX M P w K mg base 0 c n (fun _ _ => .stuck) := by
  obtain ⟨C, f, fd, h1, h2, h3, h4, h5⟩ := D.ex
  exact ⟨C, f, fd, ps, ⟨fun vs H Q E h => by rw [hn]; exact h.1, fun A outer s H args us vs Q E _ _ _ _ h => by obtain ⟨_, _, _, _, _, _, q⟩ := h; exact q.elim⟩, h2, h3, h4, h5⟩
theorem fld_mk {c f : Str} {C : Addr} (a : PySem.W.nsIn K mainGlobals c = some (some (.ref C))) (pg : PySem.W.plainGet K C Str.empty = true) (hd : PySem.W.hasDictIn K C = true) (po : PySem.W.plainOver K C = true)
    (sa : PySem.W.findIn K (.ref C) "__setattr__" = some (some (.builtin "object.__setattr__"))) (n : PySem.W.findIn K (.ref C) f = some none) : FldN K f (fun y => y == c) := by
  refine ⟨fun y D hy hD => ?_⟩
  have e : y = c := eq_of_beq hy
  subst e
  have hD : PySem.W.nsIn K mainGlobals y = some (some (.ref D)) := hD
  rw [a] at hD
  cases hD
  exact ⟨⟨pg, hd, po, sa⟩, n⟩
theorem FldN.or {f : Str} {P Q : Str → Bool} (p : FldN K f P) (q : FldN K f Q) : FldN K f (fun y => P y || Q y) :=
  ⟨fun c C h hc => by
    rcases Bool.or_eq_true_iff.mp h with h | h
    · exact p.ex c C h hc
    · exact q.ex c C h hc⟩
end
end MI
namespace MI
open PySem L2
section
variable {E : Exn → Mem → Prop} {ρ : Env} {m : Mem}
@[simp] theorem W_fld {P : Str → Bool} {f : Str} {g : ME} {Q : MV → Mem → Prop} : W (mFld P f g ρ m) Q E = W (g ρ m) (fun d m1 => W (gFld P f d m1) Q E) E := by
  unfold mFld
  rw [W_bind]
theorem W_gFld {P : Str → Bool} {f c : Str} {n : Nat} {l : List (Str × MV)} {v : MV} {Q : MV → Mem → Prop} (h : m[n]? = some (.own c l)) (hP : P c = true) (hl : l.lookup f = some v) (q : Q v m) : W (gFld P f (.ref n) m) Q E := by
  unfold gFld ownOf
  simp only [h, hP, hl, if_true]
  exact q
@[simp] theorem W_fldS {P : Str → Bool} {f : Str} {fo fv : ME} {Q : Fl → Mem → Prop} : W (mFldS P f fo fv ρ m) Q E = W (fv ρ m) (fun y m1 => W (fo ρ m1) (fun d m2 => match ownOf m2 d with
    | some (n, c, l) => if P c = true ∧ l.length < 1000 then Q (.nx ρ) (m2.set n (.own c (putFM f y l))) else False
    | none => False) (fun x m => Q (.ex x ρ) m)) (fun x m => Q (.ex x ρ) m) := by
  unfold mFldS
  simp only [W_onE]
  congr 1
  funext y m1
  congr 1
  funext d m2
  cases h : ownOf m2 d with
  | none => rfl
  | some q =>
    obtain ⟨n, c, l⟩ := q
    simp only
    split <;> rfl
theorem ownOf_at {n : Nat} {c : Str} {l : List (Str × MV)} (h : m[n]? = some (.own c l)) : ownOf m (.ref n) = some (n, c, l) := by
  unfold ownOf
  simp only [h]
end
end MI
section
set_option maxHeartbeats 4000000
namespace MI
open PySem PySem.Spec PyProof.Rows L2
end MI
end
namespace MI
open PySem L2
variable [Nms]
section
variable {X : Cx}
def gMulB (d e : MV) (m : Mem) : Re MV := match d, e with
  | .tup xs, .int k => if 0 < xs.length ∧ k = 1 then .ok (.tup xs) m else if 0 < xs.length ∧ k = 0 then .ok (.tup []) m else gMul (.tup xs) (.int k) m
  | d, e => gMul d e m
end
section
variable {E : Exn → Mem → Prop} {m : Mem} {Q : MV → Mem → Prop}
@[simp] theorem W_mulB_1 {a : MV} {l : List MV} : W (gMulB (.tup (a :: l)) (.int 1) m) Q E = Q (.tup (a :: l)) m := by
  unfold gMulB
  simp
@[simp] theorem W_mulB_0 {a : MV} {l : List MV} : W (gMulB (.tup (a :: l)) (.int 0) m) Q E = Q (.tup []) m := by
  unfold gMulB
  simp
end
end MI
namespace MI
open PySem L2
variable [Nms]
section
variable {X : Cx} {W : WX} {pos : Pos}
def mPar2 (i j : Nat) (g : MA) : MS := fun ρ m => onE ρ (g ρ m) fun ds m1 => match ds with
  | [u, v] => .ok (.nx ((ρ.set i (some u)).set j (some v))) m1
  | _ => .stuck
def mPar3 (i j l : Nat) (g : MA) : MS := fun ρ m => onE ρ (g ρ m) fun ds m1 => match ds with
  | [u, v, w] => .ok (.nx (((ρ.set i (some u)).set j (some v)).set l (some w))) m1
  | _ => .stuck
end
section
variable {E : Exn → Mem → Prop} {ρ : Env} {m : Mem} {Q : Fl → Mem → Prop}
@[simp] theorem W_par2 {i j : Nat} {g : MA} : W (mPar2 i j g ρ m) Q E = W (g ρ m) (fun ds m1 => match ds with | [u, v] => Q (.nx ((ρ.set i (some u)).set j (some v))) m1 | _ => False) (fun x m => Q (.ex x ρ) m) := by
  unfold mPar2
  rw [W_onE]
  congr 1
  funext ds m1
  split <;> simp_all
@[simp] theorem W_par3 {i j l : Nat} {g : MA} : W (mPar3 i j l g ρ m) Q E = W (g ρ m) (fun ds m1 => match ds with | [u, v, w] => Q (.nx (((ρ.set i (some u)).set j (some v)).set l (some w))) m1 | _ => False) (fun x m => Q (.ex x ρ) m) := by
  unfold mPar3
  rw [W_onE]
  congr 1
  funext ds m1
  split <;> simp_all
end
/-- the slots that a target writes -/
def Wr (g : NG) (vs : List Nat) : Prop := ∀ d m as, g d m = some as → ∀ p ∈ as, p.1 ∈ vs
def Wrs (g : NGs) (vs : List Nat) : Prop := ∀ ds m as, g ds m = some as → ∀ p ∈ as, p.1 ∈ vs
theorem wr_name {i : Nat} {vs : List Nat} (h : i ∈ vs) : Wr (ngName i) vs := fun d m as e p hp => by
  unfold ngName at e
  cases e
  simp at hp
  subst hp
  exact h
theorem wr_nil {vs : List Nat} : Wrs ngNil vs := fun ds m as e p hp => by
  unfold ngNil at e
  split at e
  · cases e; cases hp
  · cases e
theorem wr_cons {g : NG} {k : NGs} {vs : List Nat} (h : Wr g vs) (q : Wrs k vs) : Wrs (ngCons g k) vs := fun ds m as e p hp => by
  unfold ngCons at e
  split at e
  · split at e
    · rename_i a b e1 e2
      cases e
      rcases List.mem_append.mp hp with hp | hp
      · exact h _ _ _ e1 p hp
      · exact q _ _ _ e2 p hp
    · cases e
  · cases e
theorem wr_tup {n : Nat} {k : NGs} {vs : List Nat} (q : Wrs k vs) : Wr (ngTup n k) vs := fun d m as e p hp => by
  unfold ngTup at e
  split at e
  · split at e
    · exact q _ _ _ e p hp
    · cases e
  · cases e
end MI
namespace MI
open PySem L2
end MI
namespace MI
open PySem L2
variable [Nms]
section
variable {E : Exn → Mem → Prop} {ρ : Env} {m : Mem}
theorem W_lc_nil {chk : Mem → Prop} {g : NG} {t : MT} {e : ME} {acc : List MV} {Q : List MV → Mem → Prop} (hc : chk m) (q : Q acc m) : W (lcM chk g t e ρ [] acc m) Q E := by
  unfold lcM
  rw [if_pos hc]
  exact q
theorem W_lc_cons {chk : Mem → Prop} {g : NG} {t : MT} {e : ME} {d : MV} {l acc : List MV} {as : List (Nat × MV)} {Q : List MV → Mem → Prop} (hc : chk m) (hg : g d m = some as)
    (q : W (t (setE ρ as) m) (fun b m => if b = true then W (e (setE ρ as) m) (fun y m => acc.length < sizeLine ∧ W (lcM chk g t e ρ l (acc ++ [y]) m) Q E) E0 else W (lcM chk g t e ρ l acc m) Q E) E0) : W (lcM chk g t e ρ (d :: l) acc m) Q E := by
  unfold lcM
  rw [if_pos hc, hg]
  dsimp only
  cases ht : t (setE ρ as) m with
  | stuck => rw [ht] at q; exact q.elim
  | ex x m' => rw [ht] at q; exact q.elim
  | ok b m' =>
    rw [ht] at q
    cases b with
    | false => exact q
    | true =>
      have q : W (e (setE ρ as) m') (fun y m => acc.length < sizeLine ∧ W (lcM chk g t e ρ l (acc ++ [y]) m) Q E) E0 := q
      dsimp only
      cases he : e (setE ρ as) m' with
      | stuck => rw [he] at q; exact q.elim
      | ex x m2 => rw [he] at q; exact q.elim
      | ok y m2 =>
        rw [he] at q
        dsimp only
        rw [if_pos q.1]
        exact q.2
end
end MI
namespace MI
open PySem L2
variable [Nms]
/-- the object is of the class c, and no attribute hides its method m -/
def hasM (c m : Str) (d : MV) (me : Mem) : Bool := match ownOf me d with
  | some (_, c', l) => c' == c && (l.lookup m).isNone
  | none => false
def mMeth (c m : Str) (F : MF) (g : ME) (ga : MA) : ME := fun ρ me => (g ρ me).bind fun d m1 => if hasM c m d m1 = true then (ga ρ m1).bind fun ds m2 => F (d :: ds) m2 else .stuck
/-- a method of a class of the module -/
structure MthAt (K : PySem.W.Frag) (c m qual : Str) (st : Stmt) (ps : List Str) : Prop where
  ex : ∃ (C f : Addr) (fd : FuncData), Fun K m qual st f fd ∧ (∀ D, ClsN K c D → D = C) ∧ Cls K C ∧ Meth K C m f ∧ Binds K fd ps []
section
variable {K : PySem.W.Frag} {h : Heap} {mg : Str → Option Value} {w : World}
theorem mth_mk {c m qual : Str} {st : Stmt} {ps : List Str} {C f : Addr} {oc : Value} {od an : Option Addr} {osl : Array (Option Value)} {kV doc pm cdv ct : Value}
    (a : PySem.W.nsIn K mainGlobals c = some (some (.ref C))) (i : PySem.W.findIn K (.ref C) m = some (some (.ref f))) (fn : PySem.W.isFn K (.ref f) = true)
    (pg : PySem.W.plainGet K C Str.empty = true) (hd : PySem.W.hasDictIn K C = true) (po : PySem.W.plainOver K C = true) (sa : PySem.W.findIn K (.ref C) "__setattr__" = some (some (.builtin "object.__setattr__")))
    (l : K.lookup f = some ⟨oc, od, .func (PySem.W.fnOf m qual (defArgs st) (defBody st) (defScope st) .none kV doc pm an cdv ct), osl⟩) (cd : PySem.W.codeIn K cdv qual = true) (k : PySem.W.keepIn K (.ref f) = true)
    (b : ∀ (kV doc pm : Value) (an : Option Addr) (cdv ct : Value) (us : List Value), us.length = ps.length → bindArgs (PySem.W.fnOf m qual (defArgs st) (defBody st) (defScope st) .none kV doc pm an cdv ct) ⟨us, []⟩ = pure (ps.zip us)) : MthAt K c m qual st ps :=
  ⟨C, f, _, fun_mk l cd k, fun D hD => by
    have hD : PySem.W.nsIn K mainGlobals c = some (some (.ref D)) := hD
    rw [a] at hD
    cases hD
    rfl, ⟨pg, hd, po, sa⟩, ⟨i, fn, k⟩, (fun_mk l cd k).binds b⟩
end
end MI
namespace MI
open PySem L2
variable [Nms]
section
variable {X : Cx} {W : WX} {pos : Pos}
def mBrk : MS := fun ρ m => .ok (.bk ρ) m
def mCnt : MS := fun ρ m => .ok (.ct ρ) m
end
section
variable {K : PySem.W.Frag} {β : List Addr} {H : Hp} {m : Mem}
theorem RVs.reverse : ∀ {l : List MV} {vs : List V}, RVs K β H l vs → RVs K β H l.reverse vs.reverse
  | _, _, .nil => .nil
  | _, _, .cons h r => by rw [List.reverse_cons, List.reverse_cons]; exact r.reverse.app (.cons h .nil)
def mRev (g : ME) : ME := fun ρ m => (g ρ m).bind fun d m1 => match lstOf m1 d with
  | some l => alloc (.lst l.reverse) m1
  | none => .stuck
/-- the pairs of a list, as entries -/
def pairsM : List MV → Option (List (Key × MV))
  | [] => some []
  | .tup [.str s, v] :: r => (pairsM r).map fun ks => (.inr s, v) :: ks
  | .tup [.int i, v] :: r => (pairsM r).map fun ks => (.inl i, v) :: ks
  | _ :: _ => none
def mergeM (kvs more : List (Key × MV)) : List (Key × MV) := more.foldl (fun acc kv => putM acc kv.1 kv.2) kvs
def gDict : List MV → Mem → Re MV
  | [d], m => match dctOf m d with
    | some (_, l) => alloc (.dct l) m
    | none => match lstOf m d with
      | some l => match pairsM l with
        | some ks => alloc (.dct (mergeM [] ks)) m
        | none => .stuck
      | none => .stuck
  | _, _ => .stuck
end
section
variable {m : Mem} {E : Exn → Mem → Prop} {ρ : Env}
@[simp] theorem W_brkS {Q : Fl → Mem → Prop} : MI.W (mBrk ρ m) Q E = Q (.bk ρ) m := rfl
@[simp] theorem W_cntS {Q : Fl → Mem → Prop} : MI.W (mCnt ρ m) Q E = Q (.ct ρ) m := rfl
@[simp] theorem W_rev {g : ME} {Q : MV → Mem → Prop} : MI.W (mRev g ρ m) Q E = MI.W (g ρ m) (fun d m1 => match lstOf m1 d with
  | some l => Q (.ref m1.length) (m1 ++ [.lst l.reverse])
  | none => False) E := by
  unfold mRev
  simp only [W_bind]
  congr 1
  funext d m1
  cases lstOf m1 d <;> rfl
@[simp] theorem W_dictC {d : MV} {Q : MV → Mem → Prop} : MI.W (gDict [d] m) Q E = match dctOf m d with
  | some (_, l) => Q (.ref m.length) (m ++ [.dct l])
  | none => match lstOf m d with
    | some l => match pairsM l with
      | some ks => Q (.ref m.length) (m ++ [.dct (mergeM [] ks)])
      | none => False
    | none => False := by
  show MI.W (match dctOf m d with
    | some (_, l) => alloc (.dct l) m
    | none => match lstOf m d with
      | some l => match pairsM l with
        | some ks => alloc (.dct (mergeM [] ks)) m
        | none => .stuck
      | none => .stuck) Q E = _
  cases dctOf m d with
  | some p => rfl
  | none =>
    cases lstOf m d with
    | none => rfl
    | some l =>
      dsimp only
      cases pairsM l <;> rfl
end
section
variable {m : Mem} {E : Exn → Mem → Prop} {ρ : Env}
@[simp] theorem W_meth {c x : Str} {F : MF} {g : ME} {ga : MA} {Q : MV → Mem → Prop} : MI.W (mMeth c x F g ga ρ m) Q E = MI.W (g ρ m) (fun d m1 => hasM c x d m1 = true ∧ MI.W (ga ρ m1) (fun ds m2 => MI.W (F (d :: ds) m2) Q E) E) E := by
  unfold mMeth
  simp only [W_bind]
  congr 1
  funext d m1
  by_cases h : hasM c x d m1 = true
  · simp [h]
  · simp [h]
end
end MI
namespace MI
open PySem L2
variable [Nms]
open Classical in
noncomputable def dcM (chk : Mem → Prop) (g : NG) (t : MT) (fk fv : ME) (ρ : Env) : List MV → List (Key × MV) → Mem → Re (List (Key × MV))
  | [], acc, m => if chk m then .ok acc m else .stuck
  | d :: r, acc, m => if chk m then (match g d m with
    | some as => match t (setE ρ as) m with
      | .ok true m2 => match fk (setE ρ as) m2 with
        | .ok y m3 => match fv (setE ρ as) m3 with
          | .ok z m4 => match keyOf y with
            | some k => if acc.length < sizeLine then dcM chk g t fk fv ρ r (putM acc k z) m4 else .stuck
            | none => .stuck
          | _ => .stuck
        | _ => .stuck
      | .ok false m2 => dcM chk g t fk fv ρ r acc m2
      | _ => .stuck
    | none => .stuck) else .stuck
noncomputable def mDc (h : MI') (g : NG) (t : MT) (fk fv : ME) (vs : List Nat) : ME := fun ρ m => (h ρ m).bind fun it m1 => (dcM it.chk g t fk fv (wipeM ρ vs) it.items [] m1).bind fun l m2 => alloc (.dct l) m2
section
variable {X : Cx} {W : WX} {pos : Pos} {K : PySem.W.Frag} {β : List Addr} {H : Hp} {m : Mem}
theorem RKs.len : ∀ {l : List (Key × MV)} {vs : List (Key × V)}, RKs K β H l vs → l.length = vs.length
  | _, _, .nil => rfl
  | _, _, .cons _ r => by simp [r.len]
end
end MI
namespace MI
open PySem L2
section
variable {ρ : Env} {m : Mem} {E : Exn → Mem → Prop}
@[simp] theorem W_dc {h : MI'} {g : NG} {t : MT} {fk fv : ME} {vs : List Nat} {Q : MV → Mem → Prop} : W (mDc h g t fk fv vs ρ m) Q E = W (h ρ m) (fun it m => W (dcM it.chk g t fk fv (wipeM ρ vs) it.items [] m) (fun l m => Q (.ref m.length) (m ++ [.dct l])) E) E := by
  unfold mDc
  simp only [W_bind]
  rfl
end
end MI
namespace MI
open PySem L2 NdefX
variable [Nms]
/-- what stays of what is not tracked, and of tuples, whatever runs -/
structure Lat (H H' : Hp) (h h' : Heap) : Prop where
  keep : ∀ b o, h.get? b = some o → H b = none → ∃ sl, h'.get? b = some { o with slots := sl }
  free : ∀ b o, h.get? b = some o → H b = none → H' b = none
  tups : ∀ b xs, H b = some (.tup xs) → H' b = some (.tup xs)
  frzs : ∀ b o u, H b = some (.frz o u) → H' b = some (.frz o u)
  tbls : ∀ b ps, H b = some (.tbl ps) → ∃ more, H' b = some (.tbl (ps ++ more))
theorem Lat.trans {H H1 H2 : Hp} {h h1 h2 : Heap} (a : Lat H H1 h h1) (b : Lat H1 H2 h1 h2) : Lat H H2 h h2 where
  keep := fun c o q n => by
    obtain ⟨sl, q1⟩ := a.keep c o q n
    obtain ⟨sl2, q2⟩ := b.keep c _ q1 (a.free c o q n)
    exact ⟨sl2, q2⟩
  free := fun c o q n => by
    obtain ⟨sl, q1⟩ := a.keep c o q n
    exact b.free c _ q1 (a.free c o q n)
  tups := fun c xs q => b.tups c xs (a.tups c xs q)
  frzs := fun c o u q => b.frzs c o u (a.frzs c o u q)
  tbls := fun c ps q => by
    obtain ⟨m1, q1⟩ := a.tbls c ps q
    obtain ⟨m2, q2⟩ := b.tbls c _ q1
    exact ⟨m1 ++ m2, by rw [q2, Array.append_assoc]⟩
theorem Lat.un {fs : List Addr} {H H' : Hp} {h h' : Heap} (u : Un fs [] H H' h h') : Lat H H' h h' :=
  ⟨fun _ _ q n => u.any q n (by simp), fun b o q n => u.free b o q n (by simp), u.tups, u.frzs, u.tbls⟩
theorem Lat.fn {H H' : Hp} {h h' : Heap} {c : Addr} (l : Lat H H' h h') (n : H c = none) (f : PySem.W.FnAt c h) : PySem.W.FnAt c h' := by
  obtain ⟨oc, od, fd, sl, q⟩ := f
  obtain ⟨sl', q'⟩ := l.keep c _ q n
  exact ⟨oc, od, fd, sl', q'⟩
theorem Lat.cell {H H' : Hp} {h h' : Heap} {c : Addr} {v : Option Value} (l : Lat H H' h h') (n : H c = none) (q : h.IsCell c v) : h'.IsCell c v := by
  obtain ⟨o, ho, hd⟩ := q
  obtain ⟨sl', q'⟩ := l.keep c _ ho n
  exact ⟨_, q', hd⟩
theorem among_more {pos : Pos} {cv : Value} (r : List Value) : ∀ l : List Value, codeAmong pos l = some cv → codeAmong pos (l ++ r) = some cv := by
  intro l
  fun_induction codeAmong pos l with
  | case1 a t b u c rest hc => intro h; cases h; simp only [List.cons_append, codeAmong]; rw [if_pos hc]
  | case2 a t b u c rest hc ih => intro h; simp only [List.cons_append, codeAmong]; rw [if_neg hc]; exact ih h
  | case3 l _ => intro h; cases h
theorem Rch.more {tb : List Addr} {H H' : Hp} (hf : ∀ b o u, H b = some (.frz o u) → H' b = some (.frz o u)) (ht : ∀ b ps, H b = some (.tbl ps) → ∃ more, H' b = some (.tbl (ps ++ more))) {P : Addr} (r : Rch tb H P) : Rch tb H' P := by
  induction r with
  | st h => exact .st h
  | en _ h1 h2 h3 h4 ih =>
    obtain ⟨more, h1'⟩ := ht _ _ h1
    exact .en ih h1' (by rw [Array.toList_append]; exact among_more _ _ h2) (hf _ _ _ h3) h4
mutual
/-- no list of the script's kind within -/
def noKl : MV → Bool
  | .kl _ => false
  | .tup l => noKls l
  | _ => true
def noKls : List MV → Bool
  | [] => true
  | d :: l => noKl d && noKls l
end
mutual
theorem RV.later {K : PySem.W.Frag} {β β' : List Addr} {H H' : Hp} {h h' : Heap} (l : Lat H H' h h') (hb : ∀ (n : Nat) (a : Addr), β[n]? = some a → β'[n]? = some a) : ∀ {d : MV} {v : V}, noKl d = true → RV K β H d v → RV K β' H' d v
  | _, _, _, .non => .non
  | _, _, _, .bl b => .bl b
  | _, _, _, .int i => .int i
  | _, _, _, .str x => .str x
  | _, _, q, .tup h r => .tup (by
      rcases h with (h | ⟨o, h⟩) | h
      · exact .inl (.inl (l.tups _ _ h))
      · exact .inl (.inr ⟨o, l.frzs _ _ _ h⟩)
      · exact .inr h) (RVs.later l hb (by unfold noKl at q; exact q) r)
  | _, _, _, .ref h => .ref (hb _ _ h)
  | _, _, q, .kl h r => by unfold noKl at q; cases q
  | _, _, _, .clo h => .clo fun n a q => hb n a (h n a q)
theorem RVs.later {K : PySem.W.Frag} {β β' : List Addr} {H H' : Hp} {h h' : Heap} (l : Lat H H' h h') (hb : ∀ (n : Nat) (a : Addr), β[n]? = some a → β'[n]? = some a) : ∀ {d : List MV} {v : List V}, noKls d = true → RVs K β H d v → RVs K β' H' d v
  | _, _, _, .nil => .nil
  | _, _, q, .cons h r => by
    unfold noKls at q
    rw [Bool.and_eq_true] at q
    exact .cons (RV.later l hb q.1 h) (RVs.later l hb q.2 r)
end
/-- what a run of C promises -/
def PostF (K : PySem.W.Frag) (r : Re MV) (β : List Addr) (H : Hp) (Q : VK) (E : XK) : Prop :=
  match r with
  | .ok d m' => ∀ v H' β', Ext β H β' H' → RM K β' H' m' → RV K β' H' d v → Q v H'
  | .ex x m' => ∀ cls dd H' β', Ext β H β' H' → RM K β' H' m' → XR K x cls dd → E cls dd H'
  | .stuck => False
/-- the function object at c, made ahead of (s, H), does C from there on: C k where there is room for k steps, k below kb; n arguments -/
structure ActsM (M : Mode) (P : Program) (w : World) (K : PySem.W.Frag) (mg : Str → Option Value) (base : Heap) (kb n : Nat) (c : Addr) (C : Nat → MF) (β : List Addr) (s : Shared) (H : Hp) : Prop where
  free : H c = none
  fn : PySem.W.FnAt c s.heap
  run : ∀ (k : Nat) (_ : k < kb) (A : Around) (outer : List PySem.Env) (s' : Shared) (H' : Hp) (β' : List Addr) (m : Mem) (ds : List MV) (us : List Value) (vs : List V) (Q : VK) (E : XK), Lat H H' s.heap s'.heap → (∀ (n : Nat) (a : Addr), β[n]? = some a → β'[n]? = some a) → Room (lv k) A → Env0 P w K mg base A outer s' H' →
    Vals vs us → vs.length = n → RVs K β' H' ds vs → RM K β' H' m → PostF K (C k ds m) β' H' Q E → codeAny (model P w) A (.call (.ref c) ⟨us, []⟩) (CR (M.CX P w) outer P w H' s' Q E) s'
section
variable {M : Mode} {P : Program} {w : World} {K : PySem.W.Frag} {mg : Str → Option Value} {base : Heap} {kb kb' n : Nat} {c : Addr} {C : Nat → MF} {β β1 : List Addr} {s s1 : Shared} {H H1 : Hp}
theorem ActsM.later (a : ActsM M P w K mg base kb n c C β s H) (l : Lat H H1 s.heap s1.heap) (hb : ∀ (n : Nat) (a : Addr), β[n]? = some a → β1[n]? = some a) : ActsM M P w K mg base kb n c C β1 s1 H1 where
  free := by
    obtain ⟨oc, od, fd, sl, q⟩ := a.fn
    exact l.free c _ q a.free
  fn := l.fn a.free a.fn
  run := fun k hk A outer s' H' β' m ds us vs Q E l' hb' => a.run k hk A outer s' H' β' m ds us vs Q E (l.trans l') fun n x q => hb' n x (hb n x q)
theorem ActsM.mono (a : ActsM M P w K mg base kb n c C β s H) (h : kb' ≤ kb) : ActsM M P w K mg base kb' n c C β s H :=
  ⟨a.free, a.fn, fun k hk => a.run k (Nat.lt_of_lt_of_le hk h)⟩
end
def mThen (i : Nat) (c : Addr) (β0 : List Addr) (C : MF) (g : MA) : ME := fun ρ m => match ρ[i]? with
  | some (some (.clo c' β')) => if c' = c ∧ β' = β0 then (g ρ m).bind fun ds m1 => C ds m1 else .stuck
  | _ => .stuck
end MI
namespace MI
open PySem PySem.Spec PyProof.Rows L2 LamX NdefX
end MI
namespace MI
open PySem PySem.Spec PyProof.Rows L2 LamX NdefX
variable [Nms]
/-- a code object of the name q that a run made stands at d, its table can be come to -/
def Cod (K : PySem.W.Frag) (H : Hp) (d : Addr) (q : Str) : Prop := ∃ o T, H d = some (CodeF o) ∧ CodeIs o q d T ∧ Rch (Nms.tb K) H T
theorem Cod.later {K : PySem.W.Frag} {H H' : Hp} {h h' : Heap} {d : Addr} {q : Str} (l : Lat H H' h h') (c : Cod K H d q) : Cod K H' d q := by
  obtain ⟨o, T, h1, h2, h3⟩ := c
  exact ⟨o, T, l.frzs _ _ _ h1, h2, h3.more l.frzs l.tbls⟩
theorem Rch.ext {K : PySem.W.Frag} {β β' : List Addr} {H H' : Hp} {m : Mem} (R : RM K β H m) (e : Ext β H β' H') {tb : List Addr} {P : Addr} (r : Rch tb H P) : Rch tb H' P := by
  induction r with
  | st h => exact .st h
  | en _ h1 h2 h3 h4 ih =>
    obtain ⟨more, h1'⟩ := e.tab _ _ h1 fun z => (R.noTab z _ h1).1 _ rfl
    exact .en ih h1' (by rw [Array.toList_append]; exact among_more _ _ h2) (e.old _ _ h3 (fun z => (R.noTab z _ h3).2 _ rfl) fun _ z => by unfold CodeF at z; cases z) h4
theorem Cod.ext {K : PySem.W.Frag} {β β' : List Addr} {H H' : Hp} {m : Mem} {d : Addr} {q : Str} (R : RM K β H m) (e : Ext β H β' H') (c : Cod K H d q) : Cod K H' d q := by
  obtain ⟨o, T, h1, h2, h3⟩ := c
  exact ⟨o, T, e.old _ _ h1 (fun z => (R.noTab z _ h1).2 _ rfl) (fun _ z => by unfold CodeF at z; cases z), h2, h3.ext R e⟩
end MI
namespace MI
open PySem L2 NdefX
variable [Nms]
/-- the code object of the function that stands at f -/
def CodeAt (K : PySem.W.Frag) (f c : Addr) : Prop := ∀ o fd, K.lookup f = some o → o.data = .func fd → fd.code = .ref c
/-- the function at f may make functions -/
structure MkF (K : PySem.W.Frag) (mg : Str → Option Value) (base : Heap) (f : Addr) : Prop where
  ex : ∃ c P, CodeAt K f c ∧ PySem.W.CodeHd base c P ∧ P ∈ Nms.tb K ∧ base.BuiltinsAt mg P
theorem MkF.bm {K : PySem.W.Frag} {mg : Str → Option Value} {base : Heap} {f : Addr} (m : MkF K mg base f) : ∃ P0, base.BuiltinsAt mg P0 := let ⟨_, P, _, _, _, h⟩ := m.ex; ⟨P, h⟩
/-- the closure among the arguments -/
def cloAt (ic : Nat) (ds : List MV) : Option (Addr × List Addr) := match ds[ic]? with
  | some (.clo c β) => some (c, β)
  | _ => none
/-- a call that hands the closure on -/
def mCallC (ic : Nat) (c : Addr) (β0 : List Addr) (F : MF) (g : MA) : ME := fun ρ m => (g ρ m).bind fun ds m1 => if cloAt ic ds = some (c, β0) then F ds m1 else .stuck
end MI
namespace MI
open PySem L2 NdefX
variable [Nms]
/-- what a closure's names hold at its start: the arguments, what it captured, nothing -/
def startC (n : Nat) (ds cap : List MV) : Env := ds.map some ++ (cap.map some ++ List.replicate (n - ds.length - cap.length) none)
/-- captured values as slots -/
inductive RVo (K : PySem.W.Frag) (β : List Addr) (H : Hp) : List MV → List (Option V) → Prop
  | nil : RVo K β H [] []
  | cons {d : MV} {v : V} {ds : List MV} {vs : List (Option V)} : RV K β H d v → RVo K β H ds vs → RVo K β H (d :: ds) (some v :: vs)
theorem RVo.length {K : PySem.W.Frag} {β : List Addr} {H : Hp} : ∀ {ds : List MV} {ws : List (Option V)}, RVo K β H ds ws → ds.length = ws.length
  | _, _, .nil => rfl
  | _, _, .cons _ r => by simp [r.length]
theorem RVo.at_ {K : PySem.W.Frag} {β : List Addr} {H : Hp} : ∀ {ds : List MV} {ws : List (Option V)} {i : Nat} {d : MV}, RVo K β H ds ws → ds[i]? = some d → ∃ v, ws[i]? = some (some v) ∧ RV K β H d v
  | _, _, 0, _, .cons h _, e => by simp at e; subst e; exact ⟨_, by simp, h⟩
  | _, _, i + 1, _, .cons _ r, e => by simp at e; obtain ⟨v, e', q⟩ := r.at_ e; exact ⟨v, by simpa using e', q⟩
theorem RVo.later {K : PySem.W.Frag} {β β' : List Addr} {H H' : Hp} {h h' : Heap} (l : Lat H H' h h') (hb : ∀ (n : Nat) (a : Addr), β[n]? = some a → β'[n]? = some a) : ∀ {d : List MV} {v : List (Option V)}, noKls d = true → RVo K β H d v → RVo K β' H' d v
  | _, _, _, .nil => .nil
  | _, _, q, .cons h r => by
    unfold noKls at q
    rw [Bool.and_eq_true] at q
    exact .cons (RV.later l hb q.1 h) (RVo.later l hb q.2 r)
end MI
namespace MI
open PySem PySem.Spec PyProof.Rows L2 LamX NdefX
variable [Nms]
/-- the captured slots of an environment -/
def capOf (ρ : Env) : List Nat → Option (List MV)
  | [] => some []
  | j :: js => match ρ[j]?, capOf ρ js with
    | some (some d), some r => some (d :: r)
    | _, _ => none
/-- what a lambda does: at fuel k + 1 its body, over what it captured -/
def lamC (N : Nat) (cap : List MV) (b : Nat → ME) : Nat → MF
  | 0 => fun _ _ => .stuck
  | k + 1 => fun ds m => b k (startC N ds cap) m
open Classical in
/-- what all choices of an address and of numbers come to, if it is one thing -/
noncomputable def dem (f : Addr → List Addr → Re MV) : Re MV := if h : ∃ r, ∀ c β, f c β = r then Classical.choose h else .stuck
end MI
namespace MI
open PySem PySem.Spec PyProof.Rows L2 LamX NdefX
variable [Nms]
theorem PostF.later {K : PySem.W.Frag} {r : Re MV} {β β1 : List Addr} {H H1 : Hp} {Q : VK} {E : XK} (p : PostF K r β H Q E) (e : Ext β H β1 H1) : PostF K r β1 H1 Q E := by
  cases r with
  | ok d m => exact fun v H' β' e' => p v H' β' (e.trans e')
  | ex x m => exact fun c d H' β' e' => p c d H' β' (e.trans e')
  | stuck => exact p
/-- a call that makes its last argument, a lambda: F of what the lambda does, whatever the address -/
noncomputable def mCallL (F : (Nat → MF) → MF) (g : MA) (js : List Nat) (N : Nat) (b : Nat → ME) : ME := fun ρ m => (g ρ m).bind fun ds m1 => match capOf ρ js with
  | some cap => if noKls cap = true then dem fun c β => F (lamC N cap b) (ds ++ [.clo c β]) m1 else .stuck
  | none => .stuck
end MI
namespace MI
open PySem PySem.Spec PyProof.Rows L2 LamX NdefX
end MI
namespace MI
open PySem PySem.Spec PyProof.Rows L2 LamX NdefX
variable [Nms]
/-- o.m(.., lambda ..) -/
noncomputable def mMethL (c m : Str) (F : (Nat → MF) → MF) (go : ME) (g : MA) (js : List Nat) (N : Nat) (b : Nat → ME) : ME := fun ρ me => (go ρ me).bind fun d m0 => if hasM c m d m0 = true then (g ρ m0).bind fun ds m1 => match capOf ρ js with
  | some cap => if noKls cap = true then dem fun ca β => F (lamC N cap b) (d :: (ds ++ [.clo ca β])) m1 else .stuck
  | none => .stuck else .stuck
end MI
namespace MI
open PySem PySem.Spec PyProof.Rows L2 LamX NdefX
variable [Nms]
section
variable {M : Mode} {P : Program} {w : World} {K : PySem.W.Frag} {mg : Str → Option Value} {base : Heap} {k : Nat}
/-- what a nested def does: at fuel k + 1 its body, over what it captured -/
def defC (N : Nat) (cap : List MV) (b : Nat → MS) : Nat → MF
  | 0 => fun _ _ => .stuck
  | k + 1 => fun ds m => endOf (b k (startC N ds cap) m)
end
end MI
namespace MI
open PySem PySem.Spec PyProof.Rows L2 LamX NdefX
variable [Nms]
/-- the arguments, then the closure that is made of a nested def -/
noncomputable def mCallN (F : (Nat → MF) → MF) (g : MA) (js : List Nat) (N : Nat) (b : Nat → MS) : ME := fun ρ m => (g ρ m).bind fun ds m1 => match capOf ρ js with
  | some cap => if noKls cap = true then dem fun c β => F (defC N cap b) (ds ++ [.clo c β]) m1 else .stuck
  | none => .stuck
/-- def y: ..; return x(.., y), y at slot iy -/
noncomputable def mDefRet (F : (Nat → MF) → MF) (g : MA) (js : List Nat) (N : Nat) (b : Nat → MS) (iy : Nat) : MS := fun ρ m => mRet (mCallN F g js N b) (ρ.set iy none) m
end MI
namespace MI
open PySem PySem.Spec PyProof PyProof.Rows L2 LamX NdefX
end MI
namespace MI
open PySem PySem.Spec PyProof PyProof.Rows L2 LamX NdefX
end MI
namespace MI
open PySem PySem.Spec PyProof PyProof.Rows L2 LamX NdefX
end MI
namespace MI
open PySem PySem.Spec PyProof.Rows L2 LamX NdefX
variable [Nms]
noncomputable def in2 (F : (Nat → MF) → MF) (js1 : List Nat) (N1 : Nat) (b1 : (Nat → MF) → Addr → List Addr → Nat → MS) (N2 : Nat) (b2 : Nat → MS) (i2 : Nat) (cap2 : List MV) (ρ : Env) (ds : List MV) (m1 : Mem) (c2 : Addr) (β2 : List Addr) : Re MV := match capOf (ρ.set i2 (some (.clo c2 β2))) js1 with
  | some cap1 => if noKls cap1 = true then dem fun c β => F (defC N1 cap1 (b1 (defC N2 cap2 b2) c2 β2)) (ds ++ [.clo c β]) m1 else .stuck
  | none => .stuck
noncomputable def mCallN2 (F : (Nat → MF) → MF) (g : MA) (js1 : List Nat) (N1 : Nat) (b1 : (Nat → MF) → Addr → List Addr → Nat → MS) (js2 : List Nat) (N2 : Nat) (b2 : Nat → MS) (i2 : Nat) : ME := fun ρ m => (g ρ m).bind fun ds m1 => match capOf ρ js2 with
  | some cap2 => if noKls cap2 = true then dem (in2 F js1 N1 b1 N2 b2 i2 cap2 ρ ds m1) else .stuck
  | none => .stuck
noncomputable def mDef2Ret (F : (Nat → MF) → MF) (g : MA) (js1 : List Nat) (N1 : Nat) (b1 : (Nat → MF) → Addr → List Addr → Nat → MS) (js2 : List Nat) (N2 : Nat) (b2 : Nat → MS) (i1 i2 : Nat) : MS :=
  fun ρ m => mRet (mCallN2 F g js1 N1 b1 js2 N2 b2 i2) ((ρ.set i1 none).set i2 none) m
end MI
namespace MI
open PySem PySem.Spec PyProof.Rows L2 LamX NdefX
end MI
namespace MI
open PySem PySem.Spec PyProof.Rows L2
end MI
namespace MI
open PySem PySem.Spec PyProof.Rows L2 LamX NdefX
variable [Nms]
noncomputable def mCallLm (F : (Nat → MF) → MF) (g1 g2 : MA) (js : List Nat) (N : Nat) (b : Nat → ME) : ME := fun ρ m => (g1 ρ m).bind fun ds1 m1 => match capOf ρ js with
  | some cap => if noKls cap = true then (g2 ρ m1).bind fun ds2 m2 => dem fun c β => F (lamC N cap b) (ds1 ++ .clo c β :: ds2) m2 else .stuck
  | none => .stuck
end MI
namespace MI
open PySem PySem.Spec PyProof.Rows L2 LamX
end MI
namespace MI
open PySem PySem.Spec PyProof.Rows L2 LamX NdefX
variable [Nms]
/-- the def x may make functions -/
structure MkAt (K : PySem.W.Frag) (mg : Str → Option Value) (base : Heap) (x : Str) : Prop where
  ex : ∃ f c P, mg x = some (.ref f) ∧ CodeAt K f c ∧ PySem.W.CodeHd base c P ∧ P ∈ Nms.tb K ∧ base.BuiltinsAt mg P
theorem mkat_of {K : PySem.W.Frag} {mg : Str → Option Value} {base h : Heap} {x : Str} {c P : Addr} {cs : List (Addr × Addr)} (X : K.In h) (G : h.Ns mainGlobals mg) (ht : PySem.W.tabIn K x = some (c, P)) (hm : (c, P) ∈ cs) (htb : P ∈ Nms.tb K) (TB : ∀ p ∈ cs, TabB base mg p.1 p.2) : MkAt K mg base x := by
  have tb := TB _ hm
  unfold PySem.W.tabIn at ht
  split at ht
  · rename_i f hf
    split at ht
    · rename_i hfo
      split at ht
      · rename_i c2 hc
        split at ht
        · split at ht
          · cases ht
            exact ⟨f, c, P, PySem.W.mg_of X G hf, fun o fd e1 e2 => by rw [hfo] at e1; cases e1; cases e2; exact hc, tb.code, htb, tb.bm⟩
          · cases ht
        · cases ht
      · cases ht
    · cases ht
  · cases ht
end MI
namespace MI
open PySem PySem.Spec PyProof PyProof.Rows L2 LamX NdefX
end MI
namespace MI
open PySem PySem.Spec PyProof.Rows L2 LamX
variable [Nms]
def TabsOf (K : PySem.W.Frag) : List Str → List (Addr × Addr) → Prop
  | [], [] => True
  | x :: xs, p :: cs => (PySem.W.tabIn K x = some p ∧ PySem.W.codeHdIn K p.1 p.2 = true ∧ K.lookup p.2 = none) ∧ TabsOf K xs cs
  | _, _ => False
theorem TabsOf.mem {K : PySem.W.Frag} : ∀ {xs : List Str} {cs : List (Addr × Addr)}, TabsOf K xs cs → ∀ p ∈ cs, ∃ x ∈ xs, PySem.W.tabIn K x = some p ∧ PySem.W.codeHdIn K p.1 p.2 = true ∧ K.lookup p.2 = none
  | [], [], _, p, h => by cases h
  | x :: xs, q :: cs, t, p, h => by
    obtain ⟨t1, t2⟩ := t
    rcases List.mem_cons.mp h with rfl | h
    · exact ⟨x, List.mem_cons_self, t1⟩
    · obtain ⟨y, hy, r⟩ := TabsOf.mem t2 p h
      exact ⟨y, List.mem_cons_of_mem _ hy, r⟩
  | [], _ :: _, t, _, _ => t.elim
  | _ :: _, [], t, _, _ => t.elim
theorem TabsOf.tb {K : PySem.W.Frag} : ∀ {xs : List Str} {cs : List (Addr × Addr)}, TabsOf K xs cs → (xs.filterMap fun x => (PySem.W.tabIn K x).map (·.2)) = cs.map (·.2)
  | [], [], _ => rfl
  | x :: xs, q :: cs, t => by
    obtain ⟨⟨t0, _⟩, t2⟩ := t
    rw [List.filterMap_cons, t0]
    simp only [Option.map_some, List.map_cons]
    rw [TabsOf.tb t2]
  | [], _ :: _, t => t.elim
  | _ :: _, [], t => t.elim
theorem TabsOf.mk {K : PySem.W.Frag} {mg : Str → Option Value} {base h : Heap} {xs : List Str} {cs : List (Addr × Addr)} {x : Str} {p : Addr × Addr} (t : TabsOf K xs cs) (htb : Nms.tb K = xs.filterMap fun x => (PySem.W.tabIn K x).map (·.2)) (X : K.In h) (G : h.Ns mainGlobals mg) (TB : ∀ p ∈ cs, TabB base mg p.1 p.2) (hp : p ∈ cs) (hx : PySem.W.tabIn K x = some p) : MkAt K mg base x := by
  refine mkat_of (c := p.1) (P := p.2) X G hx hp ?_ TB
  rw [htb, t.tb]
  exact List.mem_map.mpr ⟨p, hp, rfl⟩
end MI
namespace MI
open PySem L2
def dropM (l : List (Key × MV)) (k : Key) : List (Key × MV) := l.filter fun kv => decide (kv.1 ≠ k)
theorem RKs.drop {K : PySem.W.Frag} {β : List Addr} {H : Hp} : ∀ {l : List (Key × MV)} {vs : List (Key × V)} {k : Key}, RKs K β H l vs → RKs K β H (dropM l k) (dropK vs k)
  | _, _, _, .nil => .nil
  | _, _, k, .cons (k := q) h r => by
    unfold dropM dropK
    rw [List.filter_cons, List.filter_cons]
    by_cases e : q = k
    · simp only [e, ne_eq, not_true_eq_false, decide_false]; exact RKs.drop r
    · simp only [e, ne_eq, not_false_eq_true, decide_true]; exact .cons h (RKs.drop r)
def gDPop (d k : MV) (m : Mem) : Re MV := match dctOf m d, keyOf k with
  | some (n, l), some q => match valM l q with
    | some e => .ok e (m.set n (.dct (dropM l q)))
    | none => .stuck
  | _, _ => .stuck
def mDPop (fd fy : ME) : ME := fun ρ m => (fd ρ m).bind fun d m1 => if (dctOf m1 d).isSome = true then (fy ρ m1).bind fun k m2 => gDPop d k m2 else .stuck
section
variable {ρ : Env} {m : Mem} {Q : MV → Mem → Prop} {E : Exn → Mem → Prop}
@[simp] theorem W_dpop {f g : ME} : MI.W (mDPop f g ρ m) Q E = MI.W (f ρ m) (fun d m1 => if (dctOf m1 d).isSome = true then MI.W (g ρ m1) (fun k m2 => MI.W (gDPop d k m2) Q E) E else False) E := by
  unfold mDPop
  rw [W_bind]
  congr 1
  funext d m
  rw [W_ite]
  simp only [W_bind, W_stuck]
end
end MI
namespace MI
open PySem L2
def mPos (k : Nat) (f : ME) : ME := match k with
  | 0 => fun _ _ => .stuck
  | _ + 1 => f
theorem je_pos [Nms] {X : Cx} {W : WX} {e : Expr} {k : Nat} {f : ME} (h : 0 < k → JE X W e f) : JE X W e (mPos k f) := by
  cases k with
  | zero => exact ⟨⟨fun pins s σ H Q I h => by obtain ⟨_, _, _, _, _, p⟩ := h; exact p.elim⟩⟩
  | succ k => exact h (Nat.succ_pos k)
theorem lv_pos {k : Nat} (h : 0 < k) : lv (k - 1) + 1 ≤ lv k := by
  cases k with
  | zero => exact absurd h (Nat.lt_irrefl 0)
  | succ k => exact Nat.le_refl _
end MI
namespace MI
open PySem L2
variable [Nms]
section
variable {E : Exn → Mem → Prop} {ρ : Env} {m : Mem}
@[simp] theorem W_then {i : Nat} {c : Addr} {β : List Addr} {C : MF} {g : MA} {Q : MV → Mem → Prop} : W (mThen i c β C g ρ m) Q E = match ρ[i]? with
    | some (some (.clo c' β')) => (c' = c ∧ β' = β) ∧ W (g ρ m) (fun ds m1 => W (C ds m1) Q E) E
    | _ => False := by
  unfold mThen
  cases h1 : ρ[i]? with
  | none => rfl
  | some o =>
    cases o with
    | none => rfl
    | some d =>
      cases d with
      | clo c' β' =>
        simp only
        by_cases h : c' = c ∧ β' = β
        · rw [if_pos h, W_bind]; simp [h]
        · rw [if_neg h]; simp [h]
      | _ => rfl
@[simp] theorem W_callC {ic : Nat} {c : Addr} {β : List Addr} {F : MF} {g : MA} {Q : MV → Mem → Prop} : W (mCallC ic c β F g ρ m) Q E = W (g ρ m) (fun ds m1 => cloAt ic ds = some (c, β) ∧ W (F ds m1) Q E) E := by
  unfold mCallC
  rw [W_bind]
  congr 1
  funext ds m1
  rw [W_ite]
  by_cases h : cloAt ic ds = some (c, β)
  · rw [if_pos h]; simp [h]
  · rw [if_neg h]; simp [h]
@[simp] theorem W_callL {F : (Nat → MF) → MF} {g : MA} {js : List Nat} {N : Nat} {b : Nat → ME} {Q : MV → Mem → Prop} : W (mCallL F g js N b ρ m) Q E = W (g ρ m) (fun ds m1 => match capOf ρ js with
    | some cap => noKls cap = true ∧ W (dem fun c β => F (lamC N cap b) (ds ++ [.clo c β]) m1) Q E
    | none => False) E := by
  unfold mCallL
  rw [W_bind]
  congr 1
  funext ds m1
  cases capOf ρ js with
  | none => rfl
  | some cap =>
    simp only
    by_cases h : noKls cap = true
    · rw [if_pos h]; simp [h]
    · rw [if_neg h]; simp [h]
@[simp] theorem W_callLm {F : (Nat → MF) → MF} {g1 g2 : MA} {js : List Nat} {N : Nat} {b : Nat → ME} {Q : MV → Mem → Prop} : W (mCallLm F g1 g2 js N b ρ m) Q E = W (g1 ρ m) (fun ds1 m1 => match capOf ρ js with
    | some cap => noKls cap = true ∧ W (g2 ρ m1) (fun ds2 m2 => W (dem fun c β => F (lamC N cap b) (ds1 ++ .clo c β :: ds2) m2) Q E) E
    | none => False) E := by
  unfold mCallLm
  rw [W_bind]
  congr 1
  funext ds m1
  cases capOf ρ js with
  | none => rfl
  | some cap =>
    simp only
    by_cases h : noKls cap = true
    · rw [if_pos h, W_bind]; simp [h]
    · rw [if_neg h]; simp [h]
@[simp] theorem W_callN {F : (Nat → MF) → MF} {g : MA} {js : List Nat} {N : Nat} {b : Nat → MS} {Q : MV → Mem → Prop} : W (mCallN F g js N b ρ m) Q E = W (g ρ m) (fun ds m1 => match capOf ρ js with
    | some cap => noKls cap = true ∧ W (dem fun c β => F (defC N cap b) (ds ++ [.clo c β]) m1) Q E
    | none => False) E := by
  unfold mCallN
  rw [W_bind]
  congr 1
  funext ds m1
  cases capOf ρ js with
  | none => rfl
  | some cap =>
    simp only
    by_cases h : noKls cap = true
    · rw [if_pos h]; simp [h]
    · rw [if_neg h]; simp [h]
@[simp] theorem W_defRet {F : (Nat → MF) → MF} {g : MA} {js : List Nat} {N : Nat} {b : Nat → MS} {iy : Nat} {Q : Fl → Mem → Prop} : W (mDefRet F g js N b iy ρ m) Q E = W (mCallN F g js N b (ρ.set iy none) m) (fun d m => Q (.rt d) m) (fun x m => Q (.ex x (ρ.set iy none)) m) := by
  unfold mDefRet
  rw [W_ret]
@[simp] theorem W_def2Ret {F : (Nat → MF) → MF} {g : MA} {js1 : List Nat} {N1 : Nat} {b1 : (Nat → MF) → Addr → List Addr → Nat → MS} {js2 : List Nat} {N2 : Nat} {b2 : Nat → MS} {i1 i2 : Nat} {Q : Fl → Mem → Prop} :
    W (mDef2Ret F g js1 N1 b1 js2 N2 b2 i1 i2 ρ m) Q E = W (mCallN2 F g js1 N1 b1 js2 N2 b2 i2 ((ρ.set i1 none).set i2 none) m) (fun d m => Q (.rt d) m) (fun x m => Q (.ex x ((ρ.set i1 none).set i2 none)) m) := by
  unfold mDef2Ret
  rw [W_ret]
@[simp] theorem W_callN2 {F : (Nat → MF) → MF} {g : MA} {js1 : List Nat} {N1 : Nat} {b1 : (Nat → MF) → Addr → List Addr → Nat → MS} {js2 : List Nat} {N2 : Nat} {b2 : Nat → MS} {i2 : Nat} {Q : MV → Mem → Prop} :
    W (mCallN2 F g js1 N1 b1 js2 N2 b2 i2 ρ m) Q E = W (g ρ m) (fun ds m1 => match capOf ρ js2 with
      | some cap2 => noKls cap2 = true ∧ W (dem (in2 F js1 N1 b1 N2 b2 i2 cap2 ρ ds m1)) Q E
      | none => False) E := by
  unfold mCallN2
  rw [W_bind]
  congr 1
  funext ds m1
  cases capOf ρ js2 with
  | none => rfl
  | some cap =>
    simp only
    by_cases h : noKls cap = true
    · rw [if_pos h]; simp [h]
    · rw [if_neg h]; simp [h]
@[simp] theorem W_methL {c x : Str} {F : (Nat → MF) → MF} {go : ME} {g : MA} {js : List Nat} {N : Nat} {b : Nat → ME} {Q : MV → Mem → Prop} : W (mMethL c x F go g js N b ρ m) Q E = W (go ρ m) (fun d m0 => hasM c x d m0 = true ∧ W (g ρ m0) (fun ds m1 => match capOf ρ js with
    | some cap => noKls cap = true ∧ W (dem fun ca β => F (lamC N cap b) (d :: (ds ++ [.clo ca β])) m1) Q E
    | none => False) E) E := by
  unfold mMethL
  rw [W_bind]
  congr 1
  funext d m0
  rw [W_ite]
  by_cases h0 : hasM c x d m0 = true
  · rw [if_pos h0, W_bind]
    simp only [h0, true_and]
    congr 1
    funext ds m1
    cases capOf ρ js with
    | none => rfl
    | some cap =>
      simp only
      by_cases h : noKls cap = true
      · rw [if_pos h]; simp [h]
      · rw [if_neg h]; simp [h]
  · rw [if_neg h0]; simp [h0]
@[simp] theorem W_pos {k : Nat} {f : ME} {Q : MV → Mem → Prop} : W (mPos (k + 1) f ρ m) Q E = W (f ρ m) Q E := rfl
/-- C does what κ does, from k0 on, below k -/
def Agr (A : MV → Mem → Prop) (k0 k : Nat) (C : Nat → MF) (κ : MV → Mem → Re MV) : Prop := ∀ k1, k0 ≤ k1 → k1 < k → ∀ d m, A d m → C k1 [d] m = κ d m
theorem Agr.mono {A : MV → Mem → Prop} {k0 k k0' k' : Nat} {C : Nat → MF} {κ : MV → Mem → Re MV} (h : Agr A k0 k C κ) (h0 : k0 ≤ k0') (h1 : k' ≤ k) : Agr A k0' k' C κ := fun k1 a b => h k1 (Nat.le_trans h0 a) (Nat.lt_of_lt_of_le b h1)
end
end MI
namespace MI
open PySem PySem.SeqAt
open L2
end MI
namespace MI
open PySem L2
end MI
namespace MI
open PySem L2
variable [Nms]
section
variable {X : Cx} {W : WX} {pos : Pos} {K : PySem.W.Frag} {β : List Addr} {H : Hp} {m : Mem}
theorem any_no (v : Array Value) : (v.any fun _ => false) = false := by simp
def mNinK (tbl : List (Str × MV)) (f : ME) : ME := fun ρ m => (f ρ m).bind fun d m1 => match d with
  | .str z => .ok (.bl (!(tbl.lookup z).isSome)) m1
  | _ => .stuck
def rNeE (K : PySem.W.Frag) : R2 := fun x y H Q => ∃ a b xs, x = .ref a ∧ y = .ref b ∧ SqL K H a xs ∧ SqL K H b [] ∧ Q (.bl (!xs.isEmpty)) H
theorem op_neE (hu : X.A.units < cLine) : OpR X (compareOp .NotEq) (rNeE X.K) := by
  intro pins s σ H x y v u Q I rx ry h
  obtain ⟨a, b, xs, rfl, rfl, hx, hy, q⟩ := h
  cases rx
  cases ry
  obtain ⟨i1, r1, p1, _⟩ := I.list hx
  obtain ⟨i2, r2, p2, _⟩ := I.list hy
  have n1 := r1.length
  cases r2
  cases xs with
  | nil =>
    cases r1
    refine SeqAt.RcNeAt.lists (e := fun _ => true) p1.isList p2.isList rfl hu (fun j h1 h2 => absurd h1 (Nat.not_lt_zero _)) X.prog X.w _ _ ?_
    exact ⟨.bl false, H, I, rfl, q⟩
  | cons x xs =>
    refine SeqAt.RcNeAt.lists_lengths p1.isList p2.isList ?_ hu X.prog X.w _ _ ?_
    · cases r1 with
      | cons _ _ => simp
    · exact ⟨.bl true, H, I, rfl, q⟩
def gNeE (a b : MV) (m : Mem) : Re MV := match lstOf m a, lstOf m b with
  | some l, some [] => .ok (.bl (!l.isEmpty)) m
  | _, _ => .stuck
theorem om_neE : OpM X (rNeE X.K) gNeE := by
  intro W σ d e m β H x y Q M rx ry p
  unfold gNeE at p
  split at p
  · rename_i l h1 h2
    obtain ⟨a, xs, rfl, q1, q2⟩ := M.lst rx h1
    obtain ⟨b, ys, rfl, q3, q4⟩ := M.lst ry h2
    cases q4
    refine ⟨a, b, xs, rfl, rfl, q1, q3, ?_⟩
    have : xs.isEmpty = l.isEmpty := by cases q2 <;> rfl
    rw [this]
    exact p.ok M (.bl _)
  · exact p.not_stuck
def mIsx2 (P : Str → Option Bool) (f : ME) : ME := fun ρ m => (f ρ m).bind fun d m1 => match (exnOf m1 d).bind fun x => P x.cls with
  | some b => .ok (.bl b) m1
  | none => .stuck
end
section
variable {m : Mem} {E : Exn → Mem → Prop} {Q : MV → Mem → Prop}
@[simp] theorem W_ninK {tbl : List (Str × MV)} {f : ME} {ρ : Env} : MI.W (mNinK tbl f ρ m) Q E = MI.W (f ρ m) (fun d m => match d with | .str z => Q (.bl (!(tbl.lookup z).isSome)) m | _ => False) E := by
  unfold mNinK
  cases h : f ρ m with
  | stuck => rfl
  | ex x m' => rfl
  | ok d m' => cases d <;> rfl
@[simp] theorem W_neE {a b : MV} : MI.W (gNeE a b m) Q E = match lstOf m a, lstOf m b with | some l, some [] => Q (.bl (!l.isEmpty)) m | _, _ => False := by
  unfold gNeE
  split <;> rfl
@[simp] theorem W_isx2 {P : Str → Option Bool} {f : ME} {ρ : Env} : MI.W (mIsx2 P f ρ m) Q E = MI.W (f ρ m) (fun d m => match (exnOf m d).bind fun x => P x.cls with | some b => Q (.bl b) m | none => False) E := by
  unfold mIsx2
  cases h : f ρ m with
  | stuck => rfl
  | ex x m' => rfl
  | ok d m' =>
    show MI.W (match (exnOf m' d).bind fun x => P x.cls with | some b => Re.ok (MV.bl b) m' | none => .stuck) Q E = (match (exnOf m' d).bind fun x => P x.cls with | some b => Q (.bl b) m' | none => False)
    cases (exnOf m' d).bind fun x => P x.cls <;> rfl
end
end MI
namespace MI
open PySem L2 PyProof.Rows
variable [Nms]
/-- the object is of the class c -/
def isOwn (c : Str) (d : MV) (m : Mem) : Bool := match ownOf m d with
  | some (_, c', _) => c' == c
  | none => false
theorem isOwn_ex {K : PySem.W.Frag} {β : List Addr} {H : Hp} {m : Mem} {c : Str} {d : MV} {v : V} {C : Addr} (R : RM K β H m) (r : RV K β H d v) (h : isOwn c d m = true) (hC : ∀ D, ClsN K c D → D = C) : ∃ a dx fs, v = .ref a ∧ H a = some (.ins C dx fs) := by
  unfold isOwn at h
  split at h
  · rename_i n c' l ho
    obtain ⟨a, C', dx, vs, rfl, h1, h2, h3, h4, h5⟩ := R.own r ho
    have e : c' = c := eq_of_beq h
    subst e
    cases hC _ h3
    exact ⟨a, dx, vs, rfl, h4⟩
  · cases h
/-- a special method m of the class c does F; n arguments behind the object itself -/
structure SpcX (M : Mode) (P : Program) (w : World) (K : PySem.W.Frag) (mg : Str → Option Value) (base : Heap) (k : Nat) (c m : Str) (n : Nat) (F : MF) : Prop where
  ex : ∃ (C f : Addr) (fd : FuncData) (ps : List Str), FnOk P w K mg base (M.CX P w) k f fd ps (spM K (n + 1) F) ∧ (∀ D, ClsN K c D → D = C) ∧ Cls K C ∧ Meth K C m f ∧ Binds K fd ps [] ∧ PySem.W.fnIn K f = true
/-- the property f of the class c does F -/
structure PrpX (M : Mode) (P : Program) (w : World) (K : PySem.W.Frag) (mg : Str → Option Value) (base : Heap) (k : Nat) (c f : Str) (F : MF) : Prop where
  ex : ∃ (C p g : Addr) (fd : FuncData) (ps : List Str), FnOk P w K mg base (M.CX P w) k g fd ps (spM K 1 F) ∧ (∀ D, ClsN K c D → D = C) ∧ Cls K C ∧ PropOf K C f p g ∧ Binds K fd ps []
def mGetO (c : Str) (F : MF) (g gi : ME) : ME := fun ρ m => (g ρ m).bind fun d m1 => (gi ρ m1).bind fun i m2 => if isOwn c d m2 = true then F [d, i] m2 else .stuck
def gInO (neg : Bool) (c : Str) (F : MF) (i d : MV) (m : Mem) : Re MV := if isOwn c d m = true then (match F [d, i] m with
  | .ok (.bl b) m1 => .ok (.bl (if neg = true then !b else b)) m1
  | _ => .stuck) else .stuck
def gProp (c : Str) (F : MF) (d : MV) (m : Mem) : Re MV := if isOwn c d m = true then (match F [d] m with
  | .ok v m1 => .ok v m1
  | _ => .stuck) else .stuck
def mProp (c : Str) (F : MF) (g : ME) : ME := fun ρ m => (g ρ m).bind fun d m1 => gProp c F d m1
section
variable {X : Cx} {W : WX} {pos : Pos}
theorem run_in1 {CX : CXT} {k : Nat} {f : Addr} {fd : FuncData} {ps : List Str} {sp : Sp} {E : L2.St → XK} {pins : List (Addr × Obj)} {σ : L2.St} {H : Hp} {s : Shared} {Q : VK} {us : List Value} {vs : List V}
    (F : FnOk X.prog X.w X.K X.mg X.base CX k f fd ps sp) (hr : Room (k + 1) X.A) (hb : Binds X.K fd ps []) (hx : PassesAt CX X σ (E σ)) (I : Inv X pins σ H s) (r : Vals vs us) (h : sp vs H Q (E σ)) :
    wpAny (model X.prog X.w) X.A.in1 (call (.ref f) us) (EP X pins σ Q) X.xe s := by
  have hl : us.length = ps.length := by
    rw [← r.length]
    exact F.len _ _ _ _ h
  have b := hb s us I.kIn (by rw [List.append_nil]; exact hl)
  rw [List.append_nil] at b
  refine wpAny_call (codeAny_mono (F.run X.A.in1 X.stack s H _ us vs Q (E σ) hr.in1 I.env0.in1 b r h) fun rs s' hq => ?_)
  cases rs with
  | error e => exact hx pins H s e s' I hq
  | ok fl =>
    cases fl with
    | ret u => exact I.after hq
    | next => exact hq.elim
    | brk => exact hq.elim
    | cont => exact hq.elim
theorem jx_getown {M : Mode} {k j : Nat} {c : Str} {F : MF} {a b : Expr} {fa fb : ME} (Fk : SpcX M X.prog X.w X.K X.mg X.base k c "__getitem__" 1 F) (hr : Room j X.A) (hk : k + 1 ≤ j) (tk : M.Tk X W) (ha : JE X W a fa) (hb : JE X W b fb)
    (hsl : ∀ o i, subscripted b true o i = runValue (.builtin "lifetime.subscript" ⟨[o, i], []⟩) := by intro _ _; rfl) : JE X W (.Subscript a b pos) (mGetO c F fa fb) := by
  obtain ⟨C, f, fd, ps, h1, h2, h3, h4, h5, h6⟩ := Fk.ex
  refine ⟨⟨fun pins s σ H Q I q => ?_⟩⟩
  obtain ⟨ρ, m0, β, hE, hM, p⟩ := q
  refine Subscript_ (binT ha.run hb.run I (R := fun x y H2 => ∃ a dx fs, x = .ref a ∧ H2 a = some (.ins C dx fs) ∧ spM X.K (1 + 1) F [x, y] H2 Q (WE W σ)) ⟨ρ, m0, β, hE, hM, ?_⟩ fun v u s2 x y H2 I2 rx ry q => ?_)
  · refine p.bind fun d m1 x H1 β1 _ e1 M1 V1 p1 => ⟨ρ, m1, β1, hE.ext hM e1, M1, p1.bind fun i m2 y H2 β2 _ e2 M2 V2 p2 => ?_⟩
    split at p2
    · rename_i hm
      obtain ⟨a', dx, fs, rfl, q2⟩ := isOwn_ex M2 (V1.ext M1 e2) hm h2
      refine ⟨a', dx, fs, rfl, q2, rfl, [d, i], m2, β2, .cons (V1.ext M1 e2) (.cons V2 .nil), M2, ?_⟩
      revert p2
      generalize F [d, i] m2 = r
      intro p2
      cases r with
      | ok d m2 => exact p2
      | ex x m2 => exact p2
      | stuck => exact p2
    · exact p2.not_stuck
  · obtain ⟨a', dx, fs, rfl, ea, q⟩ := q
    obtain rfl : v = Value.ref a' := rx
    obtain ⟨mA, O, _⟩ := ins_get I2.hok ea
    obtain ⟨od, J, _⟩ := O.look
    obtain ⟨mm, fr⟩ := I2.fr
    exact PySem.W.sub_K fr I2.ok.mod.kin J h4.at_ h6 h4.fn (run_in1 (E := WE W) (us := [.ref a', u]) (vs := [.ref a', y]) h1 (hr.mono hk) h5 (M.pass tk σ) I2 (.cons rfl (.cons ry .nil)) q) (hsl _ _)
theorem op_inO {M : Mode} {k j : Nat} {F : MF} {C f : Addr} {fd : FuncData} {ps : List Str} (h1 : FnOk X.prog X.w X.K X.mg X.base (M.CX X.prog X.w) k f fd ps (spM X.K (1 + 1) F)) (hr : Room j X.A) (hk : k ≤ j) (h4 : Meth X.K C "__contains__" f) (h5 : Binds X.K fd ps []) (neg : Bool) :
    OpR X (compareOp (if neg = true then .NotIn else .In)) fun x y H Q => ∃ a dx fs, y = .ref a ∧ H a = some (.ins C dx fs) ∧ spM X.K (1 + 1) F [y, x] H (fun v H' => ∃ b, v = .bl b ∧ Q (.bl (if neg = true then !b else b)) H') (fun _ _ _ => False) := by
  intro pins s σ H x y v u Q I rx ry q
  obtain ⟨a', dx, fs, rfl, ea, q⟩ := q
  obtain rfl : u = Value.ref a' := ry
  obtain ⟨mA, O, _⟩ := ins_get I.hok ea
  obtain ⟨od, J, _⟩ := O.look
  obtain ⟨mm, fr⟩ := I.fr
  have R := run_fnSD (E := fun _ _ _ _ => False) (us := [.ref a', v]) (vs := [.ref a', x]) h1 (hr.mono hk) h5 .nil (fun _ _ _ _ _ _ z => (M.no z).elim) I (.cons rfl (.cons rx .nil)) q
  cases neg with
  | true => exact PySem.W.notIn_K fr I.ok.mod.kin J h4.at_ h4.fn (wpAny_mono R (fun r s' ⟨v', H', I', r', b, e, q⟩ => by subst e; cases r'; exact wpAny_truthy_bool ⟨.bl !b, H', I', rfl, q⟩) fun _ _ z => z)
  | false => exact PySem.W.in_K fr I.ok.mod.kin J h4.at_ h4.fn (wpAny_mono R (fun r s' ⟨v', H', I', r', b, e, q⟩ => by subst e; cases r'; exact wpAny_truthy_bool ⟨.bl b, H', I', rfl, q⟩) fun _ _ z => z)
theorem om_inO {c : Str} {F : MF} {C : Addr} {neg : Bool} (h2 : ∀ D, ClsN X.K c D → D = C) : OpM X (fun x y H Q => ∃ a dx fs, y = .ref a ∧ H a = some (.ins C dx fs) ∧ spM X.K (1 + 1) F [y, x] H (fun v H' => ∃ b, v = .bl b ∧ Q (.bl (if neg = true then !b else b)) H') (fun _ _ _ => False)) (gInO neg c F) := by
  intro W σ d e m β H x y Q R rd re p
  unfold gInO at p
  split at p
  · rename_i hm
    obtain ⟨a', dx, fs, rfl, q2⟩ := isOwn_ex R re hm h2
    refine ⟨a', dx, fs, rfl, q2, rfl, [e, d], m, β, .cons re (.cons rd .nil), R, ?_⟩
    revert p
    generalize F [e, d] m = r
    intro p
    cases r with
    | ok v m1 =>
      cases v with
      | bl b =>
        intro v H' β' e' M' V'
        cases V'
        exact ⟨b, rfl, p _ H' β' e' M' (.bl _)⟩
      | _ => exact p.not_stuck
    | ex x m1 => exact p.not_stuck
    | stuck => exact p.not_stuck
  · exact p.not_stuck
theorem jx_inO {M : Mode} {k j : Nat} {c : Str} {F : MF} {a b : Expr} {fa fb : ME} (Fk : SpcX M X.prog X.w X.K X.mg X.base k c "__contains__" 1 F) (hr : Room j X.A) (hk : k ≤ j) (ha : JE X W a fa) (hb : JE X W b fb) (hm : behindInMarks .In b = false := by first | exact nobehind _ (by decide) (by decide) | rfl) : JE X W (.Compare a [.In] [b] pos) (mBin (gInO false c F) fa fb) := by
  obtain ⟨C, f, fd, ps, h1, h2, h3, h4, h5, h6⟩ := Fk.ex
  exact j_cmp (op_inO h1 hr hk h4 h5 false) (om_inO h2) ha hb hm
theorem jtx_inO {M : Mode} {k j : Nat} {c : Str} {F : MF} {a b : Expr} {fa fb : ME} (Fk : SpcX M X.prog X.w X.K X.mg X.base k c "__contains__" 1 F) (hr : Room j X.A) (hk : k ≤ j) (ha : JE X W a fa) (hb : JE X W b fb) (hm : behindInMarks .In b = false := by first | exact nobehind _ (by decide) (by decide) | rfl) : JT X W (.Compare a [.In] [b] pos) (mB (mBin (gInO false c F) fa fb)) := by
  obtain ⟨C, f, fd, ps, h1, h2, h3, h4, h5, h6⟩ := Fk.ex
  exact jt_cmp (op_inO h1 hr hk h4 h5 false) (om_inO h2) ha hb hm
theorem jtx_ninO {M : Mode} {k j : Nat} {c : Str} {F : MF} {a b : Expr} {fa fb : ME} (Fk : SpcX M X.prog X.w X.K X.mg X.base k c "__contains__" 1 F) (hr : Room j X.A) (hk : k ≤ j) (ha : JE X W a fa) (hb : JE X W b fb) (hm : behindInMarks .NotIn b = false := by first | exact nobehind _ (by decide) (by decide) | rfl) : JT X W (.Compare a [.NotIn] [b] pos) (mB (mBin (gInO true c F) fa fb)) := by
  obtain ⟨C, f, fd, ps, h1, h2, h3, h4, h5, h6⟩ := Fk.ex
  exact jt_cmp (op_inO h1 hr hk h4 h5 true) (om_inO h2) ha hb hm
theorem jx_prop {M : Mode} {k j : Nat} {c f : Str} {F : MF} {e : Expr} {g : ME} (Fk : PrpX M X.prog X.w X.K X.mg X.base k c f F) (hr : Room j X.A) (hk : k + 1 ≤ j) (h : JE X W e g) (hb : attributeBase e f X.env (eval e X.env) = eval e X.env := by rfl) : JE X W (.Attribute e f pos) (mProp c F g) := by
  obtain ⟨C, p', g', fd, ps, h1, h2, h3, h4, h5⟩ := Fk.ex
  refine ⟨pe_imp (pe_prop (E := fun _ _ _ => False) h.run h3 h4 h1 (hr.mono hk) h5 .nil (fun _ _ _ _ _ _ _ z => (M.no z).elim) hb) fun σ H Q ⟨ρ, m, β, hE, hM, p⟩ => ⟨ρ, m, β, hE, hM, p.bind fun d m1 x H1 β1 _ e1 M1 V1 p1 => ?_⟩⟩
  unfold gProp at p1
  split at p1
  · rename_i hm
    obtain ⟨a', dx, fs, rfl, q2⟩ := isOwn_ex M1 V1 hm h2
    refine ⟨a', dx, fs, rfl, q2, rfl, [d], m1, β1, .cons V1 .nil, M1, ?_⟩
    revert p1
    generalize F [d] m1 = r
    intro p1
    cases r with
    | ok v m2 => exact p1
    | ex x m2 => exact p1.not_stuck
    | stuck => exact p1.not_stuck
  · exact p1.not_stuck
end
/-- what isinstance asks of an own class -/
structure InsX (K : PySem.W.Frag) (C : Addr) : Prop where
  cl : Cls K C
  ha : PySem.W.findIn K (.ref C) "__class__" = some (some (.builtin "object.__class__"))
  hn : PySem.W.specialIn K (.builtin "object.__class__") "__get__" = some (some (.builtin "getset_descriptor.__get__"))
  htk : PySem.W.takesIn K (.builtin "object.__class__") = some true
  hm : PySem.W.mroIn K C (.type "object") = some true
def builtNames : List String := ["NoneType", "bool", "int", "str", "tuple", "list", "dict"]
/-- what isinstance(.., x) says where x is an own class: P of own classes, no of anything built in -/
structure IsoN (K : PySem.W.Frag) (mg : Str → Option Value) (x : Str) (P : Str → Option Bool) : Prop where
  ex : ∃ C : Addr, mg x = some (.ref C) ∧ (∀ (y : Str) (D : Addr) (b : Bool), ClsN K y D → P y = some b → InsX K D ∧ PySem.W.kitOne K (.ref D) (.ref C) = some b) ∧ ∀ t : String, t ∈ builtNames → PySem.W.kitOne K (.type t) (.ref C) = some false
def isoV (P : Str → Option Bool) (m : Mem) (d : MV) : Option Bool := match ownOf m d with
  | some (_, c, _) => P c
  | none => (tyM m d).bind fun t => if t ∈ builtNames then some false else none
def mIso (P : Str → Option Bool) (f : ME) : ME := fun ρ m => (f ρ m).bind fun d m1 => match isoV P m1 d with
  | some b => .ok (.bl b) m1
  | none => .stuck
section
variable {X : Cx} {W : WX} {pos : Pos}
theorem je_iso {e : Expr} {x : Str} {p q : Pos} {f : ME} {P : Str → Option Bool} (h : JE X W e f) (T : IsoN X.K X.mg x P) (hm : X.mg "isinstance" = none) (hg : Gl X "isinstance" := by rfl) (hgx : Gl X x := by rfl) (hd : (x == ("__debug__" : Str)) = false := by decide)
    (he : starEach (e :: [.Name x q]) X.env = (false, eval e X.env) :: starEach [.Name x q] X.env := by rfl) (he2 : starEach (.Name x q :: []) X.env = (false, eval (.Name x q) X.env) :: starEach [] X.env := by rfl) (hpl : (backTo pos (starEach [.Name x q] X.env)).any (·.1) = false := by rfl) : JE X W (.Call (.Name "isinstance" p) [e, .Name x q] [] pos) (mIso P f) := by
  obtain ⟨C, t1, t2, t3⟩ := T.ex
  refine ⟨pe_imp (pe_callB call_isi hg hm (by decide +kernel) (pa_cons h.run (pa_cons (pe_glob (v := .ref C) hgx t1 rfl hd) pa_nil he2) he) (by decide) (by decide) he hpl) fun σ H Q ⟨ρ, m, β, hE, hM, p⟩ => ⟨ρ, m, β, hE, hM, p.bind fun d m1 x H1 β1 _ e1 M1 V1 p1 => ?_⟩⟩
  show rIsi X.K [x, .ref C] H1 Q
  split at p1
  · rename_i b hb
    unfold isoV at hb
    split at hb
    · rename_i n c l ho
      obtain ⟨a, D, dx, vs, rfl, g1, g2, g3, g4, g5⟩ := M1.own V1 ho
      obtain ⟨k1, k2⟩ := t2 c D b g3 hb
      exact ⟨.ref a, .ref C, .ref D, _, b, rfl, .own C, .base (.ins g4 k1.cl k1.ha k1.hn k1.htk k1.hm), k2, p1.ok M1 (.bl _)⟩
    · cases ht : tyM m1 d with
      | none => rw [ht] at hb; cases hb
      | some t =>
        rw [ht] at hb
        have hb : (if t ∈ builtNames then some false else none) = some b := hb
        split at hb
        · rename_i hin
          cases hb
          exact ⟨x, .ref C, .type t, _, false, rfl, .own C, M1.ty V1 ht, t3 t hin, p1.ok M1 (.bl _)⟩
        · cases hb
  · exact p1.not_stuck
end
def insB (K : PySem.W.Frag) (D : Addr) : Bool :=
  PySem.W.plainGet K D Str.empty && PySem.W.hasDictIn K D && PySem.W.plainOver K D && PySem.W.findIn K (.ref D) "__setattr__" == some (some (.builtin "object.__setattr__")) && PySem.W.findIn K (.ref D) "__class__" == some (some (.builtin "object.__class__")) &&
    PySem.W.specialIn K (.builtin "object.__class__") "__get__" == some (some (.builtin "getset_descriptor.__get__")) && PySem.W.takesIn K (.builtin "object.__class__") == some true && PySem.W.mroIn K D (.type "object") == some true
theorem insB_ok {K : PySem.W.Frag} {D : Addr} (e : insB K D = true) : InsX K D := by
  unfold insB at e
  simp only [Bool.and_eq_true, beq_iff_eq] at e
  obtain ⟨⟨⟨⟨⟨⟨⟨e1, e2⟩, e3⟩, e4⟩, e5⟩, e6⟩, e7⟩, e8⟩ := e
  exact ⟨⟨e1, e2, e3, e4⟩, e5, e6, e7, e8⟩
def isoB (K : PySem.W.Frag) (C : Addr) (l : List (Str × Bool)) : Bool := (builtNames.all fun t => PySem.W.kitOne K (.type t) (.ref C) == some false) && l.all fun p => match PySem.W.nsIn K mainGlobals p.1 with
  | some (some (.ref D)) => insB K D && PySem.W.kitOne K (.ref D) (.ref C) == some p.2
  | _ => false
section
variable {K : PySem.W.Frag} {h : Heap} {mg : Str → Option Value} {w : World}
theorem iso_mk {x : Str} {C : Addr} {l : List (Str × Bool)} (X : K.In h) (G : h.Ns mainGlobals mg) (a : PySem.W.nsIn K mainGlobals x = some (some (.ref C))) (e : isoB K C l = true) : IsoN K mg x (fun y => l.lookup y) := by
  unfold isoB at e
  rw [Bool.and_eq_true] at e
  refine ⟨C, PySem.W.mg_of X G a, fun y D b hy hb => ?_, fun t ht => eq_of_beq (List.all_eq_true.mp e.1 t ht)⟩
  have q := List.all_eq_true.mp e.2 (y, b) (lookup_mem hb)
  have hy : PySem.W.nsIn K mainGlobals y = some (some (.ref D)) := hy
  simp only [hy, Bool.and_eq_true] at q
  exact ⟨insB_ok q.1, eq_of_beq q.2⟩
theorem MthAt.spcx {P : Program} {base : Heap} {M : Mode} {c m qual : Str} {st : Stmt} {ps : List Str} {k n : Nat} {F : MF} (D : MthAt K c m qual st ps) (hok : ∀ f fd, Fun K m qual st f fd → FnOk P w K mg base (M.CX P w) k f fd ps (spM K (n + 1) F)) : SpcX M P w K mg base k c m n F := by
  obtain ⟨C, f, fd, h1, h2, h3, h4, h5⟩ := D.ex
  refine ⟨C, f, fd, ps, hok f fd h1, h2, h3, h4, h5, ?_⟩
  obtain ⟨oc, od, kV, doc, pm, an, cdv, ct, osl, rfl, lk, hcd⟩ := h1.ex
  unfold PySem.W.fnIn
  rw [lk]
theorem MthAt.sp0 {P : Program} {base : Heap} {M : Mode} {c m qual : Str} {st : Stmt} {ps : List Str} {n : Nat} (D : MthAt K c m qual st ps) (hn : ps.length = n + 1) : SpcX M P w K mg base 0 c m n (fun _ _ => .stuck) := by
  obtain ⟨C, f, fd, h1, h2, h3, h4, h5⟩ := D.ex
  refine ⟨C, f, fd, ps, ⟨fun vs H Q E h => by rw [hn]; exact h.1, fun A outer s H args us vs Q E _ _ _ _ h => by obtain ⟨_, _, _, _, _, _, q⟩ := h; exact q.elim⟩, h2, h3, h4, h5, ?_⟩
  obtain ⟨oc, od, kV, doc, pm, an, cdv, ct, osl, rfl, lk, hcd⟩ := h1.ex
  unfold PySem.W.fnIn
  rw [lk]
/-- a property of a class of the module -/
structure PrpAt (K : PySem.W.Frag) (c f qual : Str) (st : Stmt) (ps : List Str) : Prop where
  ex : ∃ (C p g : Addr) (fd : FuncData), Fun K f qual st g fd ∧ (∀ D, ClsN K c D → D = C) ∧ Cls K C ∧ PropOf K C f p g ∧ Binds K fd ps []
theorem prp_mk {c f qual : Str} {st : Stmt} {ps : List Str} {C p g : Addr} {rest : List Value} {oc : Value} {od an : Option Addr} {osl : Array (Option Value)} {kV doc pm cdv ct : Value}
    (a : PySem.W.nsIn K mainGlobals c = some (some (.ref C))) (i : PySem.W.findIn K (.ref C) f = some (some (.ref p))) (ge : PySem.W.specialIn K (.ref p) "__get__" = some (some (.builtin "property.__get__"))) (tk : PySem.W.takesIn K (.ref p) = some true)
    (rc : PySem.W.recIn K p "property" = some (.ref g :: rest)) (pg : PySem.W.plainGet K C Str.empty = true) (hd : PySem.W.hasDictIn K C = true) (po : PySem.W.plainOver K C = true) (sa : PySem.W.findIn K (.ref C) "__setattr__" = some (some (.builtin "object.__setattr__")))
    (l : K.lookup g = some ⟨oc, od, .func (PySem.W.fnOf f qual (defArgs st) (defBody st) (defScope st) .none kV doc pm an cdv ct), osl⟩) (cd : PySem.W.codeIn K cdv qual = true) (k : PySem.W.keepIn K (.ref g) = true)
    (b : ∀ (kV doc pm : Value) (an : Option Addr) (cdv ct : Value) (us : List Value), us.length = ps.length → bindArgs (PySem.W.fnOf f qual (defArgs st) (defBody st) (defScope st) .none kV doc pm an cdv ct) ⟨us, []⟩ = pure (ps.zip us)) : PrpAt K c f qual st ps :=
  ⟨C, p, g, _, fun_mk l cd k, fun D hD => by
    have hD : PySem.W.nsIn K mainGlobals c = some (some (.ref D)) := hD
    rw [a] at hD
    cases hD
    rfl, ⟨pg, hd, po, sa⟩, ⟨i, ge, tk, rest, rc⟩, (fun_mk l cd k).binds b⟩
theorem PrpAt.prpx {P : Program} {base : Heap} {M : Mode} {c f qual : Str} {st : Stmt} {ps : List Str} {k : Nat} {F : MF} (D : PrpAt K c f qual st ps) (hok : ∀ g fd, Fun K f qual st g fd → FnOk P w K mg base (M.CX P w) k g fd ps (spM K 1 F)) : PrpX M P w K mg base k c f F := by
  obtain ⟨C, p, g, fd, h1, h2, h3, h4, h5⟩ := D.ex
  exact ⟨C, p, g, fd, ps, hok g fd h1, h2, h3, h4, h5⟩
theorem PrpAt.pr0 {P : Program} {base : Heap} {M : Mode} {c f qual : Str} {st : Stmt} {ps : List Str} (D : PrpAt K c f qual st ps) (hn : ps.length = 1) : PrpX M P w K mg base 0 c f (fun _ _ => .stuck) := by
  obtain ⟨C, p, g, fd, h1, h2, h3, h4, h5⟩ := D.ex
  exact ⟨C, p, g, fd, ps, ⟨fun vs H Q E h => by rw [hn]; exact h.1, fun A outer s H args us vs Q E _ _ _ _ h => by obtain ⟨_, _, _, _, _, _, q⟩ := h; exact q.elim⟩, h2, h3, h4, h5⟩
end
section
variable {E : Exn → Mem → Prop} {ρ : Env} {m : Mem} {Q : MV → Mem → Prop}
@[simp] theorem W_getO {c : Str} {F : MF} {g gi : ME} : MI.W (mGetO c F g gi ρ m) Q E = MI.W (g ρ m) (fun d m1 => MI.W (gi ρ m1) (fun i m2 => if isOwn c d m2 = true then MI.W (F [d, i] m2) Q E else False) E) E := by
  unfold mGetO
  simp only [W_bind]
  congr 1
  funext d m1
  congr 1
  funext i m2
  rw [W_ite, W_stuck]
@[simp] theorem W_prop {c : Str} {F : MF} {g : ME} : MI.W (mProp c F g ρ m) Q E = MI.W (g ρ m) (fun d m1 => MI.W (gProp c F d m1) Q E) E := by
  unfold mProp
  rw [W_bind]
@[simp] theorem W_iso {P : Str → Option Bool} {f : ME} : MI.W (mIso P f ρ m) Q E = MI.W (f ρ m) (fun d m => match isoV P m d with | some b => Q (.bl b) m | none => False) E := by
  unfold mIso
  rw [W_bind]
  congr 1
  funext d m
  cases isoV P m d <;> rfl
theorem W_gInO {neg : Bool} {c : Str} {F : MF} {i d : MV} (h : isOwn c d m = true) (q : MI.W (F [d, i] m) (fun v m1 => ∃ b, v = .bl b ∧ Q (.bl (if neg = true then !b else b)) m1) E0) : MI.W (gInO neg c F i d m) Q E := by
  unfold gInO
  rw [if_pos h]
  cases hF : F [d, i] m with
  | stuck => rw [hF] at q; exact q.elim
  | ex x m' => rw [hF] at q; exact q.elim
  | ok v m1 =>
    rw [hF] at q
    obtain ⟨b, rfl, q'⟩ := (show ∃ b, v = .bl b ∧ Q (.bl (if neg = true then !b else b)) m1 from q)
    exact q'
theorem W_gProp {c : Str} {F : MF} {d : MV} (h : isOwn c d m = true) (q : MI.W (F [d] m) Q E0) : MI.W (gProp c F d m) Q E := by
  unfold gProp
  rw [if_pos h]
  cases hF : F [d] m with
  | stuck => rw [hF] at q; exact q.elim
  | ex x m' => rw [hF] at q; exact q.elim
  | ok v m1 => rw [hF] at q; exact q
end
end MI
namespace MI
open PySem PySem.SeqAt
section
open AutoSeq1 (wpAny_loadPart')
theorem int_eq_declines_dict (b : Int) (u : Tok) (l : Addr) (es : Array DictEntry) (n : Nat) (dd : Option Addr) (sl : Array (Option Value)) :
    Meets (Builtin.«int.__eq__» ⟨[.int b u, .ref l], []⟩) (fun _ R s => s.heap.get? l = some { cls := .type "dict", dict := dd, data := .dict es n, slots := sl } ∧ R (.ok (.ret .notImplemented)) s) :=
  .of_wp fun prog w A R s h => by obtain ⟨hp, g, d, tk, os⟩ := s; obtain ⟨hl, h⟩ := h; wp_walk using wpAny_loadPart' hl, wpAny_load hl; exact ⟨_, rfl, h⟩
theorem dict_eq_declines_int (l : Addr) (es : Array DictEntry) (n : Nat) (dd : Option Addr) (sl : Array (Option Value)) (b : Int) (u : Tok) :
    Meets (Builtin.«dict.__eq__» ⟨[.ref l, .int b u], []⟩) (fun _ R s => s.heap.get? l = some { cls := .type "dict", dict := dd, data := .dict es n, slots := sl } ∧ R (.ok (.ret .notImplemented)) s) :=
  .of_wp fun prog w A R s h => by obtain ⟨hp, g, d, tk, os⟩ := s; obtain ⟨hl, h⟩ := h; have f1 := F.sub_int_dict; wp_walk using wpAny_loadPart' hl; exact ⟨_, rfl, h⟩
variable {A : Around} {s : Shared}
theorem rc_int_dict {l : Addr} {es : Array DictEntry} {n : Nat} {dd : Option Addr} {sl : Array (Option Value)} (b : Int) (u : Tok) (ho : s.heap.get? l = some { cls := .type "dict", dict := dd, data := .dict es n, slots := sl }) (hu : A.units < cLine) : RcAt A s (.int b u) (.ref l) false := fun prog w E Q h => by
  exact rc_eq_decline_or (k := false) (typeIs_int s b u) ⟨_, ho, rfl⟩ (by decide) F.sub_dict_int F.slot_int_eq F.slot_dict_eq_refl
    (fun _ hq => call_meets F.slot_int_eq (typeIs_int s b u) F.entry_int_eq (F.args_int_eq_2 _ _) (int_eq_declines_dict b u l es n dd sl) ⟨ho, hq⟩)
    (fun _ hq => call_meets F.slot_dict_eq_refl ⟨_, ho, rfl⟩ F.entry_dict_eq (F.args_dict_eq_2 _ _) (dict_eq_declines_int l es n dd sl b u) ⟨ho, hq⟩)
    (fun _ hq => wpAny_of_eq (rfl : isSame (.int b u) (.ref l) = pure false) hq) (.inr hu) h
theorem eq_int_dict {l : Addr} {es : Array DictEntry} {n : Nat} {dd : Option Addr} {sl : Array (Option Value)} (b : Int) (u : Tok) (ho : s.heap.get? l = some { cls := .type "dict", dict := dd, data := .dict es n, slots := sl }) (hu : A.units < cLine) : EqAt A s (.int b u) (.ref l) false := fun prog w E Q h => by
  unfold eqBool
  refine wpAny_holding ?_
  refine wpAny_ite_split (fun hab => absurd (eq_of_beq hab) nofun) (fun _ => ?_)
  exact wpAny_bind (rc_int_dict b u ho hu prog w E _ (wpAny_truthy_bool h))
end
open L2
variable [Nms]
section
variable {X : Cx} {W : WX} {pos : Pos} {K : PySem.W.Frag} {β : List Addr} {H : Hp} {m : Mem}
/-- an int, or a dict -/
def IntOrD (H : Hp) (v : V) : Prop := (∃ i, v = .int i) ∨ ∃ a kvs, v = .ref a ∧ H a = some (.dK kvs)
def rInP (K : PySem.W.Frag) (neg : Bool) : R2 := fun x y H Q => ∃ (a b : Addr) (xs ys : List V), x = .ref a ∧ y = .ref b ∧ SqT K H a xs ∧ (∀ v ∈ xs, IntOrD H v) ∧ (∃ d ∈ xs, ∃ e kvs, d = .ref e ∧ H e = some (.dK kvs)) ∧ SqL K H b ys ∧
  (∀ v ∈ ys, ∃ (t : Addr) (is : List Int), v = .ref t ∧ SqT K H t (is.map .int)) ∧ Q (.bl neg) H
theorem vals_at : ∀ {vs : List V} {us : List Value}, Vals vs us → ∀ {j : Nat} {u : Value}, us[j]? = some u → ∃ v, vs[j]? = some v ∧ RelV v u
  | _, _, .nil, j, u, h => by simp at h
  | _, _, .cons h r, 0, u, e => by simp at e; subst e; exact ⟨_, rfl, h⟩
  | _, _, .cons h r, j + 1, u, e => by simpa using vals_at r (j := j) (by simpa using e)
theorem eq_tup_dict {pins : List (Addr × Obj)} {σ : L2.St} {s : Shared} {A : Around} {t a : Addr} {is : List Int} {xs : List V} (I : Inv X pins σ H s) (hu : A.units + 1 < cLine) (ht : SqT X.K H t (is.map .int)) (ha : SqT X.K H a xs) (h : ∀ v ∈ xs, IntOrD H v)
    (hd : ∃ d ∈ xs, ∃ e kvs, d = .ref e ∧ H e = some (.dK kvs)) : SeqAt.EqAt A s (.ref t) (.ref a) false := by
  obtain ⟨d, hm, e0, kvs, rfl, he0⟩ := hd
  obtain ⟨j0, hj0⟩ := List.getElem?_of_mem hm
  have hne : t ≠ a := by
    rintro rfl
    have q := I.tuple_inj ht ha
    rw [← q] at hm
    obtain ⟨i, _, hi⟩ := List.mem_map.mp hm
    cases hi
  obtain ⟨us, r1, p1, _⟩ := I.tuple ht
  obtain ⟨ws, r2, p2, _⟩ := I.tuple ha
  have isd : ∀ {b : Addr} {kvs : List (Key × V)}, H b = some (.dK kvs) → ∃ o es ep, s.heap.get? b = some { cls := .type "dict", dict := o, data := .dict es ep, slots := #[] } ∨ ∃ sl, s.heap.get? b = some { cls := .type "dict", dict := o, data := .dict es ep, slots := sl } := fun {b kvs} hb => by
    obtain ⟨_, _, vs, r, o, es, ep, e, ⟨x1, x2, x3⟩, ed, _⟩ := (show ObjOk X.prog X.w H s.heap b (.dK kvs) from I.hok b _ hb)
    exact ⟨o.dict, es, ep, .inr ⟨o.slots, by rw [e, ← x1, ← ed]⟩⟩
  let f : Nat → Bool := fun j => match (is.map V.int)[j]?, xs[j]? with
    | some (.int i), some (.int k) => i == k
    | _, _ => false
  have R := SeqAt.RcAt.tuples (A := A) (e := f) p1 p2 (by omega) (fun j h1 h2 => by
    have g1 : us[j]? = some us.toArray[j] := by simp at h1 ⊢
    have g2 : ws[j]? = some ws.toArray[j] := by simp at h2 ⊢
    obtain ⟨v1, k1, l1⟩ := vals_at r1 g1
    obtain ⟨v2, k2, l2⟩ := vals_at r2 g2
    have z : f j = match some v1, some v2 with
      | some (.int i), some (.int k) => i == k
      | _, _ => false := by show (match (is.map V.int)[j]?, xs[j]? with | some (.int i), some (.int k) => i == k | _, _ => false) = _; rw [k1, k2]
    rw [z]
    obtain ⟨i, _, rfl⟩ := List.mem_map.mp (List.mem_of_getElem? k1)
    obtain ⟨t1, e1⟩ := (show ∃ t1, us.toArray[j] = Value.int i t1 from l1)
    rw [e1]
    rcases h v2 (List.mem_of_getElem? k2) with ⟨k, rfl⟩ | ⟨b, kv, rfl, hb⟩
    · obtain ⟨t2, e2⟩ := (show ∃ t2, ws.toArray[j] = Value.int k t2 from l2)
      rw [e2]
      exact SeqAt.EqAt.int_int i t1 k t2
    · have e2 : ws.toArray[j] = Value.ref b := l2
      rw [e2]
      obtain ⟨o, es, ep, q⟩ := isd hb
      rcases q with q | ⟨sl, q⟩
      · exact eq_int_dict i t1 q (by show A.units + 1 < cLine; omega)
      · exact eq_int_dict i t1 q (by show A.units + 1 < cLine; omega))
  have fin : ((List.range (min us.toArray.size ws.toArray.size)).all f && us.toArray.size == ws.toArray.size) = false := by
    rw [Bool.and_eq_false_iff]
    by_cases hs : us.toArray.size = ws.toArray.size
    · left
      rw [List.all_eq_false]
      have hl : j0 < ws.length := by
        rw [← r2.length]
        exact (List.getElem?_eq_some_iff.mp hj0).1
      refine ⟨j0, List.mem_range.mpr (by rw [hs]; simpa using hl), ?_⟩
      show ¬ (match (is.map V.int)[j0]?, xs[j0]? with | some (.int i), some (.int k) => i == k | _, _ => false) = true
      rw [hj0]
      split
      · rename_i q; cases q
      · simp
    · right
      simpa using hs
  rw [fin] at R
  exact .of_refs hne R
theorem op_inP (hu : X.A.units + 65 < cLine) : OpR X (compareOp .In) (rInP X.K false) := by
  intro pins s σ H x y v u Q I rx ry h
  obtain ⟨a, b, xs, ys, rfl, rfl, ha, h1, h2, hb, h3, q⟩ := h
  obtain rfl : v = Value.ref a := rx
  obtain rfl : u = Value.ref b := ry
  obtain ⟨its, r, p, _⟩ := I.list hb
  refine SeqAt.in_listAt (fun _ => false) p.isList (fun y hy => ?_) ?_
  · obtain ⟨j, hj⟩ := List.getElem?_of_mem (show y ∈ its by simpa using hy)
    obtain ⟨v1, k1, l1⟩ := vals_at r hj
    obtain ⟨t, is, rfl, ht⟩ := h3 v1 (List.mem_of_getElem? k1)
    obtain rfl : y = Value.ref t := l1
    exact eq_tup_dict I (by show X.A.units + 1 + 1 < cLine; omega) ht ha h1 h2
  · rw [any_no]; exact ⟨.bl false, H, I, rfl, q⟩
theorem op_ninP (hu : X.A.units + 65 < cLine) : OpR X (compareOp .NotIn) (rInP X.K true) := by
  intro pins s σ H x y v u Q I rx ry h
  obtain ⟨a, b, xs, ys, rfl, rfl, ha, h1, h2, hb, h3, q⟩ := h
  obtain rfl : v = Value.ref a := rx
  obtain rfl : u = Value.ref b := ry
  obtain ⟨its, r, p, _⟩ := I.list hb
  refine SeqAt.notIn_listAt (fun _ => false) p.isList (fun y hy => ?_) ?_
  · obtain ⟨j, hj⟩ := List.getElem?_of_mem (show y ∈ its by simpa using hy)
    obtain ⟨v1, k1, l1⟩ := vals_at r hj
    obtain ⟨t, is, rfl, ht⟩ := h3 v1 (List.mem_of_getElem? k1)
    obtain rfl : y = Value.ref t := l1
    exact eq_tup_dict I (by show X.A.units + 1 + 1 < cLine; omega) ht ha h1 h2
  · rw [any_no]; exact ⟨.bl true, H, I, rfl, q⟩
def isD (m : Mem) (d : MV) : Bool := (dctOf m d).isSome
def isI : MV → Bool
  | .int _ => true
  | _ => false
def isIs : MV → Bool
  | .tup l => l.all isI
  | _ => false
/-- a tuple with a dict, of ints and dicts else; a list of tuples of ints -/
def dIn (m : Mem) (a b : MV) : Bool := match a, lstOf m b with
  | .tup l, some ls => l.all (fun d => isI d || isD m d) && l.any (isD m) && ls.all isIs
  | _, _ => false
def gInP (neg : Bool) (a b : MV) (m : Mem) : Re MV := if dIn m a b = true then .ok (.bl neg) m else .stuck
theorem rv_isI {d : MV} {v : V} (r : RV K β H d v) (h : isI d = true) : ∃ i, v = .int i := by
  cases r with
  | int i => exact ⟨i, rfl⟩
  | _ => cases h
theorem rvs_ints : ∀ {l : List MV} {vs : List V}, RVs K β H l vs → l.all isI = true → ∃ is : List Int, vs = is.map .int
  | _, _, .nil, _ => ⟨[], rfl⟩
  | _, _, .cons h r, q => by
    rw [List.all_cons, Bool.and_eq_true] at q
    obtain ⟨i, rfl⟩ := rv_isI h q.1
    obtain ⟨is, rfl⟩ := rvs_ints r q.2
    exact ⟨i :: is, rfl⟩
theorem rvs_mem : ∀ {l : List MV} {vs : List V}, RVs K β H l vs → ∀ v ∈ vs, ∃ d ∈ l, RV K β H d v
  | _, _, .nil, v, h => by cases h
  | _, _, .cons h r, v, q => by
    rcases List.mem_cons.mp q with rfl | q
    · exact ⟨_, List.mem_cons_self, h⟩
    · obtain ⟨d, h1, h2⟩ := rvs_mem r v q
      exact ⟨d, List.mem_cons_of_mem _ h1, h2⟩
theorem rvs_mem' : ∀ {l : List MV} {vs : List V}, RVs K β H l vs → ∀ d ∈ l, ∃ v ∈ vs, RV K β H d v
  | _, _, .nil, v, h => by cases h
  | _, _, .cons h r, v, q => by
    rcases List.mem_cons.mp q with rfl | q
    · exact ⟨_, List.mem_cons_self, h⟩
    · obtain ⟨d, h1, h2⟩ := rvs_mem' r v q
      exact ⟨d, List.mem_cons_of_mem _ h1, h2⟩
theorem om_inP {neg : Bool} : OpM X (rInP X.K neg) (gInP neg) := by
  intro W σ d e m β H x y Q M rx ry p
  unfold gInP at p
  split at p
  · rename_i h
    unfold dIn at h
    split at h
    · rename_i l ls hls
      simp only [Bool.and_eq_true] at h
      obtain ⟨⟨h1, h2⟩, h3⟩ := h
      obtain ⟨b, ys, rfl, hb, hr⟩ := M.lst ry hls
      have dk : ∀ {d : MV} {v : V}, RV X.K β H d v → isD m d = true → ∃ a kvs, v = .ref a ∧ H a = some (.dK kvs) := fun {d v} r hd => by
        obtain ⟨⟨n, kl⟩, hk⟩ := Option.isSome_iff_exists.mp hd
        obtain ⟨a, vs, rfl, _, hH, _⟩ := M.dct r hk
        exact ⟨a, vs, rfl, hH⟩
      cases rx with
      | tup sq rs =>
        refine ⟨_, b, _, ys, rfl, rfl, sq, fun v hv => ?_, ?_, hb, fun v hv => ?_, p.ok M (.bl _)⟩
        · obtain ⟨d, hd, r⟩ := rvs_mem rs v hv
          have q := List.all_eq_true.mp h1 d hd
          rcases Bool.or_eq_true_iff.mp q with q | q
          · exact .inl (rv_isI r q)
          · exact .inr (dk r q)
        · obtain ⟨d, hd, q⟩ := List.any_eq_true.mp h2
          obtain ⟨v, hv, r⟩ := rvs_mem' rs d hd
          obtain ⟨a', kvs, rfl, z⟩ := dk r q
          exact ⟨_, hv, a', kvs, rfl, z⟩
        · obtain ⟨d, hd, r⟩ := rvs_mem hr v hv
          have q := List.all_eq_true.mp h3 d hd
          cases r with
          | tup sq' rs' =>
            obtain ⟨is, rfl⟩ := rvs_ints rs' q
            exact ⟨_, is, rfl, sq'⟩
          | _ => cases q
    · cases h
  · exact p.not_stuck
open Classical in
/-- x in a list, a dict, a text, a tuple; a tuple with a dict in a list of tuples of ints -/
noncomputable def gInQ (neg : Bool) (a b : MV) (m : Mem) : Re MV := if dIn m a b = true then gInP neg a b m else gInB neg a b m
theorem je_inQ {a b : Expr} {fa fb : ME} (hu : X.A.units + 1 < cLine) (hu2 : X.A.units + 65 < cLine) (ha : JE X W a fa) (hb : JE X W b fb) (hk : behindInMarks .In b = false := by rfl) : JE X W (.Compare a [.In] [b] pos) (mBin (gInQ false) fa fb) :=
  JE.or (j_cmp (op_inP hu2) om_inP ha hb hk) (je_inB hu hu2 ha hb hk) (mBin_or fun a b m => by
    unfold gInQ
    by_cases q : dIn m a b = true
    · exact .inl (if_pos q)
    · exact .inr (if_neg q))
theorem jt_ninQ {a b : Expr} {fa fb : ME} (hu : X.A.units + 1 < cLine) (hu2 : X.A.units + 65 < cLine) (ha : JE X W a fa) (hb : JE X W b fb) (hk : behindInMarks .NotIn b = false := by rfl) : JT X W (.Compare a [.NotIn] [b] pos) (mB (mBin (gInQ true) fa fb)) :=
  JT.or (jt_cmp (op_ninP hu2) om_inP ha hb hk) (jt_ninB hu hu2 ha hb hk) (mB_or fun a b m => by
    unfold gInQ
    by_cases q : dIn m a b = true
    · exact .inl (if_pos q)
    · exact .inr (if_neg q))
end
end MI
set_option maxHeartbeats 4000000
namespace K17
open PySem L2 MI NdefX
abbrev row := PySem.Challenge.pw_keptops_k17_parts_of_values
def topS (i : Nat) : Stmt := row.main.body.getD i (.Pass ⟨0, 0, 0, 0⟩)
inductive Fnm where
  | u_wall | is_integer | is_name | check_expression | u_has_form | u_is_tuple | u_are_links | operands | all_parts | variables_of | u_own_places | held_object | held_constant | holds_of | follow | u_follow_call | u_follow_link | u_behind_first | u_operand_behind | check_answers | check_kinds | run_once | evaluate | part_at | expression_text | u_text | u_plain_text | read_expression | u_tokens | u_behind_blanks | u_token_at | u_data_of | l_source | l_draw | l_pick | l_leaf | l_seen_part | l_expr | l_any_expr | l_operands | l_parts | l_names | l_paths | l_refused | l_other_paths | law | i_Expr | p_Expr_data | m_Expr_canonical | m_Expr_alike | m_Expr_choose | m_Expr_default | m_Expr_is_none | m_Expr_compare | m_Expr_implies | m_Expr_runs | m_Expr___contains__ | m_Expr___getitem__
  deriving DecidableEq
abbrev c_SIGNS : MV := .tup [.str "<", .str "<=", .str ">", .str ">=", .str "==", .str "!="]
abbrev c_BARRED : MV := .tup [.str "and", .str "or", .str "not", .str "if", .str "else", .str "is", .str "none", .str "true", .str "false", .str "set", .str "give", .str "try", .str "except", .str "end", .str "then", .str "program", .str "keep", .str "self"]
abbrev k_LENGTHS : List (Str × MV) := [("none", .int 1), ("true", .int 1), ("false", .int 1), ("not", .int 2), ("isnone", .int 2), ("and", .int 3), ("or", .int 3), ("default", .int 3), ("if", .int 4)]
abbrev c_MOST_LETTERS : MV := .int 8
abbrev c_MOST_OPERANDS : MV := .int 3
abbrev c_MOST_LINKS : MV := .int 4
abbrev c_MOST_PARTS : MV := .int 40
abbrev c_MOST_LEVELS : MV := .int 12
abbrev c_MOST_VARIABLES : MV := .int 4
abbrev c_MOST_PLACES : MV := .int 6
def p_InvalidExpression (y : Str) : Option Bool := ([("OperandError", false), ("InvalidExpression", true), ("InvalidPath", false), ("InvalidWorld", false), ("InvalidText", false)] : List (Str × Bool)).lookup y
def p_InvalidPath (y : Str) : Option Bool := ([("OperandError", false), ("InvalidExpression", false), ("InvalidPath", true), ("InvalidWorld", false), ("InvalidText", false)] : List (Str × Bool)).lookup y
def p_OperandError (y : Str) : Option Bool := ([("OperandError", true), ("InvalidExpression", true), ("InvalidPath", true), ("InvalidWorld", true), ("InvalidText", true)] : List (Str × Bool)).lookup y
def po_Expr (y : Str) : Option Bool := ([("Expr", true)] : List (Str × Bool)).lookup y
def pf__data (y : Str) : Bool := y == "Expr"
instance : Nms where
  nm := fun l c => match ([] : List ((Nat × Nat) × Str)).lookup (l, c) with
    | some x => x
    | none => ""
  tb := fun K => ([] : List Str).filterMap fun x => (PySem.W.tabIn K x).map (·.2)
structure Txt (K : PySem.W.Frag) (w : World) (mg : Str → Option Value) : Prop where
  b_abs : mg "abs" = none
  b_all : mg "all" = none
  b_bool : mg "bool" = none
  b_int : mg "int" = none
  b_isinstance : mg "isinstance" = none
  b_len : mg "len" = none
  b_list : mg "list" = none
  b_min : mg "min" = none
  b_range : mg "range" = none
  b_str : mg "str" = none
  b_tuple : mg "tuple" = none
  c_BARRED : Con K mg "BARRED" c_BARRED
  c_MOST_LETTERS : Con K mg "MOST_LETTERS" c_MOST_LETTERS
  c_MOST_LEVELS : Con K mg "MOST_LEVELS" c_MOST_LEVELS
  c_MOST_LINKS : Con K mg "MOST_LINKS" c_MOST_LINKS
  c_MOST_OPERANDS : Con K mg "MOST_OPERANDS" c_MOST_OPERANDS
  c_MOST_PARTS : Con K mg "MOST_PARTS" c_MOST_PARTS
  c_MOST_PLACES : Con K mg "MOST_PLACES" c_MOST_PLACES
  c_MOST_VARIABLES : Con K mg "MOST_VARIABLES" c_MOST_VARIABLES
  c_SIGNS : Con K mg "SIGNS" c_SIGNS
  k_LENGTHS : KTab K w mg "LENGTHS" k_LENGTHS
  x_InvalidExpression : ExF K mg "InvalidExpression"
  x_InvalidPath : ExF K mg "InvalidPath"
  h_OperandError : HndN K mg "OperandError" p_OperandError
  i_InvalidExpression : IsxN K mg "InvalidExpression" p_InvalidExpression
  i_InvalidPath : IsxN K mg "InvalidPath" p_InvalidPath
  o_Expr : IsoN K mg "Expr" po_Expr
  f__data : FldN K "_data" pf__data
structure Tabl where
  f : Fnm → MF
  c : Fnm → (Nat → MF) → MF
abbrev s_is_integer : Stmt := topS 19
theorem sc_is_integer : FnScope ["value"] ["value"] (defScope s_is_integer) := ⟨rfl, rfl, rfl, by decide +kernel, rfl, by decide +kernel, by decide +kernel⟩
noncomputable def b_is_integer (ck : Tabl) : MS := (mRet (mAnd (mIsi "int" (mVar 0)) (mNot (mIsi "bool" (mVar 0)))))
noncomputable def f_is_integer (ck : Tabl) : MF := fun ds m => endOf (b_is_integer ck (startM 1 ds) m)
theorem ok_is_integer {M : Mode} {P : Program} {w : World} {K : PySem.W.Frag} {mg : Str → Option Value} {base : Heap} {k : Nat} {f : Addr} {fd : FuncData} {ck : Tabl} (Fu : Fun K "is_integer" "is_integer" s_is_integer f fd) (T : Txt K w mg) :
    FnOk P w K mg base (M.CX P w) (lv k + 1) f fd ["value"] (spM K 1 (f_is_integer ck)) :=
  have nd := sc_is_integer.nd
  fnx_ok (M := M) (g := b_is_integer ck) Fu sc_is_integer rfl (fun _ _ _ => rfl) fun cdv A outer s H E hr W tk hp =>
    (jb_one (js_ret (je_and (je_isi "int" (j_var 0) T.b_isinstance T.b_int (by decide +kernel)) (je_one (je_not (je_isi "bool" (j_var 0) T.b_isinstance T.b_bool (by decide +kernel)))))))
abbrev s_is_name : Stmt := topS 20
theorem sc_is_name : FnScope ["value", "letter"] ["value"] (defScope s_is_name) := ⟨rfl, rfl, rfl, by decide +kernel, rfl, by decide +kernel, by decide +kernel⟩
noncomputable def b_is_name (ck : Tabl) : MS := (mSeq (mIfS (mOrT (mNotT (mTru (mIsi "str" (mVar 0)))) (mNotT (mB (mChain gLeS gLeS (mC (.int 1)) (mCall gLen (mCons (mVar 0) mNil)) (mC c_MOST_LETTERS)))))
    (mRet (mC (.bl false)))
    mSkip)
    (mRet (mAnd (mBin (gInB true) (mVar 0) (mC c_BARRED)) (mCall gAll (mCons (mLc (mAnyI (mVar 0)) (ngName 1) mYes (mChain gLeS gLeS (mC (.str "a")) (mVar 1) (mC (.str "z"))) [1]) mNil)))))
noncomputable def f_is_name (ck : Tabl) : MF := fun ds m => endOf (b_is_name ck (startM 2 ds) m)
theorem ok_is_name {M : Mode} {P : Program} {w : World} {K : PySem.W.Frag} {mg : Str → Option Value} {base : Heap} {k : Nat} {f : Addr} {fd : FuncData} {ck : Tabl} (Fu : Fun K "is_name" "is_name" s_is_name f fd) (T : Txt K w mg) :
    FnOk P w K mg base (M.CX P w) (lv k + 1) f fd ["value"] (spM K 1 (f_is_name ck)) :=
  have nd := sc_is_name.nd
  fnx_ok (M := M) (g := b_is_name ck) Fu sc_is_name rfl (fun _ _ _ => rfl) fun cdv A outer s H E hr W tk hp =>
    (jb_cons (js_if (jw_or (jt_not (jt_tru (je_isi "str" (j_var 0) T.b_isinstance T.b_str (by decide +kernel)))) (jw_or1 (jt_not (jt_chain op_leA op_leA om_leA om_leA j_int (je_callB cr_len cm_len T.b_len PySem.boot_len (ja_cons (j_var 0) ja_nil)) (j_con T.c_MOST_LETTERS))))).jt
    (jb_one (js_ret j_bl))
    jb_nil)
    (jb_one (js_ret (je_and (je_ninB (hu1 hr) (hu65 hr) (j_var 0) (j_con T.c_BARRED)) (je_one (je_callB (cr_all rfl) cm_all T.b_all (by decide +kernel) (ja_cons (je_lc [("letter", 1)] rfl rfl nd (ji_any (j_var 0)) (blkOk_by (N := ["value", "letter"]) (sc := defScope s_is_name) (by decide +kernel)) (fun _ _ _ _ _ => (jn_name 1 nd)) (fun _ _ _ _ _ => jts_nil) (fun _ _ _ _ _ => (je_chain op_leA op_leA om_leA om_leA j_str (j_var 1) j_str)) (hgs_name)) ja_nil)))))))
abbrev s_check_expression : Stmt := topS 21
theorem sc_check_expression : FnScope ["expr", "waiting", "names", "many", "places", "part", "level", "operand"] ["expr"] (defScope s_check_expression) := ⟨rfl, rfl, rfl, by decide +kernel, rfl, by decide +kernel, by decide +kernel⟩
noncomputable def b_check_expression (ck : Tabl) : MS := (mSeq (mAsg (mLst (mCons (mTup (mCons (mVar 0) (mCons (mC (.int 1)) mNil))) mNil)) (nName 1))
    (mSeq (mAsg mDNew (nName 2))
    (mSeq (mAsg (mC (.int 0)) (nName 3))
    (mSeq (mAsg (mC (.int 0)) (nName 4))
    (whileM (mTru (mVar 1))
    (mSeq (mAsg (mBM gPop (mVar 1) mNil) (nTup 2 (nCons (nName 5) (nCons (nName 6) nNil))))
    (mSeq (mAug 3 gAddI (mC (.int 1)))
    (mSeq (mIfS (mOrT (mB (mBin gGt (mVar 3) (mC c_MOST_PARTS))) (mOrT (mB (mBin gGt (mVar 6) (mC c_MOST_LEVELS))) (mNotT (mTru (mCall (ck.f .u_has_form) (mCons (mVar 5) mNil))))))
    (mRaise "InvalidExpression")
    mSkip)
    (mSeq (mIfS (mB (mBin (gEqA false) (mBin gItem (mVar 5) (mC (.int 0))) (mC (.str "name"))))
    (mStore (mVar 2) (mBin gItem (mVar 5) (mC (.int 1))) (mC (.bl true)))
    mSkip)
    (mSeq (mAsg (mBin gAdd (mVar 4) (mCall (ck.f .u_own_places) (mCons (mVar 5) mNil))) (nName 4))
    (mSeq (mIfS (mOrT (mB (mBin gGt (mCall gLen (mCons (mVar 2) mNil)) (mC c_MOST_VARIABLES))) (mB (mBin gGt (mVar 4) (mC c_MOST_PLACES))))
    (mRaise "InvalidExpression")
    mSkip)
    (mDrop (mBM gExtend (mVar 1) (mCons (mLc (mAnyI (mCall (ck.f .operands) (mCons (mVar 5) mNil))) (ngName 7) mYes (mTup (mCons (mVar 7) (mCons (mBin gAdd (mVar 6) (mC (.int 1))) mNil))) [7]) mNil))))))))) turns)))))
noncomputable def f_check_expression (ck : Tabl) : MF := fun ds m => endOf (b_check_expression ck (startM 8 ds) m)
theorem ok_check_expression {M : Mode} {P : Program} {w : World} {K : PySem.W.Frag} {mg : Str → Option Value} {base : Heap} {k : Nat} {f : Addr} {fd : FuncData} {ck : Tabl} (Fu : Fun K "check_expression" "check_expression" s_check_expression f fd) (T : Txt K w mg) (I_u_has_form : FnX M P w K mg base (lv k) "_has_form" 1 (ck.f .u_has_form)) (I_u_own_places : FnX M P w K mg base (lv k) "_own_places" 1 (ck.f .u_own_places)) (I_operands : FnX M P w K mg base (lv k) "operands" 1 (ck.f .operands)) :
    FnOk P w K mg base (M.CX P w) (lv k + 1) f fd ["expr"] (spM K 1 (f_check_expression ck)) :=
  have nd := sc_check_expression.nd
  fnx_ok (M := M) (g := b_check_expression ck) Fu sc_check_expression rfl (fun _ _ _ => rfl) fun cdv A outer s H E hr W tk hp =>
    (jb_cons (js_set 1 nd (je_lst (ja_cons (je_tup (ja_cons (j_var 0) (ja_cons j_int ja_nil))) ja_nil)))
    (jb_cons (js_set 2 nd je_dnew)
    (jb_cons (js_set 3 nd j_int)
    (jb_cons (js_set 4 nd j_int)
    (jb_one (js_while turns hp (jt_tru (j_var 1))
    (jb_cons (js_asg (je_bmL0 PySem.F.slot_list_pop PySem.F.type_list_pop mt_pop mm_pop (j_var 1)) (jg_tup rfl (jgs_cons (jg_name 5 nd) (jgs_cons (jg_name 6 nd) jgs_nil))))
    (jb_cons (js_aug 3 nd j_int ip_addI om_addI)
    (jb_cons (js_if (jw_or (jt_cmp op_gt om_gt (j_var 3) (j_con T.c_MOST_PARTS)) (jw_or (jt_cmp op_gt om_gt (j_var 6) (j_con T.c_MOST_LEVELS)) (jw_or1 (jt_not (jt_tru (jx_call I_u_has_form hr (Nat.le_refl _) tk (ja_cons (j_var 5) ja_nil) (hlen := (mCons_len mNil_len)))))))).jt
    (jb_one (jx_raise (M := M) T.x_InvalidExpression rfl tk))
    jb_nil)
    (jb_cons (js_if (jt_cmp (op_eqA (hu64 hr)) om_eqA (je_item (hu1 hr) (j_var 5) j_int) j_str)
    (jb_one (js_store (hu1 hr) (j_var 2) (je_item (hu1 hr) (j_var 5) j_int) (j_var 2) (je_item (hu1 hr) (j_var 5) j_int) j_bl))
    jb_nil)
    (jb_cons (js_set 4 nd (j_op op_addA om_add (j_var 4) (jx_call I_u_own_places hr (Nat.le_refl _) tk (ja_cons (j_var 5) ja_nil) (hlen := (mCons_len mNil_len)))))
    (jb_cons (js_if (jw_or (jt_cmp op_gt om_gt (je_callB cr_len cm_len T.b_len PySem.boot_len (ja_cons (j_var 2) ja_nil)) (j_con T.c_MOST_VARIABLES)) (jw_or1 (jt_cmp op_gt om_gt (j_var 4) (j_con T.c_MOST_PLACES)))).jt
    (jb_one (jx_raise (M := M) T.x_InvalidExpression rfl tk))
    jb_nil)
    (jb_one (js_expr (je_bmL PySem.F.slot_list_extend PySem.F.type_list_extend mt_extend mm_extend (j_var 1) (ja_cons (je_lc [("operand", 7)] rfl rfl nd (ji_any (jx_call I_operands hr (Nat.le_refl _) tk (ja_cons (j_var 5) ja_nil) (hlen := (mCons_len mNil_len)))) (blkOk_by (N := ["expr", "waiting", "names", "many", "places", "part", "level", "operand"]) (sc := defScope s_check_expression) (by decide +kernel)) (fun _ _ _ _ _ => (jn_name 7 nd)) (fun _ _ _ _ _ => jts_nil) (fun _ _ _ _ _ => (je_tup (ja_cons (j_var 7) (ja_cons (j_op op_addA om_add (j_var 6) j_int) ja_nil)))) (hgs_name)) ja_nil))))))))))))))))
abbrev s_u_has_form : Stmt := topS 22
theorem sc_u_has_form : FnScope ["value", "word"] ["value"] (defScope s_u_has_form) := ⟨rfl, rfl, rfl, by decide +kernel, rfl, by decide +kernel, by decide +kernel⟩
noncomputable def b_u_has_form (ck : Tabl) : MS := (mSeq (mIfS (mOrT (mNotT (mTru (mIsi "tuple" (mVar 0)))) (mOrT (mB (mBin (gEqA false) (mCall gLen (mCons (mVar 0) mNil)) (mC (.int 0)))) (mNotT (mTru (mIsi "str" (mBin gItem (mVar 0) (mC (.int 0))))))))
    (mRet (mC (.bl false)))
    mSkip)
    (mSeq (mAsg (mBin gItem (mVar 0) (mC (.int 0))) (nName 1))
    (mSeq (mIfS (mB (mBin (gEqA false) (mVar 1) (mC (.str "name"))))
    (mRet (mAnd (mBin (gEqA false) (mCall gLen (mCons (mVar 0) mNil)) (mC (.int 2))) (mCall (ck.f .is_name) (mCons (mBin gItem (mVar 0) (mC (.int 1))) mNil))))
    mSkip)
    (mSeq (mIfS (mB (mBin (gEqA false) (mVar 1) (mC (.str "call"))))
    (mRet (mAnd (mBin (gEqA false) (mCall gLen (mCons (mVar 0) mNil)) (mC (.int 3))) (mAnd (mCall (ck.f .is_name) (mCons (mBin gItem (mVar 0) (mC (.int 1))) mNil)) (mCall (ck.f .u_is_tuple) (mCons (mBin gItem (mVar 0) (mC (.int 2))) (mCons (mC (.int 0)) (mCons (mC c_MOST_OPERANDS) mNil)))))))
    mSkip)
    (mSeq (mIfS (mB (mBin (gEqA false) (mVar 1) (mC (.str "compare"))))
    (mRet (mAnd (mBin (gEqA false) (mCall gLen (mCons (mVar 0) mNil)) (mC (.int 3))) (mAnd (mCall (ck.f .u_is_tuple) (mCons (mBin gItem (mVar 0) (mC (.int 2))) (mCons (mC (.int 1)) (mCons (mC c_MOST_LINKS) mNil)))) (mCall (ck.f .u_are_links) (mCons (mBin gItem (mVar 0) (mC (.int 2))) mNil)))))
    mSkip)
    (mRet (mAnd (mInK k_LENGTHS (mVar 1)) (mBin (gEqA false) (mCall gLen (mCons (mVar 0) mNil)) (mItemK k_LENGTHS (mVar 1))))))))))
noncomputable def f_u_has_form (ck : Tabl) : MF := fun ds m => endOf (b_u_has_form ck (startM 2 ds) m)
theorem ok_u_has_form {M : Mode} {P : Program} {w : World} {K : PySem.W.Frag} {mg : Str → Option Value} {base : Heap} {k : Nat} {f : Addr} {fd : FuncData} {ck : Tabl} (Fu : Fun K "_has_form" "_has_form" s_u_has_form f fd) (T : Txt K w mg) (I_u_are_links : FnX M P w K mg base (lv k) "_are_links" 1 (ck.f .u_are_links)) (I_u_is_tuple : FnX M P w K mg base (lv k) "_is_tuple" 3 (ck.f .u_is_tuple)) (I_is_name : FnX M P w K mg base (lv k) "is_name" 1 (ck.f .is_name)) :
    FnOk P w K mg base (M.CX P w) (lv k + 1) f fd ["value"] (spM K 1 (f_u_has_form ck)) :=
  have nd := sc_u_has_form.nd
  fnx_ok (M := M) (g := b_u_has_form ck) Fu sc_u_has_form rfl (fun _ _ _ => rfl) fun cdv A outer s H E hr W tk hp =>
    (jb_cons (js_if (jw_or (jt_not (jt_tru (je_isi "tuple" (j_var 0) T.b_isinstance T.b_tuple (by decide +kernel)))) (jw_or (jt_cmp (op_eqA (hu64 hr)) om_eqA (je_callB cr_len cm_len T.b_len PySem.boot_len (ja_cons (j_var 0) ja_nil)) j_int) (jw_or1 (jt_not (jt_tru (je_isi "str" (je_item (hu1 hr) (j_var 0) j_int) T.b_isinstance T.b_str (by decide +kernel))))))).jt
    (jb_one (js_ret j_bl))
    jb_nil)
    (jb_cons (js_set 1 nd (je_item (hu1 hr) (j_var 0) j_int))
    (jb_cons (js_if (jt_cmp (op_eqA (hu64 hr)) om_eqA (j_var 1) j_str)
    (jb_one (js_ret (je_and (j_cmp (op_eqA (hu64 hr)) om_eqA (je_callB cr_len cm_len T.b_len PySem.boot_len (ja_cons (j_var 0) ja_nil)) j_int) (je_one (jx_call I_is_name hr (Nat.le_refl _) tk (ja_cons (je_item (hu1 hr) (j_var 0) j_int) ja_nil) (hlen := (mCons_len mNil_len)))))))
    jb_nil)
    (jb_cons (js_if (jt_cmp (op_eqA (hu64 hr)) om_eqA (j_var 1) j_str)
    (jb_one (js_ret (je_and (j_cmp (op_eqA (hu64 hr)) om_eqA (je_callB cr_len cm_len T.b_len PySem.boot_len (ja_cons (j_var 0) ja_nil)) j_int) (je_and (jx_call I_is_name hr (Nat.le_refl _) tk (ja_cons (je_item (hu1 hr) (j_var 0) j_int) ja_nil) (hlen := (mCons_len mNil_len))) (je_one (jx_call I_u_is_tuple hr (Nat.le_refl _) tk (ja_cons (je_item (hu1 hr) (j_var 0) j_int) (ja_cons j_int (ja_cons (j_con T.c_MOST_OPERANDS) ja_nil))) (hlen := (mCons_len (mCons_len (mCons_len mNil_len))))))))))
    jb_nil)
    (jb_cons (js_if (jt_cmp (op_eqA (hu64 hr)) om_eqA (j_var 1) j_str)
    (jb_one (js_ret (je_and (j_cmp (op_eqA (hu64 hr)) om_eqA (je_callB cr_len cm_len T.b_len PySem.boot_len (ja_cons (j_var 0) ja_nil)) j_int) (je_and (jx_call I_u_is_tuple hr (Nat.le_refl _) tk (ja_cons (je_item (hu1 hr) (j_var 0) j_int) (ja_cons j_int (ja_cons (j_con T.c_MOST_LINKS) ja_nil))) (hlen := (mCons_len (mCons_len (mCons_len mNil_len))))) (je_one (jx_call I_u_are_links hr (Nat.le_refl _) tk (ja_cons (je_item (hu1 hr) (j_var 0) j_int) ja_nil) (hlen := (mCons_len mNil_len))))))))
    jb_nil)
    (jb_one (js_ret (je_and (je_inK (j_var 1) T.k_LENGTHS) (je_one (j_cmp (op_eqA (hu64 hr)) om_eqA (je_callB cr_len cm_len T.b_len PySem.boot_len (ja_cons (j_var 0) ja_nil)) (je_itemK (j_var 1) T.k_LENGTHS)))))))))))
abbrev s_u_is_tuple : Stmt := topS 23
theorem sc_u_is_tuple : FnScope ["value", "least", "most"] ["value", "least", "most"] (defScope s_u_is_tuple) := ⟨rfl, rfl, rfl, by decide +kernel, rfl, by decide +kernel, by decide +kernel⟩
noncomputable def b_u_is_tuple (ck : Tabl) : MS := (mRet (mAnd (mIsi "tuple" (mVar 0)) (mChain gLeS gLeS (mVar 1) (mCall gLen (mCons (mVar 0) mNil)) (mVar 2))))
noncomputable def f_u_is_tuple (ck : Tabl) : MF := fun ds m => endOf (b_u_is_tuple ck (startM 3 ds) m)
theorem ok_u_is_tuple {M : Mode} {P : Program} {w : World} {K : PySem.W.Frag} {mg : Str → Option Value} {base : Heap} {k : Nat} {f : Addr} {fd : FuncData} {ck : Tabl} (Fu : Fun K "_is_tuple" "_is_tuple" s_u_is_tuple f fd) (T : Txt K w mg) :
    FnOk P w K mg base (M.CX P w) (lv k + 1) f fd ["value", "least", "most"] (spM K 3 (f_u_is_tuple ck)) :=
  have nd := sc_u_is_tuple.nd
  fnx_ok (M := M) (g := b_u_is_tuple ck) Fu sc_u_is_tuple rfl (fun _ _ _ => rfl) fun cdv A outer s H E hr W tk hp =>
    (jb_one (js_ret (je_and (je_isi "tuple" (j_var 0) T.b_isinstance T.b_tuple (by decide +kernel)) (je_one (je_chain op_leA op_leA om_leA om_leA (j_var 1) (je_callB cr_len cm_len T.b_len PySem.boot_len (ja_cons (j_var 0) ja_nil)) (j_var 2))))))
abbrev s_u_are_links : Stmt := topS 24
theorem sc_u_are_links : FnScope ["values", "value"] ["values"] (defScope s_u_are_links) := ⟨rfl, rfl, rfl, by decide +kernel, rfl, by decide +kernel, by decide +kernel⟩
noncomputable def b_u_are_links (ck : Tabl) : MS := (mRet (mCall gAll (mCons (mLc (mAnyI (mVar 0)) (ngName 1) mYes (mAnd (mCall (ck.f .u_is_tuple) (mCons (mVar 1) (mCons (mC (.int 2)) (mCons (mC (.int 2)) mNil)))) (mBin (gInB false) (mBin gItem (mVar 1) (mC (.int 0))) (mC c_SIGNS))) [1]) mNil)))
noncomputable def f_u_are_links (ck : Tabl) : MF := fun ds m => endOf (b_u_are_links ck (startM 2 ds) m)
theorem ok_u_are_links {M : Mode} {P : Program} {w : World} {K : PySem.W.Frag} {mg : Str → Option Value} {base : Heap} {k : Nat} {f : Addr} {fd : FuncData} {ck : Tabl} (Fu : Fun K "_are_links" "_are_links" s_u_are_links f fd) (T : Txt K w mg) (I_u_is_tuple : FnX M P w K mg base (lv k) "_is_tuple" 3 (ck.f .u_is_tuple)) :
    FnOk P w K mg base (M.CX P w) (lv k + 1) f fd ["values"] (spM K 1 (f_u_are_links ck)) :=
  have nd := sc_u_are_links.nd
  fnx_ok (M := M) (g := b_u_are_links ck) Fu sc_u_are_links rfl (fun _ _ _ => rfl) fun cdv A outer s H E hr W tk hp =>
    (jb_one (js_ret (je_callB (cr_all rfl) cm_all T.b_all (by decide +kernel) (ja_cons (je_lc [("value", 1)] rfl rfl nd (ji_any (j_var 0)) (blkOk_by (N := ["values", "value"]) (sc := defScope s_u_are_links) (by decide +kernel)) (fun _ _ _ _ _ => (jn_name 1 nd)) (fun _ _ _ _ _ => jts_nil) (fun _ _ _ _ _ => (je_and (jx_call I_u_is_tuple hr (Nat.le_refl _) M.tk0 (ja_cons (j_var 1) (ja_cons j_int (ja_cons j_int ja_nil))) (hlen := (mCons_len (mCons_len (mCons_len mNil_len))))) (je_one (je_inB (hu1 hr) (hu65 hr) (je_item (hu1 hr) (j_var 1) j_int) (j_con T.c_SIGNS))))) (hgs_name)) ja_nil))))
abbrev s_operands : Stmt := topS 25
theorem sc_operands : FnScope ["expr", "word", "link"] ["expr"] (defScope s_operands) := ⟨rfl, rfl, rfl, by decide +kernel, rfl, by decide +kernel, by decide +kernel⟩
noncomputable def b_operands (ck : Tabl) : MS := (mSeq (mAsg (mBin gItem (mVar 0) (mC (.int 0))) (nName 1))
    (mSeq (mIfS (mB (mBin (gEqA false) (mVar 1) (mC (.str "name"))))
    (mRet (mTup mNil))
    mSkip)
    (mSeq (mIfS (mB (mBin (gEqA false) (mVar 1) (mC (.str "call"))))
    (mRet (mBin gItem (mVar 0) (mC (.int 2))))
    mSkip)
    (mSeq (mIfS (mB (mBin (gEqA false) (mVar 1) (mC (.str "compare"))))
    (mRet (mTup (mCons (mBin gItem (mVar 0) (mC (.int 1))) (mStar (mLc (mAnyI (mBin gItem (mVar 0) (mC (.int 2)))) (ngName 2) mYes (mBin gItem (mVar 2) (mC (.int 1))) [2]) mNil))))
    mSkip)
    (mRet (mSl (mVar 0) (mEnd (mC (.int 1))) mNo))))))
noncomputable def f_operands (ck : Tabl) : MF := fun ds m => endOf (b_operands ck (startM 3 ds) m)
theorem ok_operands {M : Mode} {P : Program} {w : World} {K : PySem.W.Frag} {mg : Str → Option Value} {base : Heap} {k : Nat} {f : Addr} {fd : FuncData} {ck : Tabl} (Fu : Fun K "operands" "operands" s_operands f fd) (T : Txt K w mg) :
    FnOk P w K mg base (M.CX P w) (lv k + 1) f fd ["expr"] (spM K 1 (f_operands ck)) :=
  have nd := sc_operands.nd
  fnx_ok (M := M) (g := b_operands ck) Fu sc_operands rfl (fun _ _ _ => rfl) fun cdv A outer s H E hr W tk hp =>
    (jb_cons (js_set 1 nd (je_item (hu1 hr) (j_var 0) j_int))
    (jb_cons (js_if (jt_cmp (op_eqA (hu64 hr)) om_eqA (j_var 1) j_str)
    (jb_one (js_ret (je_tup ja_nil)))
    jb_nil)
    (jb_cons (js_if (jt_cmp (op_eqA (hu64 hr)) om_eqA (j_var 1) j_str)
    (jb_one (js_ret (je_item (hu1 hr) (j_var 0) j_int)))
    jb_nil)
    (jb_cons (js_if (jt_cmp (op_eqA (hu64 hr)) om_eqA (j_var 1) j_str)
    (jb_one (js_ret (je_tup (ja_cons (je_item (hu1 hr) (j_var 0) j_int) (ja_star (je_lc [("link", 2)] rfl rfl nd (ji_any (je_item (hu1 hr) (j_var 0) j_int)) (blkOk_by (N := ["expr", "word", "link"]) (sc := defScope s_operands) (by decide +kernel)) (fun _ _ _ _ _ => (jn_name 2 nd)) (fun _ _ _ _ _ => jts_nil) (fun _ _ _ _ _ => (je_item (hu1 hr) (j_var 2) j_int)) (hgs_name)) ja_nil)))))
    jb_nil)
    (jb_one (js_ret (je_sl (j_var 0) (jo_end j_int) jo_no)))))))
abbrev s_all_parts : Stmt := topS 26
theorem sc_all_parts : FnScope ["expr", "found", "operand"] ["expr"] (defScope s_all_parts) := ⟨rfl, rfl, rfl, by decide +kernel, rfl, by decide +kernel, by decide +kernel⟩
noncomputable def b_all_parts (ck : Tabl) : MS := (mSeq (mAsg (mLst (mCons (mVar 0) mNil)) (nName 1))
    (mSeq (mFor (mAnyI (mCall (ck.f .operands) (mCons (mVar 0) mNil))) (nName 2)
    (mAsg (mBin gAdd (mVar 1) (mCall (ck.f .all_parts) (mCons (mVar 2) mNil))) (nName 1)))
    (mRet (mVar 1))))
noncomputable def f_all_parts (ck : Tabl) : MF := fun ds m => endOf (b_all_parts ck (startM 3 ds) m)
theorem ok_all_parts {M : Mode} {P : Program} {w : World} {K : PySem.W.Frag} {mg : Str → Option Value} {base : Heap} {k : Nat} {f : Addr} {fd : FuncData} {ck : Tabl} (Fu : Fun K "all_parts" "all_parts" s_all_parts f fd) (T : Txt K w mg) (I_all_parts : FnX M P w K mg base (lv k) "all_parts" 1 (ck.f .all_parts)) (I_operands : FnX M P w K mg base (lv k) "operands" 1 (ck.f .operands)) :
    FnOk P w K mg base (M.CX P w) (lv k + 1) f fd ["expr"] (spM K 1 (f_all_parts ck)) :=
  have nd := sc_all_parts.nd
  fnx_ok (M := M) (g := b_all_parts ck) Fu sc_all_parts rfl (fun _ _ _ => rfl) fun cdv A outer s H E hr W tk hp =>
    (jb_cons (js_set 1 nd (je_lst (ja_cons (j_var 0) ja_nil)))
    (jb_cons (js_for hp rfl (ji_any (jx_call I_operands hr (Nat.le_refl _) tk (ja_cons (j_var 0) ja_nil) (hlen := (mCons_len mNil_len)))) (jg_name 2 nd)
    (jb_one (js_set 1 nd (j_op op_addA om_add (j_var 1) (jx_call I_all_parts hr (Nat.le_refl _) tk (ja_cons (j_var 2) ja_nil) (hlen := (mCons_len mNil_len)))))))
    (jb_one (js_ret (j_var 1)))))
abbrev s_u_own_places : Stmt := topS 28
theorem sc_u_own_places : FnScope ["expr"] ["expr"] (defScope s_u_own_places) := ⟨rfl, rfl, rfl, by decide +kernel, rfl, by decide +kernel, by decide +kernel⟩
noncomputable def b_u_own_places (ck : Tabl) : MS := (mSeq (mIfS (mB (mBin (gEqA false) (mBin gItem (mVar 0) (mC (.int 0))) (mC (.str "call"))))
    (mRet (mC (.int 1)))
    mSkip)
    (mRet (mIf (mB (mBin (gEqA false) (mBin gItem (mVar 0) (mC (.int 0))) (mC (.str "compare")))) (mCall gLen (mCons (mBin gItem (mVar 0) (mC (.int 2))) mNil)) (mC (.int 0)))))
noncomputable def f_u_own_places (ck : Tabl) : MF := fun ds m => endOf (b_u_own_places ck (startM 1 ds) m)
theorem ok_u_own_places {M : Mode} {P : Program} {w : World} {K : PySem.W.Frag} {mg : Str → Option Value} {base : Heap} {k : Nat} {f : Addr} {fd : FuncData} {ck : Tabl} (Fu : Fun K "_own_places" "_own_places" s_u_own_places f fd) (T : Txt K w mg) :
    FnOk P w K mg base (M.CX P w) (lv k + 1) f fd ["expr"] (spM K 1 (f_u_own_places ck)) :=
  have nd := sc_u_own_places.nd
  fnx_ok (M := M) (g := b_u_own_places ck) Fu sc_u_own_places rfl (fun _ _ _ => rfl) fun cdv A outer s H E hr W tk hp =>
    (jb_cons (js_if (jt_cmp (op_eqA (hu64 hr)) om_eqA (je_item (hu1 hr) (j_var 0) j_int) j_str)
    (jb_one (js_ret j_int))
    jb_nil)
    (jb_one (js_ret (je_if (jt_cmp (op_eqA (hu64 hr)) om_eqA (je_item (hu1 hr) (j_var 0) j_int) j_str) (je_callB cr_len cm_len T.b_len PySem.boot_len (ja_cons (je_item (hu1 hr) (j_var 0) j_int) ja_nil)) j_int))))
abbrev s_part_at : Stmt := topS 47
theorem sc_part_at : FnScope ["expr", "path", "part", "at", "below"] ["expr", "path"] (defScope s_part_at) := ⟨rfl, rfl, rfl, by decide +kernel, rfl, by decide +kernel, by decide +kernel⟩
noncomputable def b_part_at (ck : Tabl) : MS := (mSeq (mIfS (mNotT (mTru (mIsi "tuple" (mVar 1))))
    (mRaise "InvalidPath")
    mSkip)
    (mSeq (mAsg (mVar 0) (nName 2))
    (mSeq (mFor (mAnyI (mVar 1)) (nName 3)
    (mSeq (mAsg (mCall (ck.f .operands) (mCons (mVar 2) mNil)) (nName 4))
    (mSeq (mIfS (mOrT (mNotT (mTru (mCall (ck.f .is_integer) (mCons (mVar 3) mNil)))) (mNotT (mB (mChain gLeS gLt (mC (.int 0)) (mVar 3) (mCall gLen (mCons (mVar 4) mNil))))))
    (mRaise "InvalidPath")
    mSkip)
    (mAsg (mBin gItem (mVar 4) (mVar 3)) (nName 2)))))
    (mRet (mVar 2)))))
noncomputable def f_part_at (ck : Tabl) : MF := fun ds m => endOf (b_part_at ck (startM 5 ds) m)
theorem ok_part_at {M : Mode} {P : Program} {w : World} {K : PySem.W.Frag} {mg : Str → Option Value} {base : Heap} {k : Nat} {f : Addr} {fd : FuncData} {ck : Tabl} (Fu : Fun K "part_at" "part_at" s_part_at f fd) (T : Txt K w mg) (I_is_integer : FnX M P w K mg base (lv k) "is_integer" 1 (ck.f .is_integer)) (I_operands : FnX M P w K mg base (lv k) "operands" 1 (ck.f .operands)) :
    FnOk P w K mg base (M.CX P w) (lv k + 1) f fd ["expr", "path"] (spM K 2 (f_part_at ck)) :=
  have nd := sc_part_at.nd
  fnx_ok (M := M) (g := b_part_at ck) Fu sc_part_at rfl (fun _ _ _ => rfl) fun cdv A outer s H E hr W tk hp =>
    (jb_cons (js_if (jt_not (jt_tru (je_isi "tuple" (j_var 1) T.b_isinstance T.b_tuple (by decide +kernel))))
    (jb_one (jx_raise (M := M) T.x_InvalidPath rfl tk))
    jb_nil)
    (jb_cons (js_set 2 nd (j_var 0))
    (jb_cons (js_for hp rfl (ji_any (j_var 1)) (jg_name 3 nd)
    (jb_cons (js_set 4 nd (jx_call I_operands hr (Nat.le_refl _) tk (ja_cons (j_var 2) ja_nil) (hlen := (mCons_len mNil_len))))
    (jb_cons (js_if (jw_or (jt_not (jt_tru (jx_call I_is_integer hr (Nat.le_refl _) tk (ja_cons (j_var 3) ja_nil) (hlen := (mCons_len mNil_len))))) (jw_or1 (jt_not (jt_chain op_leA op_lt om_leA om_lt j_int (j_var 3) (je_callB cr_len cm_len T.b_len PySem.boot_len (ja_cons (j_var 4) ja_nil)))))).jt
    (jb_one (jx_raise (M := M) T.x_InvalidPath rfl tk))
    jb_nil)
    (jb_one (js_set 2 nd (je_item (hu1 hr) (j_var 4) (j_var 3)))))))
    (jb_one (js_ret (j_var 2))))))
abbrev s_l_source : Stmt := topS 68
theorem sc_l_source : FnScope ["_law_script", "_law_cells", "_law_k"] ["_law_script"] (defScope s_l_source) := ⟨rfl, rfl, rfl, by decide +kernel, rfl, by decide +kernel, by decide +kernel⟩
noncomputable def b_l_source (ck : Tabl) : MS := (mSeq (mAsg (mSl (mVar 0) mNo (mEnd (mC (.int 63)))) (nName 1))
    (mSeq (mFor (mRng (mCons (mCall gLen (mCons (mVar 1) mNil)) mNil)) (nName 2)
    (mIfS (mB (mBin gGe (mCall gAbs (mCons (mBin gItem (mVar 1) (mVar 2)) mNil)) (mBin gPow (mC (.int 10)) (mC (.int 18)))))
    (mStore (mVar 1) (mVar 2) (mBin gMod (mCall gInt (mCons (mBin gItem (mVar 1) (mVar 2)) mNil)) (mBin gPow (mBin gPow (mC (.int 10)) (mC (.int 60))) (mC (.int 20)))))
    mSkip))
    (mSeq (mIfS (mB (mBin gEqE (mVar 1) (mLst mNil)))
    (mAsg (mLst (mCons (mC (.int 0)) mNil)) (nName 1))
    mSkip)
    (mRet (mLst (mCons (mVar 1) (mCons (mC (.int 0)) mNil)))))))
noncomputable def f_l_source (ck : Tabl) : MF := fun ds m => endOf (b_l_source ck (startM 3 ds) m)
theorem ok_l_source {M : Mode} {P : Program} {w : World} {K : PySem.W.Frag} {mg : Str → Option Value} {base : Heap} {k : Nat} {f : Addr} {fd : FuncData} {ck : Tabl} (Fu : Fun K "_law_source" "_law_source" s_l_source f fd) (T : Txt K w mg) :
    FnOk P w K mg base (M.CX P w) (lv k + 1) f fd ["_law_script"] (spM K 1 (f_l_source ck)) :=
  have nd := sc_l_source.nd
  fnx_ok (M := M) (g := b_l_source ck) Fu sc_l_source rfl (fun _ _ _ => rfl) fun cdv A outer s H E hr W tk hp =>
    (jb_cons (js_set 1 nd (je_sl (j_var 0) jo_no (jo_end j_int)))
    (jb_cons (js_for hp rfl (ji_rng1 T.b_range (ja_cons (je_callB cr_len cm_len T.b_len PySem.boot_len (ja_cons (j_var 1) ja_nil)) ja_nil)) (jg_name 2 nd)
    (jb_one (js_if (jt_cmp op_ge om_ge (je_callB call_abs cm_abs T.b_abs (by decide +kernel) (ja_cons (je_item (hu1 hr) (j_var 1) (j_var 2)) ja_nil)) (j_op op_powW om_pow j_int j_int))
    (jb_one (js_store (hu1 hr) (j_var 1) (j_var 2) (j_var 1) (j_var 2) (j_op op_mod om_mod (je_callTy call_int1 cm_int T.b_int (by decide +kernel) (ja_cons (je_item (hu1 hr) (j_var 1) (j_var 2)) ja_nil)) (j_op op_powW om_pow (j_op op_powW om_pow j_int j_int) j_int))))
    jb_nil)))
    (jb_cons (js_if (jt_cmp (op_eqE (hu0 hr)) om_eqE (j_var 1) (je_lst ja_nil))
    (jb_one (js_set 1 nd (je_lst (ja_cons j_int ja_nil))))
    jb_nil)
    (jb_one (js_ret (je_lst (ja_cons (j_var 1) (ja_cons j_int ja_nil))))))))
abbrev s_l_draw : Stmt := topS 69
theorem sc_l_draw : FnScope ["_law_source_here", "_law_limit", "_law_cells", "_law_turn", "_law_place", "_law_cell", "_law_number"] ["_law_source_here", "_law_limit"] (defScope s_l_draw) := ⟨rfl, rfl, rfl, by decide +kernel, rfl, by decide +kernel, by decide +kernel⟩
noncomputable def b_l_draw (ck : Tabl) : MS := (mSeq (mAsg (mVar 0) (nTup 2 (nCons (nName 2) (nCons (nName 3) nNil))))
    (mSeq (mAsg (mBin gMod (mCall gInt (mCons (mVar 3) mNil)) (mCall gLen (mCons (mVar 2) mNil))) (nName 4))
    (mSeq (mAsg (mBin gItem (mVar 2) (mVar 4)) (nName 5))
    (mSeq (mStore (mVar 0) (mC (.int 1)) (mBin gAdd (mVar 3) (mC (.int 1))))
    (mSeq (mIfS (mB (mBin gGe (mVar 5) (mBin gPow (mC (.int 10)) (mC (.int 18)))))
    (mSeq (mStore (mVar 2) (mVar 4) (mBin gDiv (mVar 5) (mVar 1)))
    (mRet (mBin gMod (mCall gInt (mCons (mVar 5) mNil)) (mVar 1))))
    mSkip)
    (mSeq (mAsg (mBin gMod (mCall gInt (mCons (mBin gAdd (mBin gAdd (mBin gMul (mBin gMod (mCall gInt (mCons (mVar 5) mNil)) (mC (.int 2147483629))) (mC (.int 48271))) (mBin gMul (mBin gMul (mVar 3) (mVar 3)) (mC (.int 69621)))) (mC (.int 11))) mNil)) (mC (.int 2147483647))) (nName 6))
    (mSeq (mAsg (mBin gMod (mCall gInt (mCons (mBin gMul (mVar 6) (mVar 6)) mNil)) (mC (.int 2147483629))) (nName 6))
    (mSeq (mAsg (mBin gMod (mCall gInt (mCons (mBin gMul (mVar 6) (mVar 6)) mNil)) (mC (.int 2147483587))) (nName 6))
    (mRet (mBin gMod (mCall gInt (mCons (mVar 6) mNil)) (mVar 1)))))))))))
noncomputable def f_l_draw (ck : Tabl) : MF := fun ds m => endOf (b_l_draw ck (startM 7 ds) m)
theorem ok_l_draw {M : Mode} {P : Program} {w : World} {K : PySem.W.Frag} {mg : Str → Option Value} {base : Heap} {k : Nat} {f : Addr} {fd : FuncData} {ck : Tabl} (Fu : Fun K "_law_draw" "_law_draw" s_l_draw f fd) (T : Txt K w mg) :
    FnOk P w K mg base (M.CX P w) (lv k + 1) f fd ["_law_source_here", "_law_limit"] (spM K 2 (f_l_draw ck)) :=
  have nd := sc_l_draw.nd
  fnx_ok (M := M) (g := b_l_draw ck) Fu sc_l_draw rfl (fun _ _ _ => rfl) fun cdv A outer s H E hr W tk hp =>
    (jb_cons (js_asg (j_var 0) (jg_tup rfl (jgs_cons (jg_name 2 nd) (jgs_cons (jg_name 3 nd) jgs_nil))))
    (jb_cons (js_set 4 nd (j_op op_mod om_mod (je_callTy call_int1 cm_int T.b_int (by decide +kernel) (ja_cons (j_var 3) ja_nil)) (je_callB cr_len cm_len T.b_len PySem.boot_len (ja_cons (j_var 2) ja_nil))))
    (jb_cons (js_set 5 nd (je_item (hu1 hr) (j_var 2) (j_var 4)))
    (jb_cons (js_store (hu1 hr) (j_var 0) j_int (j_var 0) j_int (j_op op_addA om_add (j_var 3) j_int))
    (jb_cons (js_if (jt_cmp op_ge om_ge (j_var 5) (j_op op_powW om_pow j_int j_int))
    (jb_cons (js_store (hu1 hr) (j_var 2) (j_var 4) (j_var 2) (j_var 4) (j_op op_fdivW om_div (j_var 5) (j_var 1)))
    (jb_one (js_ret (j_op op_mod om_mod (je_callTy call_int1 cm_int T.b_int (by decide +kernel) (ja_cons (j_var 5) ja_nil)) (j_var 1)))))
    jb_nil)
    (jb_cons (js_set 6 nd (j_op op_mod om_mod (je_callTy call_int1 cm_int T.b_int (by decide +kernel) (ja_cons (j_op op_addA om_add (j_op op_addA om_add (j_op op_mulA om_mul (j_op op_mod om_mod (je_callTy call_int1 cm_int T.b_int (by decide +kernel) (ja_cons (j_var 5) ja_nil)) j_int) j_int) (j_op op_mulA om_mul (j_op op_mulA om_mul (j_var 3) (j_var 3)) j_int)) j_int) ja_nil)) j_int))
    (jb_cons (js_set 6 nd (j_op op_mod om_mod (je_callTy call_int1 cm_int T.b_int (by decide +kernel) (ja_cons (j_op op_mulA om_mul (j_var 6) (j_var 6)) ja_nil)) j_int))
    (jb_cons (js_set 6 nd (j_op op_mod om_mod (je_callTy call_int1 cm_int T.b_int (by decide +kernel) (ja_cons (j_op op_mulA om_mul (j_var 6) (j_var 6)) ja_nil)) j_int))
    (jb_one (js_ret (j_op op_mod om_mod (je_callTy call_int1 cm_int T.b_int (by decide +kernel) (ja_cons (j_var 6) ja_nil)) (j_var 1))))))))))))
abbrev s_l_pick : Stmt := topS 70
theorem sc_l_pick : FnScope ["_law_source_here", "_law_values"] ["_law_source_here", "_law_values"] (defScope s_l_pick) := ⟨rfl, rfl, rfl, by decide +kernel, rfl, by decide +kernel, by decide +kernel⟩
noncomputable def b_l_pick (ck : Tabl) : MS := (mRet (mBin gItem (mVar 1) (mCall (ck.f .l_draw) (mCons (mVar 0) (mCons (mCall gLen (mCons (mVar 1) mNil)) mNil)))))
noncomputable def f_l_pick (ck : Tabl) : MF := fun ds m => endOf (b_l_pick ck (startM 2 ds) m)
theorem ok_l_pick {M : Mode} {P : Program} {w : World} {K : PySem.W.Frag} {mg : Str → Option Value} {base : Heap} {k : Nat} {f : Addr} {fd : FuncData} {ck : Tabl} (Fu : Fun K "_law_pick" "_law_pick" s_l_pick f fd) (T : Txt K w mg) (I_l_draw : FnX M P w K mg base (lv k) "_law_draw" 2 (ck.f .l_draw)) :
    FnOk P w K mg base (M.CX P w) (lv k + 1) f fd ["_law_source_here", "_law_values"] (spM K 2 (f_l_pick ck)) :=
  have nd := sc_l_pick.nd
  fnx_ok (M := M) (g := b_l_pick ck) Fu sc_l_pick rfl (fun _ _ _ => rfl) fun cdv A outer s H E hr W tk hp =>
    (jb_one (js_ret (je_item (hu1 hr) (j_var 1) (jx_call I_l_draw hr (Nat.le_refl _) tk (ja_cons (j_var 0) (ja_cons (je_callB cr_len cm_len T.b_len PySem.boot_len (ja_cons (j_var 1) ja_nil)) ja_nil)) (hlen := (mCons_len (mCons_len mNil_len)))))))
abbrev s_l_leaf : Stmt := topS 71
theorem sc_l_leaf : FnScope ["_law_source_here", "_law_room", "_law_way", "_law_names_here"] ["_law_source_here", "_law_room"] (defScope s_l_leaf) := ⟨rfl, rfl, rfl, by decide +kernel, rfl, by decide +kernel, by decide +kernel⟩
noncomputable def b_l_leaf (ck : Tabl) : MS := (mSeq (mAsg (mCall (ck.f .l_draw) (mCons (mVar 0) (mCons (mC (.int 8)) mNil))) (nName 2))
    (mSeq (mIfS (mAndT (mB (mBin gLt (mVar 2) (mC (.int 2)))) (mB (mBin gGt (mBin gItem (mVar 1) (mC (.int 1))) (mC (.int 0)))))
    (mSeq (mStore (mVar 1) (mC (.int 1)) (mBin gSub (mBin gItem (mVar 1) (mC (.int 1))) (mC (.int 1))))
    (mRet (mTup (mCons (mC (.str "call")) (mCons (mCall (ck.f .l_pick) (mCons (mVar 0) (mCons (mLst (mCons (mC (.str "f")) (mCons (mC (.str "object")) (mCons (mC (.str "name")) (mCons (mC (.str "h")) mNil))))) mNil))) (mCons (mTup mNil) mNil))))))
    mSkip)
    (mSeq (mAsg (mBin gItem (mBin gAdd (mVar 1) (mLst (mCons (mLst (mCons (mC (.str "a")) (mCons (mC (.str "b")) (mCons (mC (.str "cd")) (mCons (mC (.str "z")) mNil))))) mNil))) (mC (.int 2))) (nName 3))
    (mSeq (mIfS (mAndT (mB (mBin gLt (mVar 2) (mC (.int 6)))) (mB (mBin (gEqA true) (mVar 3) (mLst mNil))))
    (mRet (mTup (mCons (mC (.str "name")) (mCons (mCall (ck.f .l_pick) (mCons (mVar 0) (mCons (mVar 3) mNil))) mNil))))
    mSkip)
    (mRet (mTup (mCons (mCall (ck.f .l_pick) (mCons (mVar 0) (mCons (mLst (mCons (mC (.str "none")) (mCons (mC (.str "true")) (mCons (mC (.str "false")) mNil)))) mNil))) mNil)))))))
noncomputable def f_l_leaf (ck : Tabl) : MF := fun ds m => endOf (b_l_leaf ck (startM 4 ds) m)
theorem ok_l_leaf {M : Mode} {P : Program} {w : World} {K : PySem.W.Frag} {mg : Str → Option Value} {base : Heap} {k : Nat} {f : Addr} {fd : FuncData} {ck : Tabl} (Fu : Fun K "_law_leaf" "_law_leaf" s_l_leaf f fd) (T : Txt K w mg) (I_l_draw : FnX M P w K mg base (lv k) "_law_draw" 2 (ck.f .l_draw)) (I_l_pick : FnX M P w K mg base (lv k) "_law_pick" 2 (ck.f .l_pick)) :
    FnOk P w K mg base (M.CX P w) (lv k + 1) f fd ["_law_source_here", "_law_room"] (spM K 2 (f_l_leaf ck)) :=
  have nd := sc_l_leaf.nd
  fnx_ok (M := M) (g := b_l_leaf ck) Fu sc_l_leaf rfl (fun _ _ _ => rfl) fun cdv A outer s H E hr W tk hp =>
    (jb_cons (js_set 2 nd (jx_call I_l_draw hr (Nat.le_refl _) tk (ja_cons (j_var 0) (ja_cons j_int ja_nil)) (hlen := (mCons_len (mCons_len mNil_len)))))
    (jb_cons (js_if (jw_and (jt_cmp op_lt om_lt (j_var 2) j_int) (jw_and1 (jt_cmp op_gt om_gt (je_item (hu1 hr) (j_var 1) j_int) j_int))).jt
    (jb_cons (js_store (hu1 hr) (j_var 1) j_int (j_var 1) j_int (j_op op_sub om_sub (je_item (hu1 hr) (j_var 1) j_int) j_int))
    (jb_one (js_ret (je_tup (ja_cons j_str (ja_cons (jx_call I_l_pick hr (Nat.le_refl _) tk (ja_cons (j_var 0) (ja_cons (je_lst (ja_cons j_str (ja_cons j_str (ja_cons j_str (ja_cons j_str ja_nil))))) ja_nil)) (hlen := (mCons_len (mCons_len mNil_len)))) (ja_cons (je_tup ja_nil) ja_nil)))))))
    jb_nil)
    (jb_cons (js_set 3 nd (je_item (hu1 hr) (j_op op_addA om_add (j_var 1) (je_lst (ja_cons (je_lst (ja_cons j_str (ja_cons j_str (ja_cons j_str (ja_cons j_str ja_nil))))) ja_nil))) j_int))
    (jb_cons (js_if (jw_and (jt_cmp op_lt om_lt (j_var 2) j_int) (jw_and1 (jt_cmp (op_neA (hu64 hr)) om_neA (j_var 3) (je_lst ja_nil)))).jt
    (jb_one (js_ret (je_tup (ja_cons j_str (ja_cons (jx_call I_l_pick hr (Nat.le_refl _) tk (ja_cons (j_var 0) (ja_cons (j_var 3) ja_nil)) (hlen := (mCons_len (mCons_len mNil_len)))) ja_nil)))))
    jb_nil)
    (jb_one (js_ret (je_tup (ja_cons (jx_call I_l_pick hr (Nat.le_refl _) tk (ja_cons (j_var 0) (ja_cons (je_lst (ja_cons j_str (ja_cons j_str (ja_cons j_str ja_nil)))) ja_nil)) (hlen := (mCons_len (mCons_len mNil_len)))) ja_nil))))))))
abbrev s_l_seen_part : Stmt := topS 72
theorem sc_l_seen_part : FnScope ["_law_source_here", "_law_room", "_law_deep", "_law_many", "_law_first", "_law_links", "_law_k", "_law_word", "_law_sign"] ["_law_source_here", "_law_room", "_law_deep"] (defScope s_l_seen_part) := ⟨rfl, rfl, rfl, by decide +kernel, rfl, by decide +kernel, by decide +kernel⟩
noncomputable def b_l_seen_part (ck : Tabl) : MS := (mSeq (mIfS (mB (mBin (gEqA false) (mCall (ck.f .l_draw) (mCons (mVar 0) (mCons (mC (.int 2)) mNil))) (mC (.int 0))))
    (mSeq (mAsg (mCall gMin (mCons (mBin gAdd (mC (.int 1)) (mCall (ck.f .l_draw) (mCons (mVar 0) (mCons (mC (.int 3)) mNil)))) (mCons (mBin gItem (mVar 1) (mC (.int 0))) mNil))) (nName 3))
    (mSeq (mStore (mVar 1) (mC (.int 0)) (mBin gSub (mBin gItem (mVar 1) (mC (.int 0))) (mVar 3)))
    (mSeq (mStore (mVar 1) (mC (.int 1)) (mBin gSub (mBin gItem (mVar 1) (mC (.int 1))) (mC (.int 1))))
    (mSeq (mAsg (mCall (ck.f .l_pick) (mCons (mVar 0) (mCons (mLst (mCons (mC (.str "f")) (mCons (mC (.str "object")) (mCons (mC (.str "name")) (mCons (mC (.str "h")) mNil))))) mNil))) (nName 7))
    (mRet (mTup (mCons (mC (.str "call")) (mCons (mVar 7) (mCons (mCall gTuple (mCons (mLc (mRng (mCons (mVar 3) mNil)) (ngName 6) mYes (mCall (ck.f .l_expr) (mCons (mVar 0) (mCons (mVar 1) (mCons (mBin gSub (mVar 2) (mC (.int 1))) mNil)))) [6]) mNil)) mNil)))))))))
    mSkip)
    (mSeq (mAsg (mCall gMin (mCons (mBin gAdd (mC (.int 1)) (mCall (ck.f .l_draw) (mCons (mVar 0) (mCons (mC (.int 4)) mNil)))) (mCons (mBin gSub (mBin gItem (mVar 1) (mC (.int 0))) (mC (.int 1))) (mCons (mBin gItem (mVar 1) (mC (.int 1))) mNil)))) (nName 3))
    (mSeq (mStore (mVar 1) (mC (.int 0)) (mBin gSub (mBin gSub (mBin gItem (mVar 1) (mC (.int 0))) (mC (.int 1))) (mVar 3)))
    (mSeq (mStore (mVar 1) (mC (.int 1)) (mBin gSub (mBin gItem (mVar 1) (mC (.int 1))) (mVar 3)))
    (mSeq (mAsg (mCall (ck.f .l_expr) (mCons (mVar 0) (mCons (mVar 1) (mCons (mBin gSub (mVar 2) (mC (.int 1))) mNil)))) (nName 4))
    (mSeq (mAsg (mLst mNil) (nName 5))
    (mSeq (mFor (mRng (mCons (mVar 3) mNil)) (nName 6)
    (mSeq (mAsg (mCall (ck.f .l_pick) (mCons (mVar 0) (mCons (mLst (mCons (mC (.str "<")) (mCons (mC (.str "<=")) (mCons (mC (.str ">")) (mCons (mC (.str ">=")) (mCons (mC (.str "==")) (mCons (mC (.str "!=")) mNil))))))) mNil))) (nName 8))
    (mDrop (mBM gAppend (mVar 5) (mCons (mTup (mCons (mVar 8) (mCons (mCall (ck.f .l_expr) (mCons (mVar 0) (mCons (mVar 1) (mCons (mBin gSub (mVar 2) (mC (.int 1))) mNil)))) mNil))) mNil)))))
    (mRet (mTup (mCons (mC (.str "compare")) (mCons (mVar 4) (mCons (mCall gTuple (mCons (mVar 5) mNil)) mNil))))))))))))
noncomputable def f_l_seen_part (ck : Tabl) : MF := fun ds m => endOf (b_l_seen_part ck (startM 9 ds) m)
theorem ok_l_seen_part {M : Mode} {P : Program} {w : World} {K : PySem.W.Frag} {mg : Str → Option Value} {base : Heap} {k : Nat} {f : Addr} {fd : FuncData} {ck : Tabl} (Fu : Fun K "_law_seen_part" "_law_seen_part" s_l_seen_part f fd) (T : Txt K w mg) (I_l_draw : FnX M P w K mg base (lv k) "_law_draw" 2 (ck.f .l_draw)) (I_l_expr : FnX M P w K mg base (lv k) "_law_expr" 3 (ck.f .l_expr)) (I_l_pick : FnX M P w K mg base (lv k) "_law_pick" 2 (ck.f .l_pick)) :
    FnOk P w K mg base (M.CX P w) (lv k + 1) f fd ["_law_source_here", "_law_room", "_law_deep"] (spM K 3 (f_l_seen_part ck)) :=
  have nd := sc_l_seen_part.nd
  fnx_ok (M := M) (g := b_l_seen_part ck) Fu sc_l_seen_part rfl (fun _ _ _ => rfl) fun cdv A outer s H E hr W tk hp =>
    (jb_cons (js_if (jt_cmp (op_eqA (hu64 hr)) om_eqA (jx_call I_l_draw hr (Nat.le_refl _) tk (ja_cons (j_var 0) (ja_cons j_int ja_nil)) (hlen := (mCons_len (mCons_len mNil_len)))) j_int)
    (jb_cons (js_set 3 nd (je_callB (MI.cr_min rfl) cm_min T.b_min (by decide +kernel) (ja_cons (j_op op_addA om_add j_int (jx_call I_l_draw hr (Nat.le_refl _) tk (ja_cons (j_var 0) (ja_cons j_int ja_nil)) (hlen := (mCons_len (mCons_len mNil_len))))) (ja_cons (je_item (hu1 hr) (j_var 1) j_int) ja_nil))))
    (jb_cons (js_store (hu1 hr) (j_var 1) j_int (j_var 1) j_int (j_op op_sub om_sub (je_item (hu1 hr) (j_var 1) j_int) (j_var 3)))
    (jb_cons (js_store (hu1 hr) (j_var 1) j_int (j_var 1) j_int (j_op op_sub om_sub (je_item (hu1 hr) (j_var 1) j_int) j_int))
    (jb_cons (js_set 7 nd (jx_call I_l_pick hr (Nat.le_refl _) tk (ja_cons (j_var 0) (ja_cons (je_lst (ja_cons j_str (ja_cons j_str (ja_cons j_str (ja_cons j_str ja_nil))))) ja_nil)) (hlen := (mCons_len (mCons_len mNil_len)))))
    (jb_one (js_ret (je_tup (ja_cons j_str (ja_cons (j_var 7) (ja_cons (je_callTy call_tuple_of cm_tuple T.b_tuple (by decide +kernel) (ja_cons (je_lc [("_law_k", 6)] rfl rfl nd (ji_rng1 T.b_range (ja_cons (j_var 3) ja_nil)) (blkOk_by (N := ["_law_source_here", "_law_room", "_law_deep", "_law_many", "_law_first", "_law_links", "_law_k", "_law_word", "_law_sign"]) (sc := defScope s_l_seen_part) (by decide +kernel)) (fun _ _ _ _ _ => (jn_name 6 nd)) (fun _ _ _ _ _ => jts_nil) (fun _ _ _ _ _ => (jx_call I_l_expr hr (Nat.le_refl _) M.tk0 (ja_cons (j_var 0) (ja_cons (j_var 1) (ja_cons (j_op op_sub om_sub (j_var 2) j_int) ja_nil))) (hlen := (mCons_len (mCons_len (mCons_len mNil_len)))))) (hgs_name)) ja_nil)) ja_nil))))))))))
    jb_nil)
    (jb_cons (js_set 3 nd (je_callB (MI.cr_min rfl) cm_min T.b_min (by decide +kernel) (ja_cons (j_op op_addA om_add j_int (jx_call I_l_draw hr (Nat.le_refl _) tk (ja_cons (j_var 0) (ja_cons j_int ja_nil)) (hlen := (mCons_len (mCons_len mNil_len))))) (ja_cons (j_op op_sub om_sub (je_item (hu1 hr) (j_var 1) j_int) j_int) (ja_cons (je_item (hu1 hr) (j_var 1) j_int) ja_nil)))))
    (jb_cons (js_store (hu1 hr) (j_var 1) j_int (j_var 1) j_int (j_op op_sub om_sub (j_op op_sub om_sub (je_item (hu1 hr) (j_var 1) j_int) j_int) (j_var 3)))
    (jb_cons (js_store (hu1 hr) (j_var 1) j_int (j_var 1) j_int (j_op op_sub om_sub (je_item (hu1 hr) (j_var 1) j_int) (j_var 3)))
    (jb_cons (js_set 4 nd (jx_call I_l_expr hr (Nat.le_refl _) tk (ja_cons (j_var 0) (ja_cons (j_var 1) (ja_cons (j_op op_sub om_sub (j_var 2) j_int) ja_nil))) (hlen := (mCons_len (mCons_len (mCons_len mNil_len))))))
    (jb_cons (js_set 5 nd (je_lst ja_nil))
    (jb_cons (js_for hp rfl (ji_rng1 T.b_range (ja_cons (j_var 3) ja_nil)) (jg_name 6 nd)
    (jb_cons (js_set 8 nd (jx_call I_l_pick hr (Nat.le_refl _) tk (ja_cons (j_var 0) (ja_cons (je_lst (ja_cons j_str (ja_cons j_str (ja_cons j_str (ja_cons j_str (ja_cons j_str (ja_cons j_str ja_nil))))))) ja_nil)) (hlen := (mCons_len (mCons_len mNil_len)))))
    (jb_one (js_expr (je_bmL PySem.F.slot_list_append PySem.F.type_list_append mt_append mm_append (j_var 5) (ja_cons (je_tup (ja_cons (j_var 8) (ja_cons (jx_call I_l_expr hr (Nat.le_refl _) tk (ja_cons (j_var 0) (ja_cons (j_var 1) (ja_cons (j_op op_sub om_sub (j_var 2) j_int) ja_nil))) (hlen := (mCons_len (mCons_len (mCons_len mNil_len))))) ja_nil))) ja_nil))))))
    (jb_one (js_ret (je_tup (ja_cons j_str (ja_cons (j_var 4) (ja_cons (je_callTy call_tuple_of cm_tuple T.b_tuple (by decide +kernel) (ja_cons (j_var 5) ja_nil)) ja_nil)))))))))))))
abbrev s_l_expr : Stmt := topS 73
theorem sc_l_expr : FnScope ["_law_source_here", "_law_room", "_law_deep", "_law_way", "_law_head", "_law_many", "_law_k"] ["_law_source_here", "_law_room", "_law_deep"] (defScope s_l_expr) := ⟨rfl, rfl, rfl, by decide +kernel, rfl, by decide +kernel, by decide +kernel⟩
noncomputable def b_l_expr (ck : Tabl) : MS := (mSeq (mAsg (mCall (ck.f .l_draw) (mCons (mVar 0) (mCons (mC (.int 12)) mNil))) (nName 3))
    (mSeq (mIfS (mOrT (mB (mBin (gEqA false) (mVar 2) (mC (.int 1)))) (mOrT (mB (mBin (gEqA false) (mVar 3) (mC (.int 0)))) (mB (mBin gLt (mBin gItem (mVar 1) (mC (.int 0))) (mC (.int 3))))))
    (mRet (mCall (ck.f .l_leaf) (mCons (mVar 0) (mCons (mVar 1) mNil))))
    mSkip)
    (mSeq (mIfS (mAndT (mB (mBin gLt (mVar 3) (mC (.int 4)))) (mB (mBin gGt (mBin gItem (mVar 1) (mC (.int 1))) (mC (.int 0)))))
    (mRet (mCall (ck.f .l_seen_part) (mCons (mVar 0) (mCons (mVar 1) (mCons (mVar 2) mNil)))))
    mSkip)
    (mSeq (mIfS (mB (mBin gLt (mVar 3) (mC (.int 6))))
    (mSeq (mStore (mVar 1) (mC (.int 0)) (mBin gSub (mBin gItem (mVar 1) (mC (.int 0))) (mC (.int 1))))
    (mRet (mTup (mCons (mCall (ck.f .l_pick) (mCons (mVar 0) (mCons (mLst (mCons (mC (.str "not")) (mCons (mC (.str "isnone")) mNil))) mNil))) (mCons (mCall (ck.f .l_expr) (mCons (mVar 0) (mCons (mVar 1) (mCons (mBin gSub (mVar 2) (mC (.int 1))) mNil)))) mNil)))))
    mSkip)
    (mSeq (mAsg (mBin gItem (mLst (mCons (mC (.str "and")) (mCons (mC (.str "or")) (mCons (mC (.str "and")) (mCons (mC (.str "or")) (mCons (mC (.str "default")) (mCons (mC (.str "if")) mNil))))))) (mBin gSub (mVar 3) (mC (.int 6)))) (nName 4))
    (mSeq (mAsg (mBin gAdd (mC (.int 2)) (mCall gInt (mCons (mBin (gEqA false) (mVar 4) (mC (.str "if"))) mNil))) (nName 5))
    (mSeq (mStore (mVar 1) (mC (.int 0)) (mBin gSub (mBin gItem (mVar 1) (mC (.int 0))) (mVar 5)))
    (mRet (mCall gTuple (mCons (mBin gAdd (mLst (mCons (mVar 4) mNil)) (mLc (mRng (mCons (mVar 5) mNil)) (ngName 6) mYes (mCall (ck.f .l_expr) (mCons (mVar 0) (mCons (mVar 1) (mCons (mBin gSub (mVar 2) (mC (.int 1))) mNil)))) [6])) mNil))))))))))
noncomputable def f_l_expr (ck : Tabl) : MF := fun ds m => endOf (b_l_expr ck (startM 7 ds) m)
theorem ok_l_expr {M : Mode} {P : Program} {w : World} {K : PySem.W.Frag} {mg : Str → Option Value} {base : Heap} {k : Nat} {f : Addr} {fd : FuncData} {ck : Tabl} (Fu : Fun K "_law_expr" "_law_expr" s_l_expr f fd) (T : Txt K w mg) (I_l_draw : FnX M P w K mg base (lv k) "_law_draw" 2 (ck.f .l_draw)) (I_l_expr : FnX M P w K mg base (lv k) "_law_expr" 3 (ck.f .l_expr)) (I_l_leaf : FnX M P w K mg base (lv k) "_law_leaf" 2 (ck.f .l_leaf)) (I_l_pick : FnX M P w K mg base (lv k) "_law_pick" 2 (ck.f .l_pick)) (I_l_seen_part : FnX M P w K mg base (lv k) "_law_seen_part" 3 (ck.f .l_seen_part)) :
    FnOk P w K mg base (M.CX P w) (lv k + 1) f fd ["_law_source_here", "_law_room", "_law_deep"] (spM K 3 (f_l_expr ck)) :=
  have nd := sc_l_expr.nd
  fnx_ok (M := M) (g := b_l_expr ck) Fu sc_l_expr rfl (fun _ _ _ => rfl) fun cdv A outer s H E hr W tk hp =>
    (jb_cons (js_set 3 nd (jx_call I_l_draw hr (Nat.le_refl _) tk (ja_cons (j_var 0) (ja_cons j_int ja_nil)) (hlen := (mCons_len (mCons_len mNil_len)))))
    (jb_cons (js_if (jw_or (jt_cmp (op_eqA (hu64 hr)) om_eqA (j_var 2) j_int) (jw_or (jt_cmp (op_eqA (hu64 hr)) om_eqA (j_var 3) j_int) (jw_or1 (jt_cmp op_lt om_lt (je_item (hu1 hr) (j_var 1) j_int) j_int)))).jt
    (jb_one (js_ret (jx_call I_l_leaf hr (Nat.le_refl _) tk (ja_cons (j_var 0) (ja_cons (j_var 1) ja_nil)) (hlen := (mCons_len (mCons_len mNil_len))))))
    jb_nil)
    (jb_cons (js_if (jw_and (jt_cmp op_lt om_lt (j_var 3) j_int) (jw_and1 (jt_cmp op_gt om_gt (je_item (hu1 hr) (j_var 1) j_int) j_int))).jt
    (jb_one (js_ret (jx_call I_l_seen_part hr (Nat.le_refl _) tk (ja_cons (j_var 0) (ja_cons (j_var 1) (ja_cons (j_var 2) ja_nil))) (hlen := (mCons_len (mCons_len (mCons_len mNil_len)))))))
    jb_nil)
    (jb_cons (js_if (jt_cmp op_lt om_lt (j_var 3) j_int)
    (jb_cons (js_store (hu1 hr) (j_var 1) j_int (j_var 1) j_int (j_op op_sub om_sub (je_item (hu1 hr) (j_var 1) j_int) j_int))
    (jb_one (js_ret (je_tup (ja_cons (jx_call I_l_pick hr (Nat.le_refl _) tk (ja_cons (j_var 0) (ja_cons (je_lst (ja_cons j_str (ja_cons j_str ja_nil))) ja_nil)) (hlen := (mCons_len (mCons_len mNil_len)))) (ja_cons (jx_call I_l_expr hr (Nat.le_refl _) tk (ja_cons (j_var 0) (ja_cons (j_var 1) (ja_cons (j_op op_sub om_sub (j_var 2) j_int) ja_nil))) (hlen := (mCons_len (mCons_len (mCons_len mNil_len))))) ja_nil))))))
    jb_nil)
    (jb_cons (js_set 4 nd (je_item (hu1 hr) (je_lst (ja_cons j_str (ja_cons j_str (ja_cons j_str (ja_cons j_str (ja_cons j_str (ja_cons j_str ja_nil))))))) (j_op op_sub om_sub (j_var 3) j_int)))
    (jb_cons (js_set 5 nd (j_op op_addA om_add j_int (je_callTy call_int1 cm_int T.b_int (by decide +kernel) (ja_cons (j_cmp (op_eqA (hu64 hr)) om_eqA (j_var 4) j_str) ja_nil))))
    (jb_cons (js_store (hu1 hr) (j_var 1) j_int (j_var 1) j_int (j_op op_sub om_sub (je_item (hu1 hr) (j_var 1) j_int) (j_var 5)))
    (jb_one (js_ret (je_callTy call_tuple_of cm_tuple T.b_tuple (by decide +kernel) (ja_cons (j_op op_addA om_add (je_lst (ja_cons (j_var 4) ja_nil)) (je_lc [("_law_k", 6)] rfl rfl nd (ji_rng1 T.b_range (ja_cons (j_var 5) ja_nil)) (blkOk_by (N := ["_law_source_here", "_law_room", "_law_deep", "_law_way", "_law_head", "_law_many", "_law_k"]) (sc := defScope s_l_expr) (by decide +kernel)) (fun _ _ _ _ _ => (jn_name 6 nd)) (fun _ _ _ _ _ => jts_nil) (fun _ _ _ _ _ => (jx_call I_l_expr hr (Nat.le_refl _) M.tk0 (ja_cons (j_var 0) (ja_cons (j_var 1) (ja_cons (j_op op_sub om_sub (j_var 2) j_int) ja_nil))) (hlen := (mCons_len (mCons_len (mCons_len mNil_len)))))) (hgs_name))) ja_nil)))))))))))
abbrev s_l_any_expr : Stmt := topS 74
theorem sc_l_any_expr : FnScope ["_law_source_here", "_law_parts_here", "_law_deep"] ["_law_source_here"] (defScope s_l_any_expr) := ⟨rfl, rfl, rfl, by decide +kernel, rfl, by decide +kernel, by decide +kernel⟩
noncomputable def b_l_any_expr (ck : Tabl) : MS := (mSeq (mAsg (mCall (ck.f .l_pick) (mCons (mVar 0) (mCons (mLst (mCons (mTup (mCons (mC (.int 3)) (mCons (mC (.int 3)) mNil))) (mCons (mTup (mCons (mC (.int 7)) (mCons (mC (.int 4)) mNil))) (mCons (mTup (mCons (mC (.int 12)) (mCons (mC (.int 5)) mNil))) (mCons (mTup (mCons (mC (.int 24)) (mCons (mC (.int 8)) mNil))) (mCons (mTup (mCons (mC (.int 39)) (mCons (mC (.int 12)) mNil))) mNil)))))) mNil))) (nTup 2 (nCons (nName 1) (nCons (nName 2) nNil))))
    (mRet (mCall (ck.f .l_expr) (mCons (mVar 0) (mCons (mLst (mCons (mVar 1) (mCons (mCall (ck.f .l_draw) (mCons (mVar 0) (mCons (mC (.int 7)) mNil))) mNil))) (mCons (mVar 2) mNil))))))
noncomputable def f_l_any_expr (ck : Tabl) : MF := fun ds m => endOf (b_l_any_expr ck (startM 3 ds) m)
theorem ok_l_any_expr {M : Mode} {P : Program} {w : World} {K : PySem.W.Frag} {mg : Str → Option Value} {base : Heap} {k : Nat} {f : Addr} {fd : FuncData} {ck : Tabl} (Fu : Fun K "_law_any_expr" "_law_any_expr" s_l_any_expr f fd) (T : Txt K w mg) (I_l_draw : FnX M P w K mg base (lv k) "_law_draw" 2 (ck.f .l_draw)) (I_l_expr : FnX M P w K mg base (lv k) "_law_expr" 3 (ck.f .l_expr)) (I_l_pick : FnX M P w K mg base (lv k) "_law_pick" 2 (ck.f .l_pick)) :
    FnOk P w K mg base (M.CX P w) (lv k + 1) f fd ["_law_source_here"] (spM K 1 (f_l_any_expr ck)) :=
  have nd := sc_l_any_expr.nd
  fnx_ok (M := M) (g := b_l_any_expr ck) Fu sc_l_any_expr rfl (fun _ _ _ => rfl) fun cdv A outer s H E hr W tk hp =>
    (jb_cons (js_asg (jx_call I_l_pick hr (Nat.le_refl _) tk (ja_cons (j_var 0) (ja_cons (je_lst (ja_cons (je_tup (ja_cons j_int (ja_cons j_int ja_nil))) (ja_cons (je_tup (ja_cons j_int (ja_cons j_int ja_nil))) (ja_cons (je_tup (ja_cons j_int (ja_cons j_int ja_nil))) (ja_cons (je_tup (ja_cons j_int (ja_cons j_int ja_nil))) (ja_cons (je_tup (ja_cons j_int (ja_cons j_int ja_nil))) ja_nil)))))) ja_nil)) (hlen := (mCons_len (mCons_len mNil_len)))) (jg_tup rfl (jgs_cons (jg_name 1 nd) (jgs_cons (jg_name 2 nd) jgs_nil))))
    (jb_one (js_ret (jx_call I_l_expr hr (Nat.le_refl _) tk (ja_cons (j_var 0) (ja_cons (je_lst (ja_cons (j_var 1) (ja_cons (jx_call I_l_draw hr (Nat.le_refl _) tk (ja_cons (j_var 0) (ja_cons j_int ja_nil)) (hlen := (mCons_len (mCons_len mNil_len)))) ja_nil))) (ja_cons (j_var 2) ja_nil))) (hlen := (mCons_len (mCons_len (mCons_len mNil_len))))))))
abbrev s_l_operands : Stmt := topS 75
theorem sc_l_operands : FnScope ["_law_expr_here", "_law_link"] ["_law_expr_here"] (defScope s_l_operands) := ⟨rfl, rfl, rfl, by decide +kernel, rfl, by decide +kernel, by decide +kernel⟩
noncomputable def b_l_operands (ck : Tabl) : MS := (mSeq (mIfS (mB (mBin (gEqA false) (mBin gItem (mVar 0) (mC (.int 0))) (mC (.str "name"))))
    (mRet (mLst mNil))
    mSkip)
    (mSeq (mIfS (mB (mBin (gEqA false) (mBin gItem (mVar 0) (mC (.int 0))) (mC (.str "call"))))
    (mRet (mCall gListA (mCons (mBin gItem (mVar 0) (mC (.int 2))) mNil)))
    mSkip)
    (mSeq (mIfS (mB (mBin (gEqA false) (mBin gItem (mVar 0) (mC (.int 0))) (mC (.str "compare"))))
    (mRet (mBin gAdd (mLst (mCons (mBin gItem (mVar 0) (mC (.int 1))) mNil)) (mLc (mAnyI (mBin gItem (mVar 0) (mC (.int 2)))) (ngName 1) mYes (mBin gItem (mVar 1) (mC (.int 1))) [1])))
    mSkip)
    (mRet (mCall gListA (mCons (mSl (mVar 0) (mEnd (mC (.int 1))) mNo) mNil))))))
noncomputable def f_l_operands (ck : Tabl) : MF := fun ds m => endOf (b_l_operands ck (startM 2 ds) m)
theorem ok_l_operands {M : Mode} {P : Program} {w : World} {K : PySem.W.Frag} {mg : Str → Option Value} {base : Heap} {k : Nat} {f : Addr} {fd : FuncData} {ck : Tabl} (Fu : Fun K "_law_operands" "_law_operands" s_l_operands f fd) (T : Txt K w mg) :
    FnOk P w K mg base (M.CX P w) (lv k + 1) f fd ["_law_expr_here"] (spM K 1 (f_l_operands ck)) :=
  have nd := sc_l_operands.nd
  fnx_ok (M := M) (g := b_l_operands ck) Fu sc_l_operands rfl (fun _ _ _ => rfl) fun cdv A outer s H E hr W tk hp =>
    (jb_cons (js_if (jt_cmp (op_eqA (hu64 hr)) om_eqA (je_item (hu1 hr) (j_var 0) j_int) j_str)
    (jb_one (js_ret (je_lst ja_nil)))
    jb_nil)
    (jb_cons (js_if (jt_cmp (op_eqA (hu64 hr)) om_eqA (je_item (hu1 hr) (j_var 0) j_int) j_str)
    (jb_one (js_ret (je_callTy (cr_listA rfl) cm_listA T.b_list (by decide +kernel) (ja_cons (je_item (hu1 hr) (j_var 0) j_int) ja_nil))))
    jb_nil)
    (jb_cons (js_if (jt_cmp (op_eqA (hu64 hr)) om_eqA (je_item (hu1 hr) (j_var 0) j_int) j_str)
    (jb_one (js_ret (j_op op_addA om_add (je_lst (ja_cons (je_item (hu1 hr) (j_var 0) j_int) ja_nil)) (je_lc [("_law_link", 1)] rfl rfl nd (ji_any (je_item (hu1 hr) (j_var 0) j_int)) (blkOk_by (N := ["_law_expr_here", "_law_link"]) (sc := defScope s_l_operands) (by decide +kernel)) (fun _ _ _ _ _ => (jn_name 1 nd)) (fun _ _ _ _ _ => jts_nil) (fun _ _ _ _ _ => (je_item (hu1 hr) (j_var 1) j_int)) (hgs_name)))))
    jb_nil)
    (jb_one (js_ret (je_callTy (cr_listA rfl) cm_listA T.b_list (by decide +kernel) (ja_cons (je_sl (j_var 0) (jo_end j_int) jo_no) ja_nil)))))))
abbrev s_l_parts : Stmt := topS 76
theorem sc_l_parts : FnScope ["_law_expr_here", "_law_found", "_law_part"] ["_law_expr_here"] (defScope s_l_parts) := ⟨rfl, rfl, rfl, by decide +kernel, rfl, by decide +kernel, by decide +kernel⟩
noncomputable def b_l_parts (ck : Tabl) : MS := (mSeq (mAsg (mLst (mCons (mVar 0) mNil)) (nName 1))
    (mSeq (mFor (mAnyI (mCall (ck.f .l_operands) (mCons (mVar 0) mNil))) (nName 2)
    (mAsg (mBin gAdd (mVar 1) (mCall (ck.f .l_parts) (mCons (mVar 2) mNil))) (nName 1)))
    (mRet (mVar 1))))
noncomputable def f_l_parts (ck : Tabl) : MF := fun ds m => endOf (b_l_parts ck (startM 3 ds) m)
theorem ok_l_parts {M : Mode} {P : Program} {w : World} {K : PySem.W.Frag} {mg : Str → Option Value} {base : Heap} {k : Nat} {f : Addr} {fd : FuncData} {ck : Tabl} (Fu : Fun K "_law_parts" "_law_parts" s_l_parts f fd) (T : Txt K w mg) (I_l_operands : FnX M P w K mg base (lv k) "_law_operands" 1 (ck.f .l_operands)) (I_l_parts : FnX M P w K mg base (lv k) "_law_parts" 1 (ck.f .l_parts)) :
    FnOk P w K mg base (M.CX P w) (lv k + 1) f fd ["_law_expr_here"] (spM K 1 (f_l_parts ck)) :=
  have nd := sc_l_parts.nd
  fnx_ok (M := M) (g := b_l_parts ck) Fu sc_l_parts rfl (fun _ _ _ => rfl) fun cdv A outer s H E hr W tk hp =>
    (jb_cons (js_set 1 nd (je_lst (ja_cons (j_var 0) ja_nil)))
    (jb_cons (js_for hp rfl (ji_any (jx_call I_l_operands hr (Nat.le_refl _) tk (ja_cons (j_var 0) ja_nil) (hlen := (mCons_len mNil_len)))) (jg_name 2 nd)
    (jb_one (js_set 1 nd (j_op op_addA om_add (j_var 1) (jx_call I_l_parts hr (Nat.le_refl _) tk (ja_cons (j_var 2) ja_nil) (hlen := (mCons_len mNil_len)))))))
    (jb_one (js_ret (j_var 1)))))
abbrev s_l_paths : Stmt := topS 78
theorem sc_l_paths : FnScope ["_law_expr_here", "_law_found", "_law_operands_here", "_law_k", "_law_path", "_law_part"] ["_law_expr_here"] (defScope s_l_paths) := ⟨rfl, rfl, rfl, by decide +kernel, rfl, by decide +kernel, by decide +kernel⟩
noncomputable def b_l_paths (ck : Tabl) : MS := (mSeq (mAsg (mLst (mCons (mTup (mCons (mTup mNil) (mCons (mVar 0) mNil))) mNil)) (nName 1))
    (mSeq (mAsg (mCall (ck.f .l_operands) (mCons (mVar 0) mNil)) (nName 2))
    (mSeq (mFor (mRng (mCons (mCall gLen (mCons (mVar 2) mNil)) mNil)) (nName 3)
    (mFor (mAnyI (mCall (ck.f .l_paths) (mCons (mBin gItem (mVar 2) (mVar 3)) mNil))) (nTup 2 (nCons (nName 4) (nCons (nName 5) nNil)))
    (mDrop (mBM gAppend (mVar 1) (mCons (mTup (mCons (mBin gAdd (mTup (mCons (mVar 3) mNil)) (mVar 4)) (mCons (mVar 5) mNil))) mNil)))))
    (mRet (mVar 1)))))
noncomputable def f_l_paths (ck : Tabl) : MF := fun ds m => endOf (b_l_paths ck (startM 6 ds) m)
theorem ok_l_paths {M : Mode} {P : Program} {w : World} {K : PySem.W.Frag} {mg : Str → Option Value} {base : Heap} {k : Nat} {f : Addr} {fd : FuncData} {ck : Tabl} (Fu : Fun K "_law_paths" "_law_paths" s_l_paths f fd) (T : Txt K w mg) (I_l_operands : FnX M P w K mg base (lv k) "_law_operands" 1 (ck.f .l_operands)) (I_l_paths : FnX M P w K mg base (lv k) "_law_paths" 1 (ck.f .l_paths)) :
    FnOk P w K mg base (M.CX P w) (lv k + 1) f fd ["_law_expr_here"] (spM K 1 (f_l_paths ck)) :=
  have nd := sc_l_paths.nd
  fnx_ok (M := M) (g := b_l_paths ck) Fu sc_l_paths rfl (fun _ _ _ => rfl) fun cdv A outer s H E hr W tk hp =>
    (jb_cons (js_set 1 nd (je_lst (ja_cons (je_tup (ja_cons (je_tup ja_nil) (ja_cons (j_var 0) ja_nil))) ja_nil)))
    (jb_cons (js_set 2 nd (jx_call I_l_operands hr (Nat.le_refl _) tk (ja_cons (j_var 0) ja_nil) (hlen := (mCons_len mNil_len))))
    (jb_cons (js_for hp rfl (ji_rng1 T.b_range (ja_cons (je_callB cr_len cm_len T.b_len PySem.boot_len (ja_cons (j_var 2) ja_nil)) ja_nil)) (jg_name 3 nd)
    (jb_one (js_for hp rfl (ji_any (jx_call I_l_paths hr (Nat.le_refl _) tk (ja_cons (je_item (hu1 hr) (j_var 2) (j_var 3)) ja_nil) (hlen := (mCons_len mNil_len)))) (jg_tup rfl (jgs_cons (jg_name 4 nd) (jgs_cons (jg_name 5 nd) jgs_nil)))
    (jb_one (js_expr (je_bmL PySem.F.slot_list_append PySem.F.type_list_append mt_append mm_append (j_var 1) (ja_cons (je_tup (ja_cons (j_op op_addA om_add (je_tup (ja_cons (j_var 3) ja_nil)) (j_var 4)) (ja_cons (j_var 5) ja_nil))) ja_nil)))))))
    (jb_one (js_ret (j_var 1))))))
abbrev s_l_refused : Stmt := topS 79
theorem sc_l_refused : FnScope ["_law_value", "_law_path", "_law_caught", "_law_found", "e"] ["_law_value", "_law_path"] (defScope s_l_refused) := ⟨rfl, rfl, rfl, by decide +kernel, rfl, by decide +kernel, by decide +kernel⟩
noncomputable def b_l_refused (ck : Tabl) (h : Nat → Tabl) (k : Nat) : MS := (mSeq (mAsg (mC .non) (nName 2))
    (mSeq (mAsg (mC .non) (nName 3))
    (mSeq (mTryK p_OperandError 4 2 (mAsg (mPos k (mGetO "Expr" ((h (k - 1)).f .m_Expr___getitem__) (mVar 0) (mVar 1))) (nName 3)))
    (mRet (mAnd (mBin gIsN (mVar 3) (mC .non)) (mAnd (mIsx p_InvalidPath (mVar 2)) (mNot (mIsx p_InvalidExpression (mVar 2)))))))))
noncomputable def f_l_refused (ck : Tabl) (h : Nat → Tabl) (k : Nat) : MF := fun ds m => endOf (b_l_refused ck h k (startM 5 ds) m)
theorem ok_l_refused {P : Program} {w : World} {K : PySem.W.Frag} {mg : Str → Option Value} {base : Heap} {k : Nat} {f : Addr} {fd : FuncData} {ck : Tabl} {h : Nat → Tabl} (Fu : Fun K "_law_refused" "_law_refused" s_l_refused f fd) (T : Txt K w mg) (IS_m_Expr___getitem__ : ∀ j, j < k → SpcX M2 P w K mg base (lv j) "Expr" "__getitem__" 1 ((h j).f .m_Expr___getitem__)) :
    FnOk P w K mg base (M2.CX P w) (lv k + 1) f fd ["_law_value", "_law_path"] (spM K 2 (f_l_refused ck h k)) :=
  have nd := sc_l_refused.nd
  fnx_ok (M := M2) (g := b_l_refused ck h k) Fu sc_l_refused rfl (fun _ _ _ => rfl) fun cdv A outer s H E hr W tk hp =>
    (jb_cons (js_set 2 nd j_non)
    (jb_cons (js_set 3 nd j_non)
    (jb_cons (jx_tryKN 4 2 rfl rfl rfl nd T.h_OperandError tk (fun W tk_pn xe tk hp => (jb_one (js_set 3 nd (je_pos (k := k) fun pos_ => jx_getown (IS_m_Expr___getitem__ (k - 1) (by omega)) hr (lv_pos pos_) tk (j_var 0) (j_var 1))))))
    (jb_one (js_ret (je_and (j_cmp op_isN om_isN (j_var 3) j_non) (je_and (je_isxN (j_var 2) T.i_InvalidPath T.b_isinstance) (je_one (je_not (je_isxN (j_var 2) T.i_InvalidExpression T.b_isinstance))))))))))
abbrev s_l_other_paths : Stmt := topS 80
theorem sc_l_other_paths : FnScope ["_law_source_here", "_law_path", "_law_at", "_law_number", "_law_found"] ["_law_source_here", "_law_path"] (defScope s_l_other_paths) := ⟨rfl, rfl, rfl, by decide +kernel, rfl, by decide +kernel, by decide +kernel⟩
noncomputable def b_l_other_paths (ck : Tabl) : MS := (mSeq (mAsg (mCall (ck.f .l_draw) (mCons (mVar 0) (mCons (mBin gAdd (mCall gLen (mCons (mVar 1) mNil)) (mC (.int 1))) mNil))) (nName 2))
    (mSeq (mAsg (mCall (ck.f .l_pick) (mCons (mVar 0) (mCons (mLst (mCons (mNeg (mC (.int 1))) (mCons (mC (.int 3)) (mCons (mC (.int 4)) (mCons (mBin gPow (mC (.int 10)) (mC (.int 20))) (mCons (mC (.bl true)) (mCons (mC (.str "0")) (mCons (mC .non) (mCons (mTup mNil) (mCons (mC (.int 0)) (mCons (mC (.int 1)) (mCons (mC (.int 2)) mNil)))))))))))) mNil))) (nName 3))
    (mSeq (mAsg (mLst (mCons (mBin gAdd (mBin gAdd (mSl (mVar 1) mNo (mEnd (mVar 2))) (mTup (mCons (mVar 3) mNil))) (mSl (mVar 1) (mEnd (mBin gAdd (mVar 2) (mC (.int 1)))) mNo)) (mCons (mBin gAdd (mBin gAdd (mSl (mVar 1) mNo (mEnd (mVar 2))) (mTup (mCons (mVar 3) mNil))) (mSl (mVar 1) (mEnd (mVar 2)) mNo)) mNil))) (nName 4))
    (mSeq (mAsg (mBin gAdd (mVar 4) (mLst (mCons (mBin gAdd (mBin gAdd (mSl (mVar 1) mNo (mEnd (mVar 2))) (mTup (mCons (mLst (mCons (mC (.int 0)) mNil)) mNil))) (mSl (mVar 1) (mEnd (mBin gAdd (mVar 2) (mC (.int 1)))) mNo)) (mCons (mBin gAdd (mSl (mVar 1) mNo (mEnd (mVar 2))) (mTup (mCons mDNew mNil))) (mCons (mBin gAdd (mVar 1) (mTup (mCons (mLst mNil) mNil))) mNil))))) (nName 4))
    (mRet (mBin gAdd (mVar 4) (mLst (mCons (mCall gListA (mCons (mVar 1) mNil)) (mCons (mC .non) (mCons (mC (.int 0)) (mCons (mC (.str "")) (mCons (mSl (mVar 1) mNo (mEnd (mNeg (mC (.int 1))))) mNil))))))))))))
noncomputable def f_l_other_paths (ck : Tabl) : MF := fun ds m => endOf (b_l_other_paths ck (startM 5 ds) m)
theorem ok_l_other_paths {M : Mode} {P : Program} {w : World} {K : PySem.W.Frag} {mg : Str → Option Value} {base : Heap} {k : Nat} {f : Addr} {fd : FuncData} {ck : Tabl} (Fu : Fun K "_law_other_paths" "_law_other_paths" s_l_other_paths f fd) (T : Txt K w mg) (I_l_draw : FnX M P w K mg base (lv k) "_law_draw" 2 (ck.f .l_draw)) (I_l_pick : FnX M P w K mg base (lv k) "_law_pick" 2 (ck.f .l_pick)) :
    FnOk P w K mg base (M.CX P w) (lv k + 1) f fd ["_law_source_here", "_law_path"] (spM K 2 (f_l_other_paths ck)) :=
  have nd := sc_l_other_paths.nd
  fnx_ok (M := M) (g := b_l_other_paths ck) Fu sc_l_other_paths rfl (fun _ _ _ => rfl) fun cdv A outer s H E hr W tk hp =>
    (jb_cons (js_set 2 nd (jx_call I_l_draw hr (Nat.le_refl _) tk (ja_cons (j_var 0) (ja_cons (j_op op_addA om_add (je_callB cr_len cm_len T.b_len PySem.boot_len (ja_cons (j_var 1) ja_nil)) j_int) ja_nil)) (hlen := (mCons_len (mCons_len mNil_len)))))
    (jb_cons (js_set 3 nd (jx_call I_l_pick hr (Nat.le_refl _) tk (ja_cons (j_var 0) (ja_cons (je_lst (ja_cons (je_neg j_int) (ja_cons j_int (ja_cons j_int (ja_cons (j_op op_powW om_pow j_int j_int) (ja_cons j_bl (ja_cons j_str (ja_cons j_non (ja_cons (je_tup ja_nil) (ja_cons j_int (ja_cons j_int (ja_cons j_int ja_nil)))))))))))) ja_nil)) (hlen := (mCons_len (mCons_len mNil_len)))))
    (jb_cons (js_set 4 nd (je_lst (ja_cons (j_op op_addA om_add (j_op op_addA om_add (je_sl (j_var 1) jo_no (jo_end (j_var 2))) (je_tup (ja_cons (j_var 3) ja_nil))) (je_sl (j_var 1) (jo_end (j_op op_addA om_add (j_var 2) j_int)) jo_no)) (ja_cons (j_op op_addA om_add (j_op op_addA om_add (je_sl (j_var 1) jo_no (jo_end (j_var 2))) (je_tup (ja_cons (j_var 3) ja_nil))) (je_sl (j_var 1) (jo_end (j_var 2)) jo_no)) ja_nil))))
    (jb_cons (js_set 4 nd (j_op op_addA om_add (j_var 4) (je_lst (ja_cons (j_op op_addA om_add (j_op op_addA om_add (je_sl (j_var 1) jo_no (jo_end (j_var 2))) (je_tup (ja_cons (je_lst (ja_cons j_int ja_nil)) ja_nil))) (je_sl (j_var 1) (jo_end (j_op op_addA om_add (j_var 2) j_int)) jo_no)) (ja_cons (j_op op_addA om_add (je_sl (j_var 1) jo_no (jo_end (j_var 2))) (je_tup (ja_cons je_dnew ja_nil))) (ja_cons (j_op op_addA om_add (j_var 1) (je_tup (ja_cons (je_lst ja_nil) ja_nil))) ja_nil))))))
    (jb_one (js_ret (j_op op_addA om_add (j_var 4) (je_lst (ja_cons (je_callTy (cr_listA rfl) cm_listA T.b_list (by decide +kernel) (ja_cons (j_var 1) ja_nil)) (ja_cons j_non (ja_cons j_int (ja_cons j_str (ja_cons (je_sl (j_var 1) jo_no (jo_end (je_neg j_int))) ja_nil)))))))))))))
abbrev s_law : Stmt := topS 81
theorem sc_law : FnScope ["_law_script", "_law_source_here", "_law_turn", "_law_expr_here", "_law_value", "_law_pairs", "_law_known", "_law_parts_here", "_law_path", "_law_part", "_law_other", "_law_found", "_law_bad"] ["_law_script"] (defScope s_law) := ⟨rfl, rfl, rfl, by decide +kernel, rfl, by decide +kernel, by decide +kernel⟩
noncomputable def b_law (ck : Tabl) (h : Nat → Tabl) (k : Nat) : MS := (mSeq (mAsg (mCall (ck.f .l_source) (mCons (mVar 0) mNil)) (nName 1))
    (mSeq (mFor (mRng (mCons (mC (.int 20)) mNil)) (nName 2)
    (mSeq (mAsg (mCall (ck.f .l_any_expr) (mCons (mVar 1) mNil)) (nName 3))
    (mSeq (mAsg (mPos k (mCall (gMake "Expr" ((h (k - 1)).f .i_Expr)) (mCons (mVar 3) mNil))) (nName 4))
    (mSeq (mAsg (mCall (ck.f .l_paths) (mCons (mVar 3) mNil)) (nName 5))
    (mSeq (mAsg (mLc (mAnyI (mVar 5)) (ngTup 2 (ngCons (ngName 8) (ngCons (ngName 9) ngNil))) mYes (mVar 8) [9, 8]) (nName 6))
    (mSeq (mAsg (mCall (ck.f .l_parts) (mCons (mVar 3) mNil)) (nName 7))
    (mSeq (mFor (mAnyI (mVar 5)) (nTup 2 (nCons (nName 8) (nCons (nName 9) nNil)))
    (mSeq (mAsg (mPos k (mGetO "Expr" ((h (k - 1)).f .m_Expr___getitem__) (mVar 4) (mVar 8))) (nName 11))
    (mIfS (mOrT (mNotT (mTru (mIso po_Expr (mVar 11)))) (mOrT (mB (mBin (gEqA true) (mPos k (mProp "Expr" ((h (k - 1)).f .p_Expr_data) (mVar 11))) (mVar 9))) (mB (mBin (gInO true "Expr" (ck.f .m_Expr___contains__)) (mPos k (mCall (gMake "Expr" ((h (k - 1)).f .i_Expr)) (mCons (mVar 9) mNil))) (mVar 4)))))
    (mRet (mC (.bl false)))
    mSkip)))
    (mSeq (mFor (mAnyI (mCall (ck.f .l_other_paths) (mCons (mVar 1) (mCons (mCall (ck.f .l_pick) (mCons (mVar 1) (mCons (mVar 6) mNil))) mNil)))) (nName 8)
    (mSeq (mAsg (mOr (mNot (mIsi "tuple" (mVar 8))) (mBin gNeE (mLc (mAnyI (mVar 8)) (ngName 9) (mTru (mIsi "bool" (mVar 9))) (mVar 9) [9]) (mLst mNil))) (nName 12))
    (mIfS (mOrT (mTru (mVar 12)) (mB (mBin (gInQ true) (mVar 8) (mVar 6))))
    (mIfS (mNotT (mTru (mCall (ck.f .l_refused) (mCons (mVar 4) (mCons (mVar 8) mNil)))))
    (mRet (mC (.bl false)))
    mSkip)
    mSkip)))
    (mSeq (mAsg (mCall (ck.f .l_expr) (mCons (mVar 1) (mCons (mLst (mCons (mC (.int 7)) (mCons (mC (.int 1)) mNil))) (mCons (mC (.int 4)) mNil)))) (nName 10))
    (mSeq (mIfS (mOrT (mB (mBin (gEqA true) (mBin (gInO false "Expr" (ck.f .m_Expr___contains__)) (mPos k (mCall (gMake "Expr" ((h (k - 1)).f .i_Expr)) (mCons (mVar 10) mNil))) (mVar 4)) (mBin (gInQ false) (mVar 10) (mVar 7)))) (mB (mBin (gEqA true) (mBin (gInO false "Expr" (ck.f .m_Expr___contains__)) (mVar 4) (mPos k (mCall (gMake "Expr" ((h (k - 1)).f .i_Expr)) (mCons (mVar 10) mNil)))) (mBin (gInQ false) (mVar 3) (mCall (ck.f .l_parts) (mCons (mVar 10) mNil))))))
    (mRet (mC (.bl false)))
    mSkip)
    (mIfS (mOrT (mB (mBin (gInO false "Expr" (ck.f .m_Expr___contains__)) (mVar 3) (mVar 4))) (mOrT (mB (mBin (gInO false "Expr" (ck.f .m_Expr___contains__)) (mC .non) (mVar 4))) (mB (mBin (gInO false "Expr" (ck.f .m_Expr___contains__)) (mC (.str "a")) (mVar 4)))))
    (mRet (mC (.bl false)))
    mSkip)))))))))))
    (mRet (mC (.bl true)))))
noncomputable def f_law (ck : Tabl) (h : Nat → Tabl) (k : Nat) : MF := fun ds m => endOf (b_law ck h k (startM 13 ds) m)
theorem ok_law {M : Mode} {P : Program} {w : World} {K : PySem.W.Frag} {mg : Str → Option Value} {base : Heap} {k : Nat} {f : Addr} {fd : FuncData} {ck : Tabl} {h : Nat → Tabl} (Fu : Fun K "law" "law" s_law f fd) (T : Txt K w mg) (I_l_any_expr : FnX M P w K mg base (lv k) "_law_any_expr" 1 (ck.f .l_any_expr)) (I_l_expr : FnX M P w K mg base (lv k) "_law_expr" 3 (ck.f .l_expr)) (I_l_other_paths : FnX M P w K mg base (lv k) "_law_other_paths" 2 (ck.f .l_other_paths)) (I_l_parts : FnX M P w K mg base (lv k) "_law_parts" 1 (ck.f .l_parts)) (I_l_paths : FnX M P w K mg base (lv k) "_law_paths" 1 (ck.f .l_paths)) (I_l_pick : FnX M P w K mg base (lv k) "_law_pick" 2 (ck.f .l_pick)) (I_l_refused : FnX M P w K mg base (lv k) "_law_refused" 2 (ck.f .l_refused)) (I_l_source : FnX M P w K mg base (lv k) "_law_source" 1 (ck.f .l_source)) (I_m_Expr___contains__ : SpcX M P w K mg base (lv k) "Expr" "__contains__" 1 (ck.f .m_Expr___contains__)) (IS_i_Expr : ∀ j, j < k → MkX M P w K mg base (lv j) "Expr" 1 ((h j).f .i_Expr)) (IS_m_Expr___getitem__ : ∀ j, j < k → SpcX M P w K mg base (lv j) "Expr" "__getitem__" 1 ((h j).f .m_Expr___getitem__)) (IS_p_Expr_data : ∀ j, j < k → PrpX M P w K mg base (lv j) "Expr" "data" ((h j).f .p_Expr_data)) :
    FnOk P w K mg base (M.CX P w) (lv k + 1) f fd ["_law_script"] (spM K 1 (f_law ck h k)) :=
  have nd := sc_law.nd
  fnx_ok (M := M) (g := b_law ck h k) Fu sc_law rfl (fun _ _ _ => rfl) fun cdv A outer s H E hr W tk hp =>
    (jb_cons (js_set 1 nd (jx_call I_l_source hr (Nat.le_refl _) tk (ja_cons (j_var 0) ja_nil) (hlen := (mCons_len mNil_len))))
    (jb_cons (js_for hp rfl (ji_rng1 T.b_range (ja_cons j_int ja_nil)) (jg_name 2 nd)
    (jb_cons (js_set 3 nd (jx_call I_l_any_expr hr (Nat.le_refl _) tk (ja_cons (j_var 1) ja_nil) (hlen := (mCons_len mNil_len))))
    (jb_cons (js_set 4 nd (je_pos (k := k) fun pos_ => jx_make (IS_i_Expr (k - 1) (by omega)) hr (lv_pos pos_) (ja_cons (j_var 3) ja_nil) (hlen := (mCons_len mNil_len))))
    (jb_cons (js_set 5 nd (jx_call I_l_paths hr (Nat.le_refl _) tk (ja_cons (j_var 3) ja_nil) (hlen := (mCons_len mNil_len))))
    (jb_cons (js_setLc 6 [("_law_part", 9), ("_law_path", 8)] rfl rfl nd (ji_any (j_var 5)) (blkOk_by (N := ["_law_script", "_law_source_here", "_law_turn", "_law_expr_here", "_law_value", "_law_pairs", "_law_known", "_law_parts_here", "_law_path", "_law_part", "_law_other", "_law_found", "_law_bad"]) (sc := defScope s_law) (by decide +kernel)) (fun _ _ _ _ _ => (jn_tup rfl (jn_cons (jn_name 8 nd) (jn_cons (jn_name 9 nd) jn_nil)))) (fun _ _ _ _ _ => jts_nil) (fun _ _ _ _ _ => (j_var 8)) (by (first | exact MI.wr_tup (MI.wr_cons (MI.wr_name (by decide)) (MI.wr_cons (MI.wr_name (by decide)) MI.wr_nil)) | exact MI.wr_tup (MI.wr_cons (MI.wr_name (by decide)) (MI.wr_cons (MI.wr_name (by decide)) (MI.wr_cons (MI.wr_name (by decide)) MI.wr_nil))))))
    (jb_cons (js_set 7 nd (jx_call I_l_parts hr (Nat.le_refl _) tk (ja_cons (j_var 3) ja_nil) (hlen := (mCons_len mNil_len))))
    (jb_cons (js_for hp rfl (ji_any (j_var 5)) (jg_tup rfl (jgs_cons (jg_name 8 nd) (jgs_cons (jg_name 9 nd) jgs_nil)))
    (jb_cons (js_set 11 nd (je_pos (k := k) fun pos_ => jx_getown (IS_m_Expr___getitem__ (k - 1) (by omega)) hr (lv_pos pos_) tk (j_var 4) (j_var 8)))
    (jb_one (js_if (jw_or (jt_not (jt_tru (je_iso (j_var 11) T.o_Expr T.b_isinstance))) (jw_or (jt_cmp (op_neA (hu64 hr)) om_neA (je_pos (k := k) fun pos_ => jx_prop (IS_p_Expr_data (k - 1) (by omega)) hr (lv_pos pos_) (j_var 11)) (j_var 9)) (jw_or1 (jtx_ninO I_m_Expr___contains__ hr (Nat.le_refl _) (je_pos (k := k) fun pos_ => jx_make (IS_i_Expr (k - 1) (by omega)) hr (lv_pos pos_) (ja_cons (j_var 9) ja_nil) (hlen := (mCons_len mNil_len))) (j_var 4))))).jt
    (jb_one (js_ret j_bl))
    jb_nil))))
    (jb_cons (js_for hp rfl (ji_any (jx_call I_l_other_paths hr (Nat.le_refl _) tk (ja_cons (j_var 1) (ja_cons (jx_call I_l_pick hr (Nat.le_refl _) tk (ja_cons (j_var 1) (ja_cons (j_var 6) ja_nil)) (hlen := (mCons_len (mCons_len mNil_len)))) ja_nil)) (hlen := (mCons_len (mCons_len mNil_len))))) (jg_name 8 nd)
    (jb_cons (js_set 12 nd (je_or (je_not (je_isi "tuple" (j_var 8) T.b_isinstance T.b_tuple (by decide +kernel))) (je_one (j_cmp (op_neE (hu0 hr)) om_neE (je_lc [("_law_part", 9)] rfl rfl nd (ji_any (j_var 8)) (blkOk_by (N := ["_law_script", "_law_source_here", "_law_turn", "_law_expr_here", "_law_value", "_law_pairs", "_law_known", "_law_parts_here", "_law_path", "_law_part", "_law_other", "_law_found", "_law_bad"]) (sc := defScope s_law) (by decide +kernel)) (fun _ _ _ _ _ => (jn_name 9 nd)) (fun _ _ _ _ _ => (jts_one (jt_tru (je_isi "bool" (j_var 9) T.b_isinstance T.b_bool (by decide +kernel))))) (fun _ _ _ _ _ => (j_var 9)) (hgs_name)) (je_lst ja_nil)))))
    (jb_one (js_if (jw_or (jt_tru (j_var 12)) (jw_or1 (jt_ninQ (hu1 hr) (hu65 hr) (j_var 8) (j_var 6)))).jt
    (jb_one (js_if (jt_not (jt_tru (jx_call I_l_refused hr (Nat.le_refl _) tk (ja_cons (j_var 4) (ja_cons (j_var 8) ja_nil)) (hlen := (mCons_len (mCons_len mNil_len))))))
    (jb_one (js_ret j_bl))
    jb_nil))
    jb_nil))))
    (jb_cons (js_set 10 nd (jx_call I_l_expr hr (Nat.le_refl _) tk (ja_cons (j_var 1) (ja_cons (je_lst (ja_cons j_int (ja_cons j_int ja_nil))) (ja_cons j_int ja_nil))) (hlen := (mCons_len (mCons_len (mCons_len mNil_len))))))
    (jb_cons (js_if (jw_or (jt_cmp (op_neA (hu64 hr)) om_neA (jx_inO I_m_Expr___contains__ hr (Nat.le_refl _) (je_pos (k := k) fun pos_ => jx_make (IS_i_Expr (k - 1) (by omega)) hr (lv_pos pos_) (ja_cons (j_var 10) ja_nil) (hlen := (mCons_len mNil_len))) (j_var 4)) (je_inQ (hu1 hr) (hu65 hr) (j_var 10) (j_var 7))) (jw_or1 (jt_cmp (op_neA (hu64 hr)) om_neA (jx_inO I_m_Expr___contains__ hr (Nat.le_refl _) (j_var 4) (je_pos (k := k) fun pos_ => jx_make (IS_i_Expr (k - 1) (by omega)) hr (lv_pos pos_) (ja_cons (j_var 10) ja_nil) (hlen := (mCons_len mNil_len)))) (je_inQ (hu1 hr) (hu65 hr) (j_var 3) (jx_call I_l_parts hr (Nat.le_refl _) tk (ja_cons (j_var 10) ja_nil) (hlen := (mCons_len mNil_len))))))).jt
    (jb_one (js_ret j_bl))
    jb_nil)
    (jb_one (js_if (jw_or (jtx_inO I_m_Expr___contains__ hr (Nat.le_refl _) (j_var 3) (j_var 4)) (jw_or (jtx_inO I_m_Expr___contains__ hr (Nat.le_refl _) j_non (j_var 4)) (jw_or1 (jtx_inO I_m_Expr___contains__ hr (Nat.le_refl _) j_str (j_var 4))))).jt
    (jb_one (js_ret j_bl))
    jb_nil))))))))))))
    (jb_one (js_ret j_bl))))
abbrev s_i_Expr : Stmt := clsS (topS 65) 0
theorem sc_i_Expr : FnScope ["self", "data"] ["self", "data"] (defScope s_i_Expr) := ⟨rfl, rfl, rfl, by decide +kernel, rfl, by decide +kernel, by decide +kernel⟩
noncomputable def b_i_Expr (ck : Tabl) : MS := (mSeq (mDrop (mCall (ck.f .check_expression) (mCons (mVar 1) mNil)))
    (mFldS pf__data "_data" (mVar 0) (mVar 1)))
noncomputable def f_i_Expr (ck : Tabl) : MF := fun ds m => endOf (b_i_Expr ck (startM 2 ds) m)
theorem ok_i_Expr {M : Mode} {P : Program} {w : World} {K : PySem.W.Frag} {mg : Str → Option Value} {base : Heap} {k : Nat} {f : Addr} {fd : FuncData} {ck : Tabl} (Fu : Fun K "__init__" "Expr.__init__" s_i_Expr f fd) (T : Txt K w mg) (I_check_expression : FnX M P w K mg base (lv k) "check_expression" 1 (ck.f .check_expression)) :
    FnOk P w K mg base (M.CX P w) (lv k + 1) f fd ["self", "data"] (spM K 2 (f_i_Expr ck)) :=
  have nd := sc_i_Expr.nd
  fnx_ok (M := M) (g := b_i_Expr ck) Fu sc_i_Expr rfl (fun _ _ _ => rfl) fun cdv A outer s H E hr W tk hp =>
    (jb_cons (js_expr (jx_call I_check_expression hr (Nat.le_refl _) tk (ja_cons (j_var 1) ja_nil) (hlen := (mCons_len mNil_len))))
    (jb_one (js_fld (j_var 0) (j_var 1) T.f__data)))
abbrev s_p_Expr_data : Stmt := clsS (topS 65) 5
theorem sc_p_Expr_data : FnScope ["self"] ["self"] (defScope s_p_Expr_data) := ⟨rfl, rfl, rfl, by decide +kernel, rfl, by decide +kernel, by decide +kernel⟩
noncomputable def b_p_Expr_data (ck : Tabl) : MS := (mRet (mFld pf__data "_data" (mVar 0)))
noncomputable def f_p_Expr_data (ck : Tabl) : MF := fun ds m => endOf (b_p_Expr_data ck (startM 1 ds) m)
theorem ok_p_Expr_data {M : Mode} {P : Program} {w : World} {K : PySem.W.Frag} {mg : Str → Option Value} {base : Heap} {k : Nat} {f : Addr} {fd : FuncData} {ck : Tabl} (Fu : Fun K "data" "Expr.data" s_p_Expr_data f fd) (T : Txt K w mg) :
    FnOk P w K mg base (M.CX P w) (lv k + 1) f fd ["self"] (spM K 1 (f_p_Expr_data ck)) :=
  have nd := sc_p_Expr_data.nd
  fnx_ok (M := M) (g := b_p_Expr_data ck) Fu sc_p_Expr_data rfl (fun _ _ _ => rfl) fun cdv A outer s H E hr W tk hp =>
    (jb_one (js_ret (je_fld (j_var 0) T.f__data)))
abbrev s_m_Expr___contains__ : Stmt := clsS (topS 65) 25
theorem sc_m_Expr___contains__ : FnScope ["self", "part"] ["self", "part"] (defScope s_m_Expr___contains__) := ⟨rfl, rfl, rfl, by decide +kernel, rfl, by decide +kernel, by decide +kernel⟩
noncomputable def b_m_Expr___contains__ (ck : Tabl) : MS := (mRet (mAnd (mIso po_Expr (mVar 1)) (mBin (gInB false) (mFld pf__data "_data" (mVar 1)) (mCall (ck.f .all_parts) (mCons (mFld pf__data "_data" (mVar 0)) mNil)))))
noncomputable def f_m_Expr___contains__ (ck : Tabl) : MF := fun ds m => endOf (b_m_Expr___contains__ ck (startM 2 ds) m)
theorem ok_m_Expr___contains__ {M : Mode} {P : Program} {w : World} {K : PySem.W.Frag} {mg : Str → Option Value} {base : Heap} {k : Nat} {f : Addr} {fd : FuncData} {ck : Tabl} (Fu : Fun K "__contains__" "Expr.__contains__" s_m_Expr___contains__ f fd) (T : Txt K w mg) (I_all_parts : FnX M P w K mg base (lv k) "all_parts" 1 (ck.f .all_parts)) :
    FnOk P w K mg base (M.CX P w) (lv k + 1) f fd ["self", "part"] (spM K 2 (f_m_Expr___contains__ ck)) :=
  have nd := sc_m_Expr___contains__.nd
  fnx_ok (M := M) (g := b_m_Expr___contains__ ck) Fu sc_m_Expr___contains__ rfl (fun _ _ _ => rfl) fun cdv A outer s H E hr W tk hp =>
    (jb_one (js_ret (je_and (je_iso (j_var 1) T.o_Expr T.b_isinstance) (je_one (je_inB (hu1 hr) (hu65 hr) (je_fld (j_var 1) T.f__data) (jx_call I_all_parts hr (Nat.le_refl _) tk (ja_cons (je_fld (j_var 0) T.f__data) ja_nil) (hlen := (mCons_len mNil_len))))))))
abbrev s_m_Expr___getitem__ : Stmt := clsS (topS 65) 26
theorem sc_m_Expr___getitem__ : FnScope ["self", "path"] ["self", "path"] (defScope s_m_Expr___getitem__) := ⟨rfl, rfl, rfl, by decide +kernel, rfl, by decide +kernel, by decide +kernel⟩
noncomputable def b_m_Expr___getitem__ (ck : Tabl) (h : Nat → Tabl) (k : Nat) : MS := (mRet (mPos k (mCall (gMake "Expr" ((h (k - 1)).f .i_Expr)) (mCons (mCall (ck.f .part_at) (mCons (mFld pf__data "_data" (mVar 0)) (mCons (mVar 1) mNil))) mNil))))
noncomputable def f_m_Expr___getitem__ (ck : Tabl) (h : Nat → Tabl) (k : Nat) : MF := fun ds m => endOf (b_m_Expr___getitem__ ck h k (startM 2 ds) m)
theorem ok_m_Expr___getitem__ {M : Mode} {P : Program} {w : World} {K : PySem.W.Frag} {mg : Str → Option Value} {base : Heap} {k : Nat} {f : Addr} {fd : FuncData} {ck : Tabl} {h : Nat → Tabl} (Fu : Fun K "__getitem__" "Expr.__getitem__" s_m_Expr___getitem__ f fd) (T : Txt K w mg) (I_part_at : FnX M P w K mg base (lv k) "part_at" 2 (ck.f .part_at)) (IS_i_Expr : ∀ j, j < k → MkX M P w K mg base (lv j) "Expr" 1 ((h j).f .i_Expr)) :
    FnOk P w K mg base (M.CX P w) (lv k + 1) f fd ["self", "path"] (spM K 2 (f_m_Expr___getitem__ ck h k)) :=
  have nd := sc_m_Expr___getitem__.nd
  fnx_ok (M := M) (g := b_m_Expr___getitem__ ck h k) Fu sc_m_Expr___getitem__ rfl (fun _ _ _ => rfl) fun cdv A outer s H E hr W tk hp =>
    (jb_one (js_ret (je_pos (k := k) fun pos_ => jx_make (IS_i_Expr (k - 1) (by omega)) hr (lv_pos pos_) (ja_cons (jx_call I_part_at hr (Nat.le_refl _) tk (ja_cons (je_fld (j_var 0) T.f__data) (ja_cons (j_var 1) ja_nil)) (hlen := (mCons_len (mCons_len mNil_len)))) ja_nil) (hlen := (mCons_len mNil_len)))))
structure Defs (K : PySem.W.Frag) (mg : Str → Option Value) : Prop where
  is_integer : DefAt K mg "is_integer" s_is_integer ["value"]
  is_name : DefAt K mg "is_name" s_is_name ["value"]
  check_expression : DefAt K mg "check_expression" s_check_expression ["expr"]
  u_has_form : DefAt K mg "_has_form" s_u_has_form ["value"]
  u_is_tuple : DefAt K mg "_is_tuple" s_u_is_tuple ["value", "least", "most"]
  u_are_links : DefAt K mg "_are_links" s_u_are_links ["values"]
  operands : DefAt K mg "operands" s_operands ["expr"]
  all_parts : DefAt K mg "all_parts" s_all_parts ["expr"]
  u_own_places : DefAt K mg "_own_places" s_u_own_places ["expr"]
  part_at : DefAt K mg "part_at" s_part_at ["expr", "path"]
  l_source : DefAt K mg "_law_source" s_l_source ["_law_script"]
  l_draw : DefAt K mg "_law_draw" s_l_draw ["_law_source_here", "_law_limit"]
  l_pick : DefAt K mg "_law_pick" s_l_pick ["_law_source_here", "_law_values"]
  l_leaf : DefAt K mg "_law_leaf" s_l_leaf ["_law_source_here", "_law_room"]
  l_seen_part : DefAt K mg "_law_seen_part" s_l_seen_part ["_law_source_here", "_law_room", "_law_deep"]
  l_expr : DefAt K mg "_law_expr" s_l_expr ["_law_source_here", "_law_room", "_law_deep"]
  l_any_expr : DefAt K mg "_law_any_expr" s_l_any_expr ["_law_source_here"]
  l_operands : DefAt K mg "_law_operands" s_l_operands ["_law_expr_here"]
  l_parts : DefAt K mg "_law_parts" s_l_parts ["_law_expr_here"]
  l_paths : DefAt K mg "_law_paths" s_l_paths ["_law_expr_here"]
  l_refused : DefAt K mg "_law_refused" s_l_refused ["_law_value", "_law_path"]
  l_other_paths : DefAt K mg "_law_other_paths" s_l_other_paths ["_law_source_here", "_law_path"]
  law : DefAt K mg "law" s_law ["_law_script"]
  i_Expr : IniAt K mg "Expr" "Expr.__init__" s_i_Expr ["self", "data"]
  p_Expr_data : PrpAt K "Expr" "data" "Expr.data" s_p_Expr_data ["self"]
  m_Expr___contains__ : MthAt K "Expr" "__contains__" "Expr.__contains__" s_m_Expr___contains__ ["self", "part"]
  m_Expr___getitem__ : MthAt K "Expr" "__getitem__" "Expr.__getitem__" s_m_Expr___getitem__ ["self", "path"]
structure Bas (K : PySem.W.Frag) (mg : Str → Option Value) (base : Heap) : Prop where
noncomputable def bodyF (ck : Tabl) (h : Nat → Tabl) (k : Nat) : Fnm → MF
  | .is_integer => f_is_integer ck
  | .is_name => f_is_name ck
  | .check_expression => f_check_expression ck
  | .u_has_form => f_u_has_form ck
  | .u_is_tuple => f_u_is_tuple ck
  | .u_are_links => f_u_are_links ck
  | .operands => f_operands ck
  | .all_parts => f_all_parts ck
  | .u_own_places => f_u_own_places ck
  | .part_at => f_part_at ck
  | .l_source => f_l_source ck
  | .l_draw => f_l_draw ck
  | .l_pick => f_l_pick ck
  | .l_leaf => f_l_leaf ck
  | .l_seen_part => f_l_seen_part ck
  | .l_expr => f_l_expr ck
  | .l_any_expr => f_l_any_expr ck
  | .l_operands => f_l_operands ck
  | .l_parts => f_l_parts ck
  | .l_paths => f_l_paths ck
  | .l_refused => f_l_refused ck h k
  | .l_other_paths => f_l_other_paths ck
  | .law => f_law ck h k
  | .i_Expr => f_i_Expr ck
  | .p_Expr_data => f_p_Expr_data ck
  | .m_Expr___contains__ => f_m_Expr___contains__ ck
  | .m_Expr___getitem__ => f_m_Expr___getitem__ ck h k
  | _ => fun _ _ => .stuck
noncomputable def bodyC (ck : Tabl) (h : Nat → Tabl) (k : Nat) : Fnm → (Nat → MF) → MF
  | _ => fun _ _ _ => .stuck
def noTab : Tabl := ⟨fun _ _ _ => .stuck, fun _ _ _ _ => .stuck⟩
noncomputable def PT : Nat → Tabl × (Nat → Tabl) := fun k => Nat.rec (noTab, fun _ => noTab) (fun k p => (⟨bodyF p.1 (fun j => if j = k then p.1 else p.2 j) k, bodyC p.1 (fun j => if j = k then p.1 else p.2 j) k⟩, fun j => if j = k then p.1 else p.2 j)) k
noncomputable def Tab (k : Nat) : Tabl := (PT k).1
noncomputable def Hk (k : Nat) : Nat → Tabl := (PT (k + 1)).2
theorem Hk_eq : ∀ {k j : Nat}, j ≤ k → Hk k j = Tab j
  | k, j, h => by
    show (if j = k then Tab k else (PT k).2 j) = Tab j
    by_cases e : j = k
    · rw [if_pos e, e]
    · rw [if_neg e]
      cases k with
      | zero => exact absurd (Nat.le_zero.mp h) e
      | succ k => exact Hk_eq (k := k) (by omega)
structure OkN (M : Mode) (P : Program) (w : World) (K : PySem.W.Frag) (mg : Str → Option Value) (base : Heap) (k : Nat) : Prop where
  is_integer : FnX M P w K mg base (lv k) "is_integer" 1 ((Tab k).f .is_integer)
  is_name : FnX M P w K mg base (lv k) "is_name" 1 ((Tab k).f .is_name)
  check_expression : FnX M P w K mg base (lv k) "check_expression" 1 ((Tab k).f .check_expression)
  u_has_form : FnX M P w K mg base (lv k) "_has_form" 1 ((Tab k).f .u_has_form)
  u_is_tuple : FnX M P w K mg base (lv k) "_is_tuple" 3 ((Tab k).f .u_is_tuple)
  u_are_links : FnX M P w K mg base (lv k) "_are_links" 1 ((Tab k).f .u_are_links)
  operands : FnX M P w K mg base (lv k) "operands" 1 ((Tab k).f .operands)
  all_parts : FnX M P w K mg base (lv k) "all_parts" 1 ((Tab k).f .all_parts)
  u_own_places : FnX M P w K mg base (lv k) "_own_places" 1 ((Tab k).f .u_own_places)
  part_at : FnX M P w K mg base (lv k) "part_at" 2 ((Tab k).f .part_at)
  l_source : FnX M P w K mg base (lv k) "_law_source" 1 ((Tab k).f .l_source)
  l_draw : FnX M P w K mg base (lv k) "_law_draw" 2 ((Tab k).f .l_draw)
  l_pick : FnX M P w K mg base (lv k) "_law_pick" 2 ((Tab k).f .l_pick)
  l_leaf : FnX M P w K mg base (lv k) "_law_leaf" 2 ((Tab k).f .l_leaf)
  l_seen_part : FnX M P w K mg base (lv k) "_law_seen_part" 3 ((Tab k).f .l_seen_part)
  l_expr : FnX M P w K mg base (lv k) "_law_expr" 3 ((Tab k).f .l_expr)
  l_any_expr : FnX M P w K mg base (lv k) "_law_any_expr" 1 ((Tab k).f .l_any_expr)
  l_operands : FnX M P w K mg base (lv k) "_law_operands" 1 ((Tab k).f .l_operands)
  l_parts : FnX M P w K mg base (lv k) "_law_parts" 1 ((Tab k).f .l_parts)
  l_paths : FnX M P w K mg base (lv k) "_law_paths" 1 ((Tab k).f .l_paths)
  l_other_paths : FnX M P w K mg base (lv k) "_law_other_paths" 2 ((Tab k).f .l_other_paths)
  i_Expr : MkX M P w K mg base (lv k) "Expr" 1 ((Tab k).f .i_Expr)
  p_Expr_data : PrpX M P w K mg base (lv k) "Expr" "data" ((Tab k).f .p_Expr_data)
  m_Expr___contains__ : SpcX M P w K mg base (lv k) "Expr" "__contains__" 1 ((Tab k).f .m_Expr___contains__)
  m_Expr___getitem__ : SpcX M P w K mg base (lv k) "Expr" "__getitem__" 1 ((Tab k).f .m_Expr___getitem__)
theorem ok0 (M : Mode) {P : Program} {w : World} {K : PySem.W.Frag} {mg : Str → Option Value} {base : Heap} (D : Defs K mg) : OkN M P w K mg base 0 :=
  ⟨D.is_integer.fn0 rfl, D.is_name.fn0 rfl, D.check_expression.fn0 rfl, D.u_has_form.fn0 rfl, D.u_is_tuple.fn0 rfl, D.u_are_links.fn0 rfl, D.operands.fn0 rfl, D.all_parts.fn0 rfl, D.u_own_places.fn0 rfl, D.part_at.fn0 rfl, D.l_source.fn0 rfl, D.l_draw.fn0 rfl, D.l_pick.fn0 rfl, D.l_leaf.fn0 rfl, D.l_seen_part.fn0 rfl, D.l_expr.fn0 rfl, D.l_any_expr.fn0 rfl, D.l_operands.fn0 rfl, D.l_parts.fn0 rfl, D.l_paths.fn0 rfl, D.l_other_paths.fn0 rfl, D.i_Expr.mk0 rfl, D.p_Expr_data.pr0 rfl, D.m_Expr___contains__.sp0 rfl, D.m_Expr___getitem__.sp0 rfl⟩
theorem okS (M : Mode) {P : Program} {w : World} {K : PySem.W.Frag} {mg : Str → Option Value} {base : Heap} (D : Defs K mg) (T : Txt K w mg) (B : Bas K mg base) {k : Nat} (hs : ∀ j, j ≤ k → OkN M P w K mg base j) : OkN M P w K mg base (k + 1) :=
    have h := hs k (Nat.le_refl k)
    ⟨D.is_integer.fnx fun f fd Fu => ok_is_integer (M := M) (ck := Tab k) Fu T,
     D.is_name.fnx fun f fd Fu => ok_is_name (M := M) (ck := Tab k) Fu T,
     D.check_expression.fnx fun f fd Fu => ok_check_expression (M := M) (ck := Tab k) Fu T h.u_has_form h.u_own_places h.operands,
     D.u_has_form.fnx fun f fd Fu => ok_u_has_form (M := M) (ck := Tab k) Fu T h.u_are_links h.u_is_tuple h.is_name,
     D.u_is_tuple.fnx fun f fd Fu => ok_u_is_tuple (M := M) (ck := Tab k) Fu T,
     D.u_are_links.fnx fun f fd Fu => ok_u_are_links (M := M) (ck := Tab k) Fu T h.u_is_tuple,
     D.operands.fnx fun f fd Fu => ok_operands (M := M) (ck := Tab k) Fu T,
     D.all_parts.fnx fun f fd Fu => ok_all_parts (M := M) (ck := Tab k) Fu T h.all_parts h.operands,
     D.u_own_places.fnx fun f fd Fu => ok_u_own_places (M := M) (ck := Tab k) Fu T,
     D.part_at.fnx fun f fd Fu => ok_part_at (M := M) (ck := Tab k) Fu T h.is_integer h.operands,
     D.l_source.fnx fun f fd Fu => ok_l_source (M := M) (ck := Tab k) Fu T,
     D.l_draw.fnx fun f fd Fu => ok_l_draw (M := M) (ck := Tab k) Fu T,
     D.l_pick.fnx fun f fd Fu => ok_l_pick (M := M) (ck := Tab k) Fu T h.l_draw,
     D.l_leaf.fnx fun f fd Fu => ok_l_leaf (M := M) (ck := Tab k) Fu T h.l_draw h.l_pick,
     D.l_seen_part.fnx fun f fd Fu => ok_l_seen_part (M := M) (ck := Tab k) Fu T h.l_draw h.l_expr h.l_pick,
     D.l_expr.fnx fun f fd Fu => ok_l_expr (M := M) (ck := Tab k) Fu T h.l_draw h.l_expr h.l_leaf h.l_pick h.l_seen_part,
     D.l_any_expr.fnx fun f fd Fu => ok_l_any_expr (M := M) (ck := Tab k) Fu T h.l_draw h.l_expr h.l_pick,
     D.l_operands.fnx fun f fd Fu => ok_l_operands (M := M) (ck := Tab k) Fu T,
     D.l_parts.fnx fun f fd Fu => ok_l_parts (M := M) (ck := Tab k) Fu T h.l_operands h.l_parts,
     D.l_paths.fnx fun f fd Fu => ok_l_paths (M := M) (ck := Tab k) Fu T h.l_operands h.l_paths,
     D.l_other_paths.fnx fun f fd Fu => ok_l_other_paths (M := M) (ck := Tab k) Fu T h.l_draw h.l_pick,
     D.i_Expr.mkx fun f fd Fu => ok_i_Expr (M := M) (ck := Tab k) Fu T h.check_expression,
     D.p_Expr_data.prpx fun f fd Fu => ok_p_Expr_data (M := M) (ck := Tab k) Fu T,
     D.m_Expr___contains__.spcx fun f fd Fu => ok_m_Expr___contains__ (M := M) (ck := Tab k) Fu T h.all_parts,
     D.m_Expr___getitem__.spcx fun f fd Fu => ok_m_Expr___getitem__ (M := M) (ck := Tab k) (h := Hk k) Fu T h.part_at (fun j hj => by rw [Hk_eq (Nat.le_of_lt hj)]; exact (hs j (Nat.le_of_lt hj)).i_Expr)⟩
theorem okA (M : Mode) {P : Program} {w : World} {K : PySem.W.Frag} {mg : Str → Option Value} {base : Heap} (D : Defs K mg) (T : Txt K w mg) (B : Bas K mg base) : ∀ k, ∀ j, j ≤ k → OkN M P w K mg base j
  | 0, j, h => by rw [Nat.le_zero.mp h]; exact ok0 M D
  | k + 1, j, h => by
    by_cases e : j = k + 1
    · rw [e]; exact okS M D T B (okA M D T B k)
    · exact okA M D T B k j (by omega)
theorem okN (M : Mode) {P : Program} {w : World} {K : PySem.W.Frag} {mg : Str → Option Value} {base : Heap} (D : Defs K mg) (T : Txt K w mg) (B : Bas K mg base) (k : Nat) : OkN M P w K mg base k := okA M D T B k k (Nat.le_refl k)
structure Ok2 (P : Program) (w : World) (K : PySem.W.Frag) (mg : Str → Option Value) (base : Heap) (k : Nat) : Prop where
  l_refused : FnX M2 P w K mg base (lv k) "_law_refused" 2 ((Tab k).f .l_refused)
  law : FnX M2 P w K mg base (lv k) "law" 1 ((Tab k).f .law)
theorem ok2 {P : Program} {w : World} {K : PySem.W.Frag} {mg : Str → Option Value} {base : Heap} (D : Defs K mg) (T : Txt K w mg) (B : Bas K mg base) : ∀ k, Ok2 P w K mg base k
  | 0 => ⟨D.l_refused.fn0 rfl, D.law.fn0 rfl⟩
  | k + 1 =>
    have h : Ok2 P w K mg base k := ok2 D T B k
    have g : OkN M2 P w K mg base k := okN M2 D T B k
    have gN : OkN MN P w K mg base k := okN MN D T B k
    have hs : ∀ j, j ≤ k → OkN M2 P w K mg base j := okA M2 D T B k
    have hsN : ∀ j, j ≤ k → OkN MN P w K mg base j := okA MN D T B k
    ⟨D.l_refused.fnx fun f fd Fu => ok_l_refused (ck := Tab k) (h := Hk k) Fu T (fun j hj => by rw [Hk_eq (Nat.le_of_lt hj)]; exact (hs j (Nat.le_of_lt hj)).m_Expr___getitem__),
     D.law.fnx fun f fd Fu => ok_law (M := M2) (ck := Tab k) (h := Hk k) Fu T g.l_any_expr g.l_expr g.l_other_paths g.l_parts g.l_paths g.l_pick h.l_refused g.l_source g.m_Expr___contains__ (fun j hj => by rw [Hk_eq (Nat.le_of_lt hj)]; exact (hs j (Nat.le_of_lt hj)).i_Expr) (fun j hj => by rw [Hk_eq (Nat.le_of_lt hj)]; exact (hs j (Nat.le_of_lt hj)).m_Expr___getitem__) (fun j hj => by rw [Hk_eq (Nat.le_of_lt hj)]; exact (hs j (Nat.le_of_lt hj)).p_Expr_data)⟩
theorem law_at {P : Program} {w : World} {K : PySem.W.Frag} {mg : Str → Option Value} (D : Defs K mg) (T : Txt K w mg) {cs : List (Addr × Addr)} (Bs : ∀ base : Heap, (∀ p ∈ cs, LamX.TabB base mg p.1 p.2) → Bas K mg base) (k : Nat) {fa : Addr} (h : mg "law" = some (.ref fa)) : ∃ fd : FuncData, (∀ (s : Shared) (u : Value), BindsTo s fd ⟨[u], []⟩ [("_law_script", u)]) ∧ ∀ base : Heap, (∀ p ∈ cs, LamX.TabB base mg p.1 p.2) → FnOk P w K mg base (L2.CX P w) (lv k + 1) fa fd ["_law_script"] (spM K 1 ((Tab (k + 1)).f .law)) := by
  obtain ⟨f, fd, Fu, h2, _, _⟩ := D.law.ex
  rw [h] at h2
  cases h2
  refine ⟨fd, fun s u => ?_, fun base tb => ?_⟩
  · obtain ⟨oc, od, kV, doc, pm, an, cdv, ct, osl, rfl, lk, hcd⟩ := Fu.ex
    exact .of_eq rfl
  · have B := Bs base tb
    have hs : ∀ j, j ≤ k → OkN M2 P w K mg base j := okA M2 D T B k
    exact ok_law (M := M2) (ck := Tab k) (h := Hk k) Fu T (okN M2 D T B k).l_any_expr (okN M2 D T B k).l_expr (okN M2 D T B k).l_other_paths (okN M2 D T B k).l_parts (okN M2 D T B k).l_paths (okN M2 D T B k).l_pick (ok2 D T B k).l_refused (okN M2 D T B k).l_source (okN M2 D T B k).m_Expr___contains__ (fun j hj => by rw [Hk_eq (Nat.le_of_lt hj)]; exact (okA M2 D T B k j (Nat.le_of_lt hj)).i_Expr) (fun j hj => by rw [Hk_eq (Nat.le_of_lt hj)]; exact (okA M2 D T B k j (Nat.le_of_lt hj)).m_Expr___getitem__) (fun j hj => by rw [Hk_eq (Nat.le_of_lt hj)]; exact (okA M2 D T B k j (Nat.le_of_lt hj)).p_Expr_data)
end K17
set_option maxHeartbeats 4000000
namespace K17
open PySem L2 MI
/-- all but those at S is as it was -/
def Kp (S : List Nat) (m m' : Mem) : Prop := m.length ≤ m'.length ∧ ∀ n, n < m.length → n ∉ S → m'[n]? = m[n]?
theorem Kp.refl {S : List Nat} {m : Mem} : Kp S m m := ⟨Nat.le_refl _, fun _ _ _ => rfl⟩
theorem Kp.trans {S : List Nat} {m m' m'' : Mem} (a : Kp S m m') (b : Kp S m' m'') : Kp S m m'' := ⟨Nat.le_trans a.1 b.1, fun n h1 h2 => (b.2 n (Nat.lt_of_lt_of_le h1 a.1) h2).trans (a.2 n h1 h2)⟩
theorem Kp.get {S : List Nat} {m m' : Mem} (a : Kp S m m') {n : Nat} {o : MO} (h : m[n]? = some o) (hn : n ∉ S) : m'[n]? = some o := (a.2 n (List.getElem?_eq_some_iff.mp h).1 hn).trans h
theorem Kp.push {S : List Nat} {m : Mem} {o : MO} : Kp S m (m ++ [o]) := ⟨by simp, fun n h _ => List.getElem?_append_left h⟩
theorem Kp.wr {S : List Nat} {m : Mem} {n : Nat} {o : MO} (h : n ∈ S) : Kp S m (m.set n o) := ⟨by simp, fun i _ hi => by rw [List.getElem?_set_ne (fun e => hi (by rw [← e]; exact h))]⟩
theorem Kp.mono {S S' : List Nat} {m m' : Mem} (a : Kp S m m') (h : ∀ n ∈ S, n ∈ S') : Kp S' m m' := ⟨a.1, fun n h1 h2 => a.2 n h1 fun z => h2 (h n z)⟩
theorem at_lst {m : Mem} {n : Nat} {l : List MV} (h : m[n]? = some (.lst l)) : lstOf m (.ref n) = some l ∧ dctOf m (.ref n) = none ∧ mutOf m (.ref n) = some (n, l) ∧ seqOf m (.ref n) = some l := by
  simp [lstOf, dctOf, mutOf, seqOf, h]
/-- the source of draws: its list at s, the cells at c, t draws so far -/
structure Src (m : Mem) (s c : Nat) (t : Int) : Prop where
  ex : ∃ cells : List Int, cells ≠ [] ∧ m[s]? = some (.lst [.ref c, .int t]) ∧ m[c]? = some (.lst (cells.map .int))
  ne : s ≠ c
  lo : 0 ≤ t
theorem Src.kp {m m' : Mem} {s c : Nat} {t : Int} {S : List Nat} (a : Src m s c t) (k : Kp S m m') (h1 : s ∉ S) (h2 : c ∉ S) : Src m' s c t :=
  let ⟨cells, e1, e2, e3⟩ := a.ex; ⟨⟨cells, e1, k.get e2 h1, k.get e3 h2⟩, a.ne, a.lo⟩
theorem draw_ok {k : Nat} {m : Mem} {s c : Nat} {t lim : Int} (a : Src m s c t) (h0 : 0 < lim) (h1 : lim < 2 ^ 60) (ht : t < 2 ^ 60) :
    MI.W ((Tab (k + 1)).f .l_draw [.ref s, .int lim] m) (fun d m' => ∃ v : Int, d = .int v ∧ 0 ≤ v ∧ v < lim ∧ Src m' s c (t + 1) ∧ Kp [s, c] m m' ∧ m'.length = m.length) E0 := by
  obtain ⟨cells, e1, e2, e3⟩ := a.ex
  have ne := a.ne
  have lo := a.lo
  have ls : s < m.length := (List.getElem?_eq_some_iff.mp e2).1
  have lc : c < m.length := (List.getElem?_eq_some_iff.mp e3).1
  have n0 : 0 < (cells.length : Int) := by
    cases cells with
    | nil => exact absurd rfl e1
    | cons _ _ => simp only [List.length_cons]; omega
  -- the place
  have p0 := Int.emod_nonneg t (Int.ne_of_gt n0)
  have p1 := Int.emod_lt_of_pos t n0
  have hp : (t % (cells.length : Int)).toNat < cells.length := by omega
  obtain ⟨cell, at1⟩ : ∃ cell : Int, atM (cells.map MV.int) (t % (cells.length : Int)) = some (.int cell) := by
    refine ⟨cells[(t % (cells.length : Int)).toNat], ?_⟩
    unfold atM ixN
    rw [if_pos p0, List.length_map, if_pos p1]
    simp [hp]
  obtain ⟨j, ix1⟩ : ∃ j, ixN cells.length (t % (cells.length : Int)) = some j := by
    refine ⟨(t % (cells.length : Int)).toNat, ?_⟩
    unfold ixN
    rw [if_pos p0, if_pos p1]
  have d2 : (m.set s (.lst [.ref c, .int (t + 1)]))[c]? = some (.lst (cells.map .int)) := by rw [List.getElem?_set_ne ne]; exact e3
  have ds : (m.set s (.lst [.ref c, .int (t + 1)]))[s]? = some (.lst [.ref c, .int (t + 1)]) := by rw [List.getElem?_set_self ls]
  have kp1 : Kp [s, c] m (m.set s (.lst [.ref c, .int (t + 1)])) := Kp.wr (by simp)
  have src1 : Src (m.set s (.lst [.ref c, .int (t + 1)])) s c (t + 1) := ⟨⟨cells, e1, ds, d2⟩, ne, by omega⟩
  have src2 : ∀ v : Int, Src ((m.set s (.lst [.ref c, .int (t + 1)])).set c (.lst ((cells.set j v).map .int))) s c (t + 1) := fun v => by
    refine ⟨⟨cells.set j v, ?_, ?_, ?_⟩, ne, by omega⟩
    · intro z
      have := congrArg List.length z
      simp at this
      exact e1 this
    · rw [List.getElem?_set_ne (Ne.symm ne)]; exact ds
    · rw [List.getElem?_set_self (by simpa using lc)]
  have kp2 : ∀ v : Int, Kp [s, c] m ((m.set s (.lst [.ref c, .int (t + 1)])).set c (.lst ((cells.set j v).map .int))) := fun v => kp1.trans (Kp.wr (by simp))
  have dv : CDivW cell lim := by
    refine ⟨h0, ?_⟩
    have : lim.natAbs < 2 ^ 60 := by omega
    have := (Nat.log2_lt (n := lim.natAbs) (k := 60) (by omega)).mpr this
    omega
  have pw : CPowW 10 18 := by decide
  have ans : ∀ x : Int, 0 ≤ x % lim ∧ x % lim < lim := fun x => ⟨Int.emod_nonneg _ (Int.ne_of_gt h0), Int.emod_lt_of_pos _ h0⟩
  show MI.W (f_l_draw (Tab k) [.ref s, .int lim] m) _ _
  unfold f_l_draw b_l_draw
  simp [startM, W_asgT, nCons, nName, nNil, e2, e3, at1, n0, d2, ds, dv, pw, h0, ix1, show ixN 2 1 = some 1 from rfl]
  refine ⟨by omega, ?_⟩
  have md : ∀ x : Int, -18446744073709551616 < x % 2147483647 ∧ x % 2147483647 < 18446744073709551616 := fun x => by omega
  have md2 : ∀ x : Int, -18446744073709551616 < x % 2147483629 ∧ x % 2147483629 < 18446744073709551616 := fun x => by omega
  split
  · have q1 := src2 (cell / lim)
    have q2 := kp2 (cell / lim)
    rw [List.map_set] at q1 q2
    exact ⟨(ans _).1, (ans _).2, q1, q2⟩
  · exact ⟨⟨by omega, by omega⟩, md _, md2 _, (ans _).1, (ans _).2, src1, kp1⟩
inductive Hd where
  | name (s : Str) | call (s : Str) | cmp (sg : List Str) | op (w : Str)
inductive T where
  | node (h : Hd) (l : List T)
/-- the value with that head and those operands -/
def encH : Hd → List MV → MV
  | .name s, _ => .tup [.str "name", .str s]
  | .call s, l => .tup [.str "call", .str s, .tup l]
  | .cmp sg, l => .tup [.str "compare", l.headD .non, .tup (List.zipWith (fun s x => .tup [.str s, x]) sg l.tail)]
  | .op w, l => .tup (.str w :: l)
mutual
def enc : T → MV
  | .node h l => encH h (encs l)
def encs : List T → List MV
  | [] => []
  | t :: r => enc t :: encs r
end
theorem encs_length : ∀ l : List T, (encs l).length = l.length
  | [] => rfl
  | t :: r => by simp [encs, encs_length r]
theorem encs_append : ∀ l k : List T, encs (l ++ k) = encs l ++ encs k
  | [], _ => rfl
  | t :: r, k => by simp [encs, encs_append r k]
/-- a name by the words of the document -/
def IsName (s : Str) : Prop := 1 ≤ s.length ∧ s.length ≤ 8 ∧ (∀ c ∈ s.cps.toList, 97 ≤ c ∧ c ≤ 122) ∧ s ∉ (["and", "or", "not", "if", "else", "is", "none", "true", "false", "set", "give", "try", "except", "end", "then", "program", "keep", "self"] : List Str)
instance (s : Str) : Decidable (IsName s) := by unfold IsName; exact inferInstance
def HdOk : Hd → Nat → Prop
  | .name s, n => IsName s ∧ n = 0
  | .call s, n => IsName s ∧ n ≤ 3
  | .cmp sg, n => sg.length + 1 = n ∧ 1 ≤ sg.length ∧ sg.length ≤ 4 ∧ ∀ s ∈ sg, s ∈ (["<", "<=", ">", ">=", "==", "!="] : List Str)
  | .op w, n => k_LENGTHS.lookup w = some (.int (n + 1))
mutual
inductive Ok : T → Prop
  | node {h : Hd} {l : List T} : HdOk h l.length → Oks l → Ok (.node h l)
inductive Oks : List T → Prop
  | nil : Oks []
  | cons {t : T} {l : List T} : Ok t → Oks l → Oks (t :: l)
end
def hdPl : Hd → Nat
  | .call _ => 1
  | .cmp sg => sg.length
  | _ => 0
def hdNm : Hd → List Str
  | .name s => [s]
  | _ => []
mutual
def size : T → Nat
  | .node _ l => 1 + sizes l
def sizes : List T → Nat
  | [] => 0
  | t :: r => size t + sizes r
end
mutual
def places : T → Nat
  | .node h l => hdPl h + placess l
def placess : List T → Nat
  | [] => 0
  | t :: r => places t + placess r
end
mutual
def levels : T → Nat
  | .node _ l => 1 + levelss l
def levelss : List T → Nat
  | [] => 0
  | t :: r => max (levels t) (levelss r)
end
mutual
def names : T → List Str
  | .node h l => hdNm h ++ namess l
def namess : List T → List Str
  | [] => []
  | t :: r => names t ++ namess r
end
theorem Oks.app : ∀ {l k : List T}, Oks l → Oks k → Oks (l ++ k)
  | _, _, .nil, q => q
  | _, _, .cons a b, q => .cons a (Oks.app b q)
theorem sizes_app : ∀ l k : List T, sizes (l ++ k) = sizes l + sizes k
  | [], k => by simp [sizes]
  | t :: r, k => by simp [sizes, sizes_app r k, Nat.add_assoc]
theorem placess_app : ∀ l k : List T, placess (l ++ k) = placess l + placess k
  | [], k => by simp [placess]
  | t :: r, k => by simp [placess, placess_app r k, Nat.add_assoc]
theorem levelss_app : ∀ l k : List T, levelss (l ++ k) = max (levelss l) (levelss k)
  | [], k => by simp [levelss]
  | t :: r, k => by simp [levelss, levelss_app r k, Nat.max_assoc]
theorem namess_app : ∀ l k : List T, namess (l ++ k) = namess l ++ namess k
  | [], k => by simp [namess]
  | t :: r, k => by simp [namess, namess_app r k]
/-- the source, the room for parts and events, and the names that are drawn -/
structure Dr (s c r q : Nat) (ns : List Str) (m : Mem) (t p e : Int) : Prop where
  src : Src m s c t
  room : m[r]? = some (.lst [.int p, .int e])
  nms : q = r ∧ ns = (["a", "b", "cd", "z"] : List Str)
  rs : r ≠ s
  rc : r ≠ c
  p0 : 0 ≤ p
  e0 : 0 ≤ e
theorem atM_of {l : List MV} {v : Int} (h0 : 0 ≤ v) (h1 : v < l.length) : ∃ d, d ∈ l ∧ atM l v = some d := by
  refine ⟨l[v.toNat]'(by omega), List.getElem_mem _, ?_⟩
  unfold atM ixN
  rw [if_pos h0, if_pos h1]
  show l[v.toNat]? = _
  rw [List.getElem?_eq_getElem]
theorem pick_ok {k : Nat} {m : Mem} {s c n : Nat} {t : Int} {l : List MV} (a : Src m s c t) (hl : m[n]? = some (.lst l)) (h0 : l ≠ []) (h1 : l.length < 2 ^ 20) (ht : t < 2 ^ 60) (ns : n ≠ s) (nc : n ≠ c) :
    MI.W ((Tab (k + 2)).f .l_pick [.ref s, .ref n] m) (fun d m' => d ∈ l ∧ Src m' s c (t + 1) ∧ Kp [s, c] m m' ∧ m'.length = m.length) E0 := by
  have pos : 0 < l.length := List.length_pos_iff.mpr h0
  show MI.W (f_l_pick (Tab (k + 1)) [.ref s, .ref n] m) _ _
  unfold f_l_pick b_l_pick
  simp [startM, hl]
  refine (draw_ok (k := k) (lim := l.length) a (by omega) (by omega) ht).mono ?_
  rintro d m' ⟨v, rfl, v0, v1, src, kp, ln⟩
  have hl' : m'[n]? = some (.lst l) := kp.get hl (by simp [ns, nc])
  obtain ⟨d, hd, e⟩ := atM_of v0 v1
  simp [hl', e, hd, src, kp, ln]
theorem Dr.drawn {s c r q : Nat} {ns : List Str} {m m' : Mem} {t t' p e : Int} (a : Dr s c r q ns m t p e) (h : Src m' s c t') (k : Kp [s, c] m m') : Dr s c r q ns m' t' p e :=
  ⟨h, k.get a.room (by simp [a.rs, a.rc]), a.nms, a.rs, a.rc, a.p0, a.e0⟩
theorem Dr.set {s c r q : Nat} {ns : List Str} {m : Mem} {t p e p' e' : Int} (a : Dr s c r q ns m t p e) (h1 : 0 ≤ p') (h2 : 0 ≤ e') : Dr s c r q ns (m.set r (.lst [.int p', .int e'])) t p' e' := by
  have lr : r < m.length := (List.getElem?_eq_some_iff.mp a.room).1
  refine ⟨a.src.kp (S := [r]) (Kp.wr (by simp)) (by simp [Ne.symm a.rs]) (by simp [Ne.symm a.rc]), ?_, a.nms, a.rs, a.rc, h1, h2⟩
  · rw [List.getElem?_set_self lr]
theorem Dr.push {s c r q : Nat} {ns : List Str} {m : Mem} {t p e : Int} {o : MO} (a : Dr s c r q ns m t p e) : Dr s c r q ns (m ++ [o]) t p e :=
  ⟨a.src.kp (S := []) Kp.push (by simp) (by simp), (Kp.push (S := [])).get a.room (by simp), a.nms, a.rs, a.rc, a.p0, a.e0⟩
theorem new_ne {m : Mem} {n : Nat} {o : MO} (h : m[n]? = some o) : m.length ≠ n := fun e => by
  have := (List.getElem?_eq_some_iff.mp h).1
  omega
/-- what came of a draw of an expression -/
structure Got (s c r q : Nat) (ns : List Str) (m : Mem) (t p e : Int) (B : Int) (deep : Nat) (d : MV) (m' : Mem) : Prop where
  ex : ∃ (x : T) (t' p' e' : Int), d = enc x ∧ Ok x ∧ p' + size x = p + 1 ∧ e' + places x = e ∧ levels x ≤ deep ∧ (∀ n ∈ names x, n ∈ ns) ∧ t ≤ t' ∧ t' ≤ t + B ∧ Dr s c r q ns m' t' p' e'
  kp : Kp [s, c, r] m m'
theorem kp3 {s c r : Nat} {m m' : Mem} (a : Kp [s, c] m m') : Kp [s, c, r] m m' := Kp.mono a (fun n h => by simp at h ⊢; rcases h with h | h <;> simp [h])
theorem Kp.app {S : List Nat} {m r : Mem} : Kp S m (m ++ r) := ⟨by simp, fun n h _ => List.getElem?_append_left h⟩
theorem at_app {m r : Mem} {i : Nat} : (m ++ r)[m.length + i]? = r[i]? := by rw [List.getElem?_append_right (by omega), show m.length + i - m.length = i by omega]
theorem f_name : IsName "f" := by decide
theorem g_name : IsName "object" := by decide
theorem h_name : IsName "h" := by decide
theorem name_name : IsName "name" := by decide
theorem dn_names : ∀ n ∈ (["a", "b", "cd", "z"] : List Str), IsName n := by decide
theorem ok_leaf {w : Str} (h : k_LENGTHS.lookup w = some (.int 1)) : Ok (.node (.op w) []) := .node (by show k_LENGTHS.lookup w = _; rw [h]; rfl) .nil
theorem leaf_ok {k : Nat} {s c r q : Nat} {ns : List Str} {m : Mem} {t p e : Int} (a : Dr s c r q ns m t p e) (hn : ns ≠ []) (hl : ns.length < 2 ^ 20) (hns : ∀ n ∈ ns, IsName n) (ht : t < 2 ^ 59) :
    MI.W ((Tab (k + 3)).f .l_leaf [.ref s, .ref r] m) (Got s c r q ns m t p e 2 1) E0 := by
  show MI.W (f_l_leaf (Tab (k + 2)) [.ref s, .ref r] m) _ _
  unfold f_l_leaf b_l_leaf
  simp [startM]
  refine (draw_ok (k := k + 1) (lim := 8) a.src (by decide) (by decide) (by omega)).mono ?_
  rintro d m1 ⟨v, rfl, v0, v1, src1, kp1, ln1⟩
  have a1 := a.drawn src1 kp1
  have sz : ∀ n : Nat, n ≤ 1000 → n ≤ sizeLine := fun n h => Nat.le_of_lt (small1000 h)
  have ens := a.nms.2
  have cC : ∀ m0 : Mem, Kp [] m1 m0 → MI.W ((Tab (k + 2)).f .l_pick [.ref s, .ref m0.length] (m0 ++ [.lst [.str "none", .str "true", .str "false"]])) (fun d m_1 => 1 ≤ sizeLine ∧ Got s c r q ns m t p e 2 1 (.tup [d]) m_1) E0 := by
    intro m0 k0
    have a0 : Dr s c r q ns m0 (t + 1) p e := ⟨a1.src.kp k0 (by simp) (by simp), k0.get a1.room (by simp), a.nms, a.rs, a.rc, a.p0, a.e0⟩
    have a2 := a0.push (o := .lst [.str "none", .str "true", .str "false"])
    refine (pick_ok (k := k) (l := [.str "none", .str "true", .str "false"]) a2.src (by simp) (by simp) (by simp) (by omega) (fun z => ?_) (fun z => ?_)).mono ?_
    · obtain ⟨_, _, e2, _⟩ := a0.src.ex
      exact new_ne e2 z
    · obtain ⟨_, _, _, e2⟩ := a0.src.ex
      exact new_ne e2 z
    rintro d m2 ⟨hd, src2, kp2, ln2⟩
    have fin : ∀ w : Str, k_LENGTHS.lookup w = some (.int 1) → Got s c r q ns m t p e 2 1 (.tup [.str w]) m2 := fun w hw =>
      ⟨⟨.node (.op w) [], _, _, _, rfl, ok_leaf hw, rfl, by simp [places, hdPl, placess], by simp [levels, levelss], by simp [names, hdNm, namess], by omega, by omega, a2.drawn src2 kp2⟩, (kp3 kp1).trans ((k0.mono (by simp)).trans ((Kp.push).trans (kp3 kp2)))⟩
    simp only [List.mem_cons, List.not_mem_nil, or_false] at hd
    rcases hd with rfl | rfl | rfl
    · exact ⟨sz _ (by decide), fin _ rfl⟩
    · exact ⟨sz _ (by decide), fin _ rfl⟩
    · exact ⟨sz _ (by decide), fin _ rfl⟩
  have cE : 0 < e → 4 ≤ sizeLine ∧ MI.W ((Tab (k + 2)).f .l_pick [.ref s, .ref m1.length] (m1.set r (.lst [.int p, .int (e - 1)]) ++ [.lst [.str "f", .str "object", .str "name", .str "h"]])) (fun d m_1 => 3 ≤ sizeLine ∧ Got s c r q ns m t p e 2 1 (.tup [.str "call", d, .tup []]) m_1) E0 := by
    intro he
    refine ⟨sz _ (by decide), ?_⟩
    have a2 := (a1.set (p' := p) (e' := e - 1) a.p0 (by omega)).push (o := .lst [.str "f", .str "object", .str "name", .str "h"])
    refine (pick_ok (k := k) (l := [.str "f", .str "object", .str "name", .str "h"]) a2.src (by simp) (by simp) (by simp) (by omega) (fun z => ?_) (fun z => ?_)).mono ?_
    · obtain ⟨_, _, e2, _⟩ := a1.src.ex
      exact new_ne e2 z
    · obtain ⟨_, _, _, e2⟩ := a1.src.ex
      exact new_ne e2 z
    rintro d m2 ⟨hd, src2, kp2, ln2⟩
    have k3 : Kp [s, c, r] m m2 := (kp3 kp1).trans ((Kp.wr (by simp)).trans (Kp.push.trans (kp3 kp2)))
    have fin : ∀ w : Str, IsName w → Got s c r q ns m t p e 2 1 (.tup [.str "call", .str w, .tup []]) m2 := fun w hw =>
      ⟨⟨.node (.call w) [], _, _, _, rfl, .node ⟨hw, by simp⟩ .nil, rfl, by simp [places, hdPl, placess], by simp [levels, levelss], by simp [names, hdNm, namess], by omega, by omega, a2.drawn src2 kp2⟩, k3⟩
    simp only [List.mem_cons, List.not_mem_nil, or_false] at hd
    rcases hd with rfl | rfl | rfl | rfl
    · exact ⟨sz _ (by decide), fin _ f_name⟩
    · exact ⟨sz _ (by decide), fin _ g_name⟩
    · exact ⟨sz _ (by decide), fin _ name_name⟩
    · exact ⟨sz _ (by decide), fin _ h_name⟩
  have g1 : 4 ≤ sizeLine := sz _ (by decide)
  have g2 : 1 ≤ sizeLine := sz _ (by decide)
  have g3 : 3 ≤ sizeLine := sz _ (by decide)
  simp [a1.room, show atM [MV.int p, MV.int e] 1 = some (.int e) from rfl, show ixN 2 1 = some 1 from rfl, g1, g2, g3]
  have dA : Das ((["a", "b", "cd", "z"] : List Str).map MV.str) := ⟨by decide +kernel, by decide +kernel, by decide +kernel⟩
  have cT : ∀ (m0 : Mem), Kp [] m1 m0 → m0[m1.length]? = some (.lst ((["a", "b", "cd", "z"] : List Str).map .str)) → (if v < 6 then MI.W (gEqA true (.ref m1.length) (.ref m0.length) (m0 ++ [.lst []])) (fun d_1 m_2 => match d_1 with
      | .bl b => if b = true then MI.W ((Tab (k + 2)).f .l_pick [.ref s, .ref m1.length] m_2) (fun d m_3 => 2 ≤ sizeLine ∧ Got s c r q ns m t p e 2 1 (.tup [.str "name", d]) m_3) E0
        else MI.W ((Tab (k + 2)).f .l_pick [.ref s, .ref m_2.length] (m_2 ++ [.lst [.str "none", .str "true", .str "false"]])) (fun d m_3 => Got s c r q ns m t p e 2 1 (.tup [d]) m_3) E0
      | _ => False) E0
      else MI.W ((Tab (k + 2)).f .l_pick [.ref s, .ref m0.length] (m0 ++ [.lst [.str "none", .str "true", .str "false"]])) (fun d m_2 => Got s c r q ns m t p e 2 1 (.tup [d]) m_2) E0) := by
    intro m0 k0 g0
    have sl : s < m1.length ∧ c < m1.length := by
      obtain ⟨_, _, e1, e2⟩ := a1.src.ex
      exact ⟨(List.getElem?_eq_some_iff.mp e1).1, (List.getElem?_eq_some_iff.mp e2).1⟩
    split
    · refine W_eqL ((Kp.push (S := [])).get g0 (by simp)) List.getElem?_concat_length dA ⟨rfl, by simp [fls], by simp [dps]⟩ fun z hz => ?_
      have hz : z = false := by
        cases z with
        | false => rfl
        | true => have := hz.mp rfl; simp at this
      subst hz
      simp only [Bool.not_false, if_true]
      have k2 : Kp [] m1 (m0 ++ [MO.lst []]) := k0.trans Kp.push
      have g2 : (m0 ++ [MO.lst []])[m1.length]? = some (.lst ((["a", "b", "cd", "z"] : List Str).map .str)) := (Kp.push (S := [])).get g0 (by simp)
      refine (pick_ok (k := k) (a1.src.kp k2 (by simp) (by simp)) g2 (by simp) (by simp) (by omega) (by omega) (by omega)).mono ?_
      rintro d m2 ⟨hd, src2, kp2, ln2⟩
      obtain ⟨n, hn1, rfl⟩ := List.mem_map.mp hd
      have nd : Dr s c r q ns m2 (t + 1 + 1) p e := ⟨src2, kp2.get (k2.get a1.room (by simp)) (by simp [a.rs, a.rc]), a.nms, a.rs, a.rc, a.p0, a.e0⟩
      exact ⟨sz _ (by decide), ⟨.node (.name n) [], _, _, _, rfl, .node ⟨dn_names n hn1, rfl⟩ .nil, rfl, by simp [places, hdPl, placess], by simp [levels, levelss], by rw [ens]; intro y hy; simp [names, hdNm, namess] at hy; subst hy; exact hn1, by omega, by omega, nd⟩, (kp3 kp1).trans ((k2.mono (by simp)).trans (kp3 kp2))⟩
    · exact (cC m0 k0).mono fun d m2 h => h.2
  split
  · split
    · exact (cE ‹_›).2.mono fun d m2 h => h.2
    · refine (W_add_l (xs := [.int p, .int e]) (ys := [.ref m1.length]) (by exact (Kp.app (S := [])).get a1.room (by simp)) (by rw [at_app]; rfl)).mpr ⟨szl (by simp), ?_⟩
      rw [W_item_r, List.getElem?_concat_length]
      exact cT _ (Kp.app.trans Kp.app) (by simp)
  · refine (W_add_l (xs := [.int p, .int e]) (ys := [.ref m1.length]) (by exact (Kp.app (S := [])).get a1.room (by simp)) (by rw [at_app]; rfl)).mpr ⟨szl (by simp), ?_⟩
    rw [W_item_r, List.getElem?_concat_length]
    exact cT _ (Kp.app.trans Kp.app) (by simp)
end K17
set_option maxHeartbeats 4000000
namespace K17
open PySem L2 MI
def B : Nat → Nat
  | 0 => 3
  | d + 1 => 8 + 5 * B d
theorem B_pos : ∀ d, 3 ≤ B d
  | 0 => Nat.le_refl _
  | d + 1 => by have := B_pos d; show 3 ≤ 8 + 5 * B d; omega
/-- names that are drawn -/
structure Nmz (ns : List Str) : Prop where
  ne : ns ≠ []
  len : ns.length < 2 ^ 20
  ok : ∀ n ∈ ns, IsName n
def ExprOk (k deep : Nat) : Prop := ∀ (s c r q : Nat) (ns : List Str) (m : Mem) (t p e : Int), Dr s c r q ns m t p e → Nmz ns → t + B deep ≤ 2 ^ 58 → MI.W ((Tab k).f .l_expr [.ref s, .ref r, .int deep] m) (Got s c r q ns m t p e (B deep) deep) E0
structure Gots (s c r q : Nat) (ns : List Str) (m : Mem) (t p e : Int) (n : Nat) (Bd : Int) (deep : Nat) (l : List MV) (m' : Mem) : Prop where
  ex : ∃ (xs : List T) (t' p' e' : Int), l = encs xs ∧ xs.length = n ∧ Oks xs ∧ p' + sizes xs = p + n ∧ e' + placess xs = e ∧ levelss xs ≤ deep ∧ (∀ n ∈ namess xs, n ∈ ns) ∧ t ≤ t' ∧ t' ≤ t + n * Bd ∧ Dr s c r q ns m' t' p' e'
  kp : Kp [s, c, r] m m'
theorem Gots.snoc {s c r q : Nat} {ns : List Str} {m m1 m2 : Mem} {t p e : Int} {n : Nat} {deep : Nat} {l : List MV} {d : MV} {Bd : Int} (a : Gots s c r q ns m t p e n Bd deep l m1)
    (h : ∀ t' p' e', Dr s c r q ns m1 t' p' e' → t ≤ t' → t' ≤ t + n * Bd → Got s c r q ns m1 t' p' e' Bd deep d m2) : Gots s c r q ns m t p e (n + 1) Bd deep (l ++ [d]) m2 := by
  obtain ⟨xs, t', p', e', rfl, hl, ok, h1, h2, h3, h4, h5, h6, D⟩ := a.ex
  have g := h t' p' e' D h5 h6
  obtain ⟨x, t2, p2, e2, rfl, o1, o2, o3, o4, o5, o6, o7, D2⟩ := g.ex
  have eB : ((n + 1 : Nat) : Int) * Bd = n * Bd + Bd := by rw [Int.natCast_add, Int.add_mul]; simp
  refine ⟨⟨xs ++ [x], t2, p2, e2, by rw [encs_append]; rfl, by simp [hl], ok.app (.cons o1 .nil), ?_, ?_, ?_, ?_, by omega, by omega, D2⟩, a.kp.trans g.kp⟩
  · rw [sizes_app]; simp [sizes]; omega
  · rw [placess_app]; simp [placess]; omega
  · rw [levelss_app]; simp [levelss]; omega
  · rw [namess_app]
    intro y hy
    rcases List.mem_append.mp hy with hy | hy
    · exact h4 y hy
    · exact o5 y (by simpa [namess] using hy)
theorem Gots.nil {s c r q : Nat} {ns : List Str} {m : Mem} {t p e : Int} {Bd : Int} {deep : Nat} (a : Dr s c r q ns m t p e) : Gots s c r q ns m t p e 0 Bd deep [] m :=
  ⟨⟨[], t, p, e, rfl, rfl, .nil, by simp [sizes], by simp [placess], by simp [levelss], by simp [namess], Int.le_refl _, by simp, a⟩, Kp.refl⟩
theorem rngL_length {lo : Int} {n : Nat} : (rngL lo n).length = n := by simp [rngL]
noncomputable abbrev sub1 (k : Nat) : ME := mCall ((Tab k).f .l_expr) (mCons (mVar 0) (mCons (mVar 1) (mCons (mBin gSub (mVar 2) (mC (.int 1))) mNil)))
theorem exprs_ok {k deep : Nat} (ih : ExprOk k deep) {s c r q : Nat} {ns : List Str} {m : Mem} {t p e : Int} (a : Dr s c r q ns m t p e) (hn : Nmz ns) {ρ : MI.Env} (h0 : ρ[0]? = some (some (.ref s))) (h1 : ρ[1]? = some (some (.ref r))) (h2 : ρ[2]? = some (some (.int (deep + 1 : Nat))))
    (n : Nat) (n4 : n ≤ 4) (ht : t + 4 * B deep ≤ 2 ^ 58) : MI.W (lcM (fun _ => True) (ngName 6) mYes (sub1 k) ρ (rngL 0 n) [] m) (Gots s c r q ns m t p e n (B deep) deep) E0 := by
  refine W_lcs (fun l acc m' => ∃ j, j + l.length = n ∧ acc.length = j ∧ Gots s c r q ns m t p e j (B deep) deep acc m') (rngL 0 n) [] m ⟨0, by simp [rngL_length], rfl, .nil a⟩ (fun _ _ _ _ => trivial) (fun d l acc m' ⟨j, hj, ha, g⟩ => ?_) fun acc m' ⟨j, hj, ha, g⟩ => by simp at hj; subst hj; exact g
  refine ⟨[(6, d)], rfl, ?_⟩
  have hjn : j < n := by simp at hj; omega
  have j4 : (j : Int) * B deep ≤ 3 * B deep := Int.mul_le_mul_of_nonneg_right (by omega) (by omega)
  show MI.W (sub1 k (ρ.set 6 (some d)) m') _ _
  have g0 : (ρ.set 6 (some d))[0]? = some (some (.ref s)) := by rw [List.getElem?_set_ne (by decide)]; exact h0
  have g1 : (ρ.set 6 (some d))[1]? = some (some (.ref r)) := by rw [List.getElem?_set_ne (by decide)]; exact h1
  have g2 : (ρ.set 6 (some d))[2]? = some (some (.int (deep + 1 : Nat))) := by rw [List.getElem?_set_ne (by decide)]; exact h2
  have e1 : ((deep + 1 : Nat) : Int) - 1 = deep := by omega
  simp only [W_call, W_cons, W_vr, g0, g1, g2, W_bin, W_C, W_sub_i, W_nil, e1]
  obtain ⟨xs, t', p', e', rfl, hl, ok, q1, q2, q3, q4, q5, q6, D⟩ := id g.ex
  refine (ih s c r q ns m' t' p' e' D hn (by omega)).mono fun y m2 gy => ⟨by rw [ha]; exact Nat.lt_of_lt_of_le (by omega) (szl (n := 1000) (Nat.le_refl _)), j + 1, by simp at hj; omega, by simp [ha], ?_⟩
  refine g.snoc fun t2 p2 e2 D2 _ _ => ?_
  have u := D2.room.symm.trans D.room
  obtain ⟨cells, _, w1, _⟩ := D2.src.ex
  obtain ⟨cells', _, w2, _⟩ := D.src.ex
  have u2 := w1.symm.trans w2
  injection u with u
  injection u with u
  injection u with u3 u
  injection u with u4 _
  injection u3 with u3
  injection u4 with u4
  injection u2 with u2
  injection u2 with u2
  injection u2 with _ u2
  injection u2 with u2 _
  injection u2 with u2
  subst u3 u4 u2
  exact gy
end K17
set_option maxHeartbeats 4000000
namespace K17
open PySem L2 MI
theorem room0 {p e : Int} : atM [MV.int p, MV.int e] 0 = some (.int p) := rfl
theorem room1 {p e : Int} : atM [MV.int p, MV.int e] 1 = some (.int e) := rfl
theorem ix30 : ixN 2 0 = some 0 := rfl
theorem ix31 : ixN 2 1 = some 1 := rfl
theorem Dr.sne {s c r q : Nat} {ns : List Str} {m : Mem} {t p e : Int} (a : Dr s c r q ns m t p e) : m.length ≠ s ∧ m.length ≠ c ∧ m.length ≠ r ∧ m.length ≠ q := by
  obtain ⟨_, _, e1, e2⟩ := a.src.ex
  exact ⟨new_ne e1, new_ne e2, new_ne a.room, by rw [a.nms.1]; exact new_ne a.room⟩
theorem Kp.wrNew {S : List Nat} {m m' : Mem} {f : Nat} {o : MO} (a : Kp S m m') (h : m.length ≤ f) : Kp S m (m'.set f o) :=
  ⟨by simpa using a.1, fun n h1 h2 => by rw [List.getElem?_set_ne (by omega)]; exact a.2 n h1 h2⟩
theorem Dr.wr {s c r q f : Nat} {ns : List Str} {m : Mem} {t p e : Int} {o : MO} (a : Dr s c r q ns m t p e) (h1 : f ≠ s) (h2 : f ≠ c) (h3 : f ≠ r) (h4 : f ≠ q) : Dr s c r q ns (m.set f o) t p e :=
  ⟨a.src.kp (S := [f]) (Kp.wr (by simp)) (by simp [Ne.symm h1]) (by simp [Ne.symm h2]), by rw [List.getElem?_set_ne h3]; exact a.room, a.nms, a.rs, a.rc, a.p0, a.e0⟩
theorem Gots.wr {s c r q f : Nat} {ns : List Str} {m m1 : Mem} {t p e : Int} {n : Nat} {deep : Nat} {l : List MV} {Bd : Int} {o : MO} (a : Gots s c r q ns m t p e n Bd deep l m1) (h0 : m.length ≤ f) (h1 : f ≠ s) (h2 : f ≠ c) (h3 : f ≠ r) (h4 : f ≠ q) : Gots s c r q ns m t p e n Bd deep l (m1.set f o) :=
  let ⟨xs, t', p', e', q1, q2, q3, q4, q5, q6, q7, q8, q9, D⟩ := a.ex
  ⟨⟨xs, t', p', e', q1, q2, q3, q4, q5, q6, q7, q8, q9, D.wr h1 h2 h3 h4⟩, a.kp.wrNew h0⟩
theorem Gots.push {s c r q : Nat} {ns : List Str} {m m1 : Mem} {t p e : Int} {n : Nat} {deep : Nat} {l : List MV} {Bd : Int} {o : MO} (a : Gots s c r q ns m t p e n Bd deep l m1) : Gots s c r q ns m t p e n Bd deep l (m1 ++ [o]) :=
  let ⟨xs, t', p', e', q1, q2, q3, q4, q5, q6, q7, q8, q9, D⟩ := a.ex
  ⟨⟨xs, t', p', e', q1, q2, q3, q4, q5, q6, q7, q8, q9, D.push⟩, a.kp.trans Kp.push⟩
theorem Got.one {s c r q : Nat} {ns : List Str} {m m1 : Mem} {t p e : Int} {deep : Nat} {d : MV} {Bd Bd' : Int} (a : Got s c r q ns m t p e Bd deep d m1) (h : Bd ≤ Bd') : Gots s c r q ns m t p e 1 Bd' deep [d] m1 := by
  obtain ⟨x, t', p', e', rfl, q1, q2, q3, q4, q5, q6, q7, D⟩ := a.ex
  exact ⟨⟨[x], t', p', e', rfl, rfl, .cons q1 .nil, by simp [sizes]; omega, by simp [placess]; omega, by simp [levelss]; omega, by simpa [namess] using q5, q6, by simp; omega, D⟩, a.kp⟩
/-- something drawn ahead of it -/
theorem Got.after {s c r q : Nat} {ns : List Str} {m m1 m2 : Mem} {t p e : Int} {deep : Nat} {d : MV} {Bd : Int} (k : Kp [s, c, r] m m1) (a : Got s c r q ns m1 (t + 1) p e Bd deep d m2) : Got s c r q ns m t p e (Bd + 1) deep d m2 := by
  obtain ⟨x, t', p', e', q0, q1, q2, q3, q4, q5, q6, q7, D⟩ := a.ex
  exact ⟨⟨x, t', p', e', q0, q1, q2, q3, q4, q5, by omega, by omega, D⟩, k.trans a.kp⟩
def links (sg : List Str) (l : List MV) : List MV := List.zipWith (fun s x => .tup [.str s, x]) sg l
theorem links_snoc {sg : List Str} {l : List MV} {a : Str} {d : MV} (h : sg.length = l.length) : links (sg ++ [a]) (l ++ [d]) = links sg l ++ [.tup [.str a, d]] := by
  unfold links
  rw [List.zipWith_append h]
  rfl
theorem links_len {sg : List Str} {l : List MV} (h : sg.length = l.length) : (links sg l).length = l.length := by simp [links, h]
abbrev signs : List Str := ["<", "<=", ">", ">=", "==", "!="]
theorem Dr.same {s c r q : Nat} {ns : List Str} {m : Mem} {t p e t2 p2 e2 : Int} (D : Dr s c r q ns m t p e) (D2 : Dr s c r q ns m t2 p2 e2) : t2 = t ∧ p2 = p ∧ e2 = e := by
  have u := D2.room.symm.trans D.room
  obtain ⟨cells, _, w1, _⟩ := D2.src.ex
  obtain ⟨cells', _, w2, _⟩ := D.src.ex
  have u2 := w1.symm.trans w2
  simp at u u2
  exact ⟨u2, u.1, u.2⟩
/-- the loop over the links -/
structure Lk (s c r q : Nat) (ns : List Str) (M : Mem) (t p e Bd : Int) (deep n f : Nat) (d0 : MV) (l : List MV) (ρ : MI.Env) (m' : Mem) : Prop where
  ex : ∃ (j : Nat) (sg : List Str) (xs : List MV), j + l.length = n ∧ sg.length = j ∧ xs.length = j ∧ (∀ y ∈ sg, y ∈ signs) ∧ Gots s c r q ns M t p e (j + 1) Bd deep (d0 :: xs) m' ∧
      m'[f]? = some (.lst (links sg xs)) ∧ ∃ x3 x6 x7 x8, ρ = [some (.ref s), some (.ref r), some (.int ((deep : Int) + 1)), x3, some d0, some (.ref f), x6, x7, x8]
theorem seen_ok {k deep : Nat} (ih : ExprOk (k + 2) deep) {s c r q : Nat} {ns : List Str} {m : Mem} {t p e : Int} (a : Dr s c r q ns m t p e) (hn : Nmz ns) (hp : 3 ≤ p) (he : 0 < e) (ht : t + 7 + 5 * B deep ≤ 2 ^ 58) :
    MI.W ((Tab (k + 3)).f .l_seen_part [.ref s, .ref r, .int (deep + 1 : Nat)] m) (Got s c r q ns m t p e (7 + 5 * B deep) (deep + 1)) E0 := by
  have bp := B_pos deep
  show MI.W (f_l_seen_part (Tab (k + 2)) [.ref s, .ref r, .int (deep + 1 : Nat)] m) _ _
  unfold f_l_seen_part b_l_seen_part
  simp [startM]
  refine (draw_ok (k := k + 1) (lim := 2) a.src (by decide) (by decide) (by omega)).mono ?_
  rintro d m1 ⟨v, rfl, v0, v1, src1, kp1, ln1⟩
  have a1 := a.drawn src1 kp1
  simp
  split
  · refine (draw_ok (k := k + 1) (lim := 3) a1.src (by decide) (by decide) (by omega)).mono ?_
    rintro d m2 ⟨w, rfl, w0, w1, src2, kp2, ln2⟩
    have a2 := a1.drawn src2 kp2
    have lr : r < m2.length := (List.getElem?_eq_some_iff.mp a2.room).1
    have rs : ∀ o : MO, (m2.set r o)[r]? = some o := fun o => List.getElem?_set_self lr
    simp [a2.room, room0, room1, ix30, ix31, rs]
    have b1 : 1 ≤ (if p < 1 + w then p else 1 + w) ∧ (if p < 1 + w then p else 1 + w) ≤ 3 ∧ (if p < 1 + w then p else 1 + w) ≤ p := by split <;> omega
    generalize (if p < 1 + w then p else 1 + w) = many at b1 ⊢
    obtain ⟨b1, b2, b3⟩ := b1
    refine ⟨szl (by decide), ?_⟩
    have a3 := (a2.set (p' := p - many) (e' := e - 1) (by omega) (by omega)).push (o := .lst [.str "f", .str "object", .str "name", .str "h"])
    obtain ⟨z1, z2, z3, z4⟩ := a2.sne
    refine (pick_ok (k := k) (l := [.str "f", .str "object", .str "name", .str "h"]) a3.src (by simp) (by simp) (by simp) (by omega) z1 z2).mono ?_
    rintro d m3 ⟨hd, src3, kp3', ln3⟩
    have a4 := a3.drawn src3 kp3'
    refine ⟨⟨by omega, by omega⟩, ?_⟩
    obtain ⟨n, rfl⟩ : ∃ n : Nat, many = n := ⟨many.toNat, by omega⟩
    refine (exprs_ok ih a4 hn (ρ := wipeM [some (.ref s), some (.ref r), some (.int ((deep : Int) + 1)), some (.int n), none, none, none, some d, none] [6]) rfl rfl rfl n (by omega) (by omega)).mono ?_
    intro l m4 g
    obtain ⟨xs, t', p', e', rfl, hl, ok, q1, q2, q3, q4, q5, q6, D⟩ := id g.ex
    have k5 : Kp [s, c, r] m m4 := (kp3 (kp1.trans kp2)).trans ((Kp.wr (by simp)).trans (Kp.push.trans ((kp3 kp3').trans g.kp)))
    have nB : (n : Int) * B deep ≤ 3 * B deep := Int.mul_le_mul_of_nonneg_right (by omega) (by omega)
    have fin : ∀ wd : Str, IsName wd → Got s c r q ns m t p e (7 + 5 * B deep) (deep + 1) (.tup [.str "call", .str wd, .tup (encs xs)]) (m4 ++ [.lst (encs xs)]) := fun wd hw =>
      ⟨⟨.node (.call wd) xs, t', p', e', rfl, .node ⟨hw, by omega⟩ ok, by simp [size]; omega, by simp [places, hdPl]; omega, by simp [levels]; omega, by simpa [names, hdNm] using q4, by omega, by omega, D.push⟩, k5.trans Kp.push⟩
    refine ⟨szl (by decide), ?_⟩
    simp only [List.mem_cons, List.not_mem_nil, or_false] at hd
    rcases hd with rfl | rfl | rfl | rfl
    · exact fin _ f_name
    · exact fin _ g_name
    · exact fin _ name_name
    · exact fin _ h_name
  · refine (draw_ok (k := k + 1) (lim := 4) a1.src (by decide) (by decide) (by omega)).mono ?_
    rintro d m2 ⟨w, rfl, w0, w1, src2, kp2, ln2⟩
    have a2 := a1.drawn src2 kp2
    have lr : r < m2.length := (List.getElem?_eq_some_iff.mp a2.room).1
    have rs : ∀ o : MO, (m2.set r o)[r]? = some o := fun o => List.getElem?_set_self lr
    simp [a2.room, room0, room1, ix30, ix31, rs]
    have b1 : 1 ≤ (if e < if p - 1 < 1 + w then p - 1 else 1 + w then e else if p - 1 < 1 + w then p - 1 else 1 + w) ∧ (if e < if p - 1 < 1 + w then p - 1 else 1 + w then e else if p - 1 < 1 + w then p - 1 else 1 + w) ≤ 4 ∧
        (if e < if p - 1 < 1 + w then p - 1 else 1 + w then e else if p - 1 < 1 + w then p - 1 else 1 + w) ≤ p - 1 ∧ (if e < if p - 1 < 1 + w then p - 1 else 1 + w then e else if p - 1 < 1 + w then p - 1 else 1 + w) ≤ e := by split <;> split at * <;> omega
    generalize (if e < if p - 1 < 1 + w then p - 1 else 1 + w then e else if p - 1 < 1 + w then p - 1 else 1 + w) = many at b1 ⊢
    obtain ⟨b1, b2, b3, b4⟩ := b1
    have a3 := a2.set (p' := p - 1 - many) (e' := e - many) (by omega) (by omega)
    generalize hM : m2.set r (.lst [.int (p - 1 - many), .int (e - many)]) = M at a3 ⊢
    have kM : Kp [s, c, r] m M := by rw [← hM]; exact (kp3 (kp1.trans kp2)).trans (Kp.wr (by simp))
    obtain ⟨n, rfl⟩ : ∃ n : Nat, many = n := ⟨many.toNat, by omega⟩
    refine (ih s c r q ns M _ _ _ a3 hn (by omega)).mono ?_
    intro d0 m3 g0
    refine ⟨⟨by omega, by omega⟩, ?_⟩
    have G0 : Gots s c r q ns M (t + 1 + 1) (p - 1 - n) (e - n) 1 (B deep + 1) deep [d0] m3 := g0.one (by omega)
    have hf : M.length ≤ m3.length := g0.kp.1
    obtain ⟨_, _, _, _, _, _, _, _, _, _, _, _, D0⟩ := id g0.ex
    obtain ⟨f1, f2, f3, f4⟩ := D0.sne
    refine W_loop (Lk s c r q ns M (t + 1 + 1) (p - 1 - n) (e - n) (B deep + 1) deep n m3.length d0) _ _ _ ?_ (fun _ _ _ _ => trivial) ?_ ?_
    · exact ⟨0, [], [], by simp [rngL_length], rfl, rfl, by simp, G0.push, by simp [links], _, _, _, _, rfl⟩
    · rintro d l ρ m' ⟨⟨j, sg, xs, h1, h2, h3, h4, G, h5, x3, x6, x7, x8, rfl⟩⟩
      obtain ⟨ys, t', p', e', y1, y2, y3, y4, y5, y6, y7, y8, y9, D⟩ := id G.ex
      have jn : j < n := by simp at h1; omega
      have jB : ((j + 1 : Nat) : Int) * (B deep + 1) ≤ 4 * (B deep + 1) := Int.mul_le_mul_of_nonneg_right (by omega) (by omega)
      have D1 := D.push (o := .lst (signs.map .str))
      obtain ⟨z1, z2, z3, z4⟩ := D.sne
      simp
      refine ⟨szl (by decide), ?_⟩
      refine (pick_ok (k := k) (l := signs.map .str) D1.src (by simp) (by simp) (by simp) (by omega) z1 z2).mono ?_
      rintro y m4 ⟨hy, src4, kp4, ln4⟩
      obtain ⟨sn, hsn, rfl⟩ := List.mem_map.mp hy
      have D4 := D1.drawn src4 kp4
      have k4 : Kp [s, c, r] m' m4 := Kp.push.trans (kp3 kp4)
      have at4 : m4[m3.length]? = some (.lst (links sg xs)) := k4.get h5 (by simp [f1, f2, f3])
      simp [at4]
      refine (ih s c r q ns m4 _ _ _ D4 hn (by omega)).mono ?_
      intro d5 m5 g5
      have at5 : m5[m3.length]? = some (.lst (links sg xs)) := g5.kp.get at4 (by simp [f1, f2, f3])
      have G5 : Gots s c r q ns M (t + 1 + 1) (p - 1 - n) (e - n) (j + 1 + 1) (B deep + 1) deep (d0 :: xs ++ [d5]) m5 := G.snoc fun t2 p2 e2 D2 _ _ => by
        obtain ⟨rfl, rfl, rfl⟩ := D.same D2
        exact g5.after k4
      have lt5 : m3.length < m5.length := (List.getElem?_eq_some_iff.mp at5).1
      simp [at5]
      refine ⟨szl (by decide), Nat.lt_of_lt_of_le (by rw [links_len (by omega)]; omega) (szl (n := 1000) (Nat.le_refl _)), ⟨j + 1, sg ++ [sn], xs ++ [d5], by simp at h1; omega, by simp [h2], by simp [h3], ?_, G5.wr hf f1 f2 f3 f4, ?_, x3, _, x7, _, rfl⟩⟩
      · intro y hy
        rcases List.mem_append.mp hy with hy | hy
        · exact h4 y hy
        · simp at hy; subst hy; exact hsn
      · rw [List.getElem?_set_self lt5, links_snoc (by omega)]
    · rintro ρ m' ⟨⟨j, sg, xs, h1, h2, h3, h4, G, h5, x3, x6, x7, x8, rfl⟩⟩
      simp at h1
      subst h1
      obtain ⟨ys, t', p', e', y1, y2, y3, y4, y5, y6, y7, y8, y9, D⟩ := id G.ex
      have jB : ((j + 1 : Nat) : Int) * (B deep + 1) ≤ 5 * (B deep + 1) := Int.mul_le_mul_of_nonneg_right (by omega) (by omega)
      simp [h5]
      refine ⟨szl (by decide), ⟨.node (.cmp sg) ys, t', p', e', ?_, .node ⟨by omega, by omega, by omega, h4⟩ y3, by simp [size]; omega, by simp [places, hdPl]; omega, by simp [levels]; omega, by simpa [names, hdNm] using y7, by omega, by omega, D⟩, kM.trans G.kp⟩
      show MV.tup [.str "compare", d0, .tup (links sg xs)] = encH (.cmp sg) (encs ys)
      rw [← y1]
      rfl
end K17
set_option maxHeartbeats 4000000
namespace K17
open PySem L2 MI
theorem Got.mono {s c r q : Nat} {ns : List Str} {m m1 : Mem} {t p e : Int} {deep deep' : Nat} {d : MV} {Bd Bd' : Int} (a : Got s c r q ns m t p e Bd deep d m1) (h : Bd ≤ Bd') (h2 : deep ≤ deep') : Got s c r q ns m t p e Bd' deep' d m1 := by
  obtain ⟨x, t', p', e', q0, q1, q2, q3, q4, q5, q6, q7, D⟩ := a.ex
  exact ⟨⟨x, t', p', e', q0, q1, q2, q3, by omega, q5, q6, by omega, D⟩, a.kp⟩
/-- a draw ahead -/
theorem Got.drawn {s c r q : Nat} {ns : List Str} {m m1 m2 : Mem} {t p e : Int} {deep : Nat} {d : MV} {Bd Bd' : Int} (k : Kp [s, c, r] m m1) (a : Got s c r q ns m1 (t + 1) p e Bd deep d m2) (h : Bd + 1 ≤ Bd') : Got s c r q ns m t p e Bd' deep d m2 :=
  (a.after k).mono h (Nat.le_refl _)
theorem len_not : k_LENGTHS.lookup ("not" : Str) = some (MV.int 2) := rfl
theorem len_isnone : k_LENGTHS.lookup ("isnone" : Str) = some (MV.int 2) := rfl
theorem Dr.lts {s c r q : Nat} {ns : List Str} {m : Mem} {t p e : Int} (a : Dr s c r q ns m t p e) : s < m.length ∧ c < m.length ∧ r < m.length ∧ q < m.length := by
  obtain ⟨_, _, e1, e2⟩ := a.src.ex
  exact ⟨(List.getElem?_eq_some_iff.mp e1).1, (List.getElem?_eq_some_iff.mp e2).1, (List.getElem?_eq_some_iff.mp a.room).1, by rw [a.nms.1]; exact (List.getElem?_eq_some_iff.mp a.room).1⟩
theorem expr_ok : ∀ (deep k : Nat), ExprOk (k + 4 + 2 * deep) (deep + 1) := by
  intro deep
  induction deep with
  | zero =>
    intro k s c r q ns m t p e a hn ht
    have bp := B_pos 1
    have hk : k + 4 + 2 * 0 = (k + 3) + 1 := by omega
    rw [hk]
    show MI.W (f_l_expr (Tab (k + 3)) [.ref s, .ref r, .int ((0 + 1 : Nat) : Int)] m) _ _
    unfold f_l_expr b_l_expr
    simp [startM]
    refine (draw_ok (k := k + 2) (lim := 12) a.src (by decide) (by decide) (by omega)).mono ?_
    rintro d m1 ⟨v, rfl, v0, v1, src1, kp1, ln1⟩
    have a1 := a.drawn src1 kp1
    refine (leaf_ok (k := k) a1 hn.ne hn.len hn.ok (by omega)).mono ?_
    intro d m2 g
    exact g.drawn (kp3 kp1) (by omega)
  | succ deep ih =>
    intro k s c r q ns m t p e a hn ht
    have bp := B_pos (deep + 1)
    have bs : B (deep + 1 + 1) = 8 + 5 * B (deep + 1) := rfl
    have hk : k + 4 + 2 * (deep + 1) = (k + 5 + 2 * deep) + 1 := by omega
    have e1 : ExprOk (k + 5 + 2 * deep) (deep + 1) := by
      have := ih (k + 1)
      rwa [show k + 1 + 4 + 2 * deep = k + 5 + 2 * deep by omega] at this
    have e2 : ExprOk (k + 2 + 2 * deep + 2) (deep + 1) := by
      have := ih k
      rwa [show k + 4 + 2 * deep = k + 2 + 2 * deep + 2 by omega] at this
    rw [hk]
    show MI.W (f_l_expr (Tab (k + 5 + 2 * deep)) [.ref s, .ref r, .int ((deep + 1 + 1 : Nat) : Int)] m) _ _
    unfold f_l_expr b_l_expr
    simp [startM]
    rw [show k + 5 + 2 * deep = (k + 4 + 2 * deep) + 1 by omega]
    refine (draw_ok (k := k + 4 + 2 * deep) (lim := 12) a.src (by decide) (by decide) (by omega)).mono ?_
    rintro d m1 ⟨v, rfl, v0, v1, src1, kp1, ln1⟩
    have a1 := a.drawn src1 kp1
    have cL : MI.W ((Tab (k + 4 + 2 * deep + 1)).f .l_leaf [.ref s, .ref r] m1) (Got s c r q ns m t p e (B (deep + 1 + 1)) (deep + 1 + 1)) E0 := by
      rw [show k + 4 + 2 * deep + 1 = (k + 2 + 2 * deep) + 3 by omega]
      refine (leaf_ok (k := k + 2 + 2 * deep) a1 hn.ne hn.len hn.ok (by omega)).mono ?_
      intro d m2 g
      exact (g.mono (Int.le_refl _) (by omega)).drawn (kp3 kp1) (by omega)
    have lr : r < m1.length := (List.getElem?_eq_some_iff.mp a1.room).1
    have rs : ∀ o : MO, (m1.set r o)[r]? = some o := fun o => List.getElem?_set_self lr
    obtain ⟨z1, z2, z3, z4⟩ := a1.sne
    have cS : 0 < e → ¬ p < 3 → MI.W ((Tab (k + 4 + 2 * deep + 1)).f .l_seen_part [.ref s, .ref r, .int ((deep : Int) + 1 + 1)] m1) (Got s c r q ns m t p e (B (deep + 1 + 1)) (deep + 1 + 1)) E0 := by
      intro he hp
      rw [show k + 4 + 2 * deep + 1 = (k + 2 + 2 * deep) + 3 by omega]
      refine (seen_ok (k := k + 2 + 2 * deep) e2 a1 hn (by omega) he (by omega)).mono ?_
      intro d m2 g
      exact g.drawn (kp3 kp1) (by omega)
    have cN : ¬ p < 3 → 2 ≤ sizeLine ∧ MI.W ((Tab (k + 4 + 2 * deep + 1)).f .l_pick [.ref s, .ref m1.length] (m1.set r (.lst [.int (p - 1), .int e]) ++ [.lst [.str "not", .str "isnone"]]))
        (fun d m_1 => MI.W ((Tab (k + 4 + 2 * deep + 1)).f .l_expr [.ref s, .ref r, .int ((deep : Int) + 1)] m_1) (fun d_1 m_2 => 2 ≤ sizeLine ∧ Got s c r q ns m t p e (B (deep + 1 + 1)) (deep + 1 + 1) (.tup [d, d_1]) m_2) E0) E0 := by
      intro hp
      refine ⟨szl (by decide), ?_⟩
      have a2 := (a1.set (p' := p - 1) (e' := e) (by omega) a1.e0).push (o := .lst [.str "not", .str "isnone"])
      rw [show k + 4 + 2 * deep + 1 = (k + 3 + 2 * deep) + 2 by omega]
      refine (pick_ok (k := k + 3 + 2 * deep) (l := [.str "not", .str "isnone"]) a2.src (by simp) (by simp) (by simp) (by omega) z1 z2).mono ?_
      rintro d m3 ⟨hd, src3, kp3', ln3⟩
      have a3 := a2.drawn src3 kp3'
      have k3 : Kp [s, c, r] m m3 := (kp3 kp1).trans ((Kp.wr (by simp)).trans (Kp.push.trans (kp3 kp3')))
      rw [show k + 3 + 2 * deep + 2 = k + 5 + 2 * deep by omega]
      refine (e1 s c r q ns m3 _ _ _ a3 hn (by omega)).mono ?_
      intro d1 m4 g
      refine ⟨szl (by decide), ?_⟩
      obtain ⟨x, t', p', e', rfl, q1, q2, q3, q4, q5, q6, q7, D⟩ := id g.ex
      have fin : ∀ w : Str, k_LENGTHS.lookup w = some (.int 2) → Got s c r q ns m t p e (B (deep + 1 + 1)) (deep + 1 + 1) (.tup [.str w, enc x]) m4 := fun w hw =>
        ⟨⟨.node (.op w) [x], t', p', e', rfl, .node (by show k_LENGTHS.lookup w = _; rw [hw]; rfl) (.cons q1 .nil), by simp [size, sizes]; omega, by simp [places, hdPl, placess]; omega, by simp [levels, levelss]; omega, by simpa [names, hdNm, namess] using q5, by omega, by omega, D⟩, k3.trans g.kp⟩
      simp only [List.mem_cons, List.not_mem_nil, or_false] at hd
      rcases hd with rfl | rfl
      · exact fin _ len_not
      · exact fin _ len_isnone
    have hv : ¬ v < 6 → ∃ (hd : Str) (n : Nat), atM [MV.str "and", MV.str "or", MV.str "and", MV.str "or", MV.str "default", MV.str "if"] (v - 6) = some (.str hd) ∧ k_LENGTHS.lookup hd = some (.int (n + 1 : Nat)) ∧ ((2 : Int) + if hd = ("if" : Str) then 1 else 0) = n ∧ 2 ≤ n ∧ n ≤ 3 := by
      intro h6
      have : v = 6 ∨ v = 7 ∨ v = 8 ∨ v = 9 ∨ v = 10 ∨ v = 11 := by omega
      rcases this with rfl | rfl | rfl | rfl | rfl | rfl
      · exact ⟨"and", 2, rfl, rfl, by decide, by decide, by decide⟩
      · exact ⟨"or", 2, rfl, rfl, by decide, by decide, by decide⟩
      · exact ⟨"and", 2, rfl, rfl, by decide, by decide, by decide⟩
      · exact ⟨"or", 2, rfl, rfl, by decide, by decide, by decide⟩
      · exact ⟨"default", 2, rfl, rfl, by decide, by decide, by decide⟩
      · exact ⟨"if", 3, rfl, rfl, by decide, by decide, by decide⟩
    by_cases h0 : v = 0
    · simp [a1.room, room0, room1, ix30, ix31, h0]
      exact cL
    by_cases h3 : p < 3
    · simp [a1.room, room0, room1, ix30, ix31, h0, h3]
      exact cL
    by_cases h4 : v < 4 ∧ 0 < e
    · simp [a1.room, room0, room1, ix30, ix31, h0, h3, h4.1, h4.2]
      split
      · exact cL
      · exact cS h4.2 h3
    have n1 : ¬ ((deep : Int) + 1 + 1 = 1) := by omega
    by_cases h6 : v < 6
    · simp [a1.room, room0, room1, ix30, ix31, h0, h3, h6, n1]
      split
      · split
        · exact absurd ⟨‹_›, ‹_›⟩ h4
        · exact cN h3
      · exact cN h3
    · obtain ⟨hd, n, w1, w2, w3, w4, w5⟩ := hv h6
      have h44 : ¬ v < 4 := by omega
      have rs2 : ∀ o1 o2 : MO, ((m1 ++ [o1]).set r o2)[r]? = some o2 := fun o1 o2 => List.getElem?_set_self (by simp; omega)
      have rs3 : ∀ o1 : MO, (m1 ++ [o1])[r]? = some (.lst [.int p, .int e]) := fun o1 => by rw [List.getElem?_append_left lr]; exact a1.room
      simp [a1.room, room0, room1, ix30, ix31, h0, h3, h6, h44, n1, w1, w3, rs2, rs3]
      refine ⟨szl (by decide), szl (by decide), by omega, ?_⟩
      have a2 := (((a1.push (o := .lst [.str "and", .str "or", .str "and", .str "or", .str "default", .str "if"])).set (p' := p - n) (e' := e) (by omega) a1.e0)).push (o := .lst [.str hd])
      have kM : Kp [s, c, r] m ((m1 ++ [MO.lst [.str "and", .str "or", .str "and", .str "or", .str "default", .str "if"]]).set r (MO.lst [.int (p - n), .int e]) ++ [MO.lst [.str hd]]) := (kp3 kp1).trans (Kp.push.trans ((Kp.wr (by simp)).trans Kp.push))
      have hh : ((m1 ++ [MO.lst [.str "and", .str "or", .str "and", .str "or", .str "default", .str "if"]]).set r (MO.lst [.int (p - n), .int e]) ++ [MO.lst [.str hd]])[m1.length + 1]? = some (.lst [.str hd]) := by
        rw [List.getElem?_append_right (by simp)]
        simp
      generalize ((m1 ++ [MO.lst [.str "and", .str "or", .str "and", .str "or", .str "default", .str "if"]]).set r (MO.lst [.int (p - n), .int e]) ++ [MO.lst [.str hd]] : Mem) = M at a2 kM hh ⊢
      rw [show k + 4 + 2 * deep + 1 = k + 5 + 2 * deep by omega]
      refine (exprs_ok e1 a2 hn (ρ := wipeM [some (.ref s), some (.ref r), some (.int ((deep : Int) + 1 + 1)), some (.int v), some (.str hd), some (.int n), none] [6]) rfl rfl rfl n (by omega) (by omega)).mono ?_
      intro l m4 g
      obtain ⟨xs, t', p', e', rfl, hl, ok, q1, q2, q3, q4, q5, q6, D⟩ := id g.ex
      have nB : (n : Int) * B (deep + 1) ≤ 3 * B (deep + 1) := Int.mul_le_mul_of_nonneg_right (by omega) (by omega)
      have at4 : (m4 ++ [MO.lst (encs xs)])[m1.length + 1]? = some (.lst [.str hd]) := Kp.get (S := [s, c, r]) (g.kp.trans Kp.push) hh (by obtain ⟨u1, u2, u3, u4⟩ := a1.lts; simp; omega)
      have at5 : (m4 ++ [MO.lst (encs xs)])[m4.length]? = some (.lst (encs xs)) := List.getElem?_concat_length
      rw [W_add_l at4 at5]
      refine ⟨szl (by simp [encs_length]; omega), ?_⟩
      simp
      exact ⟨⟨.node (.op hd) xs, t', p', e', rfl, .node (by show k_LENGTHS.lookup hd = _; rw [w2, hl]; rfl) ok, by simp [size]; omega, by simp [places, hdPl]; omega, by simp [levels]; omega, by simpa [names, hdNm] using q4, by omega, by omega, by simpa using (D.push (o := .lst (encs xs))).push (o := .lst (.str hd :: encs xs))⟩, kM.trans (g.kp.trans (by simpa using (Kp.push (S := [s, c, r]) (m := m4) (o := .lst (encs xs))).trans (Kp.push (o := .lst (.str hd :: encs xs)))))⟩
end K17
set_option maxHeartbeats 4000000
namespace K17
open PySem L2 MI
@[simp] theorem at0 {a : MV} {l : List MV} : atM (a :: l) 0 = some a := by
  unfold atM ixN
  rw [if_pos (by decide), if_pos (by simp)]
  rfl
@[simp] theorem at1 {a b : MV} {l : List MV} : atM (a :: b :: l) 1 = some b := by
  unfold atM ixN
  rw [if_pos (by decide), if_pos (by simp; omega)]
  rfl
@[simp] theorem at2 {a b c : MV} {l : List MV} : atM (a :: b :: c :: l) 2 = some c := by
  unfold atM ixN
  rw [if_pos (by decide), if_pos (by simp; omega)]
  rfl
theorem op_word {w : Str} {n : Nat} (h : k_LENGTHS.lookup w = some (.int (n + 1))) : w ≠ ("name" : Str) ∧ w ≠ ("call" : Str) ∧ w ≠ ("compare" : Str) ∧ n ≤ 3 := by
  have c : (w, MV.int (n + 1)) ∈ k_LENGTHS := lookup_mem h
  simp [k_LENGTHS] at c
  rcases c with ⟨rfl, c⟩ | ⟨rfl, c⟩ | ⟨rfl, c⟩ | ⟨rfl, c⟩ | ⟨rfl, c⟩ | ⟨rfl, c⟩ | ⟨rfl, c⟩ | ⟨rfl, c⟩ | ⟨rfl, c⟩ <;> exact ⟨by decide, by decide, by decide, by omega⟩
theorem cut1 {a : MV} {l : List MV} : cutM (a :: l) (some 1) none = l := by
  unfold cutM HT.sIx
  simp
theorem links_map : ∀ {sg : List Str} {es : List MV}, sg.length = es.length → ((List.zipWith (fun s x => MV.tup [.str s, x]) sg es).filter fun _ => true).map (fun d => match d with | .tup [_, x] => x | _ => .non) = es
  | [], [], _ => rfl
  | [], _ :: _, h => by simp at h
  | _ :: _, [], h => by simp at h
  | s :: sg, x :: es, h => by
    have := links_map (sg := sg) (es := es) (by simpa using h)
    rw [filter_all] at this ⊢
    simp only [List.zipWith_cons_cons, List.map_cons, this]
theorem opl_ok {k : Nat} {h : Hd} {es : List MV} {m : Mem} (hok : HdOk h es.length) : MI.W ((Tab (k + 1)).f .l_operands [encH h es] m) (fun d m' => ∃ n, d = .ref n ∧ m'[n]? = some (.lst es) ∧ m.length ≤ n ∧ Kp [] m m') E0 := by
  show MI.W (f_l_operands (Tab k) [encH h es] m) _ _
  unfold f_l_operands b_l_operands
  cases h with
  | name s =>
    have h2 : es.length = 0 := hok.2
    have : es = [] := List.length_eq_zero_iff.mp h2
    subst this
    simp [startM, encH]
    exact Kp.push
  | call s =>
    simp [startM, encH, show ¬ (("call" : Str) = "name") by decide]
    exact Kp.push
  | cmp sg =>
    obtain ⟨c1, c2, c3, c4⟩ := (show sg.length + 1 = es.length ∧ 1 ≤ sg.length ∧ sg.length ≤ 4 ∧ ∀ s ∈ sg, s ∈ (["<", "<=", ">", ">=", "==", "!="] : List Str) from hok)
    cases es with
    | nil => simp at c1
    | cons a es =>
      have ce : sg.length = es.length := by simpa using c1
      simp [startM, encH, show ¬ (("compare" : Str) = "name") by decide, show ¬ (("compare" : Str) = "call") by decide]
      refine ⟨szl (by decide), ?_⟩
      refine W_pure (fun d => match d with | .tup [_, x] => x | _ => .non) (fun _ => true) trivial (fun d hd => ?_) (by simp; omega) ?_
      · obtain ⟨i, hi, rfl⟩ := List.mem_iff_getElem.mp hd
        simp only [List.getElem_zipWith]
        exact ⟨rfl, fun _ => rfl⟩
      · rw [links_map ce]
        have a1 : (m ++ [MO.lst [a]] ++ [MO.lst es])[m.length]? = some (.lst [a]) := by simp
        have a2 : (m ++ [MO.lst [a]] ++ [MO.lst es])[(m ++ [MO.lst [a]]).length]? = some (.lst es) := List.getElem?_concat_length
        rw [W_add_l a1 a2]
        refine ⟨szl (by simp; omega), _, rfl, List.getElem?_concat_length, by simp, Kp.push.trans (Kp.push.trans Kp.push)⟩
  | op w =>
    obtain ⟨n1, n2, n3, n4⟩ := op_word hok
    simp [startM, encH, n1, n2, n3, cut1]
    exact Kp.push
theorem ops_ok {k : Nat} {h : Hd} {es : List MV} {m : Mem} (hok : HdOk h es.length) : MI.W ((Tab (k + 1)).f .operands [encH h es] m) (fun d m' => d = .tup es ∧ Kp [] m m') E0 := by
  show MI.W (f_operands (Tab k) [encH h es] m) _ _
  unfold f_operands b_operands
  cases h with
  | name s =>
    have h2 : es.length = 0 := hok.2
    have : es = [] := List.length_eq_zero_iff.mp h2
    subst this
    simp [startM, encH]
    exact Kp.refl
  | call s =>
    simp [startM, encH, show ¬ (("call" : Str) = "name") by decide]
    exact Kp.refl
  | cmp sg =>
    obtain ⟨c1, c2, c3, c4⟩ := (show sg.length + 1 = es.length ∧ 1 ≤ sg.length ∧ sg.length ≤ 4 ∧ ∀ s ∈ sg, s ∈ (["<", "<=", ">", ">=", "==", "!="] : List Str) from hok)
    cases es with
    | nil => simp at c1
    | cons a es =>
      have ce : sg.length = es.length := by simpa using c1
      simp [startM, encH, show ¬ (("compare" : Str) = "name") by decide, show ¬ (("compare" : Str) = "call") by decide]
      refine W_pure (fun d => match d with | .tup [_, x] => x | _ => .non) (fun _ => true) trivial (fun d hd => ?_) (by simp; omega) ?_
      · obtain ⟨i, hi, rfl⟩ := List.mem_iff_getElem.mp hd
        simp only [List.getElem_zipWith]
        exact ⟨rfl, fun _ => rfl⟩
      · simp only [links_map ce]
        exact ⟨szl (by omega), trivial, Kp.push⟩
  | op w =>
    obtain ⟨n1, n2, n3, n4⟩ := op_word hok
    simp [startM, encH, n1, n2, n3, cut1]
    exact Kp.refl
mutual
def parts : T → List T
  | .node h l => .node h l :: partss l
def partss : List T → List T
  | [] => []
  | t :: r => parts t ++ partss r
end
mutual
theorem parts_len : ∀ t : T, (parts t).length = size t
  | .node h l => by simp [parts, size, partss_len l]; omega
theorem partss_len : ∀ l : List T, (partss l).length = sizes l
  | [] => rfl
  | t :: r => by simp [partss, sizes, parts_len t, partss_len r]
end
/-- a list object that holds l, new, and nothing else has changed -/
def NewL (m : Mem) (l : List MV) (d : MV) (m' : Mem) : Prop := ∃ n, d = .ref n ∧ m'[n]? = some (.lst l) ∧ m.length ≤ n ∧ Kp [] m m'
theorem enc_node {h : Hd} {l : List T} : enc (.node h l) = encH h (encs l) := rfl
theorem Ok.hd {h : Hd} {l : List T} (o : Ok (.node h l)) : HdOk h (encs l).length ∧ Oks l := by
  cases o with
  | node a b => exact ⟨by rw [encs_length]; exact a, b⟩
structure PtI (m : Mem) (n : Nat) (e0 : MV) (acc0 : List MV) (f : T → List MV) (l : List T) (rem : List MV) (ρ : MI.Env) (m' : Mem) : Prop where
  ex : ∃ (dn r : List T) (x2 : Option MV) (nf : Nat), l = dn ++ r ∧ rem = encs r ∧ ρ = [some e0, some (.ref nf), x2] ∧ m'[nf]? = some (.lst (acc0 ++ (dn.map f).flatten)) ∧ m'[n]? = some (.lst (encs l)) ∧ Kp [] m m' ∧ m.length ≤ nf
theorem encs_flat : ∀ dn : List T, (dn.map fun t => encs (parts t)).flatten = encs (partss dn)
  | [] => rfl
  | t :: r => by simp [partss, encs_append, encs_flat r]
theorem Oks.mem : ∀ {l : List T} {t : T}, Oks l → t ∈ l → Ok t
  | _ :: _, _, .cons a b, h => by
    rcases List.mem_cons.mp h with rfl | h
    · exact a
    · exact Oks.mem b h
theorem sizes_mem : ∀ {l : List T} {t : T}, t ∈ l → size t ≤ sizes l
  | x :: r, t, h => by
    rcases List.mem_cons.mp h with rfl | h
    · simp [sizes]
    · have := sizes_mem h
      simp [sizes]; omega
theorem levelss_mem : ∀ {l : List T} {t : T}, t ∈ l → levels t ≤ levelss l
  | x :: r, t, h => by
    rcases List.mem_cons.mp h with rfl | h
    · simp [levelss]; omega
    · have := levelss_mem h
      simp [levelss]; omega
theorem parts_ok : ∀ (j : Nat) (t : T) (k : Nat) (m : Mem), Ok t → levels t ≤ j → size t ≤ 1000 → MI.W ((Tab (k + 1 + j)).f .l_parts [enc t] m) (NewL m (encs (parts t))) E0 := by
  intro j
  induction j with
  | zero =>
    intro t k m ok hl
    cases t with
    | node h l => simp [levels] at hl
  | succ j ih =>
    intro t k m ok hl hs
    cases t with
    | node h l =>
      obtain ⟨o1, o2⟩ := ok.hd
      have hl2 : levelss l ≤ j := by simp [levels] at hl; omega
      have hs2 : 1 + sizes l ≤ 1000 := by simpa [size] using hs
      show MI.W (f_l_parts (Tab (k + 1 + j)) [enc (.node h l)] m) _ _
      unfold f_l_parts b_l_parts
      simp [startM]
      refine ⟨szl (by decide), ?_⟩
      rw [enc_node, show k + 1 + j = (k + j) + 1 by omega]
      refine (opl_ok (k := k + j) (h := h) (es := encs l) o1).mono ?_
      rintro d m1 ⟨n, rfl, h1, h2, k1⟩
      simp [h1]
      have fr : ∀ {m' : Mem}, m'[n]? = some (.lst (encs l)) → ((match m'[n]? with | some (MO.lst l) => some l | some (MO.frz l) => some l | x => none) = some (encs l)) := fun h => by rw [h]
      refine W_loop (PtI m n (encH h (encs l)) [enc (.node h l)] (fun t => encs (parts t)) l) _ _ _ ?_ ?_ ?_ ?_
      · have h0 : m1[m.length]? = some (.lst [enc (.node h l)]) := k1.get (n := m.length) (by simp [enc_node]) (by simp)
        exact ⟨[], l, none, m.length, rfl, rfl, rfl, by simpa using h0, h1, Kp.push.trans k1, Nat.le_refl _⟩
      · rintro rem ρ m' ⟨dn, r, x2, nf, q1, q2, q3, q4, q5, q6, q7⟩
        exact fr q5
      · rintro d rem ρ m' ⟨dn, r, x2, nf, q1, q2, rfl, q4, q5, q6, q7⟩
        cases r with
        | nil => cases q2
        | cons t r =>
          cases q2
          have tm : t ∈ l := by rw [q1]; simp
          simp
          rw [show k + j + 1 = k + 1 + j by omega]
          refine (ih t k m' (o2.mem tm) (Nat.le_trans (levelss_mem tm) hl2) (Nat.le_trans (sizes_mem tm) (by omega))).mono ?_
          rintro d2 m2 ⟨n2, rfl, g1, g2, g3⟩
          rw [W_add_l (g3.get q4 (by simp)) g1]
          have cap : sizes l = sizes dn + size t + sizes r := by rw [q1, sizes_app]; simp [sizes]; omega
          refine ⟨szl ?_, ⟨dn ++ [t], r, _, _, by rw [q1]; simp, rfl, rfl, ?_, (g3.trans Kp.push).get q5 (by simp), q6.trans (g3.trans Kp.push), Nat.le_trans q6.1 g3.1⟩⟩
          · rw [encs_flat]
            simp [encs_length, parts_len, partss_len]
            omega
          · rw [List.getElem?_concat_length]
            simp
      · rintro ρ m' ⟨dn, r, x2, nf, q1, q2, rfl, q4, q5, q6, q7⟩
        cases r with
        | cons t r => cases q2
        | nil =>
          rw [List.append_nil] at q1
          subst q1
          rw [encs_flat] at q4
          simp
          exact ⟨nf, rfl, by simpa [parts, encs] using q4, q7, q6⟩
end K17
set_option maxHeartbeats 4000000
namespace K17
open PySem L2 MI
theorem inV_str {s : Str} : ∀ {l : List Str}, inV (.str s) (l.map V.str) = decide (s ∈ l)
  | [] => rfl
  | x :: r => by
    have ih := inV_str (s := s) (l := r)
    unfold inV at ih ⊢
    rw [List.map_cons, List.any_cons, ih]
    show ((x == s) || decide (s ∈ r)) = _
    by_cases h : x = s
    · subst h; simp
    · rw [beq_eq_false_iff_ne.mpr h]
      simp [Ne.symm h]
theorem W_in_strs {s : Str} {l : List Str} {neg : Bool} {m : Mem} {Q : MV → Mem → Prop} {E : Exn → Mem → Prop} : MI.W (gInA neg (.str s) (.tup (l.map .str)) m) Q E = Q (.bl (if neg = true then !decide (s ∈ l) else decide (s ∈ l))) m := by
  classical
  unfold gInA
  have al : (l.map MV.str).all flat = true := by simp [flat]
  rw [if_neg (by rintro ⟨z, h⟩; cases h), if_neg (by simp), if_pos ⟨_, rfl, rfl, al⟩]
  show MI.W (if flat (.str s) = true ∧ (l.map MV.str).all flat = true then .ok (.bl (if neg then !inV (toV (.str s)) ((l.map MV.str).map toV) else inV (toV (.str s)) ((l.map MV.str).map toV))) m else .stuck) Q E = _
  rw [if_pos ⟨rfl, al⟩]
  have e : (l.map MV.str).map toV = l.map V.str := by rw [List.map_map]; rfl
  rw [e]
  show Q (.bl (if neg then !inV (.str s) (l.map V.str) else inV (.str s) (l.map V.str))) m = _
  rw [inV_str]
theorem bls_map : ∀ bs : List Bool, blsOf (bs.map .bl) = some bs
  | [] => rfl
  | b :: r => by
    show (blsOf (r.map .bl)).map (b :: ·) = _
    rw [bls_map r]; rfl
theorem W_all {n : Nat} {bs : List Bool} {m : Mem} {Q : MV → Mem → Prop} {E : Exn → Mem → Prop} (h : m[n]? = some (.lst (bs.map .bl))) : MI.W (gAll [.ref n] m) Q E = Q (.bl (bs.all id)) m := by
  show MI.W (match (lstOf m (.ref n)).bind blsOf with | some bs => .ok (.bl (bs.all id)) m | none => .stuck) Q E = _
  simp only [lstOf_ref, h, Option.bind_some, bls_map]
  rfl
theorem kit_ss : kitB "str" "str" = some true := rfl
theorem kit_tt : kitB "tuple" "tuple" = some true := rfl
@[simp] theorem ty_str {m : Mem} {s : Str} : tyM m (.str s) = some "str" := rfl
@[simp] theorem ty_tup {m : Mem} {s : List MV} : tyM m (.tup s) = some "tuple" := rfl
@[simp] theorem ty_int {m : Mem} {s : Int} : tyM m (.int s) = some "int" := rfl
@[simp] theorem ty_bl {m : Mem} {s : Bool} : tyM m (.bl s) = some "bool" := rfl
@[simp] theorem ty_non {m : Mem} : tyM m .non = some "NoneType" := rfl
def isLow (d : MV) : MV := match d with
  | .str z => .bl (!decide (z.cps.toList < ("a" : Str).cps.toList) && !decide (("z" : Str).cps.toList < z.cps.toList))
  | _ => .non
theorem low_c {c : Nat} : isLow (.str ⟨#[c]⟩) = .bl (decide (97 ≤ c ∧ c ≤ 122)) := by
  have e1 : ("a" : Str).cps.toList = [97] := by decide
  have e2 : ("z" : Str).cps.toList = [122] := by decide
  unfold isLow
  simp only [e1, e2]
  have l1 : ([c] < [97]) ↔ c < 97 := by simp [List.cons_lt_cons_iff]
  have l2 : ([122] < [c]) ↔ 122 < c := by simp [List.cons_lt_cons_iff]
  simp only [l1, l2]
  congr 1
  by_cases h1 : c < 97 <;> by_cases h2 : 122 < c <;> simp [h1, h2] <;> omega
abbrev barred : List Str := ["and", "or", "not", "if", "else", "is", "none", "true", "false", "set", "give", "try", "except", "end", "then", "program", "keep", "self"]
theorem isname_ok {k : Nat} {m : Mem} {s : Str} (hs : s.length ≤ 1000) : MI.W ((Tab (k + 1)).f .is_name [.str s] m) (fun d m' => d = .bl (decide (IsName s)) ∧ Kp [] m m') E0 := by
  have key : ∀ (m : Mem) (Q : MV → Mem → Prop) (E : Exn → Mem → Prop), MI.W (gInA true (.str s) c_BARRED m) Q E = Q (.bl (!decide (s ∈ barred))) m := fun m Q E => W_in_strs (l := barred) (neg := true)
  show MI.W (f_is_name (Tab k) [.str s] m) _ _
  unfold f_is_name b_is_name
  by_cases h1 : (1 : Int) ≤ s.length
  · by_cases h2 : (s.length : Int) ≤ 8
    · by_cases h3 : s ∈ barred
      · have hn : ¬ IsName s := fun h => h.2.2.2 h3
        simp [startM, kit_ss, szl hs, h1, h2]
        erw [key]
        simp only [h3, decide_true, Bool.not_true, tru_bl]
        exact ⟨by rw [decide_eq_false hn], Kp.refl⟩
      · simp [startM, kit_ss, szl hs, h1, h2]
        erw [key]
        simp only [h3, decide_false, Bool.not_false, tru_bl]
        refine W_pure isLow (fun _ => true) trivial (fun d hd => ⟨rfl, fun _ => ?_⟩) (by simpa using (show s.cps.size ≤ 1000 from hs)) ?_
        · obtain ⟨c, hc, rfl⟩ := List.mem_map.mp hd
          show (Re.bind (Re.ok (MV.bl (!decide ((⟨#[c]⟩ : Str).cps.toList < ("a" : Str).cps.toList))) m) fun r m3 => match r with
            | .bl true => Re.bind (Re.ok (MV.str ("z" : Str)) m3) (fun c' m4 => gLeS (.str ⟨#[c]⟩) c' m4)
            | .bl false => .ok (.bl false) m3
            | _ => .stuck) = Re.ok (MV.bl (!decide ((⟨#[c]⟩ : Str).cps.toList < ("a" : Str).cps.toList) && !decide (("z" : Str).cps.toList < (⟨#[c]⟩ : Str).cps.toList))) m
          cases decide ((⟨#[c]⟩ : Str).cps.toList < ("a" : Str).cps.toList) <;> rfl
        · rw [filter_all]
          have e : (s.cps.toList.map fun c => MV.str ⟨#[c]⟩).map isLow = (s.cps.toList.map fun c => decide (97 ≤ c ∧ c ≤ 122)).map .bl := by
            rw [List.map_map, List.map_map]
            exact List.map_congr_left fun c _ => low_c
          rw [e, W_all List.getElem?_concat_length]
          refine ⟨?_, Kp.push⟩
          congr 1
          rw [Bool.eq_iff_iff, List.all_eq_true, decide_eq_true_eq]
          unfold IsName
          constructor
          · intro h
            refine ⟨by omega, by omega, fun c hc => ?_, h3⟩
            simpa using h (decide (97 ≤ c ∧ c ≤ 122)) (List.mem_map_of_mem hc)
          · rintro ⟨_, _, h, _⟩ b hb
            obtain ⟨c, hc, rfl⟩ := List.mem_map.mp hb
            simpa using h c hc
    · have hn : ¬ IsName s := fun h => h2 (by have := h.2.1; omega)
      simp [startM, kit_ss, szl hs, h1, h2, hn]
      exact Kp.refl
  · have hn : ¬ IsName s := fun h => h1 (by have := h.1; omega)
    simp [startM, kit_ss, szl hs, h1, hn]
    exact Kp.refl
theorem kit_all : ∀ t ∈ ["NoneType", "bool", "int", "str", "tuple", "list", "dict"], kitB t "str" = some (decide (t = "str")) ∧ kitB t "tuple" = some (decide (t = "tuple")) ∧ kitB t "dict" = some (decide (t = "dict")) ∧ kitB t "bool" = some (decide (t = "bool")) := by decide
def isStr : MV → Bool
  | .str _ => true
  | _ => false
def isTup : MV → Bool
  | .tup _ => true
  | _ => false
/-- its type is known -/
def Typed (m : Mem) (d : MV) : Prop := ∃ t, tyM m d = some t ∧ t ∈ ["NoneType", "bool", "int", "str", "tuple", "list", "dict"]
theorem ty_isStr {m : Mem} {d : MV} {t : String} (h : tyM m d = some t) : (decide (t = "str")) = isStr d := by
  cases d with
  | int i => cases h; rfl
  | non => cases h; rfl
  | bl b => cases h; rfl
  | str s => cases h; rfl
  | tup l => cases h; rfl
  | kl l => cases h
  | clo c b => cases h
  | ref n =>
    have h : tyO m[n]? = some t := h
    cases q : m[n]? with
    | none => rw [q] at h; cases h
    | some o => rw [q] at h; cases o <;> cases h <;> rfl
theorem ty_isTup {m : Mem} {d : MV} {t : String} (h : tyM m d = some t) : (decide (t = "tuple")) = isTup d := by
  cases d with
  | int i => cases h; rfl
  | non => cases h; rfl
  | bl b => cases h; rfl
  | str s => cases h; rfl
  | tup l => cases h; rfl
  | kl l => cases h
  | clo c b => cases h
  | ref n =>
    have h : tyO m[n]? = some t := h
    cases q : m[n]? with
    | none => rw [q] at h; cases h
    | some o => rw [q] at h; cases o <;> cases h <;> rfl
theorem isi_str {m : Mem} {d : MV} (h : Typed m d) : ((tyM m d).bind fun t => kitB t "str") = some (isStr d) := by
  obtain ⟨t, h1, h2⟩ := h
  rw [h1, Option.bind_some, (kit_all t h2).1, ty_isStr h1]
theorem isi_tup {m : Mem} {d : MV} (h : Typed m d) : ((tyM m d).bind fun t => kitB t "tuple") = some (isTup d) := by
  obtain ⟨t, h1, h2⟩ := h
  rw [h1, Option.bind_some, (kit_all t h2).2.1, ty_isTup h1]
def nameB : MV → Bool
  | .str s => decide (IsName s)
  | _ => false
theorem isnameV_ok {k : Nat} {m : Mem} {v : MV} (h : Typed m v) (hs : ∀ s, v = .str s → s.length ≤ 1000) : MI.W ((Tab (k + 1)).f .is_name [v] m) (fun d m' => d = .bl (nameB v) ∧ Kp [] m m') E0 := by
  by_cases c : isStr v = true
  · cases v with
    | str s => exact isname_ok (hs s rfl)
    | _ => cases c
  · have e := isi_str h
    rw [show isStr v = false by simpa using c] at e
    show MI.W (f_is_name (Tab k) [v] m) _ _
    unfold f_is_name b_is_name
    simp [startM, e]
    refine ⟨?_, Kp.refl⟩
    cases v with
    | str s => exact absurd rfl c
    | _ => rfl
end K17
set_option maxHeartbeats 4000000
namespace K17
open PySem L2 MI
theorem W_eq {α : Type} {r : Re α} {x : α} {m : Mem} (h : MI.W r (fun d m' => d = x ∧ m' = m) E0) : r = .ok x m := by
  cases r with
  | ok a m1 => obtain ⟨h1, h2⟩ := h; rw [h1, h2]
  | ex x m1 => exact h.elim
  | stuck => exact h.elim
def HeadOk (m : Mem) (x : MV) : Prop := (∃ s, x = .str s) ∨ ∃ n l, x = .ref n ∧ m[n]? = some (.lst l) ∧ Das l
mutual
def TyV (S : List Nat) (m : Mem) : MV → Prop
  | .tup l => TyVs S m l ∧ l.length ≤ 100 ∧ ∀ a ls x y, l = [.str "compare", a, .tup ls] → .tup [x, y] ∈ ls → HeadOk m x
  | .str s => s.length ≤ 100
  | .ref n => n ∉ S ∧ ((∃ l, m[n]? = some (.lst l) ∧ Das l) ∨ ∃ l, m[n]? = some (.dct l))
  | .kl _ => False
  | .clo _ _ => False
  | .int _ => True
  | .bl _ => True
  | .non => True
def TyVs (S : List Nat) (m : Mem) : List MV → Prop
  | [] => True
  | d :: l => TyV S m d ∧ TyVs S m l
end
theorem TyVs.mem {S : List Nat} {m : Mem} : ∀ {l : List MV} {d : MV}, TyVs S m l → d ∈ l → TyV S m d
  | x :: r, d, h, hd => by
    unfold TyVs at h
    rcases List.mem_cons.mp hd with rfl | hd
    · exact h.1
    · exact TyVs.mem h.2 hd
theorem TyVs.of {S : List Nat} {m : Mem} : ∀ {l : List MV}, (∀ d ∈ l, TyV S m d) → TyVs S m l
  | [], _ => by unfold TyVs; trivial
  | x :: r, h => by unfold TyVs; exact ⟨h x List.mem_cons_self, TyVs.of fun d hd => h d (List.mem_cons_of_mem _ hd)⟩
theorem TyV.typed {S : List Nat} {m : Mem} {d : MV} (h : TyV S m d) : Typed m d := by
  cases d with
  | non => exact ⟨_, rfl, by decide⟩
  | bl b => exact ⟨_, rfl, by decide⟩
  | int i => exact ⟨_, rfl, by decide⟩
  | str s => exact ⟨_, rfl, by decide⟩
  | tup l => exact ⟨_, rfl, by decide⟩
  | kl l => unfold TyV at h; exact h.elim
  | clo c b => unfold TyV at h; exact h.elim
  | ref n =>
    unfold TyV at h
    rcases h.2 with ⟨l, h, _⟩ | ⟨l, h⟩
    · exact ⟨"list", by show tyO m[n]? = _; rw [h]; rfl, by decide⟩
    · exact ⟨"dict", by show tyO m[n]? = _; rw [h]; rfl, by decide⟩
theorem TyV.str {S : List Nat} {m : Mem} {d : MV} (h : TyV S m d) : ∀ s, d = .str s → s.length ≤ 1000 := by
  rintro s rfl
  unfold TyV at h
  omega
theorem TyV.items {S : List Nat} {m : Mem} {l : List MV} (h : TyV S m (.tup l)) : (∀ d ∈ l, TyV S m d) ∧ l.length ≤ 100 := by
  unfold TyV at h
  exact ⟨fun d hd => h.1.mem hd, h.2.1⟩
theorem HeadOk.kp {m m' : Mem} {x : MV} (h : HeadOk m x) (k : Kp [] m m') : HeadOk m' x := by
  rcases h with h | ⟨n, l, h1, h2, h3⟩
  · exact .inl h
  · exact .inr ⟨n, l, h1, k.get h2 (by simp), h3⟩
mutual
theorem TyV.kp {S : List Nat} {m m' : Mem} (k : Kp [] m m') : ∀ (d : MV), TyV S m d → TyV S m' d
  | .tup l, h => by
    unfold TyV at h ⊢
    exact ⟨TyVs.kp k l h.1, h.2.1, fun a ls x y e hx => (h.2.2 a ls x y e hx).kp k⟩
  | .str s, h => by unfold TyV at h ⊢; exact h
  | .ref n, h => by
    unfold TyV at h ⊢
    refine ⟨h.1, ?_⟩
    rcases h.2 with ⟨l, a, b⟩ | ⟨l, a⟩
    · exact .inl ⟨l, k.get a (by simp), b⟩
    · exact .inr ⟨l, k.get a (by simp)⟩
  | .kl _, h => by unfold TyV at h; exact h.elim
  | .clo _ _, h => by unfold TyV at h; exact h.elim
  | .int _, _ => by unfold TyV; trivial
  | .bl _, _ => by unfold TyV; trivial
  | .non, _ => by unfold TyV; trivial
theorem TyVs.kp {S : List Nat} {m m' : Mem} (k : Kp [] m m') : ∀ (l : List MV), TyVs S m l → TyVs S m' l
  | [], _ => by unfold TyVs; trivial
  | d :: r, h => by unfold TyVs at h ⊢; exact ⟨TyV.kp k d h.1, TyVs.kp k r h.2⟩
end
def FormV (d : MV) : Prop := ∃ h es, d = encH h es ∧ HdOk h es.length
def tupB (v : MV) (a b : Int) : Bool := match v with
  | .tup l => decide (a ≤ l.length) && decide (l.length ≤ b)
  | _ => false
theorem istV_ok {k : Nat} {m : Mem} {v : MV} {a b : Int} (h : Typed m v) (hl : ∀ l, v = .tup l → l.length ≤ 1000) : MI.W ((Tab (k + 1)).f .u_is_tuple [v, .int a, .int b] m) (fun d m' => d = .bl (tupB v a b) ∧ m' = m) E0 := by
  show MI.W (f_u_is_tuple (Tab k) [v, .int a, .int b] m) _ _
  unfold f_u_is_tuple b_u_is_tuple
  have e := isi_tup h
  by_cases c : isTup v = true
  · cases v with
    | tup l =>
      by_cases h1 : a ≤ l.length
      · simp [startM, kit_tt, h1, tupB]
      · simp [startM, kit_tt, h1, tupB]
    | _ => cases c
  · rw [show isTup v = false by simpa using c] at e
    simp [startM, e]
    cases v with
    | tup s => exact absurd rfl c
    | _ => rfl
theorem any_strs {l : List PyData} : ∀ ss : List Str, (pds (ss.map .str)).any (fun z => PyData.eqv z (.list l)) = false
  | [] => rfl
  | s :: r => by
    simp only [List.map_cons, pds, List.any_cons, any_strs r, Bool.or_false]
    simp [pd, PyData.eqv]
theorem W_inB_ref {n : Nat} {l : List MV} {ss : List Str} {m : Mem} {Q : MV → Mem → Prop} {E : Exn → Mem → Prop} (hn : m[n]? = some (.lst l)) (hl : Das l) (ds : Da (.tup (ss.map .str))) (q : Q (.bl false) m) : MI.W (gInB false (.ref n) (.tup (ss.map .str)) m) Q E := by
  unfold gInB
  rw [if_pos ⟨⟨_, rfl⟩, rfl⟩]
  unfold gInT
  rw [dat_l hn hl, dat_pu m _ fuel ds.pu (Nat.le_trans ds.fl (by decide))]
  have sh := shaped_pu ds.pu (by have := ds.dp; omega)
  simp only [pd] at sh ⊢
  rw [if_pos ⟨shaped_pus hl.pu (by have := hl.dp; omega), sh⟩]
  show Q (.bl ((pds (ss.map .str)).any fun z => PyData.eqv z (.list (pds l)))) m
  rw [any_strs]
  exact q
def linkB : MV → Bool
  | .tup [.str s, _] => decide (s ∈ signs)
  | _ => false
theorem linksV_ok {S : List Nat} {k : Nat} {m : Mem} {l : List MV} (h : TyV S m (.tup l)) (hh : ∀ x y, .tup [x, y] ∈ l → HeadOk m x) : MI.W ((Tab (k + 2)).f .u_are_links [.tup l] m) (fun d m' => d = .bl (l.all linkB) ∧ Kp [] m m') E0 := by
  obtain ⟨h1, h2⟩ := h.items
  show MI.W (f_u_are_links (Tab (k + 1)) [.tup l] m) _ _
  unfold f_u_are_links b_u_are_links
  simp [startM]
  refine W_pure (fun d => .bl (linkB d)) (fun _ => true) trivial (fun d hd => ⟨rfl, fun _ => ?_⟩) (by omega) ?_
  · have td := h1 d hd
    refine W_eq ?_
    simp [wipeM]
    refine (istV_ok (k := k) td.typed (fun l' e => by rw [e] at td; have := td.items.2; omega)).mono ?_
    rintro d' m' ⟨rfl, rfl⟩
    cases d with
    | tup q =>
      by_cases e : q.length = 2
      · obtain ⟨x, y, rfl⟩ : ∃ x y, q = [x, y] := by
          match q, e with
          | [x, y], _ => exact ⟨x, y, rfl⟩
        simp [tupB]
        rcases hh x y hd with ⟨s, rfl⟩ | ⟨n, lx, rfl, hx, dx⟩
        · have key : ∀ (m : Mem) (Q : MV → Mem → Prop) (E : Exn → Mem → Prop), MI.W (gInA false (.str s) c_SIGNS m) Q E = Q (.bl (decide (s ∈ signs))) m := fun m Q E => W_in_strs (l := signs) (neg := false)
          simp
          erw [key]
          simp [linkB]
        · exact W_inB_ref (ss := signs) hx dx ⟨by decide +kernel, by decide +kernel, by decide +kernel⟩ (by simp [linkB])
      · have e1 : tupB (.tup q) 2 2 = false := by unfold tupB; simp; omega
        have e2 : linkB (.tup q) = false := by
          unfold linkB
          split
          · rename_i h; cases h; simp at e
          · rfl
        rw [e1, e2]
        simp
    | _ => simp [linkB, tupB]
  · rw [filter_all, W_all (bs := l.map linkB) (by rw [List.map_map]; exact List.getElem?_concat_length)]
    refine ⟨?_, Kp.push⟩
    rw [List.all_map]
    rfl
theorem links_form {l : List MV} (h : l.all linkB = true) : ∃ sg es, l = List.zipWith (fun s x => MV.tup [.str s, x]) sg es ∧ sg.length = es.length ∧ sg.length = l.length ∧ ∀ s ∈ sg, s ∈ signs := by
  induction l with
  | nil => exact ⟨[], [], rfl, rfl, rfl, by simp⟩
  | cons d r ih =>
    rw [List.all_cons, Bool.and_eq_true] at h
    obtain ⟨sg, es, h1, h2, h3, h4⟩ := ih h.2
    have hd := h.1
    unfold linkB at hd
    split at hd
    · rename_i s x
      refine ⟨s :: sg, x :: es, by rw [h1]; rfl, by simp [h2], by simp [h3], fun y hy => ?_⟩
      rcases List.mem_cons.mp hy with rfl | hy
      · simpa using hd
      · exact h4 y hy
    · cases hd
theorem form_links {sg : List Str} {es : List MV} (h : sg.length = es.length) (hs : ∀ s ∈ sg, s ∈ signs) : (List.zipWith (fun s x => MV.tup [.str s, x]) sg es).all linkB = true := by
  rw [List.all_eq_true]
  intro d hd
  obtain ⟨i, hi, rfl⟩ := List.mem_iff_getElem.mp hd
  simp only [List.getElem_zipWith]
  unfold linkB
  simpa using hs _ (List.getElem_mem _)
end K17
set_option maxHeartbeats 4000000
namespace K17
open PySem L2 MI
theorem formV_iff {w : Str} {r : List MV} : FormV (.tup (.str w :: r)) ↔ (w = "name" ∧ ∃ s, r = [.str s] ∧ IsName s) ∨ (w = "call" ∧ ∃ s es, r = [.str s, .tup es] ∧ IsName s ∧ es.length ≤ 3) ∨ (w = "compare" ∧ ∃ a ls, r = [a, .tup ls] ∧ 1 ≤ ls.length ∧ ls.length ≤ 4 ∧ ls.all linkB = true) ∨ k_LENGTHS.lookup w = some (.int (r.length + 1)) := by
  constructor
  · rintro ⟨h, es, e, ok⟩
    cases h with
    | name s =>
      simp [encH] at e
      obtain ⟨rfl, rfl⟩ := e
      exact .inl ⟨rfl, s, rfl, ok.1⟩
    | call s =>
      simp [encH] at e
      obtain ⟨rfl, rfl⟩ := e
      exact .inr (.inl ⟨rfl, s, es, rfl, ok.1, ok.2⟩)
    | cmp sg =>
      obtain ⟨c1, c2, c3, c4⟩ := (show sg.length + 1 = es.length ∧ 1 ≤ sg.length ∧ sg.length ≤ 4 ∧ ∀ s ∈ sg, s ∈ (["<", "<=", ">", ">=", "==", "!="] : List Str) from ok)
      cases es with
      | nil => simp at c1
      | cons a es =>
        have ce : sg.length = es.length := by simpa using c1
        simp [encH] at e
        obtain ⟨rfl, rfl⟩ := e
        exact .inr (.inr (.inl ⟨rfl, a, _, rfl, by simp; omega, by simp; omega, form_links ce c4⟩))
    | op w' =>
      simp [encH] at e
      obtain ⟨rfl, rfl⟩ := e
      exact .inr (.inr (.inr ok))
  · rintro (⟨rfl, s, rfl, hs⟩ | ⟨rfl, s, es, rfl, hs, hl⟩ | ⟨rfl, a, ls, rfl, l1, l2, hl⟩ | h)
    · exact ⟨.name s, [], rfl, hs, rfl⟩
    · exact ⟨.call s, es, rfl, hs, hl⟩
    · obtain ⟨sg, es, e1, e2, e3, e4⟩ := links_form hl
      exact ⟨.cmp sg, a :: es, by rw [e1]; rfl, by simp; omega, by omega, by omega, e4⟩
    · exact ⟨.op w, r, rfl, h⟩
theorem encH_tup {h : Hd} {es : List MV} : ∃ w r, encH h es = .tup (.str w :: r) := by cases h <;> exact ⟨_, _, rfl⟩
theorem formV_no {d : MV} (h : ∀ w r, d ≠ .tup (.str w :: r)) : ¬ FormV d := by
  rintro ⟨hd, es, rfl, _⟩
  obtain ⟨w, r, e⟩ := encH_tup (h := hd) (es := es)
  exact h w r e
theorem lookup_int {w : Str} {c : MV} (h : k_LENGTHS.lookup w = some c) : ∃ i : Int, c = .int i ∧ w ≠ ("name" : Str) ∧ w ≠ ("call" : Str) ∧ w ≠ ("compare" : Str) := by
  have c' : (w, c) ∈ k_LENGTHS := lookup_mem h
  simp [k_LENGTHS] at c'
  rcases c' with ⟨rfl, c⟩ | ⟨rfl, c⟩ | ⟨rfl, c⟩ | ⟨rfl, c⟩ | ⟨rfl, c⟩ | ⟨rfl, c⟩ | ⟨rfl, c⟩ | ⟨rfl, c⟩ | ⟨rfl, c⟩ <;> exact ⟨_, c, by decide, by decide, by decide⟩
/-- a truth, and nothing else has changed -/
structure BI (P : Prop) (m : Mem) (v : MV) (m' : Mem) : Prop where
  ex : ∃ b : Bool, v = .bl b ∧ (b = true ↔ P)
  kp : Kp [] m m'
theorem BI.no {P : Prop} {m m' : Mem} (h : ¬ P) (k : Kp [] m m') : BI P m (.bl false) m' := ⟨⟨false, rfl, by simp [h]⟩, k⟩
theorem BI.is {P : Prop} {m m' : Mem} {b : Bool} (h : b = true ↔ P) (k : Kp [] m m') : BI P m (.bl b) m' := ⟨⟨b, rfl, h⟩, k⟩
theorem len2 {r : List MV} (h : r.length = 2) : ∃ y z, r = [y, z] := by
  match r, h with
  | [x, y], _ => exact ⟨x, y, rfl⟩
theorem hasform_ok {S : List Nat} {k : Nat} {m : Mem} {d : MV} (h : TyV S m d) : MI.W ((Tab (k + 3)).f .u_has_form [d] m) (BI (FormV d) m) E0 := by
  show MI.W (f_u_has_form (Tab (k + 2)) [d] m) _ _
  unfold f_u_has_form b_u_has_form
  have e := isi_tup h.typed
  have ktt := kit_tt
  have kss := kit_ss
  by_cases c : isTup d = true
  · cases d with
    | tup l =>
      obtain ⟨hi, hl⟩ := h.items
      cases l with
      | nil =>
        simp [startM, ktt]
        exact BI.no (formV_no (fun w r z => by cases z)) Kp.refl
      | cons x r =>
        have l0 : ¬ ((r.length : Int) + 1 = 0) := by omega
        have tx := hi x (by simp)
        have ex := isi_str tx.typed
        by_cases cx : isStr x = true
        · cases x with
          | str w =>
            by_cases w1 : w = "name"
            · subst w1
              simp [startM, ktt, kss, l0]
              by_cases l2 : r.length = 1
              · obtain ⟨y, rfl⟩ : ∃ y, r = [y] := List.length_eq_one_iff.mp l2
                have ty := hi y (by simp)
                simp
                refine (isnameV_ok (k := k + 1) ty.typed ty.str).mono ?_
                rintro d m1 ⟨rfl, k1⟩
                have q : (nameB y = true ↔ FormV (.tup [.str "name", y])) := by
                  rw [formV_iff]
                  constructor
                  · intro hy
                    cases y with
                    | str s => exact .inl ⟨rfl, s, rfl, by simpa [nameB] using hy⟩
                    | _ => cases hy
                  · rintro (⟨_, s, e, hs⟩ | ⟨e, _⟩ | ⟨e, _⟩ | e)
                    · cases e; simpa [nameB] using hs
                    · exact absurd e (by decide)
                    · exact absurd e (by decide)
                    · exact absurd rfl (lookup_int e).choose_spec.2.1
                exact BI.is q k1
              · have l3 : ¬ ((r.length : Int) + 1 = 2) := by omega
                simp [l3]
                refine BI.no ?_ Kp.refl
                rw [formV_iff]
                rintro (⟨_, s, e, hs⟩ | ⟨e, _⟩ | ⟨e, _⟩ | e)
                · subst e; simp at l2
                · exact absurd e (by decide)
                · exact absurd e (by decide)
                · exact absurd rfl (lookup_int e).choose_spec.2.1
            · by_cases w2 : w = "call"
              · subst w2
                simp [startM, ktt, kss, l0, show ¬ (("call" : Str) = "name") by decide]
                by_cases l2 : r.length = 2
                · obtain ⟨y, z, rfl⟩ : ∃ y z, r = [y, z] := len2 l2
                  have ty := hi y (by simp)
                  have tz := hi z (by simp)
                  simp
                  refine (isnameV_ok (k := k + 1) ty.typed ty.str).mono ?_
                  rintro d m1 ⟨rfl, k1⟩
                  have q : ((nameB y && tupB z 0 3) = true ↔ FormV (.tup [.str "call", y, z])) := by
                    rw [formV_iff]
                    constructor
                    · intro hy
                      rw [Bool.and_eq_true] at hy
                      obtain ⟨h1, h2⟩ := hy
                      cases y with
                      | str s =>
                        cases z with
                        | tup es => exact .inr (.inl ⟨rfl, s, es, rfl, by simpa [nameB] using h1, by simp [tupB] at h2; omega⟩)
                        | _ => cases h2
                      | _ => cases h1
                    · rintro (⟨e, _⟩ | ⟨_, s, es, e, hs, hl⟩ | ⟨e, _⟩ | e)
                      · exact absurd e (by decide)
                      · cases e; simp [nameB, hs, tupB]; omega
                      · exact absurd e (by decide)
                      · exact absurd rfl (lookup_int e).choose_spec.2.2.1
                  cases hn : nameB y with
                  | false =>
                    rw [hn] at q
                    simp
                    exact BI.no (fun z => by have := q.mpr z; simp at this) k1
                  | true =>
                    rw [hn] at q
                    simp
                    refine (istV_ok (k := k + 1) (TyV.kp k1 _ tz).typed (fun l' e' => by rw [e'] at tz; have := tz.items.2; omega)).mono ?_
                    rintro d m2 ⟨rfl, rfl⟩
                    simpa using BI.is q (k1)
                · have l3 : ¬ ((r.length : Int) + 1 = 3) := by omega
                  simp [l3]
                  refine BI.no ?_ Kp.refl
                  rw [formV_iff]
                  rintro (⟨e, _⟩ | ⟨_, s, es, e, hs⟩ | ⟨e, _⟩ | e)
                  · exact absurd e (by decide)
                  · subst e; simp at l2
                  · exact absurd e (by decide)
                  · exact absurd rfl (lookup_int e).choose_spec.2.2.1
              · by_cases w3 : w = "compare"
                · subst w3
                  simp [startM, ktt, kss, l0, show ¬ (("compare" : Str) = "name") by decide, show ¬ (("compare" : Str) = "call") by decide]
                  by_cases l2 : r.length = 2
                  · obtain ⟨y, z, rfl⟩ : ∃ y z, r = [y, z] := len2 l2
                    have tz := hi z (by simp)
                    simp
                    refine (istV_ok (k := k + 1) tz.typed (fun l' e' => by rw [e'] at tz; have := tz.items.2; omega)).mono ?_
                    rintro d m1 ⟨rfl, rfl⟩
                    have q : ((match z with | .tup ls => tupB z 1 4 && ls.all linkB | _ => false) = true ↔ FormV (.tup [.str "compare", y, z])) := by
                      rw [formV_iff]
                      constructor
                      · intro hy
                        cases z with
                        | tup ls =>
                          simp only [Bool.and_eq_true] at hy
                          obtain ⟨h1, h2⟩ := hy
                          simp only [tupB, Bool.and_eq_true, decide_eq_true_eq] at h1
                          exact .inr (.inr (.inl ⟨rfl, y, ls, rfl, by omega, by omega, h2⟩))
                        | _ => cases hy
                      · rintro (⟨e, _⟩ | ⟨e, _⟩ | ⟨_, a, ls, e, h1, h2, h3⟩ | e)
                        · exact absurd e (by decide)
                        · exact absurd e (by decide)
                        · cases e
                          simp only [tupB, h3, Bool.and_true, Bool.and_eq_true, decide_eq_true_eq]
                          omega
                        · exact absurd rfl (lookup_int e).choose_spec.2.2.2
                    cases hz : tupB z 1 4 with
                    | false =>
                      refine BI.no ?_ Kp.refl
                      rw [← q]
                      cases z <;> simp [hz]
                    | true =>
                      cases z with
                      | tup ls =>
                        simp
                        refine (linksV_ok (k := k) tz (fun x' y' hx => (by unfold TyV at h; exact h.2.2 y ls x' y' rfl hx))).mono ?_
                        rintro d m2 ⟨rfl, k2⟩
                        have q' : (ls.all linkB = true ↔ FormV (.tup [.str "compare", y, .tup ls])) := by rw [← q]; simp only [hz, Bool.true_and]
                        exact BI.is q' k2
                      | _ => cases hz
                  · have l3 : ¬ ((r.length : Int) + 1 = 3) := by omega
                    simp [l3]
                    refine BI.no ?_ Kp.refl
                    rw [formV_iff]
                    rintro (⟨e, _⟩ | ⟨e, _⟩ | ⟨_, a, ls, e, _⟩ | e)
                    · exact absurd e (by decide)
                    · exact absurd e (by decide)
                    · subst e; simp at l2
                    · exact absurd rfl (lookup_int e).choose_spec.2.2.2
                · simp [startM, ktt, kss, l0, w1, w2, w3]
                  have q0 : FormV (.tup (.str w :: r)) ↔ k_LENGTHS.lookup w = some (.int (r.length + 1)) := by
                    rw [formV_iff]
                    constructor
                    · rintro (⟨e, _⟩ | ⟨e, _⟩ | ⟨e, _⟩ | e)
                      · exact absurd e w1
                      · exact absurd e w2
                      · exact absurd e w3
                      · exact e
                    · exact fun e => .inr (.inr (.inr e))
                  cases hw : k_LENGTHS.lookup w with
                  | none =>
                    simp
                    exact BI.no (by rw [q0, hw]; simp) Kp.refl
                  | some c =>
                    obtain ⟨i, rfl, _⟩ := lookup_int hw
                    simp
                    exact BI.is (by rw [q0, hw]; simp [eq_comm]) Kp.refl
          | _ => cases cx
        · rw [show isStr x = false by simpa using cx] at ex
          simp [startM, ktt, l0, ex]
          refine BI.no (formV_no (fun w r' z => ?_)) Kp.refl
          cases z
          exact cx rfl
    | _ => cases c
  · rw [show isTup d = false by simpa using c] at e
    simp [startM, e]
    refine BI.no (formV_no (fun w r z => ?_)) Kp.refl
    subst z
    exact c rfl
end K17
set_option maxHeartbeats 4000000
namespace K17
open PySem L2 MI
def Cover (n : Nat) (S : List Str) : Prop := ∃ vs : List Str, vs.length ≤ n ∧ ∀ x ∈ S, x ∈ vs
theorem nodup_le : ∀ {a vs : List Str}, a.Nodup → (∀ x ∈ a, x ∈ vs) → a.length ≤ vs.length
  | [], _, _, _ => Nat.zero_le _
  | x :: a, vs, nd, h => by
    have hx : x ∈ vs := h x List.mem_cons_self
    obtain ⟨n1, n2⟩ := List.nodup_cons.mp nd
    have := nodup_le (a := a) (vs := vs.erase x) n2 fun y hy => by
      have ne : y ≠ x := fun e => n1 (e ▸ hy)
      exact (List.mem_erase_of_ne ne).mpr (h y (List.mem_cons_of_mem _ hy))
    rw [List.length_erase_of_mem hx] at this
    have pos : 0 < vs.length := List.length_pos_of_mem hx
    simp only [List.length_cons]
    omega
abbrev St := List (T × Nat)
def stSize (st : St) : Nat := (st.map fun p => size p.1).sum
def stPl (st : St) : Nat := (st.map fun p => places p.1).sum
def stNm (st : St) : List Str := (st.map fun p => names p.1).flatten
/-- what is asked of what is still to be looked at -/
def Fits (n p : Nat) (ns : List Str) (st : St) : Prop := n + stSize st ≤ 40 ∧ p + stPl st ≤ 6 ∧ Cover 4 (ns ++ stNm st) ∧ ∀ q ∈ st, q.2 + levels q.1 ≤ 13
def nmD (ns : List Str) : List (Key × MV) := ns.map fun s => (.inr s, .bl true)
def addN (ns : List Str) (s : Str) : List Str := if s ∈ ns then ns else ns ++ [s]
theorem putM_nm {ns : List Str} {s : Str} : putM (nmD ns) (.inr s) (.bl true) = nmD (addN ns s) := by
  unfold putM addN
  have e : ((nmD ns).any fun kv => decide (kv.fst = Sum.inr s)) = decide (s ∈ ns) := by
    unfold nmD
    rw [List.any_map]
    induction ns with
    | nil => rfl
    | cons x r ih =>
      rw [List.any_cons, ih]
      by_cases h : x = s
      · subst h; simp
      · simp [h, Ne.symm h]
  rw [e]
  by_cases h : s ∈ ns
  · simp only [h, decide_true, if_true]
    unfold nmD
    rw [List.map_map]
    refine List.map_congr_left fun x _ => ?_
    show (if (Sum.inr x : Key) = Sum.inr s then _ else _) = _
    split
    · rename_i q; cases q; rfl
    · rfl
  · simp [h, nmD]
theorem addN_nodup {ns : List Str} {s : Str} (h : ns.Nodup) : (addN ns s).Nodup := by
  unfold addN
  split
  · exact h
  · rw [List.nodup_append]
    refine ⟨h, by simp, fun a ha b hb => ?_⟩
    simp at hb
    subst hb
    intro e
    subst e
    exact absurd ha ‹_›
theorem addN_mem {ns : List Str} {s x : Str} : x ∈ addN ns s ↔ x ∈ ns ∨ x = s := by
  unfold addN
  split
  · constructor
    · exact .inl
    · rintro (h | rfl)
      · exact h
      · assumption
  · simp
theorem own_ok {k : Nat} {m : Mem} {h : Hd} {es : List MV} (hok : HdOk h es.length) : MI.W ((Tab (k + 1)).f .u_own_places [encH h es] m) (fun d m' => d = .int (hdPl h) ∧ m' = m) E0 := by
  show MI.W (f_u_own_places (Tab k) [encH h es] m) _ _
  unfold f_u_own_places b_u_own_places
  cases h with
  | name s => simp [startM, encH, hdPl, show ¬ (("name" : Str) = "call") by decide, show ¬ (("name" : Str) = "compare") by decide]
  | call s => simp [startM, encH, hdPl]
  | cmp sg =>
    have c1 : sg.length + 1 = es.length := hok.1
    cases es with
    | nil => simp at c1
    | cons a es =>
      have ce : sg.length = es.length := by simpa using c1
      simp [startM, encH, hdPl, show ¬ (("compare" : Str) = "call") by decide]
      omega
  | op w =>
    obtain ⟨n1, n2, n3, n4⟩ := op_word hok
    simp [startM, encH, n2, n3, hdPl]
theorem sizes_sum : ∀ l : List T, sizes l = (l.map size).sum
  | [] => rfl
  | t :: r => by simp [sizes, sizes_sum r]
theorem placess_sum : ∀ l : List T, placess l = (l.map places).sum
  | [] => rfl
  | t :: r => by simp [placess, placess_sum r]
theorem namess_flat : ∀ l : List T, namess l = (l.map names).flatten
  | [] => rfl
  | t :: r => by simp [namess, namess_flat r]
theorem levelss_le : ∀ {l : List T} {n : Nat}, levelss l ≤ n ↔ ∀ t ∈ l, levels t ≤ n
  | [], n => by simp [levelss]
  | t :: r, n => by
    have := levelss_le (l := r) (n := n)
    simp [levelss, Nat.max_le, this]
def kids (l : List T) (lv : Nat) : St := l.map fun t => (t, lv + 1)
def nsOf (h : Hd) (ns : List Str) : List Str := match h with
  | .name s => addN ns s
  | _ => ns
theorem nsOf_mem {h : Hd} {ns : List Str} {x : Str} : x ∈ nsOf h ns ↔ x ∈ ns ∨ x ∈ hdNm h := by
  cases h <;> simp [nsOf, hdNm, addN_mem]
theorem nsOf_nodup {h : Hd} {ns : List Str} (a : ns.Nodup) : (nsOf h ns).Nodup := by
  cases h with
  | name s => exact addN_nodup a
  | _ => exact a
theorem st_size {st : St} {h : Hd} {l : List T} {lv : Nat} : stSize (st ++ [(.node h l, lv)]) = stSize st + 1 + sizes l ∧ stSize (st ++ kids l lv) = stSize st + sizes l := by
  constructor
  · simp [stSize, size]; omega
  · simp [stSize, kids, sizes_sum, Function.comp_def]
theorem st_pl {st : St} {h : Hd} {l : List T} {lv : Nat} : stPl (st ++ [(.node h l, lv)]) = stPl st + (hdPl h + placess l) ∧ stPl (st ++ kids l lv) = stPl st + placess l := by
  constructor
  · simp [stPl, places]
  · simp [stPl, kids, placess_sum, Function.comp_def]
theorem st_nm {st : St} {h : Hd} {l : List T} {lv : Nat} : stNm (st ++ [(.node h l, lv)]) = stNm st ++ (hdNm h ++ namess l) ∧ stNm (st ++ kids l lv) = stNm st ++ namess l := by
  constructor
  · simp [stNm, names]
  · simp [stNm, kids, namess_flat, Function.comp_def]
theorem fits_step {h : Hd} {l : List T} {lv many pl : Nat} {ns : List Str} {st : St} (hlv : lv ≤ 12) : Fits many pl ns (st ++ [(.node h l, lv)]) ↔ Fits (many + 1) (pl + hdPl h) (nsOf h ns) (st ++ kids l lv) := by
  unfold Fits
  rw [st_size.1, (st_size (h := h)).2, st_pl.1, (st_pl (h := h)).2, st_nm.1, (st_nm (h := h)).2]
  have c : Cover 4 (ns ++ (stNm st ++ (hdNm h ++ namess l))) ↔ Cover 4 (nsOf h ns ++ (stNm st ++ namess l)) := by
    constructor
    · rintro ⟨vs, h1, h2⟩
      refine ⟨vs, h1, fun x hx => h2 x ?_⟩
      simp only [List.mem_append, nsOf_mem] at hx ⊢
      rcases hx with (hx | hx) | hx | hx <;> simp [hx]
    · rintro ⟨vs, h1, h2⟩
      refine ⟨vs, h1, fun x hx => h2 x ?_⟩
      simp only [List.mem_append, nsOf_mem] at hx ⊢
      rcases hx with hx | hx | hx | hx <;> simp [hx]
  rw [c]
  have d : (∀ q ∈ st ++ [((.node h l : T), lv)], q.2 + levels q.1 ≤ 13) ↔ ∀ q ∈ st ++ kids l lv, q.2 + levels q.1 ≤ 13 := by
    constructor
    · intro a q hq
      rcases List.mem_append.mp hq with hq | hq
      · exact a q (by simp [hq])
      · obtain ⟨t, ht, rfl⟩ := List.mem_map.mp hq
        have := a (.node h l, lv) (by simp)
        simp only [levels] at this
        have := (levelss_le (n := levelss l)).mp (Nat.le_refl _) t ht
        show lv + 1 + levels t ≤ 13
        omega
    · intro a q hq
      rcases List.mem_append.mp hq with hq | hq
      · exact a q (by simp [hq])
      · simp at hq
        subst hq
        have : levelss l ≤ 12 - lv := levelss_le.mpr fun t ht => by
          have := a (t, lv + 1) (by simp [kids]; exact .inr ht)
          simp at this
          omega
        simp only [levels]
        omega
  rw [d]
  constructor
  · rintro ⟨a, b, c, d⟩; exact ⟨by omega, by omega, c, d⟩
  · rintro ⟨a, b, c, d⟩; exact ⟨by omega, by omega, c, d⟩
theorem fits_names {many pl : Nat} {ns : List Str} {st : St} (nd : ns.Nodup) (f : Fits many pl ns st) : ns.length ≤ 4 := by
  obtain ⟨vs, h1, h2⟩ := f.2.2.1
  exact Nat.le_trans (nodup_le nd fun x hx => h2 x (by simp [hx])) h1
def word : Hd → Str
  | .name _ => "name"
  | .call _ => "call"
  | .cmp _ => "compare"
  | .op w => w
theorem head_ok {h : Hd} {es : List MV} {m : Mem} {Q : MV → Mem → Prop} {E : Exn → Mem → Prop} : MI.W (gItem (encH h es) (.int 0) m) Q E = Q (.str (word h)) m := by
  cases h <;> simp [encH, word]
noncomputable def rest (ck : Tabl) : MS := (mSeq (mAsg (mBin gAdd (mVar 4) (mCall (ck.f .u_own_places) (mCons (mVar 5) mNil))) (nName 4))
    (mSeq (mIfS (mOrT (mB (mBin gGt (mCall gLen (mCons (mVar 2) mNil)) (mC c_MOST_VARIABLES))) (mB (mBin gGt (mVar 4) (mC c_MOST_PLACES))))
    (mRaise "InvalidExpression")
    mSkip)
    (mDrop (mBM gExtend (mVar 1) (mCons (mLc (mAnyI (mCall (ck.f .operands) (mCons (mVar 5) mNil))) (ngName 7) mYes (mTup (mCons (mVar 7) (mCons (mBin gAdd (mVar 6) (mC (.int 1))) mNil))) [7]) mNil)))))
def stW (st : List (MV × Nat)) : List MV := st.map fun p => .tup [p.1, .int p.2]
def kidsV (es : List MV) (lv : Nat) : List (MV × Nat) := es.map fun e => (e, lv + 1)
def FitsV (many pl : Nat) (ns : List Str) (st : List (MV × Nat)) : Prop := ∃ ts : St, st = ts.map (fun p => (enc p.1, p.2)) ∧ (∀ q ∈ ts, Ok q.1) ∧ Fits many pl ns ts
theorem stW_snoc {st : List (MV × Nat)} {d : MV} {lv : Nat} : stW (st ++ [(d, lv)]) = stW st ++ [.tup [d, .int lv]] := by simp [stW]
theorem hd_len {h : Hd} {n : Nat} (ok : HdOk h n) : n ≤ 5 := by
  cases h with
  | name s => have : n = 0 := ok.2; omega
  | call s => have : n ≤ 3 := ok.2; omega
  | cmp sg => obtain ⟨c1, c2, c3, c4⟩ := (show sg.length + 1 = n ∧ 1 ≤ sg.length ∧ sg.length ≤ 4 ∧ ∀ s ∈ sg, s ∈ (["<", "<=", ">", ">=", "==", "!="] : List Str) from ok); omega
  | op w => obtain ⟨n1, n2, n3, n4⟩ := op_word ok; omega
theorem zip_inj : ∀ {sg sg' : List Str} {es es' : List MV}, sg.length = es.length → sg'.length = es'.length → List.zipWith (fun s x => MV.tup [.str s, x]) sg es = List.zipWith (fun s x => MV.tup [.str s, x]) sg' es' → sg = sg' ∧ es = es'
  | [], [], [], [], _, _, _ => ⟨rfl, rfl⟩
  | [], s :: sg', [], e :: es', _, _, h => by simp at h
  | s :: sg, [], e :: es, [], _, _, h => by simp at h
  | s :: sg, s' :: sg', e :: es, e' :: es', h1, h2, h => by
    simp at h
    obtain ⟨⟨a, b⟩, c⟩ := h
    obtain ⟨d, f⟩ := zip_inj (by simpa using h1) (by simpa using h2) c
    exact ⟨by rw [a, d], by rw [b, f]⟩
  | [], _, _ :: _, _, h, _, _ => by simp at h
  | _ :: _, _, [], _, h, _, _ => by simp at h
  | _, [], _, _ :: _, _, h, _ => by simp at h
  | _, _ :: _, _, [], _, h, _ => by simp at h
theorem encH_inj {h h' : Hd} {es es' : List MV} (o : HdOk h es.length) (o' : HdOk h' es'.length) (e : encH h es = encH h' es') : h = h' ∧ es = es' := by
  have len0 : ∀ {s : Str} {n : Nat}, HdOk (.name s) n → n = 0 := fun h => h.2
  cases h with
  | name s =>
    have e1 : es = [] := List.length_eq_zero_iff.mp (len0 o)
    cases h' with
    | name s' =>
      have e2 : es' = [] := List.length_eq_zero_iff.mp (len0 o')
      simp [encH] at e
      exact ⟨by rw [e], by rw [e1, e2]⟩
    | call s' => simp [encH] at e
    | cmp sg' => simp [encH] at e
    | op w => simp [encH] at e; exact absurd e.1.symm (op_word o').1
  | call s =>
    cases h' with
    | name s' => simp [encH] at e
    | call s' => simp [encH] at e; exact ⟨by rw [e.1], e.2⟩
    | cmp sg' => simp [encH, show ¬ (("call" : Str) = "compare") by decide] at e
    | op w => simp [encH] at e; exact absurd e.1.symm (op_word o').2.1
  | cmp sg =>
    obtain ⟨c1, c2, c3, c4⟩ := (show sg.length + 1 = es.length ∧ 1 ≤ sg.length ∧ sg.length ≤ 4 ∧ ∀ s ∈ sg, s ∈ (["<", "<=", ">", ">=", "==", "!="] : List Str) from o)
    cases h' with
    | name s' => simp [encH] at e
    | call s' => simp [encH, show ¬ (("compare" : Str) = "call") by decide] at e
    | cmp sg' =>
      obtain ⟨d1, d2, d3, d4⟩ := (show sg'.length + 1 = es'.length ∧ 1 ≤ sg'.length ∧ sg'.length ≤ 4 ∧ ∀ s ∈ sg', s ∈ (["<", "<=", ">", ">=", "==", "!="] : List Str) from o')
      cases es with
      | nil => simp at c1
      | cons a es =>
        cases es' with
        | nil => simp at d1
        | cons a' es' =>
          simp [encH] at e
          obtain ⟨x, y⟩ := zip_inj (by simpa using c1) (by simpa using d1) e.2
          exact ⟨by rw [x], by rw [e.1, y]⟩
    | op w => simp [encH] at e; exact absurd e.1.symm (op_word o').2.2.1
  | op w =>
    cases h' with
    | name s' => simp [encH] at e; exact absurd e.1 (op_word o).1
    | call s' => simp [encH] at e; exact absurd e.1 (op_word o).2.1
    | cmp sg' => simp [encH] at e; exact absurd e.1 (op_word o).2.2.1
    | op w' => simp [encH] at e; exact ⟨by rw [e.1], e.2⟩
theorem encs_map : ∀ l : List T, encs l = l.map enc
  | [] => rfl
  | t :: r => by simp [encs, encs_map r]
theorem Oks.of : ∀ {l : List T}, (∀ t ∈ l, Ok t) → Oks l
  | [], _ => .nil
  | t :: r, h => .cons (h t List.mem_cons_self) (Oks.of fun x hx => h x (List.mem_cons_of_mem _ hx))
theorem fitsV_step {h : Hd} {es : List MV} {lv many pl : Nat} {ns : List Str} {st : List (MV × Nat)} (o : HdOk h es.length) (hlv : lv ≤ 12) : FitsV many pl ns (st ++ [(encH h es, lv)]) ↔ FitsV (many + 1) (pl + hdPl h) (nsOf h ns) (st ++ kidsV es lv) := by
  constructor
  · rintro ⟨ts, e, ok, f⟩
    obtain ⟨ts', t, rfl⟩ : ∃ ts' t, ts = ts' ++ [t] := by
      cases hn : ts.reverse with
      | nil => rw [List.reverse_eq_nil_iff] at hn; subst hn; simp at e
      | cons t r => exact ⟨r.reverse, t, by rw [← List.reverse_reverse ts, hn]; simp⟩
    rw [List.map_append] at e
    obtain ⟨e1, e2⟩ := List.append_inj' e rfl
    obtain ⟨⟨h', l⟩, lv'⟩ := t
    simp at e2
    obtain ⟨e2, rfl⟩ := e2
    obtain ⟨o1, o2⟩ := (ok (.node h' l, lv) (by simp)).hd
    rw [enc_node] at e2
    obtain ⟨rfl, rfl⟩ := encH_inj o o1 e2
    refine ⟨ts' ++ kids l lv, ?_, fun q hq => ?_, (fits_step hlv).mp f⟩
    · rw [List.map_append, e1]
      congr 1
      unfold kidsV kids
      rw [encs_map, List.map_map, List.map_map]
      rfl
    · rcases List.mem_append.mp hq with hq | hq
      · exact ok q (by simp [hq])
      · obtain ⟨t, ht, rfl⟩ := List.mem_map.mp hq
        exact o2.mem ht
  · rintro ⟨ts, e, ok, f⟩
    have hl : st.length ≤ ts.length := by have := congrArg List.length e; simp [kidsV] at this; omega
    have e1 : st = (ts.take st.length).map (fun p => (enc p.1, p.2)) := by
      have := congrArg (List.take st.length) e
      rw [List.take_left, ← List.map_take] at this
      exact this
    have e2 : kidsV es lv = (ts.drop st.length).map (fun p => (enc p.1, p.2)) := by
      have := congrArg (List.drop st.length) e
      rw [List.drop_left, ← List.map_drop] at this
      exact this
    have split : ts = ts.take st.length ++ ts.drop st.length := (List.take_append_drop _ _).symm
    generalize ts.take st.length = t1 at e1 split
    generalize ts.drop st.length = t2 at e2 split
    subst split
    have k2 : t2 = kids (t2.map (·.1)) lv := by
      unfold kids
      rw [List.map_map]
      have : ∀ p ∈ t2, p.2 = lv + 1 := fun p hp => by
        have : (enc p.1, p.2) ∈ kidsV es lv := by rw [e2]; exact List.mem_map_of_mem hp
        obtain ⟨x, _, hx⟩ := List.mem_map.mp this
        injection hx with _ hx
        exact hx.symm
      conv => lhs; rw [← List.map_id t2]
      refine List.map_congr_left fun p hp => ?_
      rw [← this p hp]
      rfl
    have ee : es = encs (t2.map (·.1)) := by
      have := congrArg (List.map Prod.fst) e2
      unfold kidsV at this
      rw [List.map_map, List.map_map] at this
      rw [encs_map, List.map_map]
      have i : (Prod.fst ∘ fun e : MV => (e, lv + 1)) = id := rfl
      rw [i, List.map_id] at this
      exact this
    have okl : Oks (t2.map (·.1)) := Oks.of fun t ht => by
      obtain ⟨p, hp, rfl⟩ := List.mem_map.mp ht
      exact ok p (by simp [hp])
    refine ⟨t1 ++ [(.node h (t2.map (·.1)), lv)], ?_, fun q hq => ?_, ?_⟩
    · rw [List.map_append, e1]
      simp [enc_node, ← ee]
    · rcases List.mem_append.mp hq with hq | hq
      · exact ok q (by simp [hq])
      · simp at hq
        subst hq
        exact .node (by rw [ee, encs_length] at o; exact o) okl
    · rw [fits_step hlv, ← k2]
      exact f
end K17
set_option maxHeartbeats 4000000
namespace K17
open PySem L2 MI
theorem mem_sum : ∀ {l : List Nat} {x : Nat}, x ∈ l → x ≤ l.sum
  | y :: r, x, h => by
    rcases List.mem_cons.mp h with rfl | h
    · simp
    · have := mem_sum h; simp; omega
theorem restV_ok {k : Nat} {m0 M : Mem} {e0 x7 : Option MV} {w nm many pl lv : Nat} {h : Hd} {es : List MV} {ns : List Str} {st : List (MV × Nat)} {A : MI.Env → Mem → Prop} {R : Mem → Prop} (ok : HdOk h es.length)
    (h2 : M[w]? = some (.lst (stW st))) (h3 : M[nm]? = some (.dct (nmD ns))) (hl : st.length ≤ 500) (hm : many ≤ 100) (h5 : m0.length ≤ w) (k0 : Kp [] m0 M)
    (bad : ∀ m', Kp [] m0 m' → (4 < ns.length ∨ 6 < pl + hdPl h) → R m') (good : ∀ m' x7', Kp [] m0 m' → m'[w]? = some (.lst (stW (st ++ kidsV es lv))) → m'[nm]? = some (.dct (nmD ns)) → ns.length ≤ 4 → pl + hdPl h ≤ 6 → A [e0, some (.ref w), some (.ref nm), some (.int many), some (.int (pl + hdPl h : Nat)), some (encH h es), some (.int lv), x7'] m') :
    MI.W (rest (Tab (k + 3)) [e0, some (.ref w), some (.ref nm), some (.int many), some (.int pl), some (encH h es), some (.int lv), x7] M) (fun a m2 => match a with | .nx ρ' => A ρ' m2 | .ex x _ => x = ⟨"InvalidExpression"⟩ ∧ R m2 | _ => False) E0 := by
  unfold rest
  simp
  refine (own_ok (k := k + 2) ok).mono ?_
  rintro d m' ⟨rfl, rfl⟩
  have lw : w < m'.length := (List.getElem?_eq_some_iff.mp h2).1
  have ln : nm < m'.length := (List.getElem?_eq_some_iff.mp h3).1
  have wn : w ≠ nm := fun e => by rw [e, h3] at h2; cases h2
  have es4 := hd_len ok
  simp [h3, nmD]
  split
  · exact bad _ k0 (.inl (by omega))
  split
  · exact bad _ k0 (.inr (by omega))
  simp [h2]
  refine (ops_ok (k := k + 2) ok).mono ?_
  rintro d m2 ⟨rfl, k2⟩
  simp
  have s2 : 2 ≤ sizeLine := szl (by decide)
  refine W_pure (fun d => .tup [d, .int (lv + 1)]) (fun _ => true) trivial (fun d _ => ⟨rfl, fun _ => ?_⟩) (by omega) ?_
  · simp [mTup, mCons, mVar, mNil, mBin, mC, gAdd, Re.bind, wipeM, s2]
  · have e1 : (es.filter fun _ => true).map (fun d => MV.tup [d, .int (lv + 1)]) = stW (kidsV es lv) := by
      rw [filter_all]
      unfold stW kidsV
      rw [List.map_map]
      rfl
    rw [e1]
    have w2 : (m2 ++ [MO.lst (stW (kidsV es lv))])[w]? = some (.lst (stW st)) := (k2.trans Kp.push).get h2 (by simp)
    have n2 : (m2 ++ [MO.lst (stW (kidsV es lv))])[nm]? = some (.dct (nmD ns)) := (k2.trans Kp.push).get h3 (by simp)
    have lw2 : w < (m2 ++ [MO.lst (stW (kidsV es lv))]).length := (List.getElem?_eq_some_iff.mp w2).1
    simp only [w2]
    have cap : (stW st).length + (stW (kidsV es lv)).length ≤ sizeLine := szl (by
      simp [stW, kidsV]; omega)
    refine ⟨cap, ?_⟩
    have := good (((m2 ++ [MO.lst (stW (kidsV es lv))]).set w (.lst (stW st ++ stW (kidsV es lv))))) x7 ((k0.trans (k2.trans Kp.push)).wrNew h5) (by rw [List.getElem?_set_self lw2]; simp [stW]) (by rw [List.getElem?_set_ne wn]; exact n2) (by omega) (by omega)
    simpa using this
theorem b_ck (ck : Tabl) : b_check_expression ck = (mSeq (mAsg (mLst (mCons (mTup (mCons (mVar 0) (mCons (mC (.int 1)) mNil))) mNil)) (nName 1))
    (mSeq (mAsg mDNew (nName 2)) (mSeq (mAsg (mC (.int 0)) (nName 3)) (mSeq (mAsg (mC (.int 0)) (nName 4))
    (whileM (mTru (mVar 1)) (mSeq (mAsg (mBM gPop (mVar 1) mNil) (nTup 2 (nCons (nName 5) (nCons (nName 6) nNil)))) (mSeq (mAug 3 gAddI (mC (.int 1)))
    (mSeq (mIfS (mOrT (mB (mBin gGt (mVar 3) (mC c_MOST_PARTS))) (mOrT (mB (mBin gGt (mVar 6) (mC c_MOST_LEVELS))) (mNotT (mTru (mCall (ck.f .u_has_form) (mCons (mVar 5) mNil)))))) (mRaise "InvalidExpression") mSkip)
    (mSeq (mIfS (mB (mBin (gEqA false) (mBin gItem (mVar 5) (mC (.int 0))) (mC (.str "name")))) (mStore (mVar 2) (mBin gItem (mVar 5) (mC (.int 1))) (mC (.bl true))) mSkip) (rest ck))))) turns))))) := rfl
/-- an expression by the words of the document -/
def IsE (d : MV) : Prop := ∃ t, d = enc t ∧ Ok t ∧ Fits 0 0 [] [(t, 1)]
structure CkV (S : List Nat) (m0 : Mem) (e0 : MV) (F : Prop) (n : Nat) (ρ : MI.Env) (m : Mem) : Prop where
  ex : ∃ (st : List (MV × Nat)) (many pl w nm : Nat) (ns : List Str) (x5 x6 x7 : Option MV), n + many = 42 ∧ ρ = [some e0, some (.ref w), some (.ref nm), some (.int many), some (.int pl), x5, x6, x7] ∧ m[w]? = some (.lst (stW st)) ∧ m[nm]? = some (.dct (nmD ns)) ∧ w ≠ nm ∧
    m0.length ≤ w ∧ m0.length ≤ nm ∧ Kp [] m0 m ∧ ns.Nodup ∧ ns.length ≤ 4 ∧ many ≤ 40 ∧ pl ≤ 6 ∧ (∀ q ∈ st, TyV S m0 q.1) ∧ st.length ≤ 1 + 5 * many ∧ (F ↔ FitsV many pl ns st)
theorem encH_items {S : List Nat} {m : Mem} {h : Hd} {es : List MV} (o : HdOk h es.length) (t : TyV S m (encH h es)) : ∀ e ∈ es, TyV S m e := by
  intro e he
  cases h with
  | name s => have : es.length = 0 := o.2; rw [List.length_eq_zero_iff] at this; subst this; cases he
  | call s => exact (t.items.1 (.tup es) (by simp [encH])).items.1 e he
  | op w => exact t.items.1 e (by simp [encH, he])
  | cmp sg =>
    obtain ⟨c1, c2, c3, c4⟩ := (show sg.length + 1 = es.length ∧ 1 ≤ sg.length ∧ sg.length ≤ 4 ∧ ∀ s ∈ sg, s ∈ (["<", "<=", ">", ">=", "==", "!="] : List Str) from o)
    cases es with
    | nil => cases he
    | cons a es =>
      have ce : sg.length = es.length := by simpa using c1
      rcases List.mem_cons.mp he with rfl | he
      · exact t.items.1 e (by simp [encH])
      · obtain ⟨i, hi, rfl⟩ := List.mem_iff_getElem.mp he
        have h1 := t.items.1 (.tup (List.zipWith (fun s x => MV.tup [.str s, x]) sg es)) (by simp [encH])
        have h2 := h1.items.1 (.tup [.str (sg[i]'(by omega)), es[i]]) (by
          refine List.mem_iff_getElem.mpr ⟨i, by simp; omega, by simp⟩)
        exact h2.items.1 _ (by simp)
theorem fitsV_nil {many pl : Nat} {ns : List Str} (h1 : many ≤ 40) (h2 : pl ≤ 6) (h3 : ns.length ≤ 4) : FitsV many pl ns [] := ⟨[], rfl, by simp, by simp [stSize]; omega, by simp [stPl]; omega, ⟨ns, h3, by simp [stNm]⟩, by simp⟩
theorem fitsV_form {many pl lv : Nat} {ns : List Str} {st : List (MV × Nat)} {d : MV} (f : FitsV many pl ns (st ++ [(d, lv)])) : many + 1 ≤ 40 ∧ lv ≤ 12 ∧ FormV d := by
  obtain ⟨ts, e, ok, f⟩ := f
  have hm : (d, lv) ∈ ts.map (fun p => (enc p.1, p.2)) := by rw [← e]; simp
  obtain ⟨⟨t, lv'⟩, ht, e2⟩ := List.mem_map.mp hm
  simp at e2
  obtain ⟨rfl, rfl⟩ := e2
  have o := ok _ ht
  have l1 := f.2.2.2 _ ht
  have s1 := f.1
  have s2 : 1 ≤ stSize ts := by
    unfold stSize
    have : size t ≤ (ts.map fun p => size p.1).sum := mem_sum (List.mem_map_of_mem (f := fun p : T × Nat => size p.1) ht)
    cases t with
    | node h l => simp [size] at this; omega
  cases t with
  | node h l =>
    simp [levels] at l1
    exact ⟨by omega, by omega, h, encs l, rfl, o.hd.1⟩
theorem fitsV_names {many pl : Nat} {ns : List Str} {st : List (MV × Nat)} (nd : ns.Nodup) (f : FitsV many pl ns st) : ns.length ≤ 4 ∧ pl ≤ 6 := by
  obtain ⟨ts, e, ok, f⟩ := f
  exact ⟨fits_names nd f, by have := f.2.1; omega⟩
theorem fitsV_one {d : MV} : FitsV 0 0 [] [(d, 1)] ↔ IsE d := by
  constructor
  · rintro ⟨ts, e, ok, f⟩
    match ts, e with
    | [(t, lv)], e =>
      simp at e
      obtain ⟨rfl, rfl⟩ := e
      exact ⟨t, rfl, ok (t, 1) (by simp), f⟩
  · rintro ⟨t, rfl, o, f⟩
    exact ⟨[(t, 1)], rfl, by simpa using o, f⟩
end K17
set_option maxHeartbeats 4000000
namespace K17
open PySem L2 MI
theorem checkV_ok {S : List Nat} {d : MV} {k : Nat} {m : Mem} (td : TyV S m d) : MI.W ((Tab (k + 4)).f .check_expression [d] m) (fun v m' => v = .non ∧ IsE d ∧ Kp [] m m') (fun x m' => x = ⟨"InvalidExpression"⟩ ∧ ¬ IsE d ∧ Kp [] m m') := by
  show MI.W (f_check_expression (Tab (k + 3)) [d] m) _ _
  unfold f_check_expression
  rw [b_ck]
  simp [startM]
  refine ⟨szl (by decide), szl (by decide), ?_⟩
  refine W_while (CkV S m d (IsE d)) ?_ turns 42 _ _ ?_ (show 42 < 1000000 by omega)
  · rintro n ρ m1 ⟨st, many, pl, w, nm, ns, x5, x6, x7, h1, rfl, h2, h3, h4, h5, h6, h7, h8, h9, h10, h11, h12, h13, h14⟩
    by_cases hne : st = []
    · subst hne
      simp [h2, truO, stW]
      exact ⟨h14.mpr (fitsV_nil h10 h11 h9), h7⟩
    · obtain ⟨st', d1, lv, rfl⟩ : ∃ (st' : List (MV × Nat)) (d1 : MV) (lv : Nat), st = st' ++ [(d1, lv)] := ⟨st.dropLast, (st.getLast hne).1, (st.getLast hne).2, (List.dropLast_concat_getLast hne).symm⟩
      rw [stW_snoc] at h2
      have t1 := h12 (d1, lv) (by simp)
      have lw : w < m1.length := (List.getElem?_eq_some_iff.mp h2).1
      have ln : nm < m1.length := (List.getElem?_eq_some_iff.mp h3).1
      have kM : Kp [] m (m1.set w (.lst (stW st'))) := h7.wrNew h5
      have wM : (m1.set w (.lst (stW st')))[w]? = some (.lst (stW st')) := List.getElem?_set_self lw
      have nM : (m1.set w (.lst (stW st')))[nm]? = some (.dct (nmD ns)) := by rw [List.getElem?_set_ne h4]; exact h3
      simp [h2, truO, W_asgT, nCons, nName, nNil]
      generalize m1.set w (.lst (stW st')) = M at kM wM nM ⊢
      refine ⟨n - 1, by omega, ?_⟩
      have h13' : st'.length ≤ 5 * many := by simp at h13; omega
      split
      · exact ⟨fun f => by have := (fitsV_form (h14.mp f)).1; omega, kM⟩
      split
      · exact ⟨fun f => by have := (fitsV_form (h14.mp f)).2.1; omega, kM⟩
      have hlv : lv ≤ 12 := by omega
      refine (hasform_ok (k := k) (S := S) (TyV.kp kM _ t1)).mono ?_
      rintro v m2 ⟨⟨b, rfl, hb⟩, k2⟩
      cases b with
      | false =>
        simp
        exact ⟨(fun f => by have := hb.mpr (fitsV_form (h14.mp f)).2.2; cases this), kM.trans k2⟩
      | true =>
        obtain ⟨h, es, rfl, o1⟩ := hb.mp rfl
        have nd2 := nsOf_nodup (h := h) h8
        have lE := hd_len o1
        have itE := encH_items o1 t1
        have go : ∀ (M2 : Mem), Kp [] m M2 → M2[w]? = some (.lst (stW st')) → M2[nm]? = some (.dct (nmD (nsOf h ns))) →
            MI.W (rest (Tab (k + 3)) [some d, some (.ref w), some (.ref nm), some (.int ((many : Int) + 1)), some (.int pl), some (encH h es), some (.int lv), x7] M2) (fun a m2 => match a with
              | .nx ρ' => ∃ j, j ≤ n - 1 ∧ CkV S m d (IsE d) j ρ' m2
              | .ct ρ' => ∃ j, j ≤ n - 1 ∧ CkV S m d (IsE d) j ρ' m2
              | .bk ρ' => IsE d ∧ Kp [] m m2
              | a => fin (fun v m' => v = MV.non ∧ IsE d ∧ Kp [] m m') (fun x m' => x = ⟨"InvalidExpression"⟩ ∧ ¬ IsE d ∧ Kp [] m m') a m2) E0 := by
          intro M2 g1 g2 g3
          have r := restV_ok (k := k) (m0 := m) (M := M2) (e0 := some d) (x7 := x7) (w := w) (nm := nm) (many := many + 1) (pl := pl) (lv := lv) (h := h) (es := es) (ns := nsOf h ns) (st := st')
            (A := fun ρ' m2 => ∃ j, j ≤ n - 1 ∧ CkV S m d (IsE d) j ρ' m2) (R := fun m2 => ¬ IsE d ∧ Kp [] m m2) o1 g2 g3 (by omega) (by omega) h5 g1
            (fun m' q1 q2 => ⟨fun f => by
              have f2 := (fitsV_step o1 hlv).mp (h14.mp f)
              have := fitsV_names nd2 f2
              omega, q1⟩)
            (fun m' x7' q1 q2 q3 q4 q5 => ⟨n - 1, Nat.le_refl _, ⟨st' ++ kidsV es lv, many + 1, pl + hdPl h, w, nm, nsOf h ns, _, _, x7', by omega, rfl, q2, q3, h4, h5, h6, q1, nd2, q4, by omega, q5, fun q hq => by
              rcases List.mem_append.mp hq with hq | hq
              · exact h12 q (by simp [hq])
              · obtain ⟨e, he, rfl⟩ := List.mem_map.mp hq
                exact itE e he, by simp [kidsV]; omega, h14.trans (fitsV_step o1 hlv)⟩⟩)
          refine r.mono ?_
          intro a m2 q
          cases a with
          | nx ρ' => exact q
          | ex x ρ' => exact q
          | rt d => exact q.elim
          | bk ρ' => exact q.elim
          | ct ρ' => exact q.elim
        have w2 := k2.get wM (by simp)
        have n2 := k2.get nM (by simp)
        simp [head_ok]
        cases h with
        | name s =>
          have ln2 : nm < m2.length := (List.getElem?_eq_some_iff.mp n2).1
          have hn4 : (nmD ns).length < sizeLine := Nat.lt_of_lt_of_le (by simp [nmD]; omega) (szl (n := 1000) (Nat.le_refl _))
          simp [word, n2, encH, MI.keyOf, hn4, putM_nm]
          exact go _ ((kM.trans k2).wrNew h6) (by rw [List.getElem?_set_ne (Ne.symm h4)]; exact w2) (by rw [List.getElem?_set_self ln2]; rfl)
        | call s =>
          simp [word, show ¬ (("call" : Str) = "name") by decide]
          exact go _ (kM.trans k2) w2 n2
        | cmp sg =>
          simp [word, show ¬ (("compare" : Str) = "name") by decide]
          exact go _ (kM.trans k2) w2 n2
        | op wd =>
          obtain ⟨n1, n2', n3, n4⟩ := op_word o1
          simp [word, n1]
          exact go _ (kM.trans k2) w2 n2
  · refine ⟨[(d, 1)], 0, 0, m.length, m.length + 1, [], none, none, none, by omega, rfl, by simp [stW], by simp [nmD], by omega, by omega, by omega, ?_, by simp, by simp, by omega, by omega, by simpa using td, by simp, fitsV_one.symm⟩
    exact Kp.app
end K17
set_option maxHeartbeats 4000000
namespace K17
open PySem L2 MI
theorem name_len {s : Str} (h : IsName s) : s.length ≤ 100 := by have := h.2.1; omega
theorem sign_len : ∀ s ∈ (["<", "<=", ">", ">=", "==", "!="] : List Str), s.length ≤ 100 := by decide
theorem op_len {w : Str} {n : Nat} (h : k_LENGTHS.lookup w = some (.int (n + 1))) : w.length ≤ 100 := by
  have c : (w, MV.int (n + 1)) ∈ k_LENGTHS := lookup_mem h
  simp [k_LENGTHS] at c
  rcases c with ⟨rfl, c⟩ | ⟨rfl, c⟩ | ⟨rfl, c⟩ | ⟨rfl, c⟩ | ⟨rfl, c⟩ | ⟨rfl, c⟩ | ⟨rfl, c⟩ | ⟨rfl, c⟩ | ⟨rfl, c⟩ <;> decide
theorem ty_s {S : List Nat} {m : Mem} {s : Str} (h : s.length ≤ 100) : TyV S m (.str s) := by unfold TyV; exact h
theorem ty_t {S : List Nat} {m : Mem} {l : List MV} (h : ∀ d ∈ l, TyV S m d) (hl : l.length ≤ 100) (hh : ∀ a ls x y, l = [.str "compare", a, .tup ls] → .tup [x, y] ∈ ls → HeadOk m x) : TyV S m (.tup l) := by unfold TyV; exact ⟨TyVs.of h, hl, hh⟩
theorem ty_p {S : List Nat} {m : Mem} {l : List MV} (h : ∀ d ∈ l, TyV S m d) (hl : l.length ≤ 100) (hn : ∀ a ls, l ≠ [.str "compare", a, .tup ls]) : TyV S m (.tup l) := ty_t h hl fun a ls _ _ e => absurd e (hn a ls)
/-- with that head and those operands -/
theorem encH_TyV {S : List Nat} {m : Mem} {h : Hd} {es : List MV} (o : HdOk h es.length) (he : ∀ e ∈ es, TyV S m e) (hne : ∀ e ∈ es, e ≠ .str "compare") : TyV S m (encH h es) := by
  have l5 := hd_len o
  cases h with
  | name s =>
    refine ty_p (fun d hd => ?_) (by simp) (fun a ls e => by simp at e)
    simp at hd
    rcases hd with rfl | rfl
    · exact ty_s (by decide)
    · exact ty_s (name_len o.1)
  | call s =>
    refine ty_p (fun d hd => ?_) (by simp) (fun a ls e => by simp at e; exact absurd e.1 (by decide))
    simp at hd
    rcases hd with rfl | rfl | rfl
    · exact ty_s (by decide)
    · exact ty_s (name_len o.1)
    · exact ty_p he (by omega) (fun a ls e => hne (.str "compare") (by rw [e]; simp) rfl)
  | op w =>
    refine ty_p (fun d hd => ?_) (by simp; omega) (fun a ls e => by simp at e; exact absurd e.1 (op_word o).2.2.1)
    rcases List.mem_cons.mp hd with rfl | hd
    · exact ty_s (op_len o)
    · exact he d hd
  | cmp sg =>
    obtain ⟨c1, c2, c3, c4⟩ := (show sg.length + 1 = es.length ∧ 1 ≤ sg.length ∧ sg.length ≤ 4 ∧ ∀ s ∈ sg, s ∈ (["<", "<=", ">", ">=", "==", "!="] : List Str) from o)
    cases es with
    | nil => simp at c1
    | cons a es =>
      have ce : sg.length = es.length := by simpa using c1
      have lk : ∀ d ∈ List.zipWith (fun s x => MV.tup [.str s, x]) sg es, ∃ s x, d = .tup [.str s, x] ∧ s ∈ sg ∧ x ∈ es := fun d hd => by
        obtain ⟨i, hi, rfl⟩ := List.mem_iff_getElem.mp hd
        simp at hi
        exact ⟨sg[i], es[i], by simp, List.getElem_mem _, List.getElem_mem _⟩
      refine ty_t (fun d hd => ?_) (by simp) (fun a' ls x y e hx => ?_)
      · simp only [List.headD_cons, List.tail_cons, List.mem_cons, List.not_mem_nil, or_false] at hd
        rcases hd with rfl | rfl | rfl
        · exact ty_s (by decide)
        · exact he d (by simp)
        · refine ty_p (fun d hd => ?_) (by simp; omega) (fun a ls e => ?_)
          · obtain ⟨s, x, rfl, h1, h2⟩ := lk d hd
            refine ty_p (fun d hd => ?_) (by simp) (fun a ls e => by simp at e)
            simp at hd
            rcases hd with rfl | rfl
            · exact ty_s (sign_len s (c4 s h1))
            · exact he d (by simp [h2])
          · obtain ⟨s, x, e2, _⟩ := lk (.str "compare") (by rw [e]; simp)
            cases e2
      · simp at e
        obtain ⟨rfl, rfl⟩ := e
        obtain ⟨s, x', e2, _⟩ := lk _ hx
        cases e2
        exact .inl ⟨s, rfl⟩
theorem enc_tup {t : T} : ∃ l, enc t = .tup l := by
  cases t with
  | node h l => rw [enc_node]; cases h <;> exact ⟨_, rfl⟩
mutual
theorem enc_TyV {S : List Nat} {m : Mem} : ∀ (t : T), Ok t → TyV S m (enc t)
  | .node h l, o => by
    obtain ⟨o1, o2⟩ := o.hd
    rw [enc_node]
    refine encH_TyV o1 (encs_TyV l o2) fun e he => ?_
    rw [encs_map] at he
    obtain ⟨t, _, rfl⟩ := List.mem_map.mp he
    obtain ⟨l', e'⟩ := enc_tup (t := t)
    rw [e']
    intro z
    cases z
theorem encs_TyV {S : List Nat} {m : Mem} : ∀ (l : List T), Oks l → ∀ e ∈ encs l, TyV S m e
  | [], _, e, he => by cases he
  | t :: r, o, e, he => by
    cases o with
    | cons a b =>
      simp only [encs, List.mem_cons] at he
      rcases he with rfl | he
      · exact enc_TyV t a
      · exact encs_TyV r b e he
end
end K17
set_option maxHeartbeats 4000000
namespace K17
open PySem L2 MI
theorem drop_rng {lo : Int} {n i : Nat} (h : i < n) : (rngL lo n).drop i = .int (lo + i) :: (rngL lo n).drop (i + 1) := by
  rw [List.drop_eq_getElem_cons (by rw [rngL_length]; exact h)]
  simp [rngL]
theorem Src.lt {m : Mem} {s c : Nat} {t : Int} (a : Src m s c t) : s < m.length ∧ c < m.length := by
  obtain ⟨_, _, h1, h2⟩ := a.ex
  exact ⟨(List.getElem?_eq_some_iff.mp h1).1, (List.getElem?_eq_some_iff.mp h2).1⟩
theorem ixN_nat {n i : Nat} (h : i < n) : ixN n (i : Int) = some i := by
  unfold ixN
  rw [if_pos (by omega), if_pos (by omega)]
  simp
theorem at_set {m : Mem} {n : Nat} {o o' : MO} (h : m[n]? = some o) : (m.set n o')[n]? = some o' := List.getElem?_set_self (List.getElem?_eq_some_iff.mp h).1
theorem Kp.wrN {S : List Nat} {m m' : Mem} {n : Nat} {o : MO} (a : Kp S m m') (h : m.length ≤ n) : Kp S m (m'.set n o) := ⟨by simpa using a.1, fun i h1 h2 => by rw [List.getElem?_set_ne (by omega)]; exact a.2 i h1 h2⟩
theorem atM_nat {l : List MV} {i : Nat} {d : MV} (h : l[i]? = some d) : atM l (i : Int) = some d := by
  have hi : i < l.length := (List.getElem?_eq_some_iff.mp h).1
  unfold atM ixN
  rw [if_pos (by omega), if_pos (by omega)]
  simpa using h
structure SoI (m : Mem) (e0 : MV) (rem : List MV) (ρ : MI.Env) (m' : Mem) : Prop where
  ex : ∃ (i c N : Nat) (cs : List Int) (x2 : Option MV), rem = (rngL 0 N).drop i ∧ ρ = [some e0, some (.ref c), x2] ∧ m'[c]? = some (.lst (cs.map .int)) ∧ cs.length = N ∧ m.length ≤ c ∧ Kp [] m m'
theorem source_ok {k : Nat} {m : Mem} {ns : List Int} : MI.W ((Tab (k + 1)).f .l_source [.kl (ns.map .int)] m) (fun d m' => ∃ s c, d = .ref s ∧ Src m' s c 0 ∧ m.length ≤ s ∧ m.length ≤ c ∧ Kp [] m m') E0 := by
  show MI.W (f_l_source (Tab k) [.kl (ns.map .int)] m) _ _
  unfold f_l_source b_l_source
  simp [startM]
  have hcut : ∃ cs : List Int, cutM (ns.map MV.int) none (some 63) = cs.map .int ∧ cs.length ≤ 63 := ⟨cutM ns none (some 63), by unfold cutM; simp [List.map_take, List.map_drop], by unfold cutM HT.sIx; simp; omega⟩
  obtain ⟨cs, e1, e2⟩ := hcut
  rw [e1]
  simp
  refine ⟨by omega, ?_⟩
  refine W_loop (SoI m (.kl (ns.map .int))) _ _ _ ⟨0, _, _, cs, none, rfl, rfl, List.getElem?_concat_length, by simp, Nat.le_refl _, Kp.push⟩ (fun _ _ _ _ => trivial) ?_ ?_
  · rintro d rem ρ m1 ⟨i, c, N, cs, x2, q1, rfl, q3, q4, q5, q6⟩
    by_cases hi : i < N
    · rw [drop_rng hi] at q1
      cases q1
      have ea : atM (cs.map MV.int) (i : Nat) = some (.int cs[i]) := atM_nat (by simp [q4, hi])
      have pw1 : CPowW 10 18 := by decide
      have pw2 : CPowW 10 60 := by decide
      have pw3 : CPowW 1000000000000000000000000000000000000000000000000000000000000 20 := by decide
      have st : ∀ v : Int, SoI m (.kl (ns.map .int)) ((rngL 0 N).drop (i + 1)) [some (.kl (ns.map .int)), some (.ref c), some (.int (i : Nat))] (m1.set c (.lst ((cs.map MV.int).set i (.int v)))) := fun v =>
        ⟨i + 1, c, N, cs.set i v, _, rfl, rfl, by rw [at_set q3, List.map_set], by simpa using q4, q5, q6.wrN q5⟩
      have nx : SoI m (.kl (ns.map .int)) ((rngL 0 N).drop (i + 1)) [some (.kl (ns.map .int)), some (.ref c), some (.int (i : Nat))] m1 := ⟨i + 1, c, N, cs, _, rfl, rfl, q3, q4, q5, q6⟩
      simp [q3, ea, pw1, pw2, pw3, ixN_nat, q4, hi]
      split
      · split
        · exact st _
        · exact nx
      · split
        · exact st _
        · exact nx
    · rw [List.drop_of_length_le (by rw [rngL_length]; omega)] at q1
      cases q1
  · rintro ρ m1 ⟨i, c, N, cs, x2, q1, rfl, q3, q4, q5, q6⟩
    simp
    have lc : c < m1.length := (List.getElem?_eq_some_iff.mp q3).1
    have q3' : (m1 ++ [MO.lst []])[c]? = some (.lst (cs.map .int)) := (Kp.push (S := [])).get q3 (by simp)
    rw [q3']
    simp
    have lm := q6.1
    split
    · refine ⟨szl (by decide), szl (by decide), m1.length + 1, ⟨⟨[0], by simp, ?_, ?_⟩, by omega, by omega⟩, by omega, by omega, q6.trans Kp.app⟩
      · rw [show m1.length + 1 + 1 = m1.length + 2 by omega, at_app]; rfl
      · rw [at_app]; rfl
    · refine ⟨szl (by decide), c, ⟨⟨cs, by assumption, ?_, ?_⟩, by omega, by omega⟩, by omega, by omega, q6.trans Kp.app⟩
      · rw [at_app]; rfl
      · exact (Kp.app (S := [])).get q3 (by simp)
structure PtJ (m : Mem) (e0 : MV) (acc0 : List MV) (f : T → List MV) (l : List T) (rem : List MV) (ρ : MI.Env) (m' : Mem) : Prop where
  ex : ∃ (dn r : List T) (x2 : Option MV) (nf : Nat), l = dn ++ r ∧ rem = encs r ∧ ρ = [some e0, some (.ref nf), x2] ∧ m'[nf]? = some (.lst (acc0 ++ (dn.map f).flatten)) ∧ Kp [] m m' ∧ m.length ≤ nf
theorem aparts_ok : ∀ (j : Nat) (t : T) (k : Nat) (m : Mem), Ok t → levels t ≤ j → size t ≤ 1000 → MI.W ((Tab (k + 1 + j)).f .all_parts [enc t] m) (NewL m (encs (parts t))) E0 := by
  intro j
  induction j with
  | zero =>
    intro t k m ok hl
    cases t with
    | node h l => simp [levels] at hl
  | succ j ih =>
    intro t k m ok hl hs
    cases t with
    | node h l =>
      obtain ⟨o1, o2⟩ := ok.hd
      have hl2 : levelss l ≤ j := by simp [levels] at hl; omega
      have hs2 : 1 + sizes l ≤ 1000 := by simpa [size] using hs
      show MI.W (f_all_parts (Tab (k + 1 + j)) [enc (.node h l)] m) _ _
      unfold f_all_parts b_all_parts
      simp [startM]
      refine ⟨szl (by decide), ?_⟩
      rw [enc_node, show k + 1 + j = (k + j) + 1 by omega]
      refine (ops_ok (k := k + j) (h := h) (es := encs l) o1).mono ?_
      rintro d m1 ⟨rfl, k1⟩
      simp
      refine W_loop (PtJ m (encH h (encs l)) [enc (.node h l)] (fun t => encs (parts t)) l) _ _ _ ?_ ?_ ?_ ?_
      · have h0 : m1[m.length]? = some (.lst [enc (.node h l)]) := k1.get (n := m.length) (by simp [enc_node]) (by simp)
        exact ⟨[], l, none, m.length, rfl, rfl, rfl, by simpa using h0, Kp.push.trans k1, Nat.le_refl _⟩
      · rintro rem ρ m' _
        trivial
      · rintro d rem ρ m' ⟨dn, r, x2, nf, q1, q2, rfl, q4, q6, q7⟩
        cases r with
        | nil => cases q2
        | cons t r =>
          cases q2
          have tm : t ∈ l := by rw [q1]; simp
          simp
          rw [show k + j + 1 = k + 1 + j by omega]
          refine (ih t k m' (o2.mem tm) (Nat.le_trans (levelss_mem tm) hl2) (Nat.le_trans (sizes_mem tm) (by omega))).mono ?_
          rintro d2 m2 ⟨n2, rfl, g1, g2, g3⟩
          rw [W_add_l (g3.get q4 (by simp)) g1]
          have cap : sizes l = sizes dn + size t + sizes r := by rw [q1, sizes_app]; simp [sizes]; omega
          refine ⟨szl ?_, ⟨dn ++ [t], r, _, _, by rw [q1]; simp, rfl, rfl, ?_, q6.trans (g3.trans Kp.push), Nat.le_trans q6.1 g3.1⟩⟩
          · rw [encs_flat]
            simp [encs_length, parts_len, partss_len]
            omega
          · rw [List.getElem?_concat_length]
            simp
      · rintro ρ m' ⟨dn, r, x2, nf, q1, q2, rfl, q4, q6, q7⟩
        cases r with
        | cons t r => cases q2
        | nil =>
          rw [List.append_nil] at q1
          subst q1
          rw [encs_flat] at q4
          simp
          exact ⟨nf, rfl, by simpa [parts, encs] using q4, q7, q6⟩
theorem parts_okT : ∀ (t : T), Ok t → ∀ u ∈ parts t, Ok u := by
  intro t
  exact (@T.rec (fun t => Ok t → ∀ u ∈ parts t, Ok u) (fun l => Oks l → ∀ u ∈ partss l, Ok u)
    (fun h l ih o u hu => by
      rw [parts, List.mem_cons] at hu
      rcases hu with rfl | hu
      · exact o
      · exact ih o.hd.2 u hu)
    (fun _ u hu => by simp [partss] at hu)
    (fun t r ih1 ih2 o u hu => by
      cases o with
      | cons a b =>
        rw [partss, List.mem_append] at hu
        rcases hu with hu | hu
        · exact ih1 a u hu
        · exact ih2 b u hu) t)
/-- the part at a path of numbers, or none where anything is wrong -/
def partAt : T → List MV → Option T
  | t, [] => some t
  | .node h l, d :: r => match d with
    | .int i => if 0 ≤ i ∧ i < l.length then match l[i.toNat]? with
        | some t => partAt t r
        | none => none
      else none
    | _ => none
theorem kit_int : ∀ t ∈ ["NoneType", "bool", "int", "str", "tuple", "list", "dict"], kitB t "int" = some (decide (t = "int") || decide (t = "bool")) ∧ kitB t "bool" = some (decide (t = "bool")) := by decide
def isInt : MV → Bool
  | .int _ => true
  | _ => false
theorem ty_isInt {m : Mem} {d : MV} {t : String} (h : tyM m d = some t) : (decide (t = "int")) = isInt d := by
  cases d with
  | int i => cases h; rfl
  | non => cases h; rfl
  | bl b => cases h; rfl
  | str s => cases h; rfl
  | tup l => cases h; rfl
  | kl l => cases h
  | clo _ _ => cases h
  | ref n =>
    have h : tyO m[n]? = some t := h
    cases q : m[n]? with
    | none => rw [q] at h; cases h
    | some o => rw [q] at h; cases o <;> cases h <;> rfl
theorem isint_ok {k : Nat} {m : Mem} {d : MV} (h : Typed m d) : MI.W ((Tab (k + 1)).f .is_integer [d] m) (fun v m' => v = .bl (isInt d) ∧ m' = m) E0 := by
  obtain ⟨t, h1, h2⟩ := h
  obtain ⟨k1, k2⟩ := kit_int t h2
  have e := ty_isInt h1
  show MI.W (f_is_integer (Tab k) [d] m) _ _
  unfold f_is_integer b_is_integer
  simp [startM, h1, k1, k2]
  rw [← e]
  by_cases q1 : t = "int"
  · subst q1; simp
  · by_cases q2 : t = "bool"
    · subst q2; simp
    · simp [q1, q2]
theorem Typed.kp {m m' : Mem} {d : MV} (h : Typed m d) (k : Kp [] m m') : Typed m' d := by
  obtain ⟨t, h1, h2⟩ := h
  refine ⟨t, ?_, h2⟩
  cases d with
  | ref n =>
    have h1 : tyO m[n]? = some t := h1
    show tyO m'[n]? = some t
    cases q : m[n]? with
    | none => rw [q] at h1; cases h1
    | some o => rw [k.get q (by simp)]; rw [q] at h1; exact h1
  | _ => exact h1
structure PaI (t : T) (ds : List MV) (m : Mem) (e0 p0 : MV) (rem : List MV) (ρ : MI.Env) (m' : Mem) : Prop where
  ex : ∃ (t' : T) (x3 x4 : Option MV), Ok t' ∧ partAt t ds = partAt t' rem ∧ ρ = [some e0, some p0, some (enc t'), x3, x4] ∧ Kp [] m m' ∧ ∀ d ∈ rem, Typed m d
theorem upart_ok {t : T} {k : Nat} {m : Mem} {ds : List MV} (ok : Ok t) (ht : ∀ d ∈ ds, Typed m d) : MI.W ((Tab (k + 2)).f .part_at [enc t, .tup ds] m) (fun d m' => ∃ x, partAt t ds = some x ∧ Ok x ∧ d = enc x ∧ Kp [] m m') (fun x m' => x = ⟨"InvalidPath"⟩ ∧ partAt t ds = none ∧ Kp [] m m') := by
  show MI.W (f_part_at (Tab (k + 1)) [enc t, .tup ds] m) _ _
  unfold f_part_at b_part_at
  simp [startM, kit_tt]
  refine W_loop (PaI t ds m (enc t) (.tup ds)) _ _ _ ⟨t, none, none, ok, rfl, rfl, Kp.refl, ht⟩ (fun _ _ _ _ => trivial) ?_ ?_
  · rintro d rem ρ m' ⟨⟨h, l⟩, x3, x4, o, q1, rfl, q3, q4⟩
    obtain ⟨o1, o2⟩ := o.hd
    simp
    rw [enc_node]
    refine (ops_ok (k := k) o1).mono ?_
    rintro d1 m2 ⟨rfl, k2⟩
    have td : Typed m2 d := (q4 d (by simp)).kp (q3.trans k2)
    simp
    refine (isint_ok (k := k) td).mono ?_
    rintro d1 m3 ⟨rfl, rfl⟩
    have bad : isInt d = false ∨ (∃ i, d = .int i ∧ ¬ (0 ≤ i ∧ i < l.length)) → partAt t ds = none := by
      intro z
      rw [q1]
      unfold partAt
      cases d with
      | int i =>
        rcases z with z | ⟨j, e, z⟩
        · cases z
        · cases e
          exact if_neg z
      | _ => rfl
    cases d with
    | int i =>
      simp [isInt]
      by_cases c1 : 0 ≤ i
      · by_cases c2 : i < l.length
        · have hi : i.toNat < l.length := by omega
          have e1 : atM (encs l) i = some (enc l[i.toNat]) := by
            have : (encs l)[i.toNat]? = some (enc l[i.toNat]) := by
              have g : ∀ (l : List T) (j : Nat) (hj : j < l.length), (encs l)[j]? = some (enc l[j]) := by
                intro l
                induction l with
                | nil => intro j hj; simp at hj
                | cons x r ih =>
                  intro j hj
                  cases j with
                  | zero => rfl
                  | succ j => simpa [encs] using ih j (by simpa using hj)
              exact g l _ hi
            have := atM_nat this
            rwa [show ((i.toNat : Nat) : Int) = i by omega] at this
          simp [c1, c2, encs_length, e1]
          refine ⟨l[i.toNat], _, _, o2.mem (List.getElem_mem _), ?_, rfl, q3.trans k2, fun d hd => q4 d (by simp [hd])⟩
          rw [q1]
          show (if 0 ≤ i ∧ i < l.length then _ else _) = _
          rw [if_pos ⟨c1, c2⟩, List.getElem?_eq_getElem hi]
        · simp [c1, c2, encs_length]
          exact ⟨bad (.inr ⟨i, rfl, fun z => c2 z.2⟩), q3.trans k2⟩
      · simp [c1]
        exact ⟨bad (.inr ⟨i, rfl, fun z => c1 z.1⟩), q3.trans k2⟩
    | _ => simp [isInt]; exact ⟨bad (.inl rfl), q3.trans k2⟩
  · rintro ρ m' ⟨t', x3, x4, o, q1, rfl, q3, q4⟩
    simp
    exact ⟨t', q1, o, rfl, q3⟩
/-- a path that is some value: the part, or none -/
def partV (t : T) : MV → Option T
  | .tup ds => partAt t ds
  | _ => none
/-- the value is typed, and what it holds, if it is a tuple -/
def TypedP (m : Mem) (d : MV) : Prop := Typed m d ∧ ∀ ds, d = .tup ds → ∀ x ∈ ds, Typed m x
theorem TypedP.kp {m m' : Mem} {d : MV} (h : TypedP m d) (k : Kp [] m m') : TypedP m' d := ⟨h.1.kp k, fun ds e x hx => (h.2 ds e x hx).kp k⟩
theorem upart_all {t : T} {k : Nat} {m : Mem} {p : MV} (ok : Ok t) (ht : TypedP m p) : MI.W ((Tab (k + 2)).f .part_at [enc t, p] m) (fun d m' => ∃ x, partV t p = some x ∧ Ok x ∧ d = enc x ∧ Kp [] m m') (fun x m' => x = ⟨"InvalidPath"⟩ ∧ partV t p = none ∧ Kp [] m m') := by
  by_cases h : isTup p = true
  · cases p with
    | tup ds => exact upart_ok ok (ht.2 ds rfl)
    | _ => cases h
  · obtain ⟨y, h1, h2⟩ := ht.1
    have k1 := (kit_all y h2).2.1
    rw [ty_isTup h1, show isTup p = false by simpa using h] at k1
    show MI.W (f_part_at (Tab (k + 1)) [enc t, p] m) _ _
    unfold f_part_at b_part_at
    simp [startM, h1, k1]
    refine ⟨?_, Kp.refl⟩
    cases p with
    | tup ds => exact absurd rfl h
    | _ => rfl
theorem partAt_cons {h : Hd} {l : List T} {d : MV} {r : List MV} {x : T} (q : partAt (.node h l) (d :: r) = some x) : ∃ (i : Nat) (hi : i < l.length), d = .int i ∧ partAt l[i] r = some x := by
  unfold partAt at q
  cases d with
  | int i =>
    dsimp only at q
    split at q
    · rename_i c
      have hi : i.toNat < l.length := by omega
      rw [List.getElem?_eq_getElem hi] at q
      exact ⟨i.toNat, hi, by rw [show ((i.toNat : Nat) : Int) = i by omega], q⟩
    · cases q
  | _ => cases q
theorem partAt_mk {h : Hd} {l : List T} {i : Nat} {r : List MV} (hi : i < l.length) : partAt (.node h l) (.int i :: r) = partAt l[i] r := by
  conv => lhs; unfold partAt
  dsimp only
  rw [if_pos (by omega)]
  rw [show ((i : Int)).toNat = i by omega, List.getElem?_eq_getElem hi]
theorem partAt_nil {t : T} : partAt t [] = some t := by unfold partAt; rfl
theorem partAt_ints : ∀ {ds : List MV} {t x : T}, partAt t ds = some x → (∀ d ∈ ds, ∃ i : Nat, d = .int i) ∧ ds.length < levels t
  | [], .node h l, x, _ => ⟨by simp, by simp [levels]; omega⟩
  | d :: r, .node h l, x, q => by
    obtain ⟨i, hi, rfl, q2⟩ := partAt_cons q
    obtain ⟨a, b⟩ := partAt_ints q2
    refine ⟨fun y hy => ?_, ?_⟩
    · rcases List.mem_cons.mp hy with rfl | hy
      · exact ⟨i, rfl⟩
      · exact a y hy
    · have := levelss_mem (List.getElem_mem hi)
      simp [levels]; omega
theorem das_ints : ∀ {ds : List MV}, (∀ d ∈ ds, ∃ i : Int, d = .int i) → pus ds = true ∧ fls ds = ds.length ∧ dps ds = 0
  | [], _ => ⟨rfl, rfl, rfl⟩
  | d :: r, h => by
    obtain ⟨i, rfl⟩ := h d List.mem_cons_self
    obtain ⟨a, b, c⟩ := das_ints (ds := r) fun y hy => h y (List.mem_cons_of_mem _ hy)
    refine ⟨by simp [pus, pu, a], ?_, by simp [dps, dp, c]⟩
    simp [fls, fl, b]; omega
theorem da_ints {ds : List MV} (h : ∀ d ∈ ds, ∃ i : Int, d = .int i) (hl : ds.length ≤ 1000) : Da (.tup ds) := by
  obtain ⟨a, b, c⟩ := das_ints h
  exact ⟨by simpa [pu] using a, by simp [fl, b]; omega, by simp [dp, c]⟩
end K17
set_option maxHeartbeats 4000000
namespace K17
open PySem L2 MI
mutual
def prs (pre : List MV) : T → List (List MV × T)
  | .node h l => (pre, .node h l) :: prss pre 0 l
def prss (pre : List MV) (i : Nat) : List T → List (List MV × T)
  | [] => []
  | t :: r => prs (pre ++ [.int i]) t ++ prss pre (i + 1) r
end
def pV (p : List MV × T) : MV := .tup [.tup p.1, enc p.2]
mutual
theorem prs_len : ∀ (t : T) (pre : List MV), (prs pre t).length = size t
  | .node h l, pre => by simp [prs, size, prss_len l]; omega
theorem prss_len : ∀ (l : List T) (pre : List MV) (i : Nat), (prss pre i l).length = sizes l
  | [], _, _ => rfl
  | t :: r, pre, i => by simp [prss, sizes, prs_len t, prss_len r]
end
theorem prss_snoc : ∀ (l : List T) (t : T) (pre : List MV) (i : Nat), prss pre i (l ++ [t]) = prss pre i l ++ prs (pre ++ [.int (i + l.length : Nat)]) t
  | [], t, pre, i => by simp [prss]
  | x :: r, t, pre, i => by
    simp only [List.cons_append, prss, prss_snoc r, List.append_assoc, List.length_cons]
    rw [show i + 1 + r.length = i + (r.length + 1) by omega]
def pre1 (a : List MV) (p : List MV × T) : List MV × T := (a ++ p.1, p.2)
mutual
theorem prs_prep (a : List MV) : ∀ (t : T) (pre : List MV), (prs pre t).map (pre1 a) = prs (a ++ pre) t
  | .node h l, pre => by
    simp only [prs, List.map_cons]
    rw [prss_prep a l pre 0]
    rfl
theorem prss_prep (a : List MV) : ∀ (l : List T) (pre : List MV) (i : Nat), (prss pre i l).map (pre1 a) = prss (a ++ pre) i l
  | [], _, _ => rfl
  | t :: r, pre, i => by
    simp only [prss, List.map_append]
    rw [prs_prep a t, prss_prep a r, List.append_assoc]
end
mutual
theorem mem_prs : ∀ (t : T) (pre ds : List MV) (x : T), (ds, x) ∈ prs pre t ↔ ∃ r, ds = pre ++ r ∧ partAt t r = some x
  | .node h l, pre, ds, x => by
    simp only [prs, List.mem_cons, Prod.mk.injEq]
    rw [mem_prss l pre 0 ds x]
    constructor
    · rintro (⟨rfl, rfl⟩ | ⟨j, hj, r, rfl, q⟩)
      · exact ⟨[], by simp, partAt_nil⟩
      · refine ⟨.int j :: r, by simp, ?_⟩
        rw [partAt_mk hj]; exact q
    · rintro ⟨r, rfl, q⟩
      cases r with
      | nil => rw [partAt_nil] at q; cases q; exact .inl ⟨by simp, rfl⟩
      | cons d r =>
        obtain ⟨i, hi, rfl, q2⟩ := partAt_cons q
        exact .inr ⟨i, hi, r, by simp, q2⟩
theorem mem_prss : ∀ (l : List T) (pre : List MV) (i : Nat) (ds : List MV) (x : T), (ds, x) ∈ prss pre i l ↔ ∃ (j : Nat) (hj : j < l.length) (r : List MV), ds = pre ++ .int ((i + j : Nat) : Int) :: r ∧ partAt l[j] r = some x
  | [], _, _, _, _ => by simp [prss]
  | t :: l, pre, i, ds, x => by
    simp only [prss, List.mem_append]
    rw [mem_prs t, mem_prss l]
    constructor
    · rintro (⟨r, rfl, q⟩ | ⟨j, hj, r, rfl, q⟩)
      · exact ⟨0, by simp, r, by simp, q⟩
      · exact ⟨j + 1, by simpa using hj, r, by rw [show i + (j + 1) = i + 1 + j by omega], by simpa using q⟩
    · rintro ⟨j, hj, r, rfl, q⟩
      cases j with
      | zero => exact .inl ⟨r, by simp, by simpa using q⟩
      | succ j => exact .inr ⟨j, by simpa using hj, r, by rw [show i + (j + 1) = i + 1 + j by omega], by simpa using q⟩
end
theorem mem_prs0 {t : T} {ds : List MV} {x : T} : (ds, x) ∈ prs [] t ↔ partAt t ds = some x := by
  rw [mem_prs]
  constructor
  · rintro ⟨r, rfl, q⟩; simpa using q
  · intro q; exact ⟨ds, by simp, q⟩
theorem prs_short {t : T} {p : List MV × T} (h : p ∈ prs [] t) : p.1.length < levels t := (partAt_ints (mem_prs0.mp h)).2
structure PrI (m0 : Mem) (e0 : MV) (n nf n2 i : Nat) (base : List MV) (l2 : List (List MV × T)) (rem : List MV) (ρ : MI.Env) (m' : Mem) : Prop where
  ex : ∃ (dn r : List (List MV × T)) (x4 x5 : Option MV), l2 = dn ++ r ∧ rem = r.map pV ∧ ρ = [some e0, some (.ref nf), some (.ref n), some (.int i), x4, x5] ∧ m'[nf]? = some (.lst (base ++ dn.map (fun p => pV (pre1 [.int i] p)))) ∧ m'[n2]? = some (.lst (l2.map pV)) ∧ Kp [nf] m0 m'
structure LqI (m : Mem) (e0 : MV) (n : Nat) (h : Hd) (l : List T) (rem : List MV) (ρ : MI.Env) (m' : Mem) : Prop where
  ex : ∃ (dn r : List T) (x3 x4 x5 : Option MV) (nf : Nat), l = dn ++ r ∧ rem = (rngL 0 l.length).drop dn.length ∧ ρ = [some e0, some (.ref nf), some (.ref n), x3, x4, x5] ∧ m'[nf]? = some (.lst (pV ([], .node h l) :: (prss [] 0 dn).map pV)) ∧ m'[n]? = some (.lst (encs l)) ∧ Kp [] m m' ∧ m.length ≤ nf ∧ n ≠ nf
theorem lpairs_ok : ∀ (j : Nat) (t : T) (k : Nat) (m : Mem), Ok t → levels t ≤ j → size t ≤ 900 → j ≤ 100 → MI.W ((Tab (k + 1 + j)).f .l_paths [enc t] m) (NewL m ((prs [] t).map pV)) E0 := by
  intro j
  induction j with
  | zero =>
    intro t k m ok hl
    cases t with
    | node h l => simp [levels] at hl
  | succ j ih =>
    intro t k m ok hl hs hj
    cases t with
    | node h l =>
      obtain ⟨o1, o2⟩ := ok.hd
      have hl2 : levelss l ≤ j := by simp [levels] at hl; omega
      have hs2 : 1 + sizes l ≤ 900 := by simpa [size] using hs
      have len3 : l.length ≤ 900 := by
        have : ∀ l : List T, l.length ≤ sizes l := by
          intro l
          induction l with
          | nil => simp [sizes]
          | cons t r ih => cases t with | node h q => simp [sizes, size]; omega
        have := this l
        omega
      show MI.W (f_l_paths (Tab (k + 1 + j)) [enc (.node h l)] m) _ _
      unfold f_l_paths b_l_paths
      simp [startM]
      refine ⟨szl (by decide), szl (by decide), ?_⟩
      rw [enc_node, show k + 1 + j = (k + j) + 1 by omega]
      refine (opl_ok (k := k + j) (h := h) (es := encs l) o1).mono ?_
      rintro d m1 ⟨n, rfl, h1, h2, k1⟩
      simp [h1, encs_length]
      refine ⟨by omega, ?_⟩
      refine W_loop (LqI m (encH h (encs l)) n h l) _ _ _ ?_ (fun _ _ _ _ => trivial) ?_ ?_
      · have h0 : m1[m.length]? = some (.lst [.tup [.tup [], encH h (encs l)]]) := k1.get (n := m.length) (by simp) (by simp)
        exact ⟨[], l, none, none, none, m.length, rfl, rfl, rfl, by simpa [prss, pV, enc_node] using h0, h1, Kp.push.trans k1, Nat.le_refl _, by simp at h2; omega⟩
      · rintro d rem ρ m' ⟨dn, r, x3, x4, x5, nf, q1, q2, rfl, q4, q5, q6, q7, q8⟩
        cases r with
        | nil =>
          rw [List.append_nil] at q1
          rw [q1, List.drop_of_length_le (by rw [rngL_length]; exact Nat.le_refl _)] at q2
          cases q2
        | cons t r =>
          rw [drop_rng (by rw [q1]; simp)] at q2
          cases q2
          have tm : t ∈ l := by rw [q1]; simp
          have ea : atM (encs l) (dn.length : Nat) = some (enc t) := atM_nat (by rw [q1, encs_append, List.getElem?_append_right (by rw [encs_length]; exact Nat.le_refl _), encs_length]; simp [encs])
          simp [q5, ea]
          rw [show k + j + 1 = k + 1 + j by omega]
          refine (ih t k m' (o2.mem tm) (Nat.le_trans (levelss_mem tm) hl2) (Nat.le_trans (sizes_mem tm) (by omega)) (by omega)).mono ?_
          rintro d2 m2 ⟨n2, rfl, g1, g2, g3⟩
          simp [g1]
          have cap : sizes l = sizes dn + size t + sizes r := by rw [q1, sizes_app]; simp [sizes]; omega
          have ln := (List.getElem?_eq_some_iff.mp q4).1
          have ln5 := (List.getElem?_eq_some_iff.mp q5).1
          have hlt : levels t ≤ j := Nat.le_trans (levelss_mem tm) hl2
          refine W_loopG (PrI m2 (encH h (encs l)) n nf n2 dn.length (pV ([], .node h l) :: (prss [] 0 dn).map pV) (prs [] t)) _ _ _ ?_ ?_ ?_ ?_
          · exact ⟨[], prs [] t, x4, x5, rfl, rfl, rfl, by simpa using g3.get q4 (by simp), g1, Kp.refl⟩
          · rintro rem ρ m3 ⟨_, _, _, _, _, _, _, _, e, _⟩
            simp [e]
          · rintro d rem ρ m3 ⟨dn2, r2, y4, y5, p1, p2, rfl, p4, p5, p6⟩
            cases r2 with
            | nil => cases p2
            | cons p r2 =>
              cases p2
              have pm : p ∈ prs [] t := by rw [p1]; simp
              have sh := prs_short pm
              have plen : dn2.length < size t := by
                have := congrArg List.length p1
                rw [prs_len] at this
                simp at this
                omega
              obtain ⟨pa, px⟩ := p
              simp at sh
              refine ⟨_, rfl, ?_⟩
              simp [p4, pV]
              refine ⟨szl (by decide), szl (by omega), szl (by decide), szl (by simp [prss_len]; omega), ?_⟩
              refine ⟨dn2 ++ [(pa, px)], r2, _, _, by rw [p1]; simp, rfl, rfl, ?_, ?_, p6.trans (Kp.wr (by simp))⟩
              · rw [List.getElem?_set_self (List.getElem?_eq_some_iff.mp p4).1]
                simp [pV, pre1]
              · rw [List.getElem?_set_ne (by omega)]
                exact p5
          · rintro ρ m3 ⟨dn2, r2, y4, y5, p1, p2, rfl, p4, p5, p6⟩
            have : r2 = [] := by simpa using p2.symm
            subst this
            rw [List.append_nil] at p1
            subst p1
            refine ⟨dn ++ [t], r, _, _, _, nf, by rw [q1]; simp, by simp, rfl, ?_, ?_, ?_, q7, q8⟩
            · rw [p4, prss_snoc]
              have e : List.map (fun p => pV (pre1 [.int dn.length] p)) (prs [] t) = (prs [.int dn.length] t).map pV := by
                rw [← List.append_nil [MV.int dn.length], ← prs_prep, List.map_map]
                rfl
              rw [e]
              simp
            · exact p6.get (g3.get q5 (by simp)) (by simp; omega)
            · refine ⟨Nat.le_trans (q6.trans g3).1 p6.1, fun i hi hn => ?_⟩
              rw [p6.2 i (Nat.lt_of_lt_of_le hi (q6.trans g3).1) (by simp; omega)]
              exact (q6.trans g3).2 i hi hn
      · rintro ρ m' ⟨dn, r, x3, x4, x5, nf, q1, q2, rfl, q4, q5, q6, q7, q8⟩
        have this : r = [] := by
          have := congrArg List.length q2
          rw [List.length_drop, rngL_length, q1] at this
          simp at this
          exact List.length_eq_zero_iff.mp (by omega)
        subst this
        rw [List.append_nil] at q1
        subst q1
        simp
        exact ⟨nf, rfl, by rw [q4]; simp [prs], q7, q6⟩
end K17
set_option maxHeartbeats 4000000
namespace K17
open PySem L2 MI
theorem name_strOk {s : Str} (h : IsName s) : PyData.strOk s = true := by
  unfold PyData.strOk
  rw [← Array.all_toList, List.all_eq_true]
  intro c hc
  have := h.2.2.1 c hc
  simp; omega
theorem sign_strOk : ∀ s ∈ (["<", "<=", ">", ">=", "==", "!="] : List Str), PyData.strOk s = true := by decide +kernel
theorem op_strOk {w : Str} {n : Nat} (h : k_LENGTHS.lookup w = some (.int (n + 1))) : PyData.strOk w = true := by
  have c : (w, MV.int (n + 1)) ∈ k_LENGTHS := lookup_mem h
  simp [k_LENGTHS] at c
  rcases c with ⟨rfl, c⟩ | ⟨rfl, c⟩ | ⟨rfl, c⟩ | ⟨rfl, c⟩ | ⟨rfl, c⟩ | ⟨rfl, c⟩ | ⟨rfl, c⟩ | ⟨rfl, c⟩ | ⟨rfl, c⟩ <;> decide +kernel
def sm : List MV → Nat
  | [] => 0
  | d :: l => 1 + fl d + sm l
theorem fls_sm : ∀ l : List MV, fls l ≤ sm l
  | [] => Nat.le_refl _
  | d :: l => by have := fls_sm l; simp only [fls, sm]; omega
theorem zip_meas : ∀ (sg : List Str) (es : List MV), sg.length = es.length → (∀ s ∈ sg, PyData.strOk s = true) → pus es = true →
    pus (List.zipWith (fun s x => MV.tup [.str s, x]) sg es) = true ∧ sm (List.zipWith (fun s x => MV.tup [.str s, x]) sg es) ≤ 3 * sg.length + sm es ∧ dps (List.zipWith (fun s x => MV.tup [.str s, x]) sg es) ≤ 1 + dps es
  | [], [], _, _, _ => ⟨rfl, Nat.le_refl _, by simp [dps]⟩
  | [], _ :: _, h, _, _ => by simp at h
  | _ :: _, [], h, _, _ => by simp at h
  | s :: sg, e :: es, h, hs, hp => by
    simp [pus] at hp
    obtain ⟨a, b, c⟩ := zip_meas sg es (by simpa using h) (fun x hx => hs x (List.mem_cons_of_mem _ hx)) hp.2
    have s1 := hs s List.mem_cons_self
    refine ⟨by simp [pus, pu, s1, hp.1, a], ?_, ?_⟩
    · simp only [List.zipWith_cons_cons, sm, List.length_cons, fl, fls]; omega
    · simp only [List.zipWith_cons_cons, dps, MI.dp]; omega
mutual
theorem enc_meas : ∀ (t : T), Ok t → pu (enc t) = true ∧ fl (enc t) + 1 ≤ 18 * size t ∧ MI.dp (enc t) ≤ 3 * levels t
  | .node h l, ok => by
    obtain ⟨o1, o2⟩ := ok.hd
    obtain ⟨a, b, c⟩ := encs_meas l o2
    have f := fls_sm (encs l)
    rw [enc_node]
    cases h with
    | name s =>
      refine ⟨by simp [encH, pu, pus, name_strOk o1.1, show PyData.strOk "name" = true by decide +kernel], ?_, ?_⟩
      · simp [encH, fl, fls, size]; omega
      · simp [encH, MI.dp, dps, levels]; omega
    | call s =>
      refine ⟨by simp [encH, pu, pus, name_strOk o1.1, show PyData.strOk "call" = true by decide +kernel, a], ?_, ?_⟩
      · simp [encH, fl, fls, size]; omega
      · simp [encH, MI.dp, dps, levels]; omega
    | op w =>
      refine ⟨by simp [encH, pu, pus, op_strOk o1, a], ?_, ?_⟩
      · simp [encH, fl, fls, size]; omega
      · simp [encH, MI.dp, dps, levels]; omega
    | cmp sg =>
      obtain ⟨c1, c2, c3, c4⟩ := (show sg.length + 1 = (encs l).length ∧ 1 ≤ sg.length ∧ sg.length ≤ 4 ∧ ∀ s ∈ sg, s ∈ (["<", "<=", ">", ">=", "==", "!="] : List Str) from o1)
      cases hE : encs l with
      | nil => rw [hE] at c1; simp at c1
      | cons x es =>
        rw [hE] at a b c c1
        simp [pus] at a
        simp only [sm] at b
        simp only [dps] at c
        obtain ⟨z1, z2, z3⟩ := zip_meas sg es (by simpa using c1) (fun s hs => sign_strOk s (c4 s hs)) a.2
        have zf := fls_sm (List.zipWith (fun s x => MV.tup [.str s, x]) sg es)
        refine ⟨by simp [encH, pu, pus, show PyData.strOk "compare" = true by decide +kernel, a.1, z1], ?_, ?_⟩
        · simp only [encH, List.headD_cons, List.tail_cons, fl, fls, size]; omega
        · simp only [encH, List.headD_cons, List.tail_cons, MI.dp, dps, levels]; omega
theorem encs_meas : ∀ (l : List T), Oks l → pus (encs l) = true ∧ sm (encs l) ≤ 18 * sizes l ∧ dps (encs l) ≤ 3 * levelss l
  | [], _ => ⟨rfl, Nat.le_refl _, Nat.le_refl _⟩
  | t :: r, o => by
    cases o with
    | cons o1 o2 =>
      obtain ⟨a, b, c⟩ := enc_meas t o1
      obtain ⟨a', b', c'⟩ := encs_meas r o2
      refine ⟨by simp [encs, pus, a, a'], ?_, ?_⟩
      · simp only [encs, sm, sizes]; omega
      · simp only [encs, dps, levelss]; omega
end
theorem enc_da {t : T} (ok : Ok t) (hs : size t ≤ 100) (hl : levels t ≤ 20) : Da (enc t) := by
  obtain ⟨a, b, c⟩ := enc_meas t ok
  exact ⟨a, by omega, by omega⟩
end K17
set_option maxHeartbeats 4000000
namespace K17
open PySem L2 MI
structure GE (t : T) : Prop where
  ok : Ok t
  fit : Fits 0 0 [] [(t, 1)]
theorem GE.sz {t : T} (g : GE t) : size t ≤ 40 ∧ levels t ≤ 12 := by
  obtain ⟨a, b, c, d⟩ := g.fit
  have h := d (t, 1) (by simp)
  simp [stSize] at a h
  omega
theorem GE.da {t : T} (g : GE t) : Da (enc t) := enc_da g.ok (by have := g.sz; omega) (by have := g.sz; omega)
theorem namess_mem : ∀ {l : List T} {t : T} {s : Str}, t ∈ l → s ∈ names t → s ∈ namess l
  | x :: r, t, s, h, q => by
    simp only [namess, List.mem_append]
    rcases List.mem_cons.mp h with rfl | h
    · exact .inl q
    · exact .inr (namess_mem h q)
theorem placess_mem : ∀ {l : List T} {t : T}, t ∈ l → places t ≤ placess l
  | x :: r, t, h => by
    simp only [placess]
    rcases List.mem_cons.mp h with rfl | h
    · omega
    · have := placess_mem h; omega
theorem fits_iff {t : T} : Fits 0 0 [] [(t, 1)] ↔ size t ≤ 40 ∧ levels t ≤ 12 ∧ Cover 4 (names t) ∧ places t ≤ 6 := by
  have e1 : stSize [(t, 1)] = size t := by simp [stSize]
  have e2 : stPl [(t, 1)] = places t := by simp [stPl]
  have e3 : ([] : List Str) ++ stNm [(t, 1)] = names t := by simp [stNm]
  unfold Fits
  rw [e1, e2, e3]
  constructor
  · rintro ⟨a, b, c, d⟩
    have := d (t, 1) (by simp)
    exact ⟨by omega, by simp at this; omega, c, by omega⟩
  · rintro ⟨a, b, c, d⟩
    refine ⟨by omega, by omega, c, fun q hq => ?_⟩
    simp at hq
    subst hq
    simp
    omega
theorem kid_ge {h : Hd} {l : List T} {t : T} (g : GE (.node h l)) (m : t ∈ l) : GE t := by
  obtain ⟨a, b, ⟨vs, c1, c2⟩, d⟩ := fits_iff.mp g.fit
  refine ⟨g.ok.hd.2.mem m, fits_iff.mpr ⟨?_, ?_, ⟨vs, c1, fun x hx => c2 x ?_⟩, ?_⟩⟩
  · have := sizes_mem m; simp [size] at a; omega
  · have := levelss_mem m; simp [levels] at b; omega
  · simp only [names, List.mem_append]; exact .inr (namess_mem m hx)
  · have := placess_mem m; simp [places] at d; omega
theorem partAt_ge : ∀ {ds : List MV} {t x : T}, partAt t ds = some x → GE t → GE x ∧ enc x ∈ encs (parts t)
  | [], .node h l, x, q, g => by
    rw [partAt_nil] at q
    cases q
    exact ⟨g, by simp [parts, encs]⟩
  | d :: r, .node h l, x, q, g => by
    obtain ⟨i, hi, rfl, q2⟩ := partAt_cons q
    obtain ⟨a, b⟩ := partAt_ge q2 (kid_ge g (List.getElem_mem hi))
    refine ⟨a, ?_⟩
    simp only [parts, encs, List.mem_cons]
    refine .inr ?_
    rw [encs_map] at b ⊢
    obtain ⟨y, hy, e⟩ := List.mem_map.mp b
    refine List.mem_map.mpr ⟨y, ?_, e⟩
    have : ∀ {l : List T} {t y : T}, t ∈ l → y ∈ parts t → y ∈ partss l := by
      intro l
      induction l with
      | nil => intro t y h; cases h
      | cons z r ih =>
        intro t y h hy
        simp only [partss, List.mem_append]
        rcases List.mem_cons.mp h with rfl | h
        · exact .inl hy
        · exact .inr (ih h hy)
    exact this (List.getElem_mem hi) hy
theorem parts_das {t : T} (g : GE t) : Das (encs (parts t)) := by
  have sz := g.sz
  have hp : ∀ u ∈ parts t, Ok u := parts_okT t g.ok
  have sm' : ∀ u ∈ parts t, size u ≤ size t ∧ levels u ≤ levels t := by
    have key : ∀ t : T, ∀ u ∈ parts t, size u ≤ size t ∧ levels u ≤ levels t := by
      intro t
      exact (@T.rec (fun t => ∀ u ∈ parts t, size u ≤ size t ∧ levels u ≤ levels t) (fun l => ∀ u ∈ partss l, size u ≤ sizes l ∧ levels u ≤ levelss l)
        (fun h l ih u hu => by
          rw [parts, List.mem_cons] at hu
          rcases hu with rfl | hu
          · exact ⟨Nat.le_refl _, Nat.le_refl _⟩
          · have := ih u hu
            simp only [size, levels]; omega)
        (fun u hu => by simp [partss] at hu)
        (fun t r ih1 ih2 u hu => by
          rw [partss, List.mem_append] at hu
          simp only [sizes, levelss]
          rcases hu with hu | hu
          · have := ih1 u hu; omega
          · have := ih2 u hu; omega) t)
    exact key t
  have hl : (parts t).length ≤ 40 := by rw [parts_len]; omega
  have go : ∀ ps : List T, (∀ u ∈ ps, Ok u ∧ size u ≤ 40 ∧ levels u ≤ 12) → pus (encs ps) = true ∧ fls (encs ps) ≤ ps.length + 760 ∧ dps (encs ps) ≤ 60 := by
    intro ps
    induction ps with
    | nil => intro _; exact ⟨rfl, by simp [encs, fls], by simp [encs, dps]⟩
    | cons u r ih =>
      intro h
      obtain ⟨o, s, l⟩ := h u (by simp)
      obtain ⟨a1, a2, a3⟩ := enc_meas u o
      obtain ⟨b1, b2, b3⟩ := ih fun v hv => h v (by simp [hv])
      refine ⟨by simp [encs, pus, a1, b1], ?_, ?_⟩
      · simp only [encs, fls, List.length_cons]; omega
      · simp only [encs, dps]; omega
  obtain ⟨a, b, c⟩ := go (parts t) fun u hu => ⟨hp u hu, by have := sm' u hu; omega, by have := sm' u hu; omega⟩
  exact ⟨a, by omega, c⟩
end K17
set_option maxHeartbeats 4000000
namespace K17
open PySem L2 MI
theorem W_out {α : Type} {r : Re α} {Q : α → Mem → Prop} (h : MI.W r Q E0) : ∃ d m, r = .ok d m ∧ Q d m := by
  cases r with
  | ok d m => exact ⟨d, m, rfl, h⟩
  | ex x m => exact h.elim
  | stuck => exact h.elim
theorem mkW {c : Str} {F : MF} {ds : List MV} {m : Mem} {Q : MV → Mem → Prop} {E : Exn → Mem → Prop} (h : MI.W (F (.ref m.length :: ds) (m ++ [.own c []])) (fun d m' => d = .non ∧ Q (.ref m.length) m') E0) : MI.W (gMake c F ds m) Q E := by
  obtain ⟨d, m', e, rfl, q⟩ := W_out h
  unfold gMake
  rw [e]
  exact q
def xL (t : T) : List (Str × MV) := [("_data", enc t)]
def XAt (m : Mem) (n : Nat) (t : T) : Prop := m[n]? = some (.own "Expr" (xL t))
structure XNew (t : T) (m : Mem) (d : MV) (m' : Mem) : Prop where
  ex : ∃ n, d = .ref n ∧ XAt m' n t ∧ m.length ≤ n
  kp : Kp [] m m'
theorem mk_expr {t : T} {k : Nat} {m : Mem} (g : GE t) : MI.W (gMake "Expr" ((Tab (k + 5)).f .i_Expr) [enc t] m) (XNew t m) E0 := by
  refine mkW ?_
  have e : (Tab (k + 5)).f .i_Expr = f_i_Expr (Tab (k + 4)) := rfl
  rw [e]
  unfold f_i_Expr b_i_Expr
  simp [startM]
  refine (checkV_ok (S := []) (k := k) (enc_TyV t g.ok)).mono ?_ (fun x m' h => absurd ⟨t, rfl, g.ok, g.fit⟩ h.2.1)
  rintro d m1 ⟨rfl, _, k1⟩
  have ho : m1[m.length]? = some (.own "Expr" []) := k1.get (n := m.length) (by simp) (by simp)
  simp [ownOf_at ho]
  refine ⟨rfl, ⟨m.length, rfl, ?_, Nat.le_refl _⟩, ?_⟩
  · show (m1.set m.length _)[m.length]? = _
    rw [List.getElem?_set_self (List.getElem?_eq_some_iff.mp ho).1]
    rfl
  · exact (Kp.push.trans k1).wrN (Nat.le_refl _)
theorem po_x : po_Expr "Expr" = some true := rfl
theorem iso_x {m : Mem} {n : Nat} {t : T} (h : XAt m n t) : isoV po_Expr m (.ref n) = some true := by
  unfold isoV
  rw [ownOf_at h]
  exact po_x
theorem own_x {m : Mem} {n : Nat} {t : T} (h : XAt m n t) : isOwn "Expr" (.ref n) m = true := by
  unfold isOwn
  rw [ownOf_at h]
  rfl
theorem XAt.kp {m m' : Mem} {n : Nat} {t : T} {S : List Nat} (h : XAt m n t) (k : Kp S m m') (hn : n ∉ S) : XAt m' n t := k.get h hn
theorem data_x {m : Mem} {n : Nat} {t : T} {Q : MV → Mem → Prop} {E : Exn → Mem → Prop} (h : XAt m n t) (q : Q (enc t) m) : MI.W (gFld pf__data "_data" (.ref n) m) Q E := W_gFld h rfl rfl q
/-- o[p] -/
theorem getitem_ok {t : T} {k n : Nat} {m : Mem} {p : MV} (g : GE t) (hx : XAt m n t) (ht : TypedP m p) : MI.W ((Tab (k + 7)).f .m_Expr___getitem__ [.ref n, p] m) (fun d m' => ∃ x, partV t p = some x ∧ GE x ∧ enc x ∈ encs (parts t) ∧ XNew x m d m') (fun x m' => x = ⟨"InvalidPath"⟩ ∧ partV t p = none ∧ Kp [] m m') := by
  have e : (Tab (k + 7)).f .m_Expr___getitem__ = f_m_Expr___getitem__ (Tab (k + 6)) (Hk (k + 6)) (k + 6) := rfl
  rw [e]
  unfold f_m_Expr___getitem__ b_m_Expr___getitem__
  rw [Hk_eq (show k + 6 - 1 ≤ k + 6 by omega), show k + 6 - 1 = k + 5 by omega]
  simp [startM, mPos]
  refine data_x hx ?_
  refine (upart_all (k := k + 4) g.ok ht).mono ?_ ?_
  · rintro d m1 ⟨x, h1, h2, rfl, k1⟩
    have gx : GE x ∧ enc x ∈ encs (parts t) := by
      cases p with
      | tup ds => exact partAt_ge h1 g
      | _ => cases h1
    refine (mk_expr (k := k) gx.1).mono ?_
    rintro d m2 ⟨⟨n2, rfl, a, b⟩, k2⟩
    exact ⟨x, h1, gx.1, gx.2, ⟨n2, rfl, a, Nat.le_trans k1.1 b⟩, k1.trans k2⟩
  · rintro x m1 ⟨h1, h2, k1⟩
    exact ⟨h1, h2, k1⟩
/-- part in o -/
theorem contains_ok {t u : T} {k n q : Nat} {m : Mem} (g : GE t) (gu : GE u) (hx : XAt m n t) (hu : XAt m q u) : MI.W ((Tab (k + 14)).f .m_Expr___contains__ [.ref n, .ref q] m) (fun d m' => ∃ b : Bool, d = .bl b ∧ (b = true ↔ enc u ∈ encs (parts t)) ∧ Kp [] m m') E0 := by
  have e : (Tab (k + 14)).f .m_Expr___contains__ = f_m_Expr___contains__ (Tab (k + 13)) := rfl
  rw [e]
  unfold f_m_Expr___contains__ b_m_Expr___contains__
  have sz := g.sz
  simp [startM, iso_x hu]
  refine data_x hu ?_
  refine data_x hx ?_
  refine (aparts_ok 12 t k m g.ok sz.2 (by omega)).mono ?_
  rintro d m1 ⟨nf, rfl, h1, h2, k1⟩
  simp
  refine W_inD h1 (parts_das g) gu.da (by cases u with | node h l => rw [enc_node]; cases h <;> rfl) fun z hz => ?_
  cases z with
  | true => exact .inr ⟨rfl, hz.mp rfl, k1⟩
  | false => exact .inl ⟨rfl, fun h => (by have := hz.mpr h; cases this), k1⟩
theorem contains_no {t : T} {k n : Nat} {m : Mem} {d : MV} (ho : ownOf m d = none) (hd : ∃ ty, tyM m d = some ty ∧ ty ∈ builtNames) : MI.W ((Tab (k + 1)).f .m_Expr___contains__ [.ref n, d] m) (fun d m' => d = .bl false ∧ m' = m) E0 := by
  have e : (Tab (k + 1)).f .m_Expr___contains__ = f_m_Expr___contains__ (Tab k) := rfl
  rw [e]
  unfold f_m_Expr___contains__ b_m_Expr___contains__
  obtain ⟨ty, h1, h2⟩ := hd
  have i : isoV po_Expr m d = some false := by
    unfold isoV
    rw [ho]
    show (tyM m d).bind _ = _
    rw [h1]
    simp [h2]
  simp [startM, i]
end K17
set_option maxHeartbeats 4000000
namespace K17
open PySem L2 MI
structure Any (s c : Nat) (m : Mem) (t : Int) (d : MV) (m' : Mem) : Prop where
  ex : ∃ x, d = enc x ∧ GE x
  src : ∃ t', Src m' s c t' ∧ t ≤ t' ∧ t' ≤ t + 1300000000
  kp : Kp [s, c] m m'
theorem draw_ge {s c : Nat} {m m4 m5 : Mem} {p e : Int} {deep : Nat} {t : Int} {d : MV} {Bd : Int} (q1 : Kp [s, c] m (m4 ++ [MO.lst [.int p, .int e]])) (hm : m.length ≤ m4.length) (g : Got s c m4.length m4.length ["a", "b", "cd", "z"] (m4 ++ [MO.lst [.int p, .int e]]) t p e Bd deep d m5) (hp : p ≤ 39) (he : e ≤ 6) (hd : deep ≤ 12) :
    ∃ x t', d = enc x ∧ GE x ∧ Src m5 s c t' ∧ t ≤ t' ∧ t' ≤ t + Bd ∧ Kp [s, c] m m5 := by
  obtain ⟨⟨x, t', p', e', rfl, ox, h1, h2, h3, h4, h5, h6, D⟩, k5⟩ := g
  have px := D.p0
  have ex := D.e0
  have l3 := k5.1
  simp at l3
  have kp : Kp [s, c] m m5 := by
    refine ⟨Nat.le_trans q1.1 k5.1, fun i hi hn => ?_⟩
    rw [k5.2 i (by simp; omega) (by simp at hn ⊢; omega)]
    exact q1.2 i hi hn
  refine ⟨x, t', rfl, ⟨ox, fits_iff.mpr ⟨by omega, by omega, ⟨["a", "b", "cd", "z"], by simp, fun y hy => h4 y hy⟩, by omega⟩⟩, D.src, by omega, by omega, kp⟩
theorem any_ok {k s c : Nat} {m : Mem} {t : Int} (a : Src m s c t) (ht : t < 2 ^ 57) : MI.W ((Tab (k + 31)).f .l_any_expr [.ref s] m) (Any s c m t) E0 := by
  have e : (Tab (k + 31)).f .l_any_expr = f_l_any_expr (Tab (k + 30)) := rfl
  rw [e]
  unfold f_l_any_expr b_l_any_expr
  simp [startM, W_asgT, nCons, nName, nNil]
  refine ⟨szl (by decide), szl (by decide), ?_⟩
  have sl := a.lt
  refine (pick_ok (k := k + 28) (t := t) (l := [.tup [.int 3, .int 3], .tup [.int 7, .int 4], .tup [.int 12, .int 5], .tup [.int 24, .int 8], .tup [.int 39, .int 12]]) (a.kp (S := []) Kp.push (by simp) (by simp)) (by simp) (by simp) (by simp) (by omega) (by omega) (by omega)).mono ?_
  rintro d m3 ⟨hd, a3, k3, _⟩
  obtain ⟨p, dp, rfl, p0, p1, dp1, hB⟩ : ∃ (p : Int) (dp : Nat), d = .tup [.int p, .int ((dp + 1 : Nat) : Int)] ∧ 0 ≤ p ∧ p ≤ 39 ∧ dp ≤ 11 ∧ B (dp + 1) ≤ 1299999990 := by
    simp only [List.mem_cons, List.not_mem_nil, or_false] at hd
    rcases hd with rfl | rfl | rfl | rfl | rfl
    · exact ⟨3, 2, rfl, by omega, by omega, by omega, by decide⟩
    · exact ⟨7, 3, rfl, by omega, by omega, by omega, by decide⟩
    · exact ⟨12, 4, rfl, by omega, by omega, by omega, by decide⟩
    · exact ⟨24, 7, rfl, by omega, by omega, by omega, by decide⟩
    · exact ⟨39, 11, rfl, by omega, by omega, by omega, by decide⟩
  simp
  refine (draw_ok (k := k + 29) (lim := 7) a3 (by decide) (by decide) (by omega)).mono ?_
  rintro d m4 ⟨e, rfl, e0, e1, a4, k4, _⟩
  refine ⟨szl (by decide), ?_⟩
  have s4 := a4.lt
  have dr : Dr s c m4.length m4.length ["a", "b", "cd", "z"] (m4 ++ [MO.lst [.int p, .int e]]) (t + 1 + 1) p e := ⟨a4.kp (S := []) Kp.push (by simp) (by simp), List.getElem?_concat_length, ⟨rfl, rfl⟩, by omega, by omega, p0, e0⟩
  have nm : Nmz ["a", "b", "cd", "z"] := ⟨by simp, by simp, by decide⟩
  rw [show k + 30 = (k + 26 - 2 * dp) + 4 + 2 * dp by omega]
  refine (expr_ok dp (k + 26 - 2 * dp) s c m4.length m4.length _ _ _ p e dr nm (by omega)).mono ?_
  intro d m5 g
  have l1 := k3.1
  have l2 := k4.1
  simp at l1
  have q1 : Kp [s, c] m (m4 ++ [MO.lst [.int p, .int e]]) := (((Kp.push (S := [])).mono (by simp)).trans (k3.trans k4)).trans ((Kp.push (S := [])).mono (by simp))
  obtain ⟨x, t', rfl, gx, sr, t1, t2, kp⟩ := draw_ge q1 (by omega) g p1 (by omega) (by omega)
  exact ⟨⟨x, rfl, gx⟩, ⟨t', sr, by omega, by omega⟩, kp⟩
theorem pOP : p_OperandError "InvalidPath" = some true := by decide
theorem pPP : p_InvalidPath "InvalidPath" = some true := by decide
theorem pEP : p_InvalidExpression "InvalidPath" = some false := by decide
theorem refused_ok {t : T} {k n : Nat} {m : Mem} {p : MV} (g : GE t) (hx : XAt m n t) (ht : TypedP m p) (hn : partV t p = none) : MI.W ((Tab (k + 9)).f .l_refused [.ref n, p] m) (fun d m' => d = .bl true ∧ Kp [] m m') E0 := by
  have e : (Tab (k + 9)).f .l_refused = f_l_refused (Tab (k + 8)) (Hk (k + 8)) (k + 8) := rfl
  rw [e]
  unfold f_l_refused b_l_refused
  rw [Hk_eq (show k + 8 - 1 ≤ k + 8 by omega), show k + 8 - 1 = k + 7 by omega]
  simp [startM, mPos, own_x hx]
  refine (getitem_ok (k := k) g hx ht).mono ?_ ?_
  · rintro d m1 ⟨x, h1, _⟩
    rw [hn] at h1
    cases h1
  · rintro x m1 ⟨rfl, h1, k1⟩
    rw [pOP]
    simp [isxV, exnOf, pPP, pEP]
    exact k1.trans Kp.push
end K17
set_option maxHeartbeats 4000000
namespace K17
open PySem L2 MI
theorem tyd_int {m : Mem} {i : Int} : Typed m (.int i) := ⟨_, rfl, by decide⟩
theorem tyd_str {m : Mem} {i : Str} : Typed m (.str i) := ⟨_, rfl, by decide⟩
theorem tyd_bl {m : Mem} {i : Bool} : Typed m (.bl i) := ⟨_, rfl, by decide⟩
theorem tyd_non {m : Mem} : Typed m .non := ⟨_, rfl, by decide⟩
theorem tyd_tup {m : Mem} {l : List MV} : Typed m (.tup l) := ⟨_, rfl, by decide⟩
theorem tyd_lst {m : Mem} {n : Nat} {l : List MV} (h : m[n]? = some (.lst l)) : Typed m (.ref n) := ⟨"list", by show tyO m[n]? = _; rw [h]; rfl, by decide⟩
theorem tyd_dct {m : Mem} {n : Nat} {l : List (Key × MV)} (h : m[n]? = some (.dct l)) : Typed m (.ref n) := ⟨"dict", by show tyO m[n]? = _; rw [h]; rfl, by decide⟩
/-- what may stand in an asked path, but for a dict -/
inductive El (m : Mem) : MV → Prop
  | int (i : Int) : El m (.int i)
  | bl : El m (.bl true)
  | str : El m (.str "0")
  | non : El m .non
  | tup : El m (.tup [])
  | l0 {n : Nat} (h : m[n]? = some (.lst [])) : El m (.ref n)
  | l1 {n : Nat} (h : m[n]? = some (.lst [.int 0])) : El m (.ref n)
/-- what is asked -/
inductive PV (m : Mem) : MV → Prop
  | sc {d : MV} (h : Typed m d) (ht : isTup d = false) : PV m d
  | el {ds : List MV} (h : ∀ d ∈ ds, El m d) (hl : ds.length ≤ 50) : PV m (.tup ds)
  | dc {ds : List MV} {n : Nat} (h : ∀ d ∈ ds, ∃ i : Int, d = .int i) (hl : ds.length ≤ 50) (hn : m[n]? = some (.dct [])) : PV m (.tup (ds ++ [.ref n]))
theorem El.ty {m : Mem} {d : MV} (h : El m d) : Typed m d := by
  cases h with
  | int i => exact tyd_int
  | bl => exact tyd_bl
  | str => exact tyd_str
  | non => exact tyd_non
  | tup => exact tyd_tup
  | l0 h => exact tyd_lst h
  | l1 h => exact tyd_lst h
theorem El.kp {m m' : Mem} {d : MV} (h : El m d) (k : Kp [] m m') : El m' d := by
  cases h with
  | int i => exact .int i
  | bl => exact .bl
  | str => exact .str
  | non => exact .non
  | tup => exact .tup
  | l0 h => exact .l0 (k.get h (by simp))
  | l1 h => exact .l1 (k.get h (by simp))
theorem PV.kp {m m' : Mem} {d : MV} (h : PV m d) (k : Kp [] m m') : PV m' d := by
  cases h with
  | sc h ht => exact .sc (h.kp k) ht
  | el h hl => exact .el (fun d hd => (h d hd).kp k) hl
  | dc h hl hn => exact .dc h hl (k.get hn (by simp))
theorem PV.ty {m : Mem} {d : MV} (h : PV m d) : TypedP m d := by
  cases h with
  | sc h ht => exact ⟨h, fun ds e => by subst e; cases ht⟩
  | el h hl => exact ⟨tyd_tup, fun ds e x hx => by cases e; exact (h x hx).ty⟩
  | dc h hl hn =>
    refine ⟨tyd_tup, fun ds e x hx => ?_⟩
    cases e
    rcases List.mem_append.mp hx with hx | hx
    · obtain ⟨i, rfl⟩ := h x hx
      exact tyd_int
    · simp at hx
      subst hx
      exact tyd_dct hn
theorem mem_cut {l : List MV} {lo hi : Option Int} {d : MV} (h : d ∈ cutM l lo hi) : d ∈ l := List.mem_of_mem_drop (List.mem_of_mem_take h)
theorem len_cut {l : List MV} {lo hi : Option Int} : (cutM l lo hi).length ≤ l.length := by unfold cutM; simp; omega
structure OpR (m : Mem) (s c : Nat) (t : Int) (d : MV) (m' : Mem) : Prop where
  ex : ∃ (q : Nat) (vs : List MV), d = .ref q ∧ m'[q]? = some (.lst vs) ∧ m.length ≤ q ∧ (∀ v ∈ vs, PV m' v)
  src : Src m' s c (t + 2)
  kp : Kp [s, c] m m'
theorem other_ok {k s c : Nat} {m : Mem} {t : Int} {ds : List MV} (a : Src m s c t) (hi' : ∀ d ∈ ds, ∃ i : Nat, d = .int i) (hl : ds.length ≤ 20) (ht : t < 2 ^ 58) : MI.W ((Tab (k + 3)).f .l_other_paths [.ref s, .tup ds] m) (OpR m s c t) E0 := by
  have e : (Tab (k + 3)).f .l_other_paths = f_l_other_paths (Tab (k + 2)) := rfl
  rw [e]
  unfold f_l_other_paths b_l_other_paths
  simp [startM]
  refine (draw_ok (k := k + 1) (lim := (ds.length : Int) + 1) a (by omega) (by omega) (by omega)).mono ?_
  rintro d m1 ⟨at_, rfl, p0, p1, a1, k1, _⟩
  have pw : CPowW 10 20 := by decide
  have s1 : 1 ≤ sizeLine := szl (by decide)
  have s2 : 2 ≤ sizeLine := szl (by decide)
  have s3 : 3 ≤ sizeLine := szl (by decide)
  have s5 : 5 ≤ sizeLine := szl (by decide)
  have s11 : 11 ≤ sizeLine := szl (by decide)
  simp [pw, s11]
  refine (pick_ok (k := k) (t := t + 1) (l := [.int (-1), .int 3, .int 4, .int 100000000000000000000, .bl true, .str "0", .non, .tup [], .int 0, .int 1, .int 2]) (a1.kp (S := []) Kp.push (by simp) (by simp)) (by simp) (by simp) (by simp) (by omega) (by have := a1.lt; omega) (by have := a1.lt; omega)).mono ?_
  rintro d m3 ⟨hd, a3, k3, _⟩
  have lc : ∀ lo hi, (cutM ds lo hi).length ≤ 20 := fun lo hi => by have := len_cut (l := ds) (lo := lo) (hi := hi); omega
  have z1 : ∀ lo hi, (cutM ds lo hi).length + 1 ≤ sizeLine := fun lo hi => szl (by have := lc lo hi; omega)
  have z2 : ∀ lo hi lo2 hi2, (cutM ds lo hi).length + 1 + (cutM ds lo2 hi2).length ≤ sizeLine := fun lo hi lo2 hi2 => szl (by have := lc lo hi; have := lc lo2 hi2; omega)
  have z3 : ds.length + 1 ≤ sizeLine := szl (by omega)
  refine ⟨s1, z1 _ _, z2 _ _ _ _, s1, z1 _ _, z2 _ _ _ _, s2, s1, z1 _ _, z2 _ _ _ _, s1, z1 _ _, s1, z3, s3, ?_⟩
  refine (W_add_l (xs := _) (ys := _) (by rw [List.getElem?_append_right (by omega), Nat.sub_self]; rfl) (by rw [List.getElem?_append_right (by omega), show m3.length + 2 + 1 + 1 - m3.length = 4 by omega]; rfl)).mpr ⟨szl (by simp), ?_⟩
  simp
  refine ⟨s5, ?_⟩
  generalize hM : (m3 ++ [MO.lst [MV.tup (cutM ds none (some at_) ++ d :: cutM ds (some (at_ + 1)) none), MV.tup (cutM ds none (some at_) ++ d :: cutM ds (some at_) none)], MO.lst [MV.int 0], MO.dct [], MO.lst [],
    MO.lst [MV.tup (cutM ds none (some at_) ++ MV.ref (List.length m3 + 1) :: cutM ds (some (at_ + 1)) none), MV.tup (cutM ds none (some at_) ++ [MV.ref (List.length m3 + 2)]), MV.tup (ds ++ [MV.ref (List.length m3 + 2 + 1)])],
    MO.lst [MV.tup (cutM ds none (some at_) ++ d :: cutM ds (some (at_ + 1)) none), MV.tup (cutM ds none (some at_) ++ d :: cutM ds (some at_) none), MV.tup (cutM ds none (some at_) ++ MV.ref (List.length m3 + 1) :: cutM ds (some (at_ + 1)) none), MV.tup (cutM ds none (some at_) ++ [MV.ref (List.length m3 + 2)]), MV.tup (ds ++ [MV.ref (List.length m3 + 2 + 1)])],
    MO.lst ds, MO.lst [MV.ref (List.length m3 + 6), MV.non, MV.int 0, MV.str "", MV.tup (cutM ds none (some (-1)))]] : Mem) = M
  have at0 : ∀ (R M : Mem), m3 ++ R = M → ∀ i, M[m3.length + i]? = R[i]? := fun R M h i => by rw [← h]; exact at_app
  have at' := at0 _ M hM
  have g5 := at' 5
  have g7 := at' 7
  have g1 := at' 1
  have g2 := at' 2
  have g3 := at' 3
  have g6 := at' 6
  simp at g5 g7 g1 g2 g3 g6
  rw [show m3.length + 6 + 1 = m3.length + 7 by omega, W_add_l g5 g7]
  refine ⟨szl (by simp), ?_⟩
  have kM : Kp [] m3 M := by rw [← hM]; exact Kp.app
  have lM : m3.length + 8 = M.length := by rw [← hM]; simp
  have up : ∀ {n : Nat} {o : MO}, M[n]? = some o → ∀ {o' : MO}, (M ++ [o'])[n]? = some o := fun h => (Kp.push (S := [])).get h (by simp)
  have ei : ∀ lo hi, ∀ x ∈ cutM ds lo hi, ∃ i : Int, x = .int i := fun lo hi x hx => by obtain ⟨i, rfl⟩ := hi' x (mem_cut hx); exact ⟨_, rfl⟩
  have ee : ∀ (m' : Mem) lo hi, ∀ x ∈ cutM ds lo hi, El m' x := fun m' lo hi x hx => by obtain ⟨i, rfl⟩ := ei lo hi x hx; exact .int i
  have ed : ∀ (m' : Mem), El m' d := fun m' => by
    simp only [List.mem_cons, List.not_mem_nil, or_false] at hd
    rcases hd with rfl | rfl | rfl | rfl | rfl | rfl | rfl | rfl | rfl | rfl | rfl <;> constructor
  have two : ∀ (m' : Mem) lo hi lo2 hi2 x, El m' x → ∀ y ∈ cutM ds lo hi ++ x :: cutM ds lo2 hi2, El m' y := fun m' lo hi lo2 hi2 x hx y hy => by
    rcases List.mem_append.mp hy with hy | hy
    · exact ee m' _ _ y hy
    · rcases List.mem_cons.mp hy with rfl | hy
      · exact hx
      · exact ee m' _ _ y hy
  have l50 : ∀ lo hi lo2 hi2 x, (cutM ds lo hi ++ x :: cutM ds lo2 hi2).length ≤ 50 := fun lo hi lo2 hi2 x => by have := lc lo hi; have := lc lo2 hi2; simp; omega
  refine ⟨⟨M.length, _, rfl, List.getElem?_concat_length, by have := k1.1; have := k3.1; simp at this; omega, fun v hv => ?_⟩, (a3.kp kM (by simp) (by simp)).kp (S := []) Kp.push (by simp) (by simp) |> fun z => by rwa [show t + 1 + 1 = t + 2 by omega] at z, ?_⟩
  · simp only [List.mem_append, List.mem_cons, List.not_mem_nil, or_false] at hv
    rcases hv with (rfl | rfl | rfl | rfl | rfl) | rfl | rfl | rfl | rfl | rfl
    · exact .el (two _ _ _ _ _ _ (ed _)) (l50 _ _ _ _ _)
    · exact .el (two _ _ _ _ _ _ (ed _)) (l50 _ _ _ _ _)
    · exact .el (two _ _ _ _ _ _ (.l1 (up g1))) (l50 _ _ _ _ _)
    · exact .dc (ei _ _) (by have := lc none (some at_); omega) (up g2)
    · refine .el (fun y hy => ?_) (by simp; omega)
      rcases List.mem_append.mp hy with hy | hy
      · obtain ⟨i, rfl⟩ := hi' y hy; exact .int _
      · simp at hy; subst hy; exact .l0 (up g3)
    · exact .sc (tyd_lst (up g6)) rfl
    · exact .sc tyd_non rfl
    · exact .sc tyd_int rfl
    · exact .sc tyd_str rfl
    · exact .el (ee _ _ _) (by have := lc none (some (-1)); omega)
  · have q3 : Kp [s, c] m1 m3 := by
      have := ((Kp.push (S := []) (m := m1) (o := MO.lst [.int (-1), .int 3, .int 4, .int 100000000000000000000, .bl true, .str "0", .non, .tup [], .int 0, .int 1, .int 2])).mono (S' := [s, c]) (by simp)).trans k3
      exact this
    exact (k1.trans q3).trans ((kM.trans Kp.push).mono (by simp))
end K17
set_option maxHeartbeats 4000000
namespace K17
open PySem L2 MI
theorem das_all : ∀ {l : List MV} {N : Nat}, (∀ d ∈ l, pu d = true ∧ fl d ≤ N ∧ MI.dp d ≤ 60) → pus l = true ∧ fls l ≤ l.length + N ∧ dps l ≤ 60
  | [], _, _ => ⟨rfl, by simp [fls], by simp [dps]⟩
  | d :: r, N, h => by
    obtain ⟨a1, a2, a3⟩ := h d List.mem_cons_self
    obtain ⟨b1, b2, b3⟩ := das_all (l := r) (N := N) fun x hx => h x (List.mem_cons_of_mem _ hx)
    refine ⟨by simp [pus, a1, b1], ?_, ?_⟩
    · simp only [fls, List.length_cons]; omega
    · simp only [dps]; omega
def kno (t : T) : List MV := (prs [] t).map fun p => .tup p.1
theorem mem_kno {t : T} {ds : List MV} : .tup ds ∈ kno t ↔ ∃ x, partAt t ds = some x := by
  unfold kno
  constructor
  · intro h
    obtain ⟨⟨a, x⟩, hp, e⟩ := List.mem_map.mp h
    cases e
    exact ⟨x, mem_prs0.mp hp⟩
  · rintro ⟨x, q⟩
    exact List.mem_map.mpr ⟨(ds, x), mem_prs0.mpr q, rfl⟩
theorem kno_tup {t : T} {d : MV} (h : d ∈ kno t) : ∃ ds x, d = .tup ds ∧ partAt t ds = some x := by
  obtain ⟨⟨a, x⟩, hp, e⟩ := List.mem_map.mp h
  exact ⟨a, x, e.symm, mem_prs0.mp hp⟩
theorem kno_das {t : T} (g : GE t) : Das (kno t) := by
  have sz := g.sz
  have hl : (kno t).length = size t := by simp [kno, prs_len]
  obtain ⟨a, b, c⟩ := das_all (l := kno t) (N := 20) fun d hd => by
    obtain ⟨ds, x, rfl, q⟩ := kno_tup hd
    obtain ⟨i1, i2⟩ := partAt_ints q
    obtain ⟨a, b, c⟩ := das_ints fun d hd => let ⟨i, e⟩ := i1 d hd; ⟨(i : Int), e⟩
    refine ⟨by simpa [pu] using a, ?_, ?_⟩
    · simp only [fl]; omega
    · simp only [MI.dp]; omega
  exact ⟨a, by omega, c⟩
theorem partAt_notint {ds : List MV} {t : T} {d : MV} (hd : d ∈ ds) (hi : isInt d = false) : partAt t ds = none := by
  cases h : partAt t ds with
  | none => rfl
  | some x =>
    obtain ⟨i, rfl⟩ := (partAt_ints h).1 d hd
    cases hi
theorem el_dat {m : Mem} {d : MV} (h : El m d) (k : Nat) : ∃ e, dat m (k + 3) d = some e ∧ e.canLay0 = true ∧ e.depth ≤ 2 := by
  cases h with
  | int i => exact ⟨.int i, rfl, rfl, by simp [PyData.depth]⟩
  | bl => exact ⟨.bool true, rfl, rfl, by simp [PyData.depth]⟩
  | str => exact ⟨.str "0", rfl, by decide +kernel, by simp [PyData.depth]⟩
  | non => exact ⟨.none, rfl, rfl, by simp [PyData.depth]⟩
  | tup => exact ⟨.tuple [], by unfold dat; unfold dats; rfl, by simp [PyData.canLay0, PyData.canLayAll0], by simp [PyData.depth, PyData.depthAll]⟩
  | l0 h =>
    refine ⟨.list [], ?_, by simp [PyData.canLay0, PyData.canLayAll0], by simp [PyData.depth, PyData.depthAll]⟩
    unfold dat
    rw [(at_lst h).1]
    dsimp only
    unfold dats
    rfl
  | l1 h =>
    refine ⟨.list [.int 0], ?_, by simp [PyData.canLay0, PyData.canLayAll0], by simp [PyData.depth, PyData.depthAll]⟩
    unfold dat
    rw [(at_lst h).1]
    dsimp only
    unfold dats
    unfold dats
    unfold dat
    rfl
theorem els_dat {m : Mem} : ∀ {l : List MV}, (∀ d ∈ l, El m d) → ∀ k, ∃ es, dats m (k + 3 + l.length) l = some es ∧ PyData.canLayAll0 es = true ∧ PyData.depthAll es ≤ 2
  | [], _, k => ⟨[], by unfold dats; rfl, by simp [PyData.canLayAll0], by simp [PyData.depthAll]⟩
  | d :: l, h, k => by
    obtain ⟨e, a1, a2, a3⟩ := el_dat (h d (by simp)) (k + l.length)
    obtain ⟨es, b1, b2, b3⟩ := els_dat (l := l) (fun x hx => h x (by simp [hx])) k
    refine ⟨e :: es, ?_, ?_, ?_⟩
    · rw [show k + 3 + (d :: l).length = (k + 3 + l.length) + 1 by simp; omega]
      unfold dats
      rw [show k + 3 + l.length = k + l.length + 3 by omega] at b1 ⊢
      rw [a1, b1]
    · simp [PyData.canLayAll0, a2, b2]
    · simp [PyData.depthAll]; omega
theorem el_nd {m : Mem} {d : MV} (h : El m d) : isD m d = false := by
  unfold isD
  cases h with
  | l0 h => rw [(at_lst h).2.1]; rfl
  | l1 h => rw [(at_lst h).2.1]; rfl
  | _ => rfl
theorem inq_el {t : T} {m : Mem} {n : Nat} {ds : List MV} (g : GE t) (hn : m[n]? = some (.lst (kno t))) (h : ∀ d ∈ ds, El m d) (hl : ds.length ≤ 50) : MI.W (gInQ true (.tup ds) (.ref n) m) (fun d m' => ∃ b : Bool, d = .bl b ∧ (b = true → partAt t ds = none) ∧ m' = m) E0 := by
  have nd : dIn m (.tup ds) (.ref n) = false := by
    unfold dIn
    rw [(at_lst hn).1]
    have : ds.any (isD m) = false := by
      rw [List.any_eq_false]
      intro d hd
      rw [el_nd (h d hd)]
      simp
    simp [this]
  unfold gInQ
  rw [if_neg (by rw [nd]; simp), gInB_ref]
  by_cases c : ∃ d ∈ ds, isInt d = false
  · obtain ⟨d, hd, hi⟩ := c
    have pn : partAt t ds = none := partAt_notint hd hi
    unfold gInA
    rw [if_neg (by rintro ⟨z, hz⟩; cases hz), if_neg (by simp [hn]), if_neg (by rintro ⟨z, _, hz, _⟩; cases hz)]
    unfold gInD
    obtain ⟨es, e1, e2, e3⟩ := els_dat h (1996 - ds.length)
    have hf : dat m fuel (.tup ds) = some (.tuple es) := by
      show dat m (1999 + 1) (.tup ds) = _
      unfold dat
      have h9 : dats m 1999 ds = some es := by
        have e0 : (1999 : Nat) = 1996 - ds.length + 3 + ds.length := by omega
        exact (congrArg (fun z => dats m z ds) e0).trans e1
      rw [h9]
      rfl
    rw [hf, dat_l hn (kno_das g)]
    dsimp only
    have hs : SeqAt.shaped (.tuple es) = true := by
      unfold SeqAt.shaped
      rw [Bool.and_eq_true]
      exact ⟨by simpa [PyData.canLay0] using e2, by simp [PyData.depth]; omega⟩
    rw [if_pos ⟨hs, shaped_pus (kno_das g).pu (by have := (kno_das g).dp; omega)⟩]
    exact ⟨_, rfl, fun _ => pn, rfl⟩
  · have all : ∀ d ∈ ds, ∃ i : Int, d = .int i := fun d hd => by
      cases hi : isInt d with
      | true => cases d with
        | int i => exact ⟨i, rfl⟩
        | _ => cases hi
      | false => exact absurd ⟨d, hd, hi⟩ c
    refine W_inD hn (kno_das g) (da_ints all (by omega)) rfl fun z hz => ?_
    rw [mem_kno] at hz
    refine ⟨!z, by simp, fun hb => ?_, rfl⟩
    cases hp : partAt t ds with
    | none => rfl
    | some x =>
      rw [hz.mpr ⟨x, hp⟩] at hb
      cases hb
theorem inq_dc {t : T} {m : Mem} {n q : Nat} {ds : List MV} (hn : m[n]? = some (.lst (kno t))) (h : ∀ d ∈ ds, ∃ i : Int, d = .int i) (hq : m[q]? = some (.dct [])) : gInQ true (.tup (ds ++ [.ref q])) (.ref n) m = .ok (.bl true) m ∧ partAt t (ds ++ [.ref q]) = none := by
  have dq : isD m (.ref q) = true := by
    unfold isD
    have : dctOf m (.ref q) = some (q, []) := by simp [dctOf, hq]
    rw [this]
    rfl
  have d : dIn m (.tup (ds ++ [.ref q])) (.ref n) = true := by
    unfold dIn
    rw [(at_lst hn).1]
    simp only [Bool.and_eq_true]
    refine ⟨⟨?_, ?_⟩, ?_⟩
    · rw [List.all_eq_true]
      intro x hx
      rcases List.mem_append.mp hx with hx | hx
      · obtain ⟨i, rfl⟩ := h x hx; rfl
      · simp at hx; subst hx; simp [dq]
    · rw [List.any_eq_true]
      exact ⟨.ref q, by simp, dq⟩
    · rw [List.all_eq_true]
      intro x hx
      obtain ⟨ds, y, rfl, hp⟩ := kno_tup hx
      show ds.all isI = true
      rw [List.all_eq_true]
      intro z hz
      obtain ⟨i, rfl⟩ := (partAt_ints hp).1 z hz
      rfl
  refine ⟨?_, partAt_notint (d := .ref q) (by simp) rfl⟩
  unfold gInQ
  rw [if_pos d]
  unfold gInP
  rw [if_pos d]
theorem prop_ok {k n : Nat} {t : T} {m : Mem} {Q : MV → Mem → Prop} {E : Exn → Mem → Prop} (hx : XAt m n t) (q : Q (enc t) m) : MI.W (gProp "Expr" ((Tab (k + 1)).f .p_Expr_data) (.ref n) m) Q E := by
  refine W_gProp (own_x hx) ?_
  have e : (Tab (k + 1)).f .p_Expr_data = f_p_Expr_data (Tab k) := rfl
  rw [e]
  unfold f_p_Expr_data b_p_Expr_data
  simp [startM]
  exact data_x hx q
theorem enc_flat {u : T} : flat (enc u) = false := by
  cases u with
  | node h l => rw [enc_node]; cases h <;> rfl
theorem enc_nd {u : T} {m : Mem} {b : MV} : dIn m (enc u) b = false := by
  obtain ⟨w, r, e⟩ := encH_tup (h := match u with | .node h _ => h) (es := match u with | .node _ l => encs l)
  have e' : enc u = .tup (.str w :: r) := by
    cases u with
    | node h l => rw [enc_node]; exact e
  rw [e']
  unfold dIn
  split
  · rename_i l ls e1 _
    cases e1
    simp [isI, isD, dctOf]
  · rfl
theorem inParts {t u : T} {m : Mem} {n : Nat} {Q : MV → Mem → Prop} {E : Exn → Mem → Prop} (g : GE t) (gu : GE u) (hn : m[n]? = some (.lst (encs (parts t)))) (q : ∀ z : Bool, (z = true ↔ enc u ∈ encs (parts t)) → Q (.bl z) m) : MI.W (gInQ false (enc u) (.ref n) m) Q E := by
  unfold gInQ
  rw [if_neg (by rw [enc_nd]; simp), gInB_ref]
  refine W_inD hn (parts_das g) gu.da enc_flat fun z hz => ?_
  exact q z hz
theorem cont_x {t u : T} {k n q : Nat} {m : Mem} {neg : Bool} {Q : MV → Mem → Prop} {E : Exn → Mem → Prop} (g : GE t) (gu : GE u) (hx : XAt m n t) (hu : XAt m q u) (h : ∀ (b : Bool) (m' : Mem), (b = true ↔ enc u ∈ encs (parts t)) → Kp [] m m' → Q (.bl (if neg = true then !b else b)) m') : MI.W (gInO neg "Expr" ((Tab (k + 14)).f .m_Expr___contains__) (.ref q) (.ref n) m) Q E := by
  refine W_gInO (own_x hx) ((contains_ok (k := k) g gu hx hu).mono ?_)
  rintro d m' ⟨b, rfl, hb, k1⟩
  exact ⟨b, rfl, h b m' hb k1⟩
theorem cont_no {t : T} {k n : Nat} {m : Mem} {d : MV} {Q : MV → Mem → Prop} {E : Exn → Mem → Prop} (hx : XAt m n t) (ho : ownOf m d = none) (hd : ∃ ty, tyM m d = some ty ∧ ty ∈ builtNames) (q : Q (.bl false) m) : MI.W (gInO false "Expr" ((Tab (k + 1)).f .m_Expr___contains__) d (.ref n) m) Q E := by
  refine W_gInO (own_x hx) ((contains_no (t := t) (k := k) (n := n) ho hd).mono ?_)
  rintro d m' ⟨rfl, rfl⟩
  exact ⟨false, rfl, q⟩
end K17
set_option maxHeartbeats 4000000
namespace K17
open PySem L2 MI
/-- what a turn has made -/
structure Has (t : T) (vn pn kn qn : Nat) (m : Mem) : Prop where
  v : XAt m vn t
  p : m[pn]? = some (.lst ((prs [] t).map pV))
  k : m[kn]? = some (.lst (kno t))
  q : m[qn]? = some (.lst (encs (parts t)))
theorem Has.kp {t : T} {vn pn kn qn : Nat} {m m' : Mem} (h : Has t vn pn kn qn m) (k : Kp [] m m') : Has t vn pn kn qn m' := ⟨h.v.kp k (by simp), k.get h.p (by simp), k.get h.k (by simp), k.get h.q (by simp)⟩
abbrev En (k0 : MV) (s : Nat) (x2 : Option MV) (t : T) (vn pn kn qn : Nat) (x8 x9 x10 x11 x12 : Option MV) : MI.Env := [some k0, some (.ref s), x2, some (enc t), some (.ref vn), some (.ref pn), some (.ref kn), some (.ref qn), x8, x9, x10, x11, x12]
structure R1 (k0 : MV) (s : Nat) (x2 : Option MV) (t : T) (vn pn kn qn : Nat) (x10 x12 : Option MV) (m0 : Mem) (rem : List MV) (ρ : MI.Env) (m' : Mem) : Prop where
  ex : ∃ (dn r : List (List MV × T)) (x8 x9 x11 : Option MV), prs [] t = dn ++ r ∧ rem = r.map pV ∧ ρ = En k0 s x2 t vn pn kn qn x8 x9 x10 x11 x12
  kp : Kp [] m0 m'
structure R2 (k0 : MV) (s : Nat) (x2 : Option MV) (t : T) (vn pn kn qn : Nat) (x9 x10 x11 : Option MV) (q : Nat) (vs : List MV) (m0 : Mem) (rem : List MV) (ρ : MI.Env) (m' : Mem) : Prop where
  ex : ∃ (dn : List MV) (x8 x12 : Option MV), vs = dn ++ rem ∧ ρ = En k0 s x2 t vn pn kn qn x8 x9 x10 x11 x12
  kp : Kp [] m0 m'
/-- the first loop's body -/
noncomputable abbrev bA (k : Nat) : MS := (mSeq (mAsg (mPos (k + 1) (mGetO "Expr" ((Tab k).f .m_Expr___getitem__) (mVar 4) (mVar 8))) (nName 11))
    (mIfS (mOrT (mNotT (mTru (mIso po_Expr (mVar 11)))) (mOrT (mB (mBin (gEqA true) (mPos (k + 1) (mProp "Expr" ((Tab k).f .p_Expr_data) (mVar 11))) (mVar 9))) (mB (mBin (gInO true "Expr" ((Tab (k + 1)).f .m_Expr___contains__)) (mPos (k + 1) (mCall (gMake "Expr" ((Tab k).f .i_Expr)) (mCons (mVar 9) mNil))) (mVar 4)))))
    (mRet (mC (.bl false)))
    mSkip))
theorem bA_ok {k : Nat} {k0 : MV} {s : Nat} {x2 x10 x11 x12 : Option MV} {t x : T} {vn pn kn qn : Nat} {ds : List MV} {m : Mem} (g : GE t) (h : Has t vn pn kn qn m) (hp : partAt t ds = some x) :
    MI.W (bA (k + 40) (En k0 s x2 t vn pn kn qn (some (.tup ds)) (some (enc x)) x10 x11 x12) m) (fun a m' => (∃ y, a = .nx (En k0 s x2 t vn pn kn qn (some (.tup ds)) (some (enc x)) x10 y x12)) ∧ Kp [] m m') E0 := by
  have ty : TypedP m (.tup ds) := ⟨tyd_tup, fun ds' e y hy => by cases e; obtain ⟨i, rfl⟩ := (partAt_ints hp).1 y hy; exact tyd_int⟩
  obtain ⟨gx, px⟩ := partAt_ge hp g
  simp [mPos, own_x h.v]
  refine (getitem_ok (k := k + 33) g h.v ty).mono ?_ ?_
  · rintro d m1 ⟨x', e, _, _, ⟨n1, rfl, hx, l1⟩, k1⟩
    have e : partAt t ds = some x' := e
    rw [hp] at e
    cases e
    simp [iso_x hx]
    refine prop_ok (k := k + 39) hx ?_
    refine W_eqD gx.da gx.da fun z hz => ?_
    obtain rfl : z = true := hz.mpr rfl
    simp
    refine (mk_expr (k := k + 35) gx).mono ?_
    rintro d m2 ⟨⟨n2, rfl, hy, l2⟩, k2⟩
    have h2 := (h.kp k1).kp k2
    refine cont_x (k := k + 27) g gx h2.v hy fun b m3 hb k3 => ?_
    obtain rfl : b = true := hb.mpr px
    simp
    exact (k1.trans k2).trans k3
  · rintro x' m1 ⟨rfl, e, _⟩
    have e : partAt t ds = none := e
    rw [hp] at e
    cases e
/-- the second loop's body -/
noncomputable abbrev bB (k : Nat) : MS := (mSeq (mAsg (mOr (mNot (mIsi "tuple" (mVar 8))) (mBin gNeE (mLc (mAnyI (mVar 8)) (ngName 9) (mTru (mIsi "bool" (mVar 9))) (mVar 9) [9]) (mLst mNil))) (nName 12))
    (mIfS (mOrT (mTru (mVar 12)) (mB (mBin (gInQ true) (mVar 8) (mVar 6))))
    (mIfS (mNotT (mTru (mCall ((Tab k).f .l_refused) (mCons (mVar 4) (mCons (mVar 8) mNil)))))
    (mRet (mC (.bl false)))
    mSkip)
    mSkip))
def isB : MV → Bool
  | .bl _ => true
  | _ => false
theorem ty_isB {m : Mem} {d : MV} {t : String} (h : tyM m d = some t) : (decide (t = "bool")) = isB d := by
  cases d with
  | int i => cases h; rfl
  | non => cases h; rfl
  | bl b => cases h; rfl
  | str s => cases h; rfl
  | tup l => cases h; rfl
  | kl l => cases h
  | clo _ _ => cases h
  | ref n =>
    have h : tyO m[n]? = some t := h
    cases q : m[n]? with
    | none => rw [q] at h; cases h
    | some o => rw [q] at h; cases o <;> cases h <;> rfl
abbrev Nx (k0 : MV) (s : Nat) (x2 : Option MV) (t : T) (vn pn kn qn : Nat) (p : MV) (x9 x10 x11 : Option MV) (m : Mem) (a : Fl) (m' : Mem) : Prop := (∃ y, a = .nx (En k0 s x2 t vn pn kn qn (some p) x9 x10 x11 y)) ∧ Kp [] m m'
theorem refQ {k vn : Nat} {t : T} {p : MV} {m : Mem} {Q : MV → Mem → Prop} {E : Exn → Mem → Prop} (g : GE t) (h : XAt m vn t) (ty : TypedP m p) (hn : partV t p = none) (q : ∀ m', Kp [] m m' → Q (.bl true) m') : MI.W ((Tab (k + 9)).f .l_refused [.ref vn, p] m) Q E := by
  refine (refused_ok (k := k) g h ty hn).mono ?_ (fun _ _ h => h.elim)
  rintro d m1 ⟨rfl, k2⟩
  exact q m1 k2
theorem bB_ok {k : Nat} {k0 : MV} {s : Nat} {x2 x9 x10 x11 x12 : Option MV} {t : T} {vn pn kn qn : Nat} {p : MV} {m : Mem} (g : GE t) (h : Has t vn pn kn qn m) (hp : PV m p) :
    MI.W (bB (k + 9) (En k0 s x2 t vn pn kn qn (some p) x9 x10 x11 x12) m) (Nx k0 s x2 t vn pn kn qn p x9 x10 x11 m) E0 := by
  have ty := hp.ty
  obtain ⟨y, h1, h2⟩ := ty.1
  have kt := (kit_all y h2).2.1
  rw [ty_isTup h1] at kt
  by_cases c : isTup p = true
  · cases p with
    | tup ds =>
      have tds := ty.2 ds rfl
      have l50 : ds.length ≤ 51 := by
        cases hp with
        | sc h ht => cases ht
        | el h hl => omega
        | dc h hl hn => simp; omega
      rw [c] at kt
      simp [h1, kt]
      refine W_pure id isB trivial (fun d hd => ⟨?_, fun _ => ?_⟩) (by omega) ?_
      · obtain ⟨t', q1, q2⟩ := tds d hd
        have b := (kit_int t' q2).2
        rw [ty_isB q1] at b
        simp [mTru, mIsi, mVar, Re.bind, q1, b, wipeM, tru]
      · simp [mVar, wipeM]
      · simp
        have kk : Kp [] m (m ++ [MO.lst (ds.filter isB), MO.lst []]) := Kp.app
        generalize m ++ [MO.lst (ds.filter isB), MO.lst []] = M at kk ⊢
        generalize (List.filter isB ds).isEmpty = bE
        have hk := h.kp kk
        split
        · cases hp with
          | sc h ht => cases ht
          | el he hl =>
            refine (inq_el g hk.k (fun d hd => (he d hd).kp kk) hl).mono ?_
            rintro d m1 ⟨b, rfl, hb2, rfl⟩
            cases b with
            | true =>
              simp
              exact refQ g hk.v (ty.kp kk) (hb2 rfl) fun m' k2 => ⟨⟨_, rfl⟩, kk.trans k2⟩
            | false =>
              simp
              exact ⟨⟨_, rfl⟩, kk⟩
          | dc he hl hn =>
            obtain ⟨e1, e2⟩ := inq_dc hk.k he (kk.get hn (by simp))
            rw [e1]
            simp
            exact refQ g hk.v (ty.kp kk) e2 fun m' k2 => ⟨⟨_, rfl⟩, kk.trans k2⟩
        · rename_i hb
          have : ∃ d ∈ ds, isB d = true := by
            simpa using hb
          obtain ⟨d, d1, d2⟩ := this
          exact refQ g hk.v (ty.kp kk) (partAt_notint d1 (by cases d <;> first | rfl | cases d2)) fun m' k2 => ⟨⟨_, rfl⟩, kk.trans k2⟩
    | _ => cases c
  · have c : isTup p = false := by simpa using c
    rw [c] at kt
    simp [h1, kt]
    refine refQ g h.v ty ?_ fun m' k2 => ⟨⟨_, rfl⟩, k2⟩
    cases p with
    | tup ds => cases c
    | _ => rfl
end K17
set_option maxHeartbeats 4000000
namespace K17
open PySem L2 MI
theorem known_lc {m : Mem} {pn : Nat} {ρ : MI.Env} {all : List MV} (h8 : ρ.length = 13) (hp : m[pn]? = some (.lst all)) : ∀ (l : List (List MV × T)) (acc : List MV), acc.length + l.length ≤ 1000 →
    MI.W (lcM (fun m' => lstOf m' (.ref pn) = some all) (ngTup 2 (ngCons (ngName 8) (ngCons (ngName 9) ngNil))) mYes (mVar 8) ρ (l.map pV) acc m) (fun r m' => r = acc ++ l.map (fun p => .tup p.1) ∧ m' = m) E0
  | [], acc, _ => by
    refine W_lc_nil (at_lst hp).1 ?_
    simp
  | p :: l, acc, hl => by
    have b := hl
    simp at b
    refine W_lc_cons (as := [(8, .tup p.1), (9, enc p.2)]) (at_lst hp).1 rfl ?_
    simp [mYes, setE, h8]
    refine ⟨szl (by omega), ?_⟩
    refine (known_lc h8 hp l (acc ++ [.tup p.1]) (by simp; omega)).mono ?_
    rintro r m' ⟨rfl, rfl⟩
    simp
theorem seqL {m : Mem} {n : Nat} {l : List MV} {Q : IterM → Mem → Prop} {E : Exn → Mem → Prop} (h : m[n]? = some (.lst l)) (q : Q ⟨l, fun m' => lstOf m' (.ref n) = some l⟩ m) : MI.W (seqIt (.ref n) m) Q E := by
  have e : seqIt (.ref n) m = .ok ⟨l, fun m' => lstOf m' (.ref n) = some l⟩ m := by unfold seqIt; simp [lstOf, h]
  rw [e]
  exact q
theorem eqB {b : Bool} {m : Mem} {Q : MV → Mem → Prop} {E : Exn → Mem → Prop} (q : Q (.bl false) m) : MI.W (gEqA true (.bl b) (.bl b) m) Q E := by
  have e : gEqA true (.bl b) (.bl b) m = .ok (.bl false) m := by
    unfold gEqA
    unfold gEqS
    cases b <;> simp [eqS]
  rw [e]
  exact q
theorem drX {k s c : Nat} {m : Mem} {t : Int} (a : Src m s c t) (ht : t < 2 ^ 57) : MI.W ((Tab (k + 30)).f .l_expr [.ref s, .ref m.length, .int 4] (m ++ [MO.lst [.int 7, .int 1]])) (Any s c m t) E0 := by
  have s4 := a.lt
  have dr : Dr s c m.length m.length ["a", "b", "cd", "z"] (m ++ [MO.lst [.int 7, .int 1]]) t 7 1 := ⟨a.kp (S := []) Kp.push (by simp) (by simp), List.getElem?_concat_length, ⟨rfl, rfl⟩, by omega, by omega, by omega, by omega⟩
  have nm : Nmz ["a", "b", "cd", "z"] := ⟨by simp, by simp, by decide⟩
  have hB : B (3 + 1) ≤ 1299999990 := by decide
  rw [show k + 30 = (k + 20) + 4 + 2 * 3 by omega]
  refine (expr_ok 3 (k + 20) s c m.length m.length _ _ _ 7 1 dr nm (by omega)).mono ?_
  intro d m5 g
  obtain ⟨x, t', rfl, gx, sr, t1, t2, kp⟩ := draw_ge (m := m) ((Kp.push (S := [])).mono (by simp)) (Nat.le_refl _) g (by omega) (by omega) (by omega)
  exact ⟨⟨x, rfl, gx⟩, ⟨t', sr, by omega, by omega⟩, kp⟩
structure LaI (s c : Nat) (k0 : MV) (rem : List MV) (ρ : MI.Env) (m' : Mem) : Prop where
  ex : ∃ (j : Nat) (x2 x3 x4 x5 x6 x7 x8 x9 x10 x11 x12 : Option MV) (t : Int), rem = (rngL 0 20).drop j ∧ j ≤ 20 ∧ ρ = [some k0, some (.ref s), x2, x3, x4, x5, x6, x7, x8, x9, x10, x11, x12] ∧ t ≤ j * 2600000100 ∧ Src m' s c t
theorem law_ok {k : Nat} {ns : List Int} {m0 : Mem} : MI.W ((Tab (k + 60)).f .law [.kl (ns.map .int)] m0) (fun d m' => d = .bl true) E0 := by
  have e : (Tab (k + 60)).f .law = f_law (Tab (k + 59)) (Hk (k + 59)) (k + 59) := rfl
  rw [e]
  unfold f_law b_law
  rw [Hk_eq (show k + 59 - 1 ≤ k + 59 by omega), show k + 59 - 1 = k + 58 by omega]
  simp [startM]
  refine (source_ok (k := k + 58)).mono ?_
  rintro d m1 ⟨s, c, rfl, a1, l1, l2, k1⟩
  refine W_loop (LaI s c (.kl (ns.map .int))) _ _ _ ⟨0, _, _, _, _, _, _, _, _, _, _, _, 0, rfl, by omega, rfl, by omega, a1⟩ (fun _ _ _ _ => trivial) ?_ ?_
  · rintro d rem ρ m2 ⟨j, x2, x3, x4, x5, x6, x7, x8, x9, x10, x11, x12, t, q1, q2, rfl, q3, a2⟩
    by_cases hj : j < 20
    · rw [drop_rng hj] at q1
      cases q1
      simp
      have lo := a2.lo
      refine (any_ok (k := k + 28) a2 (by omega)).mono ?_
      rintro d m3 ⟨⟨x, rfl, g⟩, ⟨t3, a3, t31, t32⟩, k3⟩
      have sz := g.sz
      simp [mPos]
      refine (mk_expr (k := k + 53) g).mono ?_
      rintro d m4 ⟨⟨vn, rfl, hv, lv⟩, k4⟩
      refine (lpairs_ok 12 x (k + 46) m4 g.ok sz.2 (by omega) (by omega)).mono ?_
      rintro d m5 ⟨pn, rfl, p1, p2, k5⟩
      refine seqL p1 ?_
      refine (known_lc rfl p1 (prs [] x) [] (by have := prs_len x []; simp only [List.length_nil]; omega)).mono ?_ (fun _ _ h => h.elim)
      rintro r m6 ⟨rfl, rfl⟩
      simp
      refine (parts_ok 12 x (k + 46) _ g.ok sz.2 (by omega)).mono ?_ (fun _ _ h => h.elim)
      rintro d m7 ⟨qn, rfl, r1, r2, k7⟩
      simp at r2
      have hs : Has x vn pn m6.length qn m7 := by
        refine ⟨((hv.kp k5 (by simp)).kp (Kp.push (S := [])) (by simp)).kp k7 (by simp), k7.get ((Kp.push (S := [])).get p1 (by simp)) (by simp), k7.get (n := m6.length) ?_ (by simp), r1⟩
        rw [List.getElem?_concat_length]
        rfl
      have lk7 : m6.length < m7.length := by have := k7.1; simp at this; omega
      have l3 := k3.1
      have l4 := k4.1
      have l5 := k5.1
      have sl := a3.lt
      have hml : ∃ m5lt, m5lt = m3.length := ⟨_, rfl⟩
      obtain ⟨m5lt, hml⟩ := hml
      have a7 : Src m7 s c t3 := (((a3.kp k4 (by simp) (by simp)).kp k5 (by simp) (by simp)).kp (S := []) Kp.push (by simp) (by simp)).kp k7 (by simp) (by simp)
      rw [hs.p]
      dsimp only
      refine W_loopG (R1 (.kl (ns.map .int)) s (some (.int (j : Nat))) x vn pn m6.length qn x10 x12 m7) _ _ _ ⟨⟨[], prs [] x, _, _, _, rfl, rfl, rfl⟩, Kp.refl⟩ (fun _ _ m' h => by rw [(hs.kp h.kp).p]) ?_ ?_
      · rintro d rem ρ m8 ⟨⟨dn, r, y8, y9, y11, e1, e2, rfl⟩, kp⟩
        cases r with
        | nil => cases e2
        | cons p r =>
          cases e2
          have pm : p ∈ prs [] x := by rw [e1]; simp
          refine ⟨En (.kl (ns.map .int)) s (some (.int (j : Nat))) x vn pn m6.length qn (some (.tup p.1)) (some (enc p.2)) x10 y11 x12, rfl, ?_⟩
          refine (bA_ok (k := k + 18) (k0 := .kl (ns.map .int)) (s := s) (x2 := some (.int (j : Nat))) (x10 := x10) (x11 := y11) (x12 := x12) g (hs.kp kp) (mem_prs0.mp pm)).mono ?_ (fun _ _ h => h.elim)
          rintro a m9 ⟨⟨y, rfl⟩, k9⟩
          exact ⟨⟨dn ++ [p], r, _, _, _, by rw [e1]; simp, rfl, rfl⟩, kp.trans k9⟩
      · rintro ρ m8 ⟨⟨dn, r, y8, y9, y11, e1, e2, rfl⟩, kp8⟩
        have h8 := hs.kp kp8
        have a8 := a7.kp kp8 (by simp) (by simp)
        simp [En]
        refine (pick_ok (k := k + 57) a8 h8.k (by obtain ⟨h, l⟩ := x; simp [kno, prs]) (by simp [kno, prs_len]; omega) (by omega) (by omega) (by omega)).mono ?_ (fun _ _ h => h.elim)
        rintro d mA ⟨hd, aA, kA, _⟩
        obtain ⟨ds, y, rfl, hp⟩ := kno_tup hd
        obtain ⟨i1, i2⟩ := partAt_ints hp
        refine (other_ok (k := k + 56) aA i1 (by omega) (by omega)).mono ?_ (fun _ _ h => h.elim)
        rintro d mB ⟨⟨q, vs, rfl, v1, v2, v3⟩, aB, kB⟩
        have lB := aB.lt
        have hB : Has x vn pn m6.length qn mB := by
          have nin : ∀ i, m5lt ≤ i → i ∉ [s, c] := fun i hi => by simp; omega
          have kk : Kp [s, c] m8 mB := kA.trans kB
          exact ⟨h8.v.kp kk (nin _ (by omega)), kk.get h8.p (nin _ (by omega)), kk.get h8.k (nin _ (by omega)), kk.get h8.q (nin _ (by omega))⟩
        refine seqL v1 ?_
        refine W_loop (R2 (.kl (ns.map .int)) s (some (.int (j : Nat))) x vn pn m6.length qn y9 x10 y11 q vs mB) _ _ _ ⟨⟨[], _, _, rfl, rfl⟩, Kp.refl⟩ (fun _ _ m' h => (at_lst (h.kp.get v1 (by simp))).1) ?_ ?_
        · rintro d rem ρ mC ⟨⟨dn, z8, z12, e1, rfl⟩, kp⟩
          have pv : PV mC d := (v3 d (by rw [e1]; simp)).kp kp
          refine (bB_ok (k := k + 50) (k0 := .kl (ns.map .int)) (s := s) (x2 := some (.int (j : Nat))) (x9 := y9) (x10 := x10) (x11 := y11) (x12 := z12) g (hB.kp kp) pv).mono ?_ (fun _ _ h => h.elim)
          rintro a mD ⟨⟨w, rfl⟩, kD⟩
          exact ⟨⟨dn ++ [d], _, _, by rw [e1]; simp, rfl⟩, kp.trans kD⟩
        · rintro ρ mC ⟨⟨dn, z8, z12, e1, rfl⟩, kpC⟩
          have hC := hB.kp kpC
          have aC := aB.kp kpC (by simp) (by simp)
          simp [En]
          refine ⟨szl (by decide), ?_⟩
          refine (drX (k := k + 29) aC (by omega)).mono ?_ (fun _ _ h => h.elim)
          rintro d mE ⟨⟨o, rfl, go⟩, ⟨tE, aE, tE1, tE2⟩, kE⟩
          have hE : Has x vn pn m6.length qn mE := by
            have nin : ∀ i, m5lt ≤ i → i ∉ [s, c] := fun i hi => by simp; omega
            exact ⟨hC.v.kp kE (nin _ (by omega)), kE.get hC.p (nin _ (by omega)), kE.get hC.k (nin _ (by omega)), kE.get hC.q (nin _ (by omega))⟩
          refine (mk_expr (k := k + 53) go).mono ?_ (fun _ _ h => h.elim)
          rintro d mF ⟨⟨oF, rfl, hF, lF⟩, kF⟩
          refine cont_x (k := k + 45) g go (hE.kp kF).v hF fun b mG hb kG => ?_
          refine inParts g go ((hE.kp kF).kp kG).q fun z hz => ?_
          have ez : z = b := by
            cases z <;> cases b <;> first | rfl | (exfalso; simp_all)
          subst ez
          rw [show (if false = true then !z else z) = z from rfl]
          refine eqB ⟨rfl, ?_⟩
          have hG := (hE.kp kF).kp kG
          refine (mk_expr (k := k + 53) go).mono ?_ (fun _ _ h => h.elim)
          rintro d mH ⟨⟨oH, rfl, hH, lH⟩, kH⟩
          refine cont_x (k := k + 45) go g hH (hG.kp kH).v fun b2 mI hb2 kI => ?_
          refine (parts_ok 12 o (k + 46) _ go.ok go.sz.2 (by have := go.sz; omega)).mono ?_ (fun _ _ h => h.elim)
          rintro d mJ ⟨qo, rfl, r3, r4, kJ⟩
          refine inParts go g r3 fun z2 hz2 => ?_
          have ez : z2 = b2 := by
            cases z2 <;> cases b2 <;> first | rfl | (exfalso; simp_all)
          subst ez
          rw [show (if false = true then !z2 else z2) = z2 from rfl]
          refine eqB ⟨rfl, ?_⟩
          have hJ := ((hG.kp kH).kp kI).kp kJ
          refine cont_no (k := k + 58) hJ.v ?_ ?_ ⟨rfl, ?_⟩
          · obtain ⟨l, e⟩ := enc_tup (t := x)
            rw [e]; rfl
          · obtain ⟨l, e⟩ := enc_tup (t := x)
            rw [e]; exact ⟨"tuple", rfl, by decide⟩
          refine cont_no (k := k + 58) hJ.v rfl ⟨"NoneType", rfl, by decide⟩ ⟨rfl, ?_⟩
          refine cont_no (k := k + 58) hJ.v rfl ⟨"str", rfl, by decide⟩ ⟨rfl, ?_⟩
          refine ⟨j + 1, _, _, _, _, _, _, _, _, _, _, _, tE, rfl, by omega, rfl, by push_cast; omega, ?_⟩
          have kk : Kp [] mE mJ := (((kF.trans kG).trans kH).trans kI).trans kJ
          exact aE.kp kk (by simp) (by simp)
    · rw [List.drop_of_length_le (by rw [rngL_length]; omega)] at q1
      cases q1
  · rintro ρ m2 ⟨j, x2, x3, x4, x5, x6, x7, x8, x9, x10, x11, x12, t, q1, q2, rfl, q3, a2⟩
    simp
end K17
set_option maxHeartbeats 4000000
namespace K17
open PySem L2 MI
theorem law_true : ∀ ns : List Int, ns.length ≤ 63 → (∀ z ∈ ns, Builtin.Int.intBits z ≤ 1048576) → ∃ m', (Tab 220).f .law [.kl (ns.map .int)] [] = .ok (.bl true) m' := by
  intro ns _ _
  have h : ∀ m0 : Mem, ∃ m', (Tab 220).f .law [.kl (ns.map .int)] m0 = .ok (.bl true) m' := by
    intro m0
    have h := law_ok (k := 160) (ns := ns) (m0 := m0)
    obtain ⟨d, m', e, rfl⟩ := W_out h
    exact ⟨m', e⟩
  exact h []
end K17
namespace PySem.W.Fast
def tw8401462320665362212 := 0
def tw17320590209691076046 := 0
def tw13090968997852983327 := 0
def tw4985344364417365507 := 0
def tw13877502083002992947 := 0
def tw12833230771924773031 := 0
def tw13624864793423405222 := 0
def tw17211796692626633171 := 0
def tw16485416228413999482 := 0
def tw16565735309682953945 := 0
def tw10835821969549128166 := 0
def tw8555215186656709088 := 0
def tw1027488998734053563 := 0
def tw5937765450819982747 := 0
def tw17168574159153653556 := 0
def tw4986232854318413157 := 0
def tw9553271752927979432 := 0
def tw1038023454790991248 := 0
def tw7867033673389260786 := 0
def tw16814000305670646952 := 0
def tw3452695822339644015 := 0
def tw1213162435163585911 := 0
def tw18228355638368686224 := 0
def tw9619607649956967625 := 0
def tw12402253579565409193 := 0
def tw10398828243894803854 := 0
def tw6869066410359904251 := 0
def tw17865993719348757092 := 0
def tw3063791482448538352 := 0
def tw14927194232376046118 := 0
def tw1720111675898295698 := 0
def tw15917779519634768343 := 0
def tw4180172570443303027 := 0
def tw14103600062233552605 := 0
def tw5899741867366642023 := 0
def tw1920916484168325274 := 0
def tw13864927502249664549 := 0
def tw1833060535560445942 := 0
def tw7164605017089168105 := 0
def tw7866375309123328616 := 0
def tw15508550981135987098 := 0
def tw2065539003056929892 := 0
def tw7304346510187839544 := 0
def tw10982739202772746041 := 0
def tw2764797857039854507 := 0
def tw4433251614837077267 := 0
def tw1815774864296604342 := 0
def tw252621375362806144 := 0
def tw1209475856213054958 := 0
def tw11133389016692934543 := 0
def tw2728023260960751253 := 0
def tw12439646746359350654 := 0
def tw12298570975808072426 := 0
def tw12459082006029501729 := 0
def tw9222317297858278201 := 0
def tw3242254598948250602 := 0
def tw12808614329950057532 := 0
def tw9807383415960979536 := 0
def tw2559026904658598039 := 0
def tw13624165841759289076 := 0
def tw729171022242988703 := 0
def tw18130151181024652121 := 0
def tw13303625349782209511 := 0
def tw2764138656847017283 := 0
def tw6191792201018009222 := 0
def tw2289711599438938378 := 0
def tw8325970024857310355 := 0
def tw17927465779001801699 := 0
def tw16402275641766933150 := 0
def tw4327884477379896818 := 0
def tw9966250547175058416 := 0
def tw12179031900394879562 := 0
def tw3895118036029272655 := 0
def tw12696695279352250952 := 0
def tw16653717234779525786 := 0
def tw768309223491959226 := 0
def tw2375871316092995462 := 0
def tw13604602905625344233 := 0
def tw3772428105970691855 := 0
def tw11722761939055169394 := 0
def tw9132844088152663282 := 0
def tw11160748644979393128 := 0
def tw17795946340765558803 := 0
def tw1667596640325542755 := 0
def tw14230221216204474614 := 0
def tw5023724907394810809 := 0
def tw13998531540549178884 := 0
def tw16172958780929756479 := 0
def tw7825179470760664793 := 0
def tw16094263589230333533 := 0
def tw2851490505576715152 := 0
def tw2971429081138348666 := 0
def tw4397679908356491256 := 0
def tw17936703149795088218 := 0
def tw4121937677384121704 := 0
def tw9007362893942586233 := 0
def tw4373648216210356418 := 0
def tw18103438787375443930 := 0
def tw7435795341012007118 := 0
def tw15705882000624277260 := 0
def tw15329583195212757699 := 0
def tw5766499554173634855 := 0
def tw6878299195899375454 := 0
def tw15362568176147089757 := 0
def tw7571663559899716056 := 0
def tw4011179913451126831 := 0
def tw8097459368275078793 := 0
def tw12881975341053806801 := 0
def tw1422874857871350479 := 0
def tw5598840972971581565 := 0
def tw1892943158947943297 := 0
def tw10003133926344568237 := 0
def tw9627745006677413471 := 0
def tw16493857407550891824 := 0
def tw16034596592029474928 := 0
def tw4346178182564895892 := 0
def tw2028344090996719312 := 0
def tw1814369405380630747 := 0
def tw15713423203853857307 := 0
def tw4902141564812600593 := 0
def tw6692483524903981110 := 0
def tw3887067226624503197 := 0
def tw14075701701432575944 := 0
def tw1199746946297023869 := 0
def tw7079187060186926782 := 0
def tw2365880273094766578 := 0
def tw2154905196308419997 := 0
def tw10180214052134506913 := 0
def tw9013897008453084744 := 0
def tw9121315432560120783 := 0
def tw16083371037204025457 := 0
def tw14609193987604546017 := 0
def tw900055220892353901 := 0
def tw4432431599415153091 := 0
def tw4230568908332664602 := 0
def tw11006251935773027256 := 0
def tw8156404614717041452 := 0
def tw15404250831879965298 := 0
def tw17978832006919756834 := 0
def tw2929714131430307851 := 0
def tw12622152854026562086 := 0
def tw16596099278471183875 := 0
def tw4638119480478769848 := 0
def tw10038194487372087217 := 0
def tw9384313465061726045 := 0
def tw8162738791063098865 := 0
def tw4061693325037690269 := 0
def tw15875556274545766635 := 0
def tw11226768222466668 := 0
def tw14504862354871604726 := 0
def tw4141164076870269717 := 0
def tw2494229195312605130 := 0
def tw7910674171993230452 := 0
def tw4985115327293184918 := 0
def tw11260104593157814348 := 0
def tw10175401858805116867 := 0
def tw8619402637323807387 := 0
def tw5553982740780206569 := 0
def tw5568240835509779494 := 0
def tw16092041555879687453 := 0
def tw13947033307738127819 := 0
def tw17680250064387163035 := 0
def tw5752527528926221015 := 0
def tw3465121042958839877 := 0
def tw5425942087075639277 := 0
def tw3916558510542082770 := 0
def tw2010260498529170522 := 0
def tw14284783375775278940 := 0
def tw12125973640416398960 := 0
def tw7182425716446331271 := 0
def tw12829230664656000411 := 0
def tw3890890656948884084 := 0
def tw3849716427750158042 := 0
def tw12664724388826267050 := 0
def tw10352449479052218883 := 0
def tw8802520108730818961 := 0
def tw17576998196343614574 := 0
def tw4059319716094176891 := 0
def tw8731223718311704833 := 0
def tw9017738074417307611 := 0
def tw16185386960954073470 := 0
def tw16622944633652637942 := 0
def tw11063683558591684874 := 0
def tw10174655712463379379 := 0
def tw17420653706872205120 := 0
def tw8245357806533416556 := 0
def tw3229497646278642017 := 0
def tw9496490780553427007 := 0
def tw3608318947020605731 := 0
def tw7172099445201255474 := 0
def tw14081000584929199474 := 0
def tw5057092574811414384 := 0
def tw15376884248576319454 := 0
def tw8928919824810103552 := 0
def tw10083515392254415213 := 0
def tw11555265340378373643 := 0
def tw2794313079126398880 := 0
def tw7219673573973366529 := 0
def tw1772014756409136942 := 0
def tw2755733033921401111 := 0
def tw1323776461227022552 := 0
def tw8752536287580591841 := 0
def tw11213051381593472423 := 0
def tw5275610345910824373 := 0
def tw1434022050252392741 := 0
def tw6095926378104503091 := 0
def tw11255526525672992358 := 0
def tw17369947033699231017 := 0
def tw3971967262934518512 := 0
def tw8972178074554038765 := 0
def tw3287632656071199702 := 0
def tw14637487096957561313 := 0
def tw8844916333767936976 := 0
def tw17779928968282080224 := 0
def tw1533779871921703781 := 0
def tw17147404108966202228 := 0
def tw6822560520453922970 := 0
def tw4671817486753891976 := 0
def tw14038343632916185547 := 0
def tw3004105482379722488 := 0
def tw111681241961888244 := 0
def tw8336644378575653329 := 0
def tw6506239954833162468 := 0
def tw13857309327911210556 := 0
def tw13696767921551313420 := 0
def tw5521358089417316072 := 0
def tw7316180616067467549 := 0
def tw12898361284583907560 := 0
def tw5030596510967340315 := 0
def tw16118504562176387407 := 0
def tw6880591178998224323 := 0
def tw9024749034295307161 := 0
def tw17927714255564160664 := 0
def tw16465970236433248880 := 0
def tw10444640001145003092 := 0
def tw1529450559786731136 := 0
def tw2474659193152089950 := 0
def tw920510126354771778 := 0
def tw8971765309998909820 := 0
def tw5621521500939354484 := 0
def tw14130225898115285314 := 0
def tw13661080698561514467 := 0
def tw5317423204947508931 := 0
def tw12643606961027896619 := 0
def tw395236050286515839 := 0
def tw2741338866142543576 := 0
def tw17151569072917346126 := 0
def tw7932936075062803623 := 0
def tw12966448239413249629 := 0
def tw18031451199102110449 := 0
def tw665078498602000420 := 0
def tw11482785191510295485 := 0
def tw8938790591670507488 := 0
def tw15775803934161670181 := 0
def tw18228916486347751901 := 0
def tw10308010382545284531 := 0
def tw4972334469940677496 := 0
def tw17851003411846114739 := 0
def tw5265079454438535633 := 0
def tw7387038321401801940 := 0
def tw17251205011359335170 := 0
def tw8214762495308859198 := 0
def tw11464578819550022427 := 0
def tw10897026320593419290 := 0
def tw4748798182841512378 := 0
def tw9063227232247053271 := 0
def tw12362409925234686067 := 0
def tw1757353857004611150 := 0
def tw7120626115651498775 := 0
def tw17440104514452938059 := 0
def tw17480721406922546211 := 0
def tw1260182115402079348 := 0
def tw14939685287277754963 := 0
def tw1053145825833318715 := 0
def tw18122827839203462226 := 0
def tw14894437312185275535 := 0
def tw1337135790956042124 := 0
def tw7020491449506666936 := 0
def tw1305843595439606465 := 0
def tw12779069333221905150 := 0
def tw4230259690433158398 := 0
def tw10781998367955585513 := 0
def tw4477706186867140638 := 0
def tw9873205977597843589 := 0
def tw6830241481155866432 := 0
def tw10665896390642510585 := 0
def tw17243088990537128760 := 0
def tw12800688822188832827 := 0
def tw3411691553858340217 := 0
def tw12065387166640054795 := 0
def tw13378105111675818055 := 0
def tw2265656538547929395 := 0
def tw4845702094800688518 := 0
def tw15536248721204912963 := 0
def tw8420932030975420513 := 0
def tw13602037203345318062 := 0
def tw13839731509479665629 := 0
def tw14915161304111154811 := 0
def tw15938688587860965148 := 0
def tw4059441330429287268 := 0
def tw17255617574900353906 := 0
def tw8599874028614040601 := 0
def tw7424611400060087269 := 0
def tw4438755878001245904 := 0
def tw13047456398706060351 := 0
def tw4507861609946012974 := 0
def tw10874917478203706172 := 0
def tw4123576642040749493 := 0
def tw2396854701525002985 := 0
def tw11073346293772663670 := 0
def tw8863403266028561570 := 0
def tw1282997043485693935 := 0
def tw15928141796599208047 := 0
def tw8696137900658095401 := 0
def tw8803395157111238228 := 0
def tw2953248369014528938 := 0
def tw15753958866800392638 := 0
def tw9535748601594646584 := 0
def tw6917919603094948810 := 0
def tw17337587768110235796 := 0
def tw12470115508297986219 := 0
def tw16403495702342892679 := 0
def tw2363606520184662339 := 0
def tw11949006574274816440 := 0
def tw12521647412564724955 := 0
def tw4906159473225547589 := 0
def tw8800745743152374133 := 0
def tw3211485817468763376 := 0
def tw15181647543034003193 := 0
def tw1289497675709866007 := 0
def tw6158739747616782660 := 0
def tw5937810737644885182 := 0
def tw16624751812203924394 := 0
def tw2141568263556983178 := 0
def tw1396040382876764672 := 0
def tw6248185395428271506 := 0
def tw16151308461697582024 := 0
def tw5332304091826513229 := 0
def tw2349838572091200917 := 0
def tw3788790617939841092 := 0
def tw7988263802652126090 := 0
def tw15181056182302302670 := 0
def tw16282115545212209901 := 0
def tw6158128678575039629 := 0
def tw16677826372909858429 := 0
def tw16576592003505533309 := 0
def tw13251921848753917595 := 0
def tw8409198399143817985 := 0
def tw547706801189391980 := 0
def tw12076179838870708901 := 0
def tw6509777260859304212 := 0
def tw14500393148996007711 := 0
def tw15483790445857228133 := 0
def tw1178093110089051104 := 0
def tw9256670671423728046 := 0
def tw10280091692398780364 := 0
def tw9424543556694702721 := 0
def tw18156360535985236429 := 0
def tw10408087668516921791 := 0
def tw16644372900380732688 := 0
def tw13429154753573890100 := 0
def tw11447586110069207153 := 0
def tw15017377863891219336 := 0
def tw638412562289239422 := 0
def tw250545084293915399 := 0
def tw16369652549085743313 := 0
def tw8328756179675296361 := 0
def tw11806839973428338929 := 0
def tw16875487101518792781 := 0
def tw17707498412508984767 := 0
def tw293161041734130926 := 0
def tw742705156912157212 := 0
def tw15099841464947215397 := 0
def tw15700203886416023140 := 0
def tw9030757495763711454 := 0
def tw6089087806795719265 := 0
def tw17853203822215187608 := 0
def tw18435487640656045319 := 0
def tw2930026163896082057 := 0
def tw13953509733691218146 := 0
def tw13725905812930415470 := 0
def tw17842255482946919740 := 0
def tw10836799421124099447 := 0
def tw15076557371486040814 := 0
def tw6059868404398657748 := 0
def tw16347355984812872985 := 0
def tw5435171290243255052 := 0
def tw7823357399879951456 := 0
def tw9650583265022563488 := 0
def tw9638244140724803060 := 0
def tw11431789630120449573 := 0
def tw1785775655844108471 := 0
def tw4121414511009863490 := 0
def tw14697914149977870270 := 0
def tw5137170786385573958 := 0
def tw1253799662103555295 := 0
def tw7055471342640709272 := 0
def tw2686086677144547335 := 0
def tw9930082261361264700 := 0
def tw17405657666755310599 := 0
def tw11152294534542678576 := 0
def tw16322089158625717346 := 0
def tw15641623255041002400 := 0
def tw2181043694441256474 := 0
def tw326173874051558564 := 0
def tw16071024445311333158 := 0
def tw8977601989057796491 := 0
def tw8023156921170920977 := 0
def tw10017389859104818831 := 0
def tw16431573915328706742 := 0
def tw16539183610811694678 := 0
def tw3270308816815280530 := 0
def tw17829354230411437037 := 0
def tw2881608132252666428 := 0
def tw11866668962379595844 := 0
def tw7651813543839483645 := 0
def tw8169184715416337928 := 0
def tw10109510320646115539 := 0
def tw14947297480074857673 := 0
def tw1503745953241371738 := 0
def tw16779632727989620310 := 0
def tw14324359522123473941 := 0
def tw11016488205167523205 := 0
def tw10933871502789695687 := 0
def tw14119499277392649532 := 0
def tw12499177539933150523 := 0
def tw16993547001266093442 := 0
def tw7362780112631126737 := 0
def tw4110041713145518465 := 0
def tw10556854809872949600 := 0
def tw14455637103934050264 := 0
def tw15723441257821864360 := 0
def tw477759374481593348 := 0
def tw13917419975940652144 := 0
def tw7156601329869544461 := 0
def tw11746567115658199102 := 0
def tw5077469436123141703 := 0
def tw13964604415274148714 := 0
def tw7861895452683576128 := 0
def tw4179843106146890970 := 0
def tw5515865322690240818 := 0
def tw4286191740143585403 := 0
def tw8374239316009096826 := 0
def tw15907998402552399967 := 0
def tw3653763434240243858 := 0
def tw14678101367387346809 := 0
def tw18332485313559764274 := 0
def tw2930216646666990021 := 0
def tw7643576136155148441 := 0
def tw2362045418084437524 := 0
def tw3890408980291147675 := 0
def tw1587511187221075953 := 0
def tw1054841358202489205 := 0
def tw682716910678008863 := 0
def tw5364763033249777866 := 0
def tw10472882060058454615 := 0
def tw8140100616577312352 := 0
def tw5709694057599206805 := 0
def tw7275557724969885475 := 0
def tw9751644162550552441 := 0
def tw10168755372625811777 := 0
def tw9758114391617980745 := 0
def tw16340657170242110761 := 0
def tw15662046690186624620 := 0
def tw5510832032309033888 := 0
def tw13493721814578934981 := 0
def tw13021617998158939379 := 0
def tw3415913215933239058 := 0
def tw5000737108320395131 := 0
def tw8696095665402094912 := 0
def tw6364863327605976267 := 0
def tw11357191280945979333 := 0
def tw11217472196481709012 := 0
def tw16484135615243384055 := 0
def tw13932872811702725697 := 0
def tw15676924359626702302 := 0
def tw9037647691255666985 := 0
def tw6162474291822810044 := 0
def tw17016635740461127707 := 0
def tw1436805725012975703 := 0
def tw12118724780567204487 := 0
def tw646873225631170477 := 0
def tw11375741202824316845 := 0
def tw2915517038241258462 := 0
def tw13978388275864899570 := 0
def tw16140045613528593198 := 0
def tw763898846625995517 := 0
def tw11775997751791818336 := 0
def tw12149269037177535294 := 0
def tw3491509828822873348 := 0
def tw10501482890942937534 := 0
def tw6462555717436136322 := 0
def tw9772272781287385106 := 0
def tw10647189779341784012 := 0
def tw15003009614913857021 := 0
def tw9886639269108832796 := 0
def tw1520713515309359763 := 0
def tw17159028181296370732 := 0
def tw3751491152986962679 := 0
def tw15560834935549128056 := 0
def tw7386867265522215737 := 0
def tw4761574483773617412 := 0
def tw128499874179832421 := 0
def tw14714258252256604378 := 0
def tw2584693414742434298 := 0
def tw4676348235544937851 := 0
def tw10412494983508502896 := 0
def tw14042582890471954884 := 0
def tw16344668917372502608 := 0
def tw4263177549940627402 := 0
def tw6258857835550404902 := 0
def tw279603406311938901 := 0
def tw9892460251007863752 := 0
def tw9624597804797031262 := 0
def tw16137110370841350924 := 0
def tw8477187820511046086 := 0
def tw12630807866573437439 := 0
def tw14888076880716650550 := 0
def tw13483355144749113448 := 0
def tw2719924238743148474 := 0
def tw6768796226904596889 := 0
def tw320470197996388933 := 0
def tw11512651748739424353 := 0
def tw9814999350129085623 := 0
def tw13505094079474623653 := 0
def tw9215754807501442117 := 0
def tw2198329424231656 := 0
def tw7958544761607300409 := 0
def tw11974029701027804793 := 0
def tw14667563504216994639 := 0
def tw7944338202092851257 := 0
def tw277026496567743078 := 0
def tw11834637776732423157 := 0
def tw2893000622847311008 := 0
def tw7119979895948866161 := 0
def tw9980117145545192220 := 0
def tw8315800657454807719 := 0
def tw17065157181099487295 := 0
def tw17092654521138535177 := 0
def tw14076395242653159112 := 0
def tw2026279225350535883 := 0
def tw10268318513274415838 := 0
def tw4268270258251565692 := 0
def tw18088448150055797481 := 0
def tw4669659605141365790 := 0
def tw1010261488751947425 := 0
def tw17476606921872060426 := 0
def tw13276319359322182569 := 0
def tw6782254636500794073 := 0
def tw3432601285454715566 := 0
def tw9740849238274234365 := 0
def tw11526085063162896832 := 0
def tw8423221276774589957 := 0
def tw2257714050884142263 := 0
def tw6768726943163312684 := 0
def tw17199138609629378424 := 0
def tw14850541759695674535 := 0
def tw17176365096526987830 := 0
def tw194398775320599065 := 0
def tw2411688711665054087 := 0
def tw5537065772321467649 := 0
def tw6519390656429628720 := 0
def tw7410961480669954192 := 0
def tw8801108201171522190 := 0
def tw3756341942222150979 := 0
def tw3080598292218637917 := 0
def tw5530262874522609555 := 0
def tw3537721275351365197 := 0
def tw1346381033826491264 := 0
def tw708300705109163595 := 0
def tw10700477202869943953 := 0
def tw752436800749128340 := 0
def tw11594573650380130003 := 0
def tw9008101600018184054 := 0
def tw16501385419496604992 := 0
def tw16234376080894887005 := 0
def tw12271425267057777311 := 0
def tw1527335096555252022 := 0
def tw1116776772517104843 := 0
def tw11688353500874178419 := 0
def tw4449339082258770596 := 0
def tw11926001832032625057 := 0
def tw13262335209636199466 := 0
def tw9084339053032682933 := 0
def tw13498884894341272440 := 0
def tw1259353350856228781 := 0
def tw140222744149601232 := 0
def tw2784753938626329111 := 0
def tw3878484189281500429 := 0
def tw2795151963706532258 := 0
def tw16920444851998392143 := 0
def tw10541674631333066524 := 0
def tw12438765372348071037 := 0
def tw14466495781139894804 := 0
def tw2130942383266999710 := 0
def tw13591036259677965164 := 0
def tw16920392934206019822 := 0
def tw12342618677218180467 := 0
def tw8685765574607847704 := 0
def tw17452079712443790254 := 0
def tw12934968419789258926 := 0
def tw3700483780589547399 := 0
def tw5821487940599140207 := 0
def tw7348794387920601950 := 0
def tw18210178443378815923 := 0
def tw6857363408143102909 := 0
def tw2816007053509068613 := 0
def tw7937472777305603684 := 0
def tw11436206090785158566 := 0
def tw6595158230489277085 := 0
def tw1951888318674759182 := 0
def tw1250748037551525479 := 0
def tw1320447399283929335 := 0
def tw11636623472695634311 := 0
def tw16142895792292307648 := 0
def tw3560874742934062162 := 0
def tw5948465777206914876 := 0
def tw1053666983227943244 := 0
def tw17501018852187766602 := 0
def tw9889945578328702848 := 0
def tw6072676978138513758 := 0
def tw13677201822210307918 := 0
def tw13824944018379326441 := 0
def tw815702489701066099 := 0
def tw11252117906056139185 := 0
def tw6546159730934121382 := 0
def tw17167301426895408092 := 0
def tw1146094658767651508 := 0
def tw15771507341910111585 := 0
def tw669544090857728335 := 0
def tw3394703458276879395 := 0
def tw4169582825957934753 := 0
def tw14003277196229917646 := 0
def tw8929440106903364752 := 0
def tw12363507889112933234 := 0
def tw6585491173845315490 := 0
def tw10556262318770697659 := 0
def tw1718457925760392226 := 0
def tw577150814477749795 := 0
def tw11883345784973444591 := 0
def tw15899328023254013990 := 0
def tw4385748523558970948 := 0
def tw6670783360194846335 := 0
def tw4304702121576396922 := 0
def tw11605985350734669584 := 0
def tw5481234140589598322 := 0
def tw3837583047058690842 := 0
def tw4633862479750977556 := 0
def tw12844856280531977403 := 0
def tw10395764078038417551 := 0
def tw4472746879904637709 := 0
def tw8641536734563738332 := 0
def tw18308111117413779198 := 0
def tw9899754607572403102 := 0
def tw616584043308246026 := 0
def tw17194734845656964268 := 0
def tw13517870473537979733 := 0
def tw9637076436752298761 := 0
def tw18031721005826539587 := 0
def tw7033431204193308054 := 0
def tw11131476386938669752 := 0
def tw15782325684224605960 := 0
def tw1873908022032540632 := 0
def tw14994737920824913332 := 0
def tw15690889661052062990 := 0
def tw4587835705411301452 := 0
def tw2931897558697857533 := 0
def tw16782630475685669224 := 0
def tw17247708140927219520 := 0
def tw5638036833093299853 := 0
def tw13752909677545433188 := 0
def tw3725655476660712345 := 0
def tw9573432417690541278 := 0
def tw895165649781964235 := 0
def tw10422628246421132416 := 0
def tw14458753465296399533 := 0
def tw6577569734784687059 := 0
def tw3253793655869372139 := 0
def tw17042172296026005713 := 0
def tw11947481151865513715 := 0
def tw5405780555854418929 := 0
def tw13182224768919340137 := 0
def tw14301223822749784790 := 0
def tw12424266447357609765 := 0
def tw14088854057922867315 := 0
def tw11810793278562233706 := 0
def tw5466633805816031495 := 0
def tw9177197189640499443 := 0
def tw9971177177155626142 := 0
def tw1166238616768548425 := 0
def tw8214901142952998920 := 0
def tw10283465419815110788 := 0
def tw15074178678020072 := 0
def tw13958979636796066568 := 0
def tw9493422584080826874 := 0
def tw5250543783583126318 := 0
def tw17430009971668077432 := 0
def tw11633546041331357004 := 0
def tw18085132047889782597 := 0
def tw7396590836873206069 := 0
def tw13024317659044768266 := 0
def tw12910668703173120864 := 0
def tw5405521729226917823 := 0
def tw862792889558840397 := 0
def tw3641225065172488787 := 0
def tw2004814634839863509 := 0
def tw6300832339714881399 := 0
def tw1229184519829885296 := 0
def tw8988572225084936253 := 0
def tw17132726236840232810 := 0
def tw2101040611863614078 := 0
def tw10686704394160840267 := 0
def tw8387914466002173849 := 0
def tw6105157268923814292 := 0
def tw4456263408127858961 := 0
def tw13336428837293527201 := 0
def tw8194488418790661188 := 0
def tw8931083521870041629 := 0
def tw4108046507286747690 := 0
def tw14128069459311104123 := 0
def tw1730679637497852738 := 0
def tw12963858009253712178 := 0
def tw3393922192431900205 := 0
def tw1547245153550702115 := 0
def tw17337009397191907439 := 0
def tw2221221761063584841 := 0
def tw7453541539752752118 := 0
def tw16098372008700846651 := 0
def tw12019662822678486197 := 0
def tw11551043961171496470 := 0
def tw3963266698747630645 := 0
def tw9028536508236657863 := 0
def tw2688305213564892506 := 0
def tw13169757181200020848 := 0
def tw3978877533652907813 := 0
def tw9115844480553489812 := 0
def tw12981488730279413919 := 0
def tw5897908492305870424 := 0
def tw2324865249999138478 := 0
def tw13076174694967648220 := 0
def tw873520895700425097 := 0
def tw9940687876133602763 := 0
def tw4378685311419135818 := 0
def tw11066662793293111634 := 0
def tw539571452477075426 := 0
def tw561308874479497974 := 0
def tw8302756039785694274 := 0
def tw1462980273479485492 := 0
def tw933520820079038838 := 0
def tw3901654302549726734 := 0
def tw2606257477982187441 := 0
def tw13593094113196243117 := 0
def tw10104615708563167847 := 0
def tw8126245164287379822 := 0
def tw421989667671259099 := 0
def tw4619538148305642160 := 0
def tw5446997356906956974 := 0
def tw11971189127951025401 := 0
def tw9828862877161660258 := 0
def tw18306726676706181331 := 0
def tw18363133544635409686 := 0
def tw404788016561817571 := 0
def tw15998078408453609142 := 0
def tw10863194743779293355 := 0
def tw7053547252236917207 := 0
def tw10421674387430140772 := 0
def tw17799754163497653435 := 0
def tw11839181818178340291 := 0
def tw4529051262052256967 := 0
def tw6255731881097235402 := 0
def tw954695767478645365 := 0
def tw10022128598836957068 := 0
def tw15155541062362167827 := 0
def tw9983610061659142342 := 0
def tw10858623057043875686 := 0
def tw15079843484839665642 := 0
def tw16512788157908319721 := 0
def tw9947791960300064578 := 0
def tw1650646177732026548 := 0
def tw6789410397060592474 := 0
def tw12298219098947778409 := 0
def tw3422458216631293635 := 0
def tw3117990039986449912 := 0
def tw11364462527104491780 := 0
def tw8482859954306284967 := 0
def tw298640963735193909 := 0
def tw15922659695402193411 := 0
def tw8692129442662367342 := 0
def tw16670749083422327405 := 0
def tw3685950079888280765 := 0
def tw1857698902313460478 := 0
def tw16388330740601983674 := 0
def tw8851867462791661747 := 0
def tw14343337156792986185 := 0
def tw6068646262583073286 := 0
def tw14525844229582758857 := 0
def tw17796765652784563253 := 0
def tw3452440822846317079 := 0
def tw4420311017847480598 := 0
def tw44872341347615021 := 0
def tw15669283837210935967 := 0
def tw15656210059945770540 := 0
def tw2187009573392256822 := 0
def tw10042443444291803596 := 0
def tw11146958165045612357 := 0
def tw8480044681399005686 := 0
def tw10252055279213264940 := 0
def tw11800619286868684756 := 0
def tw9781831223550899195 := 0
def tw3842128158724703738 := 0
def tw7914108650531336078 := 0
def tw18321659545894252646 := 0
def tw3822693224762831105 := 0
def tw18192524405315840070 := 0
def tw5420709895060624727 := 0
def tw10318821036941488598 := 0
def tw415998366005913979 := 0
def tw3418041618368625732 := 0
def tw10735170821877242951 := 0
def tw13321202853434832909 := 0
def tw434520977599360551 := 0
def tw6648041229017562356 := 0
def tw8471635540366589446 := 0
def tw10358894257734090282 := 0
def tw389326414566127204 := 0
def tw965298037668237083 := 0
def tw12349920194141197185 := 0
def tw11866274201906961251 := 0
def tw5672503567819644006 := 0
def tw1179797761217242586 := 0
def tw6867886152521492677 := 0
def tw1156087738725292946 := 0
def tw8862331321117658556 := 0
def tw4810500617293602441 := 0
def tw2086340509704210761 := 0
def tw4745065791974365686 := 0
def tw174941139357718295 := 0
def tw3930128062094466281 := 0
def tw634268789666592255 := 0
def tw18115117461439676404 := 0
def tw1767022779531879113 := 0
def tw13895491349714432430 := 0
def tw1723241062363218855 := 0
def tw14737133989962805146 := 0
def tw16190725400272933502 := 0
def tw17457627985328758874 := 0
def tw8089110152561318798 := 0
def tw14418121651931292685 := 0
def tw390284509636701611 := 0
def tw5665926988718187260 := 0
def tw9996950330776359740 := 0
def tw5662520756586950697 := 0
def tw12560698087507780637 := 0
def tw7603269377333780658 := 0
def tw17659306082062984374 := 0
def tw13742895264701375019 := 0
def tw3415921117516777267 := 0
def tw411693808676041644 := 0
def tw4275508602956455585 := 0
def tw17135492912151919545 := 0
def tw3057852203214597086 := 0
def tw18026850274960277301 := 0
def tw2866691445537160764 := 0
def tw10594168691079826396 := 0
def tw15842638680977534424 := 0
def tw11632527799645311089 := 0
def tw16666389803770544752 := 0
def tw10813748417251958832 := 0
def tw843271858714210685 := 0
def tw15484389134435707773 := 0
def tw15704843028945899373 := 0
def tw2181487395926630274 := 0
def tw2776395868741680186 := 0
def tw18360711262081270769 := 0
def tw4560523924474065884 := 0
def tw17929201802231035846 := 0
def tw3044190405930656238 := 0
def tw14490189748635985059 := 0
def tw9279291174673773108 := 0
def tw2416429911103179661 := 0
def tw15135757329444717476 := 0
def tw12756609216440671644 := 0
def tw9821519938099989 := 0
def tw14083174281428733524 := 0
def tw3018637209795761064 := 0
def tw5486136308055358794 := 0
def tw14837766679470637887 := 0
def tw12114084177387530183 := 0
def tw8624310813532290337 := 0
def tw9934049438602817542 := 0
def tw520203553703360624 := 0
def tw7989383574578468840 := 0
def tw18257295499537180978 := 0
def tw5397889494644962881 := 0
def tw8320016018920511067 := 0
def tw1728197362729656237 := 0
def tw4370332720970173361 := 0
def tw17096626428963774215 := 0
def tw1548117488624688398 := 0
def tw11925390093119418618 := 0
def tw8329666519769735672 := 0
def tw14798082474112039474 := 0
def tw10413945449047959131 := 0
def tw13514766701640585889 := 0
def tw12588247836432420132 := 0
def tw11504105166550376654 := 0
def tw13849445301192062727 := 0
def tw8622439223900337253 := 0
def tw10691835181009915587 := 0
def tw17563947221252319474 := 0
def tw2906271568739993501 := 0
def tw17081205137723791221 := 0
def tw10137140160739757176 := 0
def tw14810856092525107923 := 0
def tw3147544560828888215 := 0
def tw5495853070517858532 := 0
def tw7004076290995077094 := 0
def tw11565641433485450096 := 0
def tw10850395594804387414 := 0
def tw3365190639206354205 := 0
def tw5389201032642333660 := 0
def tw2767772599642347972 := 0
def tw7847685711042067462 := 0
def tw5407318439724898055 := 0
def tw12988429074784067852 := 0
def tw8602178251485967717 := 0
def tw17383633064765852124 := 0
def tw8588050064965508839 := 0
def tw3347301885218706587 := 0
def tw8645931892059816747 := 0
def tw15301538576817070062 := 0
def tw768729467679315389 := 0
def tw2644937756595626742 := 0
def tw11457643916348871911 := 0
def tw3349870470222305152 := 0
def tw7438263480152012893 := 0
def tw3276386946549695745 := 0
def tw8949704144332003695 := 0
def tw16899421216181711277 := 0
def tw13795049206624904630 := 0
def tw6170368953875901268 := 0
def tw15095403562093879469 := 0
def tw12924206719818704717 := 0
def tw14844585509934774422 := 0
def tw11286182536246478381 := 0
def tw1452961876154468250 := 0
def tw11398699790110037127 := 0
def tw9188922008232797867 := 0
def tw7549950620035260013 := 0
def tw10358863888424308213 := 0
def tw1684790286535699683 := 0
def tw15014666567614889731 := 0
def tw3936025498412474419 := 0
def tw4822875917620230912 := 0
def tw5599282105749971930 := 0
def tw301016921243329256 := 0
def tw7843629853788083544 := 0
def tw823998934715183614 := 0
def tw14460187081388689119 := 0
def tw16791170732129769033 := 0
def tw4942004577331754993 := 0
def tw5359682523592802671 := 0
def tw6255471027815576748 := 0
def tw8165455271228289038 := 0
def tw2476557735949859654 := 0
def tw2387815360165595535 := 0
def tw15267385767047220288 := 0
def tw3932974765918464385 := 0
def tw1960793148603948495 := 0
def tw10795482302069855931 := 0
def tw4694341412164255636 := 0
def tw17297386591826263653 := 0
def tw5867183253173852690 := 0
def tw9855560834875851213 := 0
def tw16600550572710572187 := 0
def tw17657387464658043280 := 0
def tw7824155348601088043 := 0
def tw7409515254334471516 := 0
def tw6148487853907493863 := 0
def tw272962428709969275 := 0
def tw1326958438129397518 := 0
def tw7518700149943005540 := 0
def tw7687425341918032591 := 0
def tw17734656139480288282 := 0
def tw12142491357124754522 := 0
def tw7167727574533978240 := 0
def tw17953859030148232346 := 0
def tw12777555190032473502 := 0
def tw2394391119358802376 := 0
def tw12697855012759193348 := 0
def tw9269024901806548355 := 0
def tw4165889515789332638 := 0
def tw7905725857880405245 := 0
def tw8477127912428097193 := 0
def tw580406926665452045 := 0
def tw2390796965482714533 := 0
def tw12437363310224399026 := 0
def tw18407622976421124867 := 0
def tw4952610972375853036 := 0
def tw9632923084649882558 := 0
def tw1317430251179192394 := 0
def tw17953841679526573897 := 0
def tw785086717224621213 := 0
def tw14021386687354382139 := 0
def tw11378527999021398568 := 0
def tw7589513720485257725 := 0
def tw2866746894969279889 := 0
def tw5637164466490084321 := 0
def tw2779434405873134506 := 0
def tw4359303768161555122 := 0
def tw7365540465994024926 := 0
def tw10884820360289388588 := 0
def tw10608902977086666508 := 0
def tw10821896417255975852 := 0
def tw2408113964319224747 := 0
def tw13880381117135559088 := 0
def tw8752500627987048930 := 0
def tw9278682639802022850 := 0
def tw2272851906738914428 := 0
def tw2204748120336007084 := 0
def tw6484159587333163239 := 0
def tw15869881846653076867 := 0
def tw12634207990320504342 := 0
def tw11386222421400585837 := 0
def tw269125169527300362 := 0
def tw8729570209322497574 := 0
def tw12541561111140408638 := 0
def tw9508733542650214317 := 0
def tw2843691831546086639 := 0
def tw17343563662161295139 := 0
def tw10482043247923391271 := 0
def tw10433039612282533402 := 0
def tw14382493196525387052 := 0
def tw15381014422657107862 := 0
def tw6398293538675810161 := 0
def tw16674205413030600952 := 0
def tw3930838221249583199 := 0
def tw4218739338270048305 := 0
def tw4117411554014652182 := 0
def tw8118895013315224912 := 0
def tw8766259577411443976 := 0
def tw12644848467641176889 := 0
def tw18201764870178308846 := 0
def tw17764094728883195502 := 0
def tw10183581386311400306 := 0
def tw4437747746197617738 := 0
def tw2190588133236787611 := 0
def tw11338175214136521152 := 0
def tw5601830741713278874 := 0
def tw12115346074414166861 := 0
def tw3163696865095083523 := 0
def tw16666029860442157975 := 0
def tw9968218866793107389 := 0
def tw6105213222877959458 := 0
def tw6607666953052452868 := 0
def tw6917322095454367424 := 0
def tw12051767229890220919 := 0
def tw9528067395319533619 := 0
def tw2645552236245076774 := 0
def tw4326905452657227611 := 0
def tw8251785446207865965 := 0
def tw6344434322415967027 := 0
def tw6945637085286329388 := 0
def tw10950468219757360070 := 0
def tw2410289955812499347 := 0
def tw11113167558792679087 := 0
def tw15892490952014472668 := 0
def tw6669663267366999743 := 0
def tw12874942524907530043 := 0
def tw14733709442634007735 := 0
def tw8695622738253365027 := 0
def tw8997241231534817121 := 0
def tw13488001725577893219 := 0
def tw831665124448212457 := 0
def tw11535663027445008721 := 0
def tw186065807181902640 := 0
def tw645655239604533279 := 0
def tw14817217639552699109 := 0
def tw15400965555948181628 := 0
def tw7061856317356192032 := 0
def tw10908086657665779175 := 0
def tw9739254460179801655 := 0
def tw15492500468781613372 := 0
def tw17584020445716547654 := 0
def tw9055754299388811791 := 0
def tw11647867553927254216 := 0
def tw2463290343906783961 := 0
def tw12961891351343481158 := 0
def tw7479851275114351148 := 0
def tw9248464413614550497 := 0
def tw5113430650580247886 := 0
def tw2763802148886452849 := 0
def tw12718139385000975972 := 0
def tw8807664155198206386 := 0
def tw7929655986202023654 := 0
def tw1251996675130310623 := 0
def tw390341413073152333 := 0
def tw2525644702801362138 := 0
def tw6543036650754766878 := 0
def tw13249338478814775080 := 0
def tw8070696297748072024 := 0
def tw2081929973857289437 := 0
def tw14098407741283216983 := 0
def tw3358551202335068621 := 0
def tw2846464438414080089 := 0
def tw15399160032930887949 := 0
def tw7012725793117219918 := 0
def tw17550188197325526609 := 0
def tw4905191816205671833 := 0
def tw4300592553870525603 := 0
def tw7710981746848656836 := 0
def tw13643924861146147841 := 0
def tw14435275503341340159 := 0
def tw12655693937914799286 := 0
def tw962333789906791765 := 0
def tw9203581946118939664 := 0
def tw9424878744588636956 := 0
def tw14289905869264398680 := 0
def tw3557288744999607475 := 0
def tw1463564477771180272 := 0
def tw16592445862391876053 := 0
def tw18354890543500155393 := 0
def tw7486057194880042510 := 0
def tw5957362754434468098 := 0
def tw15347132368710614414 := 0
def tw11151373206836349963 := 0
def tw7556211662055974640 := 0
def tw4349647328885985093 := 0
def tw7596453327210956627 := 0
def tw2201673602226621694 := 0
def tw17417497702826094735 := 0
def tw9315615688655935695 := 0
def tw1036073312473826351 := 0
def tw12727216678355172893 := 0
def tw15551609054212045446 := 0
def tw11437138970098850800 := 0
def tw9585713324488791751 := 0
def tw569044914601882599 := 0
def tw219289696456248831 := 0
def tw2468941388577026728 := 0
def tw12609628941241406518 := 0
def tw3345617474667865403 := 0
def tw11358276874830299938 := 0
def tw16707900266949705369 := 0
def tw6899137165384676105 := 0
def tw18035169116341512990 := 0
def tw4355563017471420989 := 0
def tw8103202972577408844 := 0
def tw16094104841451249844 := 0
def tw3553811654351340592 := 0
def tw471212494488418494 := 0
def tw5610000805466535625 := 0
def tw1764883391995142973 := 0
def tw16228792717559733975 := 0
def tw8262977928049389458 := 0
def tw7528696124583055270 := 0
def tw11645263422494385833 := 0
def tw17633988269866271090 := 0
def tw11795083071324574481 := 0
def tw15097188076784115238 := 0
def tw11675465198571939895 := 0
def tw15001455209649042813 := 0
def tw7020394914582363776 := 0
def tw5623295115656364559 := 0
def tw17047555105506771494 := 0
def tw4701566808664516496 := 0
def tw838558651746397697 := 0
def tw627569440923285254 := 0
def tw5430438451333140893 := 0
def tw12000281139413689030 := 0
def tw2076781368619886860 := 0
def tw17826293837977420728 := 0
def tw5530340320369594506 := 0
def tw1950940428541727293 := 0
def tw5753826868760817815 := 0
def tw6523615849447313868 := 0
def tw9019119657094424225 := 0
def tw160358484595773507 := 0
def tw15799285239946099397 := 0
def tw17181992859247655554 := 0
def tw14158398594645935996 := 0
def tw16707930164210697523 := 0
def tw2766855988434550116 := 0
def tw18069109184001179295 := 0
def tw4297876784429481845 := 0
def tw14484823143396421164 := 0
def tw8664217139922806987 := 0
def tw1540749706883247773 := 0
def tw12379418466169462724 := 0
def tw18042819979957659901 := 0
def tw10539922807092800026 := 0
def tw17452523337229254448 := 0
def tw17731193675448611017 := 0
def tw1404992557762983409 := 0
def tw13861654946770116848 := 0
def tw878931722461708629 := 0
def tw13895372760352945833 := 0
def tw11310382679163042705 := 0
def tw12301863922085048076 := 0
def tw16827941074932913417 := 0
def tw1655542898440855637 := 0
def tw10661476174460412460 := 0
def tw10219010490160274621 := 0
def tw5056554860092193209 := 0
def tw11018676049232546560 := 0
def tw8509654270981119905 := 0
def tw5704705660145466065 := 0
def tw5477238857886323703 := 0
def tw1629850728667843966 := 0
def tw15665673995539409931 := 0
def tw6935994490787849445 := 0
def tw13981040019693265527 := 0
def tw16699541756894320417 := 0
def tw15341220887400626686 := 0
def tw13610632787754915552 := 0
def tw6178034421436630834 := 0
def tw14766320357278227590 := 0
def tw7832866784638879955 := 0
def tw10153396096658304470 := 0
def tw14194266302935236924 := 0
def tw235208337571745560 := 0
def tw17304616262690247892 := 0
def tw7642609111297179445 := 0
def tw838832641933942509 := 0
def tw10980137472133703793 := 0
def tw11985761146903832787 := 0
def tw213821613040990370 := 0
def tw2236192815973957941 := 0
def tw1252552097372857014 := 0
def tw7752147808776003555 := 0
def tw6031296512767287364 := 0
def tw761473022697220154 := 0
def tw7388328990864784023 := 0
def tw3249900344653368887 := 0
def tw3268793628435086107 := 0
def tw16243995259792258079 := 0
def tw6614896486741018355 := 0
def tw10087479561584084316 := 0
def tw10685210357695006537 := 0
def tw16206122202653986009 := 0
def tw8825783370524904000 := 0
def tw14224114756155045096 := 0
def tw1631422240703340168 := 0
def tw12767193174588164720 := 0
def tw2184793414865952870 := 0
def tw16912207274027718283 := 0
def tw2222834975109439304 := 0
def tw2523500468706670106 := 0
def tw10732224453325994668 := 0
def tw2141377469638656862 := 0
def tw11736562019850892466 := 0
def tw3234225533025077431 := 0
def tw18193930902237603307 := 0
def tw15190450488409915763 := 0
def tw5112708872742728372 := 0
def tw15965732767480483756 := 0
def tw17634465077222502270 := 0
def tw18386187513753394657 := 0
def tw8123508118304092685 := 0
def tw9219495207198733199 := 0
def tw13649020988878232790 := 0
def tw12271428322964672495 := 0
def tw5256694444308179275 := 0
def tw5607445171235563681 := 0
def tw8033794777138001737 := 0
def tw2446487952980373240 := 0
def tw142327750512806351 := 0
def tw11371973945979910964 := 0
def tw6154646071804948115 := 0
def tw14422305497325292254 := 0
def tw16633835319967177258 := 0
def tw10294445819812735910 := 0
def tw17023595859193060731 := 0
def tw18374021511024988315 := 0
def tw7327449210493793317 := 0
def tw5267099481151906262 := 0
def tw4670624329188381456 := 0
def tw7264582262391742815 := 0
def tw5900975971109233305 := 0
def tw17026292671091917253 := 0
def tw1145740363135744517 := 0
def tw2301229977654250462 := 0
def tw14591352130712927250 := 0
def tw1436958269243616382 := 0
def tw5809373479728338140 := 0
def tw1923780911399760356 := 0
def tw6954949303608793319 := 0
def tw5910791346947636796 := 0
def tw1937206107485239271 := 0
def tw9722855560819711799 := 0
def tw4352301031882325065 := 0
def tw7979774183599433443 := 0
def tw18143024460468967432 := 0
def tw17358207501943536058 := 0
def tw13944943614104628089 := 0
def tw17292827419751163242 := 0
def tw6890091264781896549 := 0
def tw14277127217600516833 := 0
def tw8489924858693369748 := 0
def tw708965557337248374 := 0
def tw9624886273862892062 := 0
def tw17764047467915254488 := 0
def tw14922482610046625425 := 0
def tw5790468113848191238 := 0
def tw12029132163001145849 := 0
def tw595569610191749740 := 0
def tw14700202644176539019 := 0
def tw830742479841918267 := 0
def tw16002642274984833931 := 0
def tw6499686092127763889 := 0
def tw108283166466541257 := 0
def tw7670369133978150137 := 0
def tw13391550426506264923 := 0
def tw2841410649592001733 := 0
def tw13701027528556203234 := 0
def tw16790099182336106248 := 0
def tw15989338588759213245 := 0
def tw5013649281170000453 := 0
def tw7402791847445789414 := 0
def tw10901010014347104070 := 0
def tw11814325646021326810 := 0
def tw6724008862326834344 := 0
def tw5699182359835096838 := 0
def tw6724532986485760494 := 0
def tw15022411185062387053 := 0
def tw16533996209998981021 := 0
def tw13927442798186358666 := 0
def tw3315718823945435791 := 0
def tw3500767497213732529 := 0
def tw5642150675163548496 := 0
def tw7199999009598033714 := 0
def tw12830275198750717847 := 0
def tw10427061692518281468 := 0
def tw2552512927829221602 := 0
def tw17485859327748975197 := 0
def tw16005875313308112067 := 0
def tw10847618104097922471 := 0
def tw4164298421462685494 := 0
def tw8926806939023474028 := 0
def tw8229521177890414227 := 0
def tw17277962430406019705 := 0
def tw9885035232089763710 := 0
def tw11017426857630827021 := 0
def tw3811195728244719910 := 0
def tw17604544652321224489 := 0
def tw12917657541993190443 := 0
def tw771361679796802458 := 0
def tw4595230372126086294 := 0
def tw17146682509591353888 := 0
def tw1359934116828901457 := 0
def tw8284297152398044237 := 0
def tw14823164661426259595 := 0
def tw2214972606802726084 := 0
def tw10684777629330015791 := 0
def tw10908284251256917838 := 0
def tw15598655898564526523 := 0
def tw10412323989336382552 := 0
def tw13746899800665343324 := 0
def tw18295917709397187561 := 0
def tw10753960398754908432 := 0
def tw16262120708258394657 := 0
def tw15392345004580716673 := 0
def tw3353761513690292495 := 0
def tw18280649253212974696 := 0
def tw2560461805826252300 := 0
def tw12663542689118002885 := 0
def tw1513980842368365949 := 0
def tw17961427436762022583 := 0
def tw12932475206099830882 := 0
def tw13854081253658385790 := 0
def tw6796693221241870281 := 0
def tw3520982850577764863 := 0
def tw10458010893058344962 := 0
def tw15214870438825081633 := 0
def tw1980726254403603253 := 0
def tw17060970649063747966 := 0
def tw16465056875317423124 := 0
def tw14166675241964441560 := 0
def tw13527894313400802322 := 0
def tw13095134273268896367 := 0
def tw2159100577539735703 := 0
def tw10424708816529547278 := 0
def tw17088264072006412186 := 0
def tw8478076615058663414 := 0
def tw7177879710467986823 := 0
def tw9394485623049773449 := 0
def tw12460712248686304931 := 0
def tw102125704985959952 := 0
def tw8005616830523699311 := 0
def tw5450724657911812398 := 0
def tw13797957688574357006 := 0
def tw5847565542696196732 := 0
def tw2680123884302707665 := 0
def tw10792593491653301611 := 0
def tw13811012002613245571 := 0
def tw13382629897360586775 := 0
def tw4137926953408406834 := 0
def tw3245541240732891576 := 0
def tw15056603912002948319 := 0
def tw794659989834511482 := 0
def tw10947899987773153569 := 0
def tw2795113011813763719 := 0
def tw9099907623699214018 := 0
def tw16019262246328241297 := 0
def tw2587835686287974952 := 0
def tw16218862202044139700 := 0
def tw6375576269521404711 := 0
def tw7117952989843147501 := 0
def tw13376160419286570762 := 0
def tw15656202044827494191 := 0
def tw11213526425351829460 := 0
def tw6057794682816497471 := 0
def tw15576038210960921013 := 0
def tw11994318371994088689 := 0
def tw10702960669993270001 := 0
def tw7597279262229705447 := 0
def tw17516099020467361808 := 0
def tw12612898793020914391 := 0
def tw6451754405516918465 := 0
def tw524109911971039039 := 0
def tw2654360250820917955 := 0
def tw14127273296793884711 := 0
def tw15123134436327537750 := 0
def tw317652671552316499 := 0
def tw16127022849495963877 := 0
def tw9958387179790754015 := 0
def tw15267675889934685664 := 0
def tw1945382334201985066 := 0
def tw9616717057079566966 := 0
def tw1771346717507124981 := 0
def tw13643543422243292965 := 0
def tw5117524967918547184 := 0
def tw13875411855533663423 := 0
def tw4141266629506439449 := 0
def tw8133521573648025903 := 0
def tw6963325829351227966 := 0
def tw13002093691370755417 := 0
def tw142322951360843508 := 0
def tw6768930851983216706 := 0
def tw8222167118511909185 := 0
def tw2486748138111211150 := 0
def tw6572772378013622341 := 0
def tw11319516613768298731 := 0
def tw3972051549574814348 := 0
def tw14337231808247393426 := 0
def tw13892351027390027570 := 0
def tw15785298234961010418 := 0
def tw12817450953492130746 := 0
def tw2112246333859141670 := 0
def tw7909158060398920997 := 0
def tw9174433277779176716 := 0
def tw8493171766476298685 := 0
def tw13287154938509234598 := 0
def tw113191547562605597 := 0
def tw18227896855017357772 := 0
def tw7214522081400785537 := 0
def tw559732912965815350 := 0
def tw7729691057846370289 := 0
def tw7570638469727876443 := 0
def tw10775541416308255262 := 0
def tw13837002769276150998 := 0
def tw2290902591058027229 := 0
def tw16573466126895743389 := 0
def tw4454443424765993775 := 0
def tw2862484278895866046 := 0
def tw17827157560176243315 := 0
def tw6053633864301771759 := 0
def tw17927800292557872091 := 0
def tw16873067494178915984 := 0
def tw11614675375276992483 := 0
def tw609735549031009553 := 0
def tw15413017422451025965 := 0
def tw11712366045812648062 := 0
def tw8336744279413567972 := 0
def tw3359898533080436278 := 0
def tw6192480719680234419 := 0
def tw15109354591302303875 := 0
def tw4905045239605314580 := 0
def tw1512474002822205128 := 0
def tw1737944223183564557 := 0
def tw4070431091408566249 := 0
def tw8871895339327631655 := 0
def tw2308458741974974017 := 0
def tw18264953799054234572 := 0
def tw3543881510137547718 := 0
def tw14670584149211047863 := 0
def tw17897018390326526759 := 0
def tw16813072708217545246 := 0
def tw14834911788742424497 := 0
def tw9797916756812277316 := 0
def tw11286759570727172320 := 0
def tw4758563836545589240 := 0
def tw17544166817207130594 := 0
def tw14566258898781075676 := 0
def tw4719812660331134038 := 0
def tw7727273072100816515 := 0
def tw6014900476731249660 := 0
def tw12309006323878571386 := 0
def tw160673593679987975 := 0
def tw10419683581689463367 := 0
def tw7369530734000649112 := 0
def tw2320780166090403477 := 0
def tw12773566866257459330 := 0
def tw16607337712260878054 := 0
def tw330351492418636965 := 0
def tw195684650410931506 := 0
def tw16380019652988524336 := 0
def tw4034612811434254480 := 0
def tw10526385708238175058 := 0
def tw9056970045357434228 := 0
def tw2712642329304917119 := 0
def tw10093431069811658756 := 0
def tw13732514195039880081 := 0
def tw649993354995896052 := 0
def tw1205986047632006007 := 0
def tw9282885312782178805 := 0
def tw13608169725760686914 := 0
def tw4933487365142270962 := 0
def tw13899182100425106041 := 0
def tw1883644359535181253 := 0
def tw10786316405228778045 := 0
def tw18354815339350258047 := 0
def tw2052044516961076933 := 0
def tw6652487728480018048 := 0
def tw12928476457722465881 := 0
def tw112991352338365243 := 0
def tw9344287243677241548 := 0
def tw822120561619237980 := 0
def tw2823152350788165352 := 0
def tw6760278717539402732 := 0
def tw1503773042929191228 := 0
def tw5554938894927718939 := 0
def tw10624169214150683164 := 0
def tw2071447349338632930 := 0
def tw3664472495085168459 := 0
def tw258100011412444678 := 0
def tw3525645863500004178 := 0
def tw10617077956131439407 := 0
def tw18028043236846973997 := 0
def tw10197872386727950329 := 0
def tw7213023497574346049 := 0
def tw3762383344105419640 := 0
def tw4773676727095553261 := 0
def tw11485376614359467171 := 0
def tw4821718517913861863 := 0
def tw10914245563874399141 := 0
def tw2523648931574432661 := 0
def tw5585421988669093107 := 0
def tw3468084487442672860 := 0
def tw1656863881307197502 := 0
def tw6188900825909980500 := 0
def tw14798622830016144009 := 0
def tw10925268248382776139 := 0
def tw4895082854417728470 := 0
def tw14176919393761735878 := 0
def tw2647790154107277783 := 0
def tw4760428028346006288 := 0
def tw12991282972541582299 := 0
def tw9354671416923905757 := 0
def tw13294571357795397380 := 0
def tw8179694348113777948 := 0
def tw1053882421337041787 := 0
def tw11179477837158889443 := 0
def tw13321352331979050986 := 0
def tw10886599124723696230 := 0
def tw5755073539545935157 := 0
def tw6358309638309618074 := 0
def tw6525558648019550763 := 0
def tw14675863081027498056 := 0
def tw12856626169298905061 := 0
def tw18074425709582882752 := 0
def tw15960634230824558898 := 0
def tw8430189960700551308 := 0
def tw314923698597059033 := 0
def tw15004636495251932306 := 0
def tw10475637412508979337 := 0
def tw16372529205529373582 := 0
def tw2842524132326630035 := 0
def tw3588860128407042092 := 0
def tw31465371943189698 := 0
def tw12946111524265622367 := 0
def tw3628210115452429006 := 0
def tw9544014645498630095 := 0
def tw18168874674950884099 := 0
def tw11872702359788652005 := 0
def tw3049578743346612276 := 0
def tw6601507591751336715 := 0
def tw9780445881187609415 := 0
def tw8306522961359201322 := 0
def tw13280523856439821816 := 0
def tw9522394378560366105 := 0
def tw17151364948899739460 := 0
def tw362490789758742928 := 0
def tw46747391728987437 := 0
def tw14128848101758575789 := 0
def tw10995448855845488433 := 0
def tw14469416638661612594 := 0
def tw17666230753410433205 := 0
def tw18273516191865073074 := 0
def tw14279280210970299748 := 0
def tw11019864187178501262 := 0
def tw13707490443311698751 := 0
def tw14671176411674613255 := 0
def tw6312402702996681973 := 0
def tw1237922763243669822 := 0
def tw17404896456394409608 := 0
def tw6803393909008088621 := 0
def tw13489088863737997360 := 0
def tw18274683322687673209 := 0
def tw16337148085645840727 := 0
def tw15940194783885703883 := 0
def tw6935799315237862913 := 0
def tw15558525458727191930 := 0
def tw6374791994262425141 := 0
def tw5984935160543843642 := 0
def tw12534525578468447696 := 0
def tw3620759101124257552 := 0
def tw10017713318715886910 := 0
def tw7106476360075282539 := 0
def tw16303994670270243374 := 0
def tw16402435443016836913 := 0
def tw14363337791032703832 := 0
def tw1111581479195157725 := 0
def tw11569643330141806545 := 0
def tw11496640522759605599 := 0
def tw2784430080902486001 := 0
def tw18428316956925279114 := 0
def tw17241073477802814850 := 0
def tw8444582356640198890 := 0
def tw628700353613692324 := 0
def tw14884991337697353008 := 0
def tw17274776802360426645 := 0
def tw10132756550836870003 := 0
def tw15366571870950446757 := 0
def tw6784000456868139082 := 0
def tw10099589918453722079 := 0
def tw12232138005228280716 := 0
def tw11552347066134292511 := 0
def tw3638141377269577214 := 0
def tw1461006366673805230 := 0
def tw12646712476381458767 := 0
def tw8936776916155111479 := 0
def tw6664704726045385784 := 0
def tw4687680645800193310 := 0
def tw8687962590898893942 := 0
def tw11530934227153995931 := 0
def tw898824449345927952 := 0
def tw18166168171815571442 := 0
def tw2572989047742370318 := 0
def tw15194645556762138947 := 0
def tw5156665667897046113 := 0
def tw16929970376685914525 := 0
def tw7443802680436959699 := 0
def tw1052260429887769426 := 0
def tw4726396386701332513 := 0
def tw6979742498448141635 := 0
def tw10957596855952748842 := 0
def tw8543833296599033483 := 0
def tw1912630724286821620 := 0
def tw2568923763692732876 := 0
def tw13667347758040734001 := 0
def tw8557733755129732184 := 0
def tw884019648070901075 := 0
def tw1763379169399356488 := 0
def tw14070088051635079550 := 0
def tw14422654258101806160 := 0
def tw1662155267237542566 := 0
def tw15055813431429145765 := 0
def tw1640667933481980311 := 0
def tw555163426660918806 := 0
def tw5179490356924245617 := 0
def tw8213524962820185992 := 0
def tw5361684821884046062 := 0
def tw8154757208299411180 := 0
def tw5191545012114358526 := 0
def tw11808709206047724484 := 0
def tw13628620143039013001 := 0
def tw5198422367732483229 := 0
def tw8345834049867638251 := 0
def tw1287163152889480534 := 0
def tw12649827997999372793 := 0
def tw2517167901277402879 := 0
def tw5507434184224639377 := 0
def tw7290105251088937298 := 0
def tw7655299349504536307 := 0
def tw13079152248789930757 := 0
def tw12668406158196864642 := 0
def tw2411675564685455257 := 0
def tw1315747984832753390 := 0
def tw2026936861425646258 := 0
def tw1999810378837549425 := 0
def tw3371455894987753376 := 0
def tw10441144104763191058 := 0
def tw1798307394694765269 := 0
def tw3348049934810186282 := 0
def tw14530918681566455155 := 0
def tw436661178463638837 := 0
def tw6950184214819728502 := 0
def tw5690333817346287259 := 0
def tw13313785174501551294 := 0
def tw584049745017166827 := 0
def tw9934831099749443312 := 0
def tw16157511395810817883 := 0
def tw15202364748872420442 := 0
def tw6094038103831556025 := 0
def tw17229677297996262095 := 0
def tw4000360442187392422 := 0
def tw16090855718931089048 := 0
def tw5418803810252155003 := 0
def tw10306738612542603380 := 0
def tw13312342805249843045 := 0
def tw9960161918333191467 := 0
def tw10922940230717213721 := 0
def tw7305948216607778113 := 0
def tw13424625597314938826 := 0
def tw14754412720091376492 := 0
def tw5965918629239428971 := 0
def tw4593319597537529621 := 0
def tw15032797588733801517 := 0
def tw2638198183847842350 := 0
def tw3517021594076065736 := 0
def tw1926629388793806384 := 0
def tw375843195739530154 := 0
def tw2394822181566012149 := 0
def tw5134648720130472883 := 0
def tw6579703055029259225 := 0
def tw11471831993663467442 := 0
def tw15667748918210031265 := 0
def tw14673335348320634985 := 0
def tw16087961721123963707 := 0
def tw14090437588435685250 := 0
def tw5428268228350412816 := 0
def tw1875659705161330393 := 0
def tw5676138163684512047 := 0
def tw12668721824789219574 := 0
def tw7792511618105891222 := 0
def tw4056477033854613267 := 0
def tw6416698392959089949 := 0
def tw8813160514457014696 := 0
def tw9942021247560728250 := 0
def tw17107751501117505114 := 0
def tw17503466848235364350 := 0
def tw17494303999374234578 := 0
def tw7519509569160800893 := 0
def tw17184939444821658567 := 0
def tw14714075834175650044 := 0
def tw15013971132102225995 := 0
def tw9886764559921976953 := 0
def tw17540875762156012261 := 0
def tw4496947213818792380 := 0
def tw13135068589838210577 := 0
def tw12680762304680708129 := 0
def tw16374665862281398337 := 0
def tw6357406092359788801 := 0
def tw13080988131133248728 := 0
def tw10906012900506918813 := 0
def tw9162927427699395846 := 0
def tw18066313860178242618 := 0
def tw6907826430412702835 := 0
def tw8338224243315503951 := 0
def tw14579061925103940473 := 0
def tw11177896026680773028 := 0
def tw10240488373763608681 := 0
def tw12224365174500203128 := 0
def tw7487020318866543022 := 0
def tw12588677916515551892 := 0
def tw15327192427556318331 := 0
def tw6201474924454390916 := 0
def tw540218739338252881 := 0
def tw7967845621018489337 := 0
def tw3429837717409078517 := 0
def tw7049519931253717687 := 0
def tw738693643806354705 := 0
def tw10217256781483521071 := 0
def tw14950077702721923647 := 0
def tw13496363910573313432 := 0
def tw12798208517943438928 := 0
def tw13683000588030621495 := 0
def tw10941317724182468407 := 0
def tw15584052818023386843 := 0
def tw6288609180433133037 := 0
def tw15688509354230958197 := 0
def tw13079591762147392060 := 0
def tw4703500938114448309 := 0
def tw16061858316262613263 := 0
def tw11257907997955631221 := 0
def tw1800770809696613881 := 0
def tw3195860029651525574 := 0
def tw8342608032144603587 := 0
def tw13068017844746408753 := 0
def tw12497507464038446537 := 0
def tw15946738789866990187 := 0
def tw7224144252684419455 := 0
def tw3466008285295570508 := 0
def tw5438341221576380712 := 0
def tw1369111370441913469 := 0
def tw5587744484742979423 := 0
def tw5780745511653202107 := 0
def tw5222349461233050760 := 0
def tw11098940841830159918 := 0
def tw259246677659565213 := 0
def tw13849180400230244235 := 0
def tw17423920935733929272 := 0
def tw4583131591218102339 := 0
def tw13438155221920071695 := 0
def tw4193176874383761343 := 0
def tw14136088621709207756 := 0
def tw1040097620269659672 := 0
def tw3624545437620864966 := 0
def tw17133931451572317571 := 0
def tw18347472756144156584 := 0
def tw14019544607046316637 := 0
def tw10163327868601048560 := 0
def tw7444457797898120811 := 0
def tw3163113224200046376 := 0
def tw7606999424155100767 := 0
def tw2250117499812237307 := 0
def tw9515320091921758232 := 0
def tw11896360876968499977 := 0
def tw14267889179394051624 := 0
def tw8895284351533224755 := 0
def tw5916974649948740741 := 0
def tw10843710949931085906 := 0
def tw9329919596169607457 := 0
def tw16242806079101319569 := 0
def tw7310322557605107866 := 0
def tw4025839099239733532 := 0
def tw7069421278921392511 := 0
def tw2400149259542883380 := 0
def tw14024372572637566395 := 0
def tw10234747322689076370 := 0
def tw16375845942330564231 := 0
def tw1159591359111517573 := 0
def tw15804944412509799384 := 0
def tw12000124099559337678 := 0
def tw5985162752394597562 := 0
def tw14814140705458661277 := 0
def tw17732780049505398968 := 0
def tw7653391787838559366 := 0
def tw8319884755730588928 := 0
def tw16163912591551278228 := 0
def tw13556987820189282791 := 0
def tw16982437831215677161 := 0
def tw3894639107323928432 := 0
def tw9180695396124425401 := 0
def tw6475810977620923135 := 0
def tw17774504740825461050 := 0
def tw13964924869520357780 := 0
def tw5748512087417971655 := 0
def tw571183542691596230 := 0
def tw12232063298842469121 := 0
def tw16661349955689804132 := 0
def tw1294995240793882117 := 0
def tw3994921546394969405 := 0
def tw2159731559953370174 := 0
def tw17040838540879271746 := 0
def tw2242237882747591693 := 0
def tw16734623449461584491 := 0
def tw16156399728986146156 := 0
def tw16310263633012823305 := 0
def tw9191192936255532035 := 0
def tw5141137184389358069 := 0
def tw10487848015606962576 := 0
def tw5927843356058022457 := 0
def tw14509024457297673679 := 0
def tw13220716410298074699 := 0
def tw8539207433254070256 := 0
def tw17792828244695742061 := 0
def tw13110084357854049784 := 0
def tw17246556985461730379 := 0
def tw9507899390511420008 := 0
def tw16497528323337705343 := 0
def tw3052147405931383011 := 0
def tw16657252568046901250 := 0
def tw12090593029306659465 := 0
def tw17803891773655736559 := 0
def tw13924825775087053823 := 0
def tw17064039781146712870 := 0
def tw2343142628667834260 := 0
def tw12899764462853525708 := 0
def tw12735351858816938610 := 0
def tw17612662852352350973 := 0
def tw5429252479639624943 := 0
def tw13685682657734031639 := 0
def tw15628703808801172938 := 0
def tw17498827420561278994 := 0
def tw10119906619431131979 := 0
def tw15984107943560661783 := 0
def tw4519985275411066368 := 0
def tw15184340832939046718 := 0
def tw182439429232966060 := 0
def tw14024390460811316490 := 0
def tw16747338065154644617 := 0
def tw15633451009179419312 := 0
def tw15828661909062000573 := 0
def tw15385460612636273122 := 0
def tw7541670532628498330 := 0
def tw6505438144961956981 := 0
def tw8015488292196207495 := 0
def tw15060925407046873135 := 0
def tw7164719731534715973 := 0
def tw17921255849004727551 := 0
def tw12715201071384518724 := 0
def tw9997892853682974365 := 0
def tw8430209346898414146 := 0
def tw11095470711642948493 := 0
def tw4702746279285879111 := 0
def tw16460640371888971005 := 0
def tw13714132901101324962 := 0
def tw7566784640224968493 := 0
def tw10688172644931503047 := 0
def tw4341391332143195952 := 0
def tw15491699859302650028 := 0
def tw4921674570228212830 := 0
def tw15972405649652543351 := 0
def tw10520575904824336818 := 0
def tw10873360109351991652 := 0
def tw9576209071379224217 := 0
def tw11938516918166649359 := 0
def tw11312336368962916540 := 0
def tw8662546505841190433 := 0
def tw5131289851592194658 := 0
def tw4295452276556785112 := 0
def tw4049414595229051573 := 0
def tw3531162927027996017 := 0
def tw18373728836224830275 := 0
def tw11167646574063883058 := 0
def tw9012274598471865305 := 0
def tw7651692477197473677 := 0
def tw3120503495692941997 := 0
def tw3590077737207032438 := 0
def tw15529105642796654279 := 0
def tw5589069804701346147 := 0
def tw6389272524694637552 := 0
def tw9044190308484673514 := 0
def tw4038572980029169985 := 0
def tw4285609040108268248 := 0
def tw7938030077378288270 := 0
def tw4986729965048131999 := 0
def tw10552036707681927018 := 0
def tw6940500579039789851 := 0
def tw8837584629415120049 := 0
def tw2468154680924635784 := 0
def tw17339268184801042977 := 0
def tw16512152203945249127 := 0
def tw13225386006757169758 := 0
def tw2238140840689364853 := 0
def tw17442087809200187600 := 0
def tw10535330616264618703 := 0
def tw5397319590567947296 := 0
def tw11085996800349705984 := 0
def tw14891709536896656028 := 0
def tw17061830199962115340 := 0
def tw2628350702219362284 := 0
def tw3562259030084231087 := 0
def tw15068935104611151737 := 0
def tw6828191848849624852 := 0
def tw5334030606945970748 := 0
def tw4819759502478542546 := 0
def tw12351200423703384761 := 0
def tw15144875690945194656 := 0
def tw7280664319749951413 := 0
def tw15321565143122786003 := 0
def tw3038778137685948350 := 0
def tw15613902702138311461 := 0
def tw1953329617349254535 := 0
def tw4688147954786186213 := 0
def tw10900853761197253935 := 0
def tw3732820122775374771 := 0
def tw14086610536476405398 := 0
def tw8883441575979041900 := 0
def tw18115056961700714551 := 0
def tw2330746207229194453 := 0
def tw14136262981557969600 := 0
def tw14532525700104029665 := 0
def tw3105824418776031753 := 0
def tw388089101593995110 := 0
def tw15688479709871376429 := 0
def tw15687997528326937540 := 0
def tw15948491615941782939 := 0
def tw1869035890058405718 := 0
def tw7577409393131700275 := 0
def tw7913546618581728804 := 0
def tw11496244055876923984 := 0
def tw11860136688332029887 := 0
def tw6265928439602933372 := 0
def tw1612772139730017372 := 0
def tw12150207050297941670 := 0
def tw3918014125294141675 := 0
def tw13729954706668706751 := 0
def tw13657307656819848996 := 0
def tw15649351724902305883 := 0
def tw13095418517444248696 := 0
def tw811146812295471717 := 0
def tw5444283073522392361 := 0
def tw572610468988558567 := 0
def tw682967990448993248 := 0
def tw18316192251092070840 := 0
def tw13063147620607107971 := 0
def tw12790865667478347764 := 0
def tw9129632874265702403 := 0
def tw7814123673946582071 := 0
def tw4182737793688057592 := 0
def tw15244313312903236761 := 0
def tw283033880312958599 := 0
def tw9930113541585259298 := 0
def tw3086850191302260346 := 0
def tw7483481559586515224 := 0
def tw11873570226759412256 := 0
def tw15227637346122947883 := 0
def tw10483936715890276224 := 0
def tw4715698489364596110 := 0
def tw4567723524818560779 := 0
def tw15639734463530932954 := 0
def tw6630726598210231817 := 0
def tw11838110849619412307 := 0
def tw16719460389298100904 := 0
def tw15929650748317583271 := 0
def tw7141864356062178332 := 0
def tw17796970114123204379 := 0
def tw2643014512616095557 := 0
def tw17653226606167446030 := 0
def tw7816996213631925117 := 0
def tw10189074997626265041 := 0
def tw2933088556251418282 := 0
def tw15707398378790723023 := 0
def tw7838936579925443458 := 0
def tw4454976585315814256 := 0
def tw1394094846278268749 := 0
def tw2644244205898535354 := 0
def tw16735618176486888336 := 0
def tw460395504089543119 := 0
def tw11919410379861561755 := 0
def tw12572782643033521948 := 0
def tw8540358385012846302 := 0
def tw10817896927940783581 := 0
def tw5938351194973939361 := 0
def tw894045940608499973 := 0
def tw8851683447097745309 := 0
def tw6769686500134935665 := 0
def tw3275273679107531949 := 0
def tw15489018130630083314 := 0
def tw974402827276046211 := 0
def tw3489137043142747440 := 0
def tw2636189311513643091 := 0
def tw3438201183290015253 := 0
def tw16192162318153548992 := 0
def tw13301943336144296953 := 0
def tw9532406196778073711 := 0
def tw7352443188555808299 := 0
def tw16154882269350021423 := 0
def tw7885863691505032519 := 0
def tw16412023674797928387 := 0
def tw5448516078749997343 := 0
def tw15837619366140759914 := 0
def tw558564833603253973 := 0
def tw12278143756351522502 := 0
def tw14491596928468911757 := 0
def tw1334927921174642300 := 0
def tw15449017546568720185 := 0
def tw2779535305942159241 := 0
def tw10131827779496791635 := 0
def tw18389548689322075435 := 0
def tw9131402021590660627 := 0
def tw14361810639809694665 := 0
def tw15675742560854341128 := 0
def tw11139112510498742789 := 0
def tw410423469296269102 := 0
def tw12538267125934350044 := 0
def tw5704509300246461364 := 0
def tw5383263150400462587 := 0
def tw6671113275765576045 := 0
def tw1601113239231848570 := 0
def tw15834546950705250728 := 0
def tw10379934986995650598 := 0
def tw1896902920850851543 := 0
def tw16092559127118776887 := 0
def tw12375788794380928909 := 0
def tw13036105737182506471 := 0
def tw13065574002121115799 := 0
def tw1788711459204048069 := 0
def tw11254232262228175089 := 0
def tw4792962924834600678 := 0
def tw16852780614858027377 := 0
def tw4583758946528775242 := 0
def tw17397499473486573809 := 0
def tw4015469346706673181 := 0
def tw15895835213089785060 := 0
def tw6037077528680877750 := 0
def tw12321673599576951085 := 0
def tw15663289609373606883 := 0
def tw8801989853704752728 := 0
def tw9511176550669644588 := 0
def tw15812394933655156554 := 0
def tw6752705080485090970 := 0
def tw14319325953405505432 := 0
def tw1049109490138667092 := 0
def tw3175101478007162610 := 0
def tw996488858002248863 := 0
def tw6320578893891216258 := 0
def tw14770917808979777335 := 0
def tw3940863906858827102 := 0
def tw14846343282428372730 := 0
def tw5650052257511107875 := 0
def tw3828860598080130321 := 0
def tw9394498796245550222 := 0
def tw933082186628914390 := 0
def tw8377189435090835339 := 0
def tw10273786522171683701 := 0
def tw7228626902585883106 := 0
def tw4083954323769144816 := 0
def tw2252604294156819718 := 0
def tw2733846594645118092 := 0
def tw15097800248902387911 := 0
def tw8590185077034080341 := 0
def tw3745982630853147177 := 0
def tw14686319409292596638 := 0
def tw14271222191244800170 := 0
def tw14321304901382930191 := 0
def tw9779564746763305070 := 0
def tw16110175827789219078 := 0
def tw4227257719619129696 := 0
def tw15610880209507360565 := 0
def tw16637931566449103121 := 0
def tw2146886446328829013 := 0
def tw11639881825341166096 := 0
def tw10593217160581700223 := 0
def tw2222367465562272953 := 0
def tw12585396504660497185 := 0
def tw12173359779222845876 := 0
def tw5806300714812436647 := 0
def tw3427442111427550116 := 0
def tw12013190930582915494 := 0
def tw3900630345600761750 := 0
def tw17197237217232678944 := 0
def tw14392861460139109326 := 0
def tw10053091892589244485 := 0
def tw5305671796580676155 := 0
def tw13055949853526928761 := 0
def tw13075686004541464300 := 0
def tw4636861762191101893 := 0
def tw8613659486578380033 := 0
def tw12308389718590480539 := 0
def tw7748743669814199877 := 0
def tw56887345312079997 := 0
def tw16259815605206248845 := 0
def tw7277584332088801765 := 0
def tw16119580659379358382 := 0
def tw1768609749604226161 := 0
def tw16630222633670078887 := 0
def tw8012929860986328067 := 0
def tw7292133839050585244 := 0
def tw13024430268122576115 := 0
def tw7363421740433932339 := 0
def tw2829861937635024969 := 0
def tw7192090743296874606 := 0
def tw13257950560522375409 := 0
def tw5928403261098625925 := 0
def tw9412108165318021815 := 0
def tw1421961081567901080 := 0
def tw43972101459103994 := 0
def tw15415812529067960251 := 0
def tw1052594118072360871 := 0
def tw4245896632769798460 := 0
def tw15588057277691820432 := 0
def tw4688415369755050251 := 0
def tw6918129515086114310 := 0
def tw14594746045349557874 := 0
def tw2389003750938336191 := 0
def tw15810217133054819775 := 0
def tw156340690828662814 := 0
def tw5484002472439067975 := 0
def tw17955774532471336530 := 0
def tw13468842519181356981 := 0
def tw18030895613229806372 := 0
def tw10025054835178140685 := 0
def tw6983373681096321104 := 0
def tw9772788598941413457 := 0
def tw2586928910155552912 := 0
def tw8391039042232173657 := 0
def tw12423412843283540911 := 0
def tw4665429127097453690 := 0
def tw7442576277737115223 := 0
def tw18354434496294695937 := 0
def tw6267220557484189255 := 0
def tw14964107637897244768 := 0
def tw4557849512745146592 := 0
def tw1712276985457346233 := 0
def tw11287012672743598201 := 0
def tw17687234397868320938 := 0
def tw13336379483370986582 := 0
def tw11170844967819542124 := 0
def tw15990594420584035312 := 0
def tw3254609469961527113 := 0
def tw7799498439965981472 := 0
def tw14320434316021685164 := 0
def tw1326195413052136313 := 0
def tw18145639222450927655 := 0
def tw2615018493399927225 := 0
def tw5414298869623175034 := 0
def tw4909291795590493324 := 0
def tw11368395478555675547 := 0
def tw17376742037353491510 := 0
def tw17569337533170542131 := 0
def tw4564425911946901424 := 0
def tw14733736677182995982 := 0
def tw6785565391939197284 := 0
def tw5635090901379557078 := 0
def tw7248590632834322685 := 0
def tw5136622074189790157 := 0
def tw7942221982858851833 := 0
def tw4842443744324551917 := 0
def tw10071836536583117221 := 0
def tw15467687775517792254 := 0
def tw7123889027514376918 := 0
def tw7282738592967647871 := 0
def tw7763002066860752160 := 0
def tw1754520859477669729 := 0
def tw11157063736421449710 := 0
def tw7879923540232526749 := 0
def tw9196560765145208075 := 0
def tw15212963070824258871 := 0
def tw9975467106182456276 := 0
def tw4938417864399724503 := 0
def tw12832080806281055052 := 0
def tw6013385885659858895 := 0
def tw6381556988345088072 := 0
def tw975382368297626483 := 0
def tw13029484286252315815 := 0
def tw180173939894664426 := 0
def tw7676680933440136248 := 0
def tw6537217215079148461 := 0
def tw8464749055330998351 := 0
def tw1209328904098666869 := 0
def tw1591872087949022930 := 0
def tw4503079573591134684 := 0
def tw2416879039851393170 := 0
def tw108321313184616871 := 0
def tw2355334205340090269 := 0
def tw6785866772862235612 := 0
def tw14717467827323095250 := 0
def tw10847728464424125342 := 0
def tw10266500441837620886 := 0
def tw8472403971623894471 := 0
def tw5396727937522175824 := 0
def tw12148491071044387486 := 0
def tw1561973847962117008 := 0
def tw5603200604632177416 := 0
def tw5454979668712462191 := 0
def tw18090276067705071812 := 0
def tw15807475387369501247 := 0
def tw12203833760816606787 := 0
def tw4845863970082703591 := 0
def tw10412583628534473251 := 0
def tw13500836324587023335 := 0
def tw13448359472075193197 := 0
def tw9872529537748195008 := 0
def tw5441499640910994761 := 0
def tw11939409931499388274 := 0
def tw8943786582222918052 := 0
def tw10142431933777530184 := 0
def tw9225831414325879748 := 0
def tw13966287029506327546 := 0
def tw171903667963605394 := 0
def tw17041485816205374503 := 0
def tw183558273146836692 := 0
def tw14675839111644558479 := 0
def tw14454749702552404644 := 0
def tw17563699799626749344 := 0
def tw1683240091956843331 := 0
def tw3950118672282568000 := 0
def tw16698358872738957949 := 0
def tw15372636749465950682 := 0
def tw3595241487232389740 := 0
def tw1278140584720465263 := 0
def tw3758058297412716922 := 0
def tw2732442703816277405 := 0
def tw753107946429695742 := 0
def tw11903527704509032441 := 0
def tw6345542557112513225 := 0
def tw17734841733263526275 := 0
def tw11645736573200884520 := 0
def tw12395250577942504077 := 0
def tw17886070006338904026 := 0
def tw8871711418166439972 := 0
def tw3106028208285251504 := 0
def tw5719838302397425016 := 0
def tw15950987385721434819 := 0
def tw581581068451581322 := 0
def tw9140214880492997508 := 0
def tw10765348804364908545 := 0
def tw17675920875973013681 := 0
def tw17309162783105589972 := 0
def tw14808962103121251880 := 0
def tw650617837505781525 := 0
def tw14978782168825567374 := 0
def tw8085437262945286267 := 0
def tw5173675698908628198 := 0
def tw6883365009750447279 := 0
def tw16470610215572279097 := 0
def tw6950061073568401190 := 0
def tw14194981001951723316 := 0
def tw9458948559381294903 := 0
def tw11052397263648639107 := 0
def tw10153031774568284535 := 0
def tw12933556207464738743 := 0
def tw7136299956231003116 := 0
def tw12733383449447849876 := 0
def tw1906049918081590799 := 0
def tw10152813024694012023 := 0
def tw792754964395610566 := 0
def tw3385290532284702298 := 0
def tw374537568628841893 := 0
def tw1201756911704123211 := 0
def tw16399510153284459278 := 0
def tw13294889512819241701 := 0
def tw1748451847233799317 := 0
def tw8356668671174277540 := 0
def tw8951767082065726790 := 0
def tw9556378861535330717 := 0
def tw6460000989495405537 := 0
def tw9754166048319269762 := 0
def tw6163200889774937662 := 0
def tw14067945700235159679 := 0
def tw7175007391281318492 := 0
def tw5865632673830611597 := 0
def tw2654893279058074729 := 0
def tw11911202978463183050 := 0
def tw3093069539182081106 := 0
def tw13473857666030955770 := 0
def tw8608895134265846901 := 0
def tw11525404858461453 := 0
def tw13787181187012301460 := 0
def tw13661261339790594707 := 0
def tw15157565406783043299 := 0
def tw452812480666987573 := 0
def tw1629626078678700915 := 0
def tw7932798048370006102 := 0
def tw4407247720996055676 := 0
def tw2469500082775264190 := 0
def tw6512253333334151927 := 0
def tw14836673750324360793 := 0
def tw13235851157347111705 := 0
def tw18379933362043481467 := 0
def tw3918173286828268627 := 0
def tw14736591036213322273 := 0
def tw13342780880471857199 := 0
def tw11088960442118385975 := 0
def tw11869330945350586999 := 0
def tw12290976298704414331 := 0
def tw9834255547776498719 := 0
def tw16687545293589334185 := 0
def tw10892954238198361117 := 0
def tw12447490227532403832 := 0
def tw13433913906431152636 := 0
def tw16961359445393077157 := 0
def tw8321141779667934091 := 0
def tw3946172934762029110 := 0
def tw4438484123840365651 := 0
def tw2626060812478831999 := 0
def tw11447397166609039318 := 0
def tw2169746919909123945 := 0
def tw7974984188413201232 := 0
def tw8510919834107732727 := 0
def tw16309100607369007287 := 0
def tw12197497873199491512 := 0
def tw17188680259816054911 := 0
def tw11161766423255988636 := 0
def tw12434909826528784042 := 0
def tw6822410397112342764 := 0
def tw17030723459142462626 := 0
def tw16701126073690314771 := 0
def tw15137115783740717040 := 0
def tw11632829820373220519 := 0
def tw15330616301974246671 := 0
def tw1188715755780805446 := 0
def tw1523975754515304393 := 0
def tw5163427077786232840 := 0
def tw10958767245833790844 := 0
def tw11474944518278875573 := 0
def tw3171485652504741239 := 0
def tw5042405279178993226 := 0
def tw3964709559548905907 := 0
def tw6132014806411958342 := 0
def tw7847495053283153694 := 0
def tw7585922715421131927 := 0
def tw10538725747922089198 := 0
def tw1717703601691034211 := 0
def tw9433980573567238114 := 0
def tw12965987689496587527 := 0
def tw8823364699571116788 := 0
def tw2514873631034029717 := 0
def tw7288898551893979786 := 0
def tw4917265993717571592 := 0
def tw579203177333380855 := 0
def tw17428815609661690036 := 0
def tw7922303912602971144 := 0
def tw4876707397335146825 := 0
def tw4281047599430628447 := 0
def tw6825060077772607114 := 0
def tw3603329100444032758 := 0
def tw5308686843646208656 := 0
def tw7074080139509416786 := 0
def tw3504807956825598104 := 0
def tw7598247339403721499 := 0
def tw5262223438005327984 := 0
def tw9125409097665000762 := 0
def tw15667302080069711070 := 0
def tw14970233990397435631 := 0
def tw13945743195172663297 := 0
def tw3867780116404234781 := 0
def tw10148674447017259461 := 0
def tw7250390026762261981 := 0
def tw10244598596303640716 := 0
def tw2069398079599225238 := 0
def tw2859075858071500628 := 0
def tw11101175688636060819 := 0
def tw4435006255741888583 := 0
def tw17307456325735488316 := 0
def tw6021743657852622710 := 0
def tw8497785964596713764 := 0
def tw16891379661054188202 := 0
def tw1238981733704495472 := 0
def tw15637724783434386566 := 0
def tw6697518261484634698 := 0
def tw7697313609416637125 := 0
def tw9846371961566555916 := 0
def tw13986298508916789665 := 0
def tw220759684955083143 := 0
def tw1519694012735555296 := 0
def tw8584457016141646318 := 0
def tw2671167433690755115 := 0
def tw13953807493462738969 := 0
def tw2261477938710505858 := 0
def tw8549418162627497004 := 0
def tw3968191058463253621 := 0
def tw17471684106691275369 := 0
def tw13442448860006878202 := 0
def tw7906475541935897603 := 0
def tw10031034517603700343 := 0
def tw12689239692998255721 := 0
def tw16891444217106204871 := 0
def tw1375636560180380928 := 0
def tw18086759600473300311 := 0
def tw6451460545338521872 := 0
def tw2608636414717801240 := 0
def tw872963146244320863 := 0
def tw13986221055372052977 := 0
def tw16773926262753332936 := 0
def tw6106153065179845994 := 0
def tw9281646314447804070 := 0
def tw14100817829138863080 := 0
def tw1110989449626626159 := 0
def tw5610060083988021873 := 0
def tw15068724861776608798 := 0
def tw8127552041783213238 := 0
def tw5046481109560961018 := 0
def tw8937725421540133875 := 0
def tw15134514087897180032 := 0
def tw3112607486662088824 := 0
def tw2740658539297580346 := 0
def tw15201538647978510082 := 0
def tw13386235840028332253 := 0
def tw3151472764856143434 := 0
def tw1329485361430580095 := 0
def tw10431707122595088146 := 0
def tw18122123006358970374 := 0
def tw13137071954928979464 := 0
def tw16838958740754848171 := 0
def tw10711533798945742625 := 0
def tw17727331606969225724 := 0
def tw13024043452354819403 := 0
def tw16791986906962430613 := 0
def tw11363144478548453285 := 0
def tw4131569999616551013 := 0
def tw10841208343824510495 := 0
def tw13947902547972544623 := 0
def tw12144388570024225866 := 0
def tw16883804808663613691 := 0
def tw10816304050468348719 := 0
def tw1114650940247727063 := 0
def tw4558019650996089546 := 0
def tw1056346848574673232 := 0
def tw16291494310095981142 := 0
def tw530548985134601766 := 0
def tw926830638163997852 := 0
def tw2695728588601926775 := 0
def tw2512143828093522371 := 0
def tw7192355949812598625 := 0
def tw9975304955718221616 := 0
def tw10842557141729773015 := 0
def tw5146586686949904703 := 0
def tw16433915948248164054 := 0
def tw16783761940383436604 := 0
def tw429953533180912239 := 0
def tw16845602081804227891 := 0
def tw17111109677069444283 := 0
def tw2190597766463322250 := 0
def tw8839460480650166109 := 0
def tw5945592085421719017 := 0
def tw14735902531114089741 := 0
def tw14284969016701483672 := 0
def tw5823975588904233124 := 0
def tw16265855510149387940 := 0
def tw5163008350517790438 := 0
def tw17757855087655259713 := 0
def tw5382716041697049007 := 0
def tw8894191326480680938 := 0
def tw5691502636115758929 := 0
def tw6918193042628740699 := 0
def tw3791433786090000940 := 0
def tw15882535707239557752 := 0
def tw4533660828300784084 := 0
def tw10461744048284696531 := 0
def tw5436330794917156268 := 0
def tw13040893299769092691 := 0
def tw11414493556788545714 := 0
def tw5062114983359538828 := 0
def tw17200151292593670917 := 0
def tw11287849270519498240 := 0
def tw1560740576084770904 := 0
def tw6142027488962217853 := 0
def tw5994434729660969810 := 0
def tw3236729988418251415 := 0
def tw9727184334654434145 := 0
def tw15845740267204889257 := 0
def tw5147631708138686835 := 0
def tw9746894332764440416 := 0
def tw17647553932785457306 := 0
def tw6401649553444829348 := 0
def tw4398789216594079805 := 0
def tw17391615785808570060 := 0
def tw8923057394446092938 := 0
def tw17678104633603416972 := 0
def tw18445606054297478324 := 0
def tw2525975921096588641 := 0
def tw192559214551286631 := 0
def tw15498232442177330548 := 0
def tw12405744731973538314 := 0
def tw2854482388437294178 := 0
def tw2271029633391896046 := 0
def tw1005096471443997123 := 0
def tw2387234371248956251 := 0
def tw3120174648642438442 := 0
def tw1700338892975362976 := 0
def tw15505603907533128782 := 0
def tw12940255829292950420 := 0
def tw13434777812099523476 := 0
def tw8880996150958727689 := 0
def tw10521390757637902741 := 0
def tw9887842001135028921 := 0
def tw6253189280807199421 := 0
def tw16902699549783374990 := 0
def tw16890598095427943039 := 0
def tw1836324733283834276 := 0
def tw9566388277337895523 := 0
def tw17211137851690579857 := 0
def tw1333034547229326824 := 0
def tw17220126934967454274 := 0
def tw3050781830140862908 := 0
def tw17551181550547855216 := 0
def tw10154940887627549285 := 0
def tw16949428268519385928 := 0
def tw16125564156062197585 := 0
def tw7945269908841662647 := 0
def tw4442251279277895830 := 0
def tw2635304474042790028 := 0
def tw13279099076757008263 := 0
def tw6156600231755168062 := 0
def tw16134744407034853022 := 0
def tw14825543697240507800 := 0
def tw15097371628796123644 := 0
def tw922166732339299241 := 0
def tw1496926180675289009 := 0
def tw16142256848503380462 := 0
def tw7834136531888453248 := 0
def tw4175693222734098905 := 0
def tw13423315296080609418 := 0
def tw8151131169931851925 := 0
def tw1620325659953184973 := 0
def tw13616496811137110609 := 0
def tw7768818739609465129 := 0
def tw5786593947905334226 := 0
def tw6950719970548280222 := 0
def tw11418144695814881985 := 0
def tw12864077519322861723 := 0
def tw10014819378467990616 := 0
def tw16361886267788051281 := 0
def tw4736683122120536960 := 0
def tw18421321198390445924 := 0
def tw9324959280973878843 := 0
def tw6811547456013101095 := 0
def tw16431697331083773678 := 0
def tw11063220557519639297 := 0
def tw9409377953380526194 := 0
def tw4583653543963177084 := 0
def tw10825092073943593638 := 0
def tw5846598453637943718 := 0
def tw1498779161597248856 := 0
def tw8612157467374774976 := 0
def tw3527773314586836010 := 0
def tw3673878161517820807 := 0
def tw17903076937410252938 := 0
def tw17817767639295311460 := 0
def tw1137799741829280367 := 0
def tw9951393866071505061 := 0
def tw14529121298817434107 := 0
def tw17675720564718828404 := 0
def tw7022805787090582322 := 0
def tw535359642076250177 := 0
def tw4694378380017662572 := 0
def tw15847753287437655598 := 0
def tw4357104079270176939 := 0
def tw14186596112378790876 := 0
def tw367873277058344538 := 0
def tw13114730518462662005 := 0
def tw5165818329312008768 := 0
def tw12471451607157040867 := 0
def tw4701129648300442033 := 0
def tw777879281686199641 := 0
def tw6089918634232194526 := 0
def tw15032456662669123453 := 0
def tw13590153594778250008 := 0
def tw12944956787793823059 := 0
def tw6572610841722133420 := 0
def tw2914663461610191177 := 0
def tw13259548959393990209 := 0
def tw8313027856458262626 := 0
def tw9745633128835578448 := 0
def tw7138730639971163200 := 0
def tw8823747916313299615 := 0
def tw14906066207945441171 := 0
def tw5414823244896930454 := 0
def tw16268547918366036341 := 0
def tw12269994175761425475 := 0
def tw11642964583183126585 := 0
def tw6814637415693945271 := 0
def tw3735194908121435970 := 0
def tw4578251545973877068 := 0
def tw629718461769987593 := 0
def tw12004318340158254163 := 0
def tw7048647192962152833 := 0
def tw4444185256056998751 := 0
def tw13128444410396248750 := 0
def tw16250704356636828835 := 0
def tw15147896852740549427 := 0
def tw2155919096922376770 := 0
def tw7329712354934235407 := 0
def tw17632490190912123616 := 0
def tw13352320680064552528 := 0
def tw17211196910621510141 := 0
def tw4445490632421329402 := 0
def tw12741867708455065225 := 0
def tw16709110019040363726 := 0
def tw7747027336146772962 := 0
def tw9654385331619084520 := 0
def tw891060945042466395 := 0
def tw2064486000621819337 := 0
def tw18427350077962285737 := 0
def tw12772133597252100320 := 0
def tw4889344012771821478 := 0
def tw7020618867383736270 := 0
def tw156225907970712001 := 0
def tw12311878637185082396 := 0
def tw9196968325676351821 := 0
def tw13973465124471957669 := 0
def tw520772421665746723 := 0
def tw14943873175578187882 := 0
def tw9219922269687761538 := 0
def tw13336462143403067233 := 0
def tw3484064864182473221 := 0
def tw4457914682910354310 := 0
def tw3662890014717535737 := 0
def tw824180779587591982 := 0
def tw15437613926004547532 := 0
def tw16946112681330383700 := 0
def tw7076646730506444687 := 0
def tw2136338599851042112 := 0
def tw10329046891993555423 := 0
def tw5538862416914964517 := 0
def tw7755109188823246990 := 0
def tw16355644791704543038 := 0
def tw3338002774770468151 := 0
def tw12507531664470378361 := 0
def tw2159010373905070133 := 0
def tw14902513242246798166 := 0
def tw11518895649451091412 := 0
def tw1622825879690116998 := 0
def tw9696553814016103282 := 0
def tw11808202222980074071 := 0
def tw286074412944727581 := 0
def tw1941679370253250289 := 0
def tw10550253164501004522 := 0
def tw10358116468073665863 := 0
def tw1929541754923544551 := 0
def tw11361520507721017998 := 0
def tw7712191235166906774 := 0
def tw8466471405497987945 := 0
def tw7098068157862752566 := 0
def tw8802423529215483136 := 0
def tw2417044047570177788 := 0
def tw15716430967879614227 := 0
def tw6521728248396831958 := 0
def tw12694900781941311467 := 0
def tw12346203315663097858 := 0
def tw17491587450302794304 := 0
def tw2425306418422275856 := 0
def tw5075407931746698435 := 0
def tw15605232012285094034 := 0
def tw15102545094144682543 := 0
def tw11125794824089332121 := 0
def tw4860127840090489833 := 0
def tw6876941126541102107 := 0
def tw4564201331792689257 := 0
def tw17200669118621419503 := 0
def tw1015769041456137441 := 0
def tw17311234101832528865 := 0
def tw2784453418090736207 := 0
def tw12501747111256886430 := 0
def tw8646851975691403685 := 0
def tw12714984425826543509 := 0
def tw13640587286340271371 := 0
def tw5559148729394582160 := 0
def tw14317058816483962597 := 0
def tw12923981318973966551 := 0
def tw14244850222096389510 := 0
def tw14847429278917660888 := 0
def tw17813071027068577007 := 0
def tw91559762091890495 := 0
def tw13857608477217900829 := 0
def tw1190204798018973107 := 0
def tw2520798735227508812 := 0
def tw8363215545864532423 := 0
def tw8891843799629220102 := 0
def tw15952077244177573222 := 0
def tw5269869984784145690 := 0
def tw14249646871754107020 := 0
def tw13712448192860618711 := 0
def tw16589256207553181426 := 0
def tw14367727517252189486 := 0
def tw12695745966523829803 := 0
def tw13148901920975185356 := 0
def tw13725116260306935609 := 0
def tw16695837052975915953 := 0
def tw16700036447552644995 := 0
def tw11559349481017994611 := 0
def tw6527719743240387985 := 0
def tw3360348207495220330 := 0
def tw8985811935780627266 := 0
def tw13023008027961390777 := 0
def tw6302031056431432924 := 0
def tw8122036442063695802 := 0
def tw12940628800085383762 := 0
def tw16048731870704189550 := 0
def tw4308277744636971954 := 0
def tw7803177503644297561 := 0
def tw12099909020795323917 := 0
def tw16029810401340312611 := 0
def tw15529548007751919974 := 0
def tw9491057422697640406 := 0
def tw13978358240377424061 := 0
def tw9559310280529350426 := 0
def tw15826903812825585508 := 0
def tw2779018210199793966 := 0
def tw16172429545091187903 := 0
def tw1688008804642792581 := 0
def tw16189238572472448423 := 0
def tw7229045630700586513 := 0
def tw15314658978356874051 := 0
def tw14465630147132650904 := 0
def tw4335528159382746961 := 0
def tw2669555313870729862 := 0
def tw11735422272319279741 := 0
def tw9014050503091125548 := 0
def tw153752438098175429 := 0
def tw2356984664538276928 := 0
def tw12146533182231642390 := 0
def tw9604888930246990809 := 0
def tw6959552921451528211 := 0
def tw12276707016473237096 := 0
def tw17943902742511009187 := 0
def tw10331683386541619680 := 0
def tw797918362926111729 := 0
def tw3322829228142617051 := 0
def tw18053411722697278465 := 0
def tw12426013414505949666 := 0
def tw18336143393485216225 := 0
def tw3518364700085143529 := 0
def tw15430616430884074380 := 0
def tw9553733826495582389 := 0
def tw3617108919603215290 := 0
def tw15881512487002796838 := 0
def tw16516793144196303393 := 0
def tw8043429642778647629 := 0
def tw6783989385325558757 := 0
def tw12166667007684705379 := 0
def tw8835011164352308498 := 0
def tw4471220494770928280 := 0
def tw661991949606612430 := 0
def tw16833375189711182001 := 0
def tw8970102805541479531 := 0
def tw13064932238201967278 := 0
def tw3201277805048279662 := 0
def tw4076716746404731428 := 0
def tw6427980174048731156 := 0
def tw12074344603017679074 := 0
def tw1266327144342212165 := 0
def tw9227525898307481948 := 0
def tw4217507630004062456 := 0
def tw9606085120667105867 := 0
def tw10567918046940506419 := 0
def tw4227646977382611955 := 0
def tw11614342534757566746 := 0
def tw4889059495894928784 := 0
def tw1582114197315987761 := 0
def tw16080040899992950055 := 0
def tw9324002547807587370 := 0
def tw5704069947617764978 := 0
def tw1894187824884524706 := 0
def tw6133355723218482655 := 0
def tw6651198612568057559 := 0
def tw16833592570494643325 := 0
def tw9794624606383091293 := 0
def tw14221671739562613860 := 0
def tw13648679792466312556 := 0
def tw11982818499063153602 := 0
def tw11207443542465936615 := 0
def tw429580478331630785 := 0
def tw18078024666948652339 := 0
def tw1275788772823965252 := 0
def tw13734035038897767836 := 0
def tw18324778955013208825 := 0
def tw6426011615935766169 := 0
def tw5887889126270026024 := 0
def tw12417345495706220493 := 0
def tw13162877726133538457 := 0
def tw8696819499351520293 := 0
def tw16306768957688693406 := 0
def tw12579307597064363130 := 0
def tw7999150353918243739 := 0
def tw5810287007316948716 := 0
def tw910005188179634212 := 0
def tw15771355795613695983 := 0
def tw9901795505029345001 := 0
def tw3818534119801097582 := 0
def tw15586622230059987478 := 0
def tw2104597865422634872 := 0
def tw13467437325616686127 := 0
def tw18312135582822669123 := 0
def tw10239192082807374615 := 0
def tw2121576805692536128 := 0
def tw5854801016620284129 := 0
def tw17508091609773214072 := 0
def tw7648776473954463270 := 0
def tw7077012743198681624 := 0
def tw8421571379541724214 := 0
def tw9259892755399688953 := 0
def tw10761010817397532512 := 0
def tw8935079836088314581 := 0
def tw4450905600110988341 := 0
def tw6737094712363368379 := 0
def tw11924335450018381941 := 0
def tw9419228299385459156 := 0
def tw4697078396681554354 := 0
def tw13418105277596029867 := 0
def tw18078453834228197031 := 0
def tw1122689615606903785 := 0
def tw7205811729840902943 := 0
def tw16847372001208423478 := 0
def tw15374501308249249494 := 0
def tw6922722600475262466 := 0
def tw6828138866938473021 := 0
def tw2379861404583262129 := 0
def tw18245801115387059384 := 0
def tw10158110791634101350 := 0
def tw3434262930531492303 := 0
def tw8394645284064663369 := 0
def tw7958714201777323542 := 0
def tw10501549929470628064 := 0
def tw11864277471972260837 := 0
def tw1638770720675229614 := 0
def tw10626234242940730718 := 0
def tw14595645953660634691 := 0
def tw8255887137771561439 := 0
def tw9862662388001796577 := 0
def tw6329282555897610557 := 0
def tw12849877665042107308 := 0
def tw6953708067122647557 := 0
def tw3068838880004208408 := 0
def tw8726422941921040406 := 0
def tw11196370420006956745 := 0
def tw15263186321762352916 := 0
def tw9326756851335118602 := 0
def tw11602236126328995875 := 0
def tw1413247688856322400 := 0
def tw7214724450569964170 := 0
def tw982158189905164814 := 0
def tw3975363081855637937 := 0
def tw4778961857055692382 := 0
def tw268702838139933043 := 0
def tw11561790646714608301 := 0
def tw3053739005976289711 := 0
def tw12344670263218459276 := 0
def tw1067000045176257894 := 0
def tw5297646713388015124 := 0
def tw4221184642448240079 := 0
def tw3635837880192055653 := 0
def tw12343670991144519120 := 0
def tw18039310028614145517 := 0
def tw13957111968081576489 := 0
def tw16288280750402227072 := 0
def tw15360691261128227362 := 0
def tw2727243569857580295 := 0
def tw2887060824922007586 := 0
def tw15050589268303454477 := 0
def tw11238582672912710443 := 0
def tw10070071129702559227 := 0
def tw5340474707567814376 := 0
def tw8866733637642976303 := 0
def tw10706079133803927594 := 0
def tw4883255151954374702 := 0
def tw5620409911293345885 := 0
def tw8494729042919874610 := 0
def tw1592520330752645078 := 0
def tw10547644100469448055 := 0
def tw9183601788698230897 := 0
def tw14017501157917063839 := 0
def tw18049022965292611440 := 0
def tw17036349294476427750 := 0
def tw9233800755842589191 := 0
def tw6866784776858311616 := 0
def tw5101084777318780596 := 0
def tw13572129214336201224 := 0
def tw10988760728318878700 := 0
def tw16513539272114480293 := 0
def tw11057673376212080661 := 0
def tw8087142684642896823 := 0
def tw11117030766343012663 := 0
def tw2484569984220512194 := 0
def tw2433014517849261636 := 0
def tw17982312070216523666 := 0
def tw10718465036591789444 := 0
def tw9664022928227978969 := 0
def tw13325199919434565222 := 0
def tw13797902606651041729 := 0
def tw1220918199152833989 := 0
def tw1121791549160312635 := 0
def tw14312642988531556043 := 0
def tw17875399039641638646 := 0
def tw2919959130618402092 := 0
def tw17608527758748090076 := 0
def tw16625281105215316733 := 0
def tw3633932050318472438 := 0
def tw3557733140039217487 := 0
def tw6134318181823696784 := 0
def tw9756810834763900377 := 0
def tw11098887295269316552 := 0
def tw12475980019964693373 := 0
def tw15890663444561775480 := 0
def tw15435849753561903398 := 0
def tw1265375119746979161 := 0
def tw10025297985824018832 := 0
def tw7357774534147032284 := 0
def tw15402923428647646726 := 0
def tw11826942119113713850 := 0
def tw3251043691905196653 := 0
def tw16830135093125923486 := 0
def tw3881178568909566091 := 0
def tw5092381220481480126 := 0
def tw14328567034832364622 := 0
def tw16173597814733526366 := 0
def tw252342606380309777 := 0
def tw1368267289509902520 := 0
def tw578215527910481423 := 0
def tw1094281468238413101 := 0
def tw6917821302602307274 := 0
def tw767250849427896338 := 0
def tw6422457519142345381 := 0
def tw17816305006522094084 := 0
def tw6271038581328134556 := 0
def tw15933058305292766342 := 0
def tw9132696528668426568 := 0
def tw16141471119166401552 := 0
def tw4112079482116898938 := 0
def tw12895582241327249769 := 0
def tw18266461421337552826 := 0
def tw1787351189948393777 := 0
def tw2037391171284330273 := 0
def tw322843677344379619 := 0
def tw14855296054554550587 := 0
def tw8708990188867176804 := 0
def tw2626217145456929286 := 0
def tw13856914516835955515 := 0
def tw3032846305922789491 := 0
def tw781820428932621167 := 0
def tw8007338711974295582 := 0
def tw11718896086255149249 := 0
def tw12446587050441300702 := 0
def tw15538542428749223865 := 0
def tw15471990383718459485 := 0
def tw4102291634210012757 := 0
def tw3342584300193927077 := 0
def tw4507524612429924590 := 0
def tw11754313870583780396 := 0
def tw2491509683643480950 := 0
def tw16578926289899408209 := 0
def tw6568958066976290969 := 0
def tw13753652226865467449 := 0
def tw8780585922715347501 := 0
def tw1196122054123113317 := 0
def tw861467355157206990 := 0
def tw4240504194071766687 := 0
def tw12203296676090122937 := 0
def tw12170443523268592018 := 0
def tw18261729006064692052 := 0
def tw15630023892302980517 := 0
def tw17148719289444368140 := 0
def tw14266061125217832767 := 0
def tw10561607194045062780 := 0
def tw4578059168525527705 := 0
def tw3563156359053340531 := 0
def tw6043686745394140931 := 0
def tw7109263379113353727 := 0
def tw4889714060466428023 := 0
def tw8864618640020424907 := 0
def tw15172217933122192422 := 0
def tw17947642868465636959 := 0
def tw16513710301082973820 := 0
def tw3522488692997382823 := 0
def tw5260989310180429159 := 0
def tw2949043919258044745 := 0
def tw5010146029223209056 := 0
def tw3382725676302983831 := 0
def tw15256158421198356729 := 0
def tw15967719375567961163 := 0
def tw3752505777134069297 := 0
def tw6889215215405847545 := 0
def tw11714544117358173301 := 0
def tw11694619602127239521 := 0
def tw1231160941808552976 := 0
def tw14195806993246316583 := 0
def tw3038124345819844279 := 0
def tw7879519260784099429 := 0
def tw4122454826099545087 := 0
def tw7563477559717598774 := 0
def tw16148602055849942743 := 0
def tw10329831017874366091 := 0
def tw16842322840139344620 := 0
def tw4144809460081245167 := 0
def tw2509745959338902372 := 0
def tw5728504942490636120 := 0
def tw12640929817725366678 := 0
def tw16618422526926420297 := 0
def tw9791537477138322545 := 0
def tw11227716416835809012 := 0
def tw13635958428710031735 := 0
def tw1571226457771586391 := 0
def tw6444789923422983003 := 0
def tw6532046304140076399 := 0
def tw14637552066056467125 := 0
def tw13506036697845757861 := 0
def tw773889412014087853 := 0
def tw5062955741393822440 := 0
def tw14842994554024138138 := 0
def tw12718786198500076391 := 0
def tw2718076972025463023 := 0
def tw8320991809659057930 := 0
def tw9194840484340118572 := 0
def tw921144739182582080 := 0
def tw3500729922463425454 := 0
def tw2238798937681622076 := 0
def tw6737449854785061867 := 0
def tw12991141971752165575 := 0
def tw893950941195816508 := 0
def tw7323645391956315651 := 0
def tw9206355947637515341 := 0
def tw13116075828424693071 := 0
def tw1122708743345003316 := 0
def tw16406632259211742811 := 0
def tw1460278486191027034 := 0
def tw12178027649228782914 := 0
def tw668813349352458303 := 0
def tw12935185359733840334 := 0
def tw10746354420844386451 := 0
def tw715851359937909986 := 0
def tw17260388303255137630 := 0
def tw926954123221141972 := 0
def tw11605409929690910743 := 0
def tw10158829760339701033 := 0
def tw12521708522100769408 := 0
def tw10164749782394266738 := 0
def tw14623094857534175857 := 0
def tw3975824977109220807 := 0
def tw9151752573380868648 := 0
def tw8581306097794016301 := 0
def tw16335815009890870034 := 0
def tw9705174420820278175 := 0
def tw7402877751442695977 := 0
def tw14106346560241207241 := 0
def tw18269733958261214286 := 0
def tw216129558371656603 := 0
def tw192340091997273750 := 0
def tw17871906019523748211 := 0
def tw6618721510410369836 := 0
def tw16239640654607560876 := 0
def tw8722486499644066121 := 0
def tw6651451889440880840 := 0
def tw16532268938745111852 := 0
def tw7058122102224565130 := 0
def tw14937851700159198916 := 0
def tw11807271081824196831 := 0
def tw3936801754574557243 := 0
def tw5138250795932986573 := 0
def tw18004009531319883742 := 0
def tw10082934754003599153 := 0
def tw10654778305882620221 := 0
def tw7065105361176975039 := 0
def tw16536563306745103877 := 0
def tw9131533535166673005 := 0
def tw7599258026445903472 := 0
def tw17949312642141958640 := 0
def tw13836101577034640202 := 0
def tw1942722309833661907 := 0
def tw1782156789063617647 := 0
def tw2603710945319080850 := 0
def tw10360409142550129018 := 0
def tw12914336917730493652 := 0
def tw4792712269595301292 := 0
def tw13902565695478645913 := 0
def tw16860839733923729935 := 0
def tw14978720578544182049 := 0
def tw452769796242288350 := 0
def tw17875246114851122189 := 0
def tw13644559962887143377 := 0
def tw15624773497349907702 := 0
def tw241042352115539213 := 0
def tw10764350455226785723 := 0
def tw18221596214576759488 := 0
def tw11033326177499363840 := 0
def tw5315608275172428125 := 0
def tw8304882838970541060 := 0
def tw6998457871038917023 := 0
def tw1307243392090794807 := 0
def tw15626707124891109763 := 0
def tw464924018496947856 := 0
def tw18278179171905285945 := 0
def tw5688080983158213843 := 0
def tw10537259780476419272 := 0
def tw8583317262776761138 := 0
def tw3114689559092499761 := 0
def tw4388541648393987150 := 0
def tw14842029357096545942 := 0
def tw14775900562013907420 := 0
def tw10383257737575273873 := 0
def tw9491368062998193314 := 0
def tw3037520563165593543 := 0
def tw1929113451321921134 := 0
def tw16459712644863210604 := 0
def tw10317999264912359758 := 0
def tw11274505365079198146 := 0
def tw8567329964746975313 := 0
def tw3817842933041773323 := 0
def tw7398700350848504825 := 0
def tw3998375506059428576 := 0
def tw3240911619093386497 := 0
def tw10396122252333895331 := 0
def tw2653432416069991035 := 0
def tw5399486219481029060 := 0
def tw430106820927075285 := 0
def tw14498063216717543840 := 0
def tw4344054664450957481 := 0
def tw3992028105332219374 := 0
def tw9623999047340456830 := 0
def tw4603292299188905016 := 0
def tw5592911736612389996 := 0
def tw4050228399762598683 := 0
def tw14426549020145135788 := 0
def tw4144725755575438850 := 0
def tw14253493348838171800 := 0
def tw16776811836411681772 := 0
def tw17180725154222681626 := 0
def tw18266431614214975847 := 0
def tw3866473824838232439 := 0
def tw9448721580064990150 := 0
def tw2493924818369811318 := 0
def tw16802784526521119719 := 0
def tw3522269470941017769 := 0
def tw10135919013379409276 := 0
def tw11843396263879448503 := 0
def tw2563231492395971769 := 0
def tw17143536518892474436 := 0
def tw1322714838040034172 := 0
def tw2232607058016732345 := 0
def tw2092276035841656883 := 0
def tw10477539290038702220 := 0
def tw6355981225661465568 := 0
def tw1108953061396633705 := 0
def tw6946690092427651163 := 0
def tw10244952476533231061 := 0
def tw3686437794251792012 := 0
end PySem.W.Fast
open PySem PySem.W PyProof.Rows
set_option maxRecDepth 100000 in
set_option maxHeartbeats 0 in
theorem PySem.Challenge.cw_keptops_k17_parts_of_values_holds : PySem.Challenge.rw_keptops_k17_parts_of_values.Holds := by
  w_on; o_law; k_head; (case hw => w_witness2)
  k_fill
  refine MI.walkM (l := PySem.Challenge.rw_keptops_k17_parts_of_values) (k := MI.lv 220) (x := "_law_script") (F := (K17.Tab 220).f .law) (fun _ => rfl) rfl rfl ⟨rfl, by decide, by decide⟩ (fun w h Y => by first | exact PySem.W.kIn_of Y | exact PySem.W.km_in_of Y) ?G K17.law_true
  case G =>
    intro w mg fa h KX G hmg
    refine Exists.elim (K17.law_at (cs := []) ?D ?T ?B 219 hmg) fun fd z => ⟨fd, z.1, fun base => z.2 base (fun _ hp => nomatch hp)⟩
    case D =>
      refine ⟨?d0, ?d1, ?d2, ?d3, ?d4, ?d5, ?d6, ?d7, ?d8, ?d9, ?d10, ?d11, ?d12, ?d13, ?d14, ?d15, ?d16, ?d17, ?d18, ?d19, ?d20, ?d21, ?d22, ?d23, ?d24, ?d25, ?d26⟩
      (case d0 => refine' MI.def_mk KX G ?a ?l ?c ?k (fun _ _ _ _ _ _ us hl => match us, hl with | [_], _ => rfl); (case a => k_is); (case l => k_is); (case c => k_is); (case k => k_is))
      (case d1 => refine' MI.def_mk KX G ?a ?l ?c ?k (fun _ _ _ _ _ _ us hl => match us, hl with | [_], _ => rfl); (case a => k_is); (case l => k_is); (case c => k_is); (case k => k_is))
      (case d2 => refine' MI.def_mk KX G ?a ?l ?c ?k (fun _ _ _ _ _ _ us hl => match us, hl with | [_], _ => rfl); (case a => k_is); (case l => k_is); (case c => k_is); (case k => k_is))
      (case d3 => refine' MI.def_mk KX G ?a ?l ?c ?k (fun _ _ _ _ _ _ us hl => match us, hl with | [_], _ => rfl); (case a => k_is); (case l => k_is); (case c => k_is); (case k => k_is))
      (case d4 => refine' MI.def_mk KX G ?a ?l ?c ?k (fun _ _ _ _ _ _ us hl => match us, hl with | [_, _, _], _ => rfl); (case a => k_is); (case l => k_is); (case c => k_is); (case k => k_is))
      (case d5 => refine' MI.def_mk KX G ?a ?l ?c ?k (fun _ _ _ _ _ _ us hl => match us, hl with | [_], _ => rfl); (case a => k_is); (case l => k_is); (case c => k_is); (case k => k_is))
      (case d6 => refine' MI.def_mk KX G ?a ?l ?c ?k (fun _ _ _ _ _ _ us hl => match us, hl with | [_], _ => rfl); (case a => k_is); (case l => k_is); (case c => k_is); (case k => k_is))
      (case d7 => refine' MI.def_mk KX G ?a ?l ?c ?k (fun _ _ _ _ _ _ us hl => match us, hl with | [_], _ => rfl); (case a => k_is); (case l => k_is); (case c => k_is); (case k => k_is))
      (case d8 => refine' MI.def_mk KX G ?a ?l ?c ?k (fun _ _ _ _ _ _ us hl => match us, hl with | [_], _ => rfl); (case a => k_is); (case l => k_is); (case c => k_is); (case k => k_is))
      (case d9 => refine' MI.def_mk KX G ?a ?l ?c ?k (fun _ _ _ _ _ _ us hl => match us, hl with | [_, _], _ => rfl); (case a => k_is); (case l => k_is); (case c => k_is); (case k => k_is))
      (case d10 => refine' MI.def_mk KX G ?a ?l ?c ?k (fun _ _ _ _ _ _ us hl => match us, hl with | [_], _ => rfl); (case a => k_is); (case l => k_is); (case c => k_is); (case k => k_is))
      (case d11 => refine' MI.def_mk KX G ?a ?l ?c ?k (fun _ _ _ _ _ _ us hl => match us, hl with | [_, _], _ => rfl); (case a => k_is); (case l => k_is); (case c => k_is); (case k => k_is))
      (case d12 => refine' MI.def_mk KX G ?a ?l ?c ?k (fun _ _ _ _ _ _ us hl => match us, hl with | [_, _], _ => rfl); (case a => k_is); (case l => k_is); (case c => k_is); (case k => k_is))
      (case d13 => refine' MI.def_mk KX G ?a ?l ?c ?k (fun _ _ _ _ _ _ us hl => match us, hl with | [_, _], _ => rfl); (case a => k_is); (case l => k_is); (case c => k_is); (case k => k_is))
      (case d14 => refine' MI.def_mk KX G ?a ?l ?c ?k (fun _ _ _ _ _ _ us hl => match us, hl with | [_, _, _], _ => rfl); (case a => k_is); (case l => k_is); (case c => k_is); (case k => k_is))
      (case d15 => refine' MI.def_mk KX G ?a ?l ?c ?k (fun _ _ _ _ _ _ us hl => match us, hl with | [_, _, _], _ => rfl); (case a => k_is); (case l => k_is); (case c => k_is); (case k => k_is))
      (case d16 => refine' MI.def_mk KX G ?a ?l ?c ?k (fun _ _ _ _ _ _ us hl => match us, hl with | [_], _ => rfl); (case a => k_is); (case l => k_is); (case c => k_is); (case k => k_is))
      (case d17 => refine' MI.def_mk KX G ?a ?l ?c ?k (fun _ _ _ _ _ _ us hl => match us, hl with | [_], _ => rfl); (case a => k_is); (case l => k_is); (case c => k_is); (case k => k_is))
      (case d18 => refine' MI.def_mk KX G ?a ?l ?c ?k (fun _ _ _ _ _ _ us hl => match us, hl with | [_], _ => rfl); (case a => k_is); (case l => k_is); (case c => k_is); (case k => k_is))
      (case d19 => refine' MI.def_mk KX G ?a ?l ?c ?k (fun _ _ _ _ _ _ us hl => match us, hl with | [_], _ => rfl); (case a => k_is); (case l => k_is); (case c => k_is); (case k => k_is))
      (case d20 => refine' MI.def_mk KX G ?a ?l ?c ?k (fun _ _ _ _ _ _ us hl => match us, hl with | [_, _], _ => rfl); (case a => k_is); (case l => k_is); (case c => k_is); (case k => k_is))
      (case d21 => refine' MI.def_mk KX G ?a ?l ?c ?k (fun _ _ _ _ _ _ us hl => match us, hl with | [_, _], _ => rfl); (case a => k_is); (case l => k_is); (case c => k_is); (case k => k_is))
      (case d22 => refine' MI.def_mk KX G ?a ?l ?c ?k (fun _ _ _ _ _ _ us hl => match us, hl with | [_], _ => rfl); (case a => k_is); (case l => k_is); (case c => k_is); (case k => k_is))
      (case d23 => refine' MI.ini_mk KX G ?a ?i ?fn ?mk ?kp ?l ?c ?k (fun _ _ _ _ _ _ us hl => match us, hl with | [_, _], _ => rfl); (case a => k_is); (case i => k_is); (case fn => k_is); (case mk => k_is); (case kp => k_is); (case l => k_is); (case c => k_is); (case k => k_is))
      (case d24 => refine' MI.prp_mk ?a ?i ?ge ?tk ?rc ?pg ?hd ?po ?sa ?l ?c ?k (fun _ _ _ _ _ _ us hl => match us, hl with | [_], _ => rfl); (case a => k_is); (case i => k_is); (case ge => k_is); (case tk => k_is); (case rc => k_is); (case pg => k_is); (case hd => k_is); (case po => k_is); (case sa => k_is); (case l => k_is); (case c => k_is); (case k => k_is))
      (case d25 => refine' MI.mth_mk ?a ?i ?fn ?pg ?hd ?po ?sa ?l ?c ?k (fun _ _ _ _ _ _ us hl => match us, hl with | [_, _], _ => rfl); (case a => k_is); (case i => k_is); (case fn => k_is); (case pg => k_is); (case hd => k_is); (case po => k_is); (case sa => k_is); (case l => k_is); (case c => k_is); (case k => k_is))
      (case d26 => refine' MI.mth_mk ?a ?i ?fn ?pg ?hd ?po ?sa ?l ?c ?k (fun _ _ _ _ _ _ us hl => match us, hl with | [_, _], _ => rfl); (case a => k_is); (case i => k_is); (case fn => k_is); (case pg => k_is); (case hd => k_is); (case po => k_is); (case sa => k_is); (case l => k_is); (case c => k_is); (case k => k_is))
    case T =>
      refine ⟨?t0, ?t1, ?t2, ?t3, ?t4, ?t5, ?t6, ?t7, ?t8, ?t9, ?t10, ?t11, ?t12, ?t13, ?t14, ?t15, ?t16, ?t17, ?t18, ?t19, ?t20, ?t21, ?t22, ?t23, ?t24, ?t25, ?t26, ?t27⟩
      (case t0 => (refine' PySem.W.mg_none_of KX G ?a; (case a => k_is)))
      (case t1 => (refine' PySem.W.mg_none_of KX G ?a; (case a => k_is)))
      (case t2 => (refine' PySem.W.mg_none_of KX G ?a; (case a => k_is)))
      (case t3 => (refine' PySem.W.mg_none_of KX G ?a; (case a => k_is)))
      (case t4 => (refine' PySem.W.mg_none_of KX G ?a; (case a => k_is)))
      (case t5 => (refine' PySem.W.mg_none_of KX G ?a; (case a => k_is)))
      (case t6 => (refine' PySem.W.mg_none_of KX G ?a; (case a => k_is)))
      (case t7 => (refine' PySem.W.mg_none_of KX G ?a; (case a => k_is)))
      (case t8 => (refine' PySem.W.mg_none_of KX G ?a; (case a => k_is)))
      (case t9 => (refine' PySem.W.mg_none_of KX G ?a; (case a => k_is)))
      (case t10 => (refine' PySem.W.mg_none_of KX G ?a; (case a => k_is)))
      (case t11 => (refine' MI.con_any 3 KX G ?a ?e; (case a => k_is); (case e => rfl)))
      (case t12 => (refine' MI.con_any 3 KX G ?a ?e; (case a => k_is); (case e => rfl)))
      (case t13 => (refine' MI.con_any 3 KX G ?a ?e; (case a => k_is); (case e => rfl)))
      (case t14 => (refine' MI.con_any 3 KX G ?a ?e; (case a => k_is); (case e => rfl)))
      (case t15 => (refine' MI.con_any 3 KX G ?a ?e; (case a => k_is); (case e => rfl)))
      (case t16 => (refine' MI.con_any 3 KX G ?a ?e; (case a => k_is); (case e => rfl)))
      (case t17 => (refine' MI.con_any 3 KX G ?a ?e; (case a => k_is); (case e => rfl)))
      (case t18 => (refine' MI.con_any 3 KX G ?a ?e; (case a => k_is); (case e => rfl)))
      (case t19 => (refine' MI.con_any 3 KX G ?a ?e; (case a => k_is); (case e => rfl)))
      (case t20 => (refine' MI.tab_mk KX G ?a ?l ?c ?e ?z; (case a => k_is); (case l => k_is); (case c => repeat (first | exact True.intro | refine ⟨⟨_, _, rfl, rfl⟩, ?_⟩)); (case e => rfl); (case z => rfl)))
      (case t21 => (refine' MI.exf_mk KX G ?a ?b ?c ?d ?e; (case a => k_is); (case b => k_exc); (case c => k_is); (case d => k_is); (case e => k_is)))
      (case t22 => (refine' MI.exf_mk KX G ?a ?b ?c ?d ?e; (case a => k_is); (case b => k_exc); (case c => k_is); (case d => k_is); (case e => k_is)))
      (case t23 => (refine' MI.hnd_mk KX G ?a ?e; (case a => k_is); (case e => rfl)))
      (case t24 => (refine' MI.isx_own KX G ?a ?e; (case a => k_is); (case e => rfl)))
      (case t25 => (refine' MI.isx_own KX G ?a ?e; (case a => k_is); (case e => rfl)))
      (case t26 => (refine' MI.iso_mk KX G ?a ?e; (case a => k_is); (case e => rfl)))
      (case t27 => (refine' MI.fld_mk ?a ?pg ?hd ?po ?sa ?n; (case a => k_is); (case pg => k_is); (case hd => k_is); (case po => k_is); (case sa => k_is); (case n => k_is)))
    case B =>
      intro base tb
      refine ⟨⟩
